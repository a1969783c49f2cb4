/-
  What the text behind the last one leans on, part 2.
-/
import Derived.Deep.DeepCutAuto
import Derived.Handy
import Derived.Test.YtjogfjgkabjcfaaGreatSLdLawZ1
set_option maxRecDepth 20000
set_option maxHeartbeats 40000000
namespace Go.Proofs.YtjogfjgkabjcfaaGreat
namespace Lm
open Go Go.RowKit
section
variable {dst:Option Tmp} {ty:TypeId} {pos:String} {after:Array Edge} {guard:Option (Nat×Bool)} {a:Act} {w:World} {ats:Array TypeId} {i j:Nat}
theorem asd:Has Tryz.prog 118:=by unfold Has;kernel_rfl
theorem ao9{ax ay:Option Addr}{mx cx my cy:Nat}{zs:List Int}(h1:a.eval (.tmp i)=.slice ax mx cx)(h2:a.eval (.tmp j)=.slice ay my cy)(S1:Sl w (.slice ax mx cx) zs)(S2:Sl w (.slice ay my cy) zs):
  Does Tryz.prog {dst,op:=.call {callee:=.value (.func 118),args:=#[.tmp i,.tmp j],argTypes:=ats},type:=ty,pos,after,guard} a.eval w fun v w'=>Below w.heap.size w w'/\Eqs (.bool true) v w':=by
 refine aah asd _ (by simp only[List.map_toArray,List.map_cons,List.map_nil,h1,h2]) ((al9 w _ _ _ _ _ _ zs zs S1 S2).mono ?_);rintro e w' ⟨rfl,hb⟩;exact⟨_,rfl,hb,by rw[arr];rfl⟩
end
theorem aur(w:World)(nx:Bool)(ax ay:Option Addr)(mx cx my cy:Nat)(zs:List Int)(Tx:Sl w (.slice ax mx cx) zs)(Ty:Sl w (.slice ay my cy) zs):
  Calls Tryz.prog 106 #[.agg #[.bool nx,.slice ax mx cx],.agg #[.bool nx,.slice ay my cy]] w fun e w'=>e=.returned (.bool true)/\Below w.heap.size w w':=by
 go_enter Tryz.func106,Tryz.ntmps106
 generalize hA:(Act.mk _ _)=aa;have hn:aa.tmps.size=17:=by rw[<-hA];rfl
 have hd:aa.defers = []:=by rw[<-hA]
 have f0:aa.eval (.tmp 0)=.agg #[.bool nx,.slice ax mx cx]:=by rw[<-hA];rfl
 have f1:aa.eval (.tmp 1)=.agg #[.bool nx,.slice ay my cy]:=by rw[<-hA];rfl
 clear hA;have HB:Below w.heap.size w w:=Below.refl _ _;refine wp_seq ?_;refine aa2 [some 2,some 3,some 4] [(fun _ _=>True),(fun _ _=>True),Eqs ((.bool false))] [⟨W2,some 0,0,2,.agg #[.bool nx,.slice ax mx cx],none,[]⟩,⟨W2,some 1,0,3,.agg #[.bool nx,.slice ay my cy],none,[]⟩] [] (by kernel_rfl) hn rfl (by kernel_rfl) (by kernel_rfl) (by kernel_rfl) (by kernel_rfl) (by kernel_rfl) (by kernel_rfl) ⟨True.mono4,True.mono4,Eqs.mono4 _,trivial⟩ (aaz W2ok (aaz W2ok aa8)) (IsOld.all (bx:=[⟨W2,some 0,0,2,.agg #[.bool nx,.slice ax mx cx],none,[]⟩,⟨W2,some 1,0,3,.agg #[.bool nx,.slice ay my cy],none,[]⟩]) ⟨someNe,someNe,trivial⟩) (DisOld.all (bx:=[⟨W2,some 0,0,2,.agg #[.bool nx,.slice ax mx cx],none,[]⟩,⟨W2,some 1,0,3,.agg #[.bool nx,.slice ay my cy],none,[]⟩]) ⟨someNe,someNe,trivial⟩) ?_ ?_
 ·exact⟨.alloc 0 _ rfl rfl (.inr ⟨_,rfl,agh,fun a_ hR=>(hR 0 rfl).trans f0⟩) rfl rfl rfl rfl rfl,
   .alloc 1 _ rfl rfl (.inr ⟨_,rfl,agh,fun a_ hR=>(hR 1 rfl).trans f1⟩) rfl rfl rfl rfl rfl,
   .norm 4 rfl rfl rfl (fun a_ w_ hn_ hBt hr hR hD hO hS=>ab4 rfl),
   trivial⟩
 intro a1 w1 gs1 hn1 hd1 hBt hr hR hP hX hU;replace hn:=hn1;replace hd:=hd1.trans hd;have b2:BoxV W2 w1 (gs1 0) (.agg #[.bool nx,.slice ax mx cx]):=(hX 0 _ rfl).2.2.2;have f2:=(hX 0 _ rfl).1;have u2:w.heap.size<=gs1 0:=Nat.le_trans HB.size ((hX 0 _ rfl).2.2.1 (by simp));have b3:BoxV W2 w1 (gs1 1) (.agg #[.bool nx,.slice ay my cy]):=(hX 1 _ rfl).2.2.2;have f3:=(hX 1 _ rfl).1;have u3:w.heap.size<=gs1 1:=Nat.le_trans HB.size ((hX 1 _ rfl).2.2.1 (by simp));have e4:a1.eval (.tmp 4)=(.bool false):=hP 2 (by decide);have f4:=e4;replace Tx:=Tx.rl hr;replace Ty:=Ty.rl hr;replace HB:=HB.trans (hBt.below HB.size (UpOld.all (bx:=[⟨W2,some 0,0,2,.agg #[.bool nx,.slice ax mx cx],none,[]⟩,⟨W2,some 1,0,3,.agg #[.bool nx,.slice ay my cy],none,[]⟩]) ⟨someNe,someNe,trivial⟩));clear hBt hr hR hP hX hU;refine wp_seq ?_;refine aa2 [some 5,some 6,some 7,some 8,some 9,some 10,some 11,some 12,some 13,some 14,some 15,some 16,some 4] [Eqs (.pointer (some ⟨gs1 0,0,none⟩)),Eqs (.bool nx),Eqs (.pointer (some ⟨gs1 1,0,none⟩)),Eqs (.bool nx),Eqs (.bool true),Eqs (.bool true),Eqs (.pointer (some ⟨gs1 0,1,none⟩)),Eqs (.slice ax mx cx),Eqs (.pointer (some ⟨gs1 1,1,none⟩)),Eqs (.slice ay my cy),Eqs (.bool true),Eqs (.bool true),Eqs (.bool true)] [] [] (by kernel_rfl) hn rfl (by kernel_rfl) (by kernel_rfl) (by kernel_rfl) (by kernel_rfl) (by kernel_rfl) (by kernel_rfl) ⟨Eqs.mono4 _,Eqs.mono4 _,Eqs.mono4 _,Eqs.mono4 _,Eqs.mono4 _,Eqs.mono4 _,Eqs.mono4 _,Eqs.mono4 _,Eqs.mono4 _,Eqs.mono4 _,Eqs.mono4 _,Eqs.mono4 _,Eqs.mono4 _,trivial⟩ aa8 (IsOld.all (bx:=[]) trivial) (DisOld.all (bx:=[]) trivial) ?_ ?_
 ·exact⟨.norm 5 rfl rfl rfl (fun a_ w_ hn_ hBt hr hR hD hO hS=>agf at1 ((hR 2 rfl).trans f2)),
   .norm 6 rfl rfl rfl (fun a_ w_ hn_ hBt hr hR hD hO hS=>aml (show a_.eval (.tmp 5)=.pointer (some ⟨gs1 0,0,none⟩)from hD 0 rfl) (b2.keep hBt trivial)),
   .norm 7 rfl rfl rfl (fun a_ w_ hn_ hBt hr hR hD hO hS=>agf at1 ((hR 3 rfl).trans f3)),
   .norm 8 rfl rfl rfl (fun a_ w_ hn_ hBt hr hR hD hO hS=>aml (show a_.eval (.tmp 7)=.pointer (some ⟨gs1 1,0,none⟩)from hD 2 rfl) (b3.keep hBt trivial)),
   .norm 9 rfl rfl rfl (fun a_ w_ hn_ hBt hr hR hD hO hS=>axm (show a_.eval (.tmp 6)=.bool nx from hD 1 rfl) (show a_.eval (.tmp 8)=.bool nx from hD 3 rfl)),
   .norm 10 rfl rfl rfl (fun a_ w_ hn_ hBt hr hR hD hO hS=>aal (show a_.eval (.tmp 9)=.bool true from hD 4 rfl)),
   .norm 11 rfl rfl rfl (fun a_ w_ hn_ hBt hr hR hD hO hS=>⟨⟨_,rfl⟩,fun _=>agf ahb ((hR 2 rfl).trans f2),fun hne=>absurd (hD 5 rfl) hne⟩),
   .norm 12 rfl rfl rfl (fun a_ w_ hn_ hBt hr hR hD hO hS=>⟨⟨_,rfl⟩,fun _=>amm (show a_.eval (.tmp 11)=.pointer (some ⟨gs1 0,1,none⟩)from hD 6 rfl) (b2.keep hBt trivial),fun hne=>absurd (hD 5 rfl) hne⟩),
   .norm 13 rfl rfl rfl (fun a_ w_ hn_ hBt hr hR hD hO hS=>⟨⟨_,rfl⟩,fun _=>agf ahb ((hR 3 rfl).trans f3),fun hne=>absurd (hD 5 rfl) hne⟩),
   .norm 14 rfl rfl rfl (fun a_ w_ hn_ hBt hr hR hD hO hS=>⟨⟨_,rfl⟩,fun _=>amm (show a_.eval (.tmp 13)=.pointer (some ⟨gs1 1,1,none⟩)from hD 8 rfl) (b3.keep hBt trivial),fun hne=>absurd (hD 5 rfl) hne⟩),
   .norm 15 rfl rfl rfl (fun a_ w_ hn_ hBt hr hR hD hO hS=>⟨⟨_,rfl⟩,fun _=>ao9 (show a_.eval (.tmp 12)=.slice ax mx cx from hD 7 rfl) (show a_.eval (.tmp 14)=.slice ay my cy from hD 9 rfl) (Tx.rl hr) (Ty.rl hr),fun hne=>absurd (hD 5 rfl) hne⟩),
   .norm 16 rfl rfl rfl (fun a_ w_ hn_ hBt hr hR hD hO hS=>aw1 (show a_.eval (.tmp 10)=.bool true from hD 5 rfl) (show a_.eval (.tmp 15)=.bool true from hD 10 rfl)),
   .norm 4 rfl rfl rfl (fun a_ w_ hn_ hBt hr hR hD hO hS=>ab4 (show a_.eval (.tmp 16)=.bool true from hD 11 rfl)),
   trivial⟩
 intro a2 w2 gs2 hn2 hd2 hBt hr hR hP hX hU;replace hn:=hn2;replace hd:=hd2.trans hd;have e4:a2.eval (.tmp 4)=.bool true:=hP 12 (by decide);have f4:=e4;replace Tx:=Tx.rl hr;replace Ty:=Ty.rl hr;replace HB:=HB.trans (hBt.below HB.size (UpOld.all (bx:=[]) trivial));clear hBt hr hR hP hX hU;refine wp_ret ?_;repeat(first|refine adb ?_|refine acf ?_|refine acx ?_)
 exact bodyPost_ret (v:=.bool true) (ah1 rfl f4) hd ⟨rfl,HB⟩
section
variable {dst:Option Tmp} {ty:TypeId} {pos:String} {after:Array Edge} {guard:Option (Nat×Bool)} {a:Act} {w:World} {ats:Array TypeId} {i j:Nat}
theorem ase{nx ny:Bool}{ax ay:Option Addr}{mx cx my cy:Nat}{xs ys:List Int}(h1:a.eval (.tmp i)=.agg #[.bool nx,.slice ax mx cx])(h2:a.eval (.tmp j)=.agg #[.bool ny,.slice ay my cy])(S1:Sl w (.slice ax mx cx) xs)(S2:Sl w (.slice ay my cy) ys)(hn:nx=ny)(hz:xs=ys):
  Does Tryz.prog {dst,op:=.call {callee:=.value (.func 106),args:=#[.tmp i,.tmp j],argTypes:=ats},type:=ty,pos,after,guard} a.eval w fun v w'=>Below w.heap.size w w'/\Eqs (.bool true) v w':=by
 subst hn hz;refine aah awz _ (by simp only[List.map_toArray,List.map_cons,List.map_nil,h1,h2]) ((aur w nx _ _ _ _ _ _ xs S1 S2).mono ?_);rintro e w' ⟨rfl,hb⟩;exact⟨_,rfl,hb,rfl⟩
end
def WE.raw(e:WE):Bool×List Int:=(e.ng,e.zs)
def SameR(es fs:List WE):Prop:=es.map WE.raw=fs.map WE.raw
theorem SameR.len{es fs:List WE}(h:SameR es fs):es.length=fs.length:=by simpa using congrArg List.length h
theorem SameR.at{es fs:List WE}(h:SameR es fs){k:Nat}{e f:WE}(he:es[k]? = some e)(hf:fs[k]? = some f):e.ng=f.ng/\e.zs=f.zs:=by
 have h1:=congrArg (fun l=>l[k]?) h;simp only[List.getElem?_map,he,hf,Option.map_some,Option.some.injEq,WE.raw,Prod.mk.injEq]at h1;exact h1
theorem aus(w:World)(ax:Option Addr)(mx cx:Nat)(xs:List WE)(Rx0:Rw w (.slice ax mx cx) xs)(ay:Option Addr)(my cy:Nat)(ys:List WE)(Ry0:Rw w (.slice ay my cy) ys)(hS:SameR xs ys):
  Calls Tryz.prog 83 #[.slice ax mx cx,.slice ay my cy] w fun e w'=>e=.returned (.bool true)/\Below w.heap.size w w':=by
 go_enter Tryz.func83,Tryz.ntmps83
 generalize hA:(Act.mk _ _)=aa;have hn:aa.tmps.size=27:=by rw[<-hA];rfl
 have hd:aa.defers = []:=by rw[<-hA]
 have f0:aa.eval (.tmp 0)=.slice ax mx cx:=by rw[<-hA];rfl
 have f1:aa.eval (.tmp 1)=.slice ay my cy:=by rw[<-hA];rfl
 clear hA;have HB:Below w.heap.size w w:=Below.refl _ _;have px:=Rx0.parts;have py:=Ry0.parts;have hSl:=hS.len;refine wp_seq ?_;refine aa2 [some 4] [Eqs ((.bool false))] [] [] (by kernel_rfl) hn rfl (by kernel_rfl) (by kernel_rfl) (by kernel_rfl) (by kernel_rfl) (by kernel_rfl) (by kernel_rfl) ⟨Eqs.mono4 _,trivial⟩ aa8 (IsOld.all (bx:=[]) trivial) (DisOld.all (bx:=[]) trivial) ?_ ?_
 ·exact⟨.norm 4 rfl rfl rfl (fun a_ w_ hn_ hBt hr hR hD hO hS=>ab4 rfl),
   trivial⟩
 intro a1 w1 gs1 hn1 hd1 hBt hr hR hP hX hU;replace hn:=hn1;replace hd:=hd1.trans hd;replace f0:=(hR 0 rfl).trans f0;replace f1:=(hR 1 rfl).trans f1;have e4:a1.eval (.tmp 4)=(.bool false):=hP 0 (by decide);have f4:=e4;replace HB:=HB.trans (hBt.below HB.size (UpOld.all (bx:=[]) trivial));clear hBt hr hR hP hX hU;refine wp_seq ?_;refine wp_seq ?_;refine aa2 [some 6,some 7,some 8,some 9,some 10] [Eqs (.slice ax mx cx),Eqs (.int .i64 (mx:Int)),Eqs (.slice ay my cy),Eqs (.int .i64 (my:Int)),Eqs (.bool false)] [] [] (by kernel_rfl) hn rfl (by kernel_rfl) (by kernel_rfl) (by kernel_rfl) (by kernel_rfl) (by kernel_rfl) (by kernel_rfl) ⟨Eqs.mono4 _,Eqs.mono4 _,Eqs.mono4 _,Eqs.mono4 _,Eqs.mono4 _,trivial⟩ aa8 (IsOld.all (bx:=[]) trivial) (DisOld.all (bx:=[]) trivial) ?_ ?_
 ·exact⟨.norm 6 rfl rfl rfl (fun a_ w_ hn_ hBt hr hR hD hO hS=>aal ((hR 0 rfl).trans f0)),
   .norm 7 rfl rfl rfl (fun a_ w_ hn_ hBt hr hR hD hO hS=>akf (show a_.eval (.tmp 6)=.slice ax mx cx from hD 0 rfl)),
   .norm 8 rfl rfl rfl (fun a_ w_ hn_ hBt hr hR hD hO hS=>aal ((hR 1 rfl).trans f1)),
   .norm 9 rfl rfl rfl (fun a_ w_ hn_ hBt hr hR hD hO hS=>akf (show a_.eval (.tmp 8)=.slice ay my cy from hD 2 rfl)),
   .norm 10 rfl rfl rfl (fun a_ w_ hn_ hBt hr hR hD hO hS=>a0s (show a_.eval (.tmp 7)=.int .i64 (mx:Int)from hD 1 rfl) (show a_.eval (.tmp 9)=.int .i64 (my:Int)from hD 3 rfl) (by omega)),
   trivial⟩
 intro a2 w2 gs2 hn2 hd2 hBt hr hR hP hX hU;replace hn:=hn2;replace hd:=hd2.trans hd;replace f0:=(hR 0 rfl).trans f0;replace f1:=(hR 1 rfl).trans f1;replace f4:=(hR 4 rfl).trans f4;have e10:a2.eval (.tmp 10)=.bool false:=hP 4 (by decide);have f10:=e10;replace HB:=HB.trans (hBt.below HB.size (UpOld.all (bx:=[]) trivial));clear hBt hr hR hP hX hU;refine wp_cond_false f10 ?_;refine wp_skip ?_;refine wp_seq ?_;refine wp_seq ?_;refine aa2 [some 5] [Eqs ((.int .i64 0))] [] [] (by kernel_rfl) hn rfl (by kernel_rfl) (by kernel_rfl) (by kernel_rfl) (by kernel_rfl) (by kernel_rfl) (by kernel_rfl) ⟨Eqs.mono4 _,trivial⟩ aa8 (IsOld.all (bx:=[]) trivial) (DisOld.all (bx:=[]) trivial) ?_ ?_
 ·exact⟨.norm 5 rfl rfl rfl (fun a_ w_ hn_ hBt hr hR hD hO hS=>ab4 rfl),
   trivial⟩
 intro a3 w3 gs3 hn3 hd3 hBt hr hR hP hX hU;replace hn:=hn3;replace hd:=hd3.trans hd;replace f0:=(hR 0 rfl).trans f0;replace f1:=(hR 1 rfl).trans f1;replace f4:=(hR 4 rfl).trans f4;have e5:a3.eval (.tmp 5)=(.int .i64 0):=hP 0 (by decide);have f5:=e5;replace HB:=HB.trans (hBt.below HB.size (UpOld.all (bx:=[]) trivial));clear hBt hr hR hP hX hU;refine wp_block ?_;refine wp_loop_ghost (fun n a w'=>a.tmps.size=27/\a.defers = []/\a.eval (.tmp 0)=.slice ax mx cx/\a.eval (.tmp 1)=.slice ay my cy/\Below w.heap.size w w'/\∃k:Nat,k+n=xs.length/\a.eval (.tmp 5)=.int .i64 (k:Int)) xs.length ⟨hn,hd,f0,f1,HB,0,by omega,f5⟩ ?_;clear hn hd HB f0 f1 f4 f5;rintro nL aL wL ⟨hn,hd,f0,f1,HB,kL,hk,f5⟩;refine wp_seq ?_;refine wp_seq ?_;refine aa2 [some 11,some 12,some 13,some 14] [Eqs (.int .i64 (kL:Int)),Eqs (.slice ax mx cx),Eqs (.int .i64 (mx:Int)),Eqs (.bool (decide ((kL:Int)<(mx:Int))))] [] [] (by kernel_rfl) hn rfl (by kernel_rfl) (by kernel_rfl) (by kernel_rfl) (by kernel_rfl) (by kernel_rfl) (by kernel_rfl) ⟨Eqs.mono4 _,Eqs.mono4 _,Eqs.mono4 _,Eqs.mono4 _,trivial⟩ aa8 (IsOld.all (bx:=[]) trivial) (DisOld.all (bx:=[]) trivial) ?_ ?_
 ·exact⟨.norm 11 rfl rfl rfl (fun a_ w_ hn_ hBt hr hR hD hO hS=>aal ((hR 5 rfl).trans f5)),
   .norm 12 rfl rfl rfl (fun a_ w_ hn_ hBt hr hR hD hO hS=>aal ((hR 0 rfl).trans f0)),
   .norm 13 rfl rfl rfl (fun a_ w_ hn_ hBt hr hR hD hO hS=>akf (show a_.eval (.tmp 12)=.slice ax mx cx from hD 1 rfl)),
   .norm 14 rfl rfl rfl (fun a_ w_ hn_ hBt hr hR hD hO hS=>a0r (show a_.eval (.tmp 11)=.int .i64 (kL:Int)from hD 0 rfl) (show a_.eval (.tmp 13)=.int .i64 (mx:Int)from hD 2 rfl)),
   trivial⟩
 intro a4 w4 gs4 hn4 hd4 hBt hr hR hP hX hU;replace hn:=hn4;replace hd:=hd4.trans hd;replace f0:=(hR 0 rfl).trans f0;replace f1:=(hR 1 rfl).trans f1;replace f5:=(hR 5 rfl).trans f5;have e14:a4.eval (.tmp 14)=.bool (decide ((kL:Int)<(mx:Int))):=hP 3 (by decide);have f14:=e14;replace HB:=HB.trans (hBt.below HB.size (UpOld.all (bx:=[]) trivial));clear hBt hr hR hP hX hU;refine wp_cond_split f14 (fun hc14=>?_) (fun hc14=>?_)
 ·skip;have hlt:=of_decide_eq_true hc14;obtain⟨bx_,ox_,hax,_,_⟩:=Rx0.cells (by omega);obtain⟨ex,hex⟩:∃e,xs[kL]? = some e:=⟨_,List.getElem?_eq_getElem (by omega)⟩;have Ax0:=Rx0.ag (List.mem_of_getElem? hex);have Ax:=Ax0.below HB;have lx:=Ax.sl.parts.1;obtain⟨by_,oy_,hay,_,_⟩:=Ry0.cells (by omega);obtain⟨ey,hey⟩:∃e,ys[kL]? = some e:=⟨_,List.getElem?_eq_getElem (by omega)⟩;have Ay0:=Ry0.ag (List.mem_of_getElem? hey);have Ay:=Ay0.below HB;have ly:=Ay.sl.parts.1;have hsm:=hS.at hex hey;refine wp_skip ?_;refine wp_seq ?_;refine wp_block ?_;refine wp_seq ?_;refine aa2 [some 17,some 18,some 19,some 20,some 21,some 22,some 23,some 24,some 25,some 26] [Eqs (.slice ax mx cx),Eqs (.int .i64 (kL:Int)),Eqs (.pointer (some ⟨bx_,ox_+kL*2,none⟩)),Eqs (.agg #[.bool ex.ng,.slice ex.a ex.m ex.c]),Eqs (.slice ay my cy),Eqs (.int .i64 (kL:Int)),Eqs (.pointer (some ⟨by_,oy_+kL*2,none⟩)),Eqs (.agg #[.bool ey.ng,.slice ey.a ey.m ey.c]),Eqs (.bool true),Eqs (.bool false)] [] [] (by kernel_rfl) hn rfl (by kernel_rfl) (by kernel_rfl) (by kernel_rfl) (by kernel_rfl) (by kernel_rfl) (by kernel_rfl) ⟨Eqs.mono4 _,Eqs.mono4 _,Eqs.mono4 _,Eqs.mono4 _,Eqs.mono4 _,Eqs.mono4 _,Eqs.mono4 _,Eqs.mono4 _,Eqs.mono4 _,Eqs.mono4 _,trivial⟩ aa8 (IsOld.all (bx:=[]) trivial) (DisOld.all (bx:=[]) trivial) ?_ ?_
  ·exact⟨.norm 17 rfl rfl rfl (fun a_ w_ hn_ hBt hr hR hD hO hS=>aal ((hR 0 rfl).trans f0)),
    .norm 18 rfl rfl rfl (fun a_ w_ hn_ hBt hr hR hD hO hS=>aal ((hR 5 rfl).trans f5)),
    .norm 19 rfl rfl rfl (fun a_ w_ hn_ hBt hr hR hD hO hS=>abm (show a_.eval (.tmp 17)=.slice ax mx cx from hD 0 rfl) hax (show a_.eval (.tmp 18)=.int .i64 (kL:Int)from hD 1 rfl) (by omega)),
    .norm 20 rfl rfl rfl (fun a_ w_ hn_ hBt hr hR hD hO hS=>aup (show a_.eval (.tmp 19)=.pointer (some ⟨bx_,ox_+kL*2,none⟩)from hD 2 rfl) hax (Rx0.below (HB.trans (hBt.below HB.size (UpOld.all (bx:=[]) trivial)))) hex),
    .norm 21 rfl rfl rfl (fun a_ w_ hn_ hBt hr hR hD hO hS=>aal ((hR 1 rfl).trans f1)),
    .norm 22 rfl rfl rfl (fun a_ w_ hn_ hBt hr hR hD hO hS=>aal ((hR 5 rfl).trans f5)),
    .norm 23 rfl rfl rfl (fun a_ w_ hn_ hBt hr hR hD hO hS=>abm (show a_.eval (.tmp 21)=.slice ay my cy from hD 4 rfl) hay (show a_.eval (.tmp 22)=.int .i64 (kL:Int)from hD 5 rfl) (by omega)),
    .norm 24 rfl rfl rfl (fun a_ w_ hn_ hBt hr hR hD hO hS=>aup (show a_.eval (.tmp 23)=.pointer (some ⟨by_,oy_+kL*2,none⟩)from hD 6 rfl) hay (Ry0.below (HB.trans (hBt.below HB.size (UpOld.all (bx:=[]) trivial)))) hey),
    .norm 25 rfl rfl rfl (fun a_ w_ hn_ hBt hr hR hD hO hS=>ase (show a_.eval (.tmp 20)=.agg #[.bool ex.ng,.slice ex.a ex.m ex.c]from hD 3 rfl) (show a_.eval (.tmp 24)=.agg #[.bool ey.ng,.slice ey.a ey.m ey.c]from hD 7 rfl) (Ax.rl hr).sl (Ay.rl hr).sl hsm.1 hsm.2),
    .norm 26 rfl rfl rfl (fun a_ w_ hn_ hBt hr hR hD hO hS=>at2 (show a_.eval (.tmp 25)=.bool true from hD 8 rfl)),
    trivial⟩
  intro a5 w5 gs5 hn5 hd5 hBt hr hR hP hX hU;replace hn:=hn5;replace hd:=hd5.trans hd;replace f0:=(hR 0 rfl).trans f0;replace f1:=(hR 1 rfl).trans f1;replace f5:=(hR 5 rfl).trans f5;have e26:a5.eval (.tmp 26)=.bool false:=hP 9 (by decide);have f26:=e26;replace Ax:=Ax.rl hr;replace Ay:=Ay.rl hr;replace HB:=HB.trans (hBt.below HB.size (UpOld.all (bx:=[]) trivial));clear hBt hr hR hP hX hU;refine wp_cond_false f26 ?_;refine wp_skip ?_;refine amn ?_;refine aa2 [some 15,some 16,some 5] [Eqs (.int .i64 (kL:Int)),Eqs (.int .i64 ((kL+1:Nat):Int)),Eqs (.int .i64 ((kL+1:Nat):Int))] [] [(2,0)] (by kernel_rfl) hn rfl (by kernel_rfl) (by kernel_rfl) (by kernel_rfl) (by kernel_rfl) (by kernel_rfl) (by kernel_rfl) ⟨Eqs.mono4 _,Eqs.mono4 _,Eqs.mono4 _,trivial⟩ aa8 (IsOld.all (bx:=[]) trivial) (DisOld.all (bx:=[]) trivial) ?_ ?_
  ·exact⟨.norm 15 rfl rfl rfl (fun a_ w_ hn_ hBt hr hR hD hO hS=>aal ((hS 2 5 rfl rfl).trans f5)),
    .norm 16 rfl rfl rfl (fun a_ w_ hn_ hBt hr hR hD hO hS=>aql (show a_.eval (.tmp 15)=.int .i64 (kL:Int)from hD 0 rfl) (by omega)),
    .norm 5 rfl rfl rfl (fun a_ w_ hn_ hBt hr hR hD hO hS=>ab4 (show a_.eval (.tmp 16)=.int .i64 ((kL+1:Nat):Int)from hD 1 rfl)),
    trivial⟩
  intro a6 w6 gs6 hn6 hd6 hBt hr hR hP hX hU;replace hn:=hn6;replace hd:=hd6.trans hd;replace f0:=(hR 0 rfl).trans f0;replace f1:=(hR 1 rfl).trans f1;have e5:a6.eval (.tmp 5)=.int .i64 ((kL+1:Nat):Int):=hP 2 (by decide);have f5:=e5;replace Ax:=Ax.rl hr;replace Ay:=Ay.rl hr;replace HB:=HB.trans (hBt.below HB.size (UpOld.all (bx:=[]) trivial));clear hBt hr hR hP hX hU;exact⟨nL-1,by omega,hn,hd,f0,f1,HB,kL+1,by omega,f5⟩
 ·skip;have hlt:=of_decide_eq_false hc14;refine wp_exit ?_;repeat(first|refine at3 ?_|refine arw ?_|refine ary (by decide) ?_)
  refine arx ?_;refine wp_seq ?_;refine aa2 [some 4] [Eqs ((.bool true))] [] [] (by kernel_rfl) hn rfl (by kernel_rfl) (by kernel_rfl) (by kernel_rfl) (by kernel_rfl) (by kernel_rfl) (by kernel_rfl) ⟨Eqs.mono4 _,trivial⟩ aa8 (IsOld.all (bx:=[]) trivial) (DisOld.all (bx:=[]) trivial) ?_ ?_
  ·exact⟨.norm 4 rfl rfl rfl (fun a_ w_ hn_ hBt hr hR hD hO hS=>ab4 rfl),
    trivial⟩
  intro a7 w7 gs7 hn7 hd7 hBt hr hR hP hX hU;replace hn:=hn7;replace hd:=hd7.trans hd;have e4:a7.eval (.tmp 4)=(.bool true):=hP 0 (by decide);have f4:=e4;replace HB:=HB.trans (hBt.below HB.size (UpOld.all (bx:=[]) trivial));clear hBt hr hR hP hX hU;refine wp_ret ?_;repeat(first|refine adb ?_|refine acf ?_|refine acx ?_)
  exact bodyPost_ret (v:=.bool true) (ah1 rfl f4) hd ⟨rfl,HB⟩
theorem Ow.grown{B:Nat}{w w':World}{v:Value}{zs:List Int}{row:Option Nat}{cur:Nat->Array Value}(h:Ow B w v zs)(hg:w.grownBy w' row)(hr:∀k,row=some k->w.heap[k]? = some (.cells (cur k) 45 (0,0))):Ow B w' v zs:=by
 obtain⟨ao,cap,rfl,h1,h2,h3,h4⟩:=h;refine⟨ao,cap,rfl,h1,h2,h3,?_⟩;rcases h4 with h4|⟨g,off,c,rfl,hB,hh,h5,h6⟩
 ·exact .inl h4
 ·refine .inr ⟨g,off,c,rfl,hB,(hg.block g (aaa hh) (fun e=>?_)).trans hh,h5,h6⟩;have:=hr g e.symm;rw[hh]at this;injection this with this;injection this with _ this;exact absurd this (by decide)
structure RwO (B:Nat) (w:World) (v:Value) (es:List WE):Prop where
 own:w.ownsRow B 45 2 v es.length (flat es)
 ow:∀e∈es,Ow B w (.slice e.a e.m e.c) e.zs
theorem RwO.below{B:Nat}{w w':World}{v:Value}{es:List WE}(h:RwO B w v es)(hb:Below w.heap.size w w'):RwO B w' v es:=
 ⟨h.own.kept (row:=none) ⟨hb.os,hb.tape,hb.output,hb.size,fun k hk _=>hb.block k hk⟩ (by cases hv:v.ownBlock <;> simp),fun e he=>(h.ow e he).below hb⟩
theorem RwO.rw{B:Nat}{w:World}{v:Value}{es:List WE}(h:RwO B w v es):Rw w v es:=⟨Cl.own h.own,fun e he=>(h.ow e he).sl⟩
theorem a0t(B:Nat)(w:World):RwO B w (.slice none 0 0) []:=⟨World.ownsRow_nil w B _ 2,fun e he=>by cases he⟩
def One(w:World)(g:Nat)(ng:Bool)(ao:Option Addr)(n c:Nat):Prop:=w.heap[g]? = some (.cells #[.bool ng,.slice ao n c] 45 (0,0))
section
variable {dst:Option Tmp} {ty:TypeId} {pos:String} {after:Array Edge} {guard:Option (Nat×Bool)} {a:Act} {w:World} {ats:Array TypeId} {i j:Nat}
theorem infoW:(Tryz.prog.info? 45).map (fun i=>(i.zero,i.size,i.bytes))=some (some (.agg #[.bool false,.slice none 0 0]),2,32):=by kernel_rfl
theorem a0u{B g:Nat}{v:Value}{es:List WE}{ng:Bool}{ao:Option Addr}{n c:Nat}{zs:List Int}(h1:a.eval (.tmp i)=v)(h2:a.eval (.tmp j)=.slice (some ⟨g,0,none⟩) 1 1)(R:RwO B w v es)(O:One w g ng ao n c)(S:Ow B w (.slice ao n c) zs)(hn:es.length<=1000000000)(hB:B<=w.heap.size):
  Does Tryz.prog {dst,op:=.call {callee:=.builtin .append,args:=#[.tmp i,.tmp j],argTypes:=#[39,39]},type:=ty,pos,after,guard} a.eval w fun v' w'=>RwO B w' v' (es ++ [⟨ng,ao,n,c,zs⟩])/\Below B w w':=by
 obtain⟨i0,hi,hz0,hz1,hz2⟩:=info_parts infoW;have hfl:flat (es ++ [⟨ng,ao,n,c,zs⟩])=flat es ++ [.bool ng,.slice ao n c]:=by rw[afq];rfl
 obtain⟨v',w',hr,ho,hgr,_⟩:=run_append_own (P:=Tryz.prog) w B 39 ty 45 i0 _ 2 32 Tryz.underlying39 hi hz0 hz1 hz2 rfl (by decide) v es.length (flat es) R.own ⟨g,0,none⟩ 1 1 [.bool ng,.slice ao n c] rfl (fun k u hu=>by
  have hc:∀k,w.cell? ⟨g,k,none⟩ = #[Value.bool ng,.slice ao n c][k]? :=fun k=>cell_of_row w g k _ _ (0,0) O
  have ha:(⟨g,0,none⟩:Addr).add k=⟨g,k,none⟩:=by unfold Addr.add;split <;> simp_all
  rw[ha,hc]
  simpa using hu) (by simp[Value.oneCell']) (by simp[maxLen];omega) (by omega) hB
 have e:(execOp a.eval {dst,op:=.call {callee:=.builtin .append,args:=#[.tmp i,.tmp j],argTypes:=#[39,39]},type:=ty,pos,after,guard}).run Tryz.prog w=.ok (.value v') w':=by
  simp only[execOp,resolve,invoke,builtin,Sem.run_bind,Sem.run_pure,Result.andThen_ok,List.map_toArray,List.map_cons,List.map_nil,h1,h2,hr]
 refine⟨?_⟩;unfold Turns;rw[e];have hrow:∃cur:Nat->Array Value,∀k,v.ownBlock=some k->w.heap[k]? = some (.cells (cur k) 45 (0,0)):=by
  rcases R.own.2 with⟨rfl,_⟩|⟨g',cap,cur,rfl,_,hh,_⟩
  ·exact⟨fun _=>#[],fun k hk=>by simp[Value.ownBlock]at hk⟩
  ·refine⟨fun _=>cur,fun k hk=>?_⟩;simp only[Value.ownBlock,Option.some.injEq]at hk;subst hk;exact hh
 obtain⟨cur,hcur⟩:=hrow;refine⟨⟨by rw[hfl,List.length_append];exact ho,fun e he=>?_⟩,⟨hgr.os,hgr.tape,hgr.output,hgr.size,fun k hk=>hgr.block k (by omega) (fun e=>?_)⟩⟩
 ·rcases List.mem_append.1 he with he|he
  ·exact(R.ow e he).grown hgr hcur
  ·obtain rfl:=List.mem_singleton.1 he;exact S.grown hgr hcur
 ·have:=R.own.lt k e.symm;omega
end
end Lm
namespace Lm
open Go Go.RowKit
open Dm (WFr)
theorem acy(n:Nat):(madeCells #[.bool false,.slice none 0 0] (n*2)).toList=flat (List.replicate n ⟨false,none,0,0,[]⟩):=by
 apply List.ext_getElem?;intro i;rw[Array.getElem?_toList];by_cases hi:i<n*2
 ·have hk:i/2<n:=by omega
  have h1:(List.replicate n (⟨false,none,0,0,[]⟩:WE))[i/2]? = some ⟨false,none,0,0,[]⟩:=by rw[List.getElem?_replicate,if_pos hk]
  obtain⟨f1,f2⟩:=ab7 h1;have e0:(madeCells #[.bool false,.slice none 0 0] (n*2))[i]? = some ((#[.bool false,.slice none 0 0]:Array Value)[i%2]!):=by
   simp[madeCells,hi]
  rw[e0];rcases Nat.mod_two_eq_zero_or_one i with h|h
  ·rw[h,<-show i/2*2=i from by omega,f1];rfl
  ·rw[h,<-show i/2*2+1=i from by omega,f2];rfl
 ·rw[Array.getElem?_eq_none (by rw[size_madeCells];omega),List.getElem?_eq_none (by rw[aas];simp;omega)]
theorem acn{w:World}{B g n size:Nat}{T:TypeId}{xs:List Value}(h:w.ownsRow B T size (.slice (some ⟨g,0,none⟩) n n) n xs):B<=g/\w.heap[g]? = some (.cells xs.toArray T (0,0)):=by
 obtain⟨hl,⟨h',_⟩|⟨g',cap',cur,h',hb,hg,_,_,hs,htake⟩⟩:=h
 ·simp at h'
 ·simp only[Value.slice.injEq,Option.some.injEq,Addr.mk.injEq,and_true,true_and]at h';obtain⟨rfl,rfl⟩:=h';refine⟨hb,?_⟩;rw[hg,<-htake,List.take_of_length_le (by simp;omega)]
def IsRow(w:World)(v:Value)(zs:List Int)(L:Nat):Prop:=∃es:List WE,Rw w v es/\es.map WE.z=zs/\∀e∈es,e.zs.length<=L
theorem IsRow.below{w w':World}{v:Value}{zs:List Int}{L:Nat}(h:IsRow w v zs L)(hb:Below w.heap.size w w'):IsRow w' v zs L:=by
 obtain⟨es,h1,h2,h3⟩:=h;exact⟨es,h1.below hb,h2,h3⟩
theorem IsRow.parts{w:World}{v:Value}{zs:List Int}{L:Nat}(h:IsRow w v zs L):∃ao cap,v=.slice ao zs.length cap/\zs.length<=9223372036854775807:=by
 obtain⟨es,h1,h2,h3⟩:=h;obtain⟨ao,cap,rfl,c1,c2,_⟩:=h1.cl;have:zs.length=es.length:=by rw[<-h2];simp
 exact⟨ao,cap,by rw[this],by omega⟩
theorem IsRow.cell{w:World}{ao:Option Addr}{n cap:Nat}{zs:List Int}{L k:Nat}{z:Int}(h:IsRow w (.slice ao n cap) zs L)(hz:zs[k]? = some z):∃b off ng a m c,ao=some ⟨b,off,none⟩/\b<w.heap.size/\w.cell? ⟨b,off+k*2,none⟩=some (.bool ng)/\w.cell? ⟨b,off+k*2+1,none⟩=some (.slice a m c)/\IsW z L (.agg #[.bool ng,.slice a m c]) w:=by
 obtain⟨es,h1,rfl,h3⟩:=h;rw[List.getElem?_map]at hz;obtain⟨e,he,rfl⟩:=Option.map_eq_some_iff.1 hz;have hk:k<es.length:=(List.getElem?_eq_some_iff.1 he).1;obtain⟨b,off,rfl,hb,hc⟩:=h1.cells (by omega);obtain⟨f1,f2⟩:=ab7 he;have hm:=List.mem_of_getElem? he;exact⟨b,off,e.ng,e.a,e.m,e.c,rfl,hb,hc _ _ f1,hc _ _ f2,⟨_,_,_,_,_,rfl,h1.ag hm,h3 e hm⟩⟩
def PRow(K:Nat)(w:World)(bv n i:Nat)(zs:List Int)(L:Nat):Prop:=
 ∃(es:List WE) (B T:Nat->Nat),es.length=n/\w.heap[bv]? = some (.cells (flat es).toArray 45 (0,0))/\(∀(k:Nat) (e:WE),i<=k->es[k]? = some e->e=⟨false,none,0,0,[]⟩)/\(∀(k:Nat) (e:WE) (z:Int),k<i->es[k]? = some e->zs[k]? = some z->WFr (B k) (T k) w e.ng e.a e.c e.zs z/\e.m=e.zs.length/\e.zs.length<=L/\K<=B k/\T k<=w.heap.size)/\(∀k k':Nat,k<k'->k'<i->T k<=B k')
theorem PRow.start{K:Nat}{w:World}{bv n:Nat}{zs:List Int}{L:Nat}(h:w.heap[bv]? = some (.cells (flat (List.replicate n ⟨false,none,0,0,[]⟩)).toArray 45 (0,0))):PRow K w bv n 0 zs L:=by
 refine⟨_,fun _=>0,fun _=>0,List.length_replicate,h,fun k e _ he=>?_,fun k e z hk=>by omega,fun k k' _ hk=>by omega⟩;rw[List.getElem?_replicate]at he;split at he
 ·exact(Option.some.inj he).symm
 ·cases he
theorem PRow.ru{K:Nat}{w w':World}{bv n i:Nat}{zs:List Int}{L:Nat}(h:PRow K w bv n i zs L)(hr:Ru w w')(hb:w'.heap[bv]? = w.heap[bv]?):PRow K w' bv n i zs L:=by
 obtain⟨es,B,T,h1,h2,h3,h4,h5⟩:=h;refine⟨es,B,T,h1,hb.trans h2,h3,fun k e z hk he hz=>?_,h5⟩;obtain⟨g1,g2,g3,g4,g5⟩:=h4 k e z hk he hz;exact⟨g1.ru hr,g2,g3,g4,Nat.le_trans g5 hr.size⟩
theorem PRow.lt{K:Nat}{w:World}{bv n i:Nat}{zs:List Int}{L:Nat}(h:PRow K w bv n i zs L):bv<w.heap.size:=by
 obtain⟨es,B,T,h1,h2,_⟩:=h;exact aaa h2
theorem PRow.below{K:Nat}{w w':World}{bv n i:Nat}{zs:List Int}{L:Nat}(h:PRow K w bv n i zs L)(hb:Below w.heap.size w w'):PRow K w' bv n i zs L:=h.ru (Ru.of_below hb) (hb.block bv h.lt)
theorem agm(es:List WE)(i:Nat)(x:WE)(h:i<es.length):flat (es.set i x)=((flat es).set (i*2) (.bool x.ng)).set (i*2+1) (.slice x.a x.m x.c):=by
 induction es generalizing i with
 |nil=>simp at h
 |cons u es ih=>
  cases i with
  |zero=>simp[flat]
  |succ i=>
   have:=ih i (by simpa using h);simp only[List.set_cons_succ,flat,show(i+1)*2=i*2+2 from by omega,this]
theorem aqn(es:List WE)(i:Nat)(z:Int):(flat es).toArray[i]?≠some (.int .u32 z):=by
 rw[List.getElem?_toArray];induction es generalizing i with
 |nil=>simp[flat]
 |cons u es ih=>
  match i with
  |0=>simp[flat]
  |1=>simp[flat]
  |i+2=>simpa[flat]using ih i
theorem PRow.cells{K:Nat}{w:World}{bv n i:Nat}{zs:List Int}{L:Nat}(h:PRow K w bv n i zs L){k:Nat}(hk:k<n):(∃ng a m c,w.cell? ⟨bv,k*2,none⟩=some (.bool ng)/\w.cell? ⟨bv,k*2+1,none⟩=some (.slice a m c))/\w.frozen? ⟨bv,k*2,none⟩=false/\w.frozen? ⟨bv,k*2+1,none⟩=false:=by
 obtain⟨es,B,T,h1,h2,_⟩:=h;obtain⟨e,he⟩:∃e,es[k]? = some e:=⟨_,List.getElem?_eq_getElem (by omega)⟩;obtain⟨f1,f2⟩:=ab7 he;exact⟨⟨e.ng,e.a,e.m,e.c,by rw[cell_of_row _ _ _ _ _ (0,0) h2,List.getElem?_toArray];exact f1,by rw[cell_of_row _ _ _ _ _ (0,0) h2,List.getElem?_toArray];exact f2⟩,frozen_of_row _ _ _ _ _ h2,frozen_of_row _ _ _ _ _ h2⟩
theorem PRow.put{K S:Nat}{w1 w2:World}{bv n i:Nat}{zs:List Int}{L:Nat}{z:Int}{ng:Bool}{a:Option Addr}{m c:Nat}(h:PRow K w1 bv n i zs L)(hS:w1.heap.size<=S)(hb:Below w1.heap.size w1 w2)(hi:i<n)(hz:zs[i]? = some z)(hK:K<=S)(hv:FrW S z L (.agg #[.bool ng,.slice a m c]) w2):
  PRow K ((w2.setCell ⟨bv,i*2,none⟩ (.bool ng)).setCell ⟨bv,i*2+1,none⟩ (.slice a m c)) bv n (i+1) zs L/\Rc bv bv w1 ((w2.setCell ⟨bv,i*2,none⟩ (.bool ng)).setCell ⟨bv,i*2+1,none⟩ (.slice a m c)):=by
 have hlt:=h.lt;obtain⟨es,B,T,e1,e2,e3,e4,e5⟩:=h;replace e2:=(hb.block bv hlt).trans e2;obtain⟨ng',ao',cap',rs,B',T',hv1,hv2,hv3,hv4,hv5⟩:=hv;simp only[Value.agg.injEq,Array.mk.injEq,List.cons.injEq,Value.bool.injEq,Value.slice.injEq,and_true]at hv1;obtain⟨rfl,rfl,rfl,rfl⟩:=hv1;generalize hW:((w2.setCell ⟨bv,i*2,none⟩ (.bool ng)).setCell ⟨bv,i*2+1,none⟩ (.slice a rs.length c))=W;have hbW:W.heap[bv]? = some (.cells (flat (es.set i ⟨ng,a,rs.length,c,rs⟩)).toArray 45 (0,0)):=by
  rw[<-hW,agm es i _ (by omega)];have s1:=heap_setCell_same w2 bv (i*2) _ _ (.bool ng) e2;have s2:=heap_setCell_same _ bv (i*2+1) _ _ (.slice a rs.length c) s1;rw[s2];simp
 have hot:∀k,k≠bv->W.heap[k]? = w2.heap[k]? :=fun k hn=>by rw[<-hW,heap_setCell_other _ ⟨bv,i*2+1,none⟩ k _ hn,heap_setCell_other _ ⟨bv,i*2,none⟩ k _ hn]
 have hsz:w2.heap.size<=W.heap.size:=by rw[<-hW];simp[World.setCell]
 have hru:Ru w2 W:=Ru.of_one e2 (by decide) (aqn es) hsz (fun k _ hn=>hot k hn);have hrc:Rc bv bv w2 W:=⟨by rw[<-hW];rfl,by rw[<-hW];rfl,by rw[<-hW];rfl,hsz,fun k _ hn _=>hot k hn,hru⟩;refine⟨⟨es.set i ⟨ng,a,rs.length,c,rs⟩,fun k=>if k=i then B' else B k,fun k=>if k=i then T' else T k,by simp[e1],hbW,?_,?_,?_⟩,(Rc.of_below hb).trans hrc⟩
 ·intro k e hk he;rw[List.getElem?_set_ne (by omega)]at he;exact e3 k e (by omega) he
 ·intro k e z' hk he hz';by_cases hki:k=i
  ·subst hki;rw[List.getElem?_set_self (by omega)]at he;obtain rfl:=Option.some.inj he;rw[hz]at hz';obtain rfl:=Option.some.inj hz';simp only[if_true];exact⟨hv2.ru hru,trivial,hv5,by omega,Nat.le_trans hv4 hsz⟩
  ·rw[List.getElem?_set_ne (fun h=>hki h.symm)]at he;simp only[if_neg hki];obtain⟨g1,g2,g3,g4,g5⟩:=e4 k e z' (by omega) he hz';exact⟨(g1.ru (Ru.of_below hb)).ru hru,g2,g3,g4,Nat.le_trans g5 (Nat.le_trans hb.size hsz)⟩
 ·intro k k' hkk hk';by_cases hki:k'=i
  ·subst hki;simp only[if_true,if_neg (show k≠k' by omega)];obtain⟨e,he⟩:∃e,es[k]? = some e:=⟨_,List.getElem?_eq_getElem (by omega)⟩;obtain⟨z',hz'⟩:∃z',zs[k]? = some z':=⟨_,List.getElem?_eq_getElem (by have:=(List.getElem?_eq_some_iff.1 hz).1;omega)⟩;have:=(e4 k e z' hkk he hz').2.2.2.2;omega
  ·simp only[if_neg hki,if_neg (show k≠i by omega)];exact e5 k k' hkk (by omega)
def ORow(K:Nat)(w:World)(v:Value)(zs:List Int)(L:Nat):Prop:=∃bv,v=.slice (some ⟨bv,0,none⟩) zs.length zs.length/\K<=bv/\PRow K w bv zs.length zs.length zs L/\zs.length<=1000000000
theorem PRow.full{K:Nat}{w:World}{bv:Nat}{zs:List Int}{L:Nat}(h:PRow K w bv zs.length zs.length zs L)(hl:zs.length<=1000000000):IsRow w (.slice (some ⟨bv,0,none⟩) zs.length zs.length) zs L:=by
 obtain⟨es,B,T,e1,e2,e3,e4,e5⟩:=h;have hz:∀(k:Nat) (e:WE),es[k]? = some e->∃z,zs[k]? = some z/\WFr (B k) (T k) w e.ng e.a e.c e.zs z/\e.m=e.zs.length/\e.zs.length<=L:=by
  intro k e he;have hk:=(List.getElem?_eq_some_iff.1 he).1;obtain⟨z,hz⟩:∃z,zs[k]? = some z:=⟨_,List.getElem?_eq_getElem (by omega)⟩;obtain⟨g1,g2,g3,_⟩:=e4 k e z (by omega) he hz;exact⟨z,hz,g1,g2,g3⟩
 refine⟨es,⟨⟨_,_,by rw[e1],by omega,by omega,aas es,?_⟩,?_⟩,?_,?_⟩
 ·refine .inr ⟨bv,0,rfl,aaa e2,fun j u hu=>?_⟩;rw[Nat.zero_add,cell_of_row _ _ _ _ _ (0,0) e2,List.getElem?_toArray];exact hu
 ·intro e he;obtain⟨k,hk⟩:=List.mem_iff_getElem?.1 he;obtain⟨z,_,g1,g2,_⟩:=hz k e hk;have:=g1.wh.sl;rwa[<-g2]at this
 ·apply List.ext_getElem?;intro k;rw[List.getElem?_map];cases hk:es[k]? with
  |none=>
   rw[List.getElem?_eq_none_iff]at hk;rw[Option.map_none,eq_comm,List.getElem?_eq_none_iff];omega
  |some e=>
   obtain⟨z,h1,g1,g2,_⟩:=hz k e hk;rw[h1,Option.map_some];congr 1;exact g1.wh.worth
 ·intro e he;obtain⟨k,hk⟩:=List.mem_iff_getElem?.1 he;obtain⟨z,_,_,_,g3⟩:=hz k e hk;exact g3
theorem ORow.is{K:Nat}{w:World}{v:Value}{zs:List Int}{L:Nat}(h:ORow K w v zs L):IsRow w v zs L:=by
 obtain⟨bv,rfl,_,h,hl⟩:=h;exact h.full hl
theorem ORow.below{K:Nat}{w w':World}{v:Value}{zs:List Int}{L:Nat}(h:ORow K w v zs L)(hb:Below w.heap.size w w'):ORow K w' v zs L:=by
 obtain⟨bv,e,hK,h,hl⟩:=h;exact⟨bv,e,hK,h.below hb,hl⟩
end Lm
namespace Lm
open Go Go.RowKit
theorem agn{α β:Type}(f:β->α->β)(a:β){l:List α}{k:Nat}{x:α}(h:l[k]? = some x):(l.take (k+1)).foldl f a=f ((l.take k).foldl f a) x:=by
 rw[List.take_add_one,h,List.foldl_append];rfl
def gcdL(zs:List Int):Int:=zs.foldl (fun c z=>((Int.gcd c z:Nat):Int)) 0
def sgnL(zs:List Int):Int:=zs.foldl (fun s z=>if s=0 then Int.sign z else s) 0
def dvs(zs:List Int):Int:=if sgnL zs<0 then -(gcdL zs)else gcdL zs
def red(zs:List Int):List Int:=zs.map (· / dvs zs)
theorem acz{z:Int}{L:Nat}{v:Value}{w:World}(h:IsW z L v w):(z.natAbs:Int)<pw L:=by
 obtain⟨ng,ao,n,cap,xs,_,hA,hl⟩:=h;obtain⟨_,_,_,_,_,hb,_⟩:=hA.sl;have h1:=aac hb;have h3:=aap hl;have h4:=hA.worth;rw[<-h4];cases ng
 ·simp only[sg];rw[if_neg (by decide)];omega
 ·simp only[sg];rw[if_pos trivial];omega
theorem a24{a b N:Int}(ha:(a.natAbs:Int)<N)(hb:(b.natAbs:Int)<N):(((Int.gcd a b:Nat):Int).natAbs:Int)<N:=by
 rw[Int.natAbs_natCast];by_cases h:a=0
 ·subst h;rw[Int.gcd_zero_left];exact hb
 ·have:=Nat.gcd_le_left b.natAbs (show 0<a.natAbs by omega);unfold Int.gcd;omega
theorem aip(zs:List Int):0<=gcdL zs:=by
 unfold gcdL;suffices h:∀(a:Int),0<=a->0<=zs.foldl (fun c z=>((Int.gcd c z:Nat):Int)) a from h 0 (Int.le_refl _)
 induction zs with
 |nil=>exact fun a h=>h
 |cons z zs ih=>exact fun a _=>ih _ (Int.natCast_nonneg _)
theorem adw(n:Nat):0<pw n:=by
 have:=aap (Nat.zero_le n);have h:pw 0=1:=rfl;omega
theorem infoWz:(Tryz.prog.info? 45).map (fun i=>(i.zero,i.size,i.bytes))=some (some (.agg #[.bool false,.slice none 0 0]),2,32):=by kernel_rfl
theorem infoRz:(Tryz.prog.info? 47).map (fun i=>(i.zero,i.size,i.bytes))=some (some (.agg #[.bool false,.slice none 0 0,.slice none 0 0]),3,56):=by kernel_rfl
theorem info_parts{P:Program}{T:TypeId}{z:Value}{size bytes:Nat}(h:(P.info? T).map (fun i=>(i.zero,i.size,i.bytes))=some (some z,size,bytes)):∃i,P.info? T=some i/\i.zero=some z/\i.size=size/\i.bytes=bytes:=by
 obtain⟨i,hi,hz⟩:=Option.map_eq_some_iff.1 h;simp only[Prod.mk.injEq]at hz;exact⟨i,hi,hz.1,hz.2.1,hz.2.2⟩
theorem a25{z d N:Int}(h:(z.natAbs:Int)<N):((z/d).natAbs:Int)<N:=by
 have:=Int.natAbs_ediv_le_natAbs z d;omega
theorem ahg(w:World)(x y:Int)(vx vy:Value)(L M:Nat)(hx:IsW x L vx w)(hy:IsW y M vy w)(hL:L<=400000000)(hM:M<=400000000):
  Calls Tryz.prog 183 #[vx,vy] w fun e w'=>∃v,e=.returned v/\FrW w.heap.size (x/y) (L+4) v w'/\Below w.heap.size w w':=by
 obtain⟨n1,a1,m1,c1,xs,rfl,_⟩:=id hx;obtain⟨n2,a2,m2,c2,ys,rfl,_⟩:=id hy;have HX:=hide hx;have HY:=hide hy;have hb0:Below w.heap.size w (((w.alloc (.cells #[.bool n1,.slice a1 m1 c1] 45)).alloc (.cells #[.bool n2,.slice a2 m2 c2] 45)).alloc (.cells #[.bool false,.slice none 0 0] 45)):=by(repeat' first|with_reducible(first|exact Below.refl _ _|assumption|refine gdrewN ?_ _|refine Below.alloc ?_ ?_ _|refine Below.drew ?_|refine Below.setCell ?_ ?_ _)|go_size)
 clear hx hy;go_enter Tryz.func183,Tryz.ntmps183
 go_wp2_with fail
 refine(divF _ x y _ _ L M (HX.out.ru (Ru.of_below hb0)) (HY.out.ru (Ru.of_below hb0)) hL hM).mono ?_;rintro e w1 ⟨v1,v2,b,rfl,h1,h2,_,hb1⟩;have HB:=hide (hb0.trans (hb1.mono hb0.size));have hf:w1.heap[w.heap.size+1+1]? = some (.cells #[.bool false,.slice none 0 0] 45 (0,0)):=by
  refine(hb1.block _ (by simp)).trans ?_;have:=heap_alloc_new ((w.alloc (.cells #[.bool n1,.slice a1 m1 c1] 45)).alloc (.cells #[.bool n2,.slice a2 m2 c2] 45)) (.cells #[.bool false,.slice none 0 0] 45);simpa using this
 have H1:=hide (h1.low hb0.size);obtain⟨ng1,ao1,k1,cap1,rfl⟩:=h1.agg;obtain⟨ng2,ao2,cap2,rs2,rfl,_⟩:=h2;have HF:=hide hf;generalize hfz:w.heap.size+1+1=f at *
 obtain⟨hfl,c0,c1',fr0,fr1⟩:=aaf hf;clear h1 hb1 hb0 hf;go_wp2;refine bodyPost_ret (v:=.agg #[.bool ng1,.slice ao1 k1 cap1]) (acb (g:=f) rfl rfl (lvw2 (abb (abb (abv HF.out _ _))))) rfl ⟨_,rfl,H1.out.ru ((acl HF.out _ _).trans ((Ru.of_below (hAl _ _)).trans (Ru.of_below (hAl _ _)))),?_⟩;have HBx:=HB.out;have hfw:w.heap.size<=f:=by omega
 (repeat' first|with_reducible(first|exact Below.refl _ _|assumption|refine gdrewN ?_ _|refine Below.alloc ?_ ?_ _|refine Below.drew ?_|refine Below.setCell ?_ ?_ _)|go_size)
theorem am8(w:World)(v:Value)(zs:List Int)(L:Nat)(h:IsRow w v zs L)(hL:L<=100000000):
  Calls Tryz.prog 181 #[v] w fun e w'=>∃r,e=.returned r/\OutW (dvs zs) L r w'/\Below w.heap.size w w':=by
 obtain⟨ao,cap,rfl,hn⟩:=h.parts;have H:=hide h;clear h;obtain⟨n,hnn⟩:∃n,zs.length=n:=⟨_,rfl⟩;rw[hnn]at H hn ⊢;have HN:=hide hnn;clear hnn;have hb0:Below w.heap.size w ((w.alloc (.cells #[.bool false,.slice none 0 0] 45)).alloc (.cells #[.bool false,.slice none 0 0] 45)):=by(repeat' first|with_reducible(first|exact Below.refl _ _|assumption|refine gdrewN ?_ _|refine Below.alloc ?_ ?_ _|refine Below.drew ?_|refine Below.setCell ?_ ?_ _)|go_size)
 have hf2:((w.alloc (.cells #[.bool false,.slice none 0 0] 45)).alloc (.cells #[.bool false,.slice none 0 0] 45)).heap[w.heap.size]? = some (.cells #[.bool false,.slice none 0 0] 45 (0,0)):=abb (heap_alloc_new w _);have hf3:((w.alloc (.cells #[.bool false,.slice none 0 0] 45)).alloc (.cells #[.bool false,.slice none 0 0] 45)).heap[w.heap.size+1]? = some (.cells #[.bool false,.slice none 0 0] 45 (0,0)):=by
  have:=heap_alloc_new (w.alloc (.cells #[.bool false,.slice none 0 0] 45)) (.cells #[.bool false,.slice none 0 0] 45);simpa using this
 have HB0:=hide (And.intro hb0 (And.intro hf2 hf3));clear hb0 hf2 hf3;go_enter Tryz.func181,Tryz.ntmps181
 go_wp2;go_loopw [4,9] (fun sv iv wr=>∃(k:Nat),iv=.int .i64 k/\k<=n/\sv=.int .i64 (sgnL (zs.take k))/\Below w.heap.size w wr/\wr.heap[w.heap.size]? = some (.cells #[.bool false,.slice none 0 0] 45 (0,0))/\∃ng a m c,wr.heap[w.heap.size+1]? = some (.cells #[.bool ng,.slice a m c] 45 (0,0))/\OutW (gcdL (zs.take k)) L (.agg #[.bool ng,.slice a m c]) wr) (fun _ iv _=>n-(intOf iv).toNat)
 case atStart=>
  refine⟨0,rfl,Nat.zero_le _,rfl,HB0.out.1,HB0.out.2.1,false,none,0,0,HB0.out.2.2,?_⟩;exact(ae7 (K:=0) _ (Nat.zero_le _)).out
 case round=>
  obtain⟨k,rfl,hk,rfl,hbw,hf2,ng,a,m,c,hf3,ho⟩:=hrel;have HW:=hide hbw;have HF2:=hide hf2;have HF3:=hide hf3;have HO:=hide ho;by_cases hlt:k<n
  ·obtain⟨z,hz⟩:∃z,zs[k]? = some z:=⟨_,List.getElem?_eq_getElem (by have:=HN.out;omega)⟩;obtain⟨b,off,ngx,ax,mx,cx,rfl,hbl,x0,x1,hx⟩:=H.out.cell hz;replace x0:=(hbw.cell (p:=⟨b,off+k*2,none⟩) hbl).trans x0;replace x1:=(hbw.cell (p:=⟨b,off+k*2+1,none⟩) hbl).trans x1;have HX:=hide (hx.ru (Ru.of_below hbw));have HZ:=hide hz;have hlt':(k:Int)<(n:Int):=by omega
   obtain⟨h3l,y0,y1,yf0,yf1⟩:=aaf hf3;have hba:Below wr.heap.size wr (wr.alloc (.cells #[.bool ngx,.slice ax mx cx] 45)):=hAl _ _;have hsz:=hbw.size;clear hbw hf2 hf3 ho hx hz;go_wp2_with fail
   refine(gcdF _ _ z _ _ L L (HO.out.is.ru (Ru.of_below hba)) (HX.out.ru (Ru.of_below hba)) (by omega) (by omega)).mono ?_;rintro e w1 ⟨v1,rfl,h1,hb1⟩;have HG:=hide (h1.out.fit (a24 (acz HO.out.is) (acz HX.out)));have hb1':=hba.trans (hb1.mono hba.size);have hx1:w1.heap[wr.heap.size]? = some (.cells #[.bool ngx,.slice ax mx cx] 45 (0,0)):=(hb1.block _ (by simp)).trans (heap_alloc_new wr _);have hg3:=(hb1'.block _ (aaa HF3.out)).trans HF3.out;have hg2:=(hb1'.block _ (aaa HF2.out)).trans HF2.out;have HG3:=hide hg3;have HG2:=hide hg2;have HB1:=hide (HW.out.trans (hb1'.mono HW.out.size));have HX1:=hide (HX.out.ru (Ru.of_below hb1'));obtain⟨ng1,ao1,k1,cap1,rfl⟩:=h1.agg;obtain⟨_,u0,u1,_,_⟩:=aaf hx1;obtain⟨g3l,v0,v1,vf0,vf1⟩:=aaf hg3;generalize wr.heap.size=fx at *
   clear h1 hb1 hb1' hba hx1 hg3 hg2 x0 x1 y0 y1 yf0 yf1;have HSK:Hid (sgnL (zs.take (k+1))=if sgnL (zs.take k)=0 then Int.sign z else sgnL (zs.take k)):=agn _ _ HZ.out;have HGK:Hid (gcdL (zs.take (k+1))=((Int.gcd (gcdL (zs.take k)) z:Nat):Int)):=agn _ _ HZ.out;generalize hsk:sgnL (zs.take k)=sk at *
   by_cases hs0:sk=0
   ·have HS0:=hide hs0;subst hs0;clear hsk;have hxf:fx≠w.heap.size+1:=by omega
    go_wp2_with fail
    refine(signF _ z _ L (HX1.out.ru (acl HG3.out _ _)) (by omega)).mono ?_;rintro e w2 ⟨rfl,hb2⟩;have hbs:Below w.heap.size w ((w1.setCell ⟨w.heap.size+1,0,none⟩ (.bool ng1)).setCell ⟨w.heap.size+1,1,none⟩ (.slice ao1 k1 cap1)):=(HB1.out.setCell (Nat.le_succ _) _).setCell (Nat.le_succ _) _;have hs2:((w1.setCell ⟨w.heap.size+1,0,none⟩ (.bool ng1)).setCell ⟨w.heap.size+1,1,none⟩ (.slice ao1 k1 cap1)).heap[w.heap.size]? = some (.cells #[.bool false,.slice none 0 0] 45 (0,0)):=by rw[heap_setCell_other _ ⟨w.heap.size+1,1,none⟩ _ _ (by show w.heap.size≠w.heap.size+1;omega),heap_setCell_other _ ⟨w.heap.size+1,0,none⟩ _ _ (by show w.heap.size≠w.heap.size+1;omega)];exact HG2.out
    have K1:=hide (hbs.trans (hb2.mono hbs.size));have K2:=hide ((hb2.block _ (aaa hs2)).trans hs2);have K3:=hide ((hb2.block _ (aaa (abv HG3.out (.bool ng1) (.slice ao1 k1 cap1)))).trans (abv HG3.out _ _));have K4:=hide ((HG.out.ru (acl HG3.out _ _)).ru (Ru.of_below hb2));clear hb2 hbs hs2;go_wp2;go_roundw
    case rel=>
     refine⟨k+1,by go_num,by omega,by rw[HSK.out,if_pos trivial],K1.out,K2.out,_,_,_,_,K3.out,?_⟩;rw[HGK.out];exact K4.out
    case measure=>simp[intOf];omega
   ·have HS0:=hide hs0;have hs0':(sk==0)=false:=beq_eq_false_iff_ne.2 hs0;clear hsk hs0;go_wp2;go_roundw
    case rel=>
     refine⟨k+1,by go_num,by omega,by rw[HSK.out,if_neg HS0.out],(HB1.out.setCell (Nat.le_succ _) _).setCell (Nat.le_succ _) _,?_,_,_,_,_,abv HG3.out _ _,?_⟩
     ·rw[heap_setCell_other _ ⟨w.heap.size+1,1,none⟩ _ _ (by show w.heap.size≠w.heap.size+1;omega),heap_setCell_other _ ⟨w.heap.size+1,0,none⟩ _ _ (by show w.heap.size≠w.heap.size+1;omega)];exact HG2.out
     ·rw[HGK.out];exact HG.out.ru (acl HG3.out _ _)
    case measure=>simp[intOf];omega
  ·have hlt':decide ((k:Int)<(n:Int))=false:=by simp;omega
   have hkn:zs.take k=zs:=List.take_of_length_le (by have:=HN.out;omega);rw[hkn]at HO ⊢;obtain⟨h3l,y0,y1,yf0,yf1⟩:=aaf hf3;obtain⟨h2l,x0,x1,xf0,xf1⟩:=aaf hf2;clear hbw hf2 hf3 ho hkn;by_cases hs:sgnL zs<0
   ·have HD:Hid (dvs zs = -(gcdL zs)):=if_pos hs;generalize sgnL zs=sk at *
    go_wp2_with fail
    refine(negF _ _ _ L HO.out.is (by omega)).mono ?_;rintro e w1 ⟨v1,rfl,h1,hb1⟩;have hg2:=(hb1.block _ (aaa HF2.out)).trans HF2.out;have HG2:=hide hg2;obtain⟨h2l',z0,z1,zf0,zf1⟩:=aaf hg2;have HB1:=hide (HW.out.trans (hb1.mono HW.out.size));obtain⟨ng1,ao1,k1,cap1,rfl⟩:=h1.agg;have H1:=hide h1.out;clear h1 hb1 hg2 x0 x1 xf0 xf1 y0 y1 yf0 yf1;go_wp2;exact bodyPost_ret (v:=.agg #[.bool ng1,.slice ao1 k1 cap1]) (acb (g:=w.heap.size) rfl rfl (lvw2 (abv HG2.out _ _))) rfl ⟨_,rfl,by rw[HD.out];exact H1.out.ru (acl HG2.out _ _),(HB1.out.setCell (Nat.le_refl _) _).setCell (Nat.le_refl _) _⟩
   ·have HD:Hid (dvs zs=gcdL zs):=if_neg hs;have hs':decide (sgnL zs<0)=false:=decide_eq_false hs;generalize sgnL zs=sk at *
    clear hs;go_wp2;exact bodyPost_ret (v:=.agg #[.bool ng,.slice a m c]) (acb (g:=w.heap.size) rfl rfl (lvw2 (abv HF2.out _ _))) rfl ⟨_,rfl,by rw[HD.out];exact HO.out.ru (acl HF2.out _ _),(HW.out.setCell (Nat.le_refl _) _).setCell (Nat.le_refl _) _⟩
theorem aqo(z:Int):(Int.sign z != 0)=decide (z≠0):=by
 by_cases h:z=0
 ·subst h;rfl
 ·rw[decide_eq_true h,bne_iff_ne];exact fun e=>h (Int.sign_eq_zero_iff_zero.1 e)
theorem ago(w:World)(z:Int)(L:Nat)(v:Value)(h:IsW z L v w)(hL:L<=400000000):
  Calls Tryz.prog 167 #[v] w fun e w'=>e=.returned (.bool (decide (z≠0)))/\Below w.heap.size w w':=by
 obtain⟨ng,ao,n,cap,xs,rfl,_⟩:=id h;have hb:=hAl w (.cells #[.bool ng,.slice ao n cap] 45);have hS:=aqo z;have K:=hide (signF _ z _ L (h.ru (Ru.of_below hb)) hL);clear h;go_enter Tryz.func167,Tryz.ntmps167
 go_wp2_with fail
 refine K.out.mono ?_;rintro e w1 ⟨rfl,hb1⟩;have HB:=hide (hb.trans (hb1.mono hb.size));clear hb hb1 K;generalize Int.sign z=sz at *
 go_wp2;refine bodyPost_ret (v:=_) (by simp[results,Tryz.results167,go_sem];try rfl) rfl ⟨by simp,HB.out⟩
theorem alj:Has Tryz.prog 167:=by unfold Has;kernel_rfl
def Turn(w:World)(f:FuncId)(cap:Array Value)(zs:List Int)(L M:Nat)(g:Nat->Int):Prop:=∀(W:World) (c:Nat) (z:Int) (xv:Value),Below w.heap.size w W->zs[c]? = some z->IsW z L xv W->Calls Tryz.prog f (#[.int .i64 (c:Int),xv]++cap) W fun e W'=>∃v,e=.returned v/\FrW W.heap.size (g c) M v W'/\Below W.heap.size W W'
theorem Turn.below{w w1:World}{f:FuncId}{cap:Array Value}{zs:List Int}{L M:Nat}{g:Nat->Int}(h:Turn w f cap zs L M g)(hb:Below w.heap.size w w1):Turn w1 f cap zs L M g:=fun W c z xv h1 h2 h3=>h W c z xv (hb.trans (h1.mono hb.size)) h2 h3
def gRow(g:Nat->Int)(n:Nat):List Int:=(List.range n).map g
theorem aao(g:Nat->Int)(n:Nat):(gRow g n).length=n:=by simp[gRow]
theorem abd{g:Nat->Int}{n k:Nat}(h:k<n):(gRow g n)[k]? = some (g k):=by simp[gRow,h]
theorem ad8(w:World)(v:Value)(zs:List Int)(L M:Nat)(h:IsRow w v zs L)(hl:zs.length<=1000000000)(f:FuncId)(hf:Has Tryz.prog f)(cap:Array Value)(g:Nat->Int)(hT:Turn w f cap zs L M g):
  Calls Tryz.prog 178 #[v,.func (.func f) #[] cap] w fun e w'=>∃r,e=.returned r/\ORow w.heap.size w' r (gRow g zs.length) M/\Below w.heap.size w w':=by
 obtain⟨ao,cp,rfl,_⟩:=h.parts;have H:=hide h;have HTN:=hide hT;clear h hT;obtain⟨n,hnn⟩:∃n,zs.length=n:=⟨_,rfl⟩;rw[hnn]at H hl ⊢;have HN:=hide hnn;clear hnn;obtain⟨iW,hi,hz0,hz1,hz2⟩:=info_parts infoWz;go_enter Tryz.func178,Tryz.ntmps178
 go_wp2_with (refine wpList_make_full _ rfl (.tmp 9) (.tmp 9) 39 rfl w.heap.size 45 iW (.agg #[.bool false,.slice none 0 0]) 2 Tryz.underlying39 hi hz0 hz1 .i64 .i64 _ _ n rfl rfl (by omega) (by omega) (by rw[hz2];omega) (by unfold maxLen;omega) (Nat.le_refl _) ?hK)
 case hK=>
  intro w2 hown hgrow;have hb2:Below w.heap.size w w2:=(Below.refl _ _).grown hgrow (Nat.le_refl _) (by simp);obtain⟨_,hmb⟩:=acn hown;rw[acy]at hmb;have HP0:=hide (PRow.start (K:=w.heap.size) (zs:=gRow g n) (L:=M) hmb);have HB:=hide hb2;clear hown hgrow hmb hb2;go_wp2;go_loopw [6,7,13] (fun _ _ iv wr=>∃(k:Nat),iv=.int .i64 k/\k<=n/\Below w.heap.size w wr/\PRow w.heap.size wr w.heap.size n k (gRow g n) M) (fun _ _ iv _=>n-(intOf iv).toNat)
  case atStart=>exact⟨0,rfl,Nat.zero_le _,HB.out,HP0.out⟩
  case round=>
   obtain⟨k,rfl,hk,hbw,hp⟩:=hrel;have HW:=hide hbw;have HP:=hide hp;by_cases hlt:k<n
   ·obtain⟨z,hz⟩:∃z,zs[k]? = some z:=⟨_,List.getElem?_eq_getElem (by have:=HN.out;omega)⟩;obtain⟨b,off,ngx,ax,mx,cx,rfl,hbl,x0,x1,hx⟩:=H.out.cell hz;replace x0:=(hbw.cell (p:=⟨b,off+k*2,none⟩) hbl).trans x0;replace x1:=(hbw.cell (p:=⟨b,off+k*2+1,none⟩) hbl).trans x1;have hlt':(k:Int)<(n:Int):=by omega
    have hba:Below wr.heap.size wr (wr.alloc (.cells #[.bool ngx,.slice ax mx cx] 45)):=hAl _ _;have KC:=hide (HTN.out _ k z (.agg #[.bool ngx,.slice ax mx cx]) (hbw.trans (hba.mono hbw.size)) hz ((hx.ru (Ru.of_below hbw)).ru (Ru.of_below hba)));clear hbw hp hx hz;have hE:∀args w,(callFunc f args).run Tryz.prog w=.ok (.enter f args) w:=fun args w=>hf.enter args w
    go_wp2_with fail
    refine KC.out.mono ?_;rintro e w3 ⟨v1,rfl,h1,hb3⟩;have hb3':=hba.trans (hb3.mono hba.size);obtain⟨ng1,ao1,k1,cap1,rfl⟩:=h1.agg;have HF:=hide (h1.low hba.size);obtain⟨⟨ngp,ap,mp,cp',p0,p1⟩,pf0,pf1⟩:=(HP.out.below hb3').cells hlt;have hpl:=(HP.out.below hb3').lt;have HB3:=hide hb3';clear h1 hb3 hb3' hba x0 x1 KC hE;go_wp2;obtain⟨q1,q2⟩:=HP.out.put (Nat.le_refl _) HB3.out hlt (abd hlt) HW.out.size HF.out;go_roundw
    case rel=>exact⟨k+1,by go_num,by omega,HW.out.trans (q2.below HW.out.size (Nat.le_refl _) (Nat.le_refl _)),q1⟩
    case measure=>simp[intOf];omega
   ·have hlt':decide ((k:Int)<(n:Int))=false:=by simp;omega
    have hkn:k=n:=by omega
    subst hkn;clear hbw hp;go_wp2;refine bodyPost_ret (v:=_) (by simp[results,Tryz.results178,go_sem];try rfl) rfl ⟨_,rfl,⟨_,by rw[aao],Nat.le_refl _,by rw[aao];exact HP.out,by rw[aao];exact hl⟩,HW.out⟩
def Nums(w:World)(v:Value)(zs:List Int):Prop:=Ce w v 1 zs.length (zs.map (Value.int .i64))
theorem Nums.cell{w:World}{ao:Option Addr}{n cap:Nat}{zs:List Int}{i:Nat}(h:Nums w (.slice ao n cap) zs)(hi:i<zs.length):∃b off,ao=some ⟨b,off,none⟩/\w.cell? ⟨b,off+i,none⟩=some (.int .i64 zs[i]):=by
 obtain⟨ao',cap',hv,c1,c2,c3,c4⟩:=h;obtain⟨rfl,rfl,rfl⟩:=(Value.slice.injEq .. ▸ hv);rcases c4 with c4|⟨b,off,rfl,hl,hc⟩
 ·omega
 ·exact⟨b,off,rfl,hc _ _ (by simp[hi])⟩
theorem Nums.parts{w:World}{ao:Option Addr}{n cap:Nat}{zs:List Int}(h:Nums w (.slice ao n cap) zs):n=zs.length/\n<=9223372036854775807:=by
 obtain⟨ao',cap',hv,c1,c2,c3,c4⟩:=h;obtain⟨rfl,rfl,rfl⟩:=(Value.slice.injEq .. ▸ hv);exact⟨rfl,by omega⟩
theorem aut(w:World)(ao:Option Addr)(n cap:Nat)(zs:List Int)(z:Int)(h:Nums w (.slice ao n cap) zs):
  Calls Tryz.prog 197 #[.slice ao n cap,.int .i64 z] w fun e w'=>(∃r:Int,e=.returned (.int .i64 r)/\decide (0<=r)=decide (z∈zs))/\w'=w:=by
 obtain⟨hn,hb⟩:=h.parts;have H:=hide h;clear h;go_enter Tryz.func197,Tryz.ntmps197
 go_wp2;go_loopw [5,8] (fun _ iv wr=>∃(i:Nat),iv=.int .i64 i/\i<=n/\z∉zs.take i/\wr=w) (fun _ iv _=>n-(intOf iv).toNat)
 case atStart=>exact⟨0,rfl,Nat.zero_le _,by simp,rfl⟩
 case round=>
  obtain⟨i,rfl,hi,hz,rfl⟩:=hrel;have HZ:=hide hz;clear hz;by_cases hlt:i<n
  ·obtain⟨b,off,rfl,hc⟩:=H.out.cell (i:=i) (by omega);have hlt':(i:Int)<(n:Int):=by omega
   have hget:zs[i]? = some (zs[i]'(by omega)):=List.getElem?_eq_getElem _;generalize zs[i]'(by omega)=y at hc hget;have HG:=hide hget;clear hget;by_cases he:z=y
   ·subst he;go_wp2;go_ret;exact⟨⟨i,rfl,by simp[List.mem_of_getElem? HG.out]⟩,rfl⟩
   ·have hne:(z==y)=false:=beq_eq_false_iff_ne.2 he;go_wp2;go_roundw
    case rel=>exact⟨i+1,by go_num,by omega,by rw[List.take_add_one,HG.out];simp[HZ.out,he],trivial⟩
    case measure=>simp[intOf];omega
  ·have hlt':decide ((i:Int)<(n:Int))=false:=by simp;omega
   go_wp2;go_ret;exact⟨⟨-1,rfl,by have:=HZ.out;rw[List.take_of_length_le (by omega)]at this;simp[this]⟩,rfl⟩
theorem ahh(w:World)(ao:Option Addr)(n cap:Nat)(zs:List Int)(z:Int)(h:Nums w (.slice ao n cap) zs):
  Calls Tryz.prog 180 #[.slice ao n cap,.int .i64 z] w fun e w'=>e=.returned (.bool (decide (z∈zs)))/\w'=w:=by
 have H:=hide h;clear h;go_enter Tryz.func180,Tryz.ntmps180
 go_wp2_with fail
 refine(aut _ _ _ _ zs _ H.out).mono ?_;rintro e w' ⟨⟨r,rfl,hr⟩,rfl⟩;go_wp2;go_ret;exact⟨rfl,rfl⟩
def IsM(w:World)(v:Value)(rows:List (List Int))(L:Nat):Prop:=∃vs:List Value,Ce w v 1 rows.length vs/\∀(i:Nat) (u:Value) (z:List Int),vs[i]? = some u->rows[i]? = some z->IsRow w u z L
def IsP(w:World)(v:Value)(P:List Nat):Prop:=Ce w v 1 P.length (P.map (fun p:Nat=>Value.int .i64 (p:Int)))
theorem IsM.below{w w':World}{v:Value}{rows:List (List Int)}{L:Nat}(h:IsM w v rows L)(hb:Below w.heap.size w w'):IsM w' v rows L:=by
 obtain⟨vs,h1,h2⟩:=h;exact⟨vs,h1.below hb,fun i u z hu hz=>(h2 i u z hu hz).below hb⟩
theorem IsP.below{w w':World}{v:Value}{P:List Nat}(h:IsP w v P)(hb:Below w.heap.size w w'):IsP w' v P:=Ce.below h hb
theorem IsM.parts{w:World}{v:Value}{rows:List (List Int)}{L:Nat}(h:IsM w v rows L):∃ao cap,v=.slice ao rows.length cap/\rows.length<=9223372036854775807:=by
 obtain⟨vs,⟨ao,cap,rfl,h1,h2,_⟩,_⟩:=h;exact⟨ao,cap,rfl,by omega⟩
theorem IsP.parts{w:World}{v:Value}{P:List Nat}(h:IsP w v P):∃ao cap,v=.slice ao P.length cap/\P.length<=9223372036854775807:=by
 obtain⟨ao,cap,rfl,h1,h2,_⟩:=h;exact⟨ao,cap,rfl,by omega⟩
theorem IsM.cell{w:World}{ao:Option Addr}{n cap:Nat}{rows:List (List Int)}{L i:Nat}{z:List Int}(h:IsM w (.slice ao n cap) rows L)(hz:rows[i]? = some z):∃b off u,ao=some ⟨b,off,none⟩/\b<w.heap.size/\w.cell? ⟨b,off+i,none⟩=some u/\IsRow w u z L:=by
 obtain⟨vs,⟨ao',cap',hv,h1,h2,h3,h4⟩,h5⟩:=h;obtain⟨rfl,rfl,rfl⟩:=(Value.slice.injEq .. ▸ hv);have hi:i<rows.length:=(List.getElem?_eq_some_iff.1 hz).1;obtain⟨u,hu⟩:∃u,vs[i]? = some u:=⟨_,List.getElem?_eq_getElem (by omega)⟩;rcases h4 with h4|⟨b,off,rfl,hl,hc⟩
 ·omega
 ·exact⟨b,off,u,rfl,hl,hc i u hu,h5 i u z hu hz⟩
theorem IsP.cell{w:World}{ao:Option Addr}{n cap:Nat}{P:List Nat}{i p:Nat}(h:IsP w (.slice ao n cap) P)(hp:P[i]? = some p):∃b off,ao=some ⟨b,off,none⟩/\b<w.heap.size/\w.cell? ⟨b,off+i,none⟩=some (.int .i64 (p:Int)):=by
 obtain⟨ao',cap',hv,h1,h2,h3,h4⟩:=h;obtain⟨rfl,rfl,rfl⟩:=(Value.slice.injEq .. ▸ hv);have hi:i<P.length:=(List.getElem?_eq_some_iff.1 hp).1;rcases h4 with h4|⟨b,off,rfl,hl,hc⟩
 ·omega
 ·exact⟨b,off,rfl,hl,hc i _ (by rw[List.getElem?_map,hp];rfl)⟩
theorem IsP.nums{w:World}{v:Value}{P:List Nat}(h:IsP w v P):Nums w v (P.map (fun p:Nat=>(p:Int))):=by
 unfold Nums;rw[List.length_map,List.map_map];exact h
def Bas(w:World)(q:Nat)(P:List Nat)(rows:List (List Int))(lead:Int)(L:Nat):Prop:=∃rv pv ng la lm lc,w.heap[q]? = some (.cells #[rv,pv,.bool ng,.slice la lm lc] 187 (0,0))/\IsM w rv rows L/\IsP w pv P/\IsW lead L (.agg #[.bool ng,.slice la lm lc]) w
theorem Bas.below{w w':World}{q:Nat}{P:List Nat}{rows:List (List Int)}{lead:Int}{L:Nat}(h:Bas w q P rows lead L)(hb:Below w.heap.size w w'):Bas w' q P rows lead L:=by
 obtain⟨rv,pv,ng,la,lm,lc,h1,h2,h3,h4⟩:=h;exact⟨rv,pv,ng,la,lm,lc,(hb.block _ (aaa h1)).trans h1,h2.below hb,h3.below hb,h4.ru (Ru.of_below hb)⟩
section
variable {dst:Option Tmp} {ty:TypeId} {pos:String} {after:Array Edge} {guard:Option (Nat×Bool)} {a:Act} {w:World} {ats:Array TypeId} {i j k g:Nat} {x y:Int} {L M K:Nat}
theorem ac4{p:Addr}{o:Option Addr}(hp:a.eval (.tmp k)=.pointer (some p))(hc:w.cell? p=some (.pointer o)):
  Does Tryz.prog {dst,op:=.load 199 (.tmp k),type:=ty,pos,after,guard} a.eval w fun v' w'=>Below w.heap.size w w'/\Eqs (.pointer o) v' w':=by
 refine aa3 (v:=.pointer o) ?_ ⟨Below.refl _ _,rfl⟩;rw[hp];go_simp
theorem akg{p:Addr}{ao:Option Addr}{n c:Nat}(hp:a.eval (.tmp k)=.pointer (some p))(hc:w.cell? p=some (.slice ao n c)):
  Does Tryz.prog {dst,op:=.load 23 (.tmp k),type:=ty,pos,after,guard} a.eval w fun v' w'=>Below w.heap.size w w'/\Eqs (.slice ao n c) v' w':=by
 refine aa3 (v:=.slice ao n c) ?_ ⟨Below.refl _ _,rfl⟩;rw[hp];go_simp
theorem acu{p:Addr}{ao:Option Addr}{n c:Nat}(hp:a.eval (.tmp k)=.pointer (some p))(hc:w.cell? p=some (.slice ao n c)):
  Does Tryz.prog {dst,op:=.load 39 (.tmp k),type:=ty,pos,after,guard} a.eval w fun v' w'=>Below w.heap.size w w'/\Eqs (.slice ao n c) v' w':=by
 refine aa3 (v:=.slice ao n c) ?_ ⟨Below.refl _ _,rfl⟩;rw[hp];go_simp
theorem a0v{p:Addr}{ao:Option Addr}{n c:Nat}(hp:a.eval (.tmp k)=.pointer (some p))(hc:w.cell? p=some (.slice ao n c)):
  Does Tryz.prog {dst,op:=.load 26 (.tmp k),type:=ty,pos,after,guard} a.eval w fun v' w'=>Below w.heap.size w w'/\Eqs (.slice ao n c) v' w':=by
 refine aa3 (v:=.slice ao n c) ?_ ⟨Below.refl _ _,rfl⟩;rw[hp];go_simp
theorem aeu{p:Addr}(hp:a.eval (.tmp k)=.pointer (some p)):
  Does Tryz.prog {dst,op:=.nilCheck (.tmp k),type:=ty,pos,after,guard} a.eval w fun v' w'=>Below w.heap.size w w'/\Eqs (.pointer (some p)) v' w':=by
 have e:(execOp a.eval {dst,op:=.nilCheck (.tmp k),type:=ty,pos,after,guard}).run Tryz.prog w=.ok (.value (.pointer (some p))) w:=by
  simp only[execOp,hp];go_simp
 refine⟨?_⟩;unfold Turns;rw[e];exact⟨Below.refl _ _,rfl⟩
theorem afz{f off:Nat}(hf:∀w:World,(Instr.fieldAt 187 (.pointer (some ⟨g,0,none⟩)) f).run Tryz.prog w=.ok (.pointer (some ⟨g,off,none⟩)) w)(hp:a.eval (.tmp k)=.pointer (some ⟨g,0,none⟩)):
  Does Tryz.prog {dst,op:=.fieldAddr 187 (.tmp k) f,type:=ty,pos,after,guard} a.eval w fun v' w'=>Below w.heap.size w w'/\Eqs (.pointer (some ⟨g,off,none⟩)) v' w':=by
 refine⟨?_⟩;unfold Turns;simp only[execOp,hp];simp[hf];exact⟨Below.refl _ _,rfl⟩
theorem fab0(w:World):(Instr.fieldAt 187 (.pointer (some ⟨g,0,none⟩)) 0).run Tryz.prog w=.ok (.pointer (some ⟨g,0,none⟩)) w:=by go_simp
theorem fab1(w:World):(Instr.fieldAt 187 (.pointer (some ⟨g,0,none⟩)) 1).run Tryz.prog w=.ok (.pointer (some ⟨g,1,none⟩)) w:=by go_simp
theorem fab2(w:World):(Instr.fieldAt 187 (.pointer (some ⟨g,0,none⟩)) 2).run Tryz.prog w=.ok (.pointer (some ⟨g,2,none⟩)) w:=by go_simp
theorem akh{b off n c m:Nat}{ao:Option Addr}(h:a.eval (.tmp i)=.slice ao n c)(hao:ao=some ⟨b,off,none⟩)(hk:a.eval (.tmp j)=.int .i64 (m:Int))(hl:m<n):Does Tryz.prog {dst,op:=.indexAddr 23 (.tmp i) (.tmp j),type:=ty,pos,after,guard} a.eval w fun v' w'=>Below w.heap.size w w'/\Eqs (.pointer (some ⟨b,off+m,none⟩)) v' w':=by
 subst hao;have hl':(m:Int)<(n:Int):=by omega
 have e:(execOp a.eval {dst,op:=.indexAddr 23 (.tmp i) (.tmp j),type:=ty,pos,after,guard}).run Tryz.prog w=.ok (.value (.pointer (some ⟨b,off+m,none⟩))) w:=by
  simp only[execOp,h,hk];go_simp
 refine⟨?_⟩;unfold Turns;rw[e];exact⟨Below.refl _ _,rfl⟩
theorem adx(h1:IsW x L (a.eval (.tmp i)) w)(h2:IsW y M (a.eval (.tmp j)) w)(hL:L<=400000000)(hM:M<=400000000)(hK:K<=w.heap.size):
  Does Tryz.prog {dst,op:=.call {callee:=.value (.func 87),args:=#[.tmp i,.tmp j],argTypes:=ats},type:=ty,pos,after,guard} a.eval w fun v w'=>Below w.heap.size w w'/\FrW K (x*y) (L+M) v w':=
 aah aqf #[_,_] (by simp) ((mulF _ x y _ _ L M h1 h2 hL hM).mono fun e w' ⟨v,h,hf,hb⟩=>⟨v,h,hb,hf.low hK⟩)
theorem aki(h1:IsW x L (a.eval (.tmp i)) w)(h2:IsW y M (a.eval (.tmp j)) w)(hL:L<=400000000)(hM:M<=400000000)(hK:K<=w.heap.size):
  Does Tryz.prog {dst,op:=.call {callee:=.value (.func 101),args:=#[.tmp i,.tmp j],argTypes:=ats},type:=ty,pos,after,guard} a.eval w fun v w'=>Below w.heap.size w w'/\FrW K (x-y) (L+M+1) v w':=
 aah az7 #[_,_] (by simp) ((subF _ x y _ _ L M h1 h2 hL hM).mono fun e w' ⟨v,h,hf,hb⟩=>⟨v,h,hb,hf.low hK⟩)
end
theorem ah4(B:Nat)(w:World):Ow B w (.slice none 0 0) []:=⟨none,0,rfl,Nat.le_refl _,Nat.zero_le _,fun z hz=>(by cases hz),.inl rfl⟩
theorem abe{w:World}{v:Value}{zs:List Int}{L:Nat}(h:IsRow w v zs L):∀z∈zs,(z.natAbs:Int)<pw L:=by
 intro z hz;obtain⟨k,hk⟩:=List.mem_iff_getElem?.1 hz;obtain⟨ao,cap,rfl,_⟩:=h.parts;obtain⟨b,off,ng,a,m,c,_,_,_,_,hw⟩:=h.cell hk;exact acz hw
def lstep(zs:List Int)(c:Nat)(s:Int)(e:Nat×List Int):Int:=s-zs.getD e.1 0*e.2.getD c 0
def lft(lead:Int)(zs:List Int)(P:List Nat)(rows:List (List Int))(c:Nat)(x:Int):Int:=if c∈P then 0 else(P.zip rows).foldl (lstep zs c) (lead*x)
theorem am9{L:Nat}{lead x:Int}{zs:List Int}{c:Nat}(hl:(lead.natAbs:Int)<pw L)(hx:(x.natAbs:Int)<pw L)(hz:∀z∈zs,(z.natAbs:Int)<pw L):∀(es:List (Nat×List Int)),(∀e∈es,∀y∈e.2,(y.natAbs:Int)<pw L)->es.length<=4000000000->((es.foldl (lstep zs c) (lead*x)).natAbs:Int)<pw (L+L+1):=by
 intro es he hn;have hp:pw (L+L)=pw L*pw L:=ab1 L L;have h0:=adw L;have hG:∀(l:List Int) (k:Nat),(∀y∈l,(y.natAbs:Int)<pw L)->((l.getD k 0).natAbs:Int)<pw L:=by
  intro l k hl;rw[List.getD_eq_getElem?_getD];cases h:l[k]? with
  |none=>simpa using h0
  |some y=>exact hl y (List.mem_of_getElem? h)
 have hM:∀u v:Int,(u.natAbs:Int)<pw L->(v.natAbs:Int)<pw L->((u*v).natAbs:Int)<=pw L*pw L:=by
  intro u v hu hv;rw[Int.natAbs_mul,Int.natCast_mul];exact Int.mul_le_mul (by omega) (by omega) (by omega) (by omega)
 have key:∀(es:List (Nat×List Int)) (s:Int) (m:Nat),(∀e∈es,∀y∈e.2,(y.natAbs:Int)<pw L)->(s.natAbs:Int)<=m*(pw L*pw L)->((es.foldl (lstep zs c) s).natAbs:Int)<=((m+es.length:Nat):Int)*(pw L*pw L):=by
  intro es;induction es with
  |nil=>intro s m _ h;simpa using h
  |cons e es ih=>
   intro s m he h;rw[List.foldl_cons,List.length_cons];have h1:=ih (lstep zs c s e) (m+1) (fun e' h'=>he e' (by simp[h'])) (by
    have h2:=hM _ _ (hG zs e.1 hz) (hG e.2 c (he e (by simp)));have h3:((lstep zs c s e).natAbs:Int)<=(s.natAbs:Int)+((zs.getD e.1 0*e.2.getD c 0).natAbs:Int):=by unfold lstep;omega
    rw[Int.natCast_add,Int.add_mul]
    omega)
   rw[show m+(es.length+1)=m+1+es.length by omega];exact h1
 have h1:=key es (lead*x) 1 he (by have:=hM lead x hl hx;omega);rw[show pw (L+L+1)=4294967296*pw (L+L)from rfl,hp];have h2:((1+es.length:Nat):Int)*(pw L*pw L)<=4000000001*(pw L*pw L):=Int.mul_le_mul_of_nonneg_right (by omega) (Int.mul_nonneg (by omega) (by omega));have h3:0<pw L*pw L:=Int.mul_pos h0 h0;omega
theorem ai3(c:Nat)(P:List Nat):((c:Int)∈P.map (fun p:Nat=>(p:Int)))↔c∈P:=by
 simp only[List.mem_map];constructor
 ·rintro ⟨u,h,e⟩;obtain rfl:u=c:=by omega
  exact h
 ·exact fun h=>⟨c,h,rfl⟩
theorem aef{n f K M:Nat}{w V:World}{z:Int}{ng ng':Bool}{a a':Option Addr}{m m' c c':Nat}(hf:n<=f)(h:V.heap[f]? = some (.cells #[.bool ng',.slice a' m' c'] 45 (0,0)))(hb:Below n w V)(ho:FrW K z M (.agg #[.bool ng,.slice a m c]) V):FrW K z M (.agg #[.bool ng,.slice a m c]) ((V.setCell ⟨f,0,none⟩ (.bool ng)).setCell ⟨f,1,none⟩ (.slice a m c))/\Below n w ((V.setCell ⟨f,0,none⟩ (.bool ng)).setCell ⟨f,1,none⟩ (.slice a m c))/\(loadVar 45 ⟨f,0,none⟩).run Tryz.prog ((V.setCell ⟨f,0,none⟩ (.bool ng)).setCell ⟨f,1,none⟩ (.slice a m c))=.ok (.agg #[.bool ng,.slice a m c]) ((V.setCell ⟨f,0,none⟩ (.bool ng)).setCell ⟨f,1,none⟩ (.slice a m c)):=
 ⟨ho.ru (acl h _ _),(hb.setCell hf _).setCell hf _,lvw2 (abv h _ _)⟩
theorem asf(W:World)(g0:Nat)(hg0:W.heap.size=g0)(c:Nat)(x lead:Int)(xv vr:Value)(g1 g2 q n L M:Nat)(zs:List Int)(P:List Nat)(rows:List (List Int))(h1:W.heap[g1]? = some (.cells #[.pointer (some ⟨q,0,none⟩)] 199 (0,0)))(h2:W.heap[g2]? = some (.cells #[vr] 39 (0,0)))(hr:IsRow W vr zs L)(hB:Bas W q P rows lead L)(hx:IsW x L xv W)(hzn:zs.length=n)(hcn:c<n)(hrn:∀r∈rows,r.length=n)(hP:∀p∈P,p<n)(hPl:P.length=rows.length)(hPm:P.length<=100000000)(hL:L<=100000000)(hM:((lft lead zs P rows c x).natAbs:Int)<pw M):
  Calls Tryz.prog 179 #[.int .i64 (c:Int),xv,.pointer (some ⟨g1,0,none⟩),.pointer (some ⟨g2,0,none⟩)] W fun e W'=>∃v,e=.returned v/\FrW g0 (lft lead zs P rows c x) M v W'/\Below g0 W W':=by
 obtain⟨nx,ax,mx,cx,xs,rfl,_⟩:=id hx;obtain⟨rv,pv,lng,la,lm,lc,hbq,hMr,hPr,hLd⟩:=hB;obtain⟨pa,pc,rfl,hPz⟩:=hPr.parts;obtain⟨ma,mc,rfl,hMz⟩:=hMr.parts;obtain⟨ra,rc,rfl,_⟩:=hr.parts;have hb5:Below W.heap.size W ((W.alloc (.cells #[.bool nx,.slice ax mx cx] 45)).alloc (.cells #[.bool false,.slice none 0 0] 45)):=by(repeat' first|with_reducible(first|exact Below.refl _ _|assumption|refine gdrewN ?_ _|refine Below.alloc ?_ ?_ _|refine Below.drew ?_|refine Below.setCell ?_ ?_ _)|go_size)
 have hx5:((W.alloc (.cells #[.bool nx,.slice ax mx cx] 45)).alloc (.cells #[.bool false,.slice none 0 0] 45)).heap[W.heap.size]? = some (.cells #[.bool nx,.slice ax mx cx] 45 (0,0)):=abb (heap_alloc_new W _);have hz5:((W.alloc (.cells #[.bool nx,.slice ax mx cx] 45)).alloc (.cells #[.bool false,.slice none 0 0] 45)).heap[W.heap.size+1]? = some (.cells #[.bool false,.slice none 0 0] 45 (0,0)):=by
  have:=heap_alloc_new (W.alloc (.cells #[.bool nx,.slice ax mx cx] 45)) (.cells #[.bool false,.slice none 0 0] 45);simpa using this
 have hs5:((W.alloc (.cells #[.bool nx,.slice ax mx cx] 45)).alloc (.cells #[.bool false,.slice none 0 0] 45)).heap.size=W.heap.size+2:=by simp
 have HLDb:Hid ((lead.natAbs:Int)<pw L):=acz hLd;have HXb:Hid ((x.natAbs:Int)<pw L):=acz hx;have HZb:Hid (∀z∈zs,(z.natAbs:Int)<pw L):=abe hr;have HRb:Hid (∀r∈rows,∀y∈r,(y.natAbs:Int)<pw L):=(fun r hr'=>by
  obtain⟨i,hi⟩:=List.mem_iff_getElem?.1 hr';obtain⟨_,_,u,_,_,_,hu⟩:=hMr.cell hi
  exact abe hu)
 have HXW:=hide (hx.ru (Ru.of_below hb5));have HLD:=hide (hLd.ru (Ru.of_below hb5));have HRW:=hide (hr.below hb5);have HMR:=hide (hMr.below hb5);have HPR:=hide (hPr.below hb5);have HBQ:=hide ((hb5.block _ (aaa hbq)).trans hbq);have HG1:=hide ((hb5.block _ (aaa h1)).trans h1);have HG2:=hide ((hb5.block _ (aaa h2)).trans h2);have HPl:=hide (And.intro hPl (And.intro hP (And.intro hrn hzn)));have HM:=hide hM;clear h1 h2 hr hx hbq hMr hPr hLd hPl hP hrn hM;go_enter Tryz.func179,Tryz.ntmps179
 go_upto_region 1 with fail
 generalize (W.alloc (.cells #[.bool nx,.slice ax mx cx] 45)).alloc (.cells #[.bool false,.slice none 0 0] 45)=w5 at *
 rw[hg0]at hx5 hz5 hb5 hs5;have HX5:=hide hx5;have HZ5:=hide hz5;have HB5:=hide hb5;have c1:w5.cell? ⟨g1,0,none⟩=some (.pointer (some ⟨q,0,none⟩)):=by rw[cell_of_row _ _ _ _ _ (0,0) HG1.out];rfl
 have c2:w5.cell? ⟨g2,0,none⟩=some (.slice ra zs.length rc):=by rw[cell_of_row _ _ _ _ _ (0,0) HG2.out];rfl
 have b0:w5.cell? ⟨q,0,none⟩=some (.slice ma rows.length mc):=by rw[cell_of_row _ _ _ _ _ (0,0) HBQ.out];rfl
 have b1:w5.cell? ⟨q,1,none⟩=some (.slice pa P.length pc):=by rw[cell_of_row _ _ _ _ _ (0,0) HBQ.out];rfl
 have b2:w5.cell? ⟨q,2,none⟩=some (.bool lng):=by rw[cell_of_row _ _ _ _ _ (0,0) HBQ.out];rfl
 have b3:w5.cell? ⟨q,2+1,none⟩=some (.slice la lm lc):=by rw[cell_of_row _ _ _ _ _ (0,0) HBQ.out];rfl
 have hg1:=aaa HG1.out;have hg2:=aaa HG2.out;have hq:=aaa HBQ.out;have KC:=ahh w5 pa P.length pc _ (c:Int) HPR.out.nums;rw[show decide ((c:Int)∈P.map (fun p:Nat=>(p:Int)))=decide (c∈P) by rw[decide_eq_decide];exact ai3 c P]at KC;have KC:=hide KC;clear hx5 hz5 hb5;go_wp2_with fail
 refine KC.out.mono ?_;rintro e w6 ⟨rfl,h6⟩;obtain rfl:w5=w6:=h6.symm;clear h6;by_cases hcP:c∈P
 ·rw[decide_eq_true hcP];obtain⟨_,z0,z1,f0,f1⟩:=aaf HZ5.out;have HE:=hide (aef (K:=g0) (M:=M) (z:=0) (n:=g0) (Nat.le_succ g0) HZ5.out HB5.out (ae7 _ (by have:=HB5.out.size;omega)));clear KC;go_wp2;exact bodyPost_ret (v:=.agg #[.bool false,.slice none 0 0]) (acb (g:=g0+1) rfl rfl HE.out.2.2) rfl ⟨_,rfl,by rw[lft,if_pos hcP];exact HE.out.1,HE.out.2.1⟩
 ·rw[decide_eq_false hcP];clear KC;go_upto_region 3 with fail
  refine aby 7 [17,18,19,20,21,22,7] [Eqs (.pointer (some ⟨q,0,none⟩)),Eqs (.pointer (some ⟨q,0,none⟩)),Eqs (.pointer (some ⟨q,2,none⟩)),(IsW lead L),(IsW x L),(FrW g0 (lead*x) (L+L)),(NewW w5.heap.size)] rfl rfl (by decide) (by kernel_rfl) (by kernel_rfl) (by decide) (by kernel_rfl) ⟨Eqs.mono _,Eqs.mono _,Eqs.mono _,(Mono.of4 (IsW.mono4 _ _)),(Mono.of4 (IsW.mono4 _ _)),(Mono.of4 (FrW.mono4 _ _ _)),(NewW.mono _),trivial⟩ ?_ ?_
  ·exact⟨⟨rfl,fun a_ w_ _ hB hR hD=>ac4 ((hR 2 rfl).trans (aab rfl)) ((hB.cell (p:=⟨g1,0,none⟩) hg1).trans c1)⟩,
     ⟨rfl,fun a_ w_ _ hB hR hD=>aeu (show a_.eval (.tmp 17)=.pointer (some ⟨q,0,none⟩)from hD 0 rfl)⟩,
     ⟨rfl,fun a_ w_ _ hB hR hD=>afz fab2 (show a_.eval (.tmp 18)=.pointer (some ⟨q,0,none⟩)from hD 1 rfl)⟩,
     ⟨rfl,fun a_ w_ _ hB hR hD=>ab3 (show a_.eval (.tmp 19)=.pointer (some ⟨q,2,none⟩)from hD 2 rfl) ((hB.cell (p:=⟨q,2,none⟩) hq).trans b2) ((hB.cell (p:=⟨q,2+1,none⟩) hq).trans b3) (Mono.of4 (IsW.mono4 _ _) _ _ _ hB HLD.out)⟩,
     ⟨rfl,fun a_ w_ _ hB hR hD=>ac8 ((hR 5 rfl).trans (aab rfl)) ((hB.block _ (aaa HX5.out)).trans HX5.out) (Mono.of4 (IsW.mono4 _ _) _ _ _ hB HXW.out)⟩,
     ⟨rfl,fun a_ w_ _ hB hR hD=>adx (show(IsW lead L) (a_.eval (.tmp 20)) w_ from hD 3 rfl) (show(IsW x L) (a_.eval (.tmp 21)) w_ from hD 4 rfl) (by omega) (by omega) (by have:=HB5.out.size;have:=hB.size;omega)⟩,
     ⟨rfl,fun a_ w_ _ hB hR hD=>aqk hB.size⟩,
     trivial⟩
  ·intro a' w' hn' hd' hB' hR' hP';have e17:a'.eval (.tmp 17)=.pointer (some ⟨q,0,none⟩):=hP' 0 (by decide);have e18:a'.eval (.tmp 18)=.pointer (some ⟨q,0,none⟩):=hP' 1 (by decide);have e19:a'.eval (.tmp 19)=.pointer (some ⟨q,2,none⟩):=hP' 2 (by decide);obtain⟨u20,e20⟩:∃u,a'.eval (.tmp 20)=u:=⟨_,rfl⟩;obtain⟨u21,e21⟩:∃u,a'.eval (.tmp 21)=u:=⟨_,rfl⟩;obtain⟨u22,e22⟩:∃u,a'.eval (.tmp 22)=u:=⟨_,rfl⟩;have hT:(FrW g0 (lead*x) (L+L)) (a'.eval (.tmp 22)) w':=hP' 5 (by decide);rw[e22]at hT;obtain⟨u7,e7⟩:∃u,a'.eval (.tmp 7)=u:=⟨_,rfl⟩;have hN:(NewW w5.heap.size) (a'.eval (.tmp 7)) w':=hP' 6 (by decide);rw[e7]at hN;refine aat hn' hd' hR' (.s4 rfl <| .same rfl <| .same rfl <| .same rfl <| .new e7 <| .s4 rfl <| .s4 rfl <| .same rfl <| .new e17 <| .new e18 <| .new e19 <| .new e20 <| .new e21 <| .new e22 <| .s16 rfl <| .s4 rfl <| .s4 rfl <| .s4 rfl <| .same rfl <| .nil) ?_;clear e17 e18 e19 e20 e21 e22 e7;obtain⟨ng7,a7,m7,c7,rfl⟩:=hT.agg;obtain⟨g7,hg7,rfl,hh7⟩:=hN;obtain⟨_,s0,s1,sf0,sf1⟩:=aaf hh7;have hE7:=aef (n:=w5.heap.size) hg7 hh7 hB' hT;have hS7:=abv hh7 (.bool ng7) (.slice a7 m7 c7);have HHM:=hide (And.intro hcP (And.intro hPm hMz));clear hn' hd' hR' hP';go_upto_region 4 with fail
   generalize (w'.setCell ⟨g7,0,none⟩ (.bool ng7)).setCell ⟨g7,1,none⟩ (.slice a7 m7 c7)=w7 at *
   obtain⟨hF7,hB7,_⟩:=hE7;have c1':=(hB7.cell (p:=⟨g1,0,none⟩) hg1).trans c1;have b1':=(hB7.cell (p:=⟨q,1,none⟩) hq).trans b1;have HF7:=hide (hF7.fit (L':=L+L+1) (by have:=am9 (zs:=zs) (c:=c) HLDb.out HXb.out HZb.out [] (fun e he=>by cases he) (by simp);simpa using this));have HB7:=hide hB7;have HS7:=hide hS7;clear hF7 hB7 hS7 hh7 hT hB' s0 s1 sf0 sf1;go_wp2_with fail
   go_loopw [8,9,28] (fun _ _ iv wr=>∃(k:Nat),iv=.int .i64 k/\k<=P.length/\Below w5.heap.size w5 wr/\∃sng sa sm sc,wr.heap[g7]? = some (.cells #[.bool sng,.slice sa sm sc] 45 (0,0))/\FrW g0 (((P.zip rows).take k).foldl (lstep zs c) (lead*x)) (L+L+1) (.agg #[.bool sng,.slice sa sm sc]) wr) (fun _ _ iv _=>P.length-(intOf iv).toNat)
   case atStart=>exact⟨0,rfl,Nat.zero_le _,HB7.out,ng7,a7,m7,c7,HS7.out,HF7.out⟩
   case round=>
    obtain⟨k,rfl,hk,hbw,sng,sa,sm,sc,hs7,hf7⟩:=hrel;have HW:=hide hbw;have HSr:=hide hs7;have HFr:=hide hf7;by_cases hlt:k<P.length
    ·have hlt':(k:Int)<(P.length:Int):=by omega
     obtain⟨p,hp⟩:∃p,P[k]? = some p:=⟨_,List.getElem?_eq_getElem hlt⟩;obtain⟨r,hr⟩:∃r,rows[k]? = some r:=⟨_,List.getElem?_eq_getElem (by have:=HPl.out.1;omega)⟩;have hpn:p<zs.length:=by rw[HPl.out.2.2.2];exact HPl.out.2.1 p (List.mem_of_getElem? hp)
     have hrl:r.length=n:=HPl.out.2.2.1 r (List.mem_of_getElem? hr);have hkm:k<rows.length:=(List.getElem?_eq_some_iff.1 hr).1;have hcn':c<r.length:=by omega
     obtain⟨y1,hy1⟩:∃y,zs[p]? = some y:=⟨_,List.getElem?_eq_getElem hpn⟩;obtain⟨y2,hy2⟩:∃y,r[c]? = some y:=⟨_,List.getElem?_eq_getElem hcn'⟩;obtain⟨pb,po,rfl,hpb,p0⟩:=(HPR.out.below hbw).cell hp;obtain⟨mb,mo,uv,rfl,hmb,m0,hur⟩:=(HMR.out.below hbw).cell hr;obtain⟨ea,ec,rfl,_⟩:=hur.parts;obtain⟨eb,eo,eng,ea',em',ec',rfl,heb,e0,e1,hy2w⟩:=hur.cell hy2;obtain⟨rb,ro,rng,ra',rm',rc',rfl,hrb,r0,r1,hy1w⟩:=(HRW.out.below hbw).cell hy1;have HY1:=hide hy1w;have HY2:=hide hy2w;have c1r:=(hbw.cell (p:=⟨g1,0,none⟩) hg1).trans c1;have c2r:=(hbw.cell (p:=⟨g2,0,none⟩) hg2).trans c2;have b0r:=(hbw.cell (p:=⟨q,0,none⟩) hq).trans b0;have hg1r:=Nat.lt_of_lt_of_le hg1 hbw.size;have hg2r:=Nat.lt_of_lt_of_le hg2 hbw.size;have hqr:=Nat.lt_of_lt_of_le hq hbw.size;obtain⟨sk,hsk⟩:∃s,((P.zip rows).take k).foldl (lstep zs c) (lead*x)=s:=⟨_,rfl⟩;have HSK:=hide (hf7.is);rw[hsk]at HSK;have HNX:Hid (((P.zip rows).take (k+1)).foldl (lstep zs c) (lead*x)=sk-y1*y2):=by
      have hz:(P.zip rows)[k]? = some (p,r):=by rw[List.getElem?_zip_eq_some];exact⟨hp,hr⟩
      refine(show _=_ from ?_);rw[agn _ _ hz,hsk,lstep,List.getD_eq_getElem?_getD,List.getD_eq_getElem?_getD,hy1,hy2];rfl
     clear hbw hs7 hf7 hy1w hy2w hur hp hr hy1 hy2 hsk;go_upto_region 7 with fail
     refine aby 17 [33,34,35,36,37,38,39,40,41,42,43,44,45,46,47,48,49] [(IsW sk (L+L+1)),Eqs (.slice (some ⟨rb,ro,none⟩) zs.length rc),Eqs (.int .i64 (p:Int)),Eqs (.pointer (some ⟨rb,ro+p*2,none⟩)),(IsW y1 L),Eqs (.pointer (some ⟨q,0,none⟩)),Eqs (.pointer (some ⟨q,0,none⟩)),Eqs (.pointer (some ⟨q,0,none⟩)),Eqs (.slice (some ⟨mb,mo,none⟩) rows.length mc),Eqs (.int .i64 (k:Int)),Eqs (.pointer (some ⟨mb,mo+k,none⟩)),Eqs (.slice (some ⟨eb,eo,none⟩) r.length ec),Eqs (.int .i64 (c:Int)),Eqs (.pointer (some ⟨eb,eo+c*2,none⟩)),(IsW y2 L),(FrW g0 (y1*y2) (L+L)),(FrW g0 (sk-y1*y2) (L+L+1+(L+L)+1))] rfl rfl (by decide) (by kernel_rfl) (by kernel_rfl) (by decide) (by kernel_rfl) ⟨(Mono.of4 (IsW.mono4 _ _)),Eqs.mono _,Eqs.mono _,Eqs.mono _,(Mono.of4 (IsW.mono4 _ _)),Eqs.mono _,Eqs.mono _,Eqs.mono _,Eqs.mono _,Eqs.mono _,Eqs.mono _,Eqs.mono _,Eqs.mono _,Eqs.mono _,(Mono.of4 (IsW.mono4 _ _)),(Mono.of4 (FrW.mono4 _ _ _)),(Mono.of4 (FrW.mono4 _ _ _)),trivial⟩ ?_ ?_
     ·exact⟨⟨rfl,fun a_ w_ _ hB hR hD=>ac8 ((hR 7 rfl).trans (aab rfl)) ((hB.block _ (aaa HSr.out)).trans HSr.out) (Mono.of4 (IsW.mono4 _ _) _ _ _ hB HSK.out)⟩,
        ⟨rfl,fun a_ w_ _ hB hR hD=>acu ((hR 3 rfl).trans (aab rfl)) ((hB.cell (p:=⟨g2,0,none⟩) hg2r).trans c2r)⟩,
        ⟨rfl,fun a_ w_ _ hB hR hD=>aal ((hR 9 rfl).trans (aab rfl))⟩,
        ⟨rfl,fun a_ w_ _ hB hR hD=>abm (show a_.eval (.tmp 34)=.slice (some ⟨rb,ro,none⟩) zs.length rc from hD 1 rfl) rfl (show a_.eval (.tmp 35)=.int .i64 (p:Int)from hD 2 rfl) hpn⟩,
        ⟨rfl,fun a_ w_ _ hB hR hD=>ab3 (show a_.eval (.tmp 36)=.pointer (some ⟨rb,ro+p*2,none⟩)from hD 3 rfl) ((hB.cell (p:=⟨rb,ro+p*2,none⟩) hrb).trans r0) ((hB.cell (p:=⟨rb,ro+p*2+1,none⟩) hrb).trans r1) (Mono.of4 (IsW.mono4 _ _) _ _ _ hB HY1.out)⟩,
        ⟨rfl,fun a_ w_ _ hB hR hD=>ac4 ((hR 2 rfl).trans (aab rfl)) ((hB.cell (p:=⟨g1,0,none⟩) hg1r).trans c1r)⟩,
        ⟨rfl,fun a_ w_ _ hB hR hD=>aeu (show a_.eval (.tmp 38)=.pointer (some ⟨q,0,none⟩)from hD 5 rfl)⟩,
        ⟨rfl,fun a_ w_ _ hB hR hD=>afz fab0 (show a_.eval (.tmp 39)=.pointer (some ⟨q,0,none⟩)from hD 6 rfl)⟩,
        ⟨rfl,fun a_ w_ _ hB hR hD=>akg (show a_.eval (.tmp 40)=.pointer (some ⟨q,0,none⟩)from hD 7 rfl) ((hB.cell (p:=⟨q,0,none⟩) hqr).trans b0r)⟩,
        ⟨rfl,fun a_ w_ _ hB hR hD=>aal ((hR 8 rfl).trans (aab rfl))⟩,
        ⟨rfl,fun a_ w_ _ hB hR hD=>akh (show a_.eval (.tmp 41)=.slice (some ⟨mb,mo,none⟩) rows.length mc from hD 8 rfl) rfl (show a_.eval (.tmp 42)=.int .i64 (k:Int)from hD 9 rfl) hkm⟩,
        ⟨rfl,fun a_ w_ _ hB hR hD=>acu (show a_.eval (.tmp 43)=.pointer (some ⟨mb,mo+k,none⟩)from hD 10 rfl) ((hB.cell (p:=⟨mb,mo+k,none⟩) hmb).trans m0)⟩,
        ⟨rfl,fun a_ w_ _ hB hR hD=>aal ((hR 0 rfl).trans (aab rfl))⟩,
        ⟨rfl,fun a_ w_ _ hB hR hD=>abm (show a_.eval (.tmp 44)=.slice (some ⟨eb,eo,none⟩) r.length ec from hD 11 rfl) rfl (show a_.eval (.tmp 45)=.int .i64 (c:Int)from hD 12 rfl) hcn'⟩,
        ⟨rfl,fun a_ w_ _ hB hR hD=>ab3 (show a_.eval (.tmp 46)=.pointer (some ⟨eb,eo+c*2,none⟩)from hD 13 rfl) ((hB.cell (p:=⟨eb,eo+c*2,none⟩) heb).trans e0) ((hB.cell (p:=⟨eb,eo+c*2+1,none⟩) heb).trans e1) (Mono.of4 (IsW.mono4 _ _) _ _ _ hB HY2.out)⟩,
        ⟨rfl,fun a_ w_ _ hB hR hD=>adx (show(IsW y1 L) (a_.eval (.tmp 37)) w_ from hD 4 rfl) (show(IsW y2 L) (a_.eval (.tmp 47)) w_ from hD 14 rfl) (by omega) (by omega) (by have:=HB5.out.size;have:=HW.out.size;have:=hB.size;omega)⟩,
        ⟨rfl,fun a_ w_ _ hB hR hD=>aki (show(IsW sk (L+L+1)) (a_.eval (.tmp 33)) w_ from hD 0 rfl) (FrW.is (show(FrW g0 (y1*y2) (L+L)) (a_.eval (.tmp 48)) w_ from hD 15 rfl)) (by omega) (by omega) (by have:=HB5.out.size;have:=HW.out.size;have:=hB.size;omega)⟩,
        trivial⟩
     ·intro a' w' hn' hd' hB' hR' hP';obtain⟨u33,e33⟩:∃u,a'.eval (.tmp 33)=u:=⟨_,rfl⟩;have e34:a'.eval (.tmp 34)=.slice (some ⟨rb,ro,none⟩) zs.length rc:=hP' 1 (by decide);have e35:a'.eval (.tmp 35)=.int .i64 (p:Int):=hP' 2 (by decide);have e36:a'.eval (.tmp 36)=.pointer (some ⟨rb,ro+p*2,none⟩):=hP' 3 (by decide);obtain⟨u37,e37⟩:∃u,a'.eval (.tmp 37)=u:=⟨_,rfl⟩;have e38:a'.eval (.tmp 38)=.pointer (some ⟨q,0,none⟩):=hP' 5 (by decide);have e39:a'.eval (.tmp 39)=.pointer (some ⟨q,0,none⟩):=hP' 6 (by decide);have e40:a'.eval (.tmp 40)=.pointer (some ⟨q,0,none⟩):=hP' 7 (by decide);have e41:a'.eval (.tmp 41)=.slice (some ⟨mb,mo,none⟩) rows.length mc:=hP' 8 (by decide);have e42:a'.eval (.tmp 42)=.int .i64 (k:Int):=hP' 9 (by decide);have e43:a'.eval (.tmp 43)=.pointer (some ⟨mb,mo+k,none⟩):=hP' 10 (by decide);have e44:a'.eval (.tmp 44)=.slice (some ⟨eb,eo,none⟩) r.length ec:=hP' 11 (by decide);have e45:a'.eval (.tmp 45)=.int .i64 (c:Int):=hP' 12 (by decide);have e46:a'.eval (.tmp 46)=.pointer (some ⟨eb,eo+c*2,none⟩):=hP' 13 (by decide);obtain⟨u47,e47⟩:∃u,a'.eval (.tmp 47)=u:=⟨_,rfl⟩;obtain⟨u48,e48⟩:∃u,a'.eval (.tmp 48)=u:=⟨_,rfl⟩;obtain⟨u49,e49⟩:∃u,a'.eval (.tmp 49)=u:=⟨_,rfl⟩;have hT:(FrW g0 (sk-y1*y2) (L+L+1+(L+L)+1)) (a'.eval (.tmp 49)) w':=hP' 16 (by decide);rw[e49]at hT;refine aat hn' hd' hR' (.s16 rfl <| .s16 rfl <| .same rfl <| .new e33 <| .new e34 <| .new e35 <| .new e36 <| .new e37 <| .new e38 <| .new e39 <| .new e40 <| .new e41 <| .new e42 <| .new e43 <| .new e44 <| .new e45 <| .new e46 <| .new e47 <| .new e48 <| .new e49 <| .same rfl <| .same rfl <| .nil) ?_;clear e33 e34 e35 e36 e37 e38 e39 e40 e41 e42 e43 e44 e45 e46 e47 e48 e49;obtain⟨ng9,a9,m9,c9,rfl⟩:=hT.agg;have hs9:=(hB'.block _ (aaa HSr.out)).trans HSr.out;obtain⟨_,s0,s1,sf0,sf1⟩:=aaf hs9;have HE9:=hide (aef (n:=w5.heap.size) hg7 hs9 (HW.out.trans (hB'.mono HW.out.size)) hT);have HS9:=hide (abv hs9 (.bool ng9) (.slice a9 m9 c9));clear hn' hd' hR' hP' hB' hT hs9;go_wp2;go_roundw
      case rel=>
       refine⟨k+1,by go_num,by omega,HE9.out.2.1,ng9,a9,m9,c9,HS9.out,?_⟩;rw[HNX.out];refine HE9.out.1.fit ?_;rw[<-HNX.out];exact am9 HLDb.out HXb.out HZb.out _ (fun e he=>HRb.out _ (List.of_mem_zip (List.mem_of_mem_take he)).2) (by rw[List.length_take,List.length_zip];have:=HHM.out.2.1;omega)
      case measure=>simp[intOf];omega
    ·have hlt':decide ((k:Int)<(P.length:Int))=false:=by simp;omega
     obtain⟨_,s0,s1,sf0,sf1⟩:=aaf hs7;have hz9:=(hbw.block _ (aaa HZ5.out)).trans HZ5.out;obtain⟨_,t0,t1,tf0,tf1⟩:=aaf hz9;have hfl:((P.zip rows).take k).foldl (lstep zs c) (lead*x)=lft lead zs P rows c x:=by
      rw[lft,if_neg HHM.out.1,List.take_of_length_le (by rw[List.length_zip];omega)]
     rw[hfl]at hf7;have HE:=hide (aef (K:=g0) (M:=M) (n:=g0) (Nat.le_succ g0) hz9 (HB5.out.trans (hbw.mono (by have:=HB5.out.size;omega))) (hf7.fit HM.out));clear hbw hs7 hf7 hz9 hfl;go_wp2;exact bodyPost_ret (v:=_) (acb (g:=g0+1) rfl rfl HE.out.2.2) rfl ⟨_,rfl,HE.out.1,HE.out.2.1⟩
theorem aae{W:World}{f:Nat}{x:Value}{T:TypeId}(h:W.heap[f]? = some (.cells #[x] T (0,0))):f<W.heap.size/\W.cell? ⟨f,0,none⟩=some x/\W.frozen? ⟨f,0,none⟩=false:=⟨aaa h,by rw[cell_of_row _ _ _ _ _ (0,0) h];rfl,frozen_of_row _ _ _ _ _ h⟩
theorem ORow.low{K K':Nat}{w:World}{v:Value}{zs:List Int}{L:Nat}(h:ORow K w v zs L)(hk:K'<=K):ORow K' w v zs L:=by
 obtain⟨bv,e,hK,⟨es,B,T,h1,h2,h3,h4,h5⟩,hl⟩:=h;exact⟨bv,e,Nat.le_trans hk hK,⟨es,B,T,h1,h2,h3,fun k e z a b c=>by obtain⟨g1,g2,g3,g4,g5⟩:=h4 k e z a b c;exact⟨g1,g2,g3,Nat.le_trans hk g4,g5⟩,h5⟩,hl⟩
theorem auu:Has Tryz.prog 179:=by unfold Has;kernel_rfl
structure Shp (n:Nat) (P:List Nat) (rows:List (List Int)):Prop where
 rl:∀r∈rows,r.length=n
 lt:∀p∈P,p<n
 pl:P.length=rows.length
 pm:P.length<=100000000
def lftR(lead:Int)(zs:List Int)(P:List Nat)(rows:List (List Int))(n:Nat):List Int:=gRow (fun c=>lft lead zs P rows c (zs.getD c 0)) n
theorem alk(w:World)(q n L M:Nat)(vr:Value)(zs:List Int)(P:List Nat)(rows:List (List Int))(lead:Int)(hr:IsRow w vr zs L)(hB:Bas w q P rows lead L)(hzn:zs.length=n)(hS:Shp n P rows)(hn:n<=1000000000)(hL:L<=100000000)(hM:∀z∈lftR lead zs P rows n,(z.natAbs:Int)<pw M):
  Calls Tryz.prog 166 #[.pointer (some ⟨q,0,none⟩),vr] w fun e w'=>∃r,e=.returned r/\ORow w.heap.size w' r (lftR lead zs P rows n) M/\Below w.heap.size w w':=by
 subst hzn;obtain⟨ra,rc,rfl,_⟩:=hr.parts;have hmf:∀(fn:Fn) (first cap:Array Value) (w:World),(Instr.makeFunc fn first cap).run Tryz.prog w=.ok (.func fn first cap) w:=fun _ _ _ _=>rfl
 obtain⟨w2,hw2⟩:∃w2,(w.alloc (.cells #[.pointer (some ⟨q,0,none⟩)] 199)).alloc (.cells #[.slice ra zs.length rc] 39)=w2:=⟨_,rfl⟩;have h1:w2.heap[w.heap.size]? = some (.cells #[.pointer (some ⟨q,0,none⟩)] 199 (0,0)):=by rw[<-hw2];exact abb (heap_alloc_new w _)
 have h2:w2.heap[w.heap.size+1]? = some (.cells #[.slice ra zs.length rc] 39 (0,0)):=by
  rw[<-hw2];have:=heap_alloc_new (w.alloc (.cells #[.pointer (some ⟨q,0,none⟩)] 199)) (.cells #[.slice ra zs.length rc] 39);simpa using this
 have hb2:Below w.heap.size w w2:=by rw[<-hw2];exact(hAl _ _).trans ((hAl _ _).mono (hAl _ _).size)
 have hT:Turn w2 179 #[.pointer (some ⟨w.heap.size,0,none⟩),.pointer (some ⟨w.heap.size+1,0,none⟩)] zs L M (fun c=>lft lead zs P rows c (zs.getD c 0)):=by
  intro W c z xv hb hz hx;have hc:c<zs.length:=(List.getElem?_eq_some_iff.1 hz).1;have hzd:zs.getD c 0=z:=by rw[List.getD_eq_getElem?_getD,hz];rfl
  have hbW:=hb2.trans (hb.mono hb2.size);have hMc:((lft lead zs P rows c z).natAbs:Int)<pw M:=hM _ (by
   rw[<-hzd]
   exact List.mem_map.2 ⟨c,List.mem_range.2 (by omega),rfl⟩)
  have K:=asf W W.heap.size rfl c z lead xv (.slice ra zs.length rc) w.heap.size (w.heap.size+1) q zs.length L M zs P rows ((hb.block _ (aaa h1)).trans h1) ((hb.block _ (aaa h2)).trans h2) (hr.below hbW) (hB.below hbW) hx rfl (by omega) hS.rl hS.lt hS.pl hS.pm hL hMc;have e1:(fun c=>lft lead zs P rows c (zs.getD c 0)) c=lft lead zs P rows c z:=by show lft lead zs P rows c (zs.getD c 0)=_;rw[hzd]
  rw[e1];exact K
 have K:=ad8 w2 _ zs L M (hr.below hb2) (by omega) _ auu _ _ hT;obtain⟨_,c2,_⟩:=aae h2;have HW2:=hide hw2;have HB2:=hide hb2;have K:=hide K;clear hr hB hS hM hT h1 h2 hb2 hw2;go_enter Tryz.func166,Tryz.ntmps166
 go_upto_region 1 with fail
 rw[HW2.out];go_wp2_with fail
 refine K.out.mono ?_;rintro e w3 ⟨r,rfl,ho,hb3⟩;obtain⟨ao,cap,rfl,_⟩:=ho.is.parts;have HO:=hide ho;have HB3:=hide (HB2.out.trans (hb3.mono HB2.out.size));clear ho hb3 K;go_wp2;refine bodyPost_ret (v:=_) (by simp[results,Tryz.results166,go_sem];try rfl) rfl ⟨_,rfl,HO.out.low HB2.out.size,HB3.out⟩
theorem ah5{dst:Option Tmp}{ty:TypeId}{pos:String}{after:Array Edge}{guard:Option (Nat×Bool)}{a:Act}{w:World}{k:Nat}{p:Addr}{z:Int}(hp:a.eval (.tmp k)=.pointer (some p))(hc:w.cell? p=some (.int .i64 z)):
  Does Tryz.prog {dst,op:=.load 3 (.tmp k),type:=ty,pos,after,guard} a.eval w fun v' w'=>Below w.heap.size w w'/\Eqs (.int .i64 z) v' w':=by
 refine aa3 (v:=.int .i64 z) ?_ ⟨Below.refl _ _,rfl⟩;rw[hp];go_simp
theorem asg:Has Tryz.prog 183:=by unfold Has;kernel_rfl
theorem auv{dst:Option Tmp}{ty:TypeId}{pos:String}{after:Array Edge}{guard:Option (Nat×Bool)}{a:Act}{w:World}{ats:Array TypeId}{i j:Nat}{x y:Int}{L M K:Nat}(h1:IsW x L (a.eval (.tmp i)) w)(h2:IsW y M (a.eval (.tmp j)) w)(hL:L<=400000000)(hM:M<=400000000)(hK:K<=w.heap.size):
  Does Tryz.prog {dst,op:=.call {callee:=.value (.func 183),args:=#[.tmp i,.tmp j],argTypes:=ats},type:=ty,pos,after,guard} a.eval w fun v w'=>Below w.heap.size w w'/\FrW K (x/y) (L+4) v w':=
 aah asg #[_,_] (by simp) ((ahg _ x y _ _ L M h1 h2 hL hM).mono fun e w' ⟨v,h,hf,hb⟩=>⟨v,h,hb,hf.low hK⟩)
theorem ash(W:World)(g0:Nat)(hg0:W.heap.size=g0)(k:Nat)(x:Int)(xv:Value)(L:Nat)(hx:IsW x L xv W)(hL:L<=100000000):
  Calls Tryz.prog 193 #[.int .i64 (k:Int),xv] W fun e W'=>∃v,e=.returned v/\FrW g0 (-x) L v W'/\Below g0 W W':=by
 obtain⟨nx,ax,mx,cx,xs,rfl,_⟩:=id hx;have hb5:Below W.heap.size W ((W.alloc (.cells #[.bool nx,.slice ax mx cx] 45)).alloc (.cells #[.bool false,.slice none 0 0] 45)):=by(repeat' first|with_reducible(first|exact Below.refl _ _|assumption|refine gdrewN ?_ _|refine Below.alloc ?_ ?_ _|refine Below.drew ?_|refine Below.setCell ?_ ?_ _)|go_size)
 have hz5:((W.alloc (.cells #[.bool nx,.slice ax mx cx] 45)).alloc (.cells #[.bool false,.slice none 0 0] 45)).heap[W.heap.size+1]? = some (.cells #[.bool false,.slice none 0 0] 45 (0,0)):=by
  have:=heap_alloc_new (W.alloc (.cells #[.bool nx,.slice ax mx cx] 45)) (.cells #[.bool false,.slice none 0 0] 45);simpa using this
 have K:=negF _ x _ L (hx.ru (Ru.of_below hb5)) (by omega);rw[hg0]at hb5 hz5;have HB5:=hide hb5;have HZ5:=hide hz5;have K:=hide K;clear hx hb5 hz5;go_enter Tryz.func193,Tryz.ntmps193
 go_wp2_with fail
 refine K.out.mono ?_;rintro e w6 ⟨v,rfl,hf,hb6⟩;obtain⟨ng6,a6,m6,c6,rfl⟩:=hf.agg;have hz6:=(hb6.block _ (aaa HZ5.out)).trans HZ5.out;obtain⟨_,z0,z1,f0,f1⟩:=aaf hz6;have hb06:=HB5.out.trans (hb6.mono (by have:=HB5.out.size;omega));have HE:=hide (aef (K:=g0) (n:=g0) (Nat.le_succ g0) hz6 hb06 (hf.low (by have:=HB5.out.size;omega)));clear hf hb6 hz6 hb06 K;go_wp2;exact bodyPost_ret (v:=_) (acb (g:=g0+1) rfl rfl HE.out.2.2) rfl ⟨_,rfl,HE.out.1,HE.out.2.1⟩
theorem asi(W:World)(g0:Nat)(hg0:W.heap.size=g0)(k cc gl gc gr gb q L M:Nat)(x lead:Int)(xv lv rv:Value)(ls rs:List Int)(y1 y2 y3:Int)(u0 u1:Value)(lng:Bool)(la:Option Addr)(lm lc:Nat)
  (h1:W.heap[gl]? = some (.cells #[lv] 39 (0,0))) (h2:W.heap[gc]? = some (.cells #[.int .i64 (cc:Int)] 3 (0,0))) (h3:W.heap[gr]? = some (.cells #[rv] 39 (0,0))) (h4:W.heap[gb]? = some (.cells #[.pointer (some ⟨q,0,none⟩)] 199 (0,0))) (h5:W.heap[q]? = some (.cells #[u0,u1,.bool lng,.slice la lm lc] 187 (0,0)))
  (hl:IsRow W lv ls L) (hr:IsRow W rv rs L) (hd:IsW lead L (.agg #[.bool lng,.slice la lm lc]) W) (hx:IsW x L xv W) (hy1:ls[cc]? = some y1) (hy2:rs[cc]? = some y2) (hy3:ls[k]? = some y3) (hL:L<=50000000) (hM:(((y1*x-y2*y3)/lead).natAbs:Int)<pw M) :
  Calls Tryz.prog 194 #[.int .i64 (k:Int),xv,.pointer (some ⟨gl,0,none⟩),.pointer (some ⟨gc,0,none⟩),.pointer (some ⟨gr,0,none⟩),.pointer (some ⟨gb,0,none⟩)] W fun e W'=>∃v,e=.returned v/\FrW g0 ((y1*x-y2*y3)/lead) M v W'/\Below g0 W W':=by
 obtain⟨nx,ax,mx,cx,xs,rfl,_⟩:=id hx;obtain⟨lav,lcp,rfl,_⟩:=hl.parts;obtain⟨rav,rcp,rfl,_⟩:=hr.parts;have hb5:Below W.heap.size W ((W.alloc (.cells #[.bool nx,.slice ax mx cx] 45)).alloc (.cells #[.bool false,.slice none 0 0] 45)):=by(repeat' first|with_reducible(first|exact Below.refl _ _|assumption|refine gdrewN ?_ _|refine Below.alloc ?_ ?_ _|refine Below.drew ?_|refine Below.setCell ?_ ?_ _)|go_size)
 have hx5:((W.alloc (.cells #[.bool nx,.slice ax mx cx] 45)).alloc (.cells #[.bool false,.slice none 0 0] 45)).heap[W.heap.size]? = some (.cells #[.bool nx,.slice ax mx cx] 45 (0,0)):=abb (heap_alloc_new W _);have hz5:((W.alloc (.cells #[.bool nx,.slice ax mx cx] 45)).alloc (.cells #[.bool false,.slice none 0 0] 45)).heap[W.heap.size+1]? = some (.cells #[.bool false,.slice none 0 0] 45 (0,0)):=by
  have:=heap_alloc_new (W.alloc (.cells #[.bool nx,.slice ax mx cx] 45)) (.cells #[.bool false,.slice none 0 0] 45);simpa using this
 have HXW:=hide (hx.ru (Ru.of_below hb5));have HLD:=hide (hd.ru (Ru.of_below hb5));obtain⟨lb,lo,n1,a1,m1,c1,rfl,hlb,l0,l1,hw1⟩:=(hl.below hb5).cell hy1;obtain⟨lb',lo',n3,a3,m3,c3,e3,_,k0,k1,hw3⟩:=(hl.below hb5).cell hy3;obtain⟨rfl,rfl⟩:lb=lb'/\lo=lo':=by simpa using e3
 obtain⟨rb,ro,n2,a2,m2,c2,rfl,hrb,r0,r1,hw2⟩:=(hr.below hb5).cell hy2;have HY1:=hide hw1;have HY2:=hide hw2;have HY3:=hide hw3;have hcl:cc<ls.length:=(List.getElem?_eq_some_iff.1 hy1).1;have hcr:cc<rs.length:=(List.getElem?_eq_some_iff.1 hy2).1;have hkl:k<ls.length:=(List.getElem?_eq_some_iff.1 hy3).1;obtain⟨hgl,cl,_⟩:=aae ((hb5.block _ (aaa h1)).trans h1);obtain⟨hgc,ccl,_⟩:=aae ((hb5.block _ (aaa h2)).trans h2);obtain⟨hgr,cr,_⟩:=aae ((hb5.block _ (aaa h3)).trans h3);obtain⟨hgb,cb,_⟩:=aae ((hb5.block _ (aaa h4)).trans h4);have hq5:=(hb5.block _ (aaa h5)).trans h5;have b2:=(show _=some (Value.bool lng)from by rw[cell_of_row _ _ _ _ _ (0,0) hq5];rfl:((W.alloc (.cells #[.bool nx,.slice ax mx cx] 45)).alloc (.cells #[.bool false,.slice none 0 0] 45)).cell? ⟨q,2,none⟩=some (.bool lng));have b3:=(show _=some (Value.slice la lm lc)from by rw[cell_of_row _ _ _ _ _ (0,0) hq5];rfl:((W.alloc (.cells #[.bool nx,.slice ax mx cx] 45)).alloc (.cells #[.bool false,.slice none 0 0] 45)).cell? ⟨q,2+1,none⟩=some (.slice la lm lc));have hq:=aaa hq5;have HM:=hide hM;clear hl hr hd hx hy1 hy2 hy3 hw1 hw2 hw3 e3 h1 h2 h3 h4 h5 hq5 hM;go_enter Tryz.func194,Tryz.ntmps194
 go_upto_region 1 with fail
 generalize (W.alloc (.cells #[.bool nx,.slice ax mx cx] 45)).alloc (.cells #[.bool false,.slice none 0 0] 45)=w5 at *
 rw[hg0]at hx5 hz5 hb5;have HX5:=hide hx5;have HZ5:=hide hz5;have HB5:=hide hb5;clear hx5 hz5 hb5;refine aby 17 [10,11,12,13,14,15,16,17,18,19,20,21,22,23,24,25,9] [Eqs (.slice (some ⟨lb,lo,none⟩) ls.length lcp),Eqs (.int .i64 (cc:Int)),Eqs (.pointer (some ⟨lb,lo+cc*2,none⟩)),(IsW y1 L),(IsW x L),(FrW g0 (y1*x) (L+L)),Eqs (.slice (some ⟨rb,ro,none⟩) rs.length rcp),Eqs (.int .i64 (cc:Int)),Eqs (.pointer (some ⟨rb,ro+cc*2,none⟩)),(IsW y2 L),Eqs (.slice (some ⟨lb,lo,none⟩) ls.length lcp),Eqs (.int .i64 (k:Int)),Eqs (.pointer (some ⟨lb,lo+k*2,none⟩)),(IsW y3 L),(FrW g0 (y2*y3) (L+L)),(FrW g0 (y1*x-y2*y3) (L+L+(L+L)+1)),(NewW w5.heap.size)] rfl rfl (by decide) (by kernel_rfl) (by kernel_rfl) (by decide) (by kernel_rfl) ⟨Eqs.mono _,Eqs.mono _,Eqs.mono _,(Mono.of4 (IsW.mono4 _ _)),(Mono.of4 (IsW.mono4 _ _)),(Mono.of4 (FrW.mono4 _ _ _)),Eqs.mono _,Eqs.mono _,Eqs.mono _,(Mono.of4 (IsW.mono4 _ _)),Eqs.mono _,Eqs.mono _,Eqs.mono _,(Mono.of4 (IsW.mono4 _ _)),(Mono.of4 (FrW.mono4 _ _ _)),(Mono.of4 (FrW.mono4 _ _ _)),(NewW.mono _),trivial⟩ ?_ ?_
 ·exact⟨⟨rfl,fun a_ w_ _ hB hR hD=>acu ((hR 2 rfl).trans (aab rfl)) ((hB.cell (p:=⟨gl,0,none⟩) hgl).trans cl)⟩,
    ⟨rfl,fun a_ w_ _ hB hR hD=>ah5 ((hR 3 rfl).trans (aab rfl)) ((hB.cell (p:=⟨gc,0,none⟩) hgc).trans ccl)⟩,
    ⟨rfl,fun a_ w_ _ hB hR hD=>abm (show a_.eval (.tmp 10)=.slice (some ⟨lb,lo,none⟩) ls.length lcp from hD 0 rfl) rfl (show a_.eval (.tmp 11)=.int .i64 (cc:Int)from hD 1 rfl) hcl⟩,
    ⟨rfl,fun a_ w_ _ hB hR hD=>ab3 (show a_.eval (.tmp 12)=.pointer (some ⟨lb,lo+cc*2,none⟩)from hD 2 rfl) ((hB.cell (p:=⟨lb,lo+cc*2,none⟩) hlb).trans l0) ((hB.cell (p:=⟨lb,lo+cc*2+1,none⟩) hlb).trans l1) (Mono.of4 (IsW.mono4 _ _) _ _ _ hB HY1.out)⟩,
    ⟨rfl,fun a_ w_ _ hB hR hD=>ac8 ((hR 7 rfl).trans (aab rfl)) ((hB.block _ (aaa HX5.out)).trans HX5.out) (Mono.of4 (IsW.mono4 _ _) _ _ _ hB HXW.out)⟩,
    ⟨rfl,fun a_ w_ _ hB hR hD=>adx (show(IsW y1 L) (a_.eval (.tmp 13)) w_ from hD 3 rfl) (show(IsW x L) (a_.eval (.tmp 14)) w_ from hD 4 rfl) (by omega) (by omega) (by have:=HB5.out.size;have:=hB.size;omega)⟩,
    ⟨rfl,fun a_ w_ _ hB hR hD=>acu ((hR 4 rfl).trans (aab rfl)) ((hB.cell (p:=⟨gr,0,none⟩) hgr).trans cr)⟩,
    ⟨rfl,fun a_ w_ _ hB hR hD=>ah5 ((hR 3 rfl).trans (aab rfl)) ((hB.cell (p:=⟨gc,0,none⟩) hgc).trans ccl)⟩,
    ⟨rfl,fun a_ w_ _ hB hR hD=>abm (show a_.eval (.tmp 16)=.slice (some ⟨rb,ro,none⟩) rs.length rcp from hD 6 rfl) rfl (show a_.eval (.tmp 17)=.int .i64 (cc:Int)from hD 7 rfl) hcr⟩,
    ⟨rfl,fun a_ w_ _ hB hR hD=>ab3 (show a_.eval (.tmp 18)=.pointer (some ⟨rb,ro+cc*2,none⟩)from hD 8 rfl) ((hB.cell (p:=⟨rb,ro+cc*2,none⟩) hrb).trans r0) ((hB.cell (p:=⟨rb,ro+cc*2+1,none⟩) hrb).trans r1) (Mono.of4 (IsW.mono4 _ _) _ _ _ hB HY2.out)⟩,
    ⟨rfl,fun a_ w_ _ hB hR hD=>acu ((hR 2 rfl).trans (aab rfl)) ((hB.cell (p:=⟨gl,0,none⟩) hgl).trans cl)⟩,
    ⟨rfl,fun a_ w_ _ hB hR hD=>aal ((hR 0 rfl).trans (aab rfl))⟩,
    ⟨rfl,fun a_ w_ _ hB hR hD=>abm (show a_.eval (.tmp 20)=.slice (some ⟨lb,lo,none⟩) ls.length lcp from hD 10 rfl) rfl (show a_.eval (.tmp 21)=.int .i64 (k:Int)from hD 11 rfl) hkl⟩,
    ⟨rfl,fun a_ w_ _ hB hR hD=>ab3 (show a_.eval (.tmp 22)=.pointer (some ⟨lb,lo+k*2,none⟩)from hD 12 rfl) ((hB.cell (p:=⟨lb,lo+k*2,none⟩) hlb).trans k0) ((hB.cell (p:=⟨lb,lo+k*2+1,none⟩) hlb).trans k1) (Mono.of4 (IsW.mono4 _ _) _ _ _ hB HY3.out)⟩,
    ⟨rfl,fun a_ w_ _ hB hR hD=>adx (show(IsW y2 L) (a_.eval (.tmp 19)) w_ from hD 9 rfl) (show(IsW y3 L) (a_.eval (.tmp 23)) w_ from hD 13 rfl) (by omega) (by omega) (by have:=HB5.out.size;have:=hB.size;omega)⟩,
    ⟨rfl,fun a_ w_ _ hB hR hD=>aki (FrW.is (show(FrW g0 (y1*x) (L+L)) (a_.eval (.tmp 15)) w_ from hD 5 rfl)) (FrW.is (show(FrW g0 (y2*y3) (L+L)) (a_.eval (.tmp 24)) w_ from hD 14 rfl)) (by omega) (by omega) (by have:=HB5.out.size;have:=hB.size;omega)⟩,
    ⟨rfl,fun a_ w_ _ hB hR hD=>aqk hB.size⟩,
    trivial⟩
 ·intro a' w' hn' hd' hB' hR' hP';have e10:a'.eval (.tmp 10)=.slice (some ⟨lb,lo,none⟩) ls.length lcp:=hP' 0 (by decide);have e11:a'.eval (.tmp 11)=.int .i64 (cc:Int):=hP' 1 (by decide);have e12:a'.eval (.tmp 12)=.pointer (some ⟨lb,lo+cc*2,none⟩):=hP' 2 (by decide);obtain⟨u13,e13⟩:∃u,a'.eval (.tmp 13)=u:=⟨_,rfl⟩;obtain⟨u14,e14⟩:∃u,a'.eval (.tmp 14)=u:=⟨_,rfl⟩;obtain⟨u15,e15⟩:∃u,a'.eval (.tmp 15)=u:=⟨_,rfl⟩;have e16:a'.eval (.tmp 16)=.slice (some ⟨rb,ro,none⟩) rs.length rcp:=hP' 6 (by decide);have e17:a'.eval (.tmp 17)=.int .i64 (cc:Int):=hP' 7 (by decide);have e18:a'.eval (.tmp 18)=.pointer (some ⟨rb,ro+cc*2,none⟩):=hP' 8 (by decide);obtain⟨u19,e19⟩:∃u,a'.eval (.tmp 19)=u:=⟨_,rfl⟩;have e20:a'.eval (.tmp 20)=.slice (some ⟨lb,lo,none⟩) ls.length lcp:=hP' 10 (by decide);have e21:a'.eval (.tmp 21)=.int .i64 (k:Int):=hP' 11 (by decide);have e22:a'.eval (.tmp 22)=.pointer (some ⟨lb,lo+k*2,none⟩):=hP' 12 (by decide);obtain⟨u23,e23⟩:∃u,a'.eval (.tmp 23)=u:=⟨_,rfl⟩;obtain⟨u24,e24⟩:∃u,a'.eval (.tmp 24)=u:=⟨_,rfl⟩;obtain⟨u25,e25⟩:∃u,a'.eval (.tmp 25)=u:=⟨_,rfl⟩;have hT:(FrW g0 (y1*x-y2*y3) (L+L+(L+L)+1)) (a'.eval (.tmp 25)) w':=hP' 15 (by decide);rw[e25]at hT;obtain⟨u9,e9⟩:∃u,a'.eval (.tmp 9)=u:=⟨_,rfl⟩;have hN:(NewW w5.heap.size) (a'.eval (.tmp 9)) w':=hP' 16 (by decide);rw[e9]at hN;refine aat hn' hd' hR' (.s4 rfl <| .s4 rfl <| .same rfl <| .new e9 <| .new e10 <| .new e11 <| .new e12 <| .new e13 <| .new e14 <| .new e15 <| .new e16 <| .new e17 <| .new e18 <| .new e19 <| .new e20 <| .new e21 <| .new e22 <| .new e23 <| .new e24 <| .new e25 <| .s4 rfl <| .same rfl <| .same rfl <| .nil) ?_;clear e10 e11 e12 e13 e14 e15 e16 e17 e18 e19 e20 e21 e22 e23 e24 e25 e9;obtain⟨ng9,a9,m9,c9,rfl⟩:=hT.agg;obtain⟨g9,hg9,rfl,hh9⟩:=hN;obtain⟨_,s0,s1,sf0,sf1⟩:=aaf hh9;have hE9:=aef (n:=w5.heap.size) hg9 hh9 hB' hT;have hS9:=abv hh9 (.bool ng9) (.slice a9 m9 c9);clear hn' hd' hR' hP';go_upto_region 2 with fail
  generalize (w'.setCell ⟨g9,0,none⟩ (.bool ng9)).setCell ⟨g9,1,none⟩ (.slice a9 m9 c9)=w9 at *
  obtain⟨hF9,hB9,_⟩:=hE9;have cb9:=(hB9.cell (p:=⟨gb,0,none⟩) hgb).trans cb;have b29:=(hB9.cell (p:=⟨q,2,none⟩) hq).trans b2;have b39:=(hB9.cell (p:=⟨q,2+1,none⟩) hq).trans b3;have hgb9:=Nat.lt_of_lt_of_le hgb hB9.size;have hq9:=Nat.lt_of_lt_of_le hq hB9.size;have HLD9:=hide (HLD.out.ru (Ru.of_below hB9));have HF9:=hide hF9.is;have HB9:=hide hB9;have HS9:=hide hS9;clear hF9 hB9 hS9 hh9 hT hB' s0 s1 sf0 sf1;refine aby 6 [26,27,28,29,30,31] [(IsW (y1*x-y2*y3) (L+L+(L+L)+1)),Eqs (.pointer (some ⟨q,0,none⟩)),Eqs (.pointer (some ⟨q,0,none⟩)),Eqs (.pointer (some ⟨q,2,none⟩)),(IsW lead L),(FrW g0 ((y1*x-y2*y3)/lead) (L+L+(L+L)+1+4))] rfl rfl (by decide) (by kernel_rfl) (by kernel_rfl) (by decide) (by kernel_rfl) ⟨(Mono.of4 (IsW.mono4 _ _)),Eqs.mono _,Eqs.mono _,Eqs.mono _,(Mono.of4 (IsW.mono4 _ _)),(Mono.of4 (FrW.mono4 _ _ _)),trivial⟩ ?_ ?_
  ·exact⟨⟨rfl,fun a_ w_ _ hB hR hD=>ac8 ((hR 9 rfl).trans (aab rfl)) ((hB.block _ (aaa HS9.out)).trans HS9.out) (Mono.of4 (IsW.mono4 _ _) _ _ _ hB HF9.out)⟩,
     ⟨rfl,fun a_ w_ _ hB hR hD=>ac4 ((hR 5 rfl).trans (aab rfl)) ((hB.cell (p:=⟨gb,0,none⟩) hgb9).trans cb9)⟩,
     ⟨rfl,fun a_ w_ _ hB hR hD=>aeu (show a_.eval (.tmp 27)=.pointer (some ⟨q,0,none⟩)from hD 1 rfl)⟩,
     ⟨rfl,fun a_ w_ _ hB hR hD=>afz fab2 (show a_.eval (.tmp 28)=.pointer (some ⟨q,0,none⟩)from hD 2 rfl)⟩,
     ⟨rfl,fun a_ w_ _ hB hR hD=>ab3 (show a_.eval (.tmp 29)=.pointer (some ⟨q,2,none⟩)from hD 3 rfl) ((hB.cell (p:=⟨q,2,none⟩) hq9).trans b29) ((hB.cell (p:=⟨q,2+1,none⟩) hq9).trans b39) (Mono.of4 (IsW.mono4 _ _) _ _ _ hB HLD9.out)⟩,
     ⟨rfl,fun a_ w_ _ hB hR hD=>auv (show(IsW (y1*x-y2*y3) (L+L+(L+L)+1)) (a_.eval (.tmp 26)) w_ from hD 0 rfl) (show(IsW lead L) (a_.eval (.tmp 30)) w_ from hD 4 rfl) (by omega) (by omega) (by have:=HB5.out.size;have:=HB9.out.size;have:=hB.size;omega)⟩,
     trivial⟩
  ·intro a' w' hn' hd' hB' hR' hP';obtain⟨u26,e26⟩:∃u,a'.eval (.tmp 26)=u:=⟨_,rfl⟩;have e27:a'.eval (.tmp 27)=.pointer (some ⟨q,0,none⟩):=hP' 1 (by decide);have e28:a'.eval (.tmp 28)=.pointer (some ⟨q,0,none⟩):=hP' 2 (by decide);have e29:a'.eval (.tmp 29)=.pointer (some ⟨q,2,none⟩):=hP' 3 (by decide);obtain⟨u30,e30⟩:∃u,a'.eval (.tmp 30)=u:=⟨_,rfl⟩;obtain⟨u31,e31⟩:∃u,a'.eval (.tmp 31)=u:=⟨_,rfl⟩;have hT2:(FrW g0 ((y1*x-y2*y3)/lead) (L+L+(L+L)+1+4)) (a'.eval (.tmp 31)) w':=hP' 5 (by decide);rw[e31]at hT2;refine aat hn' hd' hR' (.s16 rfl <| .s4 rfl <| .s4 rfl <| .same rfl <| .same rfl <| .new e26 <| .new e27 <| .new e28 <| .new e29 <| .new e30 <| .new e31 <| .nil) ?_;clear e26 e27 e28 e29 e30 e31;obtain⟨ngA,aA,mA,cA,rfl⟩:=hT2.agg;have hzA:=(hB'.block _ (Nat.lt_of_lt_of_le (aaa HZ5.out) HB9.out.size)).trans ((HB9.out.block _ (aaa HZ5.out)).trans HZ5.out);obtain⟨_,t0,t1,tf0,tf1⟩:=aaf hzA;have hbA:=HB5.out.trans ((HB9.out.trans (hB'.mono HB9.out.size)).mono (by have:=HB5.out.size;omega));have HE:=hide (aef (K:=g0) (M:=M) (n:=g0) (Nat.le_succ g0) hzA hbA (hT2.fit HM.out));clear hn' hd' hR' hP' hB' hT2 hzA hbA;go_wp2;exact bodyPost_ret (v:=_) (acb (g:=g0+1) rfl rfl HE.out.2.2) rfl ⟨_,rfl,HE.out.1,HE.out.2.1⟩
def waits(ops:Array Oper):Nat->Nat->Nat->Bool
 |0,_,_=>false
 |f+1,i,j=>match ops[i]? with
  |some o=>o.after.any fun e=>Region.binds .any e&&(e.on==j||waits ops f e.on j)
  |none=>false
def Shut(ops:Array Oper)(l:Array Bool):Prop:=∀j o,ops[j]? = some o->l.getD j false=true->∀e∈o.after,Region.binds .any e=true->l.getD e.on false=true
theorem abr{ops:Array Oper}{l:Array Bool}(hc:Shut ops l):∀f i j o,ops[i]? = some o->(∀e∈o.after,Region.binds .any e=true->l.getD e.on false=true)->waits ops f i j=true->l.getD j false=true
 |0,_,_,_,_,_,h=>by simp[waits]at h
 |f+1,i,j,o,ho,hl,h=>by
  rw[waits,ho]at h;simp only at h;rw[<-Array.any_toList]at h;obtain⟨e,he,h3⟩:=List.any_eq_true.1 h;replace he:=Array.mem_toList_iff.1 he;simp only[Bool.and_eq_true,Bool.or_eq_true,beq_iff_eq]at h3;obtain⟨hb,h3⟩:=h3;have hd:=hl e he hb;rcases h3 with h3|h3
  ·rw[<-h3];exact hd
  ·cases hq:ops[e.on]? with
   |none=>cases f <;> simp[waits,hq]at h3
   |some q=>exact abr hc f e.on j q hq (hc e.on q hq hd) h3
theorem Shut.set{ops:Array Oper}{l:Array Bool}{i:Nat}{o:Oper}(hc:Shut ops l)(ho:ops[i]? = some o)(hd:∀e∈o.after,Region.binds .any e=true->l.getD e.on false=true):Shut ops (l.setIfInBounds i true):=by
 intro j q hq hj e he hb;have up:l.getD e.on false=true->(l.setIfInBounds i true).getD e.on false=true:=fun h=>by
  by_cases hei:e.on=i
  ·have hlt:e.on<l.size:=by
    apply Classical.byContradiction;intro hn;rw[Array.getD_eq_getD_getElem?,Array.getElem?_eq_none (by omega)]at h;cases h
   rw[hei,Array.getD_eq_getD_getElem?,Array.getElem?_setIfInBounds_self_of_lt (by omega)];rfl
  ·rw[getD_set_ne false (fun h=>hei h.symm)];exact h
 by_cases hji:j=i
 ·subst hji;obtain rfl:o=q:=by rw[ho]at hq;exact Option.some.inj hq
  exact up (hd e he hb)
 ·rw[getD_set_ne false (fun h=>hji h.symm)]at hj;exact up (hc j q hq hj e he hb)
theorem adq{P:Program}{ops:Array Oper}{Q:Exit->Act->World->Prop}{id n:Nat}{a:Act}{w:World}(m:Nat)(Ds:List Nat)(Ps:List Says)(hm:P.follows .mixedOrders=true)(hn:a.tmps.size=n)(hnd:Ds.Nodup)(hlt:(Ds.all fun d=>decide (d<n))=true)
  (hdep:(ops.toList.zipIdx.all fun p=>p.1.after.all fun e=>decide (e.on<p.2))=true) (hms:m<=ops.size) (hall:((List.range ops.size).all fun i=>decide (i<m)||(List.range i).all fun j=>waits ops ops.size i j)=true) (hM:Monos Ps) (hD:Duties P n Ds Ps a w (ops.toList.take m) Ds Ps)
  (hend:∀a' w',a'.tmps.size=n->a'.defers=a.defers->Below w.heap.size w w'->Rest Ds a a'->(∀j,j<Ds.length->Ps.getD j (fun _ _=>True) (a'.eval (.tmp (Ds.getD j 0))) w')->wpList P ops Q (ops.toList.drop m) a' w'):(Code.region id ops true).wp P Q a w:=by
 obtain⟨hlen,hat⟩:=hD.take hms;have hL:∀k,k<=ops.size->wpOps P ops Q (List.range' k (ops.size-k))=wpList P ops Q (ops.toList.drop k):=fun k hk=>by
  have:=wpOps_eq_wpList (P:=P) (ops:=ops) (Q:=Q) (ops.toList.drop k) k (fun j=>by rw[List.getElem?_drop,Array.getElem?_toList]);rw[<-this];simp
 have hneed:∀i o,ops[i]? = some o->m<=i->∀l:Array Bool,Shut ops l->(∀e∈o.after,Region.binds .any e=true->l.getD e.on false=true)->∀j,j<i->l.getD j false=true:=by
  intro i o ho hi l hc hl j hj;have hio:i<ops.size:=(Array.getElem?_eq_some_iff.1 ho).1;have h1:=List.all_eq_true.1 hall i (List.mem_range.2 hio);simp only[Bool.or_eq_true,decide_eq_true_eq]at h1;rcases h1 with h1|h1
  ·omega
  ·exact abr hc _ i j o ho hl (List.all_eq_true.1 h1 j (List.mem_range.2 hj))
 refine abf hm (fun l a' w'=>(l.size=ops.size/\Shut ops l)/\(((∀j,m<=j->l.getD j false=false)/\Mid n Ds Ps a w (l.extract 0 m) a' w')\/∃j,m<j/\j<=ops.size/\(∀k,k<j->l.getD k false=true)/\(∀k,j<=k->l.getD k false=false)/\wpOps P ops Q (List.range' j (ops.size-j)) a' w')) ?_ ?_ ?_
 ·refine⟨⟨by simp,fun j o _ hj=>?_⟩,.inl ⟨fun j _=>?_,by simp[hlen];omega,hn,rfl,Below.drew (Below.refl _ _),fun _ _=>rfl,fun j hj=>?_⟩⟩
  ·exfalso;simp[Array.getElem?_replicate]at hj;split at hj <;> simp at hj
  ·simp[Array.getElem?_replicate];split <;> simp
  ·exfalso;by_cases hjm:j<m
   ·rw[aad hjm]at hj;simp[Array.getElem?_replicate]at hj;split at hj <;> simp at hj
   ·rw[Array.getD_eq_getD_getElem?,Array.getElem?_eq_none (by simp;omega)]at hj;simp at hj
 ·rintro l a' w' ⟨⟨hs,hcl⟩,hI⟩ hr;have hal:=adn hdep hs hr;rcases hI with⟨h1,h2,h3,h4,h5,h6,h7⟩|⟨j,hj1,hj2,hj3,hj4,hj5⟩
  ·have hmo:m=ops.size:=by
    apply Classical.byContradiction;intro hne;have:=hal m (by omega);rw[h1 m (Nat.le_refl _)]at this;cases this
   have:=hend a' w' h3 h4 h5 h6 (fun j hj=>h7 j (by rw[aad (by omega)];exact hal j (by omega)));rw[List.drop_eq_nil_of_le (by simp;omega)]at this;exact this
  ·have hje:j=ops.size:=by
    apply Classical.byContradiction;intro hne;have:=hal j (by omega);rw[hj4 j (Nat.le_refl _)]at this;cases this
   subst hje;simpa[wpOps]using hj5
 ·rintro l a' w' ⟨⟨hs,hcl⟩,hI⟩ i hi;obtain⟨hun,o,ho,hdeps⟩:=mem_ready.1 hi;have hio:i<ops.size:=(Array.getElem?_eq_some_iff.1 ho).1;have hset:∀k,k≠i->(l.setIfInBounds i true).getD k false=l.getD k false:=fun k hk=>getD_set_ne false (fun e=>hk e.symm)
  have hseti:(l.setIfInBounds i true).getD i false=true:=by
   rw[Array.getD_eq_getD_getElem?,Array.getElem?_setIfInBounds_self_of_lt (by omega)];rfl
  have hif:l.getD i false=false:=by
   rw[Array.getD_eq_getD_getElem?]at hun ⊢;cases hc:l[i]? with
   |none=>rfl
   |some b=>rw[hc]at hun;simpa using hun
  have hcl':Shut ops (l.setIfInBounds i true):=hcl.set ho hdeps;have hrun:∀j,j=i->wpOps P ops Q (List.range' j (ops.size-j)) a' w'->m<=j->(∀k,k<j->l.getD k false=true)->(∀k,j<=k->l.getD k false=false)->wpOp P ops Q i (fun a' w'=>((l.setIfInBounds i true).size=ops.size/\Shut ops (l.setIfInBounds i true))/\(((∀j,m<=j->(l.setIfInBounds i true).getD j false=false)/\Mid n Ds Ps a w ((l.setIfInBounds i true).extract 0 m) a' w')\/∃j,m<j/\j<=ops.size/\(∀k,k<j->(l.setIfInBounds i true).getD k false=true)/\(∀k,j<=k->(l.setIfInBounds i true).getD k false=false)/\wpOps P ops Q (List.range' j (ops.size-j)) a' w')) a' w':=by
   rintro j rfl hw hmj hlo hhi;rw[show ops.size-j=(ops.size-(j+1))+1 by omega,List.range'_succ,wpOps_cons]at hw;refine wpOp_mono (fun a2 w2 h=>⟨⟨by simpa using hs,hcl'⟩,.inr ⟨j+1,by omega,by omega,fun k hk=>?_,fun k hk=>?_,h⟩⟩) hw
   ·by_cases e:k=j
    ·subst e;exact hseti
    ·rw[hset k e];exact hlo k (by omega)
   ·rw[hset k (by omega)];exact hhi k (by omega)
  rcases hI with⟨h1,hmid⟩|⟨j,hj1,hj2,hj3,hj4,hj5⟩
  ·by_cases him:i<m
   ·have hd':∀e∈o.after,Region.binds .any e=true->(l.extract 0 m).getD e.on false=true:=fun e he hb=>by
     have h2:=List.all_eq_true.1 hdep (o,i) (by rw[List.mem_zipIdx_iff_getElem?];simpa using ho);have h3:e.on<i:=by simpa using Array.all_eq_true_iff_forall_mem.1 h2 e he
     rw[aad (by omega)];exact hdeps e he hb
    refine wpOp_mono (fun a2 w2 h=>⟨⟨by simpa using hs,hcl'⟩,.inl ⟨fun k hk=>?_,?_⟩⟩) (ae6 hat (by omega) hnd hlt hM ho (by omega) hmid hd')
    ·rw[hset k (by omega)];exact h1 k hk
    ·rw[ab5];exact h
   ·have hpre:=hneed i o ho (by omega) l hcl hdeps;have hie:i=m:=by
     apply Classical.byContradiction;intro hne;have:=hpre m (by omega);rw[h1 m (Nat.le_refl _)]at this;cases this
    subst hie;obtain⟨h2,h3,h4,h5,h6,h7⟩:=hmid;have hw:=hend a' w' h3 h4 h5 h6 (fun j hj=>h7 j (by rw[aad (by omega)];exact hpre j (by omega)));rw[<-hL _ hms]at hw;exact hrun i rfl hw (Nat.le_refl _) hpre h1
  ·have hij:i=j:=by
    apply Classical.byContradiction;intro hne;by_cases hlt':i<j
    ·rw[hj3 i hlt']at hif;cases hif
    ·have:=hneed i o ho (by omega) l hcl hdeps j (by omega);rw[hj4 j (Nat.le_refl _)]at this;cases this
   exact hrun j hij.symm hj5 (by omega) hj3 hj4
structure Tch (g:Nat) (w w':World):Prop where
 os:w'.os=w.os
 tape:w'.tape=w.tape
 output:w'.output=w.output
 size:w.heap.size<=w'.heap.size
 other:∀k,k<w.heap.size->k≠g->w'.heap[k]? = w.heap[k]?
theorem Tch.of_below{g:Nat}{w w':World}(h:Below w.heap.size w w'):Tch g w w':=⟨h.os,h.tape,h.output,h.size,fun k hk _=>h.block k hk⟩
theorem Tch.of_grown{g:Nat}{w w':World}{r:Option Nat}(h:w.grownBy w' r)(hr:∀k,r=some k->k=g):Tch g w w':=⟨h.os,h.tape,h.output,h.size,fun k hk hn=>h.block k hk (fun e=>hn (hr k e.symm))⟩
theorem Tch.trans{g:Nat}{w w' w'':World}(h:Tch g w w')(h':Tch g w' w''):Tch g w w'':=⟨h'.os.trans h.os,h'.tape.trans h.tape,h'.output.trans h.output,Nat.le_trans h.size h'.size,fun k hk hn=>(h'.other k (Nat.lt_of_lt_of_le hk h.size) hn).trans (h.other k hk hn)⟩
theorem Tch.below{g B:Nat}{w w':World}(h:Tch g w w')(hB:B<=w.heap.size)(hg:B<=g):Below B w w':=⟨h.os,h.tape,h.output,h.size,fun k hk=>h.other k (by omega) (by omega)⟩
def Mid3(n g ix:Nat)(Ds:List Nat)(Ps:List Says)(a0:Act)(w0:World)(l:Array Bool)(a:Act)(w:World):Prop:=
 l.size=Ds.length/\a.tmps.size=n/\a.defers=a0.defers/\Tch g w0 w/\Rest Ds a0 a/\(∀j,l.getD j false=true->Ps.getD j (fun _ _=>True) (a.eval (.tmp (Ds.getD j 0))) w)/\(l.getD ix false=false->w.heap[g]? = w0.heap[g]?)
def MonosT(g ix:Nat)(Ps:List Says):Prop:=∀j,j≠ix->∀v w w',Tch g w w'->Ps.getD j (fun _ _=>True) v w->Ps.getD j (fun _ _=>True) v w'
def Duty3(P:Program)(n g ix:Nat)(Ds:List Nat)(Ps:List Says)(a0:Act)(w0:World)(i:Nat)(o:Oper)(d:Nat)(p:Says):Prop:=
 o.dst=some d/\o.guard=none/\∀a w,a.tmps.size=n->Tch g w0 w->Rest Ds a0 a->Deps Ds Ps o a w->(i≠ix->Does P o a.eval w fun v w'=>Below w.heap.size w w'/\p v w')/\(i=ix->w.heap[g]? = w0.heap[g]?->Does P o a.eval w fun v w'=>Tch g w w'/\p v w')
def Duties3(P:Program)(n g ix:Nat)(Ds:List Nat)(Ps:List Says)(a0:Act)(w0:World):Nat->List Oper->List Nat->List Says->Prop
 |_,[],[],[]=>True
 |i,o::os,d::ds,p::ps=>Duty3 P n g ix Ds Ps a0 w0 i o d p/\Duties3 P n g ix Ds Ps a0 w0 (i+1) os ds ps
 |_,_,_,_=>False
theorem Duties3.at{P:Program}{n g ix:Nat}{Ds:List Nat}{Ps:List Says}{a0:Act}{w0:World}: ∀ {m:Nat} {os:List Oper} {ds:List Nat} {ps:List Says},Duties3 P n g ix Ds Ps a0 w0 m os ds ps->ds.length=os.length/\∀i o,os[i]? = some o->Duty3 P n g ix Ds Ps a0 w0 (m+i) o (ds.getD i 0) (ps.getD i fun _ _=>True)
 |_,[],[],[],_=>⟨rfl,fun i o h=>by simp at h⟩
 |m,o::os,d::ds,p::ps,h=>by
  obtain⟨h1,h2⟩:=h;obtain⟨hl,h3⟩:=Duties3.at h2;refine⟨by simp[hl],fun i o' ho=>?_⟩;cases i with
  |zero=>
   simp only[List.getElem?_cons_zero,Option.some.injEq]at ho;subst ho;simpa using h1
  |succ i=>
   have:=h3 i o' (by simpa using ho);rw[show m+1+i=m+(i+1) by omega]at this;simpa using this
 |_,[],_::_,_,h=>h.elim
 |_,[],[],_::_,h=>h.elim
 |_,_::_,[],_,h=>h.elim
 |_,_::_,_::_,[],h=>h.elim
theorem Duties3.take{P:Program}{n g ix:Nat}{Ds:List Nat}{Ps:List Says}{a0:Act}{w0:World}{ops:Array Oper}{m:Nat}(h:Duties3 P n g ix Ds Ps a0 w0 0 (ops.toList.take m) Ds Ps)(hm:m<=ops.size):Ds.length=m/\∀i o,ops[i]? = some o->i<Ds.length->Duty3 P n g ix Ds Ps a0 w0 i o (Ds.getD i 0) (Ps.getD i fun _ _=>True):=by
 obtain⟨hl,hat⟩:=h.at;have hl':Ds.length=m:=by rw[hl,List.length_take];simp;omega
 refine⟨hl',fun i o ho hi=>?_⟩;have:=hat i o (by rw[List.getElem?_take_of_lt (by omega),Array.getElem?_toList];exact ho);rwa[Nat.zero_add]at this
theorem Mid3.put{n g ix:Nat}{Ds:List Nat}{Ps:List Says}{a0:Act}{w0:World}{l:Array Bool}{a:Act}{w w':World}{i:Nat}{v:Value}(h:Mid3 n g ix Ds Ps a0 w0 l a w)(hi:i<Ds.length)(hnd:Ds.Nodup)(hlt:(Ds.all fun d=>decide (d<n))=true)(ht:Tch g w w')(hk:∀j,j≠i->l.getD j false=true->∀u,Ps.getD j (fun _ _=>True) u w->Ps.getD j (fun _ _=>True) u w')(hI:(l.setIfInBounds i true).getD ix false=false->w'.heap[g]? = w.heap[g]?)(hp:Ps.getD i (fun _ _=>True) v w'):
  Mid3 n g ix Ds Ps a0 w0 (l.setIfInBounds i true) (a.put (some (Ds.getD i 0)) v) w':=by
 obtain⟨h1,h2,h3,h4,h5,h6,h7⟩:=h;have hd:Ds.getD i 0<n:=by
  have:=List.all_eq_true.1 hlt (Ds.getD i 0) (by rw[List.getD_eq_getElem?_getD,List.getElem?_eq_getElem hi];simp);simpa using this
 refine⟨by simp[h1],by rw[ae1];simp[h2],h3,h4.trans ht,fun k hk=>?_,fun j hj=>?_,fun hx=>?_⟩
 ·rw[aa9,h5 k hk];rintro rfl;have:Ds.contains (Ds.getD i 0)=true:=by
   rw[List.contains_iff_mem,List.getD_eq_getElem?_getD,List.getElem?_eq_getElem hi];simp
  rw[this]at hk;cases hk
 ·by_cases e:j=i
  ·subst e;rw[act (by omega)];exact hp
  ·rw[getD_set_ne false (fun h=>e h.symm)]at hj;have hjl:j<Ds.length:=by
    rw[Array.getD_eq_getD_getElem?]at hj;cases hc:l[j]? with
    |none=>rw[hc]at hj;simp at hj
    |some b=>rw[<-h1];exact(Array.getElem?_eq_some_iff.1 hc).1
   rw[aa9 (af8 hnd hi hjl (fun h=>e h.symm))];exact hk j e hj _ (h6 j hj)
 ·refine(hI hx).trans (h7 ?_);by_cases e:ix=i
  ·subst e;rw[Array.getD_eq_getD_getElem?,Array.getElem?_setIfInBounds_self_of_lt (by omega)]at hx;cases hx
  ·rwa[getD_set_ne false (fun h=>e h.symm)]at hx
theorem auw{P:Program}{ops:Array Oper}{Q:Exit->Act->World->Prop}{n g ix:Nat}{Ds:List Nat}{Ps:List Says}{a0:Act}{w0:World}{l:Array Bool}{a:Act}{w:World}{i:Nat}{o:Oper}(hgw:g<w0.heap.size)(hat:∀i o,ops[i]? = some o->i<Ds.length->Duty3 P n g ix Ds Ps a0 w0 i o (Ds.getD i 0) (Ps.getD i fun _ _=>True))(hnd:Ds.Nodup)(hlt:(Ds.all fun d=>decide (d<n))=true)(hM:Monos Ps)(hT:MonosT g ix Ps)(ho:ops[i]? = some o)(hil:i<Ds.length)(hun:l.getD i false=false)(h:Mid3 n g ix Ds Ps a0 w0 l a w)(hdeps:∀e∈o.after,Region.binds .any e=true->l.getD e.on false=true):
  wpOp P ops Q i (fun a' w'=>Mid3 n g ix Ds Ps a0 w0 (l.setIfInBounds i true) a' w') a w:=by
 have h':=h;obtain⟨h1,h2,h3,h4,h5,h6,h7⟩:=h;obtain⟨hdst,hgd,hduty⟩:=hat i o ho hil;obtain⟨hd1,hd2⟩:=hduty a w h2 h4 h5 (fun j hj=>by
  obtain⟨e,he,hj⟩:=List.any_eq_true.1 hj;simp only[Bool.and_eq_true,beq_iff_eq]at hj;obtain⟨rfl,hb⟩:=hj
  exact h6 _ (hdeps e (by simpa using he) hb))
 refine wpOp_step ho (fun K' hK=>?_);simp only[Region.wanted,hgd,if_true];by_cases hix:i=ix
 ·subst hix;refine Does.wp (hd2 rfl (h7 hun)) (fun v w' ⟨hb,hp⟩=>?_);rw[hdst];refine hK _ _ (h'.put hil hnd hlt hb (fun j hj _ u hu=>hT j hj u w w' hb hu) (fun hx=>?_) hp);rw[Array.getD_eq_getD_getElem?,Array.getElem?_setIfInBounds_self_of_lt (by omega)]at hx;cases hx
 ·refine Does.wp (hd1 hix) (fun v w' ⟨hb,hp⟩=>?_);rw[hdst];exact hK _ _ (h'.put hil hnd hlt (.of_below hb) (fun j _ _ u hu=>hM.at j u w w' hb hu) (fun _=>hb.block g (Nat.lt_of_lt_of_le hgw h4.size)) hp)
theorem ahi{P:Program}{ops:Array Oper}{Q:Exit->Act->World->Prop}{id n:Nat}{a:Act}{w:World}(g ix m:Nat)(Ds:List Nat)(Ps:List Says)(hgw:g<w.heap.size)(hm:P.follows .mixedOrders=true)(hn:a.tmps.size=n)(hnd:Ds.Nodup)(hlt:(Ds.all fun d=>decide (d<n))=true)
  (hdep:(ops.toList.zipIdx.all fun p=>p.1.after.all fun e=>decide (e.on<p.2))=true) (hms:m<=ops.size) (hall:((List.range ops.size).all fun i=>decide (i<m)||(List.range i).all fun j=>waits ops ops.size i j)=true) (hM:Monos Ps) (hT:MonosT g ix Ps) (hD:Duties3 P n g ix Ds Ps a w 0 (ops.toList.take m) Ds Ps)
  (hend:∀a' w',a'.tmps.size=n->a'.defers=a.defers->Tch g w w'->Rest Ds a a'->(∀j,j<Ds.length->Ps.getD j (fun _ _=>True) (a'.eval (.tmp (Ds.getD j 0))) w')->wpList P ops Q (ops.toList.drop m) a' w'):(Code.region id ops true).wp P Q a w:=by
 obtain⟨hlen,hat⟩:=hD.take hms;have hL:∀k,k<=ops.size->wpOps P ops Q (List.range' k (ops.size-k))=wpList P ops Q (ops.toList.drop k):=fun k hk=>by
  have:=wpOps_eq_wpList (P:=P) (ops:=ops) (Q:=Q) (ops.toList.drop k) k (fun j=>by rw[List.getElem?_drop,Array.getElem?_toList]);rw[<-this];simp
 have hneed:∀i o,ops[i]? = some o->m<=i->∀l:Array Bool,Shut ops l->(∀e∈o.after,Region.binds .any e=true->l.getD e.on false=true)->∀j,j<i->l.getD j false=true:=by
  intro i o ho hi l hc hl j hj;have hio:i<ops.size:=(Array.getElem?_eq_some_iff.1 ho).1;have h1:=List.all_eq_true.1 hall i (List.mem_range.2 hio);simp only[Bool.or_eq_true,decide_eq_true_eq]at h1;rcases h1 with h1|h1
  ·omega
  ·exact abr hc _ i j o ho hl (List.all_eq_true.1 h1 j (List.mem_range.2 hj))
 refine abf hm (fun l a' w'=>(l.size=ops.size/\Shut ops l)/\(((∀j,m<=j->l.getD j false=false)/\Mid3 n g ix Ds Ps a w (l.extract 0 m) a' w')\/∃j,m<j/\j<=ops.size/\(∀k,k<j->l.getD k false=true)/\(∀k,j<=k->l.getD k false=false)/\wpOps P ops Q (List.range' j (ops.size-j)) a' w')) ?_ ?_ ?_
 ·refine⟨⟨by simp,fun j o _ hj=>?_⟩,.inl ⟨fun j _=>?_,by simp[hlen];omega,hn,rfl,.of_below (Below.drew (Below.refl _ _)),fun _ _=>rfl,fun j hj=>?_,fun _=>rfl⟩⟩
  ·exfalso;simp[Array.getElem?_replicate]at hj;split at hj <;> simp at hj
  ·simp[Array.getElem?_replicate];split <;> simp
  ·exfalso;by_cases hjm:j<m
   ·rw[aad hjm]at hj;simp[Array.getElem?_replicate]at hj;split at hj <;> simp at hj
   ·rw[Array.getD_eq_getD_getElem?,Array.getElem?_eq_none (by simp;omega)]at hj;simp at hj
 ·rintro l a' w' ⟨⟨hs,hcl⟩,hI⟩ hr;have hal:=adn hdep hs hr;rcases hI with⟨h1,h2,h3,h4,h5,h6,h7⟩|⟨j,hj1,hj2,hj3,hj4,hj5⟩
  ·have hmo:m=ops.size:=by
    apply Classical.byContradiction;intro hne;have:=hal m (by omega);rw[h1 m (Nat.le_refl _)]at this;cases this
   have:=hend a' w' h3 h4 h5 h6 (fun j hj=>h7.1 j (by rw[aad (by omega)];exact hal j (by omega)));rw[List.drop_eq_nil_of_le (by simp;omega)]at this;exact this
  ·have hje:j=ops.size:=by
    apply Classical.byContradiction;intro hne;have:=hal j (by omega);rw[hj4 j (Nat.le_refl _)]at this;cases this
   subst hje;simpa[wpOps]using hj5
 ·rintro l a' w' ⟨⟨hs,hcl⟩,hI⟩ i hi;obtain⟨hun,o,ho,hdeps⟩:=mem_ready.1 hi;have hio:i<ops.size:=(Array.getElem?_eq_some_iff.1 ho).1;have hset:∀k,k≠i->(l.setIfInBounds i true).getD k false=l.getD k false:=fun k hk=>getD_set_ne false (fun e=>hk e.symm)
  have hseti:(l.setIfInBounds i true).getD i false=true:=by
   rw[Array.getD_eq_getD_getElem?,Array.getElem?_setIfInBounds_self_of_lt (by omega)];rfl
  have hif:l.getD i false=false:=by
   rw[Array.getD_eq_getD_getElem?]at hun ⊢;cases hc:l[i]? with
   |none=>rfl
   |some b=>rw[hc]at hun;simpa using hun
  have hcl':Shut ops (l.setIfInBounds i true):=hcl.set ho hdeps;have hrun:∀j,j=i->wpOps P ops Q (List.range' j (ops.size-j)) a' w'->m<=j->(∀k,k<j->l.getD k false=true)->(∀k,j<=k->l.getD k false=false)->wpOp P ops Q i (fun a' w'=>((l.setIfInBounds i true).size=ops.size/\Shut ops (l.setIfInBounds i true))/\(((∀j,m<=j->(l.setIfInBounds i true).getD j false=false)/\Mid3 n g ix Ds Ps a w ((l.setIfInBounds i true).extract 0 m) a' w')\/∃j,m<j/\j<=ops.size/\(∀k,k<j->(l.setIfInBounds i true).getD k false=true)/\(∀k,j<=k->(l.setIfInBounds i true).getD k false=false)/\wpOps P ops Q (List.range' j (ops.size-j)) a' w')) a' w':=by
   rintro j rfl hw hmj hlo hhi;rw[show ops.size-j=(ops.size-(j+1))+1 by omega,List.range'_succ,wpOps_cons]at hw;refine wpOp_mono (fun a2 w2 h=>⟨⟨by simpa using hs,hcl'⟩,.inr ⟨j+1,by omega,by omega,fun k hk=>?_,fun k hk=>?_,h⟩⟩) hw
   ·by_cases e:k=j
    ·subst e;exact hseti
    ·rw[hset k e];exact hlo k (by omega)
   ·rw[hset k (by omega)];exact hhi k (by omega)
  rcases hI with⟨h1,hmid⟩|⟨j,hj1,hj2,hj3,hj4,hj5⟩
  ·by_cases him:i<m
   ·have hd':∀e∈o.after,Region.binds .any e=true->(l.extract 0 m).getD e.on false=true:=fun e he hb=>by
     have h2:=List.all_eq_true.1 hdep (o,i) (by rw[List.mem_zipIdx_iff_getElem?];simpa using ho);have h3:e.on<i:=by simpa using Array.all_eq_true_iff_forall_mem.1 h2 e he
     rw[aad (by omega)];exact hdeps e he hb
    refine wpOp_mono (fun a2 w2 h=>⟨⟨by simpa using hs,hcl'⟩,.inl ⟨fun k hk=>?_,?_⟩⟩) (auw hgw hat hnd hlt hM hT ho (by omega) (by rw[aad him];exact hif) hmid hd')
    ·rw[hset k (by omega)];exact h1 k hk
    ·rw[ab5];exact h
   ·have hpre:=hneed i o ho (by omega) l hcl hdeps;have hie:i=m:=by
     apply Classical.byContradiction;intro hne;have:=hpre m (by omega);rw[h1 m (Nat.le_refl _)]at this;cases this
    subst hie;obtain⟨h2,h3,h4,h5,h6,h7⟩:=hmid;have hw:=hend a' w' h3 h4 h5 h6 (fun j hj=>h7.1 j (by rw[aad (by omega)];exact hpre j (by omega)));rw[<-hL _ hms]at hw;exact hrun i rfl hw (Nat.le_refl _) hpre h1
  ·have hij:i=j:=by
    apply Classical.byContradiction;intro hne;by_cases hlt':i<j
    ·rw[hj3 i hlt']at hif;cases hif
    ·have:=hneed i o ho (by omega) l hcl hdeps j (by omega);rw[hj4 j (Nat.le_refl _)]at this;cases this
   exact hrun j hij.symm hj5 (by omega) hj3 hj4
end Lm
namespace Md
abbrev Rw:=Nat->Int
def w(x:Rw):(List Nat->Int)->List Nat->Int
 |_,[]=>0
 |g,c::cs=>x c*g cs-w x (fun l=>g (c::l)) cs
theorem ah6(x:Rw){g h:List Nat->Int}(e:∀l,g l=h l)(cs:List Nat):w x g cs=w x h cs:=by
 rw[show g=h from funext e]
theorem a4b(x:Rw)(g h:List Nat->Int)(cs:List Nat):w x (fun l=>g l+h l) cs=w x g cs+w x h cs:=by
 induction cs generalizing g h with
 |nil=>simp[w]
 |cons c cs ih=>simp only[w,ih];grind
theorem asj(x:Rw)(a:Int)(g:List Nat->Int)(cs:List Nat):w x (fun l=>a*g l) cs=a*w x g cs:=by
 induction cs generalizing g with
 |nil=>simp[w]
 |cons c cs ih=>simp only[w,ih];grind
theorem asl(x:Rw)(g:List Nat->Int)(cs:List Nat):w x (fun l=>-g l) cs = -w x g cs:=by
 have:=asj x (-1) g cs;rw[show(fun l=>-g l)=fun l=>-1*g l from funext fun l=>by omega,this];omega
theorem a4c(x:Rw)(g h:List Nat->Int)(cs:List Nat):w x (fun l=>g l-h l) cs=w x g cs-w x h cs:=by
 have:=a4b x g (fun l=>-h l) cs;rw[asl]at this;rw[show(fun l=>g l-h l)=fun l=>g l+-h l from funext fun l=>by omega,this];omega
theorem a26(x:Rw)(cs:List Nat):w x (fun _=>0) cs=0:=by
 have:=asj x 0 (fun _=>0) cs;simpa using this
theorem aux(x y:Rw)(g:List Nat->Int)(cs:List Nat):w x (w y g) cs = -w y (w x g) cs:=by
 induction cs generalizing g with
 |nil=>simp[w]
 |cons c cs ih=>
  have h1:∀(x y:Rw),w x (fun l=>w y g (c::l)) cs=y c*w x g cs-w x (w y (fun l=>g (c::l))) cs:=by
   intro x y;rw[<-asj,<-a4c];exact ah6 x (fun l=>by rw[w]) cs
  rw[w,w,h1 x y,h1 y x,ih];omega
theorem azn(x y:Rw)(a b:Int)(g:List Nat->Int)(cs:List Nat):w (fun c=>a*x c+b*y c) g cs=a*w x g cs+b*w y g cs:=by
 induction cs generalizing g with
 |nil=>simp[w]
 |cons c cs ih=>simp only[w,ih];grind
theorem auy{x:Rw}(g:List Nat->Int)(cs:List Nat)(h:∀c∈cs,x c=0):w x g cs=0:=by
 induction cs generalizing g with
 |nil=>rfl
 |cons c cs ih=>rw[w,h c (by simp),ih _ (fun d hd=>h d (by simp[hd]))];omega
def Alt(g:List Nat->Int):Prop:=∀(p:List Nat) (a b:Nat) (q:List Nat),g (p++a::b::q) = -g (p++b::a::q)
theorem Alt.pre{g:List Nat->Int}(h:Alt g)(u:List Nat):Alt (fun l=>g (u++l)):=fun p a b q=>by
 have:=h (u++p) a b q;simpa using this
theorem Alt.cons{g:List Nat->Int}(h:Alt g)(u:Nat):Alt (fun l=>g (u::l)):=h.pre [u]
theorem Alt.w{g:List Nat->Int}(h:Alt g)(x:Rw):Alt (Md.w x g):=by
 intro p;induction p generalizing g with
 |nil=>
  intro a b q;simp only[List.nil_append,Md.w];have h1:=ah6 x (g:=fun l=>g (a::b::l)) (h:=fun l=>-g (b::a::l)) (fun l=>h [] a b l) q;rw[asl]at h1;omega
 |cons c p ih=>
  intro a b q;simp only[List.cons_append,Md.w];have h1:=ih (h.cons c) a b q;have h2:=h p a b q;rw[h1,h2]
  grind
theorem Alt.two{g:List Nat->Int}(h:Alt g)(a:Nat)(p q:List Nat):g (a::(p++a::q))=0:=by
 induction p generalizing g with
 |nil=>have:=h [] a a q;simp only[List.nil_append]at this ⊢;omega
 |cons b p ih=>
  have h1:=h [] a b (p++a::q);have h2:=ih (h.cons b);simp only[List.nil_append,List.cons_append]at h1 h2 ⊢;omega
theorem Alt.dup{g:List Nat->Int}(h:Alt g){l:List Nat}(hl:¬l.Nodup):g l=0:=by
 induction l generalizing g with
 |nil=>exact absurd List.nodup_nil hl
 |cons a l ih=>
  by_cases ha:a∈l
  ·obtain⟨p,q,rfl⟩:=List.append_of_mem ha;exact h.two a p q
  ·exact ih (h.cons a) (fun hn=>hl (List.nodup_cons.2 ⟨ha,hn⟩))
def sgn:Nat->Int
 |0=>1
 |n+1=>-sgn n
theorem ana(n:Nat):sgn n*sgn n=1:=by
 induction n with
 |zero=>rfl
 |succ n ih=>rw[sgn,Int.neg_mul_neg,ih]
theorem a27(n:Nat):sgn n=if n%2=1 then -1 else 1:=by
 induction n with
 |zero=>rfl
 |succ n ih=>
  rw[sgn,ih];split <;> split <;> omega
theorem Alt.move{g:List Nat->Int}(h:Alt g)(c:Nat)(p q:List Nat):g (c::(p++q))=sgn p.length*g (p++c::q):=by
 induction p generalizing g with
 |nil=>simp[sgn]
 |cons b p ih=>
  have h1:=h [] c b (p++q);have h2:=ih (h.cons b);simp only[List.nil_append,List.cons_append,List.length_cons,sgn]at h1 h2 ⊢;rw[h1,h2]
  grind
def sub(p k:Nat)(l:List Nat):List Nat:=l.map (fun q=>if q=p then k else q)
theorem sub_self(p:Nat)(l:List Nat):sub p p l=l:=by
 unfold sub;conv=>rhs;rw[<-List.map_id l]
 apply List.map_congr_left;intro q _;split
 ·next h=>rw[h];rfl
 ·rfl
theorem af0{p:Nat}{l:List Nat}(h:p∉l)(k:Nat):sub p k l=l:=by
 unfold sub;conv=>rhs;rw[<-List.map_id l]
 apply List.map_congr_left;intro q hq;rw[if_neg (fun e:q=p=>h (by rw[<-e];exact hq))];rfl
theorem agp(p k q:Nat)(l:List Nat):sub p k (q::l)=(if q=p then k else q)::sub p k l:=rfl
theorem ajr(p k:Nat)(l m:List Nat):sub p k (l++m)=sub p k l++sub p k m:=by simp[sub]
theorem aev{p k:Nat}{l:List Nat}(hp:p∈l)(hk:k∈l)(hne:k≠p):¬(sub p k l).Nodup:=by
 intro hn;obtain⟨i,hi,hi'⟩:=List.mem_iff_getElem.1 hp;obtain⟨j,hj,hj'⟩:=List.mem_iff_getElem.1 hk;have hij:i≠j:=fun e=>by subst e;exact hne (hj'.symm.trans hi')
 have h1:(sub p k l)[i]'(by simpa[sub]using hi)=k:=by simp[sub,hi']
 have h2:(sub p k l)[j]'(by simpa[sub]using hj)=k:=by simp[sub,hj',hne]
 exact hij ((List.getElem_inj hn).1 (h1.trans h2.symm))
def sumL(f:Nat->Int):List Nat->Int
 | []=>0
 |q::l=>f q+sumL f l
theorem ac5{f h:Nat->Int}{l:List Nat}(e:∀q∈l,f q=h q):sumL f l=sumL h l:=by
 induction l with
 |nil=>rfl
 |cons q l ih=>rw[sumL,sumL,e q (by simp),ih (fun r hr=>e r (by simp[hr]))]
theorem Alt.expand{g:List Nat->Int}(h:Alt g)(x:Rw)(k:Nat){Q:List Nat}(hn:Q.Nodup):Md.w x (fun l=>g (k::l)) Q=sumL (fun p=>x p*g (sub p k Q)) Q:=by
 induction Q generalizing g with
 |nil=>rfl
 |cons q Q ih=>
  obtain⟨h1,h2⟩:=List.nodup_cons.1 hn;rw[Md.w,sumL,agp,if_pos rfl,af0 h1];have e:Md.w x (fun l=>g (k::q::l)) Q = -Md.w x (fun l=>g (q::k::l)) Q:=by
   rw[<-asl];exact ah6 x (fun l=>h [] k q l) Q
  rw[e,ih (h.cons q) h2];have:sumL (fun p=>x p*g (q::sub p k Q)) Q=sumL (fun p=>x p*g (sub p k (q::Q))) Q:=by
   apply ac5;intro p hp;rw[agp,if_neg (fun e:q=p=>h1 (by rw[e];exact hp))]
  rw[this];omega
def D:List Rw->List Nat->Int
 | []=>fun l=>if l = []then 1 else 0
 |x::R=>w x (D R)
theorem ad9(R:List Rw):Alt (D R):=by
 induction R with
 |nil=>
  intro p a b q;have:∀l:List Nat,l≠[]->D [] l=0:=fun l h=>if_neg h
  rw[this _ (by simp),this _ (by simp)];rfl
 |cons x R ih=>exact ih.w x
inductive Sp (R:List Rw):Rw->Prop
 |zero:Sp R (fun _=>0)
 |add (a:Int) (x y:Rw) (hx:x∈R) (hy:Sp R y):Sp R (fun c=>a*x c+y c)
theorem Sp.mono{R S:List Rw}{x:Rw}(h:Sp R x)(hs:∀y∈R,y∈S):Sp S x:=by
 induction h with
 |zero=>exact .zero
 |add a x y hx _ ih=>exact .add a x y (hs x hx) ih
theorem Sp.lin{R:List Rw}{x y:Rw}(hx:Sp R x)(hy:Sp R y)(a b:Int):Sp R (fun c=>a*x c+b*y c):=by
 induction hx with
 |zero=>
  induction hy with
  |zero=>simpa using Sp.zero
  |add e u v hu _ ih=>
   have:=Sp.add (b*e) u _ hu ih;refine cast (congrArg (Sp R) (funext fun c=>?_)) this
   grind
 |add e u v hu _ ih=>
  have:=Sp.add (a*e) u _ hu ih;refine cast (congrArg (Sp R) (funext fun c=>?_)) this
  grind
theorem Sp.mem{R:List Rw}{x:Rw}(h:x∈R):Sp R x:=by
 have:=Sp.add 1 x _ h Sp.zero;refine cast (congrArg (Sp R) (funext fun c=>?_)) this
 grind
theorem Sp.smul{R:List Rw}{x:Rw}(h:Sp R x)(a:Int):Sp R (fun c=>a*x c):=by
 have:=h.lin Sp.zero a 0;refine cast (congrArg (Sp R) (funext fun c=>?_)) this
 grind
theorem sp_w{R:List Rw}(x:Rw)(g:Nat->List Nat->Int)(h:∀l,Sp R (fun c=>g c l))(cs:List Nat):Sp R (fun c=>w x (g c) cs):=by
 induction cs generalizing g with
 |nil=>exact .zero
 |cons d cs ih=>
  have:=(h cs).lin (ih (fun c l=>g c (d::l)) (fun l=>h (d::l))) (x d) (-1);refine cast (congrArg (Sp R) (funext fun c=>?_)) this;rw[w]
  grind
theorem af1(R:List Rw)(cs:List Nat):Sp R (fun c=>D R (c::cs)):=by
 induction R generalizing cs with
 |nil=>exact Sp.zero
 |cons x R ih=>
  have h1:=(sp_w x (fun c l=>D R (c::l)) (fun l=>ih l) cs).mono (S:=x::R) (fun y hy=>by simp[hy]);have:=(Sp.mem (R:=x::R) (x:=x) (by simp)).lin h1 (D R cs) (-1);refine cast (congrArg (Sp (x::R)) (funext fun c=>?_)) this;rw[D,w]
  grind
theorem auz{p:Nat}{Q:List Nat}(hn:Q.Nodup)(hp:p∈Q):∃a b,Q=a++p::b/\∀k,sub p k Q=a++k::b:=by
 obtain⟨a,b,rfl⟩:=List.append_of_mem hp;refine⟨a,b,rfl,fun k=>?_⟩;have h1:=List.nodup_append.1 hn;have h2:=(List.nodup_cons.1 h1.2.1).1;have h3:p∉a:=fun h=>h1.2.2 p h p (by simp) rfl
 rw[ajr,agp,if_pos rfl,af0 h3,af0 h2]
theorem af2(R:List Rw){p:Nat}{Q:List Nat}(hn:Q.Nodup)(hp:p∈Q):Sp R (fun k=>D R (sub p k Q)):=by
 obtain⟨a,b,_,h⟩:=auz hn hp;have h1:=(af1 R (a++b)).smul (sgn a.length);refine cast (congrArg (Sp R) (funext fun c=>?_)) h1;rw[h c,(ad9 R).move c a b,<-Int.mul_assoc,ana,Int.one_mul]
theorem a4d{R:List Rw}{r:Rw}(h:r∈R)(cs:List Nat):w r (D R) cs=0:=by
 induction R generalizing cs with
 |nil=>cases h
 |cons y R ih=>
  have h1:=aux r y (D R) cs;rw[show D (y::R)=w y (D R)from rfl,h1];rcases List.mem_cons.1 h with rfl|h
  ·have:=aux r r (D R) cs;omega
  ·rw[ah6 y (fun l=>ih h l) cs,a26];rfl
theorem D_sp{R:List Rw}{x:Rw}(h:Sp R x)(cs:List Nat):w x (D R) cs=0:=by
 induction h with
 |zero=>exact auy _ _ (fun _ _=>rfl)
 |add a x y hx _ ih=>
  have:=azn x y a 1 (D R) cs;rw[show(fun c=>a*x c+y c)=fun c=>a*x c+1*y c from funext fun c=>by omega,this,ih,a4d hx];omega
theorem a0w{R:List Rw}{x:Rw}(h:Sp R x){Q:List Nat}(hd:D R Q≠0)(hz:∀q∈Q,x q=0)(k:Nat):x k=0:=by
 have h1:=D_sp h (k::Q);rw[w,auy _ Q hz]at h1;have h2:x k*D R Q=0:=by omega
 rcases Int.mul_eq_zero.1 h2 with h|h
 ·exact h
 ·exact absurd h hd
theorem ah7(R:List Rw)(x:Rw){Q:List Nat}(hn:Q.Nodup)(k:Nat):D (x::R) (k::Q)=D R Q*x k-sumL (fun p=>x p*D R (sub p k Q)) Q:=by
 rw[D,w,(ad9 R).expand x k hn]
 grind
theorem ahj(R:List Rw){Q:List Nat}{k:Nat}(hk:k∈Q):D R (k::Q)=0:=(ad9 R).dup (fun hn=>(List.nodup_cons.1 hn).1 hk)
theorem a0x(R:List Rw)(x:Rw){Q a b:List Nat}{c:Nat}(hQ:Q=a++b)(hn:(a++c::b).Nodup)(h1:D (x::R) (a++c::b)≠0){p:Nat}(hp:p∈Q)(k:Nat):
  D R Q*D (x::R) (sub p k (a++c::b))=D (x::R) (a++c::b)*D R (sub p k Q)-D R (sub p c Q)*D (x::R) (sub c k (a++c::b)):=by
 have hc:c∈a++c::b:=by simp
 have hp':p∈a++c::b:=by rw[hQ]at hp;simp at hp ⊢;rcases hp with h|h <;> simp[h]
 have hnQ:Q.Nodup:=by rw[hQ];exact hn.sublist (by simp)
 have hcQ:c∉Q:=by
  have h2:=List.nodup_append.1 hn;rw[hQ,List.mem_append,not_or];exact⟨fun h=>h2.2.2 c h c (by simp) rfl,(List.nodup_cons.1 h2.2.1).1⟩
 have hcp:c≠p:=fun e=>hcQ (e▸hp)
 have s1:=(af2 (x::R) hn hp').smul (D R Q);have s2:=((af2 R hnQ hp).mono (S:=x::R) (fun y hy=>by simp[hy]));have s3:=(af2 (x::R) hn hc);have s4:=s2.lin s3 (-D (x::R) (a++c::b)) (D R (sub p c Q));have s5:=s1.lin s4 1 1;have key:=a0w s5 h1 (fun q hq=>?_) k
 ·grind
 ·by_cases e1:q=p
  ·subst e1;rw[sub_self,sub_self,(ad9 (x::R)).dup (aev hc hp' (fun e=>hcp e.symm))]
   grind
  ·rw[(ad9 (x::R)).dup (aev hp' hq e1)];by_cases e2:q=c
   ·subst e2;rw[sub_self]
    grind
   ·have hqQ:q∈Q:=by
     rw[hQ];simp only[List.mem_append,List.mem_cons]at hq ⊢;rcases hq with h|h|h
     ·exact .inl h
     ·exact absurd h e2
     ·exact .inr h
    rw[(ad9 R).dup (aev hp hqQ e1),(ad9 (x::R)).dup (aev hc hq e2)]
    grind
theorem w_le{x:Rw}{g:List Nat->Int}{X G:Int}(N:Nat)(hX:0<=X)(hG:0<=G)(cs:List Nat)(hx:∀c∈cs,(x c).natAbs<=X)(hg:∀l,(∀c∈l,c∈cs)->(g l).natAbs<=G)(hN:cs.length<=N):((w x g cs).natAbs:Int)<=N*(X*G):=by
 have hXG:0<=X*G:=Int.mul_nonneg hX hG;induction cs generalizing g N with
 |nil=>simp[w];exact Int.mul_nonneg (by omega) hXG
 |cons c cs ih=>
  match N,hN with
  |N+1,hN=>
   have h1:=ih (g:=fun l=>g (c::l)) N (fun d hd=>hx d (by simp[hd])) (fun l hl=>hg (c::l) (fun d hd=>by
    rcases List.mem_cons.1 hd with rfl|h
    ·simp
    ·simp[hl d h])) (by simp at hN;omega)
   have h2:((x c*g cs).natAbs:Int)<=X*G:=by
    rw[Int.natAbs_mul,Int.natCast_mul];exact Int.mul_le_mul (hx c (by simp)) (hg cs (fun d hd=>by simp[hd])) (by omega) hX
   have h3:(((x c*g cs)-w x (fun l=>g (c::l)) cs).natAbs:Int)<=((x c*g cs).natAbs:Int)+((w x (fun l=>g (c::l)) cs).natAbs:Int):=by omega
   rw[w,Int.natCast_add,Int.add_mul];omega
end Md
namespace Md
structure Gat (cols:Nat) (R:List Rw) (Q:List Nat):Prop where
 desc:Q.Pairwise (· > ·)
 lt:∀q∈Q,q<cols
 ne:D R Q≠0
 led:∀p∈Q,∀k,k<p->D R (sub p k Q)=0
theorem a0y(cols:Nat):Gat cols [] []:=⟨.nil,fun q hq=>(by cases hq),by decide,fun p hp=>(by cases hp)⟩
theorem abc{Q:List Nat}(h:Q.Pairwise (· > ·)):Q.Nodup:=h.imp (fun h=>by omega)
theorem Gat.not_mem{R:List Rw}{Q:List Nat}{x:Rw}{c:Nat}(h:D (x::R) (c::Q)≠0):c∉Q:=fun hc=>h (ahj (x::R) hc)
theorem Gat.take{cols:Nat}{R:List Rw}{Q a b:List Nat}(G:Gat cols R Q){x:Rw}{c:Nat}(hc:c<cols)(h0:∀k,k<c->D (x::R) (k::Q)=0)(hne:D (x::R) (c::Q)≠0)(hQ:Q=a++b)(ha:∀x∈a,c<x)(hb:∀x∈b,x<c):
  Gat cols (x::R) (a++c::b)/\(∀k,D (x::R) (sub c k (a++c::b))=sgn a.length*D (x::R) (k::Q))/\D (x::R) (a++c::b)=sgn a.length*D (x::R) (c::Q)/\∀p∈Q,∀k,D R Q*D (x::R) (sub p k (a++c::b))=D (x::R) (a++c::b)*D R (sub p k Q)-D R (sub p c Q)*D (x::R) (sub c k (a++c::b)):=by
 have hd:(a++c::b).Pairwise (· > ·):=by
  have h1:=G.desc;rw[hQ,List.pairwise_append]at h1;rw[List.pairwise_append,List.pairwise_cons];refine⟨h1.1,⟨fun y hy=>hb y hy,h1.2.1⟩,fun u hu v hv=>?_⟩;rcases List.mem_cons.1 hv with rfl|hv
  ·exact ha u hu
  ·exact h1.2.2 u hu v hv
 have hn:=abc hd;have hca:c∉a:=fun h=>by have:=ha c h;omega
 have hcb:c∉b:=fun h=>by have:=hb c h;omega
 have hsub:∀k,sub c k (a++c::b)=a++k::b:=fun k=>by rw[ajr,agp,if_pos rfl,af0 hca,af0 hcb]
 have hmove:∀k,D (x::R) (a++k::b)=sgn a.length*D (x::R) (k::Q):=fun k=>by
  rw[hQ,(ad9 (x::R)).move k a b,<-Int.mul_assoc,ana,Int.one_mul]
 have hne':D (x::R) (a++c::b)≠0:=by
  rw[hmove];intro e;rcases Int.mul_eq_zero.1 e with e|e
  ·have:=ana a.length;rw[e]at this;simp at this
  ·exact hne e
 have hstep:∀p∈Q,∀k,D R Q*D (x::R) (sub p k (a++c::b))=D (x::R) (a++c::b)*D R (sub p k Q)-D R (sub p c Q)*D (x::R) (sub c k (a++c::b)):=fun p hp k=>a0x R x hQ hn hne' hp k
 have hz:∀k,k<c->D (x::R) (sub c k (a++c::b))=0:=fun k hk=>by rw[hsub,hmove,h0 k hk,Int.mul_zero]
 refine⟨⟨hd,fun q hq=>?_,hne',fun p hp k hk=>?_⟩,fun k=>by rw[hsub,hmove],hmove c,hstep⟩
 ·rcases List.mem_append.1 hq with h|h
  ·exact G.lt q (by rw[hQ];simp[h])
  ·rcases List.mem_cons.1 h with rfl|h
   ·exact hc
   ·exact G.lt q (by rw[hQ];simp[h])
 ·by_cases hpc:p=c
  ·subst hpc;exact hz k hk
  ·have hpQ:p∈Q:=by
    rw[hQ];rcases List.mem_append.1 hp with h|h
    ·simp[h]
    ·rcases List.mem_cons.1 h with h|h
     ·exact absurd h hpc
     ·simp[h]
   have h1:=hstep p hpQ k;rw[G.led p hpQ k hk]at h1;by_cases hcp:c<p
   ·rw[G.led p hpQ c hcp]at h1;have h2:D R Q*D (x::R) (sub p k (a++c::b))=0:=by rw[h1];simp
    rcases Int.mul_eq_zero.1 h2 with h|h
    ·exact absurd h G.ne
    ·exact h
   ·rw[hz k (by omega)]at h1;have h2:D R Q*D (x::R) (sub p k (a++c::b))=0:=by rw[h1];simp
    rcases Int.mul_eq_zero.1 h2 with h|h
    ·exact absurd h G.ne
    ·exact h
def RS(S:List Rw)(x:Rw):Prop:=∃a:Int,a≠0/\Sp S (fun c=>a*x c)
theorem RS.of{S:List Rw}{x:Rw}(h:Sp S x):RS S x:=⟨1,by decide,by simpa using h⟩
theorem RS.mem{S:List Rw}{x:Rw}(h:x∈S):RS S x:=.of (.mem h)
theorem a4e{R S:List Rw}(hs:∀y∈S,RS R y){x:Rw}(h:Sp S x):RS R x:=by
 induction h with
 |zero=>exact .of .zero
 |add a x y hx _ ih=>
  obtain⟨b,hb,h1⟩:=hs x hx;obtain⟨c,hc,h2⟩:=ih;refine⟨b*c,Int.mul_ne_zero hb hc,?_⟩;have:=h1.lin h2 (a*c) b;refine cast (congrArg (Sp R) (funext fun k=>?_)) this
  grind
theorem RS.trans{R S:List Rw}{x:Rw}(h:RS S x)(hs:∀y∈S,RS R y):RS R x:=by
 obtain⟨a,ha,h1⟩:=h;obtain⟨b,hb,h2⟩:=a4e hs h1;refine⟨b*a,Int.mul_ne_zero hb ha,?_⟩;refine cast (congrArg (Sp R) (funext fun k=>?_)) h2
 grind
theorem akj{R:List Rw}{Q:List Nat}(hn:Q.Nodup)(hd:D R Q≠0){x:Rw}(h:∀k,D (x::R) (k::Q)=0):RS R x:=by
 refine⟨D R Q,hd,?_⟩;have key:∀l:List Nat,(∀p∈l,p∈Q)->Sp R (fun k=>sumL (fun p=>x p*D R (sub p k Q)) l):=by
  intro l;induction l with
  |nil=>intro _;exact .zero
  |cons p l ih=>
   intro hl;have:=(af2 R hn (hl p (by simp))).lin (ih (fun q hq=>hl q (by simp[hq]))) (x p) 1;refine cast (congrArg (Sp R) (funext fun k=>?_)) this;rw[sumL]
   grind
 have:=key Q (fun _ h=>h);refine cast (congrArg (Sp R) (funext fun k=>?_)) this;have h1:=ah7 R x hn k;rw[h k]at h1
 grind
theorem af3{R:List Rw}{x:Rw}(h:RS R x)(cs:List Nat):D (x::R) cs=0:=by
 obtain⟨a,ha,h1⟩:=h;have h2:=D_sp h1 cs;have h3:=azn x x a 0 (D R) cs;rw[show(fun c=>a*x c+0*x c)=fun c=>a*x c from funext fun c=>by omega,h2]at h3;have h4:a*w x (D R) cs=0:=by omega
 rcases Int.mul_eq_zero.1 h4 with h|h
 ·exact absurd h ha
 ·exact h
structure EF (E:List (Nat×Rw)):Prop where
 asc:E.Pairwise (fun a b=>a.1<b.1)
 ne:∀e∈E,e.2 e.1≠0
 oth:∀e∈E,∀f∈E,e.1≠f.1->e.2 f.1=0
 led:∀e∈E,∀k,k<e.1->e.2 k=0
def rowsE(E:List (Nat×Rw)):List Rw:=E.map Prod.snd
def sumE(f:Nat->Int):List (Nat×Rw)->Nat->Int
 | [],_=>0
 |e::E,k=>f e.1*e.2 k+sumE f E k
theorem ajs{f g:Nat->Int}: ∀ {E:List (Nat×Rw)},(∀e∈E,f e.1=g e.1)->∀k,sumE f E k=sumE g E k
 | [],_,_=>rfl
 |e::E,h,k=>by rw[sumE,sumE,h e (by simp),ajs (fun x hx=>h x (by simp[hx]))]
theorem ai4{a:Int}{e:Nat×Rw}(f:Nat->Int):∀ {E:List (Nat×Rw)},E.Pairwise (fun a b=>a.1<b.1)->e∈E->∀k,sumE (fun p=>if p=e.1 then f p+a else f p) E k=sumE f E k+a*e.2 k
 |x::E,hp,he,k=>by
  obtain⟨h1,h2⟩:=List.pairwise_cons.1 hp;rw[sumE,sumE];rcases List.mem_cons.1 he with rfl|he
  ·have:sumE (fun p=>if p=e.1 then f p+a else f p) E k=sumE f E k:=ajs (fun y hy=>if_neg (by have:=h1 y hy;omega)) k;rw[this,if_pos rfl]
   grind
  ·rw[ai4 f h2 he k,if_neg (by have:=h1 e he;omega)];omega
theorem aqp{E:List (Nat×Rw)}(hp:E.Pairwise (fun a b=>a.1<b.1)){y:Rw}(h:Sp (rowsE E) y):∃f,∀k,y k=sumE f E k:=by
 induction h with
 |zero=>
  refine⟨fun _=>0,fun k=>?_⟩;have:∀E:List (Nat×Rw),sumE (fun _=>0) E k=0:=by
   intro E;induction E with
   |nil=>rfl
   |cons e E ih=>rw[sumE,ih];simp
  rw[this]
 |add a x y hx _ ih=>
  obtain⟨e,he,rfl⟩:=List.mem_map.1 hx;obtain⟨f,hf⟩:=ih;exact⟨_,fun k=>by show a*e.2 k+y k=_;rw[ai4 (a:=a) f hp he k,hf k];omega⟩
theorem akk{f:Nat->Int}{E:List (Nat×Rw)}{k:Nat}(h:∀e∈E,f e.1*e.2 k=0):sumE f E k=0:=by
 induction E with
 |nil=>rfl
 |cons e E ih=>rw[sumE,h e (by simp),ih (fun x hx=>h x (by simp[hx]))];rfl
theorem EF.pivot{E:List (Nat×Rw)}(hE:EF E)(f:Nat->Int){e:Nat×Rw}(he:e∈E):sumE f E e.1=f e.1*e.2 e.1:=by
 have h:=ai4 (a:=-f e.1) f hE.asc he e.1;have h0:sumE (fun p=>if p=e.1 then f p+-f e.1 else f p) E e.1=0:=by
  apply akk;intro x hx;by_cases hxe:x.1=e.1
  ·show(if x.1=e.1 then f x.1+-f e.1 else f x.1)*x.2 e.1=0;rw[if_pos hxe,hxe,Int.add_right_neg,Int.zero_mul]
  ·rw[hE.oth x hx e he hxe,Int.mul_zero]
 rw[h0]at h
 grind
theorem EF.zero{E:List (Nat×Rw)}(hE:EF E){x:Rw}(h:RS (rowsE E) x)(hz:∀e∈E,x e.1=0)(k:Nat):x k=0:=by
 obtain⟨a,ha,h1⟩:=h;obtain⟨f,hf⟩:=aqp hE.asc h1;have h2:a*x k=0:=by
  rw[hf k];apply akk;intro e he;have h3:=hf e.1;rw[hE.pivot f he,hz e he,Int.mul_zero]at h3;rcases Int.mul_eq_zero.1 h3.symm with h|h
  ·rw[h,Int.zero_mul]
  ·exact absurd h (hE.ne e he)
 rcases Int.mul_eq_zero.1 h2 with h|h
 ·exact absurd h ha
 ·exact h
theorem EF.first{E:List (Nat×Rw)}(hE:EF E){x:Rw}(h:RS (rowsE E) x){k:Nat}(hk:x k≠0)(hz:∀j,j<k->x j=0):∃e∈E,e.1=k:=by
 apply Classical.byContradiction;intro hno;obtain⟨a,ha,h1⟩:=h;obtain⟨f,hf⟩:=aqp hE.asc h1;have h2:a*x k=0:=by
  rw[hf k];apply akk;intro e he;by_cases hlt:k<e.1
  ·rw[hE.led e he k hlt,Int.mul_zero]
  ·have hne:e.1≠k:=fun e'=>hno ⟨e,he,e'⟩
   have h3:=hf e.1;rw[hE.pivot f he,hz e.1 (by omega),Int.mul_zero]at h3;rcases Int.mul_eq_zero.1 h3.symm with h|h
   ·rw[h,Int.zero_mul]
   ·exact absurd h (hE.ne e he)
 rcases Int.mul_eq_zero.1 h2 with h|h
 ·exact ha h
 ·exact hk h
theorem aqq:∀ {l m:List Nat},l.Pairwise (·<·)->m.Pairwise (·<·)->(∀x,x∈l↔x∈m)->l=m
 | [],[],_,_,_=>rfl
 | [],y::m,_,_,h=>by have:=(h y).2 (by simp);cases this
 |x::l,[],_,_,h=>by have:=(h x).1 (by simp);cases this
 |x::l,y::m,hl,hm,h=>by
  obtain⟨h1,h2⟩:=List.pairwise_cons.1 hl;obtain⟨h3,h4⟩:=List.pairwise_cons.1 hm;have hxy:x=y:=by
   rcases List.mem_cons.1 ((h x).1 (by simp))with e|e
   ·exact e
   ·rcases List.mem_cons.1 ((h y).2 (by simp))with e'|e'
    ·exact e'.symm
    ·have:=h1 y e';have:=h3 x e;omega
  subst hxy;rw[aqq h2 h4 (fun z=>?_)];constructor
  ·intro hz;rcases List.mem_cons.1 ((h z).1 (by simp[hz]))with e|e
   ·subst e;have:=h1 z hz;omega
   ·exact e
  ·intro hz;rcases List.mem_cons.1 ((h z).2 (by simp[hz]))with e|e
   ·subst e;have:=h3 z hz;omega
   ·exact e
theorem a0z{E F:List (Nat×Rw)}(hE:EF E)(hF:EF F)(h1:∀e∈E,RS (rowsE F) e.2)(h2:∀f∈F,RS (rowsE E) f.2):E.map Prod.fst=F.map Prod.fst/\∀e∈E,∀f∈F,e.1=f.1->∀k,f.2 f.1*e.2 k=e.2 e.1*f.2 k:=by
 have he:∀e∈E,∃f∈F,f.1=e.1:=fun e he=>hF.first (h1 e he) (hE.ne e he) (hE.led e he)
 have hf:∀f∈F,∃e∈E,e.1=f.1:=fun f hf=>hE.first (h2 f hf) (hF.ne f hf) (hF.led f hf)
 refine⟨aqq (by rw[List.pairwise_map];exact hE.asc) (by rw[List.pairwise_map];exact hF.asc) (fun x=>?_),fun e hem f hfm hef k=>?_⟩
 ·simp only[List.mem_map];constructor
  ·rintro ⟨e,h,rfl⟩;obtain⟨f,h3,h4⟩:=he e h;exact⟨f,h3,h4⟩
  ·rintro ⟨f,h,rfl⟩;obtain⟨e,h3,h4⟩:=hf f h;exact⟨e,h3,h4⟩
 ·obtain⟨a,ha,h3⟩:=h1 e hem;have h4:RS (rowsE F) (fun c=>f.2 f.1*e.2 c-e.2 e.1*f.2 c):=by
   refine⟨a,ha,?_⟩;have:=h3.lin (Sp.mem (R:=rowsE F) (x:=f.2) (List.mem_map.2 ⟨f,hfm,rfl⟩)) (f.2 f.1) (-(a*e.2 e.1));refine cast (congrArg (Sp (rowsE F)) (funext fun c=>?_)) this
   grind
  have h5:f.2 f.1*e.2 k-e.2 e.1*f.2 k=0:=hF.zero h4 (fun g hg=>?_) k
  ·omega
  ·obtain⟨e',he',hg'⟩:=hf g hg;show f.2 f.1*e.2 g.1-e.2 e.1*f.2 g.1=0;by_cases hgf:g.1=f.1
   ·rw[hgf,hef,Int.mul_comm,Int.sub_self]
   ·rw[hF.oth f hfm g hg (fun h=>hgf h.symm),<-hg',hE.oth e hem e' he' (by omega)];omega
def efOf(R:List Rw)(Q:List Nat):List (Nat×Rw):=Q.reverse.map (fun p=>(p,fun k=>D R (sub p k Q)))
theorem Gat.ef{cols:Nat}{R:List Rw}{Q:List Nat}(G:Gat cols R Q):EF (efOf R Q):=by
 have hm:∀e,e∈efOf R Q->e.1∈Q/\e.2=fun k=>D R (sub e.1 k Q):=by
  intro e he;obtain⟨p,hp,rfl⟩:=List.mem_map.1 he;exact⟨List.mem_reverse.1 hp,rfl⟩
 refine⟨?_,fun e he=>?_,fun e he f hf hne=>?_,fun e he k hk=>?_⟩
 ·unfold efOf;rw[List.pairwise_map,List.pairwise_reverse];exact G.desc.imp (fun h=>h)
 ·obtain⟨h1,h2⟩:=hm e he;rw[h2];show D R (sub e.1 e.1 Q)≠0;rw[sub_self];exact G.ne
 ·obtain⟨h1,h2⟩:=hm e he;obtain⟨h3,_⟩:=hm f hf;rw[h2];exact(ad9 R).dup (aev h1 h3 (fun h=>hne h.symm))
 ·obtain⟨h1,h2⟩:=hm e he;rw[h2];exact G.led e.1 h1 k hk
theorem Gat.ef_in{cols:Nat}{R:List Rw}{Q:List Nat}(G:Gat cols R Q):∀e∈efOf R Q,Sp R e.2:=by
 intro e he;obtain⟨p,hp,rfl⟩:=List.mem_map.1 he;exact af2 R (abc G.desc) (List.mem_reverse.1 hp)
theorem Gat.in_ef{cols:Nat}{R:List Rw}{Q:List Nat}(G:Gat cols R Q){x:Rw}(h:RS R x):RS (rowsE (efOf R Q)) x:=by
 refine⟨D R Q,G.ne,?_⟩;have key:∀l:List Nat,(∀p∈l,p∈Q)->Sp (rowsE (efOf R Q)) (fun k=>sumL (fun p=>x p*D R (sub p k Q)) l):=by
  intro l;induction l with
  |nil=>intro _;exact .zero
  |cons p l ih=>
   intro hl;have hp:(fun k=>D R (sub p k Q))∈rowsE (efOf R Q):=List.mem_map.2 ⟨(p,fun k=>D R (sub p k Q)),List.mem_map.2 ⟨p,List.mem_reverse.2 (hl p (by simp)),rfl⟩,rfl⟩;have:=(Sp.mem hp).lin (ih (fun q hq=>hl q (by simp[hq]))) (x p) 1;refine cast (congrArg (Sp _) (funext fun k=>?_)) this;rw[sumL]
   grind
 have:=key Q (fun _ h=>h);refine cast (congrArg (Sp _) (funext fun k=>?_)) this;have h1:=ah7 R x (abc G.desc) k;rw[af3 h]at h1
 grind
end Md
namespace Lm
open Go Go.RowKit
theorem anb{zs:List Int}: ∀z∈zs,gcdL zs ∣ z:=by
 have key:∀(l:List Int) (c:Int),l.foldl (fun c z=>((Int.gcd c z:Nat):Int)) c ∣ c/\∀z∈l,l.foldl (fun c z=>((Int.gcd c z:Nat):Int)) c ∣ z:=by
  intro l;induction l with
  |nil=>intro c;exact⟨Int.dvd_refl _,fun z hz=>by cases hz⟩
  |cons x l ih=>
   intro c;obtain⟨h1,h2⟩:=ih ((Int.gcd c x:Nat):Int);refine⟨Int.dvd_trans h1 (Int.gcd_dvd_left ..),fun z hz=>?_⟩;rcases List.mem_cons.1 hz with rfl|hz
   ·exact Int.dvd_trans h1 (Int.gcd_dvd_right ..)
   ·exact h2 z hz
 exact fun z hz=>(key zs 0).2 z hz
theorem akl{zs:List Int}: ∀z∈zs,dvs zs ∣ z:=by
 intro z hz;unfold dvs;split
 ·exact Int.neg_dvd.2 (anb z hz)
 ·exact anb z hz
theorem au0{zs:List Int}(h:∀z∈zs,z=0):gcdL zs=0:=by
 have key:∀l:List Int,(∀z∈l,z=0)->l.foldl (fun c z=>((Int.gcd c z:Nat):Int)) 0=0:=by
  intro l;induction l with
  |nil=>intro _;rfl
  |cons x l ih=>
   intro hl;rw[List.foldl_cons,hl x (by simp)];exact ih (fun z hz=>hl z (by simp[hz]))
 exact key zs h
theorem ajt(k:Int)(zs:List Int):gcdL (zs.map (k*·))=(k.natAbs:Int)*gcdL zs:=by
 have key:∀(l:List Int) (c:Int),(l.map (k*·)).foldl (fun c z=>((Int.gcd c z:Nat):Int)) ((k.natAbs:Int)*c)=(k.natAbs:Int)*l.foldl (fun c z=>((Int.gcd c z:Nat):Int)) c:=by
  intro l;induction l with
  |nil=>intro c;rfl
  |cons z l ih=>
   intro c;rw[List.map_cons,List.foldl_cons,List.foldl_cons,<-ih];congr 1;rw[Int.gcd,Int.natAbs_mul,Int.natAbs_mul,Int.natAbs_natCast,Nat.gcd_mul_left,Int.gcd,Int.natCast_mul]
 have:=key zs 0;rwa[Int.mul_zero]at this
theorem asm(k:Int)(hk:k≠0)(zs:List Int):sgnL (zs.map (k*·))=Int.sign k*sgnL zs:=by
 have hs:Int.sign k≠0:=fun h=>hk (Int.sign_eq_zero_iff_zero.1 h)
 have key:∀(l:List Int) (s:Int),(l.map (k*·)).foldl (fun s z=>if s=0 then Int.sign z else s) (Int.sign k*s)=Int.sign k*l.foldl (fun s z=>if s=0 then Int.sign z else s) s:=by
  intro l;induction l with
  |nil=>intro s;rfl
  |cons z l ih=>
   intro s;rw[List.map_cons,List.foldl_cons,List.foldl_cons,<-ih];congr 1;by_cases h:s=0
   ·rw[if_pos h,if_pos (by rw[h,Int.mul_zero]),Int.sign_mul]
   ·rw[if_neg h,if_neg (fun e=>(Int.mul_eq_zero.1 e).elim hs h)]
 have:=key zs 0;rwa[Int.mul_zero]at this
theorem au1{zs:List Int}(h:sgnL zs=0):∀z∈zs,z=0:=by
 have stay:∀(l:List Int) (s:Int),s≠0->l.foldl (fun s z=>if s=0 then Int.sign z else s) s=s:=by
  intro l;induction l with
  |nil=>intro s _;rfl
  |cons z l ih=>intro s hs;rw[List.foldl_cons,if_neg hs];exact ih s hs
 induction zs with
 |nil=>simp
 |cons z l ih=>
  unfold sgnL at h;rw[List.foldl_cons,if_pos rfl]at h;by_cases hz:Int.sign z=0
  ·rw[hz]at h;intro y hy;rcases List.mem_cons.1 hy with rfl|hy
   ·exact Int.sign_eq_zero_iff_zero.1 hz
   ·exact ih h y hy
  ·rw[stay l _ hz]at h;exact absurd h hz
theorem au2(k:Int)(hk:k≠0)(zs:List Int):dvs (zs.map (k*·))=k*dvs zs:=by
 unfold dvs;rw[ajt,asm k hk];by_cases h0:sgnL zs=0
 ·rw[h0,au0 (au1 h0)];simp
 ·rcases Int.lt_or_gt_of_ne hk with hk'|hk'
  ·rw[Int.sign_eq_neg_one_of_neg hk',show(k.natAbs:Int) = -k by omega];by_cases h1:sgnL zs<0
   ·rw[if_neg (by omega),if_pos h1,Int.neg_mul,Int.mul_neg]
   ·rw[if_pos (by omega),if_neg h1,Int.neg_mul,Int.neg_neg]
  ·rw[Int.sign_eq_one_of_pos hk',show(k.natAbs:Int)=k by omega,Int.one_mul];split
   ·rw[Int.mul_neg]
   ·rfl
theorem alm(k:Int)(hk:k≠0)(zs:List Int):red (zs.map (k*·))=red zs:=by
 unfold red;rw[au2 k hk,List.map_map];refine List.map_congr_left fun z hz=>?_
 show k*z/(k*dvs zs)=z/dvs zs;obtain⟨q,hq⟩:=akl z hz;by_cases hd:dvs zs=0
 ·rw[hd,Int.mul_zero,Int.ediv_zero,Int.ediv_zero]
 ·have h1:z/dvs zs=q:=by rw[hq];exact Int.mul_ediv_cancel_left q hd
  have h2:k*z=k*dvs zs*q:=by rw[Int.mul_assoc,<-hq]
  rw[h1,h2];exact Int.mul_ediv_cancel_left q (fun e=>(Int.mul_eq_zero.1 e).elim hk hd)
theorem limbsF(w:World)(z:Int)(L:Nat)(v:Value)(h:IsW z L v w)(hL:L<=400000000):
  Calls Tryz.prog 185 #[v] w fun e w'=>∃m:Nat,e=.returned (.int .i64 (m:Int))/\(m<=32↔(z.natAbs:Int)<pw 32)/\Below w.heap.size w w':=by
 obtain⟨ng,ao,n,cap,xs,rfl,hA,hl⟩:=h;obtain⟨m,hm⟩:=axn hA;have hv:val xs=(z.natAbs:Int):=by
  obtain⟨_,_,_,_,_,hb,_⟩:=hA.sl;have h1:=aac hb;have h4:=hA.worth;rw[<-h4];cases ng
  ·simp only[sg];rw[if_neg (by decide)];omega
  ·simp only[sg];rw[if_pos trivial];omega
 refine(asa w ng ao n cap xs hA.sl (by omega) m (by rw[hv];exact hm)).mono ?_;rintro e w' ⟨rfl,hb⟩;refine⟨m,rfl,?_,hb⟩;obtain⟨rs,hc,hv',rfl⟩:=hm;constructor
 ·intro h;have h1:=(aac hc.1).2;have h2:=aap h;omega
 ·intro h;exact aa7 hc (by rw[hv'];exact h)
theorem IsRow.wide{w:World}{v:Value}{zs:List Int}{L L':Nat}(h:IsRow w v zs L)(hl:L<=L'):IsRow w v zs L':=by
 obtain⟨es,h1,h2,h3⟩:=h;exact⟨es,h1,h2,fun e he=>Nat.le_trans (h3 e he) hl⟩
def Asks(w:World)(f:FuncId)(cap:Array Value)(zs:List Int)(L:Nat)(p:Int->Bool):Prop:=∀(W:World) (z:Int) (xv:Value),Below w.heap.size w W->z∈zs->IsW z L xv W->Calls Tryz.prog f (#[xv]++cap) W fun e W'=>e=.returned (.bool (p z))/\Below W.heap.size W W'
def AsksR(w:World)(f:FuncId)(cap:Array Value)(rows:List (List Int))(L:Nat)(p:List Int->Bool):Prop:=∀(W:World) (z:List Int) (xv:Value),Below w.heap.size w W->z∈rows->IsRow W xv z L->Calls Tryz.prog f (#[xv]++cap) W fun e W'=>e=.returned (.bool (p z))/\Below W.heap.size W W'
theorem adc{α:Type}{p:α->Bool}{zs:List α}{k:Nat}{z:α}(h:zs[k]? = some z)(h1:(zs.take k).any p=false)(h2:p z=false):(zs.take (k+1)).any p=false:=by
 rw[List.take_add_one,h,List.any_append,h1];simp[h2]
theorem asn(w:World)(v:Value)(zs:List Int)(L:Nat)(h:IsRow w v zs L)(f:FuncId)(hf:Has Tryz.prog f)(cap:Array Value)(p:Int->Bool)(hA:Asks w f cap zs L p):
  Calls Tryz.prog 169 #[v,.func (.func f) #[] cap] w fun e w'=>(∃r:Int,e=.returned (.int .i64 r)/\decide (0<=r)=zs.any p)/\Below w.heap.size w w':=by
 obtain⟨ao,cp,rfl,hn⟩:=h.parts;have H:=hide h;have HA:=hide hA;clear h hA;obtain⟨n,hnn⟩:∃n,zs.length=n:=⟨_,rfl⟩;rw[hnn]at H hn ⊢;have HN:=hide hnn;clear hnn;go_enter Tryz.func169,Tryz.ntmps169
 go_wp2;go_loopw [5,8] (fun _ iv wr=>∃(k:Nat),iv=.int .i64 k/\k<=n/\(zs.take k).any p=false/\Below w.heap.size w wr) (fun _ iv _=>n-(intOf iv).toNat)
 case atStart=>exact⟨0,rfl,Nat.zero_le _,by simp,Below.refl _ _⟩
 case round=>
  obtain⟨k,rfl,hk,hany,hbw⟩:=hrel;have HW:=hide hbw;have HY:=hide hany;by_cases hlt:k<n
  ·obtain⟨z,hz⟩:∃z,zs[k]? = some z:=⟨_,List.getElem?_eq_getElem (by have:=HN.out;omega)⟩;obtain⟨b,off,ngx,ax,mx,cx,rfl,hbl,x0,x1,hx⟩:=H.out.cell hz;replace x0:=(hbw.cell (p:=⟨b,off+k*2,none⟩) hbl).trans x0;replace x1:=(hbw.cell (p:=⟨b,off+k*2+1,none⟩) hbl).trans x1;have hlt':(k:Int)<(n:Int):=by omega
   have KC:=hide (HA.out wr z (.agg #[.bool ngx,.slice ax mx cx]) hbw (List.mem_of_getElem? hz) (hx.ru (Ru.of_below hbw)));have HZ:=hide hz;clear hbw hany hx hz;have hE:∀args w,(callFunc f args).run Tryz.prog w=.ok (.enter f args) w:=fun args w=>hf.enter args w
   go_wp2_with fail
   refine KC.out.mono ?_;rintro e w3 ⟨rfl,hb3⟩;have HB3:=hide (HW.out.trans (hb3.mono HW.out.size));clear hb3 KC hE x0 x1;obtain⟨pz,hpz⟩:∃b,p z=b:=⟨_,rfl⟩;rw[hpz];have HPZ:=hide hpz;clear hpz;cases pz with
   |true=>
    go_wp2;go_ret;exact⟨⟨k,rfl,by rw[decide_eq_true (by omega),eq_comm,List.any_eq_true];exact⟨z,List.mem_of_getElem? HZ.out,HPZ.out⟩⟩,HB3.out⟩
   |false=>
    go_wp2;go_roundw
    case rel=>exact⟨k+1,by go_num,by omega,adc HZ.out HY.out HPZ.out,HB3.out⟩
    case measure=>simp[intOf];omega
  ·have hlt':decide ((k:Int)<(n:Int))=false:=by simp;omega
   clear hbw hany;go_wp2;go_ret;refine⟨⟨-1,rfl,?_⟩,HW.out⟩;have:=HY.out;rw[List.take_of_length_le (by have:=HN.out;omega)]at this;rw[this];rfl
theorem aek(w:World)(v:Value)(zs:List Int)(L:Nat)(h:IsRow w v zs L)(f:FuncId)(hf:Has Tryz.prog f)(cap:Array Value)(p:Int->Bool)(hA:Asks w f cap zs L p):
  Calls Tryz.prog 165 #[v,.func (.func f) #[] cap] w fun e w'=>e=.returned (.bool (zs.any p))/\Below w.heap.size w w':=by
 have K:=hide (asn w v zs L h f hf cap p hA);obtain⟨ao,cp,rfl,hn⟩:=h.parts;clear h hA;go_enter Tryz.func165,Tryz.ntmps165
 go_wp2_with fail
 refine K.out.mono ?_;rintro e w1 ⟨⟨r,rfl,hr⟩,hb⟩;have HB:=hide hb;have HR:=hide hr;clear hb K hr;go_wp2;refine bodyPost_ret (v:=_) (by simp[results,Tryz.results165,go_sem];try rfl) rfl ⟨by rw[<-HR.out],HB.out⟩
theorem aso(w:World)(v:Value)(rows:List (List Int))(L:Nat)(h:IsM w v rows L)(f:FuncId)(hf:Has Tryz.prog f)(cap:Array Value)(p:List Int->Bool)(hA:AsksR w f cap rows L p):
  Calls Tryz.prog 107 #[v,.func (.func f) #[] cap] w fun e w'=>(∃r:Int,e=.returned (.int .i64 r)/\decide (0<=r)=rows.any p)/\Below w.heap.size w w':=by
 obtain⟨ao,cp,rfl,hn⟩:=h.parts;have H:=hide h;have HA:=hide hA;clear h hA;obtain⟨n,hnn⟩:∃n,rows.length=n:=⟨_,rfl⟩;rw[hnn]at H hn ⊢;have HN:=hide hnn;clear hnn;go_enter Tryz.func107,Tryz.ntmps107
 go_wp2;go_loopw [5,8] (fun _ iv wr=>∃(k:Nat),iv=.int .i64 k/\k<=n/\(rows.take k).any p=false/\Below w.heap.size w wr) (fun _ iv _=>n-(intOf iv).toNat)
 case atStart=>exact⟨0,rfl,Nat.zero_le _,by simp,Below.refl _ _⟩
 case round=>
  obtain⟨k,rfl,hk,hany,hbw⟩:=hrel;have HW:=hide hbw;have HY:=hide hany;by_cases hlt:k<n
  ·obtain⟨z,hz⟩:∃z,rows[k]? = some z:=⟨_,List.getElem?_eq_getElem (by have:=HN.out;omega)⟩;obtain⟨b,off,u,rfl,hbl,x0,hx⟩:=H.out.cell hz;replace x0:=(hbw.cell (p:=⟨b,off+k,none⟩) hbl).trans x0;have hlt':(k:Int)<(n:Int):=by omega
   have KC:=hide (HA.out wr z u hbw (List.mem_of_getElem? hz) (hx.below hbw));obtain⟨ua,uc,rfl,_⟩:=hx.parts;have HZ:=hide hz;clear hbw hany hx hz;have hE:∀args w,(callFunc f args).run Tryz.prog w=.ok (.enter f args) w:=fun args w=>hf.enter args w
   go_wp2_with fail
   refine KC.out.mono ?_;rintro e w3 ⟨rfl,hb3⟩;have HB3:=hide (HW.out.trans (hb3.mono HW.out.size));clear hb3 KC hE x0;obtain⟨pz,hpz⟩:∃b,p z=b:=⟨_,rfl⟩;rw[hpz];have HPZ:=hide hpz;clear hpz;cases pz with
   |true=>
    go_wp2;go_ret;exact⟨⟨k,rfl,by rw[decide_eq_true (by omega),eq_comm,List.any_eq_true];exact⟨z,List.mem_of_getElem? HZ.out,HPZ.out⟩⟩,HB3.out⟩
   |false=>
    go_wp2;go_roundw
    case rel=>exact⟨k+1,by go_num,by omega,adc HZ.out HY.out HPZ.out,HB3.out⟩
    case measure=>simp[intOf];omega
  ·have hlt':decide ((k:Int)<(n:Int))=false:=by simp;omega
   clear hbw hany;go_wp2;go_ret;refine⟨⟨-1,rfl,?_⟩,HW.out⟩;have:=HY.out;rw[List.take_of_length_le (by have:=HN.out;omega)]at this;rw[this];rfl
theorem ael(w:World)(v:Value)(rows:List (List Int))(L:Nat)(h:IsM w v rows L)(f:FuncId)(hf:Has Tryz.prog f)(cap:Array Value)(p:List Int->Bool)(hA:AsksR w f cap rows L p):
  Calls Tryz.prog 85 #[v,.func (.func f) #[] cap] w fun e w'=>e=.returned (.bool (rows.any p))/\Below w.heap.size w w':=by
 have K:=hide (aso w v rows L h f hf cap p hA);obtain⟨ao,cp,rfl,hn⟩:=h.parts;clear h hA;go_enter Tryz.func85,Tryz.ntmps85
 go_wp2_with fail
 refine K.out.mono ?_;rintro e w1 ⟨⟨r,rfl,hr⟩,hb⟩;have HB:=hide hb;have HR:=hide hr;clear hb K hr;go_wp2;refine bodyPost_ret (v:=_) (by simp[results,Tryz.results85,go_sem];try rfl) rfl ⟨by rw[<-HR.out],HB.out⟩
theorem au3:Has Tryz.prog 198:=by unfold Has;kernel_rfl
theorem au4:Has Tryz.prog 185:=by unfold Has;kernel_rfl
def big(z:Int):Bool:=decide (¬(z.natAbs:Int)<pw 32)
theorem au5(W:World)(z:Int)(L:Nat)(xv:Value)(g:Nat)(T:TypeId)(hg:W.heap[g]? = some (.cells #[.func (.func 185) #[] #[]] T (0,0)))(hx:IsW z L xv W)(hL:L<=400000000):
  Calls Tryz.prog 198 #[xv,.pointer (some ⟨g,0,none⟩)] W fun e W'=>e=.returned (.bool (big z))/\Below W.heap.size W W':=by
 obtain⟨ng,ao,n,cap,xs,rfl,_⟩:=id hx;have hb:=hAl W (.cells #[.bool ng,.slice ao n cap] 45);obtain⟨hgl,c0,_⟩:=aae hg;replace c0:=(hb.cell (p:=⟨g,0,none⟩) hgl).trans c0;have K:=hide (limbsF _ z L _ (hx.ru (Ru.of_below hb)) hL);have hE:∀args w,(callFunc 185 args).run Tryz.prog w=.ok (.enter 185 args) w:=fun args w=>au4.enter args w
 clear hx hg;go_enter Tryz.func198,Tryz.ntmps198
 go_wp2_with fail
 refine K.out.mono ?_;rintro e w1 ⟨m,rfl,hm,hb1⟩;have HB:=hide (hb.trans (hb1.mono hb.size));have hbg:decide ((m:Int) > 32)=big z:=by
  unfold big;by_cases h:m<=32
  ·rw[decide_eq_false (by omega),decide_eq_false (not_not_intro (hm.1 h))]
  ·rw[decide_eq_true (by omega),decide_eq_true (p:=¬(z.natAbs:Int)<pw 32) (fun e=>h (hm.2 e))]
 clear hb hb1 K hm;go_wp2;refine bodyPost_ret (v:=_) (by simp[results,Tryz.results198,go_sem];try rfl) rfl ⟨by rw[<-hbg],HB.out⟩
theorem axp(w:World)(v:Value)(zs:List Int)(L:Nat)(h:IsRow w v zs L)(hL:L<=400000000):
  Calls Tryz.prog 184 #[v,.func (.func 185) #[] #[]] w fun e w'=>e=.returned (.bool (zs.any big))/\Below w.heap.size w w':=by
 obtain⟨ao,cp,rfl,hn⟩:=h.parts;have key:∀T:TypeId,Hid (Calls Tryz.prog 165 #[.slice ao zs.length cp,.func (.func 198) #[] #[.pointer (some ⟨w.heap.size,0,none⟩)]] (w.alloc (.cells #[.func (.func 185) #[] #[]] T)) fun e w'=>e=.returned (.bool (zs.any big))/\Below w.heap.size w w'):=fun T=>by
  have hb:=hAl w (.cells #[.func (.func 185) #[] #[]] T);have hnew:=heap_alloc_new w (.cells #[.func (.func 185) #[] #[]] T);refine(aek _ _ zs L (h.below hb) _ au3 _ big (fun W z xv hbW hz hx=>?_)).mono ?_
  ·exact au5 W z L xv w.heap.size T ((hbW.block _ (aaa hnew)).trans hnew) hx hL
  ·rintro e w' ⟨rfl,hb'⟩;exact⟨rfl,hb.trans (hb'.mono hb.size)⟩
 clear h;have hmf:∀(fn:Fn) (first cap:Array Value) (w:World),(Instr.makeFunc fn first cap).run Tryz.prog w=.ok (.func fn first cap) w:=fun _ _ _ _=>rfl
 go_enter Tryz.func184,Tryz.ntmps184
 go_wp2_with fail
 refine(key _).out.mono ?_;rintro e w1 ⟨rfl,hb⟩;have HB:=hide hb;clear hb key;go_wp2;refine bodyPost_ret (v:=_) (by simp[results,Tryz.results184,go_sem];try rfl) rfl ⟨rfl,HB.out⟩
theorem apa:Has Tryz.prog 176:=by unfold Has;kernel_rfl
theorem apb(W:World)(z:List Int)(L:Nat)(xv:Value)(g:Nat)(cols:Int)(hg:W.heap[g]? = some (.cells #[.int .i64 cols] 3 (0,0)))(hx:IsRow W xv z L):
  Calls Tryz.prog 176 #[xv,.pointer (some ⟨g,0,none⟩)] W fun e W'=>e=.returned (.bool (decide ((z.length:Int)≠cols)))/\Below W.heap.size W W':=by
 obtain⟨ua,uc,rfl,hn⟩:=hx.parts;obtain⟨hgl,c0,_⟩:=aae hg;clear hx hg;go_enter Tryz.func176,Tryz.ntmps176
 go_wp2;refine bodyPost_ret (v:=_) (by simp[results,Tryz.results176,go_sem];try rfl) rfl ⟨by congr 2;rw[bne];by_cases h:(z.length:Int)=cols <;> simp[h],Below.refl _ _⟩
theorem wofF(w:World)(v:Int)(h1 : -9223372036854775808<=v)(h2:v<=9223372036854775807):
  Calls Tryz.prog 22 #[.int .i64 v] w fun e w'=>∃r,e=.returned r/\FrW w.heap.size v 2 r w'/\Below w.heap.size w w':=by
 have hb0:=hAl w (.cells #[.bool false,.slice none 0 0] 45);have hn0:=heap_alloc_new w (.cells #[.bool false,.slice none 0 0] 45);obtain⟨w0,e0⟩:∃w0,w.alloc (.cells #[.bool false,.slice none 0 0] 45)=w0:=⟨_,rfl⟩;rw[e0]at hb0 hn0;have key:∀(ng:Bool) (x:Int),0<=x->x<18446744073709551616->sg ng x=v->Hid (Calls Tryz.prog 58 #[.int .u64 x] w0 fun e w1=>∃ao cap n,e=.returned (.slice ao n cap)/\Hid (Calls Tryz.prog 59 #[.bool ng,.slice ao n cap] w1 fun e w2=>∃ng2,e=.returned (.agg #[.bool ng2,.slice ao n cap])/\FrW w.heap.size v 2 (.agg #[.bool ng2,.slice ao n cap]) w2/\Below w.heap.size w w2/\w2.heap[w.heap.size]? = some (.cells #[.bool false,.slice none 0 0] 45 (0,0)))):=fun ng x hx0 hx1 hs=>by
  refine(ack w0 x hx0 hx1).mono ?_;rintro e w1 ⟨v1,rfl,hi1,hb1⟩;obtain⟨ao,cap,rs,rfl,hf⟩:=hi1.fr;obtain⟨_,_,_,e2,G1,l1⟩:=aed hi1 hx1;have e2':=e2;rw[Value.slice.injEq]at e2';obtain⟨rfl,e3,rfl⟩:=e2';obtain⟨ow1,cn1,vl1,ls1⟩:=hf;refine⟨ao,cap,rs.length,rfl,(aa0 _ ng _ _ rs x ⟨ow1.sl,cn1,vl1⟩ (by omega)).mono ?_⟩;rintro e w2 ⟨ng2,rfl,G2,hb2⟩;have hb3:=hb0.trans ((hb1.trans (hb2.mono hb1.size)).mono hb0.size);rw[hs]at G2;refine⟨ng2,rfl,(FrW.of_li (T:=w1.heap.size) G2 ⟨ow1.below hb2,ls1⟩ hb2.size (by omega)).low hb0.size,hb3,?_⟩;exact((hb1.trans (hb2.mono hb1.size)).block _ (aaa hn0)).trans hn0
 have E0:=hide e0;have fin:∀(w2:World) (ng2:Bool) (ao:Option Addr) (n cap:Nat),FrW w.heap.size v 2 (.agg #[.bool ng2,.slice ao n cap]) w2->Below w.heap.size w w2->w2.heap[w.heap.size]? = some (.cells #[.bool false,.slice none 0 0] 45 (0,0))->Hid ((loadVar 45 ⟨w.heap.size,0,none⟩).run Tryz.prog ((w2.setCell ⟨w.heap.size,0,none⟩ (.bool ng2)).setCell ⟨w.heap.size,1,none⟩ (.slice ao n cap))=.ok (.agg #[.bool ng2,.slice ao n cap]) ((w2.setCell ⟨w.heap.size,0,none⟩ (.bool ng2)).setCell ⟨w.heap.size,1,none⟩ (.slice ao n cap))/\FrW w.heap.size v 2 (.agg #[.bool ng2,.slice ao n cap]) ((w2.setCell ⟨w.heap.size,0,none⟩ (.bool ng2)).setCell ⟨w.heap.size,1,none⟩ (.slice ao n cap))/\Below w.heap.size w ((w2.setCell ⟨w.heap.size,0,none⟩ (.bool ng2)).setCell ⟨w.heap.size,1,none⟩ (.slice ao n cap))):=fun w2 ng2 ao n cap hF hB hN=>
  ⟨lvw2 (abv hN _ _),hF.ru (acl hN _ _),(hB.setCell (Nat.le_refl _) _).setCell (Nat.le_refl _) _⟩
 clear hb0 hn0 e0;by_cases h0:v<0
 ·have hw:IntKind.u64.wrap (-IntKind.u64.wrap v) = -v:=by rw[IntKind.wrap_u64,IntKind.wrap_u64];omega
  have K1:=key true (-v) (by omega) (by omega) (by simp[sg]);clear key;go_enter Tryz.func22,Tryz.ntmps22
  go_wp2_with fail
  rw[E0.out];refine K1.out.mono ?_;rintro e w1 ⟨ao,cap,n,rfl,K2⟩;clear K1;go_wp2_with fail
  refine K2.out.mono ?_;rintro e w2 ⟨ng2,rfl,hF,hB,hN⟩;obtain⟨hl2,y0,y1,yf0,yf1⟩:=aaf hN;have X:=fin w2 ng2 ao n cap hF hB hN;clear hF hB hN K2 fin;go_wp2;exact bodyPost_ret (v:=.agg #[.bool ng2,.slice ao n cap]) (acb (g:=w.heap.size) rfl rfl X.out.1) rfl ⟨_,rfl,X.out.2.1,X.out.2.2⟩
 ·have K1:=key false v (by omega) (by omega) (by simp[sg]);clear key;go_enter Tryz.func22,Tryz.ntmps22
  go_wp2_with fail
  rw[E0.out];refine K1.out.mono ?_;rintro e w1 ⟨ao,cap,n,rfl,K2⟩;clear K1;go_wp2_with fail
  refine K2.out.mono ?_;rintro e w2 ⟨ng2,rfl,hF,hB,hN⟩;obtain⟨hl2,y0,y1,yf0,yf1⟩:=aaf hN;have X:=fin w2 ng2 ao n cap hF hB hN;clear hF hB hN K2 fin;go_wp2;exact bodyPost_ret (v:=.agg #[.bool ng2,.slice ao n cap]) (acb (g:=w.heap.size) rfl rfl X.out.1) rfl ⟨_,rfl,X.out.2.1,X.out.2.2⟩
end Lm
namespace Lm
open Go Go.RowKit
open Dm (WFr)
def CanRow(w:World)(v:Value)(zs:List Int)(L:Nat):Prop:=∃es:List WE,Rw w v es/\es.length=zs.length/\∀(k:Nat) (e:WE) (z:Int),es[k]? = some e->zs[k]? = some z->Canon e.zs/\val e.zs=(z.natAbs:Int)/\e.ng=decide (z<0)/\e.zs.length<=L
theorem CanRow.below{w w':World}{v:Value}{zs:List Int}{L:Nat}(h:CanRow w v zs L)(hb:Below w.heap.size w w'):CanRow w' v zs L:=by
 obtain⟨es,h1,h2,h3⟩:=h;exact⟨es,h1.below hb,h2,h3⟩
theorem apc(w:World)(v v':Value)(zs:List Int)(L M:Nat)(h:CanRow w v zs L)(h':CanRow w v' zs M):
  Calls Tryz.prog 83 #[v,v'] w fun e w'=>e=.returned (.bool true)/\Below w.heap.size w w':=by
 obtain⟨es,h1,h2,h3⟩:=h;obtain⟨fs,g1,g2,g3⟩:=h';obtain⟨a,c,rfl,_⟩:=id h1.cl;obtain⟨a',c',rfl,_⟩:=id g1.cl;refine aus w a _ c es h1 a' _ c' fs g1 ?_;unfold SameR;apply List.ext_getElem?;intro k;rw[List.getElem?_map,List.getElem?_map];cases hk:es[k]? with
 |none=>
  rw[List.getElem?_eq_none_iff]at hk;rw[(List.getElem?_eq_none_iff (l:=fs)).2 (by omega)]
 |some e=>
  have hkl:=(List.getElem?_eq_some_iff.1 hk).1;obtain⟨z,hz⟩:∃z,zs[k]? = some z:=⟨_,List.getElem?_eq_getElem (by omega)⟩;obtain⟨f,hf⟩:∃f,fs[k]? = some f:=⟨_,List.getElem?_eq_getElem (by omega)⟩;obtain⟨c1,c2,c3,_⟩:=h3 k e z hk hz;obtain⟨d1,d2,d3,_⟩:=g3 k f z hf hz;rw[hf,Option.map_some,Option.map_some,WE.raw,WE.raw,c3,d3,afi c1 d1 (c2.trans d2.symm)]
theorem abo{ops:Array Oper}{rest:List Oper}{o:Oper}{a:Act}{w:World}{Q:Exit->Act->World->Prop}{R:Value->World->Prop}(hg:o.guard=none)(h:Does Tryz.prog o a.eval w R)(hK:∀v w',R v w'->wpList Tryz.prog ops Q rest (a.put o.dst v) w'):wpList Tryz.prog ops Q (o::rest) a w:=by
 refine wpList_plain hg fun K hK'=>?_
 exact Does.wp h (fun v w' hr=>hK' _ _ (hK v w' hr))
theorem apd(w:World)(v:Int)(h1 : -9223372036854775808<=v)(h2:v<=9223372036854775807)(h0:v<0):
  Calls Tryz.prog 82 #[.int .i64 v] w fun e w'=>∃r,e=.returned r/\FrW w.heap.size v 2 r w'/\Below w.heap.size w w':=by
 obtain⟨i0,hi,hz0,hz1,hz2⟩:=info_parts acv;have hf0:=heap_alloc_new w (.cells #[.bool false,.slice none 0 0] 45);have hb0:=hAl w (.cells #[.bool false,.slice none 0 0] 45);generalize hE:w.alloc (.cells #[.bool false,.slice none 0 0] 45)=w0 at *
 have E0:=hide hE;have HF0:=hide hf0;have HB0:=hide hb0;clear hE hf0 hb0;have hw:IntKind.u64.wrap (-IntKind.u64.wrap v) = -v:=by rw[IntKind.wrap_u64,IntKind.wrap_u64];omega
 go_enter Tryz.func82,Tryz.ntmps82
 go_wp2;rw[E0.out];clear hw;go_loopw [3,4] (fun uv mv wr=>∃(u:Int) (ls:List Int),uv=.int .u64 u/\0<=u/\u<18446744073709551616/\Limb ls/\val ls+pw ls.length*u = -v/\(u=0->tl ls=ls.length)/\wr.ownsRow w0.heap.size 86 1 mv ls.length (ls.map (Value.int .u32))/\Below w0.heap.size w0 wr) (fun uv _ _=>(intOf uv).toNat)
 case atStart=>exact⟨-v,[],rfl,by omega,by omega,aak,by simp[val,pw],fun _=>rfl,World.ownsRow_nil _ _ _ _,Below.refl _ _⟩
 case round=>
  obtain⟨u,ls,rfl,hu0,hu1,hls,hv,htop,hown,hbel⟩:=hrel;have HL:=hide hls;have HV:=hide hv;have HT:=hide htop;clear hls hv htop;by_cases hu:0<u
  ·have hroom:=aty HL.out hu (by rw[HV.out];omega);have HV':=hide (atx HV.out);have HT':Hid (u/4294967296=0->tl (ls ++ [u%4294967296])=(ls ++ [u%4294967296]).length):=fun h=>azj hu h
   go_wp2_with (at_builtin;refine wpList_append_own _ rfl (.tmp 13) (.tmp 16) 43 rfl w0.heap.size 86 i0 (.int .u32 0) 1 4 Tryz.underlying43 hi hz0 hz1 hz2 rfl (by decide) _ _ _ rfl (hown.alloc _) ⟨wr.heap.size,0,none⟩ 1 1 [.int .u32 (u%4294967296)] rfl rfl (cell_one_new _ _ _) ?c2 ?c3 ?c4 ?c5 ?_)
   case c2=>first|rfl|(intro x hx;simp at hx;subst hx;rfl)
   case c3=>unfold maxLen;omega
   case c4=>omega
   case c5=>have:=hbel.size;first|omega|(simp;omega)
   intro v4 w4 hown4 hgrow4 _;have R:=amj hown4 hgrow4 hbel hbel.size hown.lt;clear hown4 hgrow4 hown;go_wp2;go_roundw
   case rel=>exact⟨u/4294967296,ls ++ [u%4294967296],rfl,by omega,by omega,aaw.2 ⟨HL.out,aan.2 ⟨by omega,aak⟩⟩,HV'.out,HT'.out,by simpa using R.1,R.2⟩
   case measure=>simp[intOf];omega
  ·have hu':u=0:=by omega
   subst hu';have hval:val ls = -v:=by have:=HV.out;rwa[Int.mul_zero,Int.add_zero]at this
   have hcan:Canon ls:=⟨HL.out,HT.out rfl⟩;have hlen:ls.length<=2:=aa7 hcan (m:=2) (by rw[hval,show pw 2=18446744073709551616 from by decide];omega);have how:=ag8 hown HL.out;obtain⟨ao,cap,hmv,_⟩:=id how;subst hmv;have hfr:FrW w0.heap.size v 2 (.agg #[.bool true,.slice ao ls.length cap]) wr:=by
    refine⟨_,_,_,_,w0.heap.size,wr.heap.size,rfl,⟨⟨how,hcan,by rw[hval];omega,fun hc g off hg=>?_⟩,by simp;omega⟩,Nat.le_refl _,Nat.le_refl _,hlen⟩;subst hg;obtain⟨ao',cap',e1,_,_,_,e4⟩:=how;simp only[Value.slice.injEq]at e1;obtain⟨rfl,_,rfl⟩:=e1;rcases e4 with e4|⟨g',off',cur,e5,hB',hh,_⟩
    ·omega
    ·simp only[Option.some.injEq,Addr.mk.injEq]at e5;obtain⟨rfl,_,_⟩:=e5;exact⟨hB',aaa hh⟩
   have HFR:=hide (hfr.low HB0.out.size);have HFx:=hide ((hbel.block _ (aaa HF0.out)).trans HF0.out);have HBx:=hide (HB0.out.trans (hbel.mono HB0.out.size));obtain⟨hfl,c0,c1,fr0,fr1⟩:=aaf HFx.out;have hd:decide (v<0)=true:=by simp;omega
   clear hval hown how hfr hbel hcan;go_wp2;exact bodyPost_ret (v:=.agg #[.bool true,.slice ao ls.length cap]) (acb (g:=w.heap.size) rfl rfl (lvw2 (abv HFx.out _ _))) rfl ⟨_,rfl,HFR.out.ru (acl HFx.out _ _),(HBx.out.setCell (Nat.le_refl _) _).setCell (Nat.le_refl _) _⟩
theorem ape(w:World)(v:Int)(h1 : -9223372036854775808<=v)(h2:v<=9223372036854775807)(h0:¬v<0):
  Calls Tryz.prog 82 #[.int .i64 v] w fun e w'=>∃r,e=.returned r/\FrW w.heap.size v 2 r w'/\Below w.heap.size w w':=by
 obtain⟨i0,hi,hz0,hz1,hz2⟩:=info_parts acv;have hf0:=heap_alloc_new w (.cells #[.bool false,.slice none 0 0] 45);have hb0:=hAl w (.cells #[.bool false,.slice none 0 0] 45);generalize hE:w.alloc (.cells #[.bool false,.slice none 0 0] 45)=w0 at *
 have E0:=hide hE;have HF0:=hide hf0;have HB0:=hide hb0;clear hE hf0 hb0;have hw:True:=trivial;go_enter Tryz.func82,Tryz.ntmps82
 go_wp2;rw[E0.out];clear hw;go_loopw [3,4] (fun uv mv wr=>∃(u:Int) (ls:List Int),uv=.int .u64 u/\0<=u/\u<18446744073709551616/\Limb ls/\val ls+pw ls.length*u=v/\(u=0->tl ls=ls.length)/\wr.ownsRow w0.heap.size 86 1 mv ls.length (ls.map (Value.int .u32))/\Below w0.heap.size w0 wr) (fun uv _ _=>(intOf uv).toNat)
 case atStart=>exact⟨v,[],rfl,by omega,by omega,aak,by simp[val,pw],fun _=>rfl,World.ownsRow_nil _ _ _ _,Below.refl _ _⟩
 case round=>
  obtain⟨u,ls,rfl,hu0,hu1,hls,hv,htop,hown,hbel⟩:=hrel;have HL:=hide hls;have HV:=hide hv;have HT:=hide htop;clear hls hv htop;by_cases hu:0<u
  ·have hroom:=aty HL.out hu (by rw[HV.out];omega);have HV':=hide (atx HV.out);have HT':Hid (u/4294967296=0->tl (ls ++ [u%4294967296])=(ls ++ [u%4294967296]).length):=fun h=>azj hu h
   go_wp2_with (at_builtin;refine wpList_append_own _ rfl (.tmp 13) (.tmp 16) 43 rfl w0.heap.size 86 i0 (.int .u32 0) 1 4 Tryz.underlying43 hi hz0 hz1 hz2 rfl (by decide) _ _ _ rfl (hown.alloc _) ⟨wr.heap.size,0,none⟩ 1 1 [.int .u32 (u%4294967296)] rfl rfl (cell_one_new _ _ _) ?c2 ?c3 ?c4 ?c5 ?_)
   case c2=>first|rfl|(intro x hx;simp at hx;subst hx;rfl)
   case c3=>unfold maxLen;omega
   case c4=>omega
   case c5=>have:=hbel.size;first|omega|(simp;omega)
   intro v4 w4 hown4 hgrow4 _;have R:=amj hown4 hgrow4 hbel hbel.size hown.lt;clear hown4 hgrow4 hown;go_wp2;go_roundw
   case rel=>exact⟨u/4294967296,ls ++ [u%4294967296],rfl,by omega,by omega,aaw.2 ⟨HL.out,aan.2 ⟨by omega,aak⟩⟩,HV'.out,HT'.out,by simpa using R.1,R.2⟩
   case measure=>simp[intOf];omega
  ·have hu':u=0:=by omega
   subst hu';have hval:val ls=v:=by have:=HV.out;rwa[Int.mul_zero,Int.add_zero]at this
   have hcan:Canon ls:=⟨HL.out,HT.out rfl⟩;have hlen:ls.length<=2:=aa7 hcan (m:=2) (by rw[hval,show pw 2=18446744073709551616 from by decide];omega);have how:=ag8 hown HL.out;obtain⟨ao,cap,hmv,_⟩:=id how;subst hmv;have hfr:FrW w0.heap.size v 2 (.agg #[.bool false,.slice ao ls.length cap]) wr:=by
    refine⟨_,_,_,_,w0.heap.size,wr.heap.size,rfl,⟨⟨how,hcan,by rw[hval];omega,fun hc g off hg=>?_⟩,by simp;omega⟩,Nat.le_refl _,Nat.le_refl _,hlen⟩;subst hg;obtain⟨ao',cap',e1,_,_,_,e4⟩:=how;simp only[Value.slice.injEq]at e1;obtain⟨rfl,_,rfl⟩:=e1;rcases e4 with e4|⟨g',off',cur,e5,hB',hh,_⟩
    ·omega
    ·simp only[Option.some.injEq,Addr.mk.injEq]at e5;obtain⟨rfl,_,_⟩:=e5;exact⟨hB',aaa hh⟩
   have HFR:=hide (hfr.low HB0.out.size);have HFx:=hide ((hbel.block _ (aaa HF0.out)).trans HF0.out);have HBx:=hide (HB0.out.trans (hbel.mono HB0.out.size));obtain⟨hfl,c0,c1,fr0,fr1⟩:=aaf HFx.out;have hd:decide (v<0)=false:=by simp;omega
   clear hval hown how hfr hbel hcan;go_wp2;exact bodyPost_ret (v:=.agg #[.bool false,.slice ao ls.length cap]) (acb (g:=w.heap.size) rfl rfl (lvw2 (abv HFx.out _ _))) rfl ⟨_,rfl,HFR.out.ru (acl HFx.out _ _),(HBx.out.setCell (Nat.le_refl _) _).setCell (Nat.le_refl _) _⟩
theorem anc(w:World)(v:Int)(h1 : -9223372036854775808<=v)(h2:v<=9223372036854775807):
  Calls Tryz.prog 82 #[.int .i64 v] w fun e w'=>∃r,e=.returned r/\FrW w.heap.size v 2 r w'/\Below w.heap.size w w':=by
 by_cases h0:v<0
 ·exact apd w v h1 h2 h0
 ·exact ape w v h1 h2 h0
theorem aqr(w:World)(v:Value)(zs:List Int)(h:Nums w v zs)(hz:∀z∈zs,-9223372036854775808<=z/\z<=9223372036854775807)(hl:zs.length<=1000):
  Calls Tryz.prog 40 #[v] w fun e w'=>∃r,e=.returned r/\CanRow w' r zs 2/\Below w.heap.size w w':=by
 obtain⟨ao,cap,rfl,_⟩:=id h;have H:=hide h;have HZ:=hide hz;clear h hz;obtain⟨n,hn⟩:∃n,zs.length=n:=⟨_,rfl⟩;rw[hn]at H hl ⊢;have HN:=hide hn;clear hn;go_enter Tryz.func40,Tryz.ntmps40
 go_wp2_with fail
 go_loopw [3,4] (fun ov iv wr=>∃(k:Nat) (es:List WE),iv=.int .i64 k/\k<=n/\Below w.heap.size w wr/\es.length=k/\RwO w.heap.size wr ov es/\∀(j:Nat) (e:WE) (z:Int),es[j]? = some e->zs[j]? = some z->Canon e.zs/\val e.zs=(z.natAbs:Int)/\e.ng=decide (z<0)/\e.zs.length<=2) (fun _ iv _=>n-(intOf iv).toNat)
 case atStart=>exact⟨0,[],rfl,Nat.zero_le _,Below.refl _ _,rfl,a0t _ _,fun j e z he=>(by simp at he)⟩
 case round=>
  obtain⟨k,es,rfl,hk,hbw,hes,hown,hall⟩:=hrel;have HW:=hide hbw;have HES:=hide hes;have HOWN:=hide hown;have HALL:=hide hall;by_cases hlt:k<n
  ·obtain⟨b,off,rfl,hc⟩:=(show Nums wr (.slice ao n cap) zs from Ce.below H.out hbw).cell (i:=k) (by have:=HN.out;omega);have hget:zs[k]? = some (zs[k]'(by have:=HN.out;omega)):=List.getElem?_eq_getElem _;generalize zs[k]'(by have:=HN.out;omega)=z at hc hget;have HG:=hide hget;have hzb:=HZ.out z (List.mem_of_getElem? hget);have hlt':(k:Int)<(n:Int):=by omega
   obtain⟨aov,capv,hov,_⟩:=Cl.own hown.own;subst hov;clear hbw hes hown hall hget;go_wp2_with fail
   refine(anc wr z hzb.1 hzb.2).mono ?_;rintro e w2 ⟨r2,rfl,hf2,hb2⟩;obtain⟨ng2,ao2,cap2,rs2,B2,T2,rfl,hwf,hB2,hT2,hl2⟩:=hf2;have hA:=hAl w2 (.cells #[.bool ng2,.slice ao2 rs2.length cap2] 45);have hb2':=hb2.trans (hA.mono hb2.size);have hR2:=HOWN.out.below hb2';have hO2:One _ w2.heap.size ng2 ao2 rs2.length cap2:=heap_alloc_new w2 (.cells #[.bool ng2,.slice ao2 rs2.length cap2] 45);have hS2:Ow w.heap.size _ (.slice ao2 rs2.length cap2) rs2:=(hwf.fr.ow.mono (Nat.le_trans HW.out.size hB2)).below hA;have hsz:w.heap.size<=(w2.alloc (.cells #[.bool ng2,.slice ao2 rs2.length cap2] 45)).heap.size:=Nat.le_trans HW.out.size hb2'.size;go_wp2_with (at_builtin;refine abo rfl (a0u (i:=11) (j:=17) rfl rfl hR2 hO2 hS2 (by rw[HES.out];omega) hsz) ?_)
   intro v3 w3 hR3 hb3;obtain⟨aov3,capv3,hov3,_⟩:=Cl.own hR3.own;subst hov3;have HR3:=hide hR3;have HB3:=hide ((HW.out.trans (hb2'.mono HW.out.size)).trans hb3);have HWF:=hide hwf;clear hR3 hb3 hR2 hO2 hS2 hsz hA hb2 hb2' hwf hB2 hT2;go_wp2;go_roundw
   case rel=>
    refine⟨k+1,es ++ [⟨ng2,ao2,rs2.length,cap2,rs2⟩],by go_num,by omega,HB3.out,by simp[HES.out],HR3.out,fun j e y he hy=>?_⟩;by_cases hj:j<es.length
    ·rw[List.getElem?_append_left hj]at he;exact HALL.out j e y he hy
    ·have hjl:=(List.getElem?_eq_some_iff.1 he).1;simp at hjl;obtain rfl:j=es.length:=by omega
     rw[List.getElem?_append_right (Nat.le_refl _)]at he;simp at he;subst he;rw[HES.out,HG.out]at hy;obtain rfl:=Option.some.inj hy;exact⟨HWF.out.fr.canon,HWF.out.fr.val,HWF.out.sgn,hl2⟩
   case measure=>simp[intOf];omega
  ·have hlt':decide ((k:Int)<(n:Int))=false:=by simp;omega
   have hkn:k=n:=by omega
   subst hkn;clear hbw hes hown hall;go_wp2;refine bodyPost_ret (v:=_) (ah1 rfl rfl) rfl ⟨_,rfl,⟨es,HOWN.out.rw,by rw[HES.out,HN.out],HALL.out⟩,HW.out⟩
end Lm
namespace Lm
open Go Go.RowKit
theorem axq(w:World)(ax:Option Addr)(mx cx:Nat)(xs:List WE)(R:Rw w (.slice ax mx cx) xs)(hl:lenW xs<=35184372088832):
  Calls Tryz.prog 28 #[.slice ax mx cx] w fun e w'=>e=.returned (.int .i64 (lenW xs:Int))/\Below w.heap.size w w':=by
 have hll:=ao8 xs;have HX:=hide R;have HNx:Hid (mx=xs.length):=R.parts.1;have HL:Hid (lenW xs<=35184372088832/\mx<=lenW xs):=(show _/\_ from⟨hl,by rw[HNx.out];exact hll⟩);have hm:mx<=35184372088832:=by have:=HL.out;omega
 clear R hl hll;go_enter Tryz.func28,Tryz.ntmps28
 go_wp2_with fail
 go_loopw [3,4] (fun sv iv wr=>∃k:Nat,iv=.int .i64 k/\k<=mx/\sv=.int .i64 (lenW (xs.take k):Int)/\Below w.heap.size w wr) (fun _ iv _=>mx-(intOf iv).toNat)
 case atStart=>exact⟨0,rfl,Nat.zero_le _,rfl,Below.refl _ _⟩
 case round=>
  obtain⟨k,rfl,hk,rfl,hbw⟩:=hrel;by_cases hlt:k<mx
  ·have hlt':(k:Int)<(mx:Int):=by omega
   obtain⟨ex,hex⟩:∃e,xs[k]? = some e:=⟨_,List.getElem?_eq_getElem (by have:=HNx.out;omega)⟩;obtain⟨bx,ox,hAx,hlx0,hcx⟩:=HX.out.cells (by have:=HNx.out;omega);subst hAx;have hlx:bx<wr.heap.size:=Nat.lt_of_lt_of_le hlx0 hbw.size;have x0:=(hbw.cell (p:=⟨bx,ox+k*2,none⟩) hlx0).trans (hcx _ _ (ab7 hex).1);have x1:wr.cell? ⟨bx,ox+k*2+1,none⟩=some (.slice ex.a ex.m ex.c):=(hbw.cell (p:=⟨bx,ox+k*2+1,none⟩) hlx0).trans (hcx _ _ (ab7 hex).2);have hs:=auq hex;have hle:=am5 xs (k+1);have hm2:=HL.out;have HW:=hide hbw;have K1:=hide (awy wr ex.ng ex.a ex.m ex.c (by omega));obtain⟨s,hsv⟩:∃s,lenW (xs.take k)=s:=⟨_,rfl⟩;rw[hsv]at hs ⊢;have hadd:IntKind.i64.wrap ((s:Int)+(1+(ex.m:Int)))=(s:Int)+(1+(ex.m:Int)):=by rw[IntKind.wrap_i64];omega
   have HSV:=hide hs;clear hbw hs hle hsv hm2 hex hcx hlx;go_wp2_with fail
   refine K1.out.mono ?_;rintro e w2 ⟨rfl,hb2⟩;have HB2:=hide (HW.out.trans (hb2.mono HW.out.size));clear hb2 x0 x1 hlx0;go_wp2;go_roundw
   case rel=>exact⟨k+1,by go_num,by omega,by rw[HSV.out];simp,HB2.out⟩
   case measure=>simp[intOf];omega
  ·have hlt':decide ((k:Int)<(mx:Int))=false:=by simp;omega
   have hkn:k=mx:=by omega
   subst hkn;have HW:=hide hbw;clear hbw;go_wp2;refine bodyPost_ret (v:=_) (ah1 rfl rfl) rfl ⟨by rw[List.take_of_length_le (by have:=HNx.out;omega)];rfl,HW.out⟩
end Lm
namespace Md
def dotN(n:Nat)(x y:Rw):Int:=sumL (fun k=>x k*y k) (List.range n)
theorem ady(f g:Nat->Int):∀l:List Nat,sumL (fun k=>f k+g k) l=sumL f l+sumL g l
 | []=>rfl
 |x::l=>by rw[sumL,sumL,sumL,ady f g l];omega
theorem adl{f:Nat->Int}{l:List Nat}(h:∀k∈l,f k=0):sumL f l=0:=by
 induction l with
 |nil=>rfl
 |cons x l ih=>rw[sumL,h x (by simp),ih (fun k hk=>h k (by simp[hk]))];rfl
theorem ae8(a:Int)(f:Nat->Int):∀l:List Nat,sumL (fun k=>a*f k) l=a*sumL f l
 | []=>by simp[sumL]
 |x::l=>by rw[sumL,sumL,ae8 a f l];grind
theorem adz{f:Nat->Int}{q:Nat}: ∀ {l:List Nat},l.Nodup->q∈l->sumL (fun k=>if k=q then f k else 0) l=f q
 |x::l,hn,hq=>by
  obtain⟨h1,h2⟩:=List.nodup_cons.1 hn;rw[sumL];by_cases e:x=q
  ·subst e;rw[if_pos rfl,adl (fun k hk=>if_neg (fun e=>h1 (by rw[<-e];exact hk)))];omega
  ·rw[if_neg e,adz h2 (by rcases List.mem_cons.1 hq with h|h;exact absurd h.symm e;exact h)];omega
theorem agq{g:Nat->Int}{l:List Nat}(hl:l.Nodup):∀ {Q:List Nat},Q.Nodup->(∀q∈Q,q∈l)->sumL (fun k=>if k∈Q then g k else 0) l=sumL g Q
 | [],_,_=>adl (fun k _=>if_neg (by simp))
 |q::Q,hn,hs=>by
  obtain⟨h1,h2⟩:=List.nodup_cons.1 hn;have e:(fun k=>if k∈q::Q then g k else 0)=fun k=>(if k=q then g k else 0)+(if k∈Q then g k else 0):=by
   funext k;by_cases hk:k=q
   ·subst hk;rw[if_pos (by simp),if_pos rfl,if_neg h1];omega
   ·by_cases hk':k∈Q
    ·rw[if_pos (by simp[hk']),if_neg hk,if_pos hk'];omega
    ·rw[if_neg (by simp[hk,hk']),if_neg hk,if_neg hk'];rfl
  rw[e,ady,adz hl (hs q (by simp)),agq hl h2 (fun x hx=>hs x (by simp[hx])),sumL]
def acr(R:List Rw)(Q:List Nat)(c:Nat):Rw:=fun k=>if k=c then D R Q else if k∈Q then -D R (sub k c Q)else 0
theorem ah8{n:Nat}{R:List Rw}{Q:List Nat}{c:Nat}(hn:Q.Nodup)(hQ:∀q∈Q,q<n)(hc:c<n)(hcQ:c∉Q)(x:Rw):dotN n x (acr R Q c)=D (x::R) (c::Q):=by
 have e:(fun k=>x k*acr R Q c k)=fun k=>(if k=c then x k*D R Q else 0)+(if k∈Q then -(x k*D R (sub k c Q))else 0):=by
  funext k;unfold acr;by_cases hk:k=c
  ·subst hk;rw[if_pos rfl,if_pos rfl,if_neg hcQ];omega
  ·rw[if_neg hk,if_neg hk];by_cases hk':k∈Q
   ·rw[if_pos hk',if_pos hk',Int.mul_neg];omega
   ·rw[if_neg hk',if_neg hk',Int.mul_zero];rfl
 unfold dotN;rw[e,ady,adz (f:=fun k=>x k*D R Q) List.nodup_range (List.mem_range.2 hc),agq List.nodup_range hn (fun q hq=>List.mem_range.2 (hQ q hq)),ah7 R x hn c];have h:sumL (fun k=>-(x k*D R (sub k c Q))) Q = -sumL (fun p=>x p*D R (sub p c Q)) Q:=by
  have:=ae8 (-1) (fun p=>x p*D R (sub p c Q)) Q;rw[show(fun k=>-1*(x k*D R (sub k c Q)))=fun k=>-(x k*D R (sub k c Q))from funext fun k=>by omega]at this;rw[this];omega
 rw[h]
 grind
theorem ane{n:Nat}{R:List Rw}{Q:List Nat}(hn:Q.Nodup)(hd:D R Q≠0)(hQ:∀q∈Q,q<n)(hR:∀x∈R,∀c,n<=c->x c=0){v:Rw}(hv:∀c,n<=c->v c=0):RS R v↔∀c,c<n->c∉Q->dotN n v (acr R Q c)=0:=by
 constructor
 ·intro h c hc hcQ;rw[ah8 hn hQ hc hcQ];exact af3 h _
 ·intro h;refine akj hn hd (fun c=>?_);by_cases hcQ:c∈Q
  ·exact ahj _ hcQ
  ·by_cases hc:c<n
   ·rw[<-ah8 hn hQ hc hcQ];exact h c hc hcQ
   ·have hsp:=af1 (v::R) Q;have key:∀ {y:Rw},Sp (v::R) y->y c=0:=fun {y} hy=>by
     induction hy with
     |zero=>rfl
     |add a x y hx _ ih=>
      show a*x c+y c=0;rw[ih];rcases List.mem_cons.1 hx with rfl|hx
      ·rw[hv c (by omega)];simp
      ·rw[hR x hx c (by omega)];simp
    exact key hsp
theorem ad0(n:Nat)(a b:Int)(x y z:Rw):dotN n (fun k=>a*x k+b*y k) z=a*dotN n x z+b*dotN n y z:=by
 unfold dotN;rw[<-ae8,<-ae8,<-ady];congr 1
 funext k
 grind
theorem aa1(n:Nat)(x y:Rw):dotN n x y=dotN n y x:=by
 unfold dotN;congr 1
 funext k;rw[Int.mul_comm]
theorem ac9{n:Nat}{R:List Rw}{y:Rw}(h:∀x∈R,dotN n x y=0){x:Rw}(hx:RS R x):dotN n x y=0:=by
 obtain⟨a,ha,h1⟩:=hx;have key:∀ {z:Rw},Sp R z->dotN n z y=0:=fun {z} hz=>by
  induction hz with
  |zero=>unfold dotN;exact adl (fun k _=>by simp)
  |add b u v hu _ ih=>
   have:=ad0 n b 1 u v y;rw[show(fun k=>b*u k+1*v k)=fun k=>b*u k+v k from funext fun k=>by omega]at this;rw[this,h u hu,ih];simp
 have h2:=key h1;have h3:=ad0 n a 0 x x y;rw[show(fun k=>a*x k+0*x k)=fun k=>a*x k from funext fun k=>by omega,h2]at h3;have h4:a*dotN n x y=0:=by omega
 rcases Int.mul_eq_zero.1 h4 with h|h
 ·exact absurd h ha
 ·exact h
def free(n:Nat)(Q:List Nat):List Nat:=(List.range n).filter (fun c=>decide (c∉Q))
theorem abi{n:Nat}{Q:List Nat}{c:Nat}: c∈free n Q↔c<n/\c∉Q:=by simp[free]
theorem aju(n:Nat)(Q:List Nat):(free n Q).Nodup:=List.nodup_range.filter _
theorem au6{n:Nat}{R:List Rw}{Q:List Nat}(hn:Q.Nodup)(hd:D R Q≠0)(hQ:∀q∈Q,q<n){y:Rw}(hv:∀c,n<=c->y c=0)(h:∀x∈R,dotN n x y=0):RS ((free n Q).map (acr R Q)) y:=by
 refine⟨D R Q,hd,?_⟩;have key:∀l:List Nat,(∀c∈l,c∈free n Q)->Sp ((free n Q).map (acr R Q)) (fun k=>sumL (fun c=>y c*acr R Q c k) l):=by
  intro l;induction l with
  |nil=>intro _;exact .zero
  |cons c l ih=>
   intro hl;have:=(Sp.mem (List.mem_map.2 ⟨c,hl c (by simp),rfl⟩)).lin (ih (fun q hq=>hl q (by simp[hq]))) (y c) 1;refine cast (congrArg (Sp _) (funext fun k=>?_)) this;rw[sumL]
   grind
 refine cast (congrArg (Sp _) (funext fun k=>?_)) (key (free n Q) (fun _ h=>h));by_cases hk:k<n
 ·by_cases hkQ:k∈Q
  ·have h1:∀c∈free n Q,y c*acr R Q c k = -1*(y c*D R (sub k c Q)):=fun c hc=>by
    have:=abi.1 hc;unfold acr;rw[if_neg (fun e=>this.2 (by rw[<-e];exact hkQ)),if_pos hkQ]
    grind
   rw[ac5 h1,ae8];have h2:dotN n (fun c=>D R (sub k c Q)) y=0:=ac9 h (.of (af2 R hn hkQ));have e:(fun c=>D R (sub k c Q)*y c)=fun c=>(if c=k then D R Q*y c else 0)+(if c∈free n Q then y c*D R (sub k c Q)else 0)+(if c∈free n Q\/c=k then 0 else D R (sub k c Q)*y c):=by
    funext c;by_cases hc:c=k
    ·subst hc;rw[if_pos rfl,if_neg (fun h=>(abi.1 h).2 hkQ),if_pos (.inr rfl),sub_self];omega
    ·by_cases hc':c∈free n Q
     ·rw[if_neg hc,if_pos hc',if_pos (.inl hc'),Int.mul_comm];omega
     ·rw[if_neg hc,if_neg hc',if_neg (fun h=>h.elim hc' hc)];omega
   unfold dotN at h2;rw[e,ady,ady,adz (f:=fun c=>D R Q*y c) List.nodup_range (List.mem_range.2 hk),agq List.nodup_range (aju n Q) (fun q hq=>List.mem_range.2 (abi.1 hq).1),adl (f:=fun c=>if c∈free n Q\/c=k then 0 else D R (sub k c Q)*y c) (fun c hc=>?_)]at h2
   ·omega
   ·by_cases hc':c∈free n Q\/c=k
    ·rw[if_pos hc']
    ·rw[if_neg hc'];have hcQ:c∈Q:=by
      apply Classical.byContradiction;intro hno;exact hc' (.inl (abi.2 ⟨List.mem_range.1 hc,hno⟩))
     rw[(ad9 R).dup (aev hkQ hcQ (fun e=>hc' (.inr e))),Int.zero_mul]
  ·have hf:k∈free n Q:=abi.2 ⟨hk,hkQ⟩;have h1:∀c∈free n Q,y c*acr R Q c k=if c=k then y c*D R Q else 0:=fun c hc=>by
    unfold acr;by_cases e:k=c
    ·rw[if_pos e,if_pos e.symm]
    ·rw[if_neg e,if_neg hkQ,if_neg (fun h=>e h.symm),Int.mul_zero]
   rw[ac5 h1,adz (f:=fun c=>y c*D R Q) (aju n Q) hf,Int.mul_comm]
 ·rw[hv k (by omega),Int.mul_zero];refine(adl (fun c hc=>?_));have:=abi.1 hc;unfold acr;rw[if_neg (by omega),if_neg (fun h=>hk (hQ k h)),Int.mul_zero]
def rev(n:Nat)(x:Rw):Rw:=fun c=>if c<n then x (n-1-c)else 0
theorem ad1{n:Nat}{x:Rw}(h:∀c,n<=c->x c=0):rev n (rev n x)=x:=by
 funext c;unfold rev;by_cases hc:c<n
 ·rw[if_pos hc,if_pos (by omega)];congr 1;omega
 ·rw[if_neg hc,h c (by omega)]
theorem a28{n:Nat}{R:List Rw}{y:Rw}(h:Sp R y):Sp (R.map (rev n)) (rev n y):=by
 induction h with
 |zero=>exact cast (congrArg (Sp _) (funext fun c=>by unfold rev;split <;> rfl)) (Sp.zero (R:=R.map (rev n)))
 |add a x y hx _ ih=>
  have:=Sp.add (R:=R.map (rev n)) a (rev n x) (rev n y) (List.mem_map.2 ⟨x,hx,rfl⟩) ih;refine cast (congrArg (Sp _) (funext fun c=>?_)) this;unfold rev;split <;> simp
theorem ajv{n:Nat}{R:List Rw}{y:Rw}(h:RS R y):RS (R.map (rev n)) (rev n y):=by
 obtain⟨a,ha,h1⟩:=h;refine⟨a,ha,?_⟩;refine cast (congrArg (Sp _) (funext fun c=>?_)) (a28 (n:=n) h1);unfold rev;split <;> simp
def kerE(n:Nat)(R:List Rw)(Q:List Nat):List (Nat×Rw):=(free n Q).reverse.map (fun c=>(n-1-c,rev n (acr R Q c)))
theorem axr(n:Nat)(Q:List Nat):(free n Q).Pairwise (·<·):=List.pairwise_lt_range.filter _
theorem Gat.kerEF{n:Nat}{R:List Rw}{Q:List Nat}(G:Gat n R Q):EF (kerE n R Q):=by
 have hm:∀e,e∈kerE n R Q->∃c,c<n/\c∉Q/\e=(n-1-c,rev n (acr R Q c)):=by
  intro e he;obtain⟨c,hc,rfl⟩:=List.mem_map.1 he;have:=abi.1 (List.mem_reverse.1 hc);exact⟨c,this.1,this.2,rfl⟩
 have hat:∀c k,k<n->rev n (acr R Q c) k=acr R Q c (n-1-k):=fun c k hk=>if_pos hk
 refine⟨?_,fun e he=>?_,fun e he f hf hne=>?_,fun e he k hk=>?_⟩
 ·unfold kerE;rw[List.pairwise_map,List.pairwise_reverse];refine List.Pairwise.imp_of_mem ?_ (axr n Q);intro a b ha hb hab;have:=(abi.1 ha).1;have:=(abi.1 hb).1;show n-1-b<n-1-a;omega
 ·obtain⟨c,h1,h2,rfl⟩:=hm e he;show rev n (acr R Q c) (n-1-c)≠0;rw[hat _ _ (by omega),show n-1-(n-1-c)=c by omega];unfold acr;rw[if_pos rfl];exact G.ne
 ·obtain⟨c,h1,h2,rfl⟩:=hm e he;obtain⟨d,h3,h4,rfl⟩:=hm f hf;show rev n (acr R Q c) (n-1-d)=0;rw[hat _ _ (by omega),show n-1-(n-1-d)=d by omega];unfold acr;have hcd:d≠c:=fun e=>hne (by rw[e])
  rw[if_neg hcd,if_neg h4]
 ·obtain⟨c,h1,h2,rfl⟩:=hm e he;have hk':k<n-1-c:=hk;show rev n (acr R Q c) k=0;rw[hat _ _ (by omega)];unfold acr;rw[if_neg (by omega)];by_cases hq:n-1-k∈Q
  ·rw[if_pos hq,G.led _ hq c (by omega)];rfl
  ·rw[if_neg hq]
end Md
namespace Lm
open Go Go.RowKit
theorem anf(w:World)(v:Value)(zs:List Int)(L:Nat)(h:IsRow w v zs L)(f:FuncId)(hf:Has Tryz.prog f)(cap:Array Value)(p:Int->Bool)(hA:Asks w f cap zs L p):
  Calls Tryz.prog 169 #[v,.func (.func f) #[] cap] w fun e w'=>(∃r:Int,e=.returned (.int .i64 r)/\((r = -1/\zs.any p=false)\/∃(k:Nat) (z:Int),r=k/\zs[k]? = some z/\p z=true/\(zs.take k).any p=false))/\Below w.heap.size w w':=by
 obtain⟨ao,cp,rfl,hn⟩:=h.parts;have H:=hide h;have HA:=hide hA;clear h hA;obtain⟨n,hnn⟩:∃n,zs.length=n:=⟨_,rfl⟩;rw[hnn]at H hn ⊢;have HN:=hide hnn;clear hnn;go_enter Tryz.func169,Tryz.ntmps169
 go_wp2;go_loopw [5,8] (fun _ iv wr=>∃(k:Nat),iv=.int .i64 k/\k<=n/\(zs.take k).any p=false/\Below w.heap.size w wr) (fun _ iv _=>n-(intOf iv).toNat)
 case atStart=>exact⟨0,rfl,Nat.zero_le _,by simp,Below.refl _ _⟩
 case round=>
  obtain⟨k,rfl,hk,hany,hbw⟩:=hrel;have HW:=hide hbw;have HY:=hide hany;by_cases hlt:k<n
  ·obtain⟨z,hz⟩:∃z,zs[k]? = some z:=⟨_,List.getElem?_eq_getElem (by have:=HN.out;omega)⟩;obtain⟨b,off,ngx,ax,mx,cx,rfl,hbl,x0,x1,hx⟩:=H.out.cell hz;replace x0:=(hbw.cell (p:=⟨b,off+k*2,none⟩) hbl).trans x0;replace x1:=(hbw.cell (p:=⟨b,off+k*2+1,none⟩) hbl).trans x1;have hlt':(k:Int)<(n:Int):=by omega
   have KC:=hide (HA.out wr z (.agg #[.bool ngx,.slice ax mx cx]) hbw (List.mem_of_getElem? hz) (hx.ru (Ru.of_below hbw)));have HZ:=hide hz;clear hbw hany hx hz;have hE:∀args w,(callFunc f args).run Tryz.prog w=.ok (.enter f args) w:=fun args w=>hf.enter args w
   go_wp2_with fail
   refine KC.out.mono ?_;rintro e w3 ⟨rfl,hb3⟩;have HB3:=hide (HW.out.trans (hb3.mono HW.out.size));clear hb3 KC hE x0 x1;obtain⟨pz,hpz⟩:∃b,p z=b:=⟨_,rfl⟩;rw[hpz];have HPZ:=hide hpz;clear hpz;cases pz with
   |true=>
    go_wp2;go_ret;exact⟨⟨k,rfl,.inr ⟨k,z,rfl,HZ.out,HPZ.out,HY.out⟩⟩,HB3.out⟩
   |false=>
    go_wp2;go_roundw
    case rel=>exact⟨k+1,by go_num,by omega,adc HZ.out HY.out HPZ.out,HB3.out⟩
    case measure=>simp[intOf];omega
  ·have hlt':decide ((k:Int)<(n:Int))=false:=by simp;omega
   clear hbw hany;go_wp2;go_ret;refine⟨⟨-1,rfl,.inl ⟨rfl,?_⟩⟩,HW.out⟩;have:=HY.out;rwa[List.take_of_length_le (by have:=HN.out;omega)]at this
theorem apf(w:World)(v:Value)(rows:List (List Int))(L:Nat)(h:IsM w v rows L)(f:FuncId)(hf:Has Tryz.prog f)(cap:Array Value)(p:List Int->Bool)(hA:AsksR w f cap rows L p):
  Calls Tryz.prog 100 #[v,.func (.func f) #[] cap] w fun e w'=>(∃r:Int,e=.returned (.int .i64 r)/\decide (0<=r)=rows.any p)/\Below w.heap.size w w':=by
 obtain⟨ao,cp,rfl,hn⟩:=h.parts;have H:=hide h;have HA:=hide hA;clear h hA;obtain⟨n,hnn⟩:∃n,rows.length=n:=⟨_,rfl⟩;rw[hnn]at H hn ⊢;have HN:=hide hnn;clear hnn;go_enter Tryz.func100,Tryz.ntmps100
 go_wp2;go_loopw [5,8] (fun _ iv wr=>∃(k:Nat),iv=.int .i64 k/\k<=n/\(rows.take k).any p=false/\Below w.heap.size w wr) (fun _ iv _=>n-(intOf iv).toNat)
 case atStart=>exact⟨0,rfl,Nat.zero_le _,by simp,Below.refl _ _⟩
 case round=>
  obtain⟨k,rfl,hk,hany,hbw⟩:=hrel;have HW:=hide hbw;have HY:=hide hany;by_cases hlt:k<n
  ·obtain⟨z,hz⟩:∃z,rows[k]? = some z:=⟨_,List.getElem?_eq_getElem (by have:=HN.out;omega)⟩;obtain⟨b,off,u,rfl,hbl,x0,hx⟩:=H.out.cell hz;replace x0:=(hbw.cell (p:=⟨b,off+k,none⟩) hbl).trans x0;have hlt':(k:Int)<(n:Int):=by omega
   have KC:=hide (HA.out wr z u hbw (List.mem_of_getElem? hz) (hx.below hbw));obtain⟨ua,uc,rfl,_⟩:=hx.parts;have HZ:=hide hz;clear hbw hany hx hz;have hE:∀args w,(callFunc f args).run Tryz.prog w=.ok (.enter f args) w:=fun args w=>hf.enter args w
   go_wp2_with fail
   refine KC.out.mono ?_;rintro e w3 ⟨rfl,hb3⟩;have HB3:=hide (HW.out.trans (hb3.mono HW.out.size));clear hb3 KC hE x0;obtain⟨pz,hpz⟩:∃b,p z=b:=⟨_,rfl⟩;rw[hpz];have HPZ:=hide hpz;clear hpz;cases pz with
   |true=>
    go_wp2;go_ret;exact⟨⟨k,rfl,by rw[decide_eq_true (by omega),eq_comm,List.any_eq_true];exact⟨z,List.mem_of_getElem? HZ.out,HPZ.out⟩⟩,HB3.out⟩
   |false=>
    go_wp2;go_roundw
    case rel=>exact⟨k+1,by go_num,by omega,adc HZ.out HY.out HPZ.out,HB3.out⟩
    case measure=>simp[intOf];omega
  ·have hlt':decide ((k:Int)<(n:Int))=false:=by simp;omega
   clear hbw hany;go_wp2;go_ret;refine⟨⟨-1,rfl,?_⟩,HW.out⟩;have:=HY.out;rw[List.take_of_length_le (by have:=HN.out;omega)]at this;rw[this];rfl
theorem af4(w:World)(v:Value)(rows:List (List Int))(L:Nat)(h:IsM w v rows L)(f:FuncId)(hf:Has Tryz.prog f)(cap:Array Value)(p:List Int->Bool)(hA:AsksR w f cap rows L p):
  Calls Tryz.prog 65 #[v,.func (.func f) #[] cap] w fun e w'=>e=.returned (.bool (rows.any p))/\Below w.heap.size w w':=by
 have K:=hide (apf w v rows L h f hf cap p hA);obtain⟨ao,cp,rfl,hn⟩:=h.parts;clear h hA;go_enter Tryz.func65,Tryz.ntmps65
 go_wp2_with fail
 refine K.out.mono ?_;rintro e w1 ⟨⟨r,rfl,hr⟩,hb⟩;have HB:=hide hb;have HR:=hide hr;clear hb K hr;go_wp2;refine bodyPost_ret (v:=_) (by simp[results,Tryz.results65,go_sem];try rfl) rfl ⟨by rw[<-HR.out],HB.out⟩
theorem apg(w:World)(v:Value)(rows:List (List Int))(L:Nat)(h:IsM w v rows L)(f:FuncId)(hf:Has Tryz.prog f)(cap:Array Value)(p:List Int->Bool)(hA:AsksR w f cap rows L p):
  Calls Tryz.prog 212 #[v,.func (.func f) #[] cap] w fun e w'=>(∃r:Int,e=.returned (.int .i64 r)/\decide (0<=r)=rows.any p)/\Below w.heap.size w w':=by
 obtain⟨ao,cp,rfl,hn⟩:=h.parts;have H:=hide h;have HA:=hide hA;clear h hA;obtain⟨n,hnn⟩:∃n,rows.length=n:=⟨_,rfl⟩;rw[hnn]at H hn ⊢;have HN:=hide hnn;clear hnn;go_enter Tryz.func212,Tryz.ntmps212
 go_wp2;go_loopw [5,8] (fun _ iv wr=>∃(k:Nat),iv=.int .i64 k/\k<=n/\(rows.take k).any p=false/\Below w.heap.size w wr) (fun _ iv _=>n-(intOf iv).toNat)
 case atStart=>exact⟨0,rfl,Nat.zero_le _,by simp,Below.refl _ _⟩
 case round=>
  obtain⟨k,rfl,hk,hany,hbw⟩:=hrel;have HW:=hide hbw;have HY:=hide hany;by_cases hlt:k<n
  ·obtain⟨z,hz⟩:∃z,rows[k]? = some z:=⟨_,List.getElem?_eq_getElem (by have:=HN.out;omega)⟩;obtain⟨b,off,u,rfl,hbl,x0,hx⟩:=H.out.cell hz;replace x0:=(hbw.cell (p:=⟨b,off+k,none⟩) hbl).trans x0;have hlt':(k:Int)<(n:Int):=by omega
   have KC:=hide (HA.out wr z u hbw (List.mem_of_getElem? hz) (hx.below hbw));obtain⟨ua,uc,rfl,_⟩:=hx.parts;have HZ:=hide hz;clear hbw hany hx hz;have hE:∀args w,(callFunc f args).run Tryz.prog w=.ok (.enter f args) w:=fun args w=>hf.enter args w
   go_wp2_with fail
   refine KC.out.mono ?_;rintro e w3 ⟨rfl,hb3⟩;have HB3:=hide (HW.out.trans (hb3.mono HW.out.size));clear hb3 KC hE x0;obtain⟨pz,hpz⟩:∃b,p z=b:=⟨_,rfl⟩;rw[hpz];have HPZ:=hide hpz;clear hpz;cases pz with
   |true=>
    go_wp2;go_ret;exact⟨⟨k,rfl,by rw[decide_eq_true (by omega),eq_comm,List.any_eq_true];exact⟨z,List.mem_of_getElem? HZ.out,HPZ.out⟩⟩,HB3.out⟩
   |false=>
    go_wp2;go_roundw
    case rel=>exact⟨k+1,by go_num,by omega,adc HZ.out HY.out HPZ.out,HB3.out⟩
    case measure=>simp[intOf];omega
  ·have hlt':decide ((k:Int)<(n:Int))=false:=by simp;omega
   clear hbw hany;go_wp2;go_ret;refine⟨⟨-1,rfl,?_⟩,HW.out⟩;have:=HY.out;rw[List.take_of_length_le (by have:=HN.out;omega)]at this;rw[this];rfl
theorem akm(w:World)(v:Value)(rows:List (List Int))(L:Nat)(h:IsM w v rows L)(f:FuncId)(hf:Has Tryz.prog f)(cap:Array Value)(p:List Int->Bool)(hA:AsksR w f cap rows L p):
  Calls Tryz.prog 210 #[v,.func (.func f) #[] cap] w fun e w'=>e=.returned (.bool (rows.any p))/\Below w.heap.size w w':=by
 have K:=hide (apg w v rows L h f hf cap p hA);obtain⟨ao,cp,rfl,hn⟩:=h.parts;clear h hA;go_enter Tryz.func210,Tryz.ntmps210
 go_wp2_with fail
 refine K.out.mono ?_;rintro e w1 ⟨⟨r,rfl,hr⟩,hb⟩;have HB:=hide hb;have HR:=hide hr;clear hb K hr;go_wp2;refine bodyPost_ret (v:=_) (by simp[results,Tryz.results210,go_sem];try rfl) rfl ⟨by rw[<-HR.out],HB.out⟩
theorem a4f(n:Int):bits .and .i64 n 4611686018427387903=n%4611686018427387904:=by
 have h63:(BitVec.ofInt 64 4611686018427387903).toNat=2 ^ 62-1:=by decide
 have key:(BitVec.ofInt 64 n &&& BitVec.ofInt 64 4611686018427387903).toNat=(n%((2 ^ 64:Nat):Int)).toNat%2 ^ 62:=by
  rw[BitVec.toNat_and,BitVec.toNat_ofInt,h63,Nat.and_two_pow_sub_one_eq_mod]
 show IntKind.i64.wrap ((BitVec.ofInt 64 n &&& BitVec.ofInt 64 4611686018427387903).toNat:Nat)=n%4611686018427387904;rw[key,IntKind.wrap_i64];omega
theorem a29(v:Int)(m:Nat)(hm:m≠0):∃V:Nat,(bits .and .i64 v 4611686018427387903).tmod (m:Int)=(V:Int)/\V<m:=by
 rw[a4f];obtain⟨u,hu⟩:∃u:Nat,v%4611686018427387904=(u:Int):=⟨(v%4611686018427387904).toNat,by omega⟩;rw[hu];exact⟨u%m,by rw[Int.ofNat_tmod],Nat.mod_lt _ (by omega)⟩
theorem ang(p:Int){q:Int}(_h:q≠0):nm p q=(Rat.divInt p q).num:=by
 rw[Rat.num_divInt,nm,Int.gcd_comm];rw[Int.mul_ediv_assoc _ (Int.gcd_dvd_right ..)]
theorem anh(p:Int){q:Int}(h:q≠0):dn p q=((Rat.divInt p q).den:Int):=by
 rw[Rat.den_divInt,if_neg h,dn,Int.gcd_comm,Int.natCast_ediv];rcases Int.lt_or_gt_of_ne h with h1|h1
 ·rw[Int.sign_eq_neg_one_of_neg h1,show((q.natAbs:Nat):Int) = -q from by omega,Int.neg_ediv_of_dvd (Int.gcd_dvd_left ..)];omega
 ·rw[Int.sign_eq_one_of_pos h1,show((q.natAbs:Nat):Int)=q from by omega];omega
theorem aew(p q:Int):Rat.divInt (tp p q) (tq q)=Rat.divInt p q:=by
 unfold tp tq;split
 ·next h=>rw[h,Rat.divInt_zero,Rat.zero_divInt]
 ·rfl
def IsQ(r:Rat)(L:Nat):Says:=fun v w=>∃p q,IsR p q L v w/\Rat.divInt p q=r
def OutQr(r:Rat)(L:Nat):Says:=OutR r.num (r.den:Int) L
theorem OutQr.is{r:Rat}{L:Nat}{v:Value}{w:World}(h:OutQr r L v w):IsQ r L v w:=⟨_,_,OutR.is h,Rat.num_divInt_den r⟩
def Fit(r:Rat)(L:Nat):Prop:=(r.num.natAbs:Int)<pw L/\(r.den:Int)<pw L
theorem OutQr.fit{r:Rat}{L L':Nat}{v:Value}{w:World}(h:OutQr r L v w)(hf:Fit r L'):OutQr r L' v w:=by
 obtain⟨ng,ao,cap,rs,bo,dap,ss,e,h1,h2,l1,l2⟩:=h;exact⟨ng,ao,cap,rs,bo,dap,ss,e,h1,h2,aa7 h1.1.2.1 (by rw[h1.1.2.2];exact hf.1),aa7 h2.2.1 (by rw[h2.2.2];exact hf.2)⟩
theorem IsQ.open{r:Rat}{L:Nat}{v:Value}{w:World}(h:IsQ r L v w):∃ng ao n cap xs bo m dap ys p q,v=.agg #[.bool ng,.slice ao n cap,.slice bo m dap]/\Ag w ng ao n cap xs p/\Sl w (.slice bo m dap) ys/\val ys=q/\xs.length<=L/\ys.length<=L/\Rat.divInt p q=r:=by
 obtain⟨p,q,⟨ng,ao,n,cap,xs,bo,m,dap,ys,h1,h2,h3,h4,h5,h6⟩,h7⟩:=h;exact⟨ng,ao,n,cap,xs,bo,m,dap,ys,p,q,h1,h2,h3,h4,h5,h6,h7⟩
theorem a00(w:World)(x:Value)(z:Int)(L:Nat)(hx:IsW z L x w)(hL:L<=100000000):
  Calls Tryz.prog 21 #[x] w fun e w'=>∃v,e=.returned v/\OutQr (z:Rat) (L+2) v w'/\Below w.heap.size w w':=by
 obtain⟨ng,ao,n,cap,xs,rfl,h2,h5⟩:=hx;refine(a2u w L ng ao n cap xs z h2 h5 hL).mono ?_;rintro e w' ⟨v,rfl,ho,hb⟩;exact⟨v,rfl,ho,hb⟩
theorem a4g(w:World)(x y:Value)(z u:Int)(L M:Nat)(hx:IsW z L x w)(hy:IsW u M y w)(hL:L+M<=100000000):
  Calls Tryz.prog 84 #[x,y] w fun e w'=>Below w.heap.size w w'/\((u≠0/\∃v,e=.returned (.tuple #[v,.int .i64 0])/\OutQr (Rat.divInt z u) (L+M) v w')\/(u=0/\e=.returned (.tuple #[.agg #[.bool false,.slice none 0 0,.slice none 0 0],.int .i64 20]))):=by
 obtain⟨ng,ao,n,cap,xs,rfl,h2,h5⟩:=hx;obtain⟨ng',ao',n',cap',xs',rfl,g2,g5⟩:=hy;by_cases hu:u=0
 ·refine(a2w w L ng ao n cap xs z h2 h5 M ng' ao' n' cap' xs' u g2 g5 hL hu).mono ?_;rintro e w' ⟨v,rfl,⟨a,b,rfl,h1,h2⟩,hb⟩;exact⟨hb,.inr ⟨hu,by rw[h1,h2]⟩⟩
 ·refine(a38 w L ng ao n cap xs z h2 h5 M ng' ao' n' cap' xs' u g2 g5 hL hu).mono ?_;rintro e w' ⟨v,rfl,⟨a,b,rfl,h1,h2⟩,hb⟩;rw[ang _ hu,anh _ hu]at h1;exact⟨hb,.inl ⟨hu,a,by rw[h2],h1⟩⟩
section
variable {dst:Option Tmp} {ty:TypeId} {pos:String} {after:Array Edge} {guard:Option (Nat×Bool)} {a:Act} {w:World} {ats:Array TypeId} {i j k g:Nat} {u v x y z:Int} {L L1 L2:Nat}
theorem au7{ng:Bool}{ao bo:Option Addr}{n c m d:Nat}(hp:a.eval (.tmp k)=.pointer (some ⟨g,1,none⟩))(hb:BoxV R3 w g (.agg #[.bool ng,.slice ao n c,.slice bo m d])):
  Does Tryz.prog {dst,op:=.load 43 (.tmp k),type:=ty,pos,after,guard} a.eval w fun v' w'=>Below w.heap.size w w'/\Eqs (.slice ao n c) v' w':=by
 obtain⟨b1,b2,b3,b4,b5,b6⟩:=adu (amp hb);refine aa3 (v:=.slice ao n c) ?_ ⟨Below.refl _ _,rfl⟩;rw[hp];go_simp
end
theorem au8{K:Nat}{ng:Bool}{ao:Option Addr}{cap:Nat}{rs:List Int}{z:Int}{L L' B T:Nat}{w:World}(F:Dm.WFr B T w ng ao cap rs z)(hB:K<=B)(hT:T<=w.heap.size)(hl:rs.length<=L)(hL:L<=L'):FrW K z L' (.agg #[.bool ng,.slice ao rs.length cap]) w:=⟨_,_,_,_,_,_,rfl,F,hB,hT,Nat.le_trans hl hL⟩
section
end
theorem frwlow{P:Program}{o:Oper}{a:Act}{w:World}{K:Nat}{z:Int}{L:Nat}{p:Says}(hK:K<=w.heap.size)(hd:Does P o a.eval w fun v w'=>Below w.heap.size w w'/\Tup2 (FrW w.heap.size z L) p v w'):Does P o a.eval w fun v w'=>Below w.heap.size w w'/\Tup2 (FrW K z L) p v w':=
 hd.mono fun _ _ ⟨hb,x,y,e,⟨ng,ao,cap,rs,B,T,e',h,h1,h2⟩,h3⟩=>⟨hb,x,y,e,⟨ng,ao,cap,rs,B,T,e',h,Nat.le_trans hK h1,h2⟩,h3⟩
section
variable {dst:Option Tmp} {ty:TypeId} {pos:String} {after:Array Edge} {guard:Option (Nat×Bool)} {a:Act} {w:World} {ats:Array TypeId} {i j:Nat} {x y:Int} {L1 L2 K:Nat}
theorem axs(hx:IsW x L1 (a.eval (.tmp i)) w)(hy:IsW y L2 (a.eval (.tmp j)) w)(h1:L1<=400000000)(h2:L2<=400000000)(h0:y≠0)(hK:K<=w.heap.size):
  Does Tryz.prog {dst,op:=.call {callee:=.value (.func 120),args:=#[.tmp i,.tmp j],argTypes:=ats},type:=ty,pos,after,guard} a.eval w fun v w'=>Below w.heap.size w w'/\Tup3 (FrW K (x/y) (L1+4)) (OutW (x%y) L2) (Eqs (.bool true)) v w':=by
 obtain⟨n1,a1,m1,c1,xs,e1,A1,l1⟩:=hx;obtain⟨n2,a2,m2,c2,ys,e2,A2,l2⟩:=hy;have hv:val ys≠0:=fun e=>h0 (by rw[<-A2.worth,e];cases n2 <;> simp[sg])
 refine aah axi _ (by simp only[List.map_toArray,List.map_cons,List.map_nil,e1,e2]) ((alh w n1 a1 m1 c1 xs A1.sl n2 a2 m2 c2 ys A2.sl (by omega) (by omega) hv).mono ?_);rintro e w' ⟨nq,aq,cq,qs,nr,ar,cr,rs,B1,T1,B2,T2,rfl,G1,G2,q1,q2,o1,o2,⟨y1,y2,y3,y4,y5⟩,hb⟩;rw[A1.worth,A2.worth]at G1 G2;exact⟨_,rfl,hb,_,_,_,rfl,⟨_,_,_,_,_,_,rfl,o1.wfr G1,by omega,y2,by omega⟩,⟨_,_,_,_,rfl,G2,by omega⟩,rfl⟩
theorem a3a{u v:Nat}(h1:a.eval (.tmp i)=.int .i64 (u:Int))(h2:a.eval (.tmp j)=.int .i64 (v:Int)){ts:Array TypeId}:
  Does Tryz.prog {dst,op:=.call {callee:=.builtin .max,args:=#[.tmp i,.tmp j],argTypes:=ts},type:=ty,pos,after,guard} a.eval w fun v' w'=>Below w.heap.size w w'/\Eqs (.int .i64 ((max u v:Nat):Int)) v' w':=by
 have e:(execOp a.eval {dst,op:=.call {callee:=.builtin .max,args:=#[.tmp i,.tmp j],argTypes:=ts},type:=ty,pos,after,guard}).run Tryz.prog w=.ok (.value (.int .i64 ((max u v:Nat):Int))) w:=by
  have h1':a.tmps[i]?.getD undef=.int .i64 (u:Int):=by simpa[Act.eval]using h1
  have h2':a.tmps[j]?.getD undef=.int .i64 (v:Int):=by simpa[Act.eval]using h2
  simp[go_sem,h1',h2'];omega
 refine⟨?_⟩;unfold Turns;rw[e];exact⟨Below.refl _ _,rfl⟩
end
theorem asp(w:World)(Br:Nat)(nr:Bool)(ar:Option Addr)(mr cr:Nat)(rs:List Int)(pr:Int)(Ar:Ag w nr ar mr cr rs pr)(Lr:rs.length<=Br)(br:Option Addr)(kr dr:Nat)(rt:List Int)(qr:Int)(Sr:Sl w (.slice br kr dr) rt)(Vr:val rt=qr)(Mr:rt.length<=Br)(hL:Br<=100000000):
  Calls Tryz.prog 109 #[.agg #[.bool nr,.slice ar mr cr,.slice br kr dr]] w fun e w'=>∃v,e=.returned v/\(Tup2 (FrW w.heap.size (tp pr qr/tq qr) (Br+6)) (OutW (tp pr qr%tq qr) (Br+6))) v w'/\Below w.heap.size w w':=by
 go_enter Tryz.func109,Tryz.ntmps109
 generalize hA:(Act.mk _ _)=aa;have hn:aa.tmps.size=20:=by rw[<-hA];rfl
 have hd:aa.defers = []:=by rw[<-hA]
 have f0:aa.eval (.tmp 0)=.agg #[.bool nr,.slice ar mr cr,.slice br kr dr]:=by rw[<-hA];rfl
 clear hA;have HB:Below w.heap.size w w:=Below.refl _ _;have Dr:Ag w false br kr dr rt qr:=⟨Sr,Vr⟩;refine wp_seq ?_;refine aa2 [some 1,some 2,some 3] [Tt,Tt,Tt] [⟨R3,some 0,0,1,.agg #[.bool nr,.slice ar mr cr,.slice br kr dr],none,[]⟩,⟨W2,some 1,0,2,.agg #[.bool false,.slice none 0 0],none,[]⟩,⟨W2,some 2,0,3,.agg #[.bool false,.slice none 0 0],none,[]⟩] [] (by kernel_rfl) hn rfl (by kernel_rfl) (by kernel_rfl) (by kernel_rfl) (by kernel_rfl) (by kernel_rfl) (by kernel_rfl) ⟨True.mono4,True.mono4,True.mono4,trivial⟩ (aaz R3ok (aaz W2ok (aaz W2ok aa8))) (IsOld.all (bx:=[⟨R3,some 0,0,1,.agg #[.bool nr,.slice ar mr cr,.slice br kr dr],none,[]⟩,⟨W2,some 1,0,2,.agg #[.bool false,.slice none 0 0],none,[]⟩,⟨W2,some 2,0,3,.agg #[.bool false,.slice none 0 0],none,[]⟩]) ⟨someNe,someNe,someNe,trivial⟩) (DisOld.all (bx:=[⟨R3,some 0,0,1,.agg #[.bool nr,.slice ar mr cr,.slice br kr dr],none,[]⟩,⟨W2,some 1,0,2,.agg #[.bool false,.slice none 0 0],none,[]⟩,⟨W2,some 2,0,3,.agg #[.bool false,.slice none 0 0],none,[]⟩]) ⟨someNe,someNe,someNe,trivial⟩) ?_ ?_
 ·exact⟨.alloc 0 _ rfl rfl (.inr ⟨_,rfl,ajl,fun a_ hR=>(hR 0 rfl).trans f0⟩) rfl rfl rfl rfl rfl,.alloc 1 _ rfl rfl (.inl ⟨rfl,rfl⟩) rfl rfl rfl rfl rfl,.alloc 2 _ rfl rfl (.inl ⟨rfl,rfl⟩) rfl rfl rfl rfl rfl,trivial⟩
 ·intro a1 w1 gs1 hn1 hd1 hBt hr hR hP hX hU;replace hn:=hn1;replace hd:=hd1.trans hd;have ne1_2:gs1 0≠gs1 1:=hU 0 1 (by simp) (by simp) (by decide);have ne1_3:gs1 0≠gs1 2:=hU 0 2 (by simp) (by simp) (by decide);have ne2_3:gs1 1≠gs1 2:=hU 1 2 (by simp) (by simp) (by decide);have b1:BoxV R3 w1 (gs1 0) (.agg #[.bool nr,.slice ar mr cr,.slice br kr dr]):=(hX 0 _ rfl).2.2.2;have f1:=(hX 0 _ rfl).1;have u1:w.heap.size<=gs1 0:=Nat.le_trans HB.size ((hX 0 _ rfl).2.2.1 (by simp));have b2:BoxV W2 w1 (gs1 1) (.agg #[.bool false,.slice none 0 0]):=(hX 1 _ rfl).2.2.2;have f2:=(hX 1 _ rfl).1;have u2:w.heap.size<=gs1 1:=Nat.le_trans HB.size ((hX 1 _ rfl).2.2.1 (by simp));have b3:BoxV W2 w1 (gs1 2) (.agg #[.bool false,.slice none 0 0]):=(hX 2 _ rfl).2.2.2;have f3:=(hX 2 _ rfl).1;have u3:w.heap.size<=gs1 2:=Nat.le_trans HB.size ((hX 2 _ rfl).2.2.1 (by simp));replace Ar:=Ar.rl hr;replace Sr:=Sr.rl hr;replace Dr:=Dr.rl hr;replace HB:=HB.trans (hBt.below HB.size (UpOld.all (bx:=[⟨R3,some 0,0,1,.agg #[.bool nr,.slice ar mr cr,.slice br kr dr],none,[]⟩,⟨W2,some 1,0,2,.agg #[.bool false,.slice none 0 0],none,[]⟩,⟨W2,some 2,0,3,.agg #[.bool false,.slice none 0 0],none,[]⟩]) ⟨someNe,someNe,someNe,trivial⟩));clear hBt hr hR hP hX hU;refine wp_seq ?_;refine aa2 [some 7,some 8,some 6,some 9,some 10,some 4,some 5,none,none] [Eqs (.agg #[.bool nr,.slice ar mr cr,.slice br kr dr]),Tup2 (IsW ((tp pr qr)) ((Br)+2)) (IsW ((tq qr)) ((Br)+2)),Tup2 (IsW ((tp pr qr)) ((Br)+2)) (IsW ((tq qr)) ((Br)+2)),IsW ((tp pr qr)) ((Br)+2),IsW ((tq qr)) ((Br)+2),Tt,Tt,Tt,Tt] [⟨W2,some 5,0,4,.agg #[.bool false,.slice none 0 0],some (7,9,3),[]⟩,⟨W2,some 6,0,5,.agg #[.bool false,.slice none 0 0],some (8,10,4),[]⟩] [] (by kernel_rfl) hn rfl (by kernel_rfl) (by kernel_rfl) (by kernel_rfl) (by kernel_rfl) (by kernel_rfl) (by kernel_rfl) ⟨Eqs.mono4 _,Tup2.mono4 (IsW.mono4 _ _) (IsW.mono4 _ _),Tup2.mono4 (IsW.mono4 _ _) (IsW.mono4 _ _),IsW.mono4 _ _,IsW.mono4 _ _,True.mono4,True.mono4,True.mono4,True.mono4,trivial⟩ (aaz W2ok (aaz W2ok aa8)) (IsOld.all (bx:=[⟨W2,some 5,0,4,.agg #[.bool false,.slice none 0 0],some (7,9,3),[]⟩,⟨W2,some 6,0,5,.agg #[.bool false,.slice none 0 0],some (8,10,4),[]⟩]) ⟨someNe,someNe,trivial⟩) (DisOld.all (bx:=[⟨W2,some 5,0,4,.agg #[.bool false,.slice none 0 0],some (7,9,3),[]⟩,⟨W2,some 6,0,5,.agg #[.bool false,.slice none 0 0],some (8,10,4),[]⟩]) ⟨someNe,someNe,trivial⟩) ?_ ?_
  ·exact⟨.norm 7 rfl rfl rfl (fun a_ w_ _ t r R D _ _=>abh R3ok ((R 1 rfl).trans f1) (b1.keep t ⟨someNe,someNe,trivial⟩)),.norm 8 rfl rfl rfl (fun a_ w_ _ t r R D _ _=>aiy (ahe (show a_.eval (.tmp 7)=.agg #[.bool nr,.slice ar mr cr,.slice br kr dr]from D 0 rfl) (Ar.rl r) (Sr.rl r) Vr Lr Mr) (by omega)),.norm 6 rfl rfl rfl (fun a_ w_ _ t r R D _ _=>aee (p:=Tup2 (IsW ((tp pr qr)) ((Br)+2)) (IsW ((tq qr)) ((Br)+2))) (show Tup2 (IsW ((tp pr qr)) ((Br)+2)) (IsW ((tq qr)) ((Br)+2)) (a_.eval (.tmp 8)) w_ from D 1 rfl)),.norm 9 rfl rfl rfl (fun a_ w_ _ t r R D _ _=>ahy (show Tup2 (IsW ((tp pr qr)) ((Br)+2)) (IsW ((tq qr)) ((Br)+2)) (a_.eval (.tmp 6)) w_ from D 2 rfl)),.norm 10 rfl rfl rfl (fun a_ w_ _ t r R D _ _=>ahz (show Tup2 (IsW ((tp pr qr)) ((Br)+2)) (IsW ((tq qr)) ((Br)+2)) (a_.eval (.tmp 6)) w_ from D 2 rfl)),.alloc 0 _ rfl rfl (.inl ⟨rfl,rfl⟩) rfl rfl rfl rfl rfl,.alloc 1 _ rfl rfl (.inl ⟨rfl,rfl⟩) rfl rfl rfl rfl rfl,.store 0 _ _ _ rfl rfl rfl rfl rfl rfl rfl (fun ia h=>by cases h;rfl) rfl rfl rfl IsW.cs,.store 1 _ _ _ rfl rfl rfl rfl rfl rfl rfl (fun ia h=>by cases h;rfl) rfl rfl rfl IsW.cs,trivial⟩
  ·intro a2 w2 gs2 hn2 hd2 hBt hr hR hP hX hU;replace hn:=hn2;replace hd:=hd2.trans hd;have ne2_4:(gs1 1)≠gs2 0:=by have h1:=b2.lt;have h2:=(hX 0 _ rfl).2.2.1 (by simp);omega
   have ne3_4:(gs1 2)≠gs2 0:=by have h1:=b3.lt;have h2:=(hX 0 _ rfl).2.2.1 (by simp);omega
   have ne2_5:(gs1 1)≠gs2 1:=by have h1:=b2.lt;have h2:=(hX 1 _ rfl).2.2.1 (by simp);omega
   have ne3_5:(gs1 2)≠gs2 1:=by have h1:=b3.lt;have h2:=(hX 1 _ rfl).2.2.1 (by simp);omega
   replace b2:=b2.keep hBt ⟨someNe,someNe,trivial⟩;replace b3:=b3.keep hBt ⟨someNe,someNe,trivial⟩;obtain⟨n_3,a_3,m_3,c_3,r_3,e9,A3,l3⟩:IsW ((tp pr qr)) ((Br)+2) (a2.eval (.tmp 9)) w2:=hP 3 (by decide);have b4:BoxV W2 w2 (gs2 0) (.agg #[.bool n_3,.slice a_3 m_3 c_3]):=ac3 (hX 0 _ rfl).2.2.2 e9;have f4:=(hX 0 _ rfl).1;have u4:w.heap.size<=gs2 0:=Nat.le_trans HB.size ((hX 0 _ rfl).2.2.1 (by simp));obtain⟨n_4,a_4,m_4,c_4,r_4,e10,A4,l4⟩:IsW ((tq qr)) ((Br)+2) (a2.eval (.tmp 10)) w2:=hP 4 (by decide);have b5:BoxV W2 w2 (gs2 1) (.agg #[.bool n_4,.slice a_4 m_4 c_4]):=ac3 (hX 1 _ rfl).2.2.2 e10;have f5:=(hX 1 _ rfl).1;have u5:w.heap.size<=gs2 1:=Nat.le_trans HB.size ((hX 1 _ rfl).2.2.1 (by simp));replace f2:=(hR 2 rfl).trans f2;replace f3:=(hR 3 rfl).trans f3;replace Ar:=Ar.rl hr;replace Sr:=Sr.rl hr;replace Dr:=Dr.rl hr;replace HB:=HB.trans (hBt.below HB.size (UpOld.all (bx:=[⟨W2,some 5,0,4,.agg #[.bool false,.slice none 0 0],some (7,9,3),[]⟩,⟨W2,some 6,0,5,.agg #[.bool false,.slice none 0 0],some (8,10,4),[]⟩]) ⟨someNe,someNe,trivial⟩));clear hBt hr hR hP hX hU;refine wp_seq ?_;refine aa2 [some 12,some 13,some 14,some 11,some 15,some 16,some 17,none,none] [Eqs (.agg #[.bool n_3,.slice a_3 m_3 c_3]),Eqs (.agg #[.bool n_4,.slice a_4 m_4 c_4]),Tup3 (FrW (w.heap.size) (((tp pr qr)/(tq qr))) (((Br)+2)+4)) (OutW (((tp pr qr)%(tq qr))) ((Br)+2)) (Eqs (.bool true)),Tup3 (FrW (w.heap.size) (((tp pr qr)/(tq qr))) (((Br)+2)+4)) (OutW (((tp pr qr)%(tq qr))) ((Br)+2)) (Eqs (.bool true)),FrW (w.heap.size) (((tp pr qr)/(tq qr))) (((Br)+2)+4),OutW (((tp pr qr)%(tq qr))) ((Br)+2),Eqs (.bool true),Tt,Tt] [⟨W2,none,(gs1 1),2,.agg #[.bool false,.slice none 0 0],some (7,15,4),[]⟩,⟨W2,none,(gs1 2),3,.agg #[.bool false,.slice none 0 0],some (8,16,5),[]⟩] [] (by kernel_rfl) hn rfl (by kernel_rfl) (by kernel_rfl) (by kernel_rfl) (by kernel_rfl) (by kernel_rfl) (by kernel_rfl) ⟨Eqs.mono4 _,Eqs.mono4 _,Tup3.mono4 (FrW.mono4 _ _ _) (OutW.mono4 _ _) (Eqs.mono4 _),Tup3.mono4 (FrW.mono4 _ _ _) (OutW.mono4 _ _) (Eqs.mono4 _),FrW.mono4 _ _ _,OutW.mono4 _ _,Eqs.mono4 _,True.mono4,True.mono4,trivial⟩ (aaz W2ok (aaz W2ok aa8)) (IsOld.all (bx:=[⟨W2,none,(gs1 1),2,.agg #[.bool false,.slice none 0 0],some (7,15,4),[]⟩,⟨W2,none,(gs1 2),3,.agg #[.bool false,.slice none 0 0],some (8,16,5),[]⟩]) ⟨fun _=>⟨f2,b2⟩,fun _=>⟨f3,b3⟩,trivial⟩) (DisOld.all (bx:=[⟨W2,none,(gs1 1),2,.agg #[.bool false,.slice none 0 0],some (7,15,4),[]⟩,⟨W2,none,(gs1 2),3,.agg #[.bool false,.slice none 0 0],some (8,16,5),[]⟩]) ⟨fun _=>⟨fun _=>ne2_3.symm,trivial⟩,fun _=>trivial,trivial⟩) ?_ ?_
   ·exact⟨.norm 12 rfl rfl rfl (fun a_ w_ _ t r R D _ _=>abh W2ok ((R 4 rfl).trans f4) (b4.keep t ⟨fun _=>ne2_4,fun _=>ne3_4,trivial⟩)),.norm 13 rfl rfl rfl (fun a_ w_ _ t r R D _ _=>abh W2ok ((R 5 rfl).trans f5) (b5.keep t ⟨fun _=>ne2_5,fun _=>ne3_5,trivial⟩)),.norm 14 rfl rfl rfl (fun a_ w_ _ t r R D _ _=>axs (adp (show a_.eval (.tmp 12)=.agg #[.bool n_3,.slice a_3 m_3 c_3]from D 0 rfl) (A3.rl r) l3) (adp (show a_.eval (.tmp 13)=.agg #[.bool n_4,.slice a_4 m_4 c_4]from D 1 rfl) (A4.rl r) l4) (by omega) (by omega) (ad6 _) (Nat.le_trans HB.size r.size)),.norm 11 rfl rfl rfl (fun a_ w_ _ t r R D _ _=>aee (p:=Tup3 (FrW (w.heap.size) (((tp pr qr)/(tq qr))) (((Br)+2)+4)) (OutW (((tp pr qr)%(tq qr))) ((Br)+2)) (Eqs (.bool true))) (show Tup3 (FrW (w.heap.size) (((tp pr qr)/(tq qr))) (((Br)+2)+4)) (OutW (((tp pr qr)%(tq qr))) ((Br)+2)) (Eqs (.bool true)) (a_.eval (.tmp 14)) w_ from D 2 rfl)),.norm 15 rfl rfl rfl (fun a_ w_ _ t r R D _ _=>a0d (show Tup3 (FrW (w.heap.size) (((tp pr qr)/(tq qr))) (((Br)+2)+4)) (OutW (((tp pr qr)%(tq qr))) ((Br)+2)) (Eqs (.bool true)) (a_.eval (.tmp 11)) w_ from D 3 rfl)),.norm 16 rfl rfl rfl (fun a_ w_ _ t r R D _ _=>a0e (show Tup3 (FrW (w.heap.size) (((tp pr qr)/(tq qr))) (((Br)+2)+4)) (OutW (((tp pr qr)%(tq qr))) ((Br)+2)) (Eqs (.bool true)) (a_.eval (.tmp 11)) w_ from D 3 rfl)),.norm 17 rfl rfl rfl (fun a_ w_ _ t r R D _ _=>a0f (show Tup3 (FrW (w.heap.size) (((tp pr qr)/(tq qr))) (((Br)+2)+4)) (OutW (((tp pr qr)%(tq qr))) ((Br)+2)) (Eqs (.bool true)) (a_.eval (.tmp 11)) w_ from D 3 rfl)),.store 0 _ _ _ rfl rfl rfl rfl rfl rfl rfl (fun ia h=>by cases h) rfl rfl rfl FrW.cs,.store 1 _ _ _ rfl rfl rfl rfl rfl rfl rfl (fun ia h=>by cases h) rfl rfl rfl OutW.cs,trivial⟩
   ·intro a5 w5 gs5 hn5 hd5 hBt hr hR hP hX hU;replace hn:=hn5;replace hd:=hd5.trans hd;obtain⟨n_6,a_6,c_6,r_6,B6,T6,e15,F6,fb6,ft6,l6⟩:FrW (w.heap.size) (((tp pr qr)/(tq qr))) (((Br)+2)+4) (a5.eval (.tmp 15)) w5:=hP 4 (by decide);have G6:=F6.wh;have A6:=G6.ag;have HT6:SzGe T6 w5:=ft6;have b2:BoxV W2 w5 ((gs1 1)) (.agg #[.bool n_6,.slice a_6 r_6.length c_6]):=acw ((hX 0 _ rfl).2.1 rfl) (hX 0 _ rfl).2.2.2 e15;replace f2:a5.eval (.tmp 2)=_:=(hR 2 rfl).trans f2;obtain⟨n_7,a_7,c_7,r_7,e16,G7,l7⟩:OutW (((tp pr qr)%(tq qr))) ((Br)+2) (a5.eval (.tmp 16)) w5:=hP 5 (by decide);have A7:=G7.ag;have b3:BoxV W2 w5 ((gs1 2)) (.agg #[.bool n_7,.slice a_7 r_7.length c_7]):=acw ((hX 1 _ rfl).2.1 rfl) (hX 1 _ rfl).2.2.2 e16;replace f3:a5.eval (.tmp 3)=_:=(hR 3 rfl).trans f3;replace Ar:=Ar.rl hr;replace Sr:=Sr.rl hr;replace Dr:=Dr.rl hr;replace A3:=A3.rl hr;replace A4:=A4.rl hr;replace HB:=HB.trans (hBt.below HB.size (UpOld.all (bx:=[⟨W2,none,(gs1 1),2,.agg #[.bool false,.slice none 0 0],some (7,15,4),[]⟩,⟨W2,none,(gs1 2),3,.agg #[.bool false,.slice none 0 0],some (8,16,5),[]⟩]) ⟨fun _=>u2,fun _=>u3,trivial⟩));clear hBt hr hR hP hX hU;refine wp_seq ?_;refine aa2 [some 18,some 19,none,none] [Eqs (.agg #[.bool n_6,.slice a_6 r_6.length c_6]),Eqs (.agg #[.bool n_7,.slice a_7 r_7.length c_7]),Tt,Tt] [⟨W2,none,(gs1 1),2,.agg #[.bool n_6,.slice a_6 r_6.length c_6],some (2,18,0),[0]⟩,⟨W2,none,(gs1 2),3,.agg #[.bool n_7,.slice a_7 r_7.length c_7],some (3,19,1),[1]⟩] [] (by kernel_rfl) hn rfl (by kernel_rfl) (by kernel_rfl) (by kernel_rfl) (by kernel_rfl) (by kernel_rfl) (by kernel_rfl) ⟨Eqs.mono4 _,Eqs.mono4 _,True.mono4,True.mono4,trivial⟩ (aaz W2ok (aaz W2ok aa8)) (IsOld.all (bx:=[⟨W2,none,(gs1 1),2,.agg #[.bool n_6,.slice a_6 r_6.length c_6],some (2,18,0),[0]⟩,⟨W2,none,(gs1 2),3,.agg #[.bool n_7,.slice a_7 r_7.length c_7],some (3,19,1),[1]⟩]) ⟨fun _=>⟨f2,b2⟩,fun _=>⟨f3,b3⟩,trivial⟩) (DisOld.all (bx:=[⟨W2,none,(gs1 1),2,.agg #[.bool n_6,.slice a_6 r_6.length c_6],some (2,18,0),[0]⟩,⟨W2,none,(gs1 2),3,.agg #[.bool n_7,.slice a_7 r_7.length c_7],some (3,19,1),[1]⟩]) ⟨fun _=>⟨fun _=>ne2_3.symm,trivial⟩,fun _=>trivial,trivial⟩) ?_ ?_
    ·exact⟨.norm 18 rfl rfl rfl (fun a_ w_ _ t r R D hO _=>abh W2ok ((R 2 rfl).trans f2) (hO 0 _ rfl rfl rfl)),.norm 19 rfl rfl rfl (fun a_ w_ _ t r R D hO _=>abh W2ok ((R 3 rfl).trans f3) (hO 1 _ rfl rfl rfl)),.store 0 _ _ _ rfl rfl rfl rfl rfl rfl rfl (fun ia h=>by cases h) rfl rfl rfl (ahd agh),.store 1 _ _ _ rfl rfl rfl rfl rfl rfl rfl (fun ia h=>by cases h) rfl rfl rfl (ahd agh),trivial⟩
    ·intro a8 w8 gs8 hn8 hd8 hBt hr hR hP hX hU;replace hn:=hn8;replace hd:=hd8.trans hd;have e18:a8.eval (.tmp 18)=.agg #[.bool n_6,.slice a_6 r_6.length c_6]:=hP 0 (by decide);have b2:BoxV W2 w8 ((gs1 1)) (.agg #[.bool n_6,.slice a_6 r_6.length c_6]):=acw ((hX 0 _ rfl).2.1 rfl) (hX 0 _ rfl).2.2.2 e18;replace f2:a8.eval (.tmp 2)=_:=(hR 2 rfl).trans f2;have e19:a8.eval (.tmp 19)=.agg #[.bool n_7,.slice a_7 r_7.length c_7]:=hP 1 (by decide);have b3:BoxV W2 w8 ((gs1 2)) (.agg #[.bool n_7,.slice a_7 r_7.length c_7]):=acw ((hX 1 _ rfl).2.1 rfl) (hX 1 _ rfl).2.2.2 e19;replace f3:a8.eval (.tmp 3)=_:=(hR 3 rfl).trans f3;replace Ar:=Ar.rl hr;replace Sr:=Sr.rl hr;replace Dr:=Dr.rl hr;replace A3:=A3.rl hr;replace A4:=A4.rl hr;replace F6:=F6.rl hr;replace G6:=G6.rl hr;replace A6:=A6.rl hr;replace HT6:=HT6.rl hr;replace G7:=G7.rl hr;replace A7:=A7.rl hr;replace HB:=HB.trans (hBt.below HB.size (UpOld.all (bx:=[⟨W2,none,(gs1 1),2,.agg #[.bool n_6,.slice a_6 r_6.length c_6],some (2,18,0),[0]⟩,⟨W2,none,(gs1 2),3,.agg #[.bool n_7,.slice a_7 r_7.length c_7],some (3,19,1),[1]⟩]) ⟨fun _=>u2,fun _=>u3,trivial⟩));clear hBt hr hR hP hX hU;refine wp_ret ?_;repeat(first|refine adb ?_|refine acf ?_|refine acx ?_)
     exact bodyPost_ret (v:=.tuple #[.agg #[.bool n_6,.slice a_6 r_6.length c_6],.agg #[.bool n_7,.slice a_7 r_7.length c_7]]) (amo rfl f2 (ah0 b2) f3 (ah0 b3)) hd ⟨_,rfl,⟨_,_,rfl,au8 F6 fb6 HT6.le l6 (by omega),OutW.to (a0c rfl G7 l7) rfl (by omega)⟩,HB⟩
theorem ani:Has Tryz.prog 109:=by unfold Has;kernel_rfl
theorem aph{dst:Option Tmp}{ty:TypeId}{pos:String}{after:Array Edge}{guard:Option (Nat×Bool)}{a:Act}{w:World}{ats:Array TypeId}{i:Nat}{Br:Nat}{pr qr:Int}(Hr:IsR pr qr Br (a.eval (.tmp i)) w)(hL:Br<=100000000):
  Does Tryz.prog {dst,op:=.call {callee:=.value (.func 109),args:=#[.tmp i],argTypes:=ats},type:=ty,pos,after,guard} a.eval w fun v w'=>Below w.heap.size w w'/\(Tup2 (FrW w.heap.size (tp pr qr/tq qr) (Br+6)) (OutW (tp pr qr%tq qr) (Br+6))) v w':=by
 obtain⟨nr,ar,mr,cr,rs,br,kr,dr,rt,er,Ar,Sr,Vr,Lr,Mr⟩:=Hr;refine aah ani _ (by simp only[List.map_toArray,List.map_cons,List.map_nil,er]) ((asp w Br _ _ _ _ _ _ Ar Lr _ _ _ _ _ Sr Vr Mr hL).mono ?_);rintro e w' ⟨v,rfl,h1,hb⟩;exact⟨_,rfl,hb,h1⟩
theorem au9(w:World)(Br:Nat)(nr:Bool)(ar:Option Addr)(mr cr:Nat)(rs:List Int)(pr:Int)(Ar:Ag w nr ar mr cr rs pr)(Lr:rs.length<=Br)(br:Option Addr)(kr dr:Nat)(rt:List Int)(qr:Int)(Sr:Sl w (.slice br kr dr) rt)(Vr:val rt=qr)(Mr:rt.length<=Br)(hL:Br<=100000000)(h0:tp pr qr%tq qr=0):
  Calls Tryz.prog 88 #[.agg #[.bool nr,.slice ar mr cr,.slice br kr dr]] w fun e w'=>∃v,e=.returned v/\(Tup2 (FrW w.heap.size (tp pr qr/tq qr) (Br+6)) (Eqs (.bool true))) v w'/\Below w.heap.size w w':=by
 go_enter Tryz.func88,Tryz.ntmps88
 generalize hA:(Act.mk _ _)=aa;have hn:aa.tmps.size=16:=by rw[<-hA];rfl
 have hd:aa.defers = []:=by rw[<-hA]
 have f0:aa.eval (.tmp 0)=.agg #[.bool nr,.slice ar mr cr,.slice br kr dr]:=by rw[<-hA];rfl
 clear hA;have HB:Below w.heap.size w w:=Below.refl _ _;have Dr:Ag w false br kr dr rt qr:=⟨Sr,Vr⟩;refine wp_seq ?_;refine aa2 [some 1,some 2,some 3] [Tt,Tt,Eqs ((.bool false))] [⟨R3,some 0,0,1,.agg #[.bool nr,.slice ar mr cr,.slice br kr dr],none,[]⟩,⟨W2,some 1,0,2,.agg #[.bool false,.slice none 0 0],none,[]⟩] [] (by kernel_rfl) hn rfl (by kernel_rfl) (by kernel_rfl) (by kernel_rfl) (by kernel_rfl) (by kernel_rfl) (by kernel_rfl) ⟨True.mono4,True.mono4,Eqs.mono4 _,trivial⟩ (aaz R3ok (aaz W2ok aa8)) (IsOld.all (bx:=[⟨R3,some 0,0,1,.agg #[.bool nr,.slice ar mr cr,.slice br kr dr],none,[]⟩,⟨W2,some 1,0,2,.agg #[.bool false,.slice none 0 0],none,[]⟩]) ⟨someNe,someNe,trivial⟩) (DisOld.all (bx:=[⟨R3,some 0,0,1,.agg #[.bool nr,.slice ar mr cr,.slice br kr dr],none,[]⟩,⟨W2,some 1,0,2,.agg #[.bool false,.slice none 0 0],none,[]⟩]) ⟨someNe,someNe,trivial⟩) ?_ ?_
 ·exact⟨.alloc 0 _ rfl rfl (.inr ⟨_,rfl,ajl,fun a_ hR=>(hR 0 rfl).trans f0⟩) rfl rfl rfl rfl rfl,.alloc 1 _ rfl rfl (.inl ⟨rfl,rfl⟩) rfl rfl rfl rfl rfl,.norm 3 rfl rfl rfl (fun a_ w_ _ t r R D _ _=>ab4 rfl),trivial⟩
 ·intro a1 w1 gs1 hn1 hd1 hBt hr hR hP hX hU;replace hn:=hn1;replace hd:=hd1.trans hd;have ne1_2:gs1 0≠gs1 1:=hU 0 1 (by simp) (by simp) (by decide);have b1:BoxV R3 w1 (gs1 0) (.agg #[.bool nr,.slice ar mr cr,.slice br kr dr]):=(hX 0 _ rfl).2.2.2;have f1:=(hX 0 _ rfl).1;have u1:w.heap.size<=gs1 0:=Nat.le_trans HB.size ((hX 0 _ rfl).2.2.1 (by simp));have b2:BoxV W2 w1 (gs1 1) (.agg #[.bool false,.slice none 0 0]):=(hX 1 _ rfl).2.2.2;have f2:=(hX 1 _ rfl).1;have u2:w.heap.size<=gs1 1:=Nat.le_trans HB.size ((hX 1 _ rfl).2.2.1 (by simp));have e3:a1.eval (.tmp 3)=(.bool false):=hP 2 (by decide);have f3:=e3;replace Ar:=Ar.rl hr;replace Sr:=Sr.rl hr;replace Dr:=Dr.rl hr;replace HB:=HB.trans (hBt.below HB.size (UpOld.all (bx:=[⟨R3,some 0,0,1,.agg #[.bool nr,.slice ar mr cr,.slice br kr dr],none,[]⟩,⟨W2,some 1,0,2,.agg #[.bool false,.slice none 0 0],none,[]⟩]) ⟨someNe,someNe,trivial⟩));clear hBt hr hR hP hX hU;refine wp_seq ?_;refine aa2 [some 7,some 8,some 6,some 9,some 10,some 4,some 5,none,none] [Eqs (.agg #[.bool nr,.slice ar mr cr,.slice br kr dr]),Tup2 (FrW (w.heap.size) ((tp pr qr/tq qr)) ((Br)+6)) (OutW ((tp pr qr%tq qr)) ((Br)+6)),Tup2 (FrW (w.heap.size) ((tp pr qr/tq qr)) ((Br)+6)) (OutW ((tp pr qr%tq qr)) ((Br)+6)),FrW (w.heap.size) ((tp pr qr/tq qr)) ((Br)+6),OutW ((tp pr qr%tq qr)) ((Br)+6),Tt,Tt,Tt,Tt] [⟨W2,some 5,0,4,.agg #[.bool false,.slice none 0 0],some (7,9,3),[]⟩,⟨W2,some 6,0,5,.agg #[.bool false,.slice none 0 0],some (8,10,4),[]⟩] [] (by kernel_rfl) hn rfl (by kernel_rfl) (by kernel_rfl) (by kernel_rfl) (by kernel_rfl) (by kernel_rfl) (by kernel_rfl) ⟨Eqs.mono4 _,Tup2.mono4 (FrW.mono4 _ _ _) (OutW.mono4 _ _),Tup2.mono4 (FrW.mono4 _ _ _) (OutW.mono4 _ _),FrW.mono4 _ _ _,OutW.mono4 _ _,True.mono4,True.mono4,True.mono4,True.mono4,trivial⟩ (aaz W2ok (aaz W2ok aa8)) (IsOld.all (bx:=[⟨W2,some 5,0,4,.agg #[.bool false,.slice none 0 0],some (7,9,3),[]⟩,⟨W2,some 6,0,5,.agg #[.bool false,.slice none 0 0],some (8,10,4),[]⟩]) ⟨someNe,someNe,trivial⟩) (DisOld.all (bx:=[⟨W2,some 5,0,4,.agg #[.bool false,.slice none 0 0],some (7,9,3),[]⟩,⟨W2,some 6,0,5,.agg #[.bool false,.slice none 0 0],some (8,10,4),[]⟩]) ⟨someNe,someNe,trivial⟩) ?_ ?_
  ·exact⟨.norm 7 rfl rfl rfl (fun a_ w_ _ t r R D _ _=>abh R3ok ((R 1 rfl).trans f1) (b1.keep t ⟨someNe,someNe,trivial⟩)),.norm 8 rfl rfl rfl (fun a_ w_ _ t r R D _ _=>frwlow (Nat.le_trans HB.size r.size) (aph (ahe (show a_.eval (.tmp 7)=.agg #[.bool nr,.slice ar mr cr,.slice br kr dr]from D 0 rfl) (Ar.rl r) (Sr.rl r) Vr Lr Mr) (by omega))),.norm 6 rfl rfl rfl (fun a_ w_ _ t r R D _ _=>aee (p:=Tup2 (FrW (w.heap.size) ((tp pr qr/tq qr)) ((Br)+6)) (OutW ((tp pr qr%tq qr)) ((Br)+6))) (show Tup2 (FrW (w.heap.size) ((tp pr qr/tq qr)) ((Br)+6)) (OutW ((tp pr qr%tq qr)) ((Br)+6)) (a_.eval (.tmp 8)) w_ from D 1 rfl)),.norm 9 rfl rfl rfl (fun a_ w_ _ t r R D _ _=>ahy (show Tup2 (FrW (w.heap.size) ((tp pr qr/tq qr)) ((Br)+6)) (OutW ((tp pr qr%tq qr)) ((Br)+6)) (a_.eval (.tmp 6)) w_ from D 2 rfl)),.norm 10 rfl rfl rfl (fun a_ w_ _ t r R D _ _=>ahz (show Tup2 (FrW (w.heap.size) ((tp pr qr/tq qr)) ((Br)+6)) (OutW ((tp pr qr%tq qr)) ((Br)+6)) (a_.eval (.tmp 6)) w_ from D 2 rfl)),.alloc 0 _ rfl rfl (.inl ⟨rfl,rfl⟩) rfl rfl rfl rfl rfl,.alloc 1 _ rfl rfl (.inl ⟨rfl,rfl⟩) rfl rfl rfl rfl rfl,.store 0 _ _ _ rfl rfl rfl rfl rfl rfl rfl (fun ia h=>by cases h;rfl) rfl rfl rfl FrW.cs,.store 1 _ _ _ rfl rfl rfl rfl rfl rfl rfl (fun ia h=>by cases h;rfl) rfl rfl rfl OutW.cs,trivial⟩
  ·intro a2 w2 gs2 hn2 hd2 hBt hr hR hP hX hU;replace hn:=hn2;replace hd:=hd2.trans hd;have ne2_4:(gs1 1)≠gs2 0:=by have h1:=b2.lt;have h2:=(hX 0 _ rfl).2.2.1 (by simp);omega
   have ne2_5:(gs1 1)≠gs2 1:=by have h1:=b2.lt;have h2:=(hX 1 _ rfl).2.2.1 (by simp);omega
   replace b2:=b2.keep hBt ⟨someNe,someNe,trivial⟩;obtain⟨n_3,a_3,c_3,r_3,B3,T3,e9,F3,fb3,ft3,l3⟩:FrW (w.heap.size) ((tp pr qr/tq qr)) ((Br)+6) (a2.eval (.tmp 9)) w2:=hP 3 (by decide);have G3:=F3.wh;have A3:=G3.ag;have HT3:SzGe T3 w2:=ft3;have b4:BoxV W2 w2 (gs2 0) (.agg #[.bool n_3,.slice a_3 r_3.length c_3]):=ac3 (hX 0 _ rfl).2.2.2 e9;have f4:=(hX 0 _ rfl).1;have u4:w.heap.size<=gs2 0:=Nat.le_trans HB.size ((hX 0 _ rfl).2.2.1 (by simp));obtain⟨n_4,a_4,c_4,r_4,e10,G4,l4⟩:OutW ((tp pr qr%tq qr)) ((Br)+6) (a2.eval (.tmp 10)) w2:=hP 4 (by decide);have A4:=G4.ag;have b5:BoxV W2 w2 (gs2 1) (.agg #[.bool n_4,.slice a_4 r_4.length c_4]):=ac3 (hX 1 _ rfl).2.2.2 e10;have f5:=(hX 1 _ rfl).1;have u5:w.heap.size<=gs2 1:=Nat.le_trans HB.size ((hX 1 _ rfl).2.2.1 (by simp));replace f2:=(hR 2 rfl).trans f2;replace f3:=(hR 3 rfl).trans f3;replace Ar:=Ar.rl hr;replace Sr:=Sr.rl hr;replace Dr:=Dr.rl hr;replace HB:=HB.trans (hBt.below HB.size (UpOld.all (bx:=[⟨W2,some 5,0,4,.agg #[.bool false,.slice none 0 0],some (7,9,3),[]⟩,⟨W2,some 6,0,5,.agg #[.bool false,.slice none 0 0],some (8,10,4),[]⟩]) ⟨someNe,someNe,trivial⟩));clear hBt hr hR hP hX hU;refine wp_seq ?_;refine wp_seq ?_;refine aa2 [some 11,some 12,some 13] [Eqs (.agg #[.bool n_4,.slice a_4 r_4.length c_4]),Eqs (.int .i64 (Int.sign (tp pr qr%tq qr))),Eqs (.bool (!decide ((Int.sign (tp pr qr%tq qr))=0)))] [] [] (by kernel_rfl) hn rfl (by kernel_rfl) (by kernel_rfl) (by kernel_rfl) (by kernel_rfl) (by kernel_rfl) (by kernel_rfl) ⟨Eqs.mono4 _,Eqs.mono4 _,Eqs.mono4 _,trivial⟩ aa8 (IsOld.all (bx:=[]) trivial) (DisOld.all (bx:=[]) trivial) ?_ ?_
   ·exact⟨.norm 11 rfl rfl rfl (fun a_ w_ _ t r R D _ _=>abh W2ok ((R 5 rfl).trans f5) (b5.keep t trivial)),.norm 12 rfl rfl rfl (fun a_ w_ _ t r R D _ _=>az9 (adp (show a_.eval (.tmp 11)=.agg #[.bool n_4,.slice a_4 r_4.length c_4]from D 0 rfl) (A4.rl r) l4) (by omega)),.norm 13 rfl rfl rfl (fun a_ w_ _ t r R D _ _=>a0g (show a_.eval (.tmp 12)=.int .i64 (Int.sign (tp pr qr%tq qr))from D 1 rfl)),trivial⟩
   ·intro a5 w5 gs5 hn5 hd5 hBt hr hR hP hX hU;replace hn:=hn5;replace hd:=hd5.trans hd;replace b2:=b2.keep hBt trivial;replace b4:=b4.keep hBt trivial;replace f2:=(hR 2 rfl).trans f2;replace f3:=(hR 3 rfl).trans f3;replace f4:=(hR 4 rfl).trans f4;have e13:a5.eval (.tmp 13)=.bool (!decide ((Int.sign (tp pr qr%tq qr))=0)):=hP 2 (by decide);have f13:=e13;replace Ar:=Ar.rl hr;replace Sr:=Sr.rl hr;replace Dr:=Dr.rl hr;replace F3:=F3.rl hr;replace G3:=G3.rl hr;replace A3:=A3.rl hr;replace HT3:=HT3.rl hr;replace G4:=G4.rl hr;replace A4:=A4.rl hr;replace HB:=HB.trans (hBt.below HB.size (UpOld.all (bx:=[]) trivial));clear hBt hr hR hP hX hU;refine wp_cond_split f13 (fun hc13=>?_) (fun hc13=>?_)
    ·skip;exact absurd (al1.2 h0) (by simpa using hc13)
    ·skip;refine wp_skip ?_;refine wp_seq ?_;refine aa2 [some 15,none,some 3] [Eqs (.agg #[.bool n_3,.slice a_3 r_3.length c_3]),Tt,Eqs ((.bool true))] [⟨W2,none,(gs1 1),2,.agg #[.bool false,.slice none 0 0],some (1,15,0),[]⟩] [] (by kernel_rfl) hn rfl (by kernel_rfl) (by kernel_rfl) (by kernel_rfl) (by kernel_rfl) (by kernel_rfl) (by kernel_rfl) ⟨Eqs.mono4 _,True.mono4,Eqs.mono4 _,trivial⟩ (aaz W2ok aa8) (IsOld.all (bx:=[⟨W2,none,(gs1 1),2,.agg #[.bool false,.slice none 0 0],some (1,15,0),[]⟩]) ⟨fun _=>⟨f2,b2⟩,trivial⟩) (DisOld.all (bx:=[⟨W2,none,(gs1 1),2,.agg #[.bool false,.slice none 0 0],some (1,15,0),[]⟩]) ⟨fun _=>trivial,trivial⟩) ?_ ?_
     ·exact⟨.norm 15 rfl rfl rfl (fun a_ w_ _ t r R D _ _=>abh W2ok ((R 4 rfl).trans f4) (b4.keep t ⟨fun _=>ne2_4,trivial⟩)),.store 0 _ _ _ rfl rfl rfl rfl rfl rfl rfl (fun ia h=>by cases h) rfl rfl rfl (ahd agh),.norm 3 rfl rfl rfl (fun a_ w_ _ t r R D _ _=>ab4 rfl),trivial⟩
     ·intro a6 w6 gs6 hn6 hd6 hBt hr hR hP hX hU;replace hn:=hn6;replace hd:=hd6.trans hd;have e15:a6.eval (.tmp 15)=.agg #[.bool n_3,.slice a_3 r_3.length c_3]:=hP 0 (by decide);have b2:BoxV W2 w6 ((gs1 1)) (.agg #[.bool n_3,.slice a_3 r_3.length c_3]):=acw ((hX 0 _ rfl).2.1 rfl) (hX 0 _ rfl).2.2.2 e15;replace f2:a6.eval (.tmp 2)=_:=(hR 2 rfl).trans f2;have e3:a6.eval (.tmp 3)=(.bool true):=hP 2 (by decide);have f3:=e3;replace Ar:=Ar.rl hr;replace Sr:=Sr.rl hr;replace Dr:=Dr.rl hr;replace F3:=F3.rl hr;replace G3:=G3.rl hr;replace A3:=A3.rl hr;replace HT3:=HT3.rl hr;replace G4:=G4.rl hr;replace A4:=A4.rl hr;replace HB:=HB.trans (hBt.below HB.size (UpOld.all (bx:=[⟨W2,none,(gs1 1),2,.agg #[.bool false,.slice none 0 0],some (1,15,0),[]⟩]) ⟨fun _=>u2,trivial⟩));clear hBt hr hR hP hX hU;refine wp_ret ?_;repeat(first|refine adb ?_|refine acf ?_|refine acx ?_)
      exact bodyPost_ret (v:=.tuple #[.agg #[.bool n_3,.slice a_3 r_3.length c_3],(.bool true)]) (ajk rfl f2 (ah0 b2) f3) hd ⟨_,rfl,⟨_,_,rfl,au8 F3 fb3 HT3.le l3 (by omega),rfl⟩,HB⟩
theorem axt(w:World)(Br:Nat)(nr:Bool)(ar:Option Addr)(mr cr:Nat)(rs:List Int)(pr:Int)(Ar:Ag w nr ar mr cr rs pr)(Lr:rs.length<=Br)(br:Option Addr)(kr dr:Nat)(rt:List Int)(qr:Int)(Sr:Sl w (.slice br kr dr) rt)(Vr:val rt=qr)(Mr:rt.length<=Br)(hL:2*(Br+2)<=100000000)(mP mQ:Nat)(hmP:IsLen (((nm (tp pr qr) (tq qr))).natAbs:Int) mP)(hmQ:IsLen (dn (tp pr qr) (tq qr)) mQ):
  Calls Tryz.prog 175 #[.agg #[.bool nr,.slice ar mr cr,.slice br kr dr]] w fun e w'=>∃v,e=.returned v/\(Eqs (.int .i64 ((max mP mQ:Nat):Int))) v w'/\Below w.heap.size w w':=by
 go_enter Tryz.func175,Tryz.ntmps175
 generalize hA:(Act.mk _ _)=aa;have hn:aa.tmps.size=14:=by rw[<-hA];rfl
 have hd:aa.defers = []:=by rw[<-hA]
 have f0:aa.eval (.tmp 0)=.agg #[.bool nr,.slice ar mr cr,.slice br kr dr]:=by rw[<-hA];rfl
 clear hA;have HB:Below w.heap.size w w:=Below.refl _ _;have Dr:Ag w false br kr dr rt qr:=⟨Sr,Vr⟩;refine wp_seq ?_;refine aa2 [some 1,some 2] [Tt,Eqs ((.int .i64 0))] [⟨R3,some 0,0,1,.agg #[.bool nr,.slice ar mr cr,.slice br kr dr],none,[]⟩] [] (by kernel_rfl) hn rfl (by kernel_rfl) (by kernel_rfl) (by kernel_rfl) (by kernel_rfl) (by kernel_rfl) (by kernel_rfl) ⟨True.mono4,Eqs.mono4 _,trivial⟩ (aaz R3ok aa8) (IsOld.all (bx:=[⟨R3,some 0,0,1,.agg #[.bool nr,.slice ar mr cr,.slice br kr dr],none,[]⟩]) ⟨someNe,trivial⟩) (DisOld.all (bx:=[⟨R3,some 0,0,1,.agg #[.bool nr,.slice ar mr cr,.slice br kr dr],none,[]⟩]) ⟨someNe,trivial⟩) ?_ ?_
 ·exact⟨.alloc 0 _ rfl rfl (.inr ⟨_,rfl,ajl,fun a_ hR=>(hR 0 rfl).trans f0⟩) rfl rfl rfl rfl rfl,.norm 2 rfl rfl rfl (fun a_ w_ _ t r R D _ _=>ab4 rfl),trivial⟩
 ·intro a1 w1 gs1 hn1 hd1 hBt hr hR hP hX hU;replace hn:=hn1;replace hd:=hd1.trans hd;have b1:BoxV R3 w1 (gs1 0) (.agg #[.bool nr,.slice ar mr cr,.slice br kr dr]):=(hX 0 _ rfl).2.2.2;have f1:=(hX 0 _ rfl).1;have u1:w.heap.size<=gs1 0:=Nat.le_trans HB.size ((hX 0 _ rfl).2.2.1 (by simp));have e2:a1.eval (.tmp 2)=(.int .i64 0):=hP 1 (by decide);have f2:=e2;replace Ar:=Ar.rl hr;replace Sr:=Sr.rl hr;replace Dr:=Dr.rl hr;replace HB:=HB.trans (hBt.below HB.size (UpOld.all (bx:=[⟨R3,some 0,0,1,.agg #[.bool nr,.slice ar mr cr,.slice br kr dr],none,[]⟩]) ⟨someNe,trivial⟩));clear hBt hr hR hP hX hU;refine wp_seq ?_;refine aa2 [some 4,some 5,some 3,none] [Eqs (.agg #[.bool nr,.slice ar mr cr,.slice br kr dr]),OutR ((nm (tp pr qr) (tq qr))) ((dn (tp pr qr) (tq qr))) (2*((Br)+2)),Tt,Tt] [⟨R3,some 2,0,3,.agg #[.bool false,.slice none 0 0,.slice none 0 0],some (3,5,1),[]⟩] [] (by kernel_rfl) hn rfl (by kernel_rfl) (by kernel_rfl) (by kernel_rfl) (by kernel_rfl) (by kernel_rfl) (by kernel_rfl) ⟨Eqs.mono4 _,OutR.mono4 _ _ _,True.mono4,True.mono4,trivial⟩ (aaz R3ok aa8) (IsOld.all (bx:=[⟨R3,some 2,0,3,.agg #[.bool false,.slice none 0 0,.slice none 0 0],some (3,5,1),[]⟩]) ⟨someNe,trivial⟩) (DisOld.all (bx:=[⟨R3,some 2,0,3,.agg #[.bool false,.slice none 0 0,.slice none 0 0],some (3,5,1),[]⟩]) ⟨someNe,trivial⟩) ?_ ?_
  ·exact⟨.norm 4 rfl rfl rfl (fun a_ w_ _ t r R D _ _=>abh R3ok ((R 1 rfl).trans f1) (b1.keep t ⟨someNe,trivial⟩)),.norm 5 rfl rfl rfl (fun a_ w_ _ t r R D _ _=>axj (ahe (show a_.eval (.tmp 4)=.agg #[.bool nr,.slice ar mr cr,.slice br kr dr]from D 0 rfl) (Ar.rl r) (Sr.rl r) Vr Lr Mr) (by omega)),.alloc 0 _ rfl rfl (.inl ⟨rfl,rfl⟩) rfl rfl rfl rfl rfl,.store 0 _ _ _ rfl rfl rfl rfl rfl rfl rfl (fun ia h=>by cases h;rfl) rfl rfl rfl OutR.cs,trivial⟩
  ·intro a2 w2 gs2 hn2 hd2 hBt hr hR hP hX hU;replace hn:=hn2;replace hd:=hd2.trans hd;obtain⟨n_3,a_3,c_3,r_3,b_3,d_3,s_3,e5,G3,K3,l3,k3⟩:OutR ((nm (tp pr qr) (tq qr))) ((dn (tp pr qr) (tq qr))) (2*((Br)+2)) (a2.eval (.tmp 5)) w2:=hP 1 (by decide);have A3:=G3.ag;have S3:=K3.sl;have V3:=K3.val;have b3:BoxV R3 w2 (gs2 0) (.agg #[.bool n_3,.slice a_3 r_3.length c_3,.slice b_3 s_3.length d_3]):=ac3 (hX 0 _ rfl).2.2.2 e5;have f3:=(hX 0 _ rfl).1;have u3:w.heap.size<=gs2 0:=Nat.le_trans HB.size ((hX 0 _ rfl).2.2.1 (by simp));replace f2:=(hR 2 rfl).trans f2;replace Ar:=Ar.rl hr;replace Sr:=Sr.rl hr;replace Dr:=Dr.rl hr;replace HB:=HB.trans (hBt.below HB.size (UpOld.all (bx:=[⟨R3,some 2,0,3,.agg #[.bool false,.slice none 0 0,.slice none 0 0],some (3,5,1),[]⟩]) ⟨someNe,trivial⟩));clear hBt hr hR hP hX hU;refine wp_seq ?_;refine aa2 [some 6,some 7,some 8,some 9,some 10,some 11,some 12,some 13,some 2] [Eqs (.pointer (some ⟨gs2 0,0,none⟩)),Eqs (.pointer (some ⟨gs2 0,1,none⟩)),Eqs (.slice a_3 r_3.length c_3),Eqs (.int .i64 (r_3.length:Int)),Eqs (.pointer (some ⟨gs2 0,2,none⟩)),Eqs (.slice b_3 s_3.length d_3),Eqs (.int .i64 (s_3.length:Int)),Eqs (.int .i64 ((max r_3.length s_3.length:Nat):Int)),Eqs (.int .i64 ((max r_3.length s_3.length:Nat):Int))] [] [] (by kernel_rfl) hn rfl (by kernel_rfl) (by kernel_rfl) (by kernel_rfl) (by kernel_rfl) (by kernel_rfl) (by kernel_rfl) ⟨Eqs.mono4 _,Eqs.mono4 _,Eqs.mono4 _,Eqs.mono4 _,Eqs.mono4 _,Eqs.mono4 _,Eqs.mono4 _,Eqs.mono4 _,Eqs.mono4 _,trivial⟩ aa8 (IsOld.all (bx:=[]) trivial) (DisOld.all (bx:=[]) trivial) ?_ ?_
   ·exact⟨.norm 6 rfl rfl rfl (fun a_ w_ _ t r R D _ _=>amq at5 ((R 3 rfl).trans f3)),.norm 7 rfl rfl rfl (fun a_ w_ _ t r R D _ _=>agf ahb (show a_.eval (.tmp 6)=.pointer (some ⟨gs2 0,0,none⟩)from D 0 rfl)),.norm 8 rfl rfl rfl (fun a_ w_ _ t r R D _ _=>au7 (show a_.eval (.tmp 7)=.pointer (some ⟨gs2 0,1,none⟩)from D 1 rfl) (b3.keep t trivial)),.norm 9 rfl rfl rfl (fun a_ w_ _ t r R D _ _=>at4 (show a_.eval (.tmp 8)=.slice a_3 r_3.length c_3 from D 2 rfl)),.norm 10 rfl rfl rfl (fun a_ w_ _ t r R D _ _=>amq a2o ((R 3 rfl).trans f3)),.norm 11 rfl rfl rfl (fun a_ w_ _ t r R D _ _=>aw3 (show a_.eval (.tmp 10)=.pointer (some ⟨gs2 0,2,none⟩)from D 4 rfl) (b3.keep t trivial)),.norm 12 rfl rfl rfl (fun a_ w_ _ t r R D _ _=>at4 (show a_.eval (.tmp 11)=.slice b_3 s_3.length d_3 from D 5 rfl)),.norm 13 rfl rfl rfl (fun a_ w_ _ t r R D _ _=>a3a (show a_.eval (.tmp 9)=.int .i64 (r_3.length:Int)from D 3 rfl) (show a_.eval (.tmp 12)=.int .i64 (s_3.length:Int)from D 6 rfl)),.norm 2 rfl rfl rfl (fun a_ w_ _ t r R D _ _=>ab4 (show a_.eval (.tmp 13)=.int .i64 ((max r_3.length s_3.length:Nat):Int)from D 7 rfl)),trivial⟩
   ·intro a4 w4 gs4 hn4 hd4 hBt hr hR hP hX hU;replace hn:=hn4;replace hd:=hd4.trans hd;have e2:a4.eval (.tmp 2)=.int .i64 ((max r_3.length s_3.length:Nat):Int):=hP 8 (by decide);have f2:=e2;replace Ar:=Ar.rl hr;replace Sr:=Sr.rl hr;replace Dr:=Dr.rl hr;replace G3:=G3.rl hr;replace A3:=A3.rl hr;replace K3:=K3.rl hr;replace S3:=S3.rl hr;replace HB:=HB.trans (hBt.below HB.size (UpOld.all (bx:=[]) trivial));clear hBt hr hR hP hX hU;refine wp_ret ?_;repeat(first|refine adb ?_|refine acf ?_|refine acx ?_)
    have hlp_:=alg ⟨r_3,G3.1.canon,G3.1.val,rfl⟩ hmP;have hlq_:=alg ⟨s_3,K3.canon,K3.val,rfl⟩ hmQ;exact bodyPost_ret (v:=.int .i64 ((max r_3.length s_3.length:Nat):Int)) (ah1 rfl f2) hd ⟨_,rfl,(by rw[Eqs,hlp_,hlq_]),HB⟩
theorem aea{ops:Array Oper}{md:Region.Mode}{l:Array Bool}(hd:(ops.toList.zipIdx.all fun p=>p.1.after.all fun e=>!Region.binds md e||decide (e.on<p.2))=true)(hs:l.size=ops.size)(hr:Region.ready md ops l = []):∀j,j<ops.size->l.getD j false=true:=by
 intro j;induction j using Nat.strongRecOn with
 |_ j ih=>
  intro hj;apply Classical.byContradiction;intro hn;have hl:l[j]? = some (l[j]'(by omega)):=Array.getElem?_eq_getElem (by omega);have hf:l[j]'(by omega)=false:=by
   rw[Array.getD_eq_getD_getElem?,hl]at hn;simpa using hn
  have hmem:j∈Region.ready md ops l:=by
   refine mem_ready.2 ⟨by rw[Array.getD_eq_getD_getElem?,hl,hf];rfl,ops[j],Array.getElem?_eq_getElem hj,fun e he hb_=>?_⟩;have h1:=List.all_eq_true.1 hd (ops[j],j) (by
    rw[List.mem_zipIdx_iff_getElem?]
    simp[hj])
   have h2:e.on<j:=by
    have:=Array.all_eq_true_iff_forall_mem.1 h1 e he;simpa[hb_]using this
   exact ih e.on h2 (by omega)
  rw[hr]at hmem;cases hmem
theorem al3{P:Program}{ops:Array Oper}{Q:Exit->Act->World->Prop}{id n:Nat}{a:Act}{w:World}(m:Nat)(Ds:List Nat)(Ps:List Says)(hm:P.follows .mixedOrders=true)(hn:a.tmps.size=n)(hnd:Ds.Nodup)(hlt:(Ds.all fun d=>decide (d<n))=true)
  (hdep:(ops.toList.zipIdx.all fun p=>p.1.after.all fun e=>!Region.binds .any e||decide (e.on<p.2))=true) (hms:m<=ops.size) (hall:((List.range ops.size).all fun i=>decide (i<m)||(List.range i).all fun j=>waits ops ops.size i j)=true) (hM:Monos Ps) (hD:Duties P n Ds Ps a w (ops.toList.take m) Ds Ps)
  (hend:∀a' w',a'.tmps.size=n->a'.defers=a.defers->Below w.heap.size w w'->Rest Ds a a'->(∀j,j<Ds.length->Ps.getD j (fun _ _=>True) (a'.eval (.tmp (Ds.getD j 0))) w')->wpList P ops Q (ops.toList.drop m) a' w'):(Code.region id ops true).wp P Q a w:=by
 obtain⟨hlen,hat⟩:=hD.take hms;have hL:∀k,k<=ops.size->wpOps P ops Q (List.range' k (ops.size-k))=wpList P ops Q (ops.toList.drop k):=fun k hk=>by
  have:=wpOps_eq_wpList (P:=P) (ops:=ops) (Q:=Q) (ops.toList.drop k) k (fun j=>by rw[List.getElem?_drop,Array.getElem?_toList]);rw[<-this];simp
 have hneed:∀i o,ops[i]? = some o->m<=i->∀l:Array Bool,Shut ops l->(∀e∈o.after,Region.binds .any e=true->l.getD e.on false=true)->∀j,j<i->l.getD j false=true:=by
  intro i o ho hi l hc hl j hj;have hio:i<ops.size:=(Array.getElem?_eq_some_iff.1 ho).1;have h1:=List.all_eq_true.1 hall i (List.mem_range.2 hio);simp only[Bool.or_eq_true,decide_eq_true_eq]at h1;rcases h1 with h1|h1
  ·omega
  ·exact abr hc _ i j o ho hl (List.all_eq_true.1 h1 j (List.mem_range.2 hj))
 refine abf hm (fun l a' w'=>(l.size=ops.size/\Shut ops l)/\(((∀j,m<=j->l.getD j false=false)/\Mid n Ds Ps a w (l.extract 0 m) a' w')\/∃j,m<j/\j<=ops.size/\(∀k,k<j->l.getD k false=true)/\(∀k,j<=k->l.getD k false=false)/\wpOps P ops Q (List.range' j (ops.size-j)) a' w')) ?_ ?_ ?_
 ·refine⟨⟨by simp,fun j o _ hj=>?_⟩,.inl ⟨fun j _=>?_,by simp[hlen];omega,hn,rfl,Below.drew (Below.refl _ _),fun _ _=>rfl,fun j hj=>?_⟩⟩
  ·exfalso;simp[Array.getElem?_replicate]at hj;split at hj <;> simp at hj
  ·simp[Array.getElem?_replicate];split <;> simp
  ·exfalso;by_cases hjm:j<m
   ·rw[aad hjm]at hj;simp[Array.getElem?_replicate]at hj;split at hj <;> simp at hj
   ·rw[Array.getD_eq_getD_getElem?,Array.getElem?_eq_none (by simp;omega)]at hj;simp at hj
 ·rintro l a' w' ⟨⟨hs,hcl⟩,hI⟩ hr;have hal:=aea hdep hs hr;rcases hI with⟨h1,h2,h3,h4,h5,h6,h7⟩|⟨j,hj1,hj2,hj3,hj4,hj5⟩
  ·have hmo:m=ops.size:=by
    apply Classical.byContradiction;intro hne;have:=hal m (by omega);rw[h1 m (Nat.le_refl _)]at this;cases this
   have:=hend a' w' h3 h4 h5 h6 (fun j hj=>h7 j (by rw[aad (by omega)];exact hal j (by omega)));rw[List.drop_eq_nil_of_le (by simp;omega)]at this;exact this
  ·have hje:j=ops.size:=by
    apply Classical.byContradiction;intro hne;have:=hal j (by omega);rw[hj4 j (Nat.le_refl _)]at this;cases this
   subst hje;simpa[wpOps]using hj5
 ·rintro l a' w' ⟨⟨hs,hcl⟩,hI⟩ i hi;obtain⟨hun,o,ho,hdeps⟩:=mem_ready.1 hi;have hio:i<ops.size:=(Array.getElem?_eq_some_iff.1 ho).1;have hset:∀k,k≠i->(l.setIfInBounds i true).getD k false=l.getD k false:=fun k hk=>getD_set_ne false (fun e=>hk e.symm)
  have hseti:(l.setIfInBounds i true).getD i false=true:=by
   rw[Array.getD_eq_getD_getElem?,Array.getElem?_setIfInBounds_self_of_lt (by omega)];rfl
  have hif:l.getD i false=false:=by
   rw[Array.getD_eq_getD_getElem?]at hun ⊢;cases hc:l[i]? with
   |none=>rfl
   |some b=>rw[hc]at hun;simpa using hun
  have hcl':Shut ops (l.setIfInBounds i true):=hcl.set ho hdeps;have hrun:∀j,j=i->wpOps P ops Q (List.range' j (ops.size-j)) a' w'->m<=j->(∀k,k<j->l.getD k false=true)->(∀k,j<=k->l.getD k false=false)->wpOp P ops Q i (fun a' w'=>((l.setIfInBounds i true).size=ops.size/\Shut ops (l.setIfInBounds i true))/\(((∀j,m<=j->(l.setIfInBounds i true).getD j false=false)/\Mid n Ds Ps a w ((l.setIfInBounds i true).extract 0 m) a' w')\/∃j,m<j/\j<=ops.size/\(∀k,k<j->(l.setIfInBounds i true).getD k false=true)/\(∀k,j<=k->(l.setIfInBounds i true).getD k false=false)/\wpOps P ops Q (List.range' j (ops.size-j)) a' w')) a' w':=by
   rintro j rfl hw hmj hlo hhi;rw[show ops.size-j=(ops.size-(j+1))+1 by omega,List.range'_succ,wpOps_cons]at hw;refine wpOp_mono (fun a2 w2 h=>⟨⟨by simpa using hs,hcl'⟩,.inr ⟨j+1,by omega,by omega,fun k hk=>?_,fun k hk=>?_,h⟩⟩) hw
   ·by_cases e:k=j
    ·subst e;exact hseti
    ·rw[hset k e];exact hlo k (by omega)
   ·rw[hset k (by omega)];exact hhi k (by omega)
  rcases hI with⟨h1,hmid⟩|⟨j,hj1,hj2,hj3,hj4,hj5⟩
  ·by_cases him:i<m
   ·have hd':∀e∈o.after,Region.binds .any e=true->(l.extract 0 m).getD e.on false=true:=fun e he hb=>by
     have h2:=List.all_eq_true.1 hdep (o,i) (by rw[List.mem_zipIdx_iff_getElem?];simpa using ho);have h3:e.on<i:=by have h4:=Array.all_eq_true_iff_forall_mem.1 h2 e he;simpa[hb]using h4
     rw[aad (by omega)];exact hdeps e he hb
    refine wpOp_mono (fun a2 w2 h=>⟨⟨by simpa using hs,hcl'⟩,.inl ⟨fun k hk=>?_,?_⟩⟩) (ae6 hat (by omega) hnd hlt hM ho (by omega) hmid hd')
    ·rw[hset k (by omega)];exact h1 k hk
    ·rw[ab5];exact h
   ·have hpre:=hneed i o ho (by omega) l hcl hdeps;have hie:i=m:=by
     apply Classical.byContradiction;intro hne;have:=hpre m (by omega);rw[h1 m (Nat.le_refl _)]at this;cases this
    subst hie;obtain⟨h2,h3,h4,h5,h6,h7⟩:=hmid;have hw:=hend a' w' h3 h4 h5 h6 (fun j hj=>h7 j (by rw[aad (by omega)];exact hpre j (by omega)));rw[<-hL _ hms]at hw;exact hrun i rfl hw (Nat.le_refl _) hpre h1
  ·have hij:i=j:=by
    apply Classical.byContradiction;intro hne;by_cases hlt':i<j
    ·rw[hj3 i hlt']at hif;cases hif
    ·have:=hneed i o ho (by omega) l hcl hdeps j (by omega);rw[hj4 j (Nat.le_refl _)]at this;cases this
   exact hrun j hij.symm hj5 (by omega) hj3 hj4
theorem ava{P:Program}{ops:Array Oper}{Q:Exit->Act->World->Prop}{i j:Nat}{o q:Oper}(ho:ops[i]? = some o)(hq:ops[j]? = some q):wpOps P ops Q [i,j]=wpList P ops Q [o,q]:=by
 funext a w;simp only[wpOps,wpList,ho,hq]
theorem avb{P:Program}{ops:Array Oper}{Q:Exit->Act->World->Prop}{i:Nat}{o:Oper}(ho:ops[i]? = some o):wpOps P ops Q [i]=wpList P ops Q [o]:=by
 funext a w;simp only[wpOps,wpList,ho]
theorem ae9{P:Program}{ops:Array Oper}{Q:Exit->Act->World->Prop}{id n:Nat}{a:Act}{w:World}(m u:Nat){om ou:Oper}(Ds:List Nat)(Ps:List Says)(hm:P.follows .mixedOrders=true)(hn:a.tmps.size=n)(hnd:Ds.Nodup)(hlt:(Ds.all fun d=>decide (d<n))=true)
  (hdep:(ops.toList.zipIdx.all fun p=>p.1.after.all fun e=>!Region.binds .any e||decide (e.on<p.2))=true) (hms:ops.size=m+1) (hum:u<m) (hom:ops[m]? = some om) (hou:ops[u]? = some ou) (hall:((List.range m).all fun j=>j==u||waits ops ops.size m j)=true) (hM:Monos Ps) (hD:Duties P n Ds Ps a w (ops.toList.take m) Ds Ps)
  (hend:∀a' w',a'.tmps.size=n->a'.defers=a.defers->Below w.heap.size w w'->Rest Ds a a'->(∀j,j<Ds.length->Ps.getD j (fun _ _=>True) (a'.eval (.tmp (Ds.getD j 0))) w')->wpList P ops Q [om] a' w')
  (hend2:∀a' w',a'.tmps.size=n->a'.defers=a.defers->Below w.heap.size w w'->Rest Ds a a'->(∀j,j<Ds.length->j≠u->Ps.getD j (fun _ _=>True) (a'.eval (.tmp (Ds.getD j 0))) w')->wpList P ops Q [om,ou] a' w'):(Code.region id ops true).wp P Q a w:=by
 obtain⟨hlen,hat⟩:=hD.take (by omega);refine abf hm (fun l a' w'=>(l.size=ops.size/\Shut ops l)/\(((∀j,m<=j->l.getD j false=false)/\Mid n Ds Ps a w (l.extract 0 m) a' w')\/((∀k,k<ops.size->l.getD k false=true)/\Q .normal a' w')\/(l.getD u false=false/\(∀k,k<ops.size->k≠u->l.getD k false=true)/\wpOps P ops Q [u] a' w'))) ?_ ?_ ?_
 ·refine⟨⟨by simp,fun j o _ hj=>?_⟩,.inl ⟨fun j _=>?_,by simp[hlen];omega,hn,rfl,Below.drew (Below.refl _ _),fun _ _=>rfl,fun j hj=>?_⟩⟩
  ·exfalso;simp[Array.getElem?_replicate]at hj;split at hj <;> simp at hj
  ·simp[Array.getElem?_replicate];split <;> simp
  ·exfalso;by_cases hjm:j<m
   ·rw[aad hjm]at hj;simp[Array.getElem?_replicate]at hj;split at hj <;> simp at hj
   ·rw[Array.getD_eq_getD_getElem?,Array.getElem?_eq_none (by simp;omega)]at hj;simp at hj
 ·rintro l a' w' ⟨⟨hs,hcl⟩,hI⟩ hr;have hal:=aea hdep hs hr;rcases hI with⟨h1,_⟩|⟨_,hq⟩|⟨h1,_,_⟩
  ·have:=hal m (by omega);rw[h1 m (Nat.le_refl _)]at this;cases this
  ·exact hq
  ·have:=hal u (by omega);rw[h1]at this;cases this
 ·rintro l a' w' ⟨⟨hs,hcl⟩,hI⟩ i hi;obtain⟨hun,o,ho,hdeps⟩:=mem_ready.1 hi;have hio:i<ops.size:=(Array.getElem?_eq_some_iff.1 ho).1;have hset:∀k,k≠i->(l.setIfInBounds i true).getD k false=l.getD k false:=fun k hk=>getD_set_ne false (fun e=>hk e.symm)
  have hseti:(l.setIfInBounds i true).getD i false=true:=by
   rw[Array.getD_eq_getD_getElem?,Array.getElem?_setIfInBounds_self_of_lt (by omega)];rfl
  have hif:l.getD i false=false:=by
   rw[Array.getD_eq_getD_getElem?]at hun ⊢;cases hc:l[i]? with
   |none=>rfl
   |some b=>rw[hc]at hun;simpa using hun
  have hcl':Shut ops (l.setIfInBounds i true):=hcl.set ho hdeps;have hs':(l.setIfInBounds i true).size=ops.size:=by simpa using hs
  rcases hI with⟨h1,hmid⟩|⟨h1,_⟩|⟨h1,h2,h3⟩
  ·by_cases him:i<m
   ·have hd':∀e∈o.after,Region.binds .any e=true->(l.extract 0 m).getD e.on false=true:=fun e he hb=>by
     have h2:=List.all_eq_true.1 hdep (o,i) (by rw[List.mem_zipIdx_iff_getElem?];simpa using ho);have h3:e.on<i:=by have h4:=Array.all_eq_true_iff_forall_mem.1 h2 e he;simpa[hb]using h4
     rw[aad (by omega)];exact hdeps e he hb
    refine wpOp_mono (fun a2 w2 h=>⟨⟨hs',hcl'⟩,.inl ⟨fun k hk=>?_,?_⟩⟩) (ae6 hat (by omega) hnd hlt hM ho (by omega) hmid hd')
    ·rw[hset k (by omega)];exact h1 k hk
    ·rw[ab5];exact h
   ·obtain rfl:i=m:=by omega
    have hpre:∀j,j<i->j≠u->l.getD j false=true:=fun j hj hju=>by
     have h2:=List.all_eq_true.1 hall j (List.mem_range.2 hj);simp only[Bool.or_eq_true,beq_iff_eq]at h2;rcases h2 with h2|h2
     ·exact absurd h2 hju
     ·exact abr hcl _ i j o ho hdeps h2
    obtain⟨h2,h3,h4,h5,h6,h7⟩:=hmid;by_cases hu:l.getD u false=true
    ·have hw:=hend a' w' h3 h4 h5 h6 (fun j hj=>h7 j (by
      rw[aad (by omega)];by_cases hju:j=u
      ·rw[hju];exact hu
      ·exact hpre j (by omega) hju))
     rw[<-avb hom,wpOps_cons]at hw;refine wpOp_mono (fun a2 w2 h=>⟨⟨hs',hcl'⟩,.inr (.inl ⟨fun k hk=>?_,by simpa[wpOps]using h⟩)⟩) hw;by_cases hki:k=i
     ·rw[hki];exact hseti
     ·rw[hset k hki];by_cases hku:k=u
      ·rw[hku];exact hu
      ·exact hpre k (by omega) hku
    ·have hw:=hend2 a' w' h3 h4 h5 h6 (fun j hj hju=>h7 j (by rw[aad (by omega)];exact hpre j (by omega) hju));rw[<-ava hom hou,wpOps_cons]at hw;refine wpOp_mono (fun a2 w2 h=>⟨⟨hs',hcl'⟩,.inr (.inr ⟨?_,fun k hk hku=>?_,h⟩)⟩) hw
     ·rw[hset u (by omega)];simpa using hu
     ·by_cases hki:k=i
      ·rw[hki];exact hseti
      ·rw[hset k hki];exact hpre k (by omega) hku
  ·rw[h1 i hio]at hif;cases hif
  ·have hiu:i=u:=by
    apply Classical.byContradiction;intro hne;rw[h2 i hio hne]at hif;cases hif
   subst hiu;rw[wpOps_cons]at h3;refine wpOp_mono (fun a2 w2 h=>⟨⟨hs',hcl'⟩,.inr (.inl ⟨fun k hk=>?_,by simpa[wpOps]using h⟩)⟩) h3;by_cases hki:k=i
   ·rw[hki];exact hseti
   ·rw[hset k hki];exact h2 k hk hki
end Lm
end Go.Proofs.YtjogfjgkabjcfaaGreat
