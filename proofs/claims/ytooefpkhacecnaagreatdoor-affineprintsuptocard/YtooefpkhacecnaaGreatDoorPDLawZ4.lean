/-
  What the text behind the last one leans on, part 4.
-/
import Derived.Deep.DeepCutAuto
import Derived.Handy
import Derived.Laws.IdiomStrings
import Derived.Test.YtooefpkhacecnaaGreatDoorPDLawZ3
set_option maxRecDepth 20000
set_option maxHeartbeats 40000000
namespace Go.Proofs.YtooefpkhacecnaaGreatDoor
namespace Lm
open Go Go.RowKit
structure RtS (w W:World) (q F:Nat) (s:ByteArray) (p p':Pl) (t:Tk):Prop where
 rdr:Rdr W q s p'
 z2:Tk0B W F
 z4:PlB W (F+1) plz
 h5:PlB W (F+1+1) p
 h6:TkB W (F+1+1+1) t
 tq:Tq w W q
 hq:q<F
 hF:w.heap.size<=F
theorem RtS.below{w W W':World}{q F:Nat}{s:ByteArray}{p p':Pl}{t:Tk}(h:RtS w W q F s p p' t)(hb:Below W.heap.size W W'):RtS w W' q F s p p' t:=
 ⟨h.rdr.below hb,h.z2.below hb,h.z4.below hb,h.h5.below hb,(hb.block _ (aaa h.h6)).trans h.h6,h.tq.trans (.of_below hb),h.hq,h.hF⟩
theorem RtS.move{w W W':World}{q F:Nat}{s:ByteArray}{p p' p2:Pl}{t:Tk}(h:RtS w W q F s p p' t)(ht:Tq W W' q)(hr:Rdr W' q s p2):RtS w W' q F s p p2 t:=
 ⟨hr,h.z2.tq ht (by have:=h.hq;omega),h.z4.tq ht (by have:=h.hq;omega),h.h5.tq ht (by have:=h.hq;omega),(ht.other _ (aaa h.h6) (by have:=h.hq;omega)).trans h.h6,h.tq.trans ht,h.hq,h.hF⟩
theorem RtS.kind{w W:World}{q F:Nat}{s:ByteArray}{p p':Pl}{t:Tk}(h:RtS w W q F s p p' t)(k:Int):RtS w (W.setCell ⟨F+1+1+1,0,none⟩ (.int .i64 k)) q F s p p' ⟨k,t.text,t.pl⟩:=by
 have hq:=h.hq;refine⟨(heap_setCell_other _ _ _ _ (by show q≠F+1+1+1;omega)).trans h.rdr,(heap_setCell_other _ _ _ _ (by show F≠F+1+1+1;omega)).trans h.z2,(heap_setCell_other _ _ _ _ (by show F+1≠F+1+1+1;omega)).trans h.z4,(heap_setCell_other _ _ _ _ (by show F+1+1≠F+1+1+1;omega)).trans h.h5,?_,h.tq.setNew (by have:=h.hF;omega) 0 _,hq,h.hF⟩;unfold TkB;rw[heap_setCell_same _ _ 0 _ _ _ h.h6];rfl
theorem RtS.text{w W:World}{q F:Nat}{s:ByteArray}{p p':Pl}{t:Tk}(h:RtS w W q F s p p' t)(x:ByteArray):RtS w (W.setCell ⟨F+1+1+1,1,none⟩ (.string x)) q F s p p' ⟨t.kind,x,t.pl⟩:=by
 have hq:=h.hq;refine⟨(heap_setCell_other _ _ _ _ (by show q≠F+1+1+1;omega)).trans h.rdr,(heap_setCell_other _ _ _ _ (by show F≠F+1+1+1;omega)).trans h.z2,(heap_setCell_other _ _ _ _ (by show F+1≠F+1+1+1;omega)).trans h.z4,(heap_setCell_other _ _ _ _ (by show F+1+1≠F+1+1+1;omega)).trans h.h5,?_,h.tq.setNew (by have:=h.hF;omega) 1 _,hq,h.hF⟩;unfold TkB;rw[heap_setCell_same _ _ 1 _ _ _ h.h6];rfl
structure RtC (W:World) (F:Nat) (p:Pl) (t:Tk):Prop where
 a0:W.cell? ⟨F,0,none⟩=some (.int .i64 0)
 a1:W.cell? ⟨F,1,none⟩=some (.string ⟨#[]⟩)
 a2:W.cell? ⟨F,2,none⟩=some (.int .i64 0)
 a3:W.cell? ⟨F,3,none⟩=some (.int .i64 0)
 a4:W.cell? ⟨F,4,none⟩=some (.int .i64 0)
 a5:W.cell? ⟨F,5,none⟩=some (.int .i64 0)
 b0:W.cell? ⟨F+1,0,none⟩=some (.int .i64 0)
 b1:W.cell? ⟨F+1,1,none⟩=some (.int .i64 0)
 b2:W.cell? ⟨F+1,2,none⟩=some (.int .i64 0)
 b3:W.cell? ⟨F+1,3,none⟩=some (.int .i64 0)
 c0:W.cell? ⟨F+1+1,0,none⟩=some (.int .i64 p.b)
 c1:W.cell? ⟨F+1+1,1,none⟩=some (.int .i64 p.g)
 c2:W.cell? ⟨F+1+1,2,none⟩=some (.int .i64 p.l)
 c3:W.cell? ⟨F+1+1,3,none⟩=some (.int .i64 p.c)
 d0:W.cell? ⟨F+1+1+1,0,none⟩=some (.int .i64 t.kind)
 d1:W.cell? ⟨F+1+1+1,1,none⟩=some (.string t.text)
 d2:W.cell? ⟨F+1+1+1,2,none⟩=some (.int .i64 t.pl.b)
 d3:W.cell? ⟨F+1+1+1,3,none⟩=some (.int .i64 t.pl.g)
 d4:W.cell? ⟨F+1+1+1,4,none⟩=some (.int .i64 t.pl.l)
 d5:W.cell? ⟨F+1+1+1,5,none⟩=some (.int .i64 t.pl.c)
 x0:W.frozen? ⟨F,0,none⟩=false
 x1:W.frozen? ⟨F,1,none⟩=false
 x2:W.frozen? ⟨F,2,none⟩=false
 x3:W.frozen? ⟨F,3,none⟩=false
 x4:W.frozen? ⟨F,4,none⟩=false
 x5:W.frozen? ⟨F,5,none⟩=false
 y0:W.frozen? ⟨F+1,0,none⟩=false
 y1:W.frozen? ⟨F+1,1,none⟩=false
 y2:W.frozen? ⟨F+1,2,none⟩=false
 y3:W.frozen? ⟨F+1,3,none⟩=false
 v0:W.frozen? ⟨F+1+1+1,0,none⟩=false
 v1:W.frozen? ⟨F+1+1+1,1,none⟩=false
theorem RtS.cells{w W:World}{q F:Nat}{s:ByteArray}{p p':Pl}{t:Tk}(h:RtS w W q F s p p' t):RtC W F p t:=by
 obtain⟨_,t0,t1,t2,t3,t4,t5,f0,f1,f2,f3,f4,f5⟩:=h.z2.cells;obtain⟨_,b0,b1,b2,b3⟩:=h.z4.cells;obtain⟨_,c0,c1,c2,c3⟩:=h.h5.cells;exact⟨t0,t1,t2,t3,t4,t5,b0,b1,b2,b3,c0,c1,c2,c3,
  by rw[cell_of_row W (F+1+1+1) 0 _ _ _ h.h6];rfl,by rw[cell_of_row W (F+1+1+1) 1 _ _ _ h.h6];rfl,by rw[cell_of_row W (F+1+1+1) 2 _ _ _ h.h6];rfl,by rw[cell_of_row W (F+1+1+1) 3 _ _ _ h.h6];rfl,by rw[cell_of_row W (F+1+1+1) 4 _ _ _ h.h6];rfl,by rw[cell_of_row W (F+1+1+1) 5 _ _ _ h.h6];rfl,
  f0,f1,f2,f3,f4,f5,frozen_of_row W (F+1) 0 _ _ h.z4,frozen_of_row W (F+1) 1 _ _ h.z4,frozen_of_row W (F+1) 2 _ _ h.z4,frozen_of_row W (F+1) 3 _ _ h.z4,frozen_of_row W (F+1+1+1) 0 _ _ h.h6,frozen_of_row W (F+1+1+1) 1 _ _ h.h6⟩
structure RtE (w W:World) (q F:Nat) (s:ByteArray) (p p':Pl) (t:Tk):Prop where
 rdr:Rdr W q s p'
 tok:TkB W F t
 pla:PlB W (F+1) p
 tq:Tq w W q
theorem RtS.fin{w W:World}{q F:Nat}{s:ByteArray}{p p':Pl}{t:Tk}(h:RtS w W q F s p p' t):
  RtE w ((((((((((W.setCell ⟨F,0,none⟩ (.int .i64 t.kind)).setCell ⟨F,1,none⟩ (.string t.text)).setCell ⟨F,2,none⟩ (.int .i64 t.pl.b)).setCell ⟨F,3,none⟩ (.int .i64 t.pl.g)).setCell ⟨F,4,none⟩ (.int .i64 t.pl.l)).setCell ⟨F,5,none⟩ (.int .i64 t.pl.c)).setCell ⟨F+1,0,none⟩ (.int .i64 p.b)).setCell ⟨F+1,1,none⟩ (.int .i64 p.g)).setCell ⟨F+1,2,none⟩ (.int .i64 p.l)).setCell ⟨F+1,3,none⟩ (.int .i64 p.c)) q F s p p' t:=by
 have hq:=h.hq;have hF:=h.hF;have hother:∀k (u:Obj),k≠F->k≠F+1->W.heap[k]? = some u->((((((((((W.setCell ⟨F,0,none⟩ (.int .i64 t.kind)).setCell ⟨F,1,none⟩ (.string t.text)).setCell ⟨F,2,none⟩ (.int .i64 t.pl.b)).setCell ⟨F,3,none⟩ (.int .i64 t.pl.g)).setCell ⟨F,4,none⟩ (.int .i64 t.pl.l)).setCell ⟨F,5,none⟩ (.int .i64 t.pl.c)).setCell ⟨F+1,0,none⟩ (.int .i64 p.b)).setCell ⟨F+1,1,none⟩ (.int .i64 p.g)).setCell ⟨F+1,2,none⟩ (.int .i64 p.l)).setCell ⟨F+1,3,none⟩ (.int .i64 p.c)).heap[k]? = some u:=by
  intro k u h1 h2 he;rw[heap_setCell_other _ ⟨F+1,3,none⟩ k _ h2,heap_setCell_other _ ⟨F+1,2,none⟩ k _ h2,heap_setCell_other _ ⟨F+1,1,none⟩ k _ h2,heap_setCell_other _ ⟨F+1,0,none⟩ k _ h2,aba _ _ _ h1];exact he
 refine⟨hother q _ (by omega) (by omega) h.rdr,?_,?_,?_⟩
 ·unfold TkB;have hne:F≠F+1:=by omega
  rw[heap_setCell_other _ ⟨F+1,3,none⟩ F _ hne,heap_setCell_other _ ⟨F+1,2,none⟩ F _ hne,heap_setCell_other _ ⟨F+1,1,none⟩ F _ hne,heap_setCell_other _ ⟨F+1,0,none⟩ F _ hne];rw[heap_setCell_same _ _ 5 _ _ _ (heap_setCell_same _ _ 4 _ _ _ (heap_setCell_same _ _ 3 _ _ _ (heap_setCell_same _ _ 2 _ _ _ (heap_setCell_same _ _ 1 _ _ _ (heap_setCell_same _ _ 0 _ _ _ h.z2)))))];simp
 ·refine aet (p:=plz) (p':=p) ?_;unfold PlB;rw[aba _ _ _ (show F+1≠F by omega)];exact h.z4
 ·exact((((h.tq.six hF _ _ _ _ _ _).setNew (by omega) 0 _).setNew (by omega) 1 _).setNew (by omega) 2 _).setNew (by omega) 3 _
theorem RtE.drew{w W:World}{q F:Nat}{s:ByteArray}{p p':Pl}{t:Tk}(h:RtE w W q F s p p' t):RtE w W.drew q F s p p' t:=
 ⟨h.rdr,h.tok,h.pla,h.tq.trans ⟨rfl,rfl,rfl,Nat.le_refl _,fun _ _ _=>rfl⟩⟩
def Tk.v(t:Tk):Value:=.agg #[.int .i64 t.kind,.string t.text,.int .i64 t.pl.b,.int .i64 t.pl.g,.int .i64 t.pl.l,.int .i64 t.pl.c]
theorem RtE.vals{w W:World}{q F:Nat}{s:ByteArray}{p p':Pl}{t:Tk}(h:RtE w W q F s p p' t):(W.cell? ⟨F,0,none⟩=some (.int .i64 t.kind)/\W.cell? ⟨F,1,none⟩=some (.string t.text)/\W.cell? ⟨F,2,none⟩=some (.int .i64 t.pl.b)/\W.cell? ⟨F,3,none⟩=some (.int .i64 t.pl.g)/\W.cell? ⟨F,4,none⟩=some (.int .i64 t.pl.l)/\W.cell? ⟨F,5,none⟩=some (.int .i64 t.pl.c))/\W.cell? ⟨F+1,0,none⟩=some (.int .i64 p.b)/\W.cell? ⟨F+1,1,none⟩=some (.int .i64 p.g)/\W.cell? ⟨F+1,2,none⟩=some (.int .i64 p.l)/\W.cell? ⟨F+1,3,none⟩=some (.int .i64 p.c):=by
 obtain⟨_,b0,b1,b2,b3⟩:=h.pla.cells;exact⟨⟨by rw[cell_of_row W F 0 _ _ _ h.tok];rfl,by rw[cell_of_row W F 1 _ _ _ h.tok];rfl,by rw[cell_of_row W F 2 _ _ _ h.tok];rfl,by rw[cell_of_row W F 3 _ _ _ h.tok];rfl,by rw[cell_of_row W F 4 _ _ _ h.tok];rfl,by rw[cell_of_row W F 5 _ _ _ h.tok];rfl⟩,b0,b1,b2,b3⟩
def RtO(w':World)(q:Nat)(s:ByteArray)(e p:Pl)(r:Ending):TO->Prop
 |.bad k=>∃t:Tk,r=.returned (.tuple #[t.v,.int .i64 k,p.v])
 |.ok kind text rest=>r=.returned (.tuple #[Tk.v ⟨kind,text,p⟩,.int .i64 0,p.v])/\∃p',Rdr w' q s p'/\Snd s p' rest e/\p'.ok/\p'.b<=s.size
theorem ab2(w:World)(q:Nat)(s:ByteArray)(p:Pl)(h:Rdr w q s p):RtS w ((((w.alloc (.cells #[.int .i64 0,.string ⟨#[]⟩,.int .i64 0,.int .i64 0,.int .i64 0,.int .i64 0] 109)).alloc (.cells #[.int .i64 0,.int .i64 0,.int .i64 0,.int .i64 0] 56)).alloc (.cells #[.int .i64 p.b,.int .i64 p.g,.int .i64 p.l,.int .i64 p.c] 56)).alloc (.cells #[.int .i64 0,.string ⟨#[]⟩,.int .i64 p.b,.int .i64 p.g,.int .i64 p.l,.int .i64 p.c] 109)) q w.heap.size s p p ⟨0,⟨#[]⟩,p⟩:=by
 generalize hw1:w.alloc (.cells #[.int .i64 0,.string ⟨#[]⟩,.int .i64 0,.int .i64 0,.int .i64 0,.int .i64 0] 109)=w1;have s1:w1.heap.size=w.heap.size+1:=by rw[<-hw1,World.size_alloc]
 have z1:Tk0B w1 w.heap.size:=by rw[<-hw1];exact heap_alloc_new w _
 have b1:Below w.heap.size w w1:=by rw[<-hw1];exact(Below.refl _ _).alloc (Nat.le_refl _) _
 generalize hw2:w1.alloc (.cells #[.int .i64 0,.int .i64 0,.int .i64 0,.int .i64 0] 56)=w2;have s2:w2.heap.size=w.heap.size+2:=by rw[<-hw2,World.size_alloc,s1]
 have z2:PlB w2 (w.heap.size+1) plz:=by rw[<-hw2,<-s1];exact heap_alloc_new w1 _
 have b2:Below w1.heap.size w1 w2:=by rw[<-hw2];exact(Below.refl _ _).alloc (Nat.le_refl _) _
 generalize hw3:w2.alloc (.cells #[.int .i64 p.b,.int .i64 p.g,.int .i64 p.l,.int .i64 p.c] 56)=w3;have s3:w3.heap.size=w.heap.size+3:=by rw[<-hw3,World.size_alloc,s2]
 have z3:PlB w3 (w.heap.size+1+1) p:=by rw[<-hw3,<-s2];exact heap_alloc_new w2 _
 have b3:Below w2.heap.size w2 w3:=by rw[<-hw3];exact(Below.refl _ _).alloc (Nat.le_refl _) _
 have b4:Below w3.heap.size w3 (w3.alloc (.cells #[.int .i64 0,.string ⟨#[]⟩,.int .i64 p.b,.int .i64 p.g,.int .i64 p.l,.int .i64 p.c] 109)):=(Below.refl _ _).alloc (Nat.le_refl _) _;have z4:TkB (w3.alloc (.cells #[.int .i64 0,.string ⟨#[]⟩,.int .i64 p.b,.int .i64 p.g,.int .i64 p.l,.int .i64 p.c] 109)) (w.heap.size+1+1+1) ⟨0,⟨#[]⟩,p⟩:=by rw[<-s3];exact heap_alloc_new w3 _
 exact⟨(((h.below b1).below b2).below b3).below b4,((z1.below b2).below b3).below b4,(z2.below b3).below b4,z3.below b4,z4,(((Tq.of_below b1).trans (.of_below b2)).trans (.of_below b3)).trans (.of_below b4),aaa h,Nat.le_refl _⟩
theorem am8(args:Array Value)(w:World):(callFunc 147 args).run Tryz.prog w=.ok (.enter 147 args) w:=by
 have h : (match Tryz.prog.funcs[147]? with | some fn => !(fn.name == "runtime.NumGoroutine") && fn.body.isSome | none => false) = true := by kernel_rfl
 cases hf:Tryz.prog.funcs[147]? with
 |none=>rw[hf]at h;simp at h
 |some fn=>
  rw[hf]at h;simp only[Bool.and_eq_true,Bool.not_eq_true',beq_eq_false_iff_ne]at h;obtain⟨h1,h2⟩:=h;have h3:fn.body≠none:=by intro hb;rw[hb]at h2;simp at h2
  simp[callFunc,hf,h1,h3]
theorem aj6{ops:Array Oper}{o:Oper}{a:Act}{w:World}{K:Act->World->Prop}{Q:Exit->Act->World->Prop}{E:Prop}(hg:o.guard=none)(x:Operand)(ats:Array TypeId)
  (hop:o.op=.call {callee:=.value (.func 147),args:=#[x],argTypes:=ats}) (c y:ByteArray) (hx:a.eval x=.string c) (hB:∀W,Calls Tryz.prog 147 #[.string c] W fun e w'=>e=.returned (.string y)/\w'=W) (hK:K (a.put o.dst (.string y)) w) :
  if Region.wanted o (yielded ops a.tmps)=true then Oper.wp Tryz.prog o a w K Q else E:=by
 obtain⟨dst,op,ty,pos,after,guard⟩:=o;simp only at hop hg;subst hop hg;have hw:Region.wanted {dst,op:=.call {callee:=.value (.func 147),args:=#[x],argTypes:=ats},type:=ty,pos,after,guard:=none} (yielded ops a.tmps)=true:=by simp[Region.wanted]
 rw[if_pos hw];have e:execOp a.eval {dst,op:=.call {callee:=.value (.func 147),args:=#[x],argTypes:=ats},type:=ty,pos,after,guard:=none}=callFunc 147 (#[] ++ #[x].map a.eval ++ #[]):=rfl;unfold Oper.wp;rw[e,am8];simp only[Oper.upon];have e2:(#[] ++ #[x].map a.eval ++ #[]:Array Value) = #[.string c]:=by simp[hx]
 rw[e2];refine(hB w).mono ?_;rintro r w' ⟨rfl,rfl⟩;exact hK
theorem atn(n:Nat):∃rs,Canon rs/\val rs=(n:Int):=by
 induction n using Nat.strongRecOn with
 |_ n ih=>
  by_cases h:n=0
  ·subst h;exact⟨[],abh,rfl⟩
  ·obtain⟨rs,hc,hv⟩:=ih (n/4294967296) (by omega);refine⟨((n%4294967296:Nat):Int)::rs,⟨?_,?_⟩,?_⟩
   ·intro z hz;rcases List.mem_cons.1 hz with rfl|hz
    ·omega
    ·exact hc.1 z hz
   ·have h1:=hc.2;rw[tl];cases rs with
    |nil=>
     simp only[val]at hv;simp only[tl,List.length_nil,List.length_cons];simp;omega
    |cons z zs=>
     rw[h1];simp
   ·rw[val,hv];omega
theorem ato{xs ds:List Int}(hx:Dig xs)(hd:IsDec ds (dval xs))(h0:0<xs.length):ds.length<=xs.length:=by
 obtain⟨h1,h2,h3⟩:=hd;rcases h3 with⟨_,rfl⟩|⟨c,cs,rfl,hc0⟩
 ·simp;omega
 ·have hcd:=(abg.1 h1).1;have hb:=aa0 (abg.1 h1).2;have hlow:p10 cs.length<=dval xs:=by
   rw[<-h2,dval];have:p10 cs.length*1<=(c-48)*p10 cs.length:=by
    rw[Int.mul_comm];exact Int.mul_le_mul_of_nonneg_right (by omega) (by have:=abb (m:=0) (n:=cs.length) (Nat.zero_le _);simp[p10]at this;omega)
   omega
  have hup:=(aa0 hx).2;apply Classical.byContradiction;intro hn;have:=abb (m:=xs.length) (n:=cs.length) (by simp at hn;omega);omega
theorem RtS.drew{w W:World}{q F:Nat}{s:ByteArray}{p p':Pl}{t:Tk}(h:RtS w W q F s p p' t):RtS w W.drew q F s p p' t:=h.below ((Below.refl _ _).drew)
theorem acb{w W:World}{q F:Nat}{s:ByteArray}{p p':Pl}{t:Tk}{post:Ending->World->Prop}{a:Act}(h:RtE w W q F s p p' t)(k:Int)(h2:a.tmps[2]? = some (.pointer (some ⟨F,0,none⟩)))(h3:a.tmps[3]? = some (.int .i64 k))(h4:a.tmps[4]? = some (.pointer (some ⟨F+1,0,none⟩)))(hd:a.defers = [])(hQ:post (.returned (.tuple #[t.v,.int .i64 k,p.v])) W):bodyPost Tryz.prog Tryz.f116 post Exit.ret a W:=by
 obtain⟨⟨e0,e1,e2,e3,e4,e5⟩,g0,g1,g2,g3⟩:=h.vals;obtain⟨tmps,defers⟩:=a;simp only at h2 h3 h4 hd;subst hd;refine bodyPost_ret (v:=.tuple #[t.v,.int .i64 k,p.v]) ?_ rfl hQ;simp[results,Tryz.results116,go_sem,h2,h3,h4,e0,e1,e2,e3,e4,e5,g0,g1,g2,g3,Tk.v,Pl.v]
theorem aqr(w:World)(q:Nat)(s:ByteArray)(p e:Pl)(h:Rdr w q s p)(hm:s.size<=4096)(hQ:Snd s p [] e)(hb:s.size<=e.b):
  Calls Tryz.prog 116 #[.pointer (some ⟨q,0,none⟩)] w fun r w'=>Tq w w' q/\r=.returned (.tuple #[Tk.v ⟨0,⟨#[]⟩,p⟩,.int .i64 0,p.v])/\Rdr w' q s p:=by
 have hl:=(adf hQ).2.1 hb;clear hQ;have HS0:=hide (ab2 w q s p h);obtain⟨hq,k0,k1,k2,k3,k4,f1,f2,f3,f4⟩:=h.cells;clear h;go_enter Tryz.func116,Tryz.ntmps116
 go_wp2_with fail
 generalize ((((w.alloc (.cells #[.int .i64 0,.string ⟨#[]⟩,.int .i64 0,.int .i64 0,.int .i64 0,.int .i64 0] 109)).alloc (.cells #[.int .i64 0,.int .i64 0,.int .i64 0,.int .i64 0] 56)).alloc (.cells #[.int .i64 p.b,.int .i64 p.g,.int .i64 p.l,.int .i64 p.c] 56)).alloc (.cells #[.int .i64 0,.string ⟨#[]⟩,.int .i64 p.b,.int .i64 p.g,.int .i64 p.l,.int .i64 p.c] 109))=W0 at HS0 ⊢;clear k0 k1 k2 k3 k4 f1 f2 f3 f4 hq;generalize w.heap.size=F at HS0 ⊢;refine(aay W0 q s p HS0.out.rdr (by omega)).mono ?_;rintro r W1 ⟨rfl,hb1⟩;rw[hl];have HS1:=hide (HS0.out.below hb1);clear hb1 HS0 hl;obtain⟨a0,a1,a2,a3,a4,a5,b0,b1,b2,b3,c0,c1,c2,c3,d0,d1,d2,d3,d4,d5,x0,x1,x2,x3,x4,x5,y0,y1,y2,y3,v0,v1⟩:=HS1.out.cells;go_wp2_with fail
 go_region
 go_wp2;exact acb HS1.out.fin.drew 0 rfl rfl rfl rfl ⟨HS1.out.fin.drew.tq,rfl,HS1.out.fin.drew.rdr⟩
theorem alv(w:World)(q:Nat)(s:ByteArray)(p e:Pl)(g:Gl)(gs:List Gl)(h:Rdr w q s p)(hm:s.size<=4096)(hQ:Snd s p (g::gs) e)(h2:gcls g.code≠2)(h3:gcls g.code≠3)(h5:gcls g.code≠5):
  Calls Tryz.prog 116 #[.pointer (some ⟨q,0,none⟩)] w fun r w'=>Tq w w' q/\RtO w' q s e p r (.bad 41):=by
 have hl:=aa5 hQ;have hg0:0<=(g.code:Int):=by omega
 have n1:((g.code:Int) == -1)=false:=beq_eq_false_iff_ne.2 (by omega);have HQ:=hide hQ;clear hQ;have q2:(gcls (g.code:Int)==2)=false:=beq_eq_false_iff_ne.2 h2;have q3:(gcls (g.code:Int)==3)=false:=beq_eq_false_iff_ne.2 h3;have q5:(gcls (g.code:Int)==5)=false:=beq_eq_false_iff_ne.2 h5;clear h2 h3 h5;have HS0:=hide (ab2 w q s p h);obtain⟨hq,k0,k1,k2,k3,k4,f1,f2,f3,f4⟩:=h.cells;clear h;go_enter Tryz.func116,Tryz.ntmps116
 go_wp2_with fail
 generalize ((((w.alloc (.cells #[.int .i64 0,.string ⟨#[]⟩,.int .i64 0,.int .i64 0,.int .i64 0,.int .i64 0] 109)).alloc (.cells #[.int .i64 0,.int .i64 0,.int .i64 0,.int .i64 0] 56)).alloc (.cells #[.int .i64 p.b,.int .i64 p.g,.int .i64 p.l,.int .i64 p.c] 56)).alloc (.cells #[.int .i64 0,.string ⟨#[]⟩,.int .i64 p.b,.int .i64 p.g,.int .i64 p.l,.int .i64 p.c] 109))=W0 at HS0 ⊢;clear k0 k1 k2 k3 k4 f1 f2 f3 f4 hq;generalize w.heap.size=F at HS0 ⊢;refine(aay W0 q s p HS0.out.rdr (by omega)).mono ?_;rintro r W1 ⟨rfl,hb1⟩;rw[hl];have HS1:=hide (HS0.out.below hb1);clear hb1 HS0 hl;obtain⟨a0,a1,a2,a3,a4,a5,b0,b1,b2,b3,c0,c1,c2,c3,d0,d1,d2,d3,d4,d5,x0,x1,x2,x3,x4,x5,y0,y1,y2,y3,v0,v1⟩:=HS1.out.cells;go_wp2_with (go_at_call 144;refine(aa7 _ _).mono ?_;rintro r w' ⟨rfl,rfl⟩)
 go_region
 go_wp2;exact acb HS1.out.fin.drew 41 rfl rfl rfl rfl ⟨HS1.out.fin.drew.tq,_,rfl⟩
theorem am9(w:World)(q:Nat)(s:ByteArray)(p e:Pl)(g:Gl)(gs:List Gl)(h:Rdr w q s p)(hm:s.size<=4096)(hQ:Snd s p (g::gs) e)(hok:p.ok)(hpb:p.b<=s.size)(h2:gcls g.code=2):
  Calls Tryz.prog 116 #[.pointer (some ⟨q,0,none⟩)] w fun r w'=>Tq w w' q/\∃o,TokR s e g gs o/\RtO w' q s e p r o:=by
 have hl:=aa5 hQ;have hg0:0<=(g.code:Int):=by omega
 have n1:((g.code:Int) == -1)=false:=beq_eq_false_iff_ne.2 (by omega);have HQ:=hide hQ;clear hQ;have q2:(gcls (g.code:Int)==2)=true:=by rw[h2];rfl
 have HOK:=hide hok;have HP:=hide HQ.out.tail.1;have HC2:=hide h2;clear h2 hok;have HS0:=hide (ab2 w q s p h);obtain⟨hq,k0,k1,k2,k3,k4,f1,f2,f3,f4⟩:=h.cells;clear h;go_enter Tryz.func116,Tryz.ntmps116
 go_wp2_with fail
 generalize ((((w.alloc (.cells #[.int .i64 0,.string ⟨#[]⟩,.int .i64 0,.int .i64 0,.int .i64 0,.int .i64 0] 109)).alloc (.cells #[.int .i64 0,.int .i64 0,.int .i64 0,.int .i64 0] 56)).alloc (.cells #[.int .i64 p.b,.int .i64 p.g,.int .i64 p.l,.int .i64 p.c] 56)).alloc (.cells #[.int .i64 0,.string ⟨#[]⟩,.int .i64 p.b,.int .i64 p.g,.int .i64 p.l,.int .i64 p.c] 109))=W0 at HS0 ⊢;clear k0 k1 k2 k3 k4 f1 f2 f3 f4 hq;generalize w.heap.size=F at HS0 ⊢;refine(aay W0 q s p HS0.out.rdr (by omega)).mono ?_;rintro r W1 ⟨rfl,hb1⟩;rw[hl];have HS1:=hide (HS0.out.below hb1);clear hb1 HS0 hl;go_wp2_with (go_at_call 144;refine(aa7 _ _).mono ?_;rintro r w' ⟨rfl,rfl⟩)
 go_loopw [] (fun wr=>∃(p':Pl) (gs':List Gl),Snd s p' gs' e/\p'.ok/\p'.b<=s.size/\p.b<=p'.b/\(g::gs).dropWhile (inC [2,3,4])=gs'.dropWhile (inC [2,3,4])/\p'.g+gs'.length=p.g+(g::gs).length/\RtS w wr q F s p p' ⟨0,⟨#[]⟩,p⟩) (fun wr=>s.size-rpos wr q)
 case atStart=>exact⟨p,g::gs,HQ.out,HOK.out,hpb,Nat.le_refl _,rfl,rfl,HS1.out⟩
 case round=>
  clear HS1;obtain⟨p',gs',hS,hok',hb',hpp,hdw,hcnt,hR⟩:=hrel;have HS:=hide hS;have HO:=hide hok';have HDW:=hide hdw;have HCN:=hide hcnt;have HR:=hide hR;have IP:=hide hR.rdr.pos;clear hok' hdw hcnt hR;have hcase:(∃g' gs'',gs'=g'::gs''/\inC [2,3,4] g'=true)\/(gs'.dropWhile (inC [2,3,4])=gs'/\¬(0<=lookS s p'/\(gcls (lookS s p')=2\/gcls (lookS s p')=3\/gcls (lookS s p')=4))):=by
   cases gs' with
   |nil=>
    refine .inr ⟨rfl,?_⟩;have hle:=adf hS;by_cases hbe:s.size<=e.b
    ·rw[hle.2.1 hbe];omega
    ·rw[hle.2.2 (by omega)];omega
   |cons g' gs''=>
    by_cases hi:inC [2,3,4] g'=true
    ·exact .inl ⟨g',gs'',rfl,hi⟩
    ·refine .inr ⟨List.dropWhile_cons_of_neg hi,?_⟩;rw[aa5 hS];simp only[inC,List.mem_cons,List.not_mem_nil,or_false,decide_eq_true_eq]at hi;omega
  rcases hcase with⟨g',gs'',rfl,hi⟩|⟨hdrop,hno⟩
  ·have hl':=aa5 hS;obtain⟨t1,t2,t3,t4,t5,t6⟩:=hS.tail;clear hS;have HN:=hide (fun(W:World) (h:Rdr W q s p')=>ab3 W q s p' h (by omega) t2 HO.out t4);have hd:=abf s p'.b t2;have HO2:=hide (HO.out.past (Utf8.decode s p'.b).1 (Utf8.decode s p'.b).2 hd.1);have HS2:=hide t5;have hpos:(p'.past (Utf8.decode s p'.b).1 (Utf8.decode s p'.b).2).b=p'.b+(Utf8.decode s p'.b).2:=rfl;have hgl:(p'.past (Utf8.decode s p'.b).1 (Utf8.decode s p'.b).2).g=p'.g+1:=rfl;generalize p'.past (Utf8.decode s p'.b).1 (Utf8.decode s p'.b).2=p2 at HN HO2 HS2 hpos hgl;have hpos':p'.b<p2.b/\p2.b<=s.size:=by omega
   have hyes:decide (0<=(g'.code:Int)/\(gcls (g'.code:Int)=2\/gcls (g'.code:Int)=3\/gcls (g'.code:Int)=4))=true:=by
    simp only[inC,List.mem_cons,List.not_mem_nil,or_false,decide_eq_true_eq]at hi;rw[decide_eq_true_eq];exact⟨by omega,hi⟩
   have HD2:Hid ((g::gs).dropWhile (inC [2,3,4])=gs''.dropWhile (inC [2,3,4])):=by
    show _=_;rw[HDW.out,List.dropWhile_cons_of_pos hi]
   have HC3:Hid (p2.g+gs''.length=p.g+(g::gs).length):=by
    show _=_;have:=HCN.out;simp only[List.length_cons]at this ⊢;omega
   clear t1 t2 t3 t4 t5 t6 hd hpos hgl hi;go_wp2_with fail
   refine(aay wr q s p' HR.out.rdr (by omega)).mono ?_;rintro r w2 ⟨rfl,hb2⟩;rw[hl'];replace HR:=hide (HR.out.below hb2);clear hb2 hl';go_wp2_with fail
   refine(alu _ _).mono ?_;rintro r w3 ⟨rfl,rfl⟩;rw[hyes];go_wp2_with fail
   refine(HN.out _ HR.out.rdr).mono ?_;rintro r w4 ⟨rfl,ht4,hR4⟩;have HR4:=hide (HR.out.move ht4 hR4);clear ht4 hR4;go_wp2;go_roundw
   case rel=>exact⟨p2,gs'',HS2.out,HO2.out,hpos'.2,by omega,HD2.out,HC3.out,HR4.out⟩
   case measure=>rw[IP.out,HR4.out.rdr.pos];omega
  ·have hno':decide (0<=lookS s p'/\(gcls (lookS s p')=2\/gcls (lookS s p')=3\/gcls (lookS s p')=4))=false:=by rw[decide_eq_false_iff_not];exact hno
   have HDD:=hide (HDW.out.trans hdrop);clear hno hdrop;go_wp2_with fail
   refine(aay wr q s p' HR.out.rdr (by omega)).mono ?_;rintro r w2 ⟨rfl,hb2⟩;replace HR:=hide (HR.out.below hb2);clear hb2;generalize lookS s p'=lk at hno' ⊢;go_wp2_with fail
   refine(alu _ _).mono ?_;rintro r w3 ⟨rfl,rfl⟩;rw[hno'];clear hno';have hpl:plf gs' e=p':=hS.plf;have HTX:Hid (s.extract g.pl.b (plf ((g::gs).dropWhile (inC [2,3,4])) e).b=s.extract p.b p'.b):=by
    show _=_;rw[HDD.out,hpl,HP.out]
   clear hS hpl;have HRK:=hide (HR.out.kind 1);have dk0:=HR.out.cells.d0;have dkv:=HR.out.cells.v0;go_wp2_with fail
   clear dk0 dkv;generalize w3.setCell ⟨F+1+1+1,0,none⟩ (.int .i64 1)=wK at HRK ⊢;obtain⟨hq,k0,k1,k2,k3,k4,f1,f2,f3,f4⟩:=HRK.out.rdr.cells;obtain⟨a0,a1,a2,a3,a4,a5,b0,b1,b2,b3,c0,c1,c2,c3,d0,d1,d2,d3,d4,d5,x0,x1,x2,x3,x4,x5,y0,y1,y2,y3,v0,v1⟩:=HRK.out.cells;have hpp':(p.b:Int)<=(p'.b:Int):=by omega
   have hps:(p'.b:Int)<=(s.size:Int):=by omega
   go_region
   have HRT:=hide ((HRK.out.text (s.extract p.b p'.b)).drew);simp only at HRT;clear hq k0 k1 k2 k3 k4 f1 f2 f3 f4 a0 a1 a2 a3 a4 a5 b0 b1 b2 b3 c0 c1 c2 c3 d0 d1 d2 d3 d4 d5 x0 x1 x2 x3 x4 x5 y0 y1 y2 y3 v0 v1 HRK;generalize (wK.setCell ⟨F+1+1+1,1,none⟩ (.string (s.extract p.b p'.b))).drew=wT at HRT ⊢;obtain⟨hq,k0,k1,k2,k3,k4,f1,f2,f3,f4⟩:=HRT.out.rdr.cells;have c1:=HRT.out.cells.c1;have hpg:p'.g<=10000:=by
    have:=(HRT.out.rdr);have h1:=HO.out.g;omega
   have hpg2:p.g<=10000:=by have:=HOK.out.g;omega
   by_cases h16:16<p'.g-p.g
   ·have h16':(16:Int)<(p'.g:Int)-(p.g:Int):=by omega
    go_wp2_with fail
    go_quiet (fail)
    have HRU:=hide (HRT.out.below (gdrewN (Below.refl _ _) nq));clear hq k0 k1 k2 k3 k4 f1 f2 f3 f4 c1 HRT;generalize wT.drewN nq=wU at HRU ⊢;obtain⟨a0,a1,a2,a3,a4,a5,b0,b1,b2,b3,c0,c1,c2,c3,d0,d1,d2,d3,d4,d5,x0,x1,x2,x3,x4,x5,y0,y1,y2,y3,v0,v1⟩:=HRU.out.cells;go_wp2_with fail
    go_region
    go_wp2;refine acb HRU.out.fin.drew 42 rfl rfl rfl rfl ⟨HRU.out.fin.drew.tq,.bad 42,?_,_,rfl⟩;have:=ae4 (s:=s) (e:=e) (r:=gs) HC2.out;rw[HDD.out,if_pos (by have:=HCN.out;omega)]at this;exact this
   ·have h16':decide ((16:Int)<(p'.g:Int)-(p.g:Int))=false:=by simp;omega
    go_wp2_with fail
    go_quiet (fail)
    have HRU:=hide (HRT.out.below (gdrewN (Below.refl _ _) nq));clear hq k0 k1 k2 k3 k4 f1 f2 f3 f4 c1 HRT;generalize wT.drewN nq=wU at HRU ⊢;obtain⟨a0,a1,a2,a3,a4,a5,b0,b1,b2,b3,c0,c1,c2,c3,d0,d1,d2,d3,d4,d5,x0,x1,x2,x3,x4,x5,y0,y1,y2,y3,v0,v1⟩:=HRU.out.cells;go_wp2_with fail
    go_region
    go_wp2;refine acb HRU.out.fin.drew 0 rfl rfl rfl rfl ⟨HRU.out.fin.drew.tq,.ok 1 (s.extract p.b p'.b) gs',?_,rfl,p',HRU.out.fin.drew.rdr,HS.out,HO.out,hb'⟩;have:=ae4 (s:=s) (e:=e) (r:=gs) HC2.out;rw[HTX.out,HDD.out,if_neg (by have:=HCN.out;omega)]at this;exact this
theorem aqs(w:World)(q:Nat)(s:ByteArray)(p e:Pl)(g:Gl)(gs:List Gl)(h:Rdr w q s p)(hm:s.size<=4096)(hQ:Snd s p (g::gs) e)(hok:p.ok)(hpb:p.b<=s.size)(h2:gcls g.code=3):
  Calls Tryz.prog 116 #[.pointer (some ⟨q,0,none⟩)] w fun r w'=>Tq w w' q/\∃o,TokR s e g gs o/\RtO w' q s e p r o:=by
 have hl:=aa5 hQ;have hg0:0<=(g.code:Int):=by omega
 have n1:((g.code:Int) == -1)=false:=beq_eq_false_iff_ne.2 (by omega);have HQ:=hide hQ;clear hQ;have q2:(gcls (g.code:Int)==2)=false:=by rw[h2];rfl
 have q3:(gcls (g.code:Int)==3)=true:=by rw[h2];rfl
 have HOK:=hide hok;have HP:=hide HQ.out.tail.1;have HC2:=hide h2;clear h2 hok;have HS0:=hide (ab2 w q s p h);obtain⟨hq,k0,k1,k2,k3,k4,f1,f2,f3,f4⟩:=h.cells;clear h;go_enter Tryz.func116,Tryz.ntmps116
 go_wp2_with fail
 generalize ((((w.alloc (.cells #[.int .i64 0,.string ⟨#[]⟩,.int .i64 0,.int .i64 0,.int .i64 0,.int .i64 0] 109)).alloc (.cells #[.int .i64 0,.int .i64 0,.int .i64 0,.int .i64 0] 56)).alloc (.cells #[.int .i64 p.b,.int .i64 p.g,.int .i64 p.l,.int .i64 p.c] 56)).alloc (.cells #[.int .i64 0,.string ⟨#[]⟩,.int .i64 p.b,.int .i64 p.g,.int .i64 p.l,.int .i64 p.c] 109))=W0 at HS0 ⊢;clear k0 k1 k2 k3 k4 f1 f2 f3 f4 hq;generalize w.heap.size=F at HS0 ⊢;refine(aay W0 q s p HS0.out.rdr (by omega)).mono ?_;rintro r W1 ⟨rfl,hb1⟩;rw[hl];have HS1:=hide (HS0.out.below hb1);clear hb1 HS0 hl;go_wp2_with (go_at_call 144;refine(aa7 _ _).mono ?_;rintro r w' ⟨rfl,rfl⟩)
 go_loopw [] (fun wr=>∃(p':Pl) (gs':List Gl),Snd s p' gs' e/\p'.ok/\p'.b<=s.size/\p.b<=p'.b/\(g::gs).dropWhile (inC [3])=gs'.dropWhile (inC [3])/\p'.g+gs'.length=p.g+(g::gs).length/\RtS w wr q F s p p' ⟨0,⟨#[]⟩,p⟩) (fun wr=>s.size-rpos wr q)
 case atStart=>exact⟨p,g::gs,HQ.out,HOK.out,hpb,Nat.le_refl _,rfl,rfl,HS1.out⟩
 case round=>
  clear HS1;obtain⟨p',gs',hS,hok',hb',hpp,hdw,hcnt,hR⟩:=hrel;have HS:=hide hS;have HO:=hide hok';have HDW:=hide hdw;have HCN:=hide hcnt;have HR:=hide hR;have IP:=hide hR.rdr.pos;clear hok' hdw hcnt hR;have hcase:(∃g' gs'',gs'=g'::gs''/\inC [3] g'=true)\/(gs'.dropWhile (inC [3])=gs'/\(lookS s p'<0\/(0<=lookS s p'/\gcls (lookS s p')≠3))):=by
   cases gs' with
   |nil=>
    refine .inr ⟨rfl,.inl ?_⟩;have hle:=adf hS;by_cases hbe:s.size<=e.b
    ·rw[hle.2.1 hbe];omega
    ·rw[hle.2.2 (by omega)];omega
   |cons g' gs''=>
    by_cases hi:inC [3] g'=true
    ·exact .inl ⟨g',gs'',rfl,hi⟩
    ·refine .inr ⟨List.dropWhile_cons_of_neg hi,.inr ?_⟩;rw[aa5 hS];simp only[inC,List.mem_singleton,decide_eq_true_eq]at hi;exact⟨by omega,hi⟩
  rcases hcase with⟨g',gs'',rfl,hi⟩|⟨hdrop,hno⟩
  ·have hl':=aa5 hS;obtain⟨t1,t2,t3,t4,t5,t6⟩:=hS.tail;clear hS;have HN:=hide (fun(W:World) (h:Rdr W q s p')=>ab3 W q s p' h (by omega) t2 HO.out t4);have hd:=abf s p'.b t2;have HO2:=hide (HO.out.past (Utf8.decode s p'.b).1 (Utf8.decode s p'.b).2 hd.1);have HS2:=hide t5;have hpos:(p'.past (Utf8.decode s p'.b).1 (Utf8.decode s p'.b).2).b=p'.b+(Utf8.decode s p'.b).2:=rfl;have hgl:(p'.past (Utf8.decode s p'.b).1 (Utf8.decode s p'.b).2).g=p'.g+1:=rfl;generalize p'.past (Utf8.decode s p'.b).1 (Utf8.decode s p'.b).2=p2 at HN HO2 HS2 hpos hgl;have hpos':p'.b<p2.b/\p2.b<=s.size:=by omega
   have hyes:(gcls (g'.code:Int)==3)=true:=by
    simp only[inC,List.mem_singleton,decide_eq_true_eq]at hi;rw[hi];rfl
   have hge:(0:Int)<=(g'.code:Int):=by omega
   have HD2:Hid ((g::gs).dropWhile (inC [3])=gs''.dropWhile (inC [3])):=by
    show _=_;rw[HDW.out,List.dropWhile_cons_of_pos hi]
   have HC3:Hid (p2.g+gs''.length=p.g+(g::gs).length):=by
    show _=_;have:=HCN.out;simp only[List.length_cons]at this ⊢;omega
   clear t1 t2 t3 t4 t5 t6 hd hpos hgl hi;go_wp2_with fail
   refine(aay wr q s p' HR.out.rdr (by omega)).mono ?_;rintro r w2 ⟨rfl,hb2⟩;rw[hl'];replace HR:=hide (HR.out.below hb2);clear hb2;go_wp2_with fail
   refine(aay w2 q s p' HR.out.rdr (by omega)).mono ?_;rintro r w3 ⟨rfl,hb3⟩;rw[hl'];replace HR:=hide (HR.out.below hb3);clear hb3 hl';go_wp2_with (go_at_call 144;refine(aa7 _ _).mono ?_;rintro r w' ⟨rfl,rfl⟩)
   refine(HN.out _ HR.out.rdr).mono ?_;rintro r w4 ⟨rfl,ht4,hR4⟩;have HR4:=hide (HR.out.move ht4 hR4);clear ht4 hR4;go_wp2;go_roundw
   case rel=>exact⟨p2,gs'',HS2.out,HO2.out,hpos'.2,by omega,HD2.out,HC3.out,HR4.out⟩
   case measure=>rw[IP.out,HR4.out.rdr.pos];omega
  ·have HDD:=hide (HDW.out.trans hdrop);clear hdrop;have hpl:plf gs' e=p':=hS.plf;have HTX:Hid (s.extract g.pl.b (plf ((g::gs).dropWhile (inC [3])) e).b=s.extract p.b p'.b):=by
    show _=_;rw[HDD.out,hpl,HP.out]
   have hdg:=HQ.out.digits HOK.out hpb;rw[HDD.out,hpl]at hdg;have hlt:p.b<p'.b:=by
    have h1:=HQ.out.tail;have h2:=abf s p.b h1.2.1;have h3:(g::gs).dropWhile (inC [3])=gs.dropWhile (inC [3]):=List.dropWhile_cons_of_pos (by simp[inC,HC2.out]);have h4:gs.length-gs'.length+gs'.length=gs.length:=by
     have h5:gs'=gs.dropWhile (inC [3]):=by rw[<-h3,HDD.out]
     have h6:(gs.dropWhile (inC [3])).length<=gs.length:=(List.dropWhile_sublist _).length_le;rw[h5];omega
    have h7:=HCN.out;simp only[List.length_cons]at h7;apply Classical.byContradiction;intro hn;have h8:p'.b=p.b:=by omega
    have h9:(Lm.plf gs e).b=p.b+(Utf8.decode s p.b).2:=by rw[h1.2.2.2.2.2];rfl
    have h10:=h1.2.2.2.2.1.digits (HOK.out.past _ _ h2.1) (by simp only[Pl.past];omega);rw[<-h3,HDD.out,hpl]at h10;have h11:=h10.2.1;simp only[Pl.past]at h11;omega
   obtain⟨DS,hDS⟩:=an5 hdg.1;obtain⟨nn,hnn⟩:∃n,IsLen (dval (bytesOf (s.extract p.b p'.b))) n:=by
    obtain⟨rs,hc,hv⟩:=atn (dval (bytesOf (s.extract p.b p'.b))).toNat;exact⟨rs.length,rs,hc,by rw[hv];exact Int.toNat_of_nonneg (aa0 hdg.1).1,rfl⟩
   have hsz:(s.extract p.b p'.b).size=p'.b-p.b:=by rw[ByteArray.size_extract];omega
   have KB:=hide (fun(W:World)=>(awg W (s.extract p.b p'.b) (by omega) hdg.1).mono (R':=fun e w'=>e=.returned (.string (strOfNums DS))/\w'=W) fun e w' h=>by
    obtain⟨rfl,ds,h1,rfl,_⟩:=h
    exact⟨by rw[ad1 h1 hDS],rfl⟩)
   have HL:=hide hnn;have HDS:=hide hDS;have HV:Hid (dval (bytesOf (strOfNums DS))=dval (bytesOf (s.extract p.b p'.b))):=by
    show _=_;rw[abp hDS.1];exact hDS.2.1
   have hDz:(strOfNums DS).size<=5120:=by
    have h1:=ato hdg.1 hDS (by rw[aah];omega);rw[aah,hsz]at h1;have h2:(strOfNums DS).size=DS.length:=by rw[<-aah,abp hDS.1]
    omega
   clear hS hpl hDS hnn hsz;rcases hno with hneg|⟨hge,hnc⟩
   ·have hneg':decide ((0:Int)<=lookS s p')=false:=by simp;omega
    go_wp2_with fail
    refine(aay wr q s p' HR.out.rdr (by omega)).mono ?_;rintro r w2 ⟨rfl,hb2⟩;replace HR:=hide (HR.out.below hb2);clear hb2 hneg;generalize lookS s p'=lk at hneg' ⊢;have HRK:=hide (HR.out.kind 2);have dk0:=HR.out.cells.d0;have dkv:=HR.out.cells.v0;go_wp2_with fail
    clear dk0 dkv;generalize w2.setCell ⟨F+1+1+1,0,none⟩ (.int .i64 2)=wK at HRK ⊢;obtain⟨hq,k0,k1,k2,k3,k4,f1,f2,f3,f4⟩:=HRK.out.rdr.cells;obtain⟨a0,a1,a2,a3,a4,a5,b0,b1,b2,b3,c0,c1,c2,c3,d0,d1,d2,d3,d4,d5,x0,x1,x2,x3,x4,x5,y0,y1,y2,y3,v0,v1⟩:=HRK.out.cells;have hpp':(p.b:Int)<=(p'.b:Int):=by omega
    have hps:(p'.b:Int)<=(s.size:Int):=by omega
    go_cut [] (fun wx=>RtS w wx q F s p p' ⟨2,strOfNums DS,p⟩)
    case first=>
     go_region_law (refine aj6 rfl (.tmp 81) #[9] rfl (s.extract p.b p'.b) (strOfNums DS) (by simp[Act.eval,Act.put]) KB.out ?_)
     all_goals (
      go_wp2_with fail
      go_meet
      exact(HRK.out.text (strOfNums DS)).drew)
    case rest=>
     have HRT:=hide hcut;clear hcut HRK hq k0 k1 k2 k3 k4 f1 f2 f3 f4 a0 a1 a2 a3 a4 a5 b0 b1 b2 b3 c0 c1 c2 c3 d0 d1 d2 d3 d4 d5 x0 x1 x2 x3 x4 x5 y0 y1 y2 y3 v0 v1;have d1:=HRT.out.cells.d1;simp only at d1;go_wp2_with fail
     refine(Dm.aij wc (strOfNums DS) (by rw[abp HDS.out.1];exact HDS.out.1) hDz).mono ?_;rintro r w5 ⟨ao,cap,D,rfl,hG,hD6,hb5⟩;rw[HV.out]at hG;replace HRT:=hide (HRT.out.below hb5);have HG:=hide hG;clear hb5 d1 hG;go_wp2_with fail
     refine(aoh w5 ao cap D _ (aa0 hdg.1).1 HG.out hD6 nn HL.out).mono ?_;rintro r w6 ⟨rfl,hb6⟩;replace HRT:=hide (HRT.out.below hb6);clear hb6;obtain⟨a0,a1,a2,a3,a4,a5,b0,b1,b2,b3,c0,c1,c2,c3,d0,d1,d2,d3,d4,d5,x0,x1,x2,x3,x4,x5,y0,y1,y2,y3,v0,v1⟩:=HRT.out.cells;by_cases h32:32<nn
     ·have h32':decide (32<nn)=true:=by simp[h32]
      rw[h32'];go_wp2_with fail
      go_region
      go_wp2;refine acb HRT.out.fin.drew 2 rfl rfl rfl rfl ⟨HRT.out.fin.drew.tq,.bad 2,?_,_,rfl⟩;have:=ac3 (s:=s) (e:=e) (r:=gs) (n:=nn) (ds:=DS) HC2.out (by rw[HTX.out];exact HL.out) (by rw[HTX.out];exact HDS.out);rw[HDD.out,if_pos h32]at this;exact this
     ·have h32':decide (32<nn)=false:=by simp;omega
      rw[h32'];go_wp2_with fail
      go_region
      go_wp2;refine acb HRT.out.fin.drew 0 rfl rfl rfl rfl ⟨HRT.out.fin.drew.tq,.ok 2 (strOfNums DS) gs',?_,rfl,p',HRT.out.fin.drew.rdr,HS.out,HO.out,hb'⟩;have:=ac3 (s:=s) (e:=e) (r:=gs) (n:=nn) (ds:=DS) HC2.out (by rw[HTX.out];exact HL.out) (by rw[HTX.out];exact HDS.out);rw[HDD.out,if_neg h32]at this;exact this
   ·have hnc':(gcls (lookS s p')==3)=false:=beq_eq_false_iff_ne.2 hnc;go_wp2_with fail
    refine(aay wr q s p' HR.out.rdr (by omega)).mono ?_;rintro r w2 ⟨rfl,hb2⟩;replace HR:=hide (HR.out.below hb2);clear hb2 hnc;have KL:=hide (fun(W:World) (h:Rdr W q s p')=>aay W q s p' h (by omega));generalize lookS s p'=lk at hge hnc' KL ⊢;go_wp2_with fail
    refine(KL.out w2 HR.out.rdr).mono ?_;rintro r w3 ⟨rfl,hb3⟩;replace HR:=hide (HR.out.below hb3);clear hb3 KL;have HRK:=hide (HR.out.kind 2);have dk0:=HR.out.cells.d0;have dkv:=HR.out.cells.v0;go_wp2_with fail
    refine(aa7 _ _).mono ?_;rintro r w4 ⟨rfl,rfl⟩;go_wp2_with fail
    clear dk0 dkv;generalize w4.setCell ⟨F+1+1+1,0,none⟩ (.int .i64 2)=wK at HRK ⊢;obtain⟨hq,k0,k1,k2,k3,k4,f1,f2,f3,f4⟩:=HRK.out.rdr.cells;obtain⟨a0,a1,a2,a3,a4,a5,b0,b1,b2,b3,c0,c1,c2,c3,d0,d1,d2,d3,d4,d5,x0,x1,x2,x3,x4,x5,y0,y1,y2,y3,v0,v1⟩:=HRK.out.cells;have hpp':(p.b:Int)<=(p'.b:Int):=by omega
    have hps:(p'.b:Int)<=(s.size:Int):=by omega
    go_cut [] (fun wx=>RtS w wx q F s p p' ⟨2,strOfNums DS,p⟩)
    case first=>
     go_region_law (refine aj6 rfl (.tmp 81) #[9] rfl (s.extract p.b p'.b) (strOfNums DS) (by simp[Act.eval,Act.put]) KB.out ?_)
     all_goals (
      go_wp2_with fail
      go_meet
      exact(HRK.out.text (strOfNums DS)).drew)
    case rest=>
     have HRT:=hide hcut;clear hcut HRK hq k0 k1 k2 k3 k4 f1 f2 f3 f4 a0 a1 a2 a3 a4 a5 b0 b1 b2 b3 c0 c1 c2 c3 d0 d1 d2 d3 d4 d5 x0 x1 x2 x3 x4 x5 y0 y1 y2 y3 v0 v1;have d1:=HRT.out.cells.d1;simp only at d1;go_wp2_with fail
     refine(Dm.aij wc (strOfNums DS) (by rw[abp HDS.out.1];exact HDS.out.1) hDz).mono ?_;rintro r w5 ⟨ao,cap,D,rfl,hG,hD6,hb5⟩;rw[HV.out]at hG;replace HRT:=hide (HRT.out.below hb5);have HG:=hide hG;clear hb5 d1 hG;go_wp2_with fail
     refine(aoh w5 ao cap D _ (aa0 hdg.1).1 HG.out hD6 nn HL.out).mono ?_;rintro r w6 ⟨rfl,hb6⟩;replace HRT:=hide (HRT.out.below hb6);clear hb6;obtain⟨a0,a1,a2,a3,a4,a5,b0,b1,b2,b3,c0,c1,c2,c3,d0,d1,d2,d3,d4,d5,x0,x1,x2,x3,x4,x5,y0,y1,y2,y3,v0,v1⟩:=HRT.out.cells;by_cases h32:32<nn
     ·have h32':decide (32<nn)=true:=by simp[h32]
      rw[h32'];go_wp2_with fail
      go_region
      go_wp2;refine acb HRT.out.fin.drew 2 rfl rfl rfl rfl ⟨HRT.out.fin.drew.tq,.bad 2,?_,_,rfl⟩;have:=ac3 (s:=s) (e:=e) (r:=gs) (n:=nn) (ds:=DS) HC2.out (by rw[HTX.out];exact HL.out) (by rw[HTX.out];exact HDS.out);rw[HDD.out,if_pos h32]at this;exact this
     ·have h32':decide (32<nn)=false:=by simp;omega
      rw[h32'];go_wp2_with fail
      go_region
      go_wp2;refine acb HRT.out.fin.drew 0 rfl rfl rfl rfl ⟨HRT.out.fin.drew.tq,.ok 2 (strOfNums DS) gs',?_,rfl,p',HRT.out.fin.drew.rdr,HS.out,HO.out,hb'⟩;have:=ac3 (s:=s) (e:=e) (r:=gs) (n:=nn) (ds:=DS) HC2.out (by rw[HTX.out];exact HL.out) (by rw[HTX.out];exact HDS.out);rw[HDD.out,if_neg h32]at this;exact this
structure RgS (w wr:World) (q f B:Nat) (s:ByteArray) (p:Pl) (T:TypeId) (v:Value) (n:Nat) (xs:List Value):Prop where
 rdr:Rdr wr q s p
 own:wr.ownsRow B T 6 v n xs
 zer:PlB wr f plz
 bel:Below w.heap.size w wr
 siz:B<=wr.heap.size
 fw:w.heap.size<=f
 qw:w.heap.size<=q
 fq:f≠q
 fB:f<B
 qB:q<B
section
variable {w wr w' w1:World} {q f B:Nat} {s:ByteArray} {p p':Pl} {T:TypeId} {v v':Value} {n n':Nat} {xs xs':List Value}
theorem RgS.below(h:RgS w wr q f B s p T v n xs)(hb:Below wr.heap.size wr w'):RgS w w' q f B s p T v n xs:=
 ⟨h.rdr.below hb,ab7 h.own hb,h.zer.below hb,h.bel.trans (hb.mono h.bel.size),Nat.le_trans h.siz hb.size,h.fw,h.qw,h.fq,h.fB,h.qB⟩
theorem RgS.tq(h:RgS w wr q f B s p T v n xs)(ht:Tq wr w' q)(hr:Rdr w' q s p'):RgS w w' q f B s p' T v n xs:=
 ⟨hr,ade h.own fun k _ hk he=>(ht.other k (aaa he) (by have:=h.qB;omega)).trans he,h.zer.tq ht h.fq,aes h.bel ht h.qw (Nat.le_refl _),Nat.le_trans h.siz ht.size,h.fw,h.qw,h.fq,h.fB,h.qB⟩
theorem RgS.more(h:RgS w wr q f B s p T v n xs)(hg:wr.grownBy w1 v.ownBlock)(hown:w1.ownsRow B T 6 v' n' xs'):RgS w w1 q f B s p T v' n' xs':=by
 have hrow:∀k,k<B->some k≠v.ownBlock:=by
  intro k hk;obtain⟨hl,⟨rfl,_⟩|⟨b,cap,cur,rfl,hb,_⟩⟩:=h.own
  ·simp[Value.ownBlock]
  ·simp only[Value.ownBlock,ne_eq,Option.some.injEq];omega
 have hz:=h.siz;have hB:∀k,k<B->w1.heap[k]? = wr.heap[k]? :=fun k hk=>hg.block k (by omega) (hrow k hk)
 exact⟨(hB q h.qB).trans h.rdr,hown,(hB f h.fB).trans h.zer,⟨hg.os.trans h.bel.os,hg.tape.trans h.bel.tape,hg.output.trans h.bel.output,Nat.le_trans h.bel.size hg.size,fun k hk=>(hB k (by have:=h.fw;have:=h.fB;omega)).trans (h.bel.block k hk)⟩,Nat.le_trans h.siz hg.size,h.fw,h.qw,h.fq,h.fB,h.qB⟩
end
theorem bys(w:World)(l:List UInt8)(n:Nat)(hn:n=l.length)(cs:Array Value)(hc:cs=(l.map fun b=>Value.int .u8 (b.toNat:Int)).toArray):
  (convert 135 9 (.slice (some ⟨w.heap.size,0,none⟩) n n)).run Tryz.prog (w.alloc (.cells cs 5))=.ok (.string ⟨l.toArray⟩) (w.alloc (.cells cs 5)):=by
 subst hn;refine run_convert_bytes_back _ 135 9 5 _ _ l Tryz.underlying135 Tryz.underlying5 Tryz.underlying9 ?_;intro j hj;have e:(⟨w.heap.size,0,none⟩:Addr).add j=⟨w.heap.size,j,none⟩:=by simp[Addr.add];intro h;exact h.symm
 rw[e,World.cell?_alloc_mark,hc];simp[hj]
set_option maxRecDepth 400000 in
theorem ana(w:World)(q:Nat)(s:ByteArray)(p e:Pl)(g:Gl)(gs:List Gl)(h:Rdr w q s p)(hm:s.size<=4096)(hQ:Snd s p (g::gs) e)(hok:p.ok)(h5:gcls g.code=5)(hc:g.code=8788):
  Calls Tryz.prog 116 #[.pointer (some ⟨q,0,none⟩)] w fun r w'=>Tq w w' q/\RtO w' q s e p r (.ok 3 (strOfNums [58,61]) gs):=by
 have hl:=aa5 hQ;have hg0:0<=(g.code:Int):=by omega
 have n1:((g.code:Int) == -1)=false:=beq_eq_false_iff_ne.2 (by omega);have HQ:=hide hQ;clear hQ;have q2:(gcls (g.code:Int)==2)=false:=by rw[h5];rfl
 have q3:(gcls (g.code:Int)==3)=false:=by rw[h5];rfl
 have q5:(gcls (g.code:Int)==5)=true:=by rw[h5];rfl
 obtain⟨t1,t2,t3,t4,t5,t6⟩:=HQ.out.tail;have HN:=hide (fun(W:World) (h:Rdr W q s p)=>ab3 W q s p h (by omega) t2 hok t4);have hd:=abf s p.b t2;have HO2:=hide (hok.past (Utf8.decode s p.b).1 (Utf8.decode s p.b).2 hd.1);have HS2:=hide t5;have hpos:(p.past (Utf8.decode s p.b).1 (Utf8.decode s p.b).2).b=p.b+(Utf8.decode s p.b).2:=rfl;generalize p.past (Utf8.decode s p.b).1 (Utf8.decode s p.b).2=p2 at HN HO2 HS2 hpos;have hpos':p2.b<=s.size:=by omega
 have m1:((g.code:Int)==8788)=true:=by simp;omega
 clear hc;clear t1 t2 t3 t4 t5 t6 hd hpos h5 hok;have HS0:=hide (ab2 w q s p h);obtain⟨hq,k0,k1,k2,k3,k4,f1,f2,f3,f4⟩:=h.cells;clear h;go_enter Tryz.func116,Tryz.ntmps116
 go_wp2_with fail
 generalize ((((w.alloc (.cells #[.int .i64 0,.string ⟨#[]⟩,.int .i64 0,.int .i64 0,.int .i64 0,.int .i64 0] 109)).alloc (.cells #[.int .i64 0,.int .i64 0,.int .i64 0,.int .i64 0] 56)).alloc (.cells #[.int .i64 p.b,.int .i64 p.g,.int .i64 p.l,.int .i64 p.c] 56)).alloc (.cells #[.int .i64 0,.string ⟨#[]⟩,.int .i64 p.b,.int .i64 p.g,.int .i64 p.l,.int .i64 p.c] 109))=W0 at HS0 ⊢;clear k0 k1 k2 k3 k4 f1 f2 f3 f4 hq;generalize w.heap.size=F at HS0 ⊢;refine(aay W0 q s p HS0.out.rdr (by omega)).mono ?_;rintro r W1 ⟨rfl,hb1⟩;rw[hl];have HS1:=hide (HS0.out.below hb1);clear hb1 HS0 hl;have HRK:=hide (HS1.out.kind 3);have dk0:=HS1.out.cells.d0;have dkv:=HS1.out.cells.v0;go_wp2_with fail
 refine(aa7 _ _).mono ?_;rintro r Wb ⟨rfl,rfl⟩;go_wp2_with fail
 clear dk0 dkv;generalize Wb.setCell ⟨F+1+1+1,0,none⟩ (.int .i64 3)=wK at HRK ⊢;refine(HN.out wK HRK.out.rdr).mono ?_;rintro r w4 ⟨rfl,ht4,hR4⟩;have HR4:=hide (HRK.out.move ht4 hR4);clear ht4 hR4 HRK HS1;have e1:=HR4.out.cells.d1;have e2:=HR4.out.cells.v1;simp only at e1;go_wp2_with fail
 have HRT:=hide (HR4.out.text ⟨#[58,61]⟩);simp only at HRT;clear e1 e2 HR4;generalize w4.setCell ⟨F+1+1+1,1,none⟩ (.string ⟨#[58,61]⟩)=wT at HRT ⊢;obtain⟨a0,a1,a2,a3,a4,a5,b0,b1,b2,b3,c0,c1,c2,c3,d0,d1,d2,d3,d4,d5,x0,x1,x2,x3,x4,x5,y0,y1,y2,y3,v0,v1⟩:=HRT.out.cells;go_wp2_with fail
 go_region
 go_wp2;exact acb HRT.out.fin.drew 0 rfl rfl rfl rfl ⟨HRT.out.fin.drew.tq,rfl,p2,HRT.out.fin.drew.rdr,HS2.out,HO2.out,hpos'⟩
set_option maxRecDepth 400000 in
theorem anb(w:World)(q:Nat)(s:ByteArray)(p e:Pl)(g:Gl)(gs:List Gl)(h:Rdr w q s p)(hm:s.size<=4096)(hQ:Snd s p (g::gs) e)(hok:p.ok)(h5:gcls g.code=5)(hc:g.code=8800):
  Calls Tryz.prog 116 #[.pointer (some ⟨q,0,none⟩)] w fun r w'=>Tq w w' q/\RtO w' q s e p r (.ok 3 (strOfNums [33,61]) gs):=by
 have hl:=aa5 hQ;have hg0:0<=(g.code:Int):=by omega
 have n1:((g.code:Int) == -1)=false:=beq_eq_false_iff_ne.2 (by omega);have HQ:=hide hQ;clear hQ;have q2:(gcls (g.code:Int)==2)=false:=by rw[h5];rfl
 have q3:(gcls (g.code:Int)==3)=false:=by rw[h5];rfl
 have q5:(gcls (g.code:Int)==5)=true:=by rw[h5];rfl
 obtain⟨t1,t2,t3,t4,t5,t6⟩:=HQ.out.tail;have HN:=hide (fun(W:World) (h:Rdr W q s p)=>ab3 W q s p h (by omega) t2 hok t4);have hd:=abf s p.b t2;have HO2:=hide (hok.past (Utf8.decode s p.b).1 (Utf8.decode s p.b).2 hd.1);have HS2:=hide t5;have hpos:(p.past (Utf8.decode s p.b).1 (Utf8.decode s p.b).2).b=p.b+(Utf8.decode s p.b).2:=rfl;generalize p.past (Utf8.decode s p.b).1 (Utf8.decode s p.b).2=p2 at HN HO2 HS2 hpos;have hpos':p2.b<=s.size:=by omega
 have m0:((g.code:Int)==8788)=false:=beq_eq_false_iff_ne.2 (by omega);have m1:((g.code:Int)==8800)=true:=by simp;omega
 clear hc;clear t1 t2 t3 t4 t5 t6 hd hpos h5 hok;have HS0:=hide (ab2 w q s p h);obtain⟨hq,k0,k1,k2,k3,k4,f1,f2,f3,f4⟩:=h.cells;clear h;go_enter Tryz.func116,Tryz.ntmps116
 go_wp2_with fail
 generalize ((((w.alloc (.cells #[.int .i64 0,.string ⟨#[]⟩,.int .i64 0,.int .i64 0,.int .i64 0,.int .i64 0] 109)).alloc (.cells #[.int .i64 0,.int .i64 0,.int .i64 0,.int .i64 0] 56)).alloc (.cells #[.int .i64 p.b,.int .i64 p.g,.int .i64 p.l,.int .i64 p.c] 56)).alloc (.cells #[.int .i64 0,.string ⟨#[]⟩,.int .i64 p.b,.int .i64 p.g,.int .i64 p.l,.int .i64 p.c] 109))=W0 at HS0 ⊢;clear k0 k1 k2 k3 k4 f1 f2 f3 f4 hq;generalize w.heap.size=F at HS0 ⊢;refine(aay W0 q s p HS0.out.rdr (by omega)).mono ?_;rintro r W1 ⟨rfl,hb1⟩;rw[hl];have HS1:=hide (HS0.out.below hb1);clear hb1 HS0 hl;have HRK:=hide (HS1.out.kind 3);have dk0:=HS1.out.cells.d0;have dkv:=HS1.out.cells.v0;go_wp2_with fail
 refine(aa7 _ _).mono ?_;rintro r Wb ⟨rfl,rfl⟩;go_wp2_with fail
 clear dk0 dkv;generalize Wb.setCell ⟨F+1+1+1,0,none⟩ (.int .i64 3)=wK at HRK ⊢;refine(HN.out wK HRK.out.rdr).mono ?_;rintro r w4 ⟨rfl,ht4,hR4⟩;have HR4:=hide (HRK.out.move ht4 hR4);clear ht4 hR4 HRK HS1;have e1:=HR4.out.cells.d1;have e2:=HR4.out.cells.v1;simp only at e1;go_wp2_with fail
 have HRT:=hide (HR4.out.text ⟨#[33,61]⟩);simp only at HRT;clear e1 e2 HR4;generalize w4.setCell ⟨F+1+1+1,1,none⟩ (.string ⟨#[33,61]⟩)=wT at HRT ⊢;obtain⟨a0,a1,a2,a3,a4,a5,b0,b1,b2,b3,c0,c1,c2,c3,d0,d1,d2,d3,d4,d5,x0,x1,x2,x3,x4,x5,y0,y1,y2,y3,v0,v1⟩:=HRT.out.cells;go_wp2_with fail
 go_region
 go_wp2;exact acb HRT.out.fin.drew 0 rfl rfl rfl rfl ⟨HRT.out.fin.drew.tq,rfl,p2,HRT.out.fin.drew.rdr,HS2.out,HO2.out,hpos'⟩
set_option maxRecDepth 400000 in
theorem alw(w:World)(q:Nat)(s:ByteArray)(p e:Pl)(g:Gl)(gs:List Gl)(h:Rdr w q s p)(hm:s.size<=4096)(hQ:Snd s p (g::gs) e)(hok:p.ok)(h5:gcls g.code=5)(hc:g.code=58)(hno:lookS s (p.past (Utf8.decode s p.b).1 (Utf8.decode s p.b).2)≠61):
  Calls Tryz.prog 116 #[.pointer (some ⟨q,0,none⟩)] w fun r w'=>Tq w w' q/\RtO w' q s e p r (.bad 41):=by
 have hl:=aa5 hQ;have hg0:0<=(g.code:Int):=by omega
 have n1:((g.code:Int) == -1)=false:=beq_eq_false_iff_ne.2 (by omega);have HQ:=hide hQ;clear hQ;have q2:(gcls (g.code:Int)==2)=false:=by rw[h5];rfl
 have q3:(gcls (g.code:Int)==3)=false:=by rw[h5];rfl
 have q5:(gcls (g.code:Int)==5)=true:=by rw[h5];rfl
 obtain⟨t1,t2,t3,t4,t5,t6⟩:=HQ.out.tail;have HN:=hide (fun(W:World) (h:Rdr W q s p)=>ab3 W q s p h (by omega) t2 hok t4);have hd:=abf s p.b t2;have HO2:=hide (hok.past (Utf8.decode s p.b).1 (Utf8.decode s p.b).2 hd.1);have HS2:=hide t5;have hpos:(p.past (Utf8.decode s p.b).1 (Utf8.decode s p.b).2).b=p.b+(Utf8.decode s p.b).2:=rfl;generalize p.past (Utf8.decode s p.b).1 (Utf8.decode s p.b).2=p2 at HN HO2 HS2 hpos hno;have hpos':p2.b<=s.size:=by omega
 have m0:((g.code:Int)==8788)=false:=beq_eq_false_iff_ne.2 (by omega);have m1:((g.code:Int)==8800)=false:=beq_eq_false_iff_ne.2 (by omega);have m2:((g.code:Int)==58)=true:=by simp;omega
 have m3:((g.code:Int)==33)=false:=beq_eq_false_iff_ne.2 (by omega);have hno0:=hno;clear hno hc;clear t1 t2 t3 t4 t5 t6 hd hpos h5 hok;have HS0:=hide (ab2 w q s p h);obtain⟨hq,k0,k1,k2,k3,k4,f1,f2,f3,f4⟩:=h.cells;clear h;go_enter Tryz.func116,Tryz.ntmps116
 go_wp2_with fail
 generalize ((((w.alloc (.cells #[.int .i64 0,.string ⟨#[]⟩,.int .i64 0,.int .i64 0,.int .i64 0,.int .i64 0] 109)).alloc (.cells #[.int .i64 0,.int .i64 0,.int .i64 0,.int .i64 0] 56)).alloc (.cells #[.int .i64 p.b,.int .i64 p.g,.int .i64 p.l,.int .i64 p.c] 56)).alloc (.cells #[.int .i64 0,.string ⟨#[]⟩,.int .i64 p.b,.int .i64 p.g,.int .i64 p.l,.int .i64 p.c] 109))=W0 at HS0 ⊢;clear k0 k1 k2 k3 k4 f1 f2 f3 f4 hq;generalize w.heap.size=F at HS0 ⊢;refine(aay W0 q s p HS0.out.rdr (by omega)).mono ?_;rintro r W1 ⟨rfl,hb1⟩;rw[hl];have HS1:=hide (HS0.out.below hb1);clear hb1 HS0 hl;have HRK:=hide (HS1.out.kind 3);have dk0:=HS1.out.cells.d0;have dkv:=HS1.out.cells.v0;go_wp2_with fail
 refine(aa7 _ _).mono ?_;rintro r Wb ⟨rfl,rfl⟩;go_wp2_with fail
 clear dk0 dkv;generalize Wb.setCell ⟨F+1+1+1,0,none⟩ (.int .i64 3)=wK at HRK ⊢;refine(HN.out wK HRK.out.rdr).mono ?_;rintro r w4 ⟨rfl,ht4,hR4⟩;have HR4:=hide (HRK.out.move ht4 hR4);clear ht4 hR4 HRK HS1;have e1:=HR4.out.cells.d1;have e2:=HR4.out.cells.v1;simp only at e1;go_wp2_with fail
 refine(aay w4 q s p2 HR4.out.rdr (by omega)).mono ?_;rintro r w5 ⟨rfl,hb5⟩;have HRT:=hide (HR4.out.below hb5);have hne:(lookS s p2 != 61)=true:=by simp[hno0]
 clear hb5 e1 e2 HR4 hno0;generalize lookS s p2=lk at hne ⊢;obtain⟨a0,a1,a2,a3,a4,a5,b0,b1,b2,b3,c0,c1,c2,c3,d0,d1,d2,d3,d4,d5,x0,x1,x2,x3,x4,x5,y0,y1,y2,y3,v0,v1⟩:=HRT.out.cells;go_wp2_with fail
 go_region
 go_wp2;exact acb HRT.out.fin.drew 41 rfl rfl rfl rfl ⟨HRT.out.fin.drew.tq,_,rfl⟩
set_option maxRecDepth 400000 in
theorem alx(w:World)(q:Nat)(s:ByteArray)(p e:Pl)(g:Gl)(gs:List Gl)(h:Rdr w q s p)(hm:s.size<=4096)(hQ:Snd s p (g::gs) e)(hok:p.ok)(h5:gcls g.code=5)(hc:g.code=58)(g2:Gl)(gs2:List Gl)(hgs:gs=g2::gs2)(h61:g2.code=61):
  Calls Tryz.prog 116 #[.pointer (some ⟨q,0,none⟩)] w fun r w'=>Tq w w' q/\RtO w' q s e p r (.ok 3 (strOfNums [58,61]) gs2):=by
 have hl:=aa5 hQ;have hg0:0<=(g.code:Int):=by omega
 have n1:((g.code:Int) == -1)=false:=beq_eq_false_iff_ne.2 (by omega);have HQ:=hide hQ;clear hQ;have q2:(gcls (g.code:Int)==2)=false:=by rw[h5];rfl
 have q3:(gcls (g.code:Int)==3)=false:=by rw[h5];rfl
 have q5:(gcls (g.code:Int)==5)=true:=by rw[h5];rfl
 obtain⟨t1,t2,t3,t4,t5,t6⟩:=HQ.out.tail;have HN:=hide (fun(W:World) (h:Rdr W q s p)=>ab3 W q s p h (by omega) t2 hok t4);have hd:=abf s p.b t2;have HO2:=hide (hok.past (Utf8.decode s p.b).1 (Utf8.decode s p.b).2 hd.1);have HS2:=hide t5;have hpos:(p.past (Utf8.decode s p.b).1 (Utf8.decode s p.b).2).b=p.b+(Utf8.decode s p.b).2:=rfl;generalize p.past (Utf8.decode s p.b).1 (Utf8.decode s p.b).2=p2 at HN HO2 HS2 hpos;have hpos':p2.b<=s.size:=by omega
 subst hgs;have m0:((g.code:Int)==8788)=false:=beq_eq_false_iff_ne.2 (by omega);have m1:((g.code:Int)==8800)=false:=beq_eq_false_iff_ne.2 (by omega);have m2:((g.code:Int)==58)=true:=by simp;omega
 have m3:((g.code:Int)==33)=false:=beq_eq_false_iff_ne.2 (by omega);clear hc;clear t1 t2 t3 t4 t5 t6 hd hpos h5 hok;have HS0:=hide (ab2 w q s p h);obtain⟨hq,k0,k1,k2,k3,k4,f1,f2,f3,f4⟩:=h.cells;clear h;go_enter Tryz.func116,Tryz.ntmps116
 go_wp2_with fail
 generalize ((((w.alloc (.cells #[.int .i64 0,.string ⟨#[]⟩,.int .i64 0,.int .i64 0,.int .i64 0,.int .i64 0] 109)).alloc (.cells #[.int .i64 0,.int .i64 0,.int .i64 0,.int .i64 0] 56)).alloc (.cells #[.int .i64 p.b,.int .i64 p.g,.int .i64 p.l,.int .i64 p.c] 56)).alloc (.cells #[.int .i64 0,.string ⟨#[]⟩,.int .i64 p.b,.int .i64 p.g,.int .i64 p.l,.int .i64 p.c] 109))=W0 at HS0 ⊢;clear k0 k1 k2 k3 k4 f1 f2 f3 f4 hq;generalize w.heap.size=F at HS0 ⊢;refine(aay W0 q s p HS0.out.rdr (by omega)).mono ?_;rintro r W1 ⟨rfl,hb1⟩;rw[hl];have HS1:=hide (HS0.out.below hb1);clear hb1 HS0 hl;have HRK:=hide (HS1.out.kind 3);have dk0:=HS1.out.cells.d0;have dkv:=HS1.out.cells.v0;go_wp2_with fail
 refine(aa7 _ _).mono ?_;rintro r Wb ⟨rfl,rfl⟩;go_wp2_with fail
 clear dk0 dkv;generalize Wb.setCell ⟨F+1+1+1,0,none⟩ (.int .i64 3)=wK at HRK ⊢;refine(HN.out wK HRK.out.rdr).mono ?_;rintro r w4 ⟨rfl,ht4,hR4⟩;have HR4:=hide (HRK.out.move ht4 hR4);clear ht4 hR4 HRK HS1;have e1:=HR4.out.cells.d1;have e2:=HR4.out.cells.v1;simp only at e1;have hl2:=aa5 HS2.out;obtain⟨t1,t2,t3,t4,t5,t6⟩:=HS2.out.tail;have HN2:=hide (fun(W:World) (h:Rdr W q s p2)=>ab3 W q s p2 h (by omega) t2 HO2.out t4);have hd:=abf s p2.b t2;have HO3:=hide (HO2.out.past (Utf8.decode s p2.b).1 (Utf8.decode s p2.b).2 hd.1);have HS3:=hide t5;have hpos:(p2.past (Utf8.decode s p2.b).1 (Utf8.decode s p2.b).2).b=p2.b+(Utf8.decode s p2.b).2:=rfl;generalize p2.past (Utf8.decode s p2.b).1 (Utf8.decode s p2.b).2=p3 at HN2 HO3 HS3 hpos;have hpos3:p3.b<=s.size:=by omega
 have hne:((g2.code:Int) != 61)=false:=by rw[h61];rfl
 clear t1 t2 t3 t4 t5 t6 hd hpos;go_wp2_with fail
 refine(aay w4 q s p2 HR4.out.rdr (by omega)).mono ?_;rintro r w5 ⟨rfl,hb5⟩;rw[hl2];have HR5:=hide (HR4.out.below hb5);clear hb5 e1 e2 HR4 hl2;go_wp2_with fail
 refine(HN2.out w5 HR5.out.rdr).mono ?_;rintro r w6 ⟨rfl,ht6,hR6⟩;have HR6:=hide (HR5.out.move ht6 hR6);clear ht6 hR6 HR5;have e1:=HR6.out.cells.d1;have e2:=HR6.out.cells.v1;simp only at e1;go_wp2_with fail
 have HRT:=hide (HR6.out.text ⟨#[58,61]⟩);simp only at HRT;clear e1 e2 HR6;generalize w6.setCell ⟨F+1+1+1,1,none⟩ (.string ⟨#[58,61]⟩)=wT at HRT ⊢;obtain⟨a0,a1,a2,a3,a4,a5,b0,b1,b2,b3,c0,c1,c2,c3,d0,d1,d2,d3,d4,d5,x0,x1,x2,x3,x4,x5,y0,y1,y2,y3,v0,v1⟩:=HRT.out.cells;go_wp2_with fail
 go_region
 go_wp2;exact acb HRT.out.fin.drew 0 rfl rfl rfl rfl ⟨HRT.out.fin.drew.tq,rfl,p3,HRT.out.fin.drew.rdr,HS3.out,HO3.out,hpos3⟩
set_option maxRecDepth 400000 in
theorem aly(w:World)(q:Nat)(s:ByteArray)(p e:Pl)(g:Gl)(gs:List Gl)(h:Rdr w q s p)(hm:s.size<=4096)(hQ:Snd s p (g::gs) e)(hok:p.ok)(h5:gcls g.code=5)(hc:g.code=33)(hno:lookS s (p.past (Utf8.decode s p.b).1 (Utf8.decode s p.b).2)≠61):
  Calls Tryz.prog 116 #[.pointer (some ⟨q,0,none⟩)] w fun r w'=>Tq w w' q/\RtO w' q s e p r (.bad 41):=by
 have hl:=aa5 hQ;have hg0:0<=(g.code:Int):=by omega
 have n1:((g.code:Int) == -1)=false:=beq_eq_false_iff_ne.2 (by omega);have HQ:=hide hQ;clear hQ;have q2:(gcls (g.code:Int)==2)=false:=by rw[h5];rfl
 have q3:(gcls (g.code:Int)==3)=false:=by rw[h5];rfl
 have q5:(gcls (g.code:Int)==5)=true:=by rw[h5];rfl
 obtain⟨t1,t2,t3,t4,t5,t6⟩:=HQ.out.tail;have HN:=hide (fun(W:World) (h:Rdr W q s p)=>ab3 W q s p h (by omega) t2 hok t4);have hd:=abf s p.b t2;have HO2:=hide (hok.past (Utf8.decode s p.b).1 (Utf8.decode s p.b).2 hd.1);have HS2:=hide t5;have hpos:(p.past (Utf8.decode s p.b).1 (Utf8.decode s p.b).2).b=p.b+(Utf8.decode s p.b).2:=rfl;generalize p.past (Utf8.decode s p.b).1 (Utf8.decode s p.b).2=p2 at HN HO2 HS2 hpos hno;have hpos':p2.b<=s.size:=by omega
 have m0:((g.code:Int)==8788)=false:=beq_eq_false_iff_ne.2 (by omega);have m1:((g.code:Int)==8800)=false:=beq_eq_false_iff_ne.2 (by omega);have m2:((g.code:Int)==58)=false:=beq_eq_false_iff_ne.2 (by omega);have m3:((g.code:Int)==33)=true:=by simp;omega
 have hno0:=hno;clear hno hc;clear t1 t2 t3 t4 t5 t6 hd hpos h5 hok;have HS0:=hide (ab2 w q s p h);obtain⟨hq,k0,k1,k2,k3,k4,f1,f2,f3,f4⟩:=h.cells;clear h;go_enter Tryz.func116,Tryz.ntmps116
 go_wp2_with fail
 generalize ((((w.alloc (.cells #[.int .i64 0,.string ⟨#[]⟩,.int .i64 0,.int .i64 0,.int .i64 0,.int .i64 0] 109)).alloc (.cells #[.int .i64 0,.int .i64 0,.int .i64 0,.int .i64 0] 56)).alloc (.cells #[.int .i64 p.b,.int .i64 p.g,.int .i64 p.l,.int .i64 p.c] 56)).alloc (.cells #[.int .i64 0,.string ⟨#[]⟩,.int .i64 p.b,.int .i64 p.g,.int .i64 p.l,.int .i64 p.c] 109))=W0 at HS0 ⊢;clear k0 k1 k2 k3 k4 f1 f2 f3 f4 hq;generalize w.heap.size=F at HS0 ⊢;refine(aay W0 q s p HS0.out.rdr (by omega)).mono ?_;rintro r W1 ⟨rfl,hb1⟩;rw[hl];have HS1:=hide (HS0.out.below hb1);clear hb1 HS0 hl;have HRK:=hide (HS1.out.kind 3);have dk0:=HS1.out.cells.d0;have dkv:=HS1.out.cells.v0;go_wp2_with fail
 refine(aa7 _ _).mono ?_;rintro r Wb ⟨rfl,rfl⟩;go_wp2_with fail
 clear dk0 dkv;generalize Wb.setCell ⟨F+1+1+1,0,none⟩ (.int .i64 3)=wK at HRK ⊢;refine(HN.out wK HRK.out.rdr).mono ?_;rintro r w4 ⟨rfl,ht4,hR4⟩;have HR4:=hide (HRK.out.move ht4 hR4);clear ht4 hR4 HRK HS1;have e1:=HR4.out.cells.d1;have e2:=HR4.out.cells.v1;simp only at e1;go_wp2_with fail
 refine(aay w4 q s p2 HR4.out.rdr (by omega)).mono ?_;rintro r w5 ⟨rfl,hb5⟩;have HRT:=hide (HR4.out.below hb5);have hne:(lookS s p2 != 61)=true:=by simp[hno0]
 clear hb5 e1 e2 HR4 hno0;generalize lookS s p2=lk at hne ⊢;obtain⟨a0,a1,a2,a3,a4,a5,b0,b1,b2,b3,c0,c1,c2,c3,d0,d1,d2,d3,d4,d5,x0,x1,x2,x3,x4,x5,y0,y1,y2,y3,v0,v1⟩:=HRT.out.cells;go_wp2_with fail
 go_region
 go_wp2;exact acb HRT.out.fin.drew 41 rfl rfl rfl rfl ⟨HRT.out.fin.drew.tq,_,rfl⟩
set_option maxRecDepth 400000 in
theorem alz(w:World)(q:Nat)(s:ByteArray)(p e:Pl)(g:Gl)(gs:List Gl)(h:Rdr w q s p)(hm:s.size<=4096)(hQ:Snd s p (g::gs) e)(hok:p.ok)(h5:gcls g.code=5)(hc:g.code=33)(g2:Gl)(gs2:List Gl)(hgs:gs=g2::gs2)(h61:g2.code=61):
  Calls Tryz.prog 116 #[.pointer (some ⟨q,0,none⟩)] w fun r w'=>Tq w w' q/\RtO w' q s e p r (.ok 3 (strOfNums [33,61]) gs2):=by
 have hl:=aa5 hQ;have hg0:0<=(g.code:Int):=by omega
 have n1:((g.code:Int) == -1)=false:=beq_eq_false_iff_ne.2 (by omega);have HQ:=hide hQ;clear hQ;have q2:(gcls (g.code:Int)==2)=false:=by rw[h5];rfl
 have q3:(gcls (g.code:Int)==3)=false:=by rw[h5];rfl
 have q5:(gcls (g.code:Int)==5)=true:=by rw[h5];rfl
 obtain⟨t1,t2,t3,t4,t5,t6⟩:=HQ.out.tail;have HN:=hide (fun(W:World) (h:Rdr W q s p)=>ab3 W q s p h (by omega) t2 hok t4);have hd:=abf s p.b t2;have HO2:=hide (hok.past (Utf8.decode s p.b).1 (Utf8.decode s p.b).2 hd.1);have HS2:=hide t5;have hpos:(p.past (Utf8.decode s p.b).1 (Utf8.decode s p.b).2).b=p.b+(Utf8.decode s p.b).2:=rfl;generalize p.past (Utf8.decode s p.b).1 (Utf8.decode s p.b).2=p2 at HN HO2 HS2 hpos;have hpos':p2.b<=s.size:=by omega
 subst hgs;have m0:((g.code:Int)==8788)=false:=beq_eq_false_iff_ne.2 (by omega);have m1:((g.code:Int)==8800)=false:=beq_eq_false_iff_ne.2 (by omega);have m2:((g.code:Int)==58)=false:=beq_eq_false_iff_ne.2 (by omega);have m3:((g.code:Int)==33)=true:=by simp;omega
 clear hc;clear t1 t2 t3 t4 t5 t6 hd hpos h5 hok;have HS0:=hide (ab2 w q s p h);obtain⟨hq,k0,k1,k2,k3,k4,f1,f2,f3,f4⟩:=h.cells;clear h;go_enter Tryz.func116,Tryz.ntmps116
 go_wp2_with fail
 generalize ((((w.alloc (.cells #[.int .i64 0,.string ⟨#[]⟩,.int .i64 0,.int .i64 0,.int .i64 0,.int .i64 0] 109)).alloc (.cells #[.int .i64 0,.int .i64 0,.int .i64 0,.int .i64 0] 56)).alloc (.cells #[.int .i64 p.b,.int .i64 p.g,.int .i64 p.l,.int .i64 p.c] 56)).alloc (.cells #[.int .i64 0,.string ⟨#[]⟩,.int .i64 p.b,.int .i64 p.g,.int .i64 p.l,.int .i64 p.c] 109))=W0 at HS0 ⊢;clear k0 k1 k2 k3 k4 f1 f2 f3 f4 hq;generalize w.heap.size=F at HS0 ⊢;refine(aay W0 q s p HS0.out.rdr (by omega)).mono ?_;rintro r W1 ⟨rfl,hb1⟩;rw[hl];have HS1:=hide (HS0.out.below hb1);clear hb1 HS0 hl;have HRK:=hide (HS1.out.kind 3);have dk0:=HS1.out.cells.d0;have dkv:=HS1.out.cells.v0;go_wp2_with fail
 refine(aa7 _ _).mono ?_;rintro r Wb ⟨rfl,rfl⟩;go_wp2_with fail
 clear dk0 dkv;generalize Wb.setCell ⟨F+1+1+1,0,none⟩ (.int .i64 3)=wK at HRK ⊢;refine(HN.out wK HRK.out.rdr).mono ?_;rintro r w4 ⟨rfl,ht4,hR4⟩;have HR4:=hide (HRK.out.move ht4 hR4);clear ht4 hR4 HRK HS1;have e1:=HR4.out.cells.d1;have e2:=HR4.out.cells.v1;simp only at e1;have hl2:=aa5 HS2.out;obtain⟨t1,t2,t3,t4,t5,t6⟩:=HS2.out.tail;have HN2:=hide (fun(W:World) (h:Rdr W q s p2)=>ab3 W q s p2 h (by omega) t2 HO2.out t4);have hd:=abf s p2.b t2;have HO3:=hide (HO2.out.past (Utf8.decode s p2.b).1 (Utf8.decode s p2.b).2 hd.1);have HS3:=hide t5;have hpos:(p2.past (Utf8.decode s p2.b).1 (Utf8.decode s p2.b).2).b=p2.b+(Utf8.decode s p2.b).2:=rfl;generalize p2.past (Utf8.decode s p2.b).1 (Utf8.decode s p2.b).2=p3 at HN2 HO3 HS3 hpos;have hpos3:p3.b<=s.size:=by omega
 have hne:((g2.code:Int) != 61)=false:=by rw[h61];rfl
 clear t1 t2 t3 t4 t5 t6 hd hpos;go_wp2_with fail
 refine(aay w4 q s p2 HR4.out.rdr (by omega)).mono ?_;rintro r w5 ⟨rfl,hb5⟩;rw[hl2];have HR5:=hide (HR4.out.below hb5);clear hb5 e1 e2 HR4 hl2;go_wp2_with fail
 refine(HN2.out w5 HR5.out.rdr).mono ?_;rintro r w6 ⟨rfl,ht6,hR6⟩;have HR6:=hide (HR5.out.move ht6 hR6);clear ht6 hR6 HR5;have e1:=HR6.out.cells.d1;have e2:=HR6.out.cells.v1;simp only at e1;go_wp2_with fail
 have HRT:=hide ((HR6.out.text ⟨#[58,61]⟩).text ⟨#[33,61]⟩);simp only at HRT;clear e1 e2 HR6;generalize (w6.setCell ⟨F+1+1+1,1,none⟩ (.string ⟨#[58,61]⟩)).setCell ⟨F+1+1+1,1,none⟩ (.string ⟨#[33,61]⟩)=wT at HRT ⊢;obtain⟨a0,a1,a2,a3,a4,a5,b0,b1,b2,b3,c0,c1,c2,c3,d0,d1,d2,d3,d4,d5,x0,x1,x2,x3,x4,x5,y0,y1,y2,y3,v0,v1⟩:=HRT.out.cells;go_wp2_with fail
 go_region
 go_wp2;exact acb HRT.out.fin.drew 0 rfl rfl rfl rfl ⟨HRT.out.fin.drew.tq,rfl,p3,HRT.out.fin.drew.rdr,HS3.out,HO3.out,hpos3⟩
set_option maxRecDepth 400000 in
theorem aqt(w:World)(q:Nat)(s:ByteArray)(p e:Pl)(g:Gl)(gs:List Gl)(h:Rdr w q s p)(hm:s.size<=4096)(hQ:Snd s p (g::gs) e)(hok:p.ok)(h5:gcls g.code=5)(hc:g.code≠8788/\g.code≠8800/\g.code≠58/\g.code≠33)(d:Nat)(hd0:gfold g.code=(d:Int))(hd1:d<128):
  Calls Tryz.prog 116 #[.pointer (some ⟨q,0,none⟩)] w fun r w'=>Tq w w' q/\RtO w' q s e p r (.ok 3 (strOfNums [(d:Int)]) gs):=by
 have hl:=aa5 hQ;have hg0:0<=(g.code:Int):=by omega
 have n1:((g.code:Int) == -1)=false:=beq_eq_false_iff_ne.2 (by omega);have HQ:=hide hQ;clear hQ;have q2:(gcls (g.code:Int)==2)=false:=by rw[h5];rfl
 have q3:(gcls (g.code:Int)==3)=false:=by rw[h5];rfl
 have q5:(gcls (g.code:Int)==5)=true:=by rw[h5];rfl
 obtain⟨t1,t2,t3,t4,t5,t6⟩:=HQ.out.tail;have HN:=hide (fun(W:World) (h:Rdr W q s p)=>ab3 W q s p h (by omega) t2 hok t4);have hd:=abf s p.b t2;have HO2:=hide (hok.past (Utf8.decode s p.b).1 (Utf8.decode s p.b).2 hd.1);have HS2:=hide t5;have hpos:(p.past (Utf8.decode s p.b).1 (Utf8.decode s p.b).2).b=p.b+(Utf8.decode s p.b).2:=rfl;generalize p.past (Utf8.decode s p.b).1 (Utf8.decode s p.b).2=p2 at HN HO2 HS2 hpos;have hpos':p2.b<=s.size:=by omega
 have m0:((g.code:Int)==8788)=false:=beq_eq_false_iff_ne.2 (by omega);have m1:((g.code:Int)==8800)=false:=beq_eq_false_iff_ne.2 (by omega);have m2:((g.code:Int)==58)=false:=beq_eq_false_iff_ne.2 (by omega);have m3:((g.code:Int)==33)=false:=beq_eq_false_iff_ne.2 (by omega);clear hc;have HD0:=hide hd0;clear hd0;clear t1 t2 t3 t4 t5 t6 hd hpos h5 hok;have HS0:=hide (ab2 w q s p h);obtain⟨hq,k0,k1,k2,k3,k4,f1,f2,f3,f4⟩:=h.cells;clear h;go_enter Tryz.func116,Tryz.ntmps116
 go_wp2_with fail
 generalize ((((w.alloc (.cells #[.int .i64 0,.string ⟨#[]⟩,.int .i64 0,.int .i64 0,.int .i64 0,.int .i64 0] 109)).alloc (.cells #[.int .i64 0,.int .i64 0,.int .i64 0,.int .i64 0] 56)).alloc (.cells #[.int .i64 p.b,.int .i64 p.g,.int .i64 p.l,.int .i64 p.c] 56)).alloc (.cells #[.int .i64 0,.string ⟨#[]⟩,.int .i64 p.b,.int .i64 p.g,.int .i64 p.l,.int .i64 p.c] 109))=W0 at HS0 ⊢;clear k0 k1 k2 k3 k4 f1 f2 f3 f4 hq;generalize w.heap.size=F at HS0 ⊢;refine(aay W0 q s p HS0.out.rdr (by omega)).mono ?_;rintro r W1 ⟨rfl,hb1⟩;rw[hl];have HS1:=hide (HS0.out.below hb1);clear hb1 HS0 hl;have HRK:=hide (HS1.out.kind 3);have dk0:=HS1.out.cells.d0;have dkv:=HS1.out.cells.v0;go_wp2_with fail
 refine(aa7 _ _).mono ?_;rintro r Wb ⟨rfl,rfl⟩;go_wp2_with fail
 clear dk0 dkv;generalize Wb.setCell ⟨F+1+1+1,0,none⟩ (.int .i64 3)=wK at HRK ⊢;refine(HN.out wK HRK.out.rdr).mono ?_;rintro r w4 ⟨rfl,ht4,hR4⟩;have HR4:=hide (HRK.out.move ht4 hR4);clear ht4 hR4 HRK HS1;have e1:=HR4.out.cells.d1;have e2:=HR4.out.cells.v1;simp only at e1;go_wp2_with fail
 refine(as1 _ _).mono ?_;rintro r w5 ⟨rfl,rfl⟩;rw[HD0.out];have hr:=bys w5 [d.toUInt8] 1 rfl #[.int .u8 (d:Int)] (by simp only[List.map,List.toArray];rw[Nat.toUInt8,UInt8.toNat_ofNat',Nat.mod_eq_of_lt (by omega)]);have HR5:=hide (HR4.out.below ((Below.refl _ _).alloc (Nat.le_refl _) (.cells #[.int .u8 (d:Int)] 5)));have e3:=HR5.out.cells.d1;have e4:=HR5.out.cells.v1;simp only at e3;go_wp2_with fail
 have HRT:=hide (HR5.out.text ⟨#[d.toUInt8]⟩);simp only at HRT;clear e1 e2 e3 e4 HR4 HR5 hr;generalize (w5.alloc (.cells #[.int .u8 (d:Int)] 5)).setCell ⟨F+1+1+1,1,none⟩ (.string ⟨#[d.toUInt8]⟩)=wT at HRT ⊢;obtain⟨a0,a1,a2,a3,a4,a5,b0,b1,b2,b3,c0,c1,c2,c3,d0,d1,d2,d3,d4,d5,x0,x1,x2,x3,x4,x5,y0,y1,y2,y3,v0,v1⟩:=HRT.out.cells;go_wp2_with fail
 go_region
 go_wp2;exact acb HRT.out.fin.drew 0 rfl rfl rfl rfl ⟨HRT.out.fin.drew.tq,rfl,p2,HRT.out.fin.drew.rdr,HS2.out,HO2.out,hpos'⟩
def skc:Bool->List Nat->List Nat
 |_,[]=>[]
 |true,c::cs=>skc (decide (c≠10)) cs
 |false,c::cs=>if gcls c=6 then skc true cs else if gcls c=1 then skc false cs else c::cs
def inK(ks:List Int)(c:Nat):Bool:=decide (gcls c∈ks)
def bts(l:List UInt8):ByteArray:=⟨l.toArray⟩
def Stop(ks:List Int)(r:List Nat):Prop:=∀c t,r=c::t->inK ks c=false
inductive TokC:List Nat->Int->ByteArray->List Nat->Prop
 |name (c:Nat) (u r:List Nat) (hc:gcls c=2) (hu:∀d∈c::u,inK [2,3,4] d=true) (hr:Stop [2,3,4] r) (hl:(c::u).length<=16):TokC ((c::u)++r) 1 (bts (encs (c::u))) r
 |num (c:Nat) (u r:List Nat) (n:Nat) (ds:List Int) (hu:∀d∈c::u,inK [3] d=true) (hr:Stop [3] r) (hn:IsLen (dval (bytesOf (bts (encs (c::u))))) n) (hl:n<=32) (hd:IsDec ds (dval (bytesOf (bts (encs (c::u)))))):TokC ((c::u)++r) 2 (strOfNums ds) r
 |two (c:Nat) (x:Int) (r:List Nat) (h:(c=8788/\x=58)\/(c=8800/\x=33)):TokC ([c]++r) 3 (strOfNums [x,61]) r
 |pair (c:Nat) (r:List Nat) (h:c=58\/c=33):TokC ([c,61]++r) 3 (strOfNums [(c:Int),61]) r
 |sign (c:Nat) (r:List Nat) (hc:gcls c=5) (h:c≠8788/\c≠8800/\c≠58/\c≠33):TokC ([c]++r) 3 (strOfNums [gfold c]) r
inductive ScanC:List Nat->List (Int×ByteArray)->Prop
 |done (r:List Nat) (h:skc false r = []):ScanC r [(0,⟨#[]⟩)]
 |tok (r:List Nat) (k:Int) (x:ByteArray) (rest:List Nat) (ts:List (Int×ByteArray)) (h:TokC (skc false r) k x rest) (hr:ScanC rest ts):ScanC r ((k,x)::ts)
theorem aeh(p:Pl)(a b:List Nat):adv p (a++b)=adv (adv p a) b:=by
 induction a generalizing p with
 |nil=>rfl
 |cons c a ih=>simp only[List.cons_append,adv,ih]
theorem ac8(a b:List Nat):encs (a++b)=encs a++encs b:=by
 induction a with
 |nil=>rfl
 |cons c a ih=>simp only[List.cons_append,encs,ih,List.append_assoc]
theorem aoi(p:Pl)(cs:List Nat):plf (glf p cs) (adv p cs)=p:=by
 cases cs <;> rfl
theorem ajj(b:Bool)(p:Pl)(cs:List Nat):∃a,cs=a++skc b cs/\skp b (glf p cs)=glf (adv p a) (skc b cs):=by
 induction cs generalizing b p with
 |nil=>exact⟨[],by cases b <;> rfl,by cases b <;> rfl⟩
 |cons c cs ih=>
  cases b with
  |true=>
   obtain⟨a,h1,h2⟩:=ih (decide (c≠10)) (p.past c (encL c).length);refine⟨c::a,?_,?_⟩
   ·rw[skc,List.cons_append,<-h1]
   ·simp only[glf,skp,skc];rw[h2];rfl
  |false=>
   by_cases h6:gcls c=6
   ·obtain⟨a,h1,h2⟩:=ih true (p.past c (encL c).length);refine⟨c::a,?_,?_⟩
    ·rw[skc,if_pos h6,List.cons_append,<-h1]
    ·simp only[glf,skp,skc];rw[if_pos h6,if_pos h6,h2];rfl
   ·by_cases h1c:gcls c=1
    ·obtain⟨a,h1,h2⟩:=ih false (p.past c (encL c).length);refine⟨c::a,?_,?_⟩
     ·rw[skc,if_neg h6,if_pos h1c,List.cons_append,<-h1]
     ·simp only[glf,skp,skc];rw[if_neg h6,if_pos h1c,if_neg h6,if_pos h1c,h2];rfl
    ·refine⟨[],?_,?_⟩
     ·rw[skc,if_neg h6,if_neg h1c];rfl
     ·simp only[glf,skp,skc];rw[if_neg h6,if_neg h1c,if_neg h6,if_neg h1c];rfl
theorem af6(ks:List Int)(p:Pl)(cs:List Nat):∃u r,cs=u++r/\(glf p cs).dropWhile (inC ks)=glf (adv p u) r/\(∀d∈u,inK ks d=true)/\Stop ks r:=by
 induction cs generalizing p with
 |nil=>exact⟨[],[],rfl,rfl,by simp,by intro c t h;cases h⟩
 |cons c cs ih=>
  by_cases hc:inK ks c=true
  ·obtain⟨u,r,h1,h2,h3,h4⟩:=ih (p.past c (encL c).length);refine⟨c::u,r,by rw[List.cons_append,<-h1],?_,?_,h4⟩
   ·rw[glf,List.dropWhile_cons_of_pos (show inC ks ⟨c,p⟩=true from hc),h2];rfl
   ·intro d hd;rcases List.mem_cons.1 hd with rfl|hd
    ·exact hc
    ·exact h3 d hd
  ·refine⟨[],c::cs,rfl,?_,by simp,?_⟩
   ·rw[glf,List.dropWhile_cons_of_neg (show ¬inC ks ⟨c,p⟩=true from hc)];rfl
   ·intro d t h;obtain⟨rfl,rfl⟩:=List.cons.inj h;simpa using hc
theorem ago(s:ByteArray)(L:List UInt8)(u r:List Nat)(p:Pl)(hp:p.b=L.length)(h:s.data.toList=L++encs (u++r)):s.extract p.b (adv p u).b=bts (encs u):=by
 have hd:(s.extract p.b (adv p u).b).data.toList=encs u:=by
  rw[ByteArray.data_extract,Array.toList_extract,List.extract_eq_take_drop,h,ac8,aqf,hp,List.drop_left,show L.length+(encs u).length-L.length=(encs u).length from by omega,List.take_left]
 cases hx:s.extract p.b (adv p u).b with
 |mk d=>
  rw[hx]at hd;unfold bts;rw[<-hd]
theorem ahi{c:Nat}(h1:c≠8788)(h2:c≠8800):gfold c≠8788/\gfold c≠8800:=by
 unfold gfold
 repeat' split
 all_goals omega
theorem al0{c:Nat}: gfold c=58↔c=58:=by
 unfold gfold
 repeat' split
 all_goals omega
theorem al1{c:Nat}: gfold c=33↔c=33:=by
 unfold gfold
 repeat' split
 all_goals omega
theorem a0c(s:ByteArray)(L:List UInt8)(c:Nat)(t:List Nat)(p:Pl)(hp:p.b=L.length)(h:s.data.toList=L++encs (c::t))(k:Int)(x:ByteArray)(rest:List Gl)
  (hT:TokR s (adv p (c::t)) ⟨c,p⟩ (glf (p.past c (encL c).length) t) (.ok k x rest)):∃v r,c::t=v++r/\rest=glf (adv p v) r/\TokC (c::t) k x r:=by
 unfold TokR at hT;have hgl:(⟨c,p⟩:Gl)::glf (p.past c (encL c).length) t=glf p (c::t):=rfl;rw[hgl]at hT;simp only at hT;by_cases c2:gcls c=2
 ·rw[if_pos c2]at hT;obtain⟨u,r,h1,h2,h3,h4⟩:=af6 [2,3,4] p (c::t);have hcu:∃u',u=c::u':=by
   cases u with
   |nil=>
    have:=h4 c t (by simpa using h1.symm);simp[inK,c2]at this
   |cons d u'=>
    obtain⟨rfl,_⟩:=List.cons.inj h1;exact⟨u',rfl⟩
  obtain⟨u',rfl⟩:=hcu;rw[h2]at hT;by_cases h16:16<(glf p (c::t)).length-(glf (adv p (c::u')) r).length
  ·rw[if_pos h16]at hT;cases hT
  ·rw[if_neg h16]at hT;injection hT with e1 e2 e3;subst e1 e3;rw[aob,aob]at h16;have hpe:plf (glf (adv p (c::u')) r) (adv p (c::t))=adv p (c::u'):=by rw[h1,aeh,aoi]
   rw[hpe,ago s L (c::u') r p hp (by rw[h,h1])]at e2;refine⟨c::u',r,h1,rfl,?_⟩;rw[e2,h1];refine .name c u' r c2 h3 h4 ?_;rw[h1,List.length_append]at h16;omega
 ·rw[if_neg c2]at hT;by_cases c3:gcls c=3
  ·rw[if_pos c3]at hT;obtain⟨n,ds,hn,hd,hT⟩:=hT;obtain⟨u,r,h1,h2,h3,h4⟩:=af6 [3] p (c::t);have hcu:∃u',u=c::u':=by
    cases u with
    |nil=>
     have:=h4 c t (by simpa using h1.symm);simp[inK,c3]at this
    |cons d u'=>
     obtain⟨rfl,_⟩:=List.cons.inj h1;exact⟨u',rfl⟩
   obtain⟨u',rfl⟩:=hcu;have hpe:plf (glf (adv p (c::u')) r) (adv p (c::t))=adv p (c::u'):=by rw[h1,aeh,aoi]
   rw[h2,hpe,ago s L (c::u') r p hp (by rw[h,h1])]at hn hd;rw[h2]at hT;by_cases h32:32<n
   ·rw[if_pos h32]at hT;cases hT
   ·rw[if_neg h32]at hT;injection hT with e1 e2 e3;subst e1 e3;refine⟨c::u',r,h1,rfl,?_⟩;rw[e2,h1];exact .num c u' r n ds h3 h4 hn (by omega) hd
  ·rw[if_neg c3]at hT;by_cases c5:gcls c=5
   ·rw[if_pos c5]at hT;unfold signS at hT;by_cases a1:gfold c=8788
    ·rw[if_pos a1]at hT;injection hT with e1 e2 e3;subst e1 e2 e3;have hc:c=8788:=by
      unfold gfold at a1
      repeat' split at a1
      all_goals omega
     exact⟨[c],t,rfl,rfl,.two c 58 t (.inl ⟨hc,rfl⟩)⟩
    rw[if_neg a1]at hT;by_cases a2:gfold c=8800
    ·rw[if_pos a2]at hT;injection hT with e1 e2 e3;subst e1 e2 e3;have hc:c=8800:=by
      unfold gfold at a2
      repeat' split at a2
      all_goals omega
     exact⟨[c],t,rfl,rfl,.two c 33 t (.inr ⟨hc,rfl⟩)⟩
    rw[if_neg a2]at hT;by_cases a3:gfold c=58\/gfold c=33
    ·rw[if_pos a3]at hT;cases t with
     |nil=>cases hT
     |cons d t=>
      simp only[glf]at hT;by_cases hd:d=61
      ·rw[if_pos hd]at hT;injection hT with e1 e2 e3;subst e1 e2 e3 hd;have hc:c=58\/c=33:=by
        rcases a3 with a|a
        ·exact .inl (al0.1 a)
        ·exact .inr (al1.1 a)
       have hg:gfold c=(c:Int):=by rcases hc with rfl|rfl <;> rfl
       rw[hg];exact⟨[c,61],t,rfl,rfl,.pair c t hc⟩
      ·rw[if_neg hd]at hT;cases hT
    ·rw[if_neg a3]at hT;injection hT with e1 e2 e3;subst e1 e2 e3;refine⟨[c],t,rfl,rfl,.sign c t c5 ⟨?_,?_,?_,?_⟩⟩
     ·rintro rfl;exact a1 rfl
     ·rintro rfl;exact a2 rfl
     ·rintro rfl;exact a3 (.inl rfl)
     ·rintro rfl;exact a3 (.inr rfl)
   ·rw[if_neg c5]at hT;cases hT
theorem ayk(s:ByteArray)(cs:List Nat)(L:List UInt8)(p:Pl)(hp:p.b=L.length)(h:s.data.toList=L++encs cs)(l:List Tk)(hR:ScanR s (adv p cs) (glf p cs) (.ok l)):ScanC cs (l.map fun t=>(t.kind,t.text)):=by
 generalize hg:glf p cs=gs at hR;generalize he:adv p cs=e at hR;generalize ho:SO.ok l=o at hR;induction hR generalizing cs L p l with
 |done r h1 hb=>
  cases ho
  subst hg;obtain⟨a,h2,h3⟩:=ajj false p cs;rw[h1]at h3;refine .done cs ?_;cases hx:skc false cs with
  |nil=>rfl
  |cons c t=>rw[hx]at h3;cases h3
 |rune r h1 hb=>cases ho
 |bad r g t k h1 ht=>cases ho
 |tok r g t kind text rest o h1 ht hr ih=>
  subst hg he;cases o with
  |bad k p=>cases ho
  |ok l'=>
   simp only[SO.pre,SO.ok.injEq]at ho;subst ho;obtain⟨a,h2,h3⟩:=ajj false p cs;rw[h1]at h3;cases hx:skc false cs with
   |nil=>rw[hx]at h3;cases h3
   |cons c t'=>
    rw[hx]at h3 h2;simp only[glf]at h3;obtain⟨rfl,rfl⟩:=List.cons.inj h3;have hpa:(adv p a).b=(L++encs a).length:=by rw[aqf,hp,List.length_append]
    have hsa:s.data.toList=(L++encs a)++encs (c::t'):=by rw[h,List.append_assoc,<-ac8,<-h2]
    have hea:adv p cs=adv (adv p a) (c::t'):=by rw[<-aeh,<-h2]
    rw[hea]at ht;obtain⟨v,r,h4,rfl,h6⟩:=a0c s _ c t' _ hpa hsa _ _ _ ht;refine .tok cs _ _ r _ (by rw[hx];exact h6) ?_;exact ih r ((L++encs a)++encs v) (adv (adv p a) v) (by rw[aqf,hpa,<-List.length_append]) (by rw[hsa,h4,ac8,List.append_assoc,List.append_assoc,List.append_assoc]) l' rfl (by rw[hea,h4,aeh]) rfl
theorem awh{c:Int}(h:gcls c=5):gsign (gfold c):=by
 unfold gcls at h
 repeat' split at h
 all_goals first|assumption|omega
theorem atp{n b0 b1 b2 b3:Nat}(_h0:b0<256)(_h1:b1<256)(_h2:b2<256)(_h3:b3<256){c k:Nat}(h:Lib.decodeN n b0 b1 b2 b3=(c,k))(hv:(c,k)≠(65533,1)):
  (k=1/\c=b0/\c<128)\/(k=2/\128<=c/\c<2048/\b0=192+c/64/\b1=128+c%64) \/
  (k=3/\2048<=c/\c<65536/\b0=224+c/4096/\b1=128+c/64%64/\b2=128+c%64) \/
  (k=4/\65536<=c/\c<=1114111/\b0=240+c/262144/\b1=128+c/4096%64/\b2=128+c/64%64/\b3=128+c%64):=by
 unfold Lib.decodeN at h
 repeat' split at h
 all_goals try exact absurd h.symm hv
 all_goals (simp only[Prod.mk.injEq]at h;obtain⟨rfl,rfl⟩:=h)
 ·exact .inl (by omega)
 ·exact .inr (.inl (by omega))
 ·exact .inr (.inr (.inl (by omega)))
 ·exact .inr (.inr (.inr (by omega)))
theorem acw(s:ByteArray)(i:Nat)(h:i<s.size)(k:Nat)(hk:i+(k+1)<=s.size):(s.extract i (i+(k+1))).data.toList=s.get! i::(s.extract (i+1) (i+1+k)).data.toList:=by
 have hl:i<s.data.toList.length:=h;rw[ByteArray.data_extract,ByteArray.data_extract,Array.toList_extract,Array.toList_extract,List.extract_eq_take_drop,List.extract_eq_take_drop,List.drop_eq_getElem_cons hl,show i+(k+1)-i=k+1 from by omega,show i+1+k-(i+1)=k from by omega,List.take_succ_cons];congr 1;cases s with
 |mk d=>exact(getElem!_pos d i h).symm
theorem ag3(s:ByteArray)(i:Nat):(s.extract i (i+0)).data.toList = []:=by
 rw[ByteArray.data_extract];simp
theorem atq{s:ByteArray}{l:List UInt8}(h:s.data.toList=l):s=⟨l.toArray⟩:=by
 cases s with
 |mk d=>subst h;simp
theorem awi{n b0 b1 b2 b3:Nat}(h0:b0<256){c k:Nat}(h:Lib.decodeN n b0 b1 b2 b3=(c,k))(hv:(c,k)≠(65533,1)):Cod c:=by
 unfold Lib.decodeN at h
 repeat' split at h
 all_goals try exact absurd h.symm hv
 all_goals (simp only[Prod.mk.injEq]at h;obtain⟨rfl,rfl⟩:=h)
 all_goals (unfold Cod;omega)
theorem adz{u:UInt8}{n:Nat}(h:u.toNat=n):u=n.toUInt8:=by
 subst h;exact UInt8.toNat_inj.1 (by rw[Nat.toUInt8,UInt8.toNat_ofNat'];have:=UInt8.toNat_lt u;omega)
theorem atr(s:ByteArray)(i:Nat)(h:i<s.size)(hv:Utf8.decode s i≠(65533,1)):Cod (Utf8.decode s i).1/\(s.extract i (i+(Utf8.decode s i).2)).data.toList=encL (Utf8.decode s i).1/\(Utf8.decode s i).2=(encL (Utf8.decode s i).1).length:=by
 have hl:=abf s i h;obtain⟨c,k,e⟩:∃c k,Utf8.decode s i=(c,k):=⟨_,_,rfl⟩;rw[e]at hv hl ⊢;rw[Lib.decode_at]at e;simp only at hl ⊢;refine⟨awi (UInt8.toNat_lt _) e hv,?_⟩;rcases atp (UInt8.toNat_lt _) (UInt8.toNat_lt _) (UInt8.toNat_lt _) (UInt8.toNat_lt _) e hv with⟨rfl,h1,h2⟩|⟨rfl,h1,h2,h3,h4⟩|⟨rfl,h1,h2,h3,h4,h5⟩|⟨rfl,h1,h2,h3,h4,h5,h6⟩
 ·unfold encL;rw[if_pos h2,acw s i h 0 (by omega),ag3,adz h1.symm];exact⟨rfl,rfl⟩
 ·unfold encL;rw[if_neg (by omega),if_pos h2,acw s i h 1 (by omega),acw s (i+1) (by omega) 0 (by omega),ag3,adz h3,adz h4];exact⟨rfl,rfl⟩
 ·unfold encL;rw[if_neg (by omega),if_neg (by omega),if_pos h2,acw s i h 2 (by omega),acw s (i+1) (by omega) 1 (by omega),acw s (i+1+1) (by omega) 0 (by omega),ag3,adz h3,adz h4,adz h5];exact⟨rfl,rfl⟩
 ·unfold encL;rw[if_neg (by omega),if_neg (by omega),if_neg (by omega),acw s i h 3 (by omega),acw s (i+1) (by omega) 2 (by omega),acw s (i+1+1) (by omega) 1 (by omega),acw s (i+1+1+1) (by omega) 0 (by omega),ag3,adz h3,adz h4,adz h5,adz h6];exact⟨rfl,rfl⟩
theorem att{s:ByteArray}{p e:Pl}{gs:List Gl}(h:Snd s p gs e)(he:s.size<=e.b)(hb:p.b<=s.size):∃cs,gs=glf p cs/\e=adv p cs/\(∀c∈cs,Cod c)/\(s.data.toList.drop p.b)=encs cs:=by
 induction h with
 |stop p h=>
  refine⟨[],rfl,rfl,by simp,?_⟩;rw[List.drop_eq_nil_of_le (by show s.data.toList.length<=p.b;exact he)];rfl
 |go p gs e h1 h2 hr ih=>
  have hd:=abf s p.b h1;obtain⟨k1,k2,k3⟩:=atr s p.b h1 h2;obtain⟨cs,i1,i2,i3,i4⟩:=ih he (by simp only[Pl.past];omega);rw[k3]at i1 i2;refine⟨(Utf8.decode s p.b).1::cs,by rw[i1];rfl,by rw[i2];rfl,?_,?_⟩
  ·intro c hc;rcases List.mem_cons.1 hc with rfl|hc
   ·exact k1
   ·exact i3 c hc
  ·rw[encs,<-i4,<-k2,ByteArray.data_extract,Array.toList_extract,List.extract_eq_take_drop,show p.b+(Utf8.decode s p.b).2-p.b=(Utf8.decode s p.b).2 from by omega];simp only[Pl.past];rw[<-List.drop_drop,List.take_append_drop]
theorem atu{s:ByteArray}{e:Pl}{gs:List Gl}{l:List Tk}(h:ScanR s e gs (.ok l)):s.size<=e.b:=by
 generalize ho:SO.ok l=o at h;induction h generalizing l with
 |done r h hb=>exact hb
 |rune r h hb=>cases ho
 |bad r g t k h ht=>cases ho
 |tok r g t kind text rest o h ht hr ih=>
  cases o with
  |bad k p=>cases ho
  |ok l'=>exact ih rfl
theorem al2{s:ByteArray}{e:Pl}{g:Gl}{r:List Gl}{k:Int}(h:TokR s e g r (.bad k)):k=42\/k=2\/k=41:=by
 unfold TokR at h;split at h
 ·split at h
  ·injection h with h;exact .inl h
  ·cases h
 ·split at h
  ·obtain⟨n,ds,_,_,h⟩:=h;split at h
   ·injection h with h;exact .inr (.inl h)
   ·cases h
  ·split at h
   ·unfold signS at h;split at h
    ·cases h
    ·split at h
     ·cases h
     ·split at h
      ·split at h
       ·injection h with h;exact .inr (.inr h)
       ·split at h
        ·cases h
        ·injection h with h;exact .inr (.inr h)
      ·cases h
   ·injection h with h;exact .inr (.inr h)
theorem aj7{s:ByteArray}{e:Pl}{gs:List Gl}{k:Int}{p:Pl}(h:ScanR s e gs (.bad k p)):k≠0:=by
 generalize ho:SO.bad k p=o at h;induction h with
 |done r h hb=>cases ho
 |rune r h hb=>injection ho with e1 _;omega
 |bad r g t k' h ht=>
  injection ho with e1 _;subst e1;rcases al2 ht with h|h|h <;> omega
 |tok r g t kind text rest o h ht hr ih=>
  cases o with
  |bad k' p'=>exact ih ho
  |ok l'=>cases ho
theorem ag7{α:Type}(f:α->Bool)(l:List α):∃j,j<=l.length/\l.dropWhile f=l.drop j:=by
 induction l with
 |nil=>exact⟨0,Nat.le_refl _,rfl⟩
 |cons x l ih=>
  by_cases hx:f x=true
  ·obtain⟨j,h1,h2⟩:=ih;exact⟨j+1,by simp;omega,by rw[List.dropWhile_cons_of_pos hx,h2];rfl⟩
  ·exact⟨0,Nat.zero_le _,by rw[List.dropWhile_cons_of_neg hx];rfl⟩
theorem al3(c:Bool)(l:List Gl):∃j,j<=l.length/\skp c l=l.drop j:=by
 induction l generalizing c with
 |nil=>exact⟨0,Nat.le_refl _,by cases c <;> rfl⟩
 |cons x l ih=>
  cases c with
  |true=>
   obtain⟨j,h1,h2⟩:=ih (decide (x.code≠10));exact⟨j+1,by simp;omega,by rw[skp,h2];rfl⟩
  |false=>
   by_cases h6:gcls x.code=6
   ·obtain⟨j,h1,h2⟩:=ih true;exact⟨j+1,by simp;omega,by rw[skp,if_pos h6,h2];rfl⟩
   ·by_cases h1c:gcls x.code=1
    ·obtain⟨j,h1,h2⟩:=ih false;exact⟨j+1,by simp;omega,by rw[skp,if_neg h6,if_pos h1c,h2];rfl⟩
    ·exact⟨0,Nat.zero_le _,by rw[skp,if_neg h6,if_neg h1c];rfl⟩
theorem TokR.rest{s:ByteArray}{e:Pl}{g:Gl}{t:List Gl}{k:Int}{x:ByteArray}{r:List Gl}(h:TokR s e g t (.ok k x r)):(∃j,1<=j/\j<=(g::t).length/\r=(g::t).drop j)/\(k=1\/k=2\/k=3):=by
 have key:∀ks:List Int,gcls g.code∈ks->∃j,1<=j/\j<=(g::t).length/\(g::t).dropWhile (inC ks)=(g::t).drop j:=by
  intro ks hk;obtain⟨j,h1,h2⟩:=ag7 (inC ks) t;exact⟨j+1,by omega,by simp;omega,by rw[List.dropWhile_cons_of_pos (by simp[inC,hk]),h2];rfl⟩
 unfold TokR at h;split at h
 ·rename_i h2;split at h
  ·cases h
  ·injection h with e1 e2 e3;subst e1 e3;exact⟨key _ (by rw[h2];simp),.inl rfl⟩
 ·split at h
  ·rename_i h3;obtain⟨n,ds,_,_,h⟩:=h;split at h
   ·cases h
   ·injection h with e1 e2 e3;subst e1 e3;exact⟨key _ (by rw[h3];simp),.inr (.inl rfl)⟩
  ·split at h
   ·unfold signS at h;split at h
    ·injection h with e1 e2 e3;subst e1 e3;exact⟨⟨1,by omega,by simp,rfl⟩,.inr (.inr rfl)⟩
    ·split at h
     ·injection h with e1 e2 e3;subst e1 e3;exact⟨⟨1,by omega,by simp,rfl⟩,.inr (.inr rfl)⟩
     ·split at h
      ·cases t with
       |nil=>cases h
       |cons y t=>
        simp only at h;split at h
        ·injection h with e1 e2 e3;subst e1 e3;exact⟨⟨2,by omega,by simp,rfl⟩,.inr (.inr rfl)⟩
        ·cases h
      ·injection h with e1 e2 e3;subst e1 e3;exact⟨⟨1,by omega,by simp,rfl⟩,.inr (.inr rfl)⟩
   ·cases h
theorem al4{w3 W w5:World}{B n:Nat}{T t:TypeId}{v:Value}{xs:List Value}{cs:Array Value}(hown:w3.ownsRow B T 6 v n xs)(hg:W.grownBy w5 v.ownBlock)(hW:W.heap[w3.heap.size]? = some (.cells cs t (0,0))):w5.cell? ⟨w3.heap.size,0,none⟩=cs[0]? :=by
 have hblk:w5.heap[w3.heap.size]? = some (.cells cs t (0,0)):=by
  rw[hg.block w3.heap.size (aaa hW) (by
   obtain⟨hl,⟨h1,_⟩|⟨b,cap,cur,h1,hb,hh,_⟩⟩:=hown
   ·rw[h1];simp[Value.ownBlock]
   ·rw[h1];have:=aaa hh;simp only[Value.ownBlock,ne_eq,Option.some.injEq]
    omega)]
  exact hW
 exact cell_of_row w5 w3.heap.size 0 _ _ _ hblk
theorem aqu{c:Nat}(h:gcls c=5)(hc:c≠8788/\c≠8800):∃d:Nat,gfold c=(d:Int)/\d<128:=by
 have hg:=awh h;have hf:=ahi hc.1 hc.2;unfold gsign at hg;exact⟨(gfold c).toNat,by omega,by omega⟩
theorem aqv(w:World)(q:Nat)(s:ByteArray)(p e:Pl)(g:Gl)(gs:List Gl)(h:Rdr w q s p)(hm:s.size<=4096)(hQ:Snd s p (g::gs) e)(hok:p.ok)(hpb:p.b<=s.size):
  Calls Tryz.prog 116 #[.pointer (some ⟨q,0,none⟩)] w fun r w'=>Tq w w' q/\∃o,TokR s e g gs o/\RtO w' q s e p r o:=by
 by_cases c2:gcls g.code=2
 ·exact am9 w q s p e g gs h hm hQ hok hpb c2
 by_cases c3:gcls g.code=3
 ·exact aqs w q s p e g gs h hm hQ hok hpb c3
 by_cases c5:gcls g.code=5
 ·have hT:=ae5 (s:=s) (e:=e) (r:=gs) c5;by_cases h1:g.code=8788
  ·refine(ana w q s p e g gs h hm hQ hok c5 h1).mono fun r w' hr=>⟨hr.1,_,hT,?_⟩
   rw[show signS (gfold g.code) gs=.ok 3 (strOfNums [58,61]) gs from by rw[h1];rfl];exact hr.2
  by_cases h2:g.code=8800
  ·refine(anb w q s p e g gs h hm hQ hok c5 h2).mono fun r w' hr=>⟨hr.1,_,hT,?_⟩
   rw[show signS (gfold g.code) gs=.ok 3 (strOfNums [33,61]) gs from by rw[h2];rfl];exact hr.2
  have hS2:=hQ.tail.2.2.2.2.1;by_cases h3:g.code=58\/g.code=33
  ·by_cases h61:∃g2 gs2,gs=g2::gs2/\g2.code=61
   ·obtain⟨g2,gs2,hgs,h61⟩:=h61;rcases h3 with h3|h3
    ·refine(alx w q s p e g gs h hm hQ hok c5 h3 g2 gs2 hgs h61).mono fun r w' hr=>⟨hr.1,_,hT,?_⟩
     rw[show signS (gfold g.code) gs=.ok 3 (strOfNums [58,61]) gs2 from by rw[h3,hgs];show(if g2.code=61 then _ else _)=_;rw[if_pos h61];rfl];exact hr.2
    ·refine(alz w q s p e g gs h hm hQ hok c5 h3 g2 gs2 hgs h61).mono fun r w' hr=>⟨hr.1,_,hT,?_⟩
     rw[show signS (gfold g.code) gs=.ok 3 (strOfNums [33,61]) gs2 from by rw[h3,hgs];show(if g2.code=61 then _ else _)=_;rw[if_pos h61];rfl];exact hr.2
   ·have hlk:lookS s (p.past (Utf8.decode s p.b).1 (Utf8.decode s p.b).2)≠61:=by
     cases gs with
     |nil=>
      have hle:=adf hS2;by_cases hbe:s.size<=e.b
      ·rw[hle.2.1 hbe];omega
      ·rw[hle.2.2 (by omega)];omega
     |cons g2 gs2=>
      rw[aa5 hS2];intro hc;exact h61 ⟨g2,gs2,rfl,by omega⟩
    have hbad:signS (gfold g.code) gs=.bad 41:=by
     cases gs with
     |nil=>rcases h3 with h3|h3 <;> (rw[h3];rfl)
     |cons g2 gs2=>
      have hne:¬g2.code=61:=fun hc=>h61 ⟨g2,gs2,rfl,hc⟩
      rcases h3 with h3|h3
      ·rw[h3];show(if g2.code=61 then _ else _)=_;rw[if_neg hne]
      ·rw[h3];show(if g2.code=61 then _ else _)=_;rw[if_neg hne]
    rcases h3 with h3|h3
    ·refine(alw w q s p e g gs h hm hQ hok c5 h3 hlk).mono fun r w' hr=>⟨hr.1,_,hT,?_⟩
     rw[hbad];exact hr.2
    ·refine(aly w q s p e g gs h hm hQ hok c5 h3 hlk).mono fun r w' hr=>⟨hr.1,_,hT,?_⟩
     rw[hbad];exact hr.2
  ·obtain⟨d,hd,hd1⟩:=aqu c5 ⟨h1,h2⟩;refine(aqt w q s p e g gs h hm hQ hok c5 ⟨h1,h2,by omega,by omega⟩ d hd hd1).mono fun r w' hr=>⟨hr.1,_,hT,?_⟩
   have hf:=ahi h1 h2;rw[show signS (gfold g.code) gs=.ok 3 (strOfNums [(d:Int)]) gs from by unfold signS;rw[if_neg hf.1,if_neg hf.2,if_neg (by rw[al0,al1];exact h3),hd]];exact hr.2
 ·exact(alv w q s p e g gs h hm hQ c2 c3 c5).mono fun r w' hr=>⟨hr.1,_,aiq c2 c3 c5,hr.2⟩
theorem aqw(w:World)(s:ByteArray)(hs:4096<s.size):
  Calls Tryz.prog 74 #[.string s] w fun r w'=>Below w.heap.size w w'/\r=.returned (.tuple #[.slice none 0 0,.int .i64 2,plz.v]):=by
 have hs':(4096:Int)<(s.size:Int):=by omega
 go_enter Tryz.func74,Tryz.ntmps74
 go_wp2;refine bodyPost_ret (v:=_) (by simp[results,Tryz.results74,go_sem];try rfl) rfl ⟨?_,rfl⟩
 (repeat' first|with_reducible(first|exact Below.refl _ _|assumption|refine gdrewN ?_ _|refine Below.alloc ?_ ?_ _|refine Below.drew ?_|refine Below.setCell ?_ ?_ _)|go_size)
theorem anc(w:World)(s:ByteArray)(hs:s.size<=4096)(gs:List Gl)(e:Pl)(hQ:Snd s pl0 gs e):
  Calls Tryz.prog 74 #[.string s] w fun r w'=>Below w.heap.size w w'/\∃o,ScanR s e gs o/\ScanO w w' r o:=by
 have hs':decide ((4096:Int)<(s.size:Int))=false:=by simp;omega
 have HQ:=hide hQ;clear hQ;go_enter Tryz.func74,Tryz.ntmps74
 go_wp2_with fail
 refine(atm _ s).mono ?_;rintro r w1 ⟨q,hqw,rfl,hR,hb1⟩;have hsz0:(w.alloc (.cells #[.int .i64 0,.int .i64 0,.int .i64 0,.int .i64 0] 56)).heap.size=w.heap.size+1:=World.size_alloc w _;have hbq:=hb1;rw[hsz0]at hqw hbq;have hw1:w.heap.size+1<=w1.heap.size:=by have:=hbq.size;rwa[hsz0]at this
 have hS0:RgS w w1 q w.heap.size w1.heap.size s pl0 109 (.slice none 0 0) 0 []:=
  ⟨hR,World.ownsRow_nil _ _ _ _,(hbq.block w.heap.size (by omega)).trans (heap_alloc_new w _),((Below.refl _ _).alloc (Nat.le_refl _) _).trans (hbq.mono (by omega)),Nat.le_refl _,Nat.le_refl _,by omega,by omega,by omega,aaa hR⟩
 have HS0:=hide hS0;clear hS0 hR hbq hb1 hsz0 hqw hw1;generalize w1.heap.size=B at HS0;generalize hf:w.heap.size=f at *
 replace hf:w.heap.size<=f:=by omega
 go_wp2;obtain⟨i0,hi0,hz0,hz1,hz2⟩:=ag1 infoT;have hfq:=HS0.out.fq;go_loopw [5] (fun tv wr=>∃(ts:List Tk) (p:Pl) (ta:Option Addr) (tc:Nat) (gs':List Gl),tv=.slice ta ts.length tc/\RgS w wr q f B s p 109 (.slice ta ts.length tc) ts.length (tflat ts)/\p.ok/\p.b<=s.size/\ts.length<=p.b/\Snd s p gs' e/\∀o,ScanR s e gs' o->ScanR s e gs (o.pres ts)) (fun _ wr=>s.size-rpos wr q)
 case atStart=>exact⟨[],pl0,none,0,gs,rfl,HS0.out,ad5,Nat.zero_le _,Nat.zero_le _,HQ.out,fun o h=>by rw[alp];exact h⟩
 case round=>
  clear HS0;obtain⟨ts,p,ta,tc,gs',rfl,hS,hp,hpb,htl,hsn,hpre⟩:=hrel;have HS:=hide hS;have HP:=hide hp;have HE:=hide hpre;have HSN:=hide hsn;have IP:=hide hS.rdr.pos;clear hS hp hpre hsn;go_wp2_with fail
  refine(aqq wr q s p gs' e HS.out.rdr (by omega) HSN.out HP.out hpb).mono ?_;rintro r w2 ⟨ht2,p2,hsn2,hok2,hpb2,hR2,hr⟩;have hp12:p.b<=p2.b:=by
   obtain⟨j,hj,hjd⟩:=al3 false gs';have hdd:=HSN.out.drop HP.out hpb j hj;rw[<-hjd,hsn2.plf]at hdd;have:=hdd.2.2.1;omega
  have HS2:=hide (HS.out.tq ht2 hR2);have HSN2:=hide hsn2;have HOK2:=hide hok2;clear ht2 hR2 HS hok2;rcases hr with⟨hk0,hbe,rfl⟩|⟨hgo,rfl⟩
  ·rw[hk0]at hsn2;have hpe:p2=e:=(adf hsn2).1;have HPE:=hide hpe;have HK0:=hide hk0;clear hpe hsn2 hk0;obtain⟨hq,k0,k1,k2,k3,k4,n1,n2,n3,n4⟩:=HS2.out.rdr.cells;obtain⟨hff,y0,y1,y2,y3⟩:=HS2.out.zer.cells;have f0:=frozen_of_row w2 f 0 _ _ HS2.out.zer;have f1:=frozen_of_row w2 f 1 _ _ HS2.out.zer;have f2:=frozen_of_row w2 f 2 _ _ HS2.out.zer;have f3:=frozen_of_row w2 f 3 _ _ HS2.out.zer;clear n1 n2 n3 n4;go_wp2_with fail
   go_region
   go_wp2;have hX:PlB (((((w2.setCell ⟨f,0,none⟩ (.int .i64 p2.b)).setCell ⟨f,1,none⟩ (.int .i64 p2.g)).setCell ⟨f,2,none⟩ (.int .i64 p2.l)).setCell ⟨f,3,none⟩ (.int .i64 p2.c)).drew) f p2:=(aet HS2.out.zer).below ((Below.refl _ _).drew);have hXB:Below w.heap.size w (((((w2.setCell ⟨f,0,none⟩ (.int .i64 p2.b)).setCell ⟨f,1,none⟩ (.int .i64 p2.g)).setCell ⟨f,2,none⟩ (.int .i64 p2.l)).setCell ⟨f,3,none⟩ (.int .i64 p2.c)).drew):=(aef HS2.out.bel hf _ _ _ _).drew;generalize ((((w2.setCell ⟨f,0,none⟩ (.int .i64 p2.b)).setCell ⟨f,1,none⟩ (.int .i64 p2.g)).setCell ⟨f,2,none⟩ (.int .i64 p2.l)).setCell ⟨f,3,none⟩ (.int .i64 p2.c)).drew=wf at hX hXB ⊢;obtain⟨_,x0,x1,x2,x3⟩:=hX.cells;refine bodyPost_ret (v:=_) (by simp[results,Tryz.results74,go_sem,x0,x1,x2,x3];try rfl) rfl ⟨hXB,.bad 40 e,?_,by rw[<-HPE.out];rfl⟩;have:=HE.out _ (ScanR.rune gs' HK0.out hbe);exact this
  ·cases hgs:skp false gs' with
   |nil=>
    rw[hgs]at hgo HSN2;have hbe:s.size<=e.b:=by
     rcases hgo with h|h
     ·exact absurd rfl h
     ·exact h
    have HGS:=hide hgs;have hpe:p2=e:=(adf HSN2.out).1;have HPE:=hide hpe;clear hgs hgo hsn2 hpe;go_wp2_with fail
    refine(aqr w2 q s p2 e HS2.out.rdr hs HSN2.out hbe).mono ?_;rintro r w3 ⟨ht3,rfl,hR3⟩;have HS3:=hide (HS2.out.tq ht3 hR3);clear ht3 hR3 HS2;unfold Tk.v Pl.v;simp only;have hone:∀u∈([.int .i64 0,.string ⟨#[]⟩,.int .i64 p2.b,.int .i64 p2.g,.int .i64 p2.l,.int .i64 p2.c]:List Value),u.oneCell'=true:=by
     intro u hu;simp only[List.mem_cons,List.not_mem_nil,or_false]at hu;rcases hu with rfl|rfl|rfl|rfl|rfl|rfl <;> rfl
    have hbT:Below w3.heap.size w3 ((w3.alloc (.cells #[.int .i64 0,.string ⟨#[]⟩,.int .i64 p2.b,.int .i64 p2.g,.int .i64 p2.l,.int .i64 p2.c] 109)).alloc (.cells #[.int .i64 p2.b,.int .i64 p2.g,.int .i64 p2.l,.int .i64 p2.c] 56)):=ach _ _ _;have hbT3:Below w3.heap.size w3 (((w3.alloc (.cells #[.int .i64 0,.string ⟨#[]⟩,.int .i64 p2.b,.int .i64 p2.g,.int .i64 p2.l,.int .i64 p2.c] 109)).alloc (.cells #[.int .i64 p2.b,.int .i64 p2.g,.int .i64 p2.l,.int .i64 p2.c] 56)).alloc (.cells #[.int .i64 0,.string ⟨#[]⟩,.int .i64 p2.b,.int .i64 p2.g,.int .i64 p2.l,.int .i64 p2.c] 109)):=hbT.alloc hbT.size _;have hown:=ab7 HS3.out.own hbT3;have hsz:=HS3.out.siz;have htok:(((w3.alloc (.cells #[.int .i64 0,.string ⟨#[]⟩,.int .i64 p2.b,.int .i64 p2.g,.int .i64 p2.l,.int .i64 p2.c] 109)).alloc (.cells #[.int .i64 p2.b,.int .i64 p2.g,.int .i64 p2.l,.int .i64 p2.c] 56)).alloc (.cells #[.int .i64 0,.string ⟨#[]⟩,.int .i64 p2.b,.int .i64 p2.g,.int .i64 p2.l,.int .i64 p2.c] 109)).heap[w3.heap.size]? = some (.cells #[.int .i64 0,.string ⟨#[]⟩,.int .i64 p2.b,.int .i64 p2.g,.int .i64 p2.l,.int .i64 p2.c] 109 (0,0)):=(((Below.refl _ _).alloc (Nat.le_refl _) _).alloc (by simp[World.size_alloc]) _).block _ (by simp[World.size_alloc]) |>.trans (heap_alloc_new w3 _);go_wp2_with (at_builtin;refine wpList_append_lies _ rfl (.tmp 36) (.tmp 38) 99 rfl B 109 i0 _ 6 56 Tryz.underlying99 hi0 hz0 hz1 hz2 rfl (by decide) (.slice ta ts.length tc) ts.length (tflat ts) (by simp[Act.eval]) hown ⟨w3.heap.size+1+1,0,none⟩ 1 1 [.int .i64 0,.string ⟨#[]⟩,.int .i64 p2.b,.int .i64 p2.g,.int .i64 p2.l,.int .i64 p2.c] (by simp[Act.eval]) rfl (by have:=World.news_of_block (heap_alloc_new ((w3.alloc (.cells #[.int .i64 0,.string ⟨#[]⟩,.int .i64 p2.b,.int .i64 p2.g,.int .i64 p2.l,.int .i64 p2.c] 109)).alloc (.cells #[.int .i64 p2.b,.int .i64 p2.g,.int .i64 p2.l,.int .i64 p2.c] 56)) (.cells #[.int .i64 0,.string ⟨#[]⟩,.int .i64 p2.b,.int .i64 p2.g,.int .i64 p2.l,.int .i64 p2.c] 109));simpa[World.size_alloc]using this) hone (by omega) (by unfold maxLen;omega) (by omega) (by simp[World.size_alloc];omega) _ rfl ?_;intro g1 cap1 w5 hown5 hgrow5 hat5 hlt5;have hkeep:w5.cell? ⟨w3.heap.size,0,none⟩=some (.int .i64 0):=al4 HS3.out.own hgrow5 htok;have HS5:=hide ((HS3.out.below hbT3).more hgrow5 (v':=.slice (some ⟨g1,0,none⟩) (ts.length+1) cap1) (n':=ts.length+1) (xs':=tflat (ts ++ [⟨0,⟨#[]⟩,p2⟩])) (by simpa[adq,tflat]using hown5));obtain⟨hff,y0,y1,y2,y3⟩:=HS5.out.zer.cells;have f0:=frozen_of_row w5 f 0 _ _ HS5.out.zer;have f1:=frozen_of_row w5 f 1 _ _ HS5.out.zer;have f2:=frozen_of_row w5 f 2 _ _ HS5.out.zer;have f3:=frozen_of_row w5 f 3 _ _ HS5.out.zer)
    clear hown5 hgrow5 hat5 hlt5 hown hone hsz htok hbT hbT3;have hX:PlB ((((w5.setCell ⟨f,0,none⟩ (.int .i64 0)).setCell ⟨f,1,none⟩ (.int .i64 0)).setCell ⟨f,2,none⟩ (.int .i64 0)).setCell ⟨f,3,none⟩ (.int .i64 0)) f plz:=aet (p':=plz) HS5.out.zer;have hXB:Below w.heap.size w ((((w5.setCell ⟨f,0,none⟩ (.int .i64 0)).setCell ⟨f,1,none⟩ (.int .i64 0)).setCell ⟨f,2,none⟩ (.int .i64 0)).setCell ⟨f,3,none⟩ (.int .i64 0)):=aef HS5.out.bel hf _ _ _ _;have hXO:World.ownsRow ((((w5.setCell ⟨f,0,none⟩ (.int .i64 0)).setCell ⟨f,1,none⟩ (.int .i64 0)).setCell ⟨f,2,none⟩ (.int .i64 0)).setCell ⟨f,3,none⟩ (.int .i64 0)) w.heap.size 109 6 (.slice (some ⟨g1,0,none⟩) (ts.length+1) cap1) (ts.length+1) (tflat (ts ++ [(⟨0,⟨#[]⟩,p2⟩:Tk)])):=by
     refine aln (ade HS5.out.own ?_) (show w.heap.size<=B by have:=HS5.out.fB;omega);intro k o hk he;have hkf:k≠f:=by have:=HS5.out.fB;omega
     rw[heap_setCell_other _ ⟨f,3,none⟩ k _ hkf,heap_setCell_other _ ⟨f,2,none⟩ k _ hkf,heap_setCell_other _ ⟨f,1,none⟩ k _ hkf,heap_setCell_other _ ⟨f,0,none⟩ k _ hkf];exact he
    generalize (((w5.setCell ⟨f,0,none⟩ (.int .i64 0)).setCell ⟨f,1,none⟩ (.int .i64 0)).setCell ⟨f,2,none⟩ (.int .i64 0)).setCell ⟨f,3,none⟩ (.int .i64 0)=wf at hX hXB hXO ⊢;obtain⟨_,x0,x1,x2,x3⟩:=hX.cells;refine bodyPost_ret (v:=.tuple #[.slice (some ⟨g1,0,none⟩) (ts.length+1) cap1,.int .i64 0,plz.v]) (by simp[results,Tryz.results74,go_sem,x0,x1,x2,x3];try rfl) rfl ⟨hXB,.ok (ts ++ [(⟨0,⟨#[]⟩,e⟩:Tk)]),HE.out _ (ScanR.done gs' HGS.out hbe),_,rfl,?_⟩;have hlen:(ts ++ [(⟨0,⟨#[]⟩,e⟩:Tk)]).length=ts.length+1:=by simp
    rw[hlen,<-HPE.out];exact hXO
   |cons g t=>
    rw[hgs]at HSN2;have HGS:=hide hgs;clear hgs hgo hsn2;go_wp2_with fail
    refine(aqv w2 q s p2 e g t HS2.out.rdr hs HSN2.out HOK2.out hpb2).mono ?_;rintro r w3 ⟨ht3,o,ho,hO⟩;have HGP:=hide HSN2.out.tail.1;cases o with
    |bad k=>
     obtain⟨tk,rfl⟩:=hO;have hk:k≠0:=by rcases al2 ho with h|h|h <;> omega
     have hk':(k != 0)=true:=by simp[hk]
     have HB3:=hide (aes HS2.out.bel ht3 HS2.out.qw (Nat.le_refl _));have HZ3:=hide (HS2.out.zer.tq ht3 hfq);have HO:=hide ho;clear ht3 ho hk HS2;unfold Tk.v Pl.v;simp only;go_wp2_with fail
     have hbT:Below w3.heap.size w3 ((w3.alloc (.cells #[.int .i64 tk.kind,.string tk.text,.int .i64 tk.pl.b,.int .i64 tk.pl.g,.int .i64 tk.pl.l,.int .i64 tk.pl.c] 109)).alloc (.cells #[.int .i64 p2.b,.int .i64 p2.g,.int .i64 p2.l,.int .i64 p2.c] 56)):=ach _ _ _;have hP4:PlB ((w3.alloc (.cells #[.int .i64 tk.kind,.string tk.text,.int .i64 tk.pl.b,.int .i64 tk.pl.g,.int .i64 tk.pl.l,.int .i64 tk.pl.c] 109)).alloc (.cells #[.int .i64 p2.b,.int .i64 p2.g,.int .i64 p2.l,.int .i64 p2.c] 56)) (w3.heap.size+1) p2:=by
      have:=heap_alloc_new (w3.alloc (.cells #[.int .i64 tk.kind,.string tk.text,.int .i64 tk.pl.b,.int .i64 tk.pl.g,.int .i64 tk.pl.l,.int .i64 tk.pl.c] 109)) (.cells #[.int .i64 p2.b,.int .i64 p2.g,.int .i64 p2.l,.int .i64 p2.c] 56);rwa[World.size_alloc]at this
     generalize (w3.alloc (.cells #[.int .i64 tk.kind,.string tk.text,.int .i64 tk.pl.b,.int .i64 tk.pl.g,.int .i64 tk.pl.l,.int .i64 tk.pl.c] 109)).alloc (.cells #[.int .i64 p2.b,.int .i64 p2.g,.int .i64 p2.l,.int .i64 p2.c] 56)=w4 at hbT hP4 ⊢;have hZ4:=HZ3.out.below hbT;have HB4:=hide (HB3.out.trans (hbT.mono HB3.out.size));have HZ4:=hide hZ4;generalize w3.heap.size+1=aP at hP4 ⊢;obtain⟨_,c0,c1,c2,c3⟩:=hP4.cells;obtain⟨hff,y0,y1,y2,y3⟩:=hZ4.cells;have f0:=frozen_of_row w4 f 0 _ _ hZ4;have f1:=frozen_of_row w4 f 1 _ _ hZ4;have f2:=frozen_of_row w4 f 2 _ _ hZ4;have f3:=frozen_of_row w4 f 3 _ _ hZ4;clear hP4 hZ4 hbT;go_region
     go_wp2;have hX:PlB (((((w4.setCell ⟨f,0,none⟩ (.int .i64 p2.b)).setCell ⟨f,1,none⟩ (.int .i64 p2.g)).setCell ⟨f,2,none⟩ (.int .i64 p2.l)).setCell ⟨f,3,none⟩ (.int .i64 p2.c)).drew) f p2:=(aet HZ4.out).below ((Below.refl _ _).drew);have hXB:Below w.heap.size w (((((w4.setCell ⟨f,0,none⟩ (.int .i64 p2.b)).setCell ⟨f,1,none⟩ (.int .i64 p2.g)).setCell ⟨f,2,none⟩ (.int .i64 p2.l)).setCell ⟨f,3,none⟩ (.int .i64 p2.c)).drew):=(aef HB4.out hf _ _ _ _).drew;generalize ((((w4.setCell ⟨f,0,none⟩ (.int .i64 p2.b)).setCell ⟨f,1,none⟩ (.int .i64 p2.g)).setCell ⟨f,2,none⟩ (.int .i64 p2.l)).setCell ⟨f,3,none⟩ (.int .i64 p2.c)).drew=wf at hX hXB ⊢;obtain⟨_,x0,x1,x2,x3⟩:=hX.cells;refine bodyPost_ret (v:=_) (by simp[results,Tryz.results74,go_sem,x0,x1,x2,x3];try rfl) rfl ⟨hXB,.bad k g.pl,?_,by rw[HGP.out];rfl⟩;exact HE.out _ (ScanR.bad gs' g t k HGS.out HO.out)
    |ok kd tx rest=>
     obtain⟨rfl,p3,hR3,hsn3,hok3,hpb3⟩:=hO;obtain⟨⟨j,hj1,hj2,hjr⟩,hkd⟩:=ho.rest;have hp23:p2.b<p3.b:=by
      have hdd:=HSN2.out.drop HOK2.out hpb2 j hj2;rw[<-hjr,hsn3.plf]at hdd;have:=hdd.2.2.1;omega
     have hkn:(kd==0)=false:=by rcases hkd with rfl|rfl|rfl <;> rfl
     have HS3:=hide (HS2.out.tq ht3 hR3);have HSN3:=hide hsn3;have HOK3:=hide hok3;have HO:=hide ho;clear ht3 hR3 HS2 hsn3 hok3 ho hj1 hj2 hjr hkd;unfold Tk.v Pl.v;simp only;have hone:∀u∈([.int .i64 kd,.string tx,.int .i64 p2.b,.int .i64 p2.g,.int .i64 p2.l,.int .i64 p2.c]:List Value),u.oneCell'=true:=by
      intro u hu;simp only[List.mem_cons,List.not_mem_nil,or_false]at hu;rcases hu with rfl|rfl|rfl|rfl|rfl|rfl <;> rfl
     have hbT:Below w3.heap.size w3 ((w3.alloc (.cells #[.int .i64 kd,.string tx,.int .i64 p2.b,.int .i64 p2.g,.int .i64 p2.l,.int .i64 p2.c] 109)).alloc (.cells #[.int .i64 p2.b,.int .i64 p2.g,.int .i64 p2.l,.int .i64 p2.c] 56)):=ach _ _ _;have hbT3:Below w3.heap.size w3 (((w3.alloc (.cells #[.int .i64 kd,.string tx,.int .i64 p2.b,.int .i64 p2.g,.int .i64 p2.l,.int .i64 p2.c] 109)).alloc (.cells #[.int .i64 p2.b,.int .i64 p2.g,.int .i64 p2.l,.int .i64 p2.c] 56)).alloc (.cells #[.int .i64 kd,.string tx,.int .i64 p2.b,.int .i64 p2.g,.int .i64 p2.l,.int .i64 p2.c] 109)):=hbT.alloc hbT.size _;have hown:=ab7 HS3.out.own hbT3;have hsz:=HS3.out.siz;have htok:(((w3.alloc (.cells #[.int .i64 kd,.string tx,.int .i64 p2.b,.int .i64 p2.g,.int .i64 p2.l,.int .i64 p2.c] 109)).alloc (.cells #[.int .i64 p2.b,.int .i64 p2.g,.int .i64 p2.l,.int .i64 p2.c] 56)).alloc (.cells #[.int .i64 kd,.string tx,.int .i64 p2.b,.int .i64 p2.g,.int .i64 p2.l,.int .i64 p2.c] 109)).heap[w3.heap.size]? = some (.cells #[.int .i64 kd,.string tx,.int .i64 p2.b,.int .i64 p2.g,.int .i64 p2.l,.int .i64 p2.c] 109 (0,0)):=(((Below.refl _ _).alloc (Nat.le_refl _) _).alloc (by simp[World.size_alloc]) _).block _ (by simp[World.size_alloc]) |>.trans (heap_alloc_new w3 _);go_wp2_with (at_builtin;refine wpList_append_lies _ rfl (.tmp 36) (.tmp 38) 99 rfl B 109 i0 _ 6 56 Tryz.underlying99 hi0 hz0 hz1 hz2 rfl (by decide) (.slice ta ts.length tc) ts.length (tflat ts) (by simp[Act.eval]) hown ⟨w3.heap.size+1+1,0,none⟩ 1 1 [.int .i64 kd,.string tx,.int .i64 p2.b,.int .i64 p2.g,.int .i64 p2.l,.int .i64 p2.c] (by simp[Act.eval]) rfl (by have:=World.news_of_block (heap_alloc_new ((w3.alloc (.cells #[.int .i64 kd,.string tx,.int .i64 p2.b,.int .i64 p2.g,.int .i64 p2.l,.int .i64 p2.c] 109)).alloc (.cells #[.int .i64 p2.b,.int .i64 p2.g,.int .i64 p2.l,.int .i64 p2.c] 56)) (.cells #[.int .i64 kd,.string tx,.int .i64 p2.b,.int .i64 p2.g,.int .i64 p2.l,.int .i64 p2.c] 109));simpa[World.size_alloc]using this) hone (by omega) (by unfold maxLen;omega) (by omega) (by simp[World.size_alloc];omega) _ rfl ?_;intro g1 cap1 w5 hown5 hgrow5 hat5 hlt5;have hkeep:w5.cell? ⟨w3.heap.size,0,none⟩=some (.int .i64 kd):=al4 HS3.out.own hgrow5 htok)
     have HS5:=hide ((HS3.out.below hbT3).more hgrow5 (v':=.slice (some ⟨g1,0,none⟩) (ts.length+1) cap1) (n':=ts.length+1) (xs':=tflat (ts ++ [⟨kd,tx,p2⟩])) (by simpa[adq,tflat]using hown5));clear hown5 hgrow5 hat5 hlt5 hown hone hsz htok hbT hbT3;go_roundw
     case rel=>
      refine⟨ts ++ [⟨kd,tx,p2⟩],p3,some ⟨g1,0,none⟩,cap1,rest,by simp,?_,HOK3.out,hpb3,by simp;omega,HSN3.out,?_⟩
      ·have:=HS5.out;simpa using this
      ·intro o ho;have h1:=HE.out _ (ScanR.tok gs' g t kd tx rest o HGS.out HO.out ho);rw[HGP.out,alq]at h1;exact h1
     case measure=>rw[IP.out,HS5.out.rdr.pos];omega
def nmS(s:ByteArray):SO->Bool
 |.ok (t::_)=>(t.kind==1)&&(t.text.toList==s.toList)
 |_=>false
theorem awj{u:List Nat}(h:encs u = []):u = []:=by
 cases u with
 |nil=>rfl
 |cons c u=>
  have h1:=avz c;have h2:=congrArg List.length h;simp only[encs,List.length_append,List.length_nil]at h2;omega
theorem al5{s:ByteArray}{gs:List Gl}{e:Pl}{l:List Tk}(hQ:Snd s pl0 gs e)(hR:ScanR s e gs (.ok l)):∃t r,l=t::r/\(t.kind=1->t.text=s->l.length=2):=by
 obtain⟨cs,rfl,rfl,hc,hb⟩:=att hQ (atu hR) (Nat.zero_le _);have hsb:s.data.toList = []++encs cs:=by simpa[pl0]using hb
 have hC:=ayk s cs [] pl0 rfl hsb l hR;generalize hm:(l.map fun t=>(t.kind,t.text))=ts at hC;cases hC with
 |done _ h1=>
  cases l with
  |nil=>simp at hm
  |cons t r=>
   refine⟨t,r,rfl,fun hk _=>?_⟩;simp only[List.map_cons,List.cons.injEq,Prod.mk.injEq]at hm;omega
 |tok _ k x rest ts' h1 h2=>
  cases l with
  |nil=>simp at hm
  |cons t r=>
   refine⟨t,r,rfl,fun hk hx=>?_⟩;simp only[List.map_cons,List.cons.injEq,Prod.mk.injEq]at hm;obtain⟨⟨e1,e2⟩,e3⟩:=hm;obtain⟨a,hsp,_⟩:=ajj false pl0 cs;have hk1:k=1:=by omega
   have hxs:x=s:=by rw[<-e2,hx]
   clear e1 e2 hk hx;subst hk1;generalize hq:skc false cs=q at h1 hsp;cases h1 with
   |name c u _ hc2 hu hr hl=>
    have h3:=congrArg (fun b=>b.data.toList) hxs;rw[hsb,hsp,ac8,ac8]at h3;simp only[bts,List.nil_append]at h3;have h4:=congrArg List.length h3;simp only[List.length_append]at h4;have h5:encs rest = []:=List.eq_nil_of_length_eq_zero (by omega);have h6:=awj h5;subst h6;cases h2 with
    |done _ _=>
     have:=congrArg List.length e3;simpa using this
    |tok _ _ _ _ _ h7 _=>
     exfalso;generalize hz:skc false []=z at h7;have:z = []:=by rw[<-hz];rfl
     subst this;generalize hy:([]:List Nat)=y at h7;cases h7 <;> simp at hy
theorem atv(w:World)(hT:Tabs w)(s:ByteArray)(hs:s.size<=4096)(gs:List Gl)(e:Pl)(hQ:Snd s pl0 gs e):
  Calls Tryz.prog 38 #[.string s] w fun r w'=>Below w.heap.size w w'/\∃o,ScanR s e gs o/\r=.returned (.bool (nmS s o)):=by
 have HT:=hide hT;have HQ:=hide hQ;clear hT hQ;go_enter Tryz.func38,Tryz.ntmps38
 go_wp2_with fail
 refine(ait w s HT.out hs).mono ?_;rintro r w1 ⟨hb1,gs',e',o,h1,h2,h3⟩;obtain⟨rfl,rfl⟩:=h1.one HQ.out;have HB:=hide (hb1.alloc hb1.size (.cells #[.int .i64 0,.int .i64 0,.int .i64 0,.int .i64 0] 56));have HBr:=hide hb1;have HR:=hide h2;clear hb1 h1;cases o with
 |bad k p=>
  have hk:(k==0)=false:=beq_eq_false_iff_ne.2 (aj7 h2);obtain rfl:=h3;clear h2;unfold Pl.v;go_wp2;go_ret;exact⟨HBr.out.alloc HBr.out.size _,_,HR.out,rfl⟩
 |ok l=>
  obtain⟨v,rfl,hown⟩:=h3;have hTs:Ts w1 v l:=Ts.own hown;obtain⟨t,rr,rfl,_⟩:=al5 HQ.out h2;obtain⟨ao,cap,rfl,hn⟩:=hTs.parts;obtain⟨b,off,rfl,g⟩:=hTs.tok (i:=0) (t:=t) rfl;obtain⟨_,a0,a1,_,_,_,_⟩:=g.below ((Below.refl _ _).alloc (Nat.le_refl _) (.cells #[.int .i64 0,.int .i64 0,.int .i64 0,.int .i64 0] 56));rw[Nat.zero_mul,Nat.add_zero]at a0 a1;have hln:(0:Int)<((t::rr).length:Int):=by simp
  clear g hown h2 hTs;generalize (t::rr).length=n at hn hln ⊢;unfold Pl.v;simp only[plz];by_cases hk:t.kind=1
  ·have hk':(t.kind==1)=true:=by rw[hk];rfl
   go_wp2;go_ret;exact⟨HB.out,_,HR.out,by simp only[nmS,hk',Bool.true_and];rfl⟩
  ·have hk':(t.kind==1)=false:=beq_eq_false_iff_ne.2 hk;go_wp2;go_ret;exact⟨HB.out,_,HR.out,by simp only[nmS,hk',Bool.false_and];rfl⟩
theorem atw(w:World)(s:ByteArray)(hs:4096<s.size):
  Calls Tryz.prog 38 #[.string s] w fun r w'=>Below w.heap.size w w'/\r=.returned (.bool false):=by
 go_enter Tryz.func38,Tryz.ntmps38
 go_wp2_with fail
 refine(ata w s hs).mono ?_;rintro r w1 ⟨hb1,rfl⟩;unfold Pl.v;go_wp2;go_ret;exact⟨hb1.alloc hb1.size _,rfl⟩
theorem aqx(w:World)(s:ByteArray)(hs:4096<s.size):
  Calls Tryz.prog 40 #[.string s] w fun r w'=>Below w.heap.size w w'/\r=.returned (.bool false):=by
 go_enter Tryz.func40,Tryz.ntmps40
 go_wp2_with fail
 refine(aqw w s hs).mono ?_;rintro r w1 ⟨hb1,rfl⟩;unfold Pl.v;go_wp2;go_ret;exact⟨hb1.alloc hb1.size _,rfl⟩
theorem ane(w:World)(s:ByteArray)(hs:s.size<=4096)(gs:List Gl)(e:Pl)(hQ:Snd s pl0 gs e):
  Calls Tryz.prog 40 #[.string s] w fun r w'=>Below w.heap.size w w'/\∃o,ScanR s e gs o/\r=.returned (.bool (nmS s o)):=by
 have HQ:=hide hQ;clear hQ;go_enter Tryz.func40,Tryz.ntmps40
 go_wp2_with fail
 refine(anc w s hs gs e HQ.out).mono ?_;rintro r w1 ⟨hb1,o,h2,h3⟩;have HB:=hide (hb1.alloc hb1.size (.cells #[.int .i64 0,.int .i64 0,.int .i64 0,.int .i64 0] 56));have HBr:=hide hb1;have HR:=hide h2;clear hb1;cases o with
 |bad k p=>
  have hk:(k==0)=false:=beq_eq_false_iff_ne.2 (aj7 h2);obtain rfl:=h3;clear h2;unfold Pl.v;go_wp2;go_ret;exact⟨HBr.out.alloc HBr.out.size _,_,HR.out,rfl⟩
 |ok l=>
  obtain⟨v,rfl,hown⟩:=h3;have hTs:Ts w1 v l:=Ts.own hown;obtain⟨t,rr,rfl,h22⟩:=al5 HQ.out h2;obtain⟨ao,cap,rfl,hn⟩:=hTs.parts;obtain⟨b,off,rfl,g⟩:=hTs.tok (i:=0) (t:=t) rfl;obtain⟨_,a0,a1,_,_,_,_⟩:=g.below ((Below.refl _ _).alloc (Nat.le_refl _) (.cells #[.int .i64 0,.int .i64 0,.int .i64 0,.int .i64 0] 56));rw[Nat.zero_mul,Nat.add_zero]at a0 a1;have hln:(0:Int)<((t::rr).length:Int):=by simp
  have H22:=hide h22;clear g hown h2 hTs h22;by_cases h2:(t::rr).length=2
  ·have hl2:(((t::rr).length:Int)==2)=true:=by rw[h2];rfl
   clear H22 h2;generalize (t::rr).length=n at hn hln hl2 ⊢;unfold Pl.v;simp only[plz];by_cases hk:t.kind=1
   ·have hk':(t.kind==1)=true:=by rw[hk];rfl
    go_wp2;go_ret;exact⟨HB.out,_,HR.out,by simp only[nmS,hk',Bool.true_and];rfl⟩
   ·have hk':(t.kind==1)=false:=beq_eq_false_iff_ne.2 hk;go_wp2;go_ret;exact⟨HB.out,_,HR.out,by simp only[nmS,hk',Bool.false_and];rfl⟩
  ·have hl2:(((t::rr).length:Int)==2)=false:=beq_eq_false_iff_ne.2 (by omega);have hno:nmS s (.ok (t::rr))=false:=by
    simp only[nmS,Bool.and_eq_false_iff,beq_eq_false_iff_ne];by_cases hk:t.kind=1
    ·right;intro hx;refine h2 (H22.out hk ?_);rw[ByteArray.toList_eq,ByteArray.toList_eq]at hx;rw[atq hx,<-atq rfl]
    ·exact .inl hk
   have HNO:=hide hno;clear H22 h2 hno;generalize (t::rr).length=n at hn hln hl2 ⊢;unfold Pl.v;simp only[plz];go_wp2;go_ret;exact⟨HB.out,_,HR.out,by rw[HNO.out];rfl⟩
def ixS(x:ByteArray):List ByteArray->Option Nat
 | []=>none
 |y::r=>if y=x then some 0 else(ixS x r).map (·+1)
theorem al6{x:ByteArray}{ss:List ByteArray}(h:x∉ss):ixS x ss=none:=by
 induction ss with
 |nil=>rfl
 |cons y r ih=>
  rw[ixS,if_neg (fun e=>h (by simp[e])),ih (fun e=>h (by simp[e]))];rfl
theorem awk{x:ByteArray}{ss:List ByteArray}{k:Nat}(h:x∉ss.take k)(hk:ss[k]? = some x):ixS x ss=some k:=by
 induction ss generalizing k with
 |nil=>simp at hk
 |cons y r ih=>
  cases k with
  |zero=>
   simp at hk;rw[ixS,if_pos hk]
  |succ k=>
   simp only[List.take_succ_cons,List.mem_cons,not_or]at h;rw[ixS,if_neg (fun e=>h.1 e.symm),ih h.2 (by simpa using hk)];rfl
theorem a0d{x:ByteArray}{ss:List ByteArray}{k:Nat}(h:ixS x ss=some k):ss[k]? = some x:=by
 induction ss generalizing k with
 |nil=>simp[ixS]at h
 |cons y r ih=>
  rw[ixS]at h;split at h
  ·next e=>obtain rfl:=Option.some.inj h;simp[e]
  ·cases hr:ixS x r with
   |none=>rw[hr]at h;simp at h
   |some m=>
    rw[hr]at h;simp at h;subst h;simpa using ih hr
theorem ayl{x:ByteArray}{ss:List ByteArray}(h:ixS x ss=none):x∉ss:=by
 induction ss with
 |nil=>simp
 |cons y r ih=>
  rw[ixS]at h;split at h
  ·simp at h
  ·next e=>
   have:ixS x r=none:=by cases hr:ixS x r <;> simp[hr]at h ⊢
   simp only[List.mem_cons,not_or];exact⟨fun e'=>e e'.symm,ih this⟩
def ixV(o:Option Nat):Value:=match o with|some k=>.int .i64 (k:Int)|none=>.int .i64 (-1)
theorem Strs.parts{w:World}{ao:Option Addr}{n cap:Nat}{ss:List ByteArray}(h:Strs w (.slice ao n cap) ss):n=ss.length/\n<=9223372036854775807/\n<=cap/\cap<=9223372036854775807:=by
 obtain⟨ao',cap',hv,c1,c2,c3,c4⟩:=h;obtain⟨rfl,rfl,rfl⟩:=(Value.slice.injEq .. ▸ hv);exact⟨rfl,by omega,c1,c2⟩
theorem Strs.take{w:World}{ao:Option Addr}{n cap:Nat}{ss:List ByteArray}(h:Strs w (.slice ao n cap) ss)(k:Nat)(hk:k<=ss.length):Strs w (.slice ao k cap) (ss.take k):=by
 obtain⟨ao',cap',hv,c1,c2,c3,c4⟩:=h;obtain⟨rfl,rfl,rfl⟩:=(Value.slice.injEq .. ▸ hv);refine⟨ao,cap,by rw[List.length_take,Nat.min_eq_left hk],by rw[List.length_take];omega,c2,by simp,?_⟩;rcases c4 with c4|⟨b,off,rfl,hl,hc⟩
 ·exact .inl (by rw[List.length_take];omega)
 ·refine .inr ⟨b,off,rfl,hl,fun j u hu=>hc j u ?_⟩;rw[List.map_take,List.getElem?_take]at hu;split at hu
  ·exact hu
  ·cases hu
theorem af2(w:World)(ao:Option Addr)(n cap:Nat)(ss:List ByteArray)(x:ByteArray)(h:Strs w (.slice ao n cap) ss):
  Calls Tryz.prog 73 #[.slice ao n cap,.string x] w fun e w'=>e=.returned (ixV (ixS x ss))/\w'=w:=by
 obtain⟨hn,hb,_,_⟩:=h.parts;have H:=hide h;clear h;go_enter Tryz.func73,Tryz.ntmps73
 go_wp2;go_loopw [5,8] (fun _ iv wr=>∃(i:Nat),iv=.int .i64 i/\i<=n/\x∉ss.take i/\wr=w) (fun _ iv _=>n-(intOf iv).toNat)
 case atStart=>exact⟨0,rfl,Nat.zero_le _,by simp,rfl⟩
 case round=>
  obtain⟨i,rfl,hi,hz,rfl⟩:=hrel;have HZ:=hide hz;clear hz;by_cases hlt:i<n
  ·have hget:ss[i]? = some (ss[i]'(by omega)):=List.getElem?_eq_getElem _;obtain⟨b,off,rfl,hbl,hc⟩:=H.out.cell hget;have hlt':(i:Int)<(n:Int):=by omega
   generalize ss[i]'(by omega)=y at hc hget;have HG:=hide hget;clear hget;by_cases he:x=y
   ·subst he;go_wp2;go_ret;exact⟨by rw[awk HZ.out HG.out];rfl,rfl⟩
   ·have hne:(x.toList==y.toList)=false:=afz he;go_wp2;go_roundw
    case rel=>exact⟨i+1,by go_num,by omega,by rw[List.take_add_one,HG.out];simp[HZ.out,he],trivial⟩
    case measure=>simp[intOf];omega
  ·have hlt':decide ((i:Int)<(n:Int))=false:=by simp;omega
   go_wp2;go_ret;exact⟨by have:=HZ.out;rw[List.take_of_length_le (by omega)]at this;rw[al6 this];rfl,rfl⟩
theorem akg(w:World)(ao:Option Addr)(n cap:Nat)(ss:List ByteArray)(x:ByteArray)(h:Strs w (.slice ao n cap) ss):
  Calls Tryz.prog 39 #[.slice ao n cap,.string x] w fun e w'=>e=.returned (.bool (ixS x ss).isSome)/\w'=w:=by
 have K:=hide (af2 w ao n cap ss x h);clear h;generalize hg:ixS x ss=o at K;have HG:=hide hg;clear hg;cases o with
 |none=>
  unfold ixV at K;go_enter Tryz.func39,Tryz.ntmps39
  go_wp2_with fail
  refine K.out.mono ?_;rintro e w' ⟨rfl,rfl⟩;go_wp2;go_ret;exact⟨rfl,rfl⟩
 |some k=>
  unfold ixV at K;have hk:(0:Int)<=(k:Int):=by omega
  go_enter Tryz.func39,Tryz.ntmps39
  go_wp2_with fail
  refine K.out.mono ?_;rintro e w' ⟨rfl,rfl⟩;go_wp2;go_ret;exact⟨rfl,rfl⟩
open Classical in
noncomputable def isNm(s:ByteArray):Bool:=decide (s.size<=4096/\∃gs e o,Snd s pl0 gs e/\ScanR s e gs o/\nmS s o=true)
open Classical in
theorem ajk{s:ByteArray}{gs:List Gl}{e:Pl}{o:SO}(hs:s.size<=4096)(hQ:Snd s pl0 gs e)(hR:ScanR s e gs o):nmS s o=isNm s:=by
 unfold isNm;by_cases h:nmS s o=true
 ·rw[h,decide_eq_true ⟨hs,gs,e,o,hQ,hR,h⟩]
 ·rw[Bool.not_eq_true]at h;rw[h,eq_comm,decide_eq_false_iff_not];rintro ⟨_,gs',e',o',h1,h2,h3⟩;obtain⟨rfl,rfl⟩:=h1.one hQ;obtain rfl:=h2.one hR;rw[h]at h3;cases h3
open Classical in
theorem agp{s:ByteArray}(hs:4096<s.size):isNm s=false:=by
 unfold isNm;rw[decide_eq_false_iff_not];rintro ⟨h,_⟩;omega
theorem aym(w:World)(hT:Tabs w)(s:ByteArray):Calls Tryz.prog 38 #[.string s] w fun r w'=>Below w.heap.size w w'/\r=.returned (.bool (isNm s)):=by
 by_cases hs:4096<s.size
 ·rw[agp hs];exact atw w s hs
 ·obtain⟨gs,e,hQ⟩:=asp s s.size pl0 (by simp[pl0]);refine(atv w hT s (by omega) gs e hQ).mono ?_;rintro r w' ⟨hb,o,hR,rfl⟩;exact⟨hb,by rw[ajk (by omega) hQ hR]⟩
theorem awl(w:World)(s:ByteArray):Calls Tryz.prog 40 #[.string s] w fun r w'=>Below w.heap.size w w'/\r=.returned (.bool (isNm s)):=by
 by_cases hs:4096<s.size
 ·rw[agp hs];exact aqx w s hs
 ·obtain⟨gs,e,hQ⟩:=asp s s.size pl0 (by simp[pl0]);refine(ane w s (by omega) gs e hQ).mono ?_;rintro r w' ⟨hb,o,hR,rfl⟩;exact⟨hb,by rw[ajk (by omega) hQ hR]⟩
def NmsOk(vs:List ByteArray):Prop:=vs.length<=16/\∀(i:Nat) (x:ByteArray),vs[i]? = some x->isNm x=true/\x∉vs.take i
open Classical in
noncomputable def nmsE(vs:List ByteArray):Int:=if NmsOk vs then 0 else 1
theorem agq(w:World)(hT:Tabs w)(v:Value)(vs:List ByteArray)(h:Strs w v vs):
  Calls Tryz.prog 12 #[v] w fun e w'=>e=.returned (.int .i64 (nmsE vs))/\Below w.heap.size w w':=by
 obtain⟨ao,cap,rfl,_⟩:=id h;obtain⟨_,hb,hb2,hb3⟩:=h.parts;have H:=hide h;have HT:=hide hT;clear h hT;obtain⟨n,hn⟩:∃n,vs.length=n:=⟨_,rfl⟩;rw[hn]at H hb hb2 ⊢;have HN:=hide hn;clear hn;by_cases hbig:16<n
 ·have hbig':(16:Int)<(n:Int):=by omega
  have he:nmsE vs=1:=if_neg (fun h=>by have:=h.1;rw[HN.out]at this;omega);rw[he];clear he;go_enter Tryz.func12,Tryz.ntmps12
  go_wp2;go_ret;exact⟨rfl,Below.refl _ _⟩
 have hbig':decide ((16:Int)<(n:Int))=false:=by simp;omega
 go_enter Tryz.func12,Tryz.ntmps12
 go_wp2;go_loopw [3,4,10] (fun _ _ iv wr=>∃(i:Nat),iv=.int .i64 i/\i<=n/\(∀(j:Nat) (x:ByteArray),j<i->vs[j]? = some x->isNm x=true/\x∉vs.take j)/\Below w.heap.size w wr) (fun _ _ iv _=>n-(intOf iv).toNat)
 case atStart=>exact⟨0,rfl,Nat.zero_le _,by intro j x hj;omega,Below.refl _ _⟩
 case round=>
  obtain⟨i,rfl,hi,hz,hbw⟩:=hrel;have HZ:=hide hz;have HW:=hide hbw;clear hz hbw;by_cases hlt:i<n
  ·have hget:vs[i]? = some (vs[i]'(by have:=HN.out;omega)):=List.getElem?_eq_getElem _;generalize vs[i]'(by have:=HN.out;omega)=x at hget;obtain⟨b,off,rfl,hbl,hc⟩:=(H.out.below HW.out).cell hget;have HG:=hide hget;have HS:=hide (H.out.below HW.out);have hlt':(i:Int)<(n:Int):=by omega
   clear hget;have K:=hide (aym wr (HT.out.below HW.out) x);cases hnm:isNm x with
   |false=>
    have HNM:=hide hnm;rw[hnm]at K;clear hnm;have HE:Hid (nmsE vs=1):=if_neg (fun h=>by have:=(h.2 i x HG.out).1;rw[HNM.out]at this;cases this);go_wp2_with fail
    refine K.out.mono ?_;rintro r w1 ⟨hb1,rfl⟩;have HB1:=hide (HW.out.trans (hb1.mono HW.out.size));clear hb1;go_wp2;go_ret;exact⟨by rw[HE.out];rfl,HB1.out⟩
   |true=>
    have HNM:=hide hnm;rw[hnm]at K;clear hnm;go_wp2_with fail
    refine K.out.mono ?_;rintro r w1 ⟨hb1,rfl⟩;have HB1:=hide (HW.out.trans (hb1.mono HW.out.size));have HS1:=hide ((HS.out.below hb1).take i (by have:=HN.out;omega));clear hb1;have K2:=hide (akg w1 _ _ _ _ x HS1.out);by_cases hm:x∈vs.take i
    ·have e1:(ixS x (vs.take i)).isSome=true:=by
      cases hq:ixS x (vs.take i) with
      |none=>exact absurd hm (ayl hq)
      |some k=>rfl
     rw[e1]at K2;have HE:Hid (nmsE vs=1):=if_neg (fun h=>(h.2 i x HG.out).2 hm);clear e1;go_wp2_with fail
     refine K2.out.mono ?_;rintro r w2 ⟨rfl,rfl⟩;go_wp2;go_ret;exact⟨by rw[HE.out];rfl,HB1.out⟩
    ·have e1:(ixS x (vs.take i)).isSome=false:=by rw[al6 hm];rfl
     rw[e1]at K2;have HM:=hide hm;clear e1 hm;go_wp2_with fail
     refine K2.out.mono ?_;rintro r w2 ⟨rfl,rfl⟩;go_wp2;go_roundw
     case rel=>
      refine⟨i+1,by go_num,by omega,?_,HB1.out⟩;intro j y hj hy;by_cases hji:j=i
      ·subst hji;rw[HG.out]at hy;obtain rfl:=Option.some.inj hy;exact⟨HNM.out,HM.out⟩
      ·exact HZ.out j y (by omega) hy
     case measure=>simp[intOf];omega
  ·have hlt':decide ((i:Int)<(n:Int))=false:=by simp;omega
   have HE:Hid (nmsE vs=0):=if_pos ⟨by rw[HN.out];omega,fun j x hj=>HZ.out j x (by have:=(List.getElem?_eq_some_iff.1 hj).1;rw[HN.out]at this;omega) hj⟩;go_wp2;go_ret;exact⟨by rw[HE.out];rfl,HW.out⟩
noncomputable def lefts(zs:List Int)(vs:List ByteArray):Nat->List UInt8
 |0=>[]
 |k+1=>lefts zs vs k++tterm (zs.getD k 0) (decide (lefts zs vs k = [])) (vs.getD k ⟨#[]⟩).data.toList
noncomputable def prn(zs:List Int)(vs:List ByteArray):ByteArray:=⟨(if lefts zs vs vs.length = []then [48]else lefts zs vs vs.length).toArray⟩++⟨#[32,61,32]⟩++txt (zs.getD vs.length 0)
theorem ai0(x y:List UInt8):(⟨x.toArray⟩:ByteArray)++⟨y.toArray⟩=⟨(x++y).toArray⟩:=by
 apply ByteArray.ext;rw[ByteArray.data_append];simp
theorem ag4(x:List UInt8):(⟨x.toArray⟩:ByteArray).size=x.length:=by
 show x.toArray.size=_;simp
theorem aj8{z:Int}{L:Nat}(h:(z.natAbs:Int)<pw L)(first:Bool)(nm:List UInt8):(tterm z first nm).length<=10*L+6+nm.length:=by
 unfold tterm;have h1:=aev (z:=(z.natAbs:Int)) (L:=L) (by rw[Int.natAbs_natCast];exact h);have h2:(tpre z first).length<=3:=by unfold tpre;split <;> split <;> simp
 have h3:(txt (z.natAbs:Int)).data.toList.length=(txt (z.natAbs:Int)).size:=by rw[Array.length_toList];rfl
 split
 ·simp
 ·split
  ·simp only[List.length_append,List.length_nil];omega
  ·simp only[List.length_append,List.length_cons,List.length_nil,h3];omega
theorem agr{s:ByteArray}(h:isNm s=true):s.size<=4096:=by
 apply Classical.byContradiction;intro hs;rw[agp (by omega)]at h;cases h
theorem ags{zs:List Int}{vs:List ByteArray}{L:Nat}(hz:∀z∈zs,(z.natAbs:Int)<pw L)(hN:NmsOk vs):∀k,k<=vs.length->k<zs.length->(lefts zs vs k).length<=k*(10*L+4102)
 |0,_,_=>by simp[lefts]
 |k+1,h1,h2=>by
  have ih:=ags hz hN k (by omega) (by omega);have e1:zs.getD k 0=zs[k]:=by rw[List.getD_eq_getElem?_getD,List.getElem?_eq_getElem (by omega)];rfl
  have e2:vs.getD k ⟨#[]⟩=vs[k]:=by rw[List.getD_eq_getElem?_getD,List.getElem?_eq_getElem (by omega)];rfl
  have h3:=aj8 (hz zs[k] (List.getElem_mem _)) (decide (lefts zs vs k = [])) vs[k].data.toList;have h4:=agr (hN.2 k vs[k] (List.getElem?_eq_getElem _)).1;have h5:vs[k].data.toList.length=vs[k].size:=by rw[Array.length_toList];rfl
  rw[lefts,e1,e2,List.length_append,Nat.add_mul];omega
theorem al7{w:World}{v:Value}{zs:List Int}{L:Nat}(h:IsRow w v zs L):∀z∈zs,(z.natAbs:Int)<pw L:=by
 intro z hz;obtain⟨k,hk⟩:=List.mem_iff_getElem?.1 hz;obtain⟨ao,cap,rfl,_⟩:=h.parts;obtain⟨b,off,ng,a,m,c,_,_,_,_,hw⟩:=h.cell hk;exact aeu hw
theorem aj9(w:World)(hT:Tabs w)(rv vv:Value)(zs:List Int)(vs:List ByteArray)(L:Nat)(hr:IsRow w rv zs L)(hL:L<=100000)(hv:Strs w vv vs)(hN:NmsOk vs)(hl:zs.length=vs.length+1):
  Calls Tryz.prog 26 #[rv,vv] w fun e w'=>e=.returned (.tuple #[.string (prn zs vs),.int .i64 0])/\Below w.heap.size w w':=by
 obtain⟨ra,rc,rfl,_⟩:=hr.parts;obtain⟨va,vc,rfl,_⟩:=id hv;have K:=agq w hT _ _ hv;rw[show nmsE vs=0 from if_pos hN]at K;have hlt:=al7 hr;obtain⟨n,hnn⟩:∃n,vs.length=n:=⟨_,rfl⟩;have hn16:n<=16:=by have:=hN.1;omega
 rw[hl]at hr ⊢;rw[hnn]at K hr hv hl ⊢;have K:=hide K;have HR:=hide hr;have HV:=hide hv;have HN:=hide hN;have HNN:=hide hnn;have HL:=hide hl;have HLEN:Hid (∀k,k<=n->(lefts zs vs k).length<=k*(10*L+4102)):=(fun k hk=>ags hlt hN k (by omega) (by omega));have HLT:=hide hlt;obtain⟨z9,hz9⟩:∃z,zs[n]? = some z:=⟨_,List.getElem?_eq_getElem (by omega)⟩;obtain⟨b,off,ng9,a9,m9,c9,rfl,hbl,_,_,_⟩:=hr.cell hz9;have HZ9:=hide hz9;have HP:Hid (prn zs vs=⟨(if lefts zs vs n = []then [48]else lefts zs vs n).toArray⟩++⟨#[32,61,32]⟩++txt z9):=(show _=_ by unfold prn;rw[hnn,List.getD_eq_getElem?_getD,hz9];rfl);have hwn:IntKind.i64.wrap ((n:Int)+1)=(n:Int)+1:=by rw[IntKind.wrap_i64];omega
 have hne:(((n+1:Nat):Int) != (n:Int)+1)=false:=by simp
 clear hT hr hv hN hnn hl hlt hz9;go_enter Tryz.func26,Tryz.ntmps26
 go_wp2_with fail
 refine K.out.mono ?_;rintro e w1 ⟨rfl,hb1⟩;have HB1:=hide hb1;clear hb1 K;go_wp2_with fail
 go_loopw [6,7,8,22] (fun lv _ _ iv wr=>∃k:Nat,iv=.int .i64 k/\k<=n/\lv=.string ⟨(lefts zs vs k).toArray⟩/\Below w.heap.size w wr) (fun _ _ _ iv _=>n-(intOf iv).toNat)
 case atStart=>exact⟨0,rfl,Nat.zero_le _,rfl,HB1.out⟩
 case round=>
  obtain⟨k,rfl,hk,rfl,hbw⟩:=hrel;have HW:=hide hbw;have hll:=HLEN.out k hk;obtain⟨sl,hsl⟩:∃sl,(⟨(lefts zs vs k).toArray⟩:ByteArray)=sl:=⟨_,rfl⟩;have hss:sl.size=(lefts zs vs k).length:=by rw[<-hsl,ag4]
  have hsb:sl.size<=16*(10*L+4102):=by rw[hss];exact Nat.le_trans hll (Nat.mul_le_mul_right _ (by omega))
  rw[hsl];by_cases hlt:k<n
  ·have hlt':(k:Int)<(n:Int):=by omega
   obtain⟨z,hz⟩:∃z,zs[k]? = some z:=⟨_,List.getElem?_eq_getElem (by have:=HL.out;omega)⟩;obtain⟨x,hx⟩:∃x,vs[k]? = some x:=⟨_,List.getElem?_eq_getElem (by have:=HNN.out;omega)⟩;obtain⟨b',off',ng,a,m,c,hao,_,x0,x1,hxw⟩:=(HR.out.below hbw).cell hz;obtain⟨rfl,rfl⟩:b=b'/\off=off':=by simpa using hao
   obtain⟨bv,ov,rfl,hbvl,v0⟩:=(HV.out.below hbw).cell hx;have hxs:=agr (HN.out.2 k x hx).1;have hkn:(k:Int)<((n+1:Nat):Int):=by omega
   obtain⟨f,hf⟩:∃f,decide (lefts zs vs k = [])=f:=⟨_,rfl⟩;have hef:(sl.toList == [])=f:=by
    rw[<-hf,<-hsl];by_cases h0:lefts zs vs k = []
    ·rw[h0,ByteArray.toList_eq];rfl
    ·rw[decide_eq_false h0,beq_eq_false_iff_ne];intro e;rw[ByteArray.toList_eq]at e;exact h0 (by simpa using e)
   have K:=hide (awe wr z L _ x f hxw hL (by omega));have hstep:lefts zs vs (k+1)=lefts zs vs k++tterm z f x.data.toList:=by rw[lefts,List.getD_eq_getElem?_getD,List.getD_eq_getElem?_getD,hz,hx,hf];rfl
   have htl:=aj8 (HLT.out z (List.mem_of_getElem? hz)) f x.data.toList;have hxl:x.data.toList.length=x.size:=by rw[Array.length_toList];rfl
   generalize tterm z f x.data.toList=tt at K hstep htl;have hadd:∀W,(Op.stringOp .add sl ⟨tt.toArray⟩).run Tryz.prog W=.ok (.string ⟨(lefts zs vs (k+1)).toArray⟩) W:=fun W=>by
    rw[run_string_add_sum (P:=Tryz.prog) W sl ⟨tt.toArray⟩ (by rw[ag4 tt];omega),<-hsl,ai0,hstep]
   clear hbw hxw hao hz hx hf hsl hstep htl hxl hll hss hxs;generalize (⟨tt.toArray⟩:ByteArray)=tb at K hadd;go_wp2_with fail
   refine K.out.mono ?_;rintro e w2 ⟨rfl,hb2⟩;have HB2:=hide (HW.out.trans (hb2.mono HW.out.size));clear hb2 K;go_wp2;go_roundw
   case rel=>exact⟨k+1,by go_num,by omega,rfl,HB2.out⟩
   case measure=>simp[intOf];omega
  ·have hlt':decide ((k:Int)<(n:Int))=false:=by simp;omega
   obtain rfl:k=n:=by omega
   obtain⟨b',off',ng,a,m,c,hao,_,x0,x1,hxw⟩:=(HR.out.below hbw).cell HZ9.out;obtain⟨rfl,rfl⟩:b=b'/\off=off':=by simpa using hao
   have hts:=aev (HLT.out z9 (List.mem_of_getElem? HZ9.out));have K:=hide (wtextF wr z9 _ L hxw (by omega));have hkn:(k:Int)<((k+1:Nat):Int):=by omega
   generalize txt z9=t9 at K HP hts;by_cases h0:lefts zs vs k = []
   ·have HP':=HP.out;rw[if_pos h0]at HP';have HP':=hide HP';obtain rfl:sl=⟨#[]⟩:=by rw[<-hsl,h0]
    have ha1:∀W,(Op.stringOp .add ⟨#[48]⟩ ⟨#[32,61,32]⟩).run Tryz.prog W=.ok (.string ⟨#[48,32,61,32]⟩) W:=fun W=>run_string_add_sum (P:=Tryz.prog) W _ _ (by decide)
    have ha2:∀W,(Op.stringOp .add ⟨#[48,32,61,32]⟩ t9).run Tryz.prog W=.ok (.string (⟨#[48,32,61,32]⟩++t9)) W:=fun W=>run_string_add_sum (P:=Tryz.prog) W _ _ (by show 4+_<=_;omega)
    clear hbw hxw hao h0 hsl hll hss hsb hts;go_wp2_with fail
    refine K.out.mono ?_;rintro e w2 ⟨rfl,hb2⟩;have HB2:=hide (HW.out.trans (hb2.mono HW.out.size));clear hb2 K;go_wp2;refine bodyPost_ret (v:=_) (by simp[results,Tryz.results26,go_sem];try rfl) rfl ⟨by rw[HP'.out];rfl,HB2.out⟩
   ·have HP':=HP.out;rw[if_neg h0,hsl]at HP';have HP':=hide HP';have hef:(sl.toList == [])=false:=by
     rw[<-hsl,beq_eq_false_iff_ne];intro e;rw[ByteArray.toList_eq]at e;exact h0 (by simpa using e)
    have hsz3:(sl++⟨#[32,61,32]⟩:ByteArray).size=sl.size+3:=by rw[ByteArray.size_append];rfl
    have ha1:∀W,(Op.stringOp .add sl ⟨#[32,61,32]⟩).run Tryz.prog W=.ok (.string (sl++⟨#[32,61,32]⟩)) W:=fun W=>run_string_add_sum (P:=Tryz.prog) W _ _ (by show _+3<=_;omega)
    have ha2:∀W,(Op.stringOp .add (sl++⟨#[32,61,32]⟩) t9).run Tryz.prog W=.ok (.string (sl++⟨#[32,61,32]⟩++t9)) W:=fun W=>run_string_add_sum (P:=Tryz.prog) W _ _ (by omega)
    generalize (sl++⟨#[32,61,32]⟩:ByteArray)=s3 at ha1 ha2 HP';generalize s3++t9=s4 at ha2 HP';clear hbw hxw hao h0 hsl hll hss hsb hts hsz3;go_wp2_with fail
    refine K.out.mono ?_;rintro e w2 ⟨rfl,hb2⟩;have HB2:=hide (HW.out.trans (hb2.mono HW.out.size));clear hb2 K;go_wp2;refine bodyPost_ret (v:=_) (by simp[results,Tryz.results26,go_sem];try rfl) rfl ⟨by rw[HP'.out],HB2.out⟩
theorem infoWz:(Tryz.prog.info? 60).map (fun i=>(i.zero,i.size,i.bytes))=some (some (.agg #[.bool false,.slice none 0 0]),2,32):=by kernel_rfl
theorem infoRz:(Tryz.prog.info? 62).map (fun i=>(i.zero,i.size,i.bytes))=some (some (.agg #[.bool false,.slice none 0 0,.slice none 0 0]),3,56):=by kernel_rfl
theorem info_parts{P:Program}{T:TypeId}{z:Value}{size bytes:Nat}(h:(P.info? T).map (fun i=>(i.zero,i.size,i.bytes))=some (some z,size,bytes)):∃i,P.info? T=some i/\i.zero=some z/\i.size=size/\i.bytes=bytes:=by
 obtain⟨i,hi,hz⟩:=Option.map_eq_some_iff.1 h;simp only[Prod.mk.injEq]at hz;exact⟨i,hi,hz.1,hz.2.1,hz.2.2⟩
theorem a0e{z d N:Int}(h:(z.natAbs:Int)<N):((z/d).natAbs:Int)<N:=by
 have:=Int.natAbs_ediv_le_natAbs z d;omega
theorem anf(w:World)(v:Value)(zs:List Int)(L:Nat)(h:IsRow w v zs L)(hL:L<=100000)(hl:zs.length<=1000000):
  Calls Tryz.prog 53 #[v] w fun e w'=>∃r,e=.returned r/\ORow w.heap.size w' r (red zs) L/\Below w.heap.size w w':=by
 obtain⟨ao,cap,rfl,_⟩:=h.parts;have H:=hide h;have K:=hide (am6 w _ zs L h hL);clear h;obtain⟨n,hnn⟩:∃n,zs.length=n:=⟨_,rfl⟩;have HRL:Hid ((red zs).length=n):=(show(red zs).length=n by simp[red,hnn]);rw[hnn]at H K hl ⊢;have HN:=hide hnn;clear hnn;obtain⟨iW,hi,hz0,hz1,hz2⟩:=info_parts infoWz;go_enter Tryz.func53,Tryz.ntmps53
 go_wp2_with fail
 refine K.out.mono ?_;rintro e w1 ⟨r,rfl,ho,hb1⟩;obtain⟨ngd,ad,capd,rsd,rfl,_⟩:=id ho;have hbA:=hAl w1 (.cells #[.bool ngd,.slice ad rsd.length capd] 60);go_wp2_with (refine wpList_make_full _ rfl (.tmp 10) (.tmp 10) 23 rfl w.heap.size 60 iW (.agg #[.bool false,.slice none 0 0]) 2 Tryz.underlying23 hi hz0 hz1 .i64 .i64 _ _ n rfl rfl (by omega) (by omega) (by rw[hz2];omega) (by unfold maxLen;omega) (by have:=hb1.size;simp;omega) ?hK)
 case hK=>
  intro w2 hown hgrow;have hb2:Below (w1.alloc (.cells #[.bool ngd,.slice ad rsd.length capd] 60)).heap.size (w1.alloc (.cells #[.bool ngd,.slice ad rsd.length capd] 60)) w2:=(Below.refl _ _).grown hgrow (Nat.le_refl _) (by simp);obtain⟨_,hmb⟩:=aeg hown;rw[als]at hmb;have hP0:PRow w.heap.size w2 (w1.heap.size+1) n 0 (red zs) L:=PRow.start hmb;have hbox:w2.heap[w1.heap.size]? = some (.cells #[.bool ngd,.slice ad rsd.length capd] 60 (0,0)):=(hb2.block _ (by simp)).trans (heap_alloc_new w1 _);have HP0:=hide hP0;have HBX:=hide hbox;have HO:=hide (ho.ru ((Ru.of_below hbA).trans (Ru.of_below hb2)));have hb12:Below w.heap.size w w2:=(hb1.trans (hbA.mono hb1.size)).trans (hb2.mono (Nat.le_trans hb1.size hbA.size));have HB:=hide hb12;have hw1:=hb1.size;generalize w1.heap.size=fb at *
  clear hown hgrow hb2 hmb hP0 hbox ho hbA hb12 hb1;go_wp2;go_loopw [5,6,14] (fun _ _ iv wr=>∃(k:Nat),iv=.int .i64 k/\k<=n/\Below w.heap.size w wr/\PRow w.heap.size wr (fb+1) n k (red zs) L/\wr.heap[fb]? = some (.cells #[.bool ngd,.slice ad rsd.length capd] 60 (0,0))/\OutW (dvs zs) L (.agg #[.bool ngd,.slice ad rsd.length capd]) wr) (fun _ _ iv _=>n-(intOf iv).toNat)
  case atStart=>exact⟨0,rfl,Nat.zero_le _,HB.out,HP0.out,HBX.out,HO.out⟩
  case round=>
   obtain⟨k,rfl,hk,hbw,hp,hbx,ho⟩:=hrel;have HW:=hide hbw;have HP:=hide hp;have HBXr:=hide hbx;have HOr:=hide ho;by_cases hlt:k<n
   ·obtain⟨z,hz⟩:∃z,zs[k]? = some z:=⟨_,List.getElem?_eq_getElem (by have:=HN.out;omega)⟩;obtain⟨b,off,ngx,ax,mx,cx,rfl,hbl,x0,x1,hx⟩:=H.out.cell hz;replace x0:=(hbw.cell (p:=⟨b,off+k*2,none⟩) hbl).trans x0;replace x1:=(hbw.cell (p:=⟨b,off+k*2+1,none⟩) hbl).trans x1;have HX:=hide (hx.ru (Ru.of_below hbw));have HZ:=hide hz;have hlt':(k:Int)<(n:Int):=by omega
    obtain⟨h3l,y0,y1,_,_⟩:=aam hbx;have hba:Below wr.heap.size wr (wr.alloc (.cells #[.bool ngx,.slice ax mx cx] 60)):=hAl _ _;clear hbw hp hbx ho hx hz;go_wp2_with fail
    refine(ae8 _ z (dvs zs) _ _ L L (HX.out.ru (Ru.of_below hba)) (HOr.out.is.ru (Ru.of_below hba)) (by omega) (by omega)).mono ?_;rintro e w3 ⟨v1,rfl,h1,hb3⟩;have hb3':=hba.trans (hb3.mono hba.size);have hF:=h1.fit (a0e (d:=dvs zs) (aeu HX.out));obtain⟨ng1,ao1,k1,cap1,rfl⟩:=h1.agg;have HF:=hide (hF.low hba.size);obtain⟨⟨ngp,ap,mp,cp,p0,p1⟩,pf0,pf1⟩:=(HP.out.below hb3').cells hlt;have hpl:=(HP.out.below hb3').lt;have HB3:=hide hb3';clear h1 hF hb3 hb3' hba x0 x1 y0 y1;go_wp2;obtain⟨q1,q2⟩:=HP.out.put (Nat.le_refl _) HB3.out hlt (show(red zs)[k]? = some (z/dvs zs) by rw[red,List.getElem?_map,HZ.out];rfl) HW.out.size HF.out;go_roundw
    case rel=>
     refine⟨k+1,by go_num,by omega,?_,q1,?_,HOr.out.ru q2.ru⟩
     ·have:=q2.below HW.out.size (Nat.le_succ_of_le hw1) (Nat.le_succ_of_le hw1);exact HW.out.trans this
     ·exact(q2.other fb (aaa HBXr.out) (by omega) (by omega)).trans HBXr.out
    case measure=>simp[intOf];omega
   ·have hlt':decide ((k:Int)<(n:Int))=false:=by simp;omega
    have hkn:k=n:=by omega
    subst hkn;clear hbw hp hbx ho;go_wp2;refine bodyPost_ret (v:=.slice (some ⟨fb+1,0,none⟩) k k) (acs rfl rfl) rfl ⟨_,rfl,⟨fb+1,by rw[HRL.out],by omega,by rw[HRL.out];exact HP.out,by rw[HRL.out];exact hl⟩,HW.out⟩
def IsQrow(w:World)(v:Value)(rs:List Rat)(L:Nat):Prop:=∃es:List RE,Ce w v 3 es.length (rf3 es)/\es.length=rs.length/\∀(k:Nat) (e:RE) (r:Rat),es[k]? = some e->rs[k]? = some r->IsQ r L e.v w
theorem IsQrow.parts{w:World}{v:Value}{rs:List Rat}{L:Nat}(h:IsQrow w v rs L):∃ao cap,v=.slice ao rs.length cap/\rs.length<=9223372036854775807:=by
 obtain⟨es,⟨ao,cap,rfl,c1,c2,_⟩,h2,h3⟩:=h;exact⟨ao,cap,by rw[h2],by omega⟩
theorem IsQrow.cell{w:World}{ao:Option Addr}{n cap:Nat}{rs:List Rat}{L k:Nat}{r:Rat}(h:IsQrow w (.slice ao n cap) rs L)(hr:rs[k]? = some r):∃b off ng a m c d e f,ao=some ⟨b,off,none⟩/\b<w.heap.size/\w.cell? ⟨b,off+k*3,none⟩=some (.bool ng)/\w.cell? ⟨b,off+k*3+1,none⟩=some (.slice a m c)/\w.cell? ⟨b,off+k*3+2,none⟩=some (.slice d e f)/\IsQ r L (.agg #[.bool ng,.slice a m c,.slice d e f]) w:=by
 obtain⟨es,⟨ao',cap',hv,c1,c2,c3,c4⟩,h2,h3⟩:=h;obtain⟨rfl,rfl,rfl⟩:=(Value.slice.injEq .. ▸ hv);have hk:k<rs.length:=(List.getElem?_eq_some_iff.1 hr).1;obtain⟨x,hx⟩:∃x,es[k]? = some x:=⟨_,List.getElem?_eq_getElem (by omega)⟩;rcases c4 with c4|⟨b,off,rfl,hl,hc⟩
 ·omega
 ·obtain⟨f0,f1,f2⟩:=aiv hx;exact⟨b,off,_,_,_,_,_,_,_,rfl,hl,hc _ _ f0,hc _ _ f1,hc _ _ f2,h3 k x r hx hr⟩
theorem RQ.row_is{w:World}{g b:Nat}{rs:List Rat}{L:Nat}(h:RQ w g b rs L)(hl:rs.length<=1000000):IsQrow w (.slice (some ⟨b,0,none⟩) rs.length rs.length) rs L:=by
 obtain⟨es,e1,e2,e3⟩:=h.row;refine⟨es,⟨_,_,by rw[e1],by omega,by omega,aiu es,.inr ⟨b,0,rfl,aaa e2,fun j u hu=>?_⟩⟩,e1,e3⟩;rw[Nat.zero_add,cell_of_row _ _ _ _ _ (0,0) e2,List.getElem?_toArray];exact hu
theorem aqy{r:Rat}{L:Nat}{v:Value}{w:World}(h:IsQ r L v w)(hL:1<=L):Fit r L:=by
 obtain⟨ng,ao,n,cap,xs,bo,m,dap,ys,p,q,rfl,h2,h3,h4,h5,h6,h7⟩:=h.open;have hp:(p.natAbs:Int)<pw L:=aeu (v:=.agg #[.bool ng,.slice ao n cap]) (w:=w) ⟨_,_,_,_,_,rfl,h2,h5⟩;have hq:(q.natAbs:Int)<pw L:=aeu (v:=.agg #[.bool false,.slice bo m dap]) (w:=w) ⟨_,_,_,_,_,rfl,⟨h3,h4⟩,h6⟩;subst h7;refine⟨?_,?_⟩
 ·rw[Rat.num_divInt];have h1:=Int.natAbs_ediv_le_natAbs (q.sign*p) (Int.gcd q p:Int);have h2:(q.sign*p).natAbs<=p.natAbs:=by
   rw[Int.natAbs_mul];have:q.sign.natAbs<=1:=by
    rcases Int.lt_trichotomy q 0 with h|h|h
    ·rw[Int.sign_eq_neg_one_of_neg h];decide
    ·subst h;decide
    ·rw[Int.sign_eq_one_of_pos h];decide
   calc q.sign.natAbs*p.natAbs<=1*p.natAbs:=Nat.mul_le_mul_right _ this
    _=p.natAbs:=Nat.one_mul _
  omega
 ·rw[Rat.den_divInt];split
  ·have:=aa9 hL;have h1:(1:Int)<pw 1:=by decide
   show(1:Int)<_;omega
  ·have:=Nat.div_le_self q.natAbs (Int.gcd q p);omega
def PQ(w:World)(bv n i:Nat)(rs:List Rat)(L:Nat):Prop:=
 ∃es:List RE,es.length=n/\w.heap[bv]? = some (.cells (rf3 es).toArray 62 (0,0))/\∀(k:Nat) (e:RE) (r:Rat),k<i->es[k]? = some e->rs[k]? = some r->OutQr r L e.v w
theorem PQ.lt{w:World}{bv n i:Nat}{rs:List Rat}{L:Nat}(h:PQ w bv n i rs L):bv<w.heap.size:=by
 obtain⟨es,h1,h2,_⟩:=h;exact aaa h2
theorem PQ.ru{w w':World}{bv n i:Nat}{rs:List Rat}{L:Nat}(h:PQ w bv n i rs L)(hr:Ru w w')(hb:w'.heap[bv]? = w.heap[bv]?):PQ w' bv n i rs L:=by
 obtain⟨es,h1,h2,h3⟩:=h;exact⟨es,h1,hb.trans h2,fun k e r hk a1 a2=>(h3 k e r hk a1 a2).ru hr⟩
theorem PQ.below{w w':World}{bv n i:Nat}{rs:List Rat}{L:Nat}(h:PQ w bv n i rs L)(hb:Below w.heap.size w w'):PQ w' bv n i rs L:=h.ru (Ru.of_below hb) (hb.block bv h.lt)
theorem PQ.cells{w:World}{bv n i:Nat}{rs:List Rat}{L:Nat}(h:PQ w bv n i rs L){k:Nat}(hk:k<n):(∃ng a m c d e f,w.cell? ⟨bv,k*3,none⟩=some (.bool ng)/\w.cell? ⟨bv,k*3+1,none⟩=some (.slice a m c)/\w.cell? ⟨bv,k*3+2,none⟩=some (.slice d e f)/\∀r,k<i->rs[k]? = some r->OutQr r L (.agg #[.bool ng,.slice a m c,.slice d e f]) w)/\w.frozen? ⟨bv,k*3,none⟩=false/\w.frozen? ⟨bv,k*3+1,none⟩=false/\w.frozen? ⟨bv,k*3+2,none⟩=false:=by
 obtain⟨es,h1,h2,h3⟩:=h;obtain⟨e,he⟩:∃e,es[k]? = some e:=⟨_,List.getElem?_eq_getElem (by omega)⟩;obtain⟨f1,f2,f3⟩:=aiv he;exact⟨⟨e.ng,e.a,e.m,e.c,e.d,e.k,e.e,by rw[cell_of_row _ _ _ _ _ (0,0) h2,List.getElem?_toArray];exact f1,by rw[cell_of_row _ _ _ _ _ (0,0) h2,List.getElem?_toArray];exact f2,by rw[cell_of_row _ _ _ _ _ (0,0) h2,List.getElem?_toArray];exact f3,fun r hk hr=>h3 k e r hk he hr⟩,frozen_of_row _ _ _ _ _ h2,frozen_of_row _ _ _ _ _ h2,frozen_of_row _ _ _ _ _ h2⟩
theorem PQ.put{w1 w2:World}{bv n i:Nat}{rs:List Rat}{L:Nat}{r:Rat}{ng:Bool}{a d:Option Addr}{m c e f:Nat}(h:PQ w1 bv n i rs L)(hb:Below w1.heap.size w1 w2)(hi:i<n)(hr:rs[i]? = some r)(hv:OutQr r L (.agg #[.bool ng,.slice a m c,.slice d e f]) w2):
  PQ (((w2.setCell ⟨bv,i*3,none⟩ (.bool ng)).setCell ⟨bv,i*3+1,none⟩ (.slice a m c)).setCell ⟨bv,i*3+2,none⟩ (.slice d e f)) bv n (i+1) rs L/\Rc bv bv w1 (((w2.setCell ⟨bv,i*3,none⟩ (.bool ng)).setCell ⟨bv,i*3+1,none⟩ (.slice a m c)).setCell ⟨bv,i*3+2,none⟩ (.slice d e f)):=by
 have h1:=h.below hb;obtain⟨es,e1,e2,e3⟩:=h1;generalize hW:(((w2.setCell ⟨bv,i*3,none⟩ (.bool ng)).setCell ⟨bv,i*3+1,none⟩ (.slice a m c)).setCell ⟨bv,i*3+2,none⟩ (.slice d e f))=W;have hbW:W.heap[bv]? = some (.cells (rf3 (es.set i ⟨ng,a,m,c,d,e,f⟩)).toArray 62 (0,0)):=by
  rw[<-hW,aod es i _ (by omega)];have s1:=heap_setCell_same w2 bv (i*3) _ _ (.bool ng) e2;have s2:=heap_setCell_same _ bv (i*3+1) _ _ (.slice a m c) s1;have s3:=heap_setCell_same _ bv (i*3+2) _ _ (.slice d e f) s2;rw[s3];simp
 have hot:∀k,k≠bv->W.heap[k]? = w2.heap[k]? :=fun k hn=>by rw[<-hW,heap_setCell_other _ ⟨bv,i*3+2,none⟩ k _ hn,heap_setCell_other _ ⟨bv,i*3+1,none⟩ k _ hn,heap_setCell_other _ ⟨bv,i*3,none⟩ k _ hn]
 have hsz:w2.heap.size<=W.heap.size:=by rw[<-hW];simp[World.setCell]
 have hru:Ru w2 W:=Ru.of_one e2 (by decide) (alr es) hsz (fun k _ hn=>hot k hn);have hrc:Rc bv bv w2 W:=⟨by rw[<-hW];rfl,by rw[<-hW];rfl,by rw[<-hW];rfl,hsz,fun k _ hn _=>hot k hn,hru⟩;refine⟨⟨es.set i ⟨ng,a,m,c,d,e,f⟩,by simp[e1],hbW,?_⟩,(Rc.of_below hb).trans hrc⟩;intro k x r' hk hx hr';by_cases hki:k=i
 ·subst hki;rw[List.getElem?_set_self (by omega)]at hx;obtain rfl:=Option.some.inj hx;rw[hr]at hr';obtain rfl:=Option.some.inj hr';exact hv.ru hru
 ·rw[List.getElem?_set_ne (fun h=>hki h.symm)]at hx;exact(e3 k x r' (by omega) hx hr').ru hru
def comR(rs:List Rat):Int:=rs.foldl (fun c r=>c*((r.den:Int)/((Int.gcd c r.den:Nat):Int))) 1
def clr(rs:List Rat):List Int:=rs.map (fun r=>r.num*(comR rs/r.den))
theorem awm:Has Tryz.prog 75:=by unfold Has;kernel_rfl
theorem al8:Has Tryz.prog 34:=by unfold Has;kernel_rfl
theorem ahj:Has Tryz.prog 92:=by unfold Has;kernel_rfl
theorem ah4{r:Rat}{L:Nat}{w:World}{ng:Bool}{a d:Option Addr}{m c e f:Nat}(h:OutQr r L (.agg #[.bool ng,.slice a m c,.slice d e f]) w):IsW r.num L (.agg #[.bool ng,.slice a m c]) w/\IsW (r.den:Int) L (.agg #[.bool false,.slice d e f]) w:=by
 obtain⟨ng',ao,cap,rs,bo,dap,ss,hv,h1,h2,l1,l2⟩:=h;simp only[Value.agg.injEq,Array.mk.injEq,List.cons.injEq,Value.bool.injEq,Value.slice.injEq,and_true]at hv;obtain⟨rfl,⟨rfl,rfl,rfl⟩,rfl,rfl,rfl⟩:=hv;exact⟨⟨_,_,_,_,_,rfl,h1.ag,l1⟩,⟨_,_,_,_,_,rfl,⟨h2.1,h2.2.2⟩,l2⟩⟩
theorem ayn{W:World}{bv n i:Nat}{rs:List Rat}{L:Nat}(h:PQ W bv n i rs L)(k:Nat)(u v x:Value):Ru W (((W.setCell ⟨bv,k*3,none⟩ u).setCell ⟨bv,k*3+1,none⟩ v).setCell ⟨bv,k*3+2,none⟩ x):=by
 obtain⟨es,h1,h2,_⟩:=h;exact Ru.of_one h2 (by decide) (alr es) (by simp[World.setCell]) (fun j _ hn=>by rw[heap_setCell_other _ ⟨bv,k*3+2,none⟩ j _ hn,heap_setCell_other _ ⟨bv,k*3+1,none⟩ j _ hn,heap_setCell_other _ ⟨bv,k*3,none⟩ j _ hn])
theorem atx{rs:List Rat}{k:Nat}{r:Rat}(h:rs[k]? = some r):comR (rs.take (k+1))=comR (rs.take k)*((r.den:Int)/((Int.gcd (comR (rs.take k)) r.den:Nat):Int)):=af1 _ _ h
theorem ang(w:World)(v:Value)(rs:List Rat)(L M:Nat)(h:IsQrow w v rs L)(hL:L<=10000)(hL1:1<=L)(hM:M<=200000)(hl:rs.length<=1000000)(hC:∀k,k<=rs.length->((comR (rs.take k)).natAbs:Int)<pw M)(hD:∀z∈clr rs,(z.natAbs:Int)<pw M):
  Calls Tryz.prog 54 #[v] w fun e w'=>∃r,e=.returned r/\ORow w.heap.size w' r (clr rs) M/\Below w.heap.size w w':=by
 obtain⟨ao,cap,rfl,_⟩:=h.parts;have H:=hide h;have HC:=hide hC;have HD:=hide hD;clear h hC hD;obtain⟨n,hnn⟩:∃n,rs.length=n:=⟨_,rfl⟩;have HRL:Hid ((clr rs).length=n):=(show(clr rs).length=n by simp[clr,hnn]);rw[hnn]at H hl HC ⊢;have HN:=hide hnn;clear hnn;obtain⟨iR,hi,hz0,hz1,hz2⟩:=info_parts infoRz;obtain⟨iW,hi',hz0',hz1',hz2'⟩:=info_parts infoWz;go_enter Tryz.func54,Tryz.ntmps54
 go_wp2_with (refine wpList_make_full _ rfl (.tmp 12) (.tmp 12) 34 rfl w.heap.size 62 iR (.agg #[.bool false,.slice none 0 0,.slice none 0 0]) 3 Tryz.underlying34 hi hz0 hz1 .i64 .i64 _ _ n rfl rfl (by omega) (by omega) (by rw[hz2];omega) (by unfold maxLen;omega) (Nat.le_refl _) ?hK)
 case hK=>
  intro w1 hown hgrow;have hb1:Below w.heap.size w w1:=(Below.refl _ _).grown hgrow (Nat.le_refl _) (by simp);obtain⟨_,hmb⟩:=aeg hown;rw[aiw]at hmb;have hP0:PQ w1 w.heap.size n 0 rs L:=⟨_,List.length_replicate,hmb,fun k e r hk=>by omega⟩;generalize hlb:w.heap.size=lb at *
  clear hown hgrow hmb;go_wp2_with fail
  refine(aeb w1 1 (by decide) (by decide)).mono ?_;rintro e w2 ⟨ng0,ao0,cap0,rs0,rfl,hw2,hl2,hb2⟩;have hbA:=hAl w2 (.cells #[.bool ng0,.slice ao0 rs0.length cap0] 60);have ho2:OutW 1 2 (.agg #[.bool ng0,.slice ao0 rs0.length cap0]) w2:=⟨_,_,_,_,rfl,hw2,hl2⟩;have hb3:=hb2.trans (hbA.mono hb2.size);have HP0:=hide (hP0.below hb3);have HO0:=hide ((ho2.fit (L':=M) (HC.out 0 (Nat.zero_le _))).ru (Ru.of_below hbA));have HB0:=hide (hb1.trans (hb3.mono (hlb▸hb1.size)));have HX0:=hide (heap_alloc_new w2 (.cells #[.bool ng0,.slice ao0 rs0.length cap0] 60));have hfc:lb<w2.heap.size:=Nat.lt_of_lt_of_le hP0.lt hb2.size;clear hw2 hl2 hb2 hbA ho2 hb3 hb1 hP0;go_wp2_with fail
  generalize w2.heap.size=fc at *
  go_loopw [5,6,7,17] (fun _ _ _ iv wr=>∃(k:Nat),iv=.int .i64 k/\k<=n/\Below lb w wr/\PQ wr lb n k rs L/\∃ng a m c,wr.heap[fc]? = some (.cells #[.bool ng,.slice a m c] 60 (0,0))/\OutW (comR (rs.take k)) M (.agg #[.bool ng,.slice a m c]) wr) (fun _ _ _ iv _=>n-(intOf iv).toNat)
  case atStart=>exact⟨0,rfl,Nat.zero_le _,HB0.out,HP0.out,_,_,_,_,HX0.out,HO0.out⟩
  case round=>
   obtain⟨k,rfl,hk,hbw,hp,ng,a,m,c,hbx,ho⟩:=hrel;have HW:=hide hbw;have HP:=hide hp;have HBX:=hide hbx;have HO:=hide ho;by_cases hlt:k<n
   ·obtain⟨r,hr⟩:∃r,rs[k]? = some r:=⟨_,List.getElem?_eq_getElem (by have:=HN.out;omega)⟩;obtain⟨b,off,ngx,ax,mx,cx,dx,ex,fx',rfl,hbl,x0,x1,x2,hx⟩:=H.out.cell hr;have hblb:b<lb:=by omega
    replace x0:=(hbw.cell (p:=⟨b,off+k*3,none⟩) hblb).trans x0;replace x1:=(hbw.cell (p:=⟨b,off+k*3+1,none⟩) hblb).trans x1;replace x2:=(hbw.cell (p:=⟨b,off+k*3+2,none⟩) hblb).trans x2;have hrw:Ru w wr:=Ru.of_below (hlb.symm▸hbw);have HX:=hide (hx.ru hrw);have HF:=hide (aqy hx hL1);have HR:=hide hr;have hlt':(k:Int)<(n:Int):=by omega
    have hba:Below wr.heap.size wr (wr.alloc (.cells #[.bool ngx,.slice ax mx cx,.slice dx ex fx'] 62)):=hAl _ _;clear hbw hp hbx ho hx hr hrw;go_wp2_with fail
    refine(ax0 _ _ r L L (HX.out.ru (Ru.of_below hba)) (by omega) HF.out).mono ?_;rintro e w4 ⟨v1,rfl,h4,hb4⟩;obtain⟨ng1,ao1,cap1,rs1,bo1,dap1,ss1,rfl,_⟩:=id h4;have hb4':=hba.trans (hb4.mono hba.size);have H4:=hide h4;obtain⟨⟨_,_,_,_,_,_,_,p0,p1,p2,_⟩,pf0,pf1,pf2⟩:=(HP.out.below hb4').cells hlt;have hpl:=(HP.out.below hb4').lt;have HB4:=hide hb4';clear h4 hb4 hb4' hba x0 x1 x2;go_wp2_with fail
    obtain⟨q1,q2⟩:=HP.out.put HB4.out hlt HR.out H4.out;have hfw:Rc lb lb wr (((w4.setCell ⟨lb,k*3,none⟩ (.bool ng1)).setCell ⟨lb,k*3+1,none⟩ (.slice ao1 rs1.length cap1)).setCell ⟨lb,k*3+2,none⟩ (.slice bo1 ss1.length dap1)):=q2;have hal:=hAl (((w4.setCell ⟨lb,k*3,none⟩ (.bool ng1)).setCell ⟨lb,k*3+1,none⟩ (.slice ao1 rs1.length cap1)).setCell ⟨lb,k*3+2,none⟩ (.slice bo1 ss1.length dap1)) (.cells #[.bool false,.slice bo1 ss1.length dap1] 60);have hnew:=heap_alloc_new (((w4.setCell ⟨lb,k*3,none⟩ (.bool ng1)).setCell ⟨lb,k*3+1,none⟩ (.slice ao1 rs1.length cap1)).setCell ⟨lb,k*3+2,none⟩ (.slice bo1 ss1.length dap1)) (.cells #[.bool false,.slice bo1 ss1.length dap1] 60);have hs4:(((w4.setCell ⟨lb,k*3,none⟩ (.bool ng1)).setCell ⟨lb,k*3+1,none⟩ (.slice ao1 rs1.length cap1)).setCell ⟨lb,k*3+2,none⟩ (.slice bo1 ss1.length dap1)).heap.size=w4.heap.size:=by simp[World.setCell]
    rw[hs4]at hnew;have hu4:Ru w4 (((w4.setCell ⟨lb,k*3,none⟩ (.bool ng1)).setCell ⟨lb,k*3+1,none⟩ (.slice ao1 rs1.length cap1)).setCell ⟨lb,k*3+2,none⟩ (.slice bo1 ss1.length dap1)):=ayn (HP.out.below HB4.out) _ _ _ _;have hrc:Rc lb lb wr _:=q2.trans (.of_below hal);have hpq:=q1.below hal;have hden:=(ah4 (H4.out.ru (hu4.trans (Ru.of_below hal)))).2;have hcb:=(hrc.other fc (aaa HBX.out) (by omega) (by omega)).trans HBX.out;have hco:=HO.out.ru hrc.ru;generalize ((((w4.setCell ⟨lb,k*3,none⟩ (.bool ng1)).setCell ⟨lb,k*3+1,none⟩ (.slice ao1 rs1.length cap1)).setCell ⟨lb,k*3+2,none⟩ (.slice bo1 ss1.length dap1)).alloc (.cells #[.bool false,.slice bo1 ss1.length dap1] 60))=w5 at *
    have hbl5:Below lb w w5:=HW.out.trans (hrc.below (Nat.le_of_lt HP.out.lt) (Nat.le_refl _) (Nat.le_refl _));obtain⟨hcl,y0,y1,yf0,yf1⟩:=aam hcb;obtain⟨hnl,u0,u1,_,_⟩:=aam hnew;have HPQ:=hide hpq;have HDN:=hide hden;have HCB:=hide hcb;have HNB:=hide hnew;have HCO:=hide hco;have HB5:=hide hbl5;have HCK:=hide (atx HR.out);have HCM:=hide (HC.out (k+1) (by omega));generalize w4.heap.size=f7 at *
    clear hal hnew hs4 hu4 hrc hpq hden hcb hco hbl5 hfw q1 q2 p0 p1 p2 pf0 pf1 pf2;go_region_law (first|(refine aa4 rfl 75 #[.tmp 35,.tmp 36] #[60,60] rfl awm #[.agg #[.bool ng,.slice a m c],.agg #[.bool false,.slice bo1 ss1.length dap1]] (by simp[Act.eval]) (gcdF _ (comR (rs.take k)) r.den _ _ M L (HCO.out.is.ru (Ru.of_below (show Below w5.heap.size w5 _ by(repeat' first|with_reducible(first|exact Below.refl _ _|assumption|refine gdrewN ?_ _|refine Below.alloc ?_ ?_ _|refine Below.drew ?_|refine Below.setCell ?_ ?_ _)|go_size)))) (HDN.out.ru (Ru.of_below (show Below w5.heap.size w5 _ by(repeat' first|with_reducible(first|exact Below.refl _ _|assumption|refine gdrewN ?_ _|refine Below.alloc ?_ ?_ _|refine Below.drew ?_|refine Below.setCell ?_ ?_ _)|go_size)))) (by omega) (by omega)) ?_;rintro e w6 ⟨v6,rfl,h6,hb6⟩;obtain⟨ng6,ao6,k6,cap6,rfl⟩:=h6.agg;have hb56:Below w5.heap.size w5 w6:=(show Below w5.heap.size w5 _ by(repeat' first|with_reducible(first|exact Below.refl _ _|assumption|refine gdrewN ?_ _|refine Below.alloc ?_ ?_ _|refine Below.drew ?_|refine Below.setCell ?_ ?_ _)|go_size)).trans (hb6.mono (by simp));have HB56:=hide hb56;have H6:=hide h6;have y06:=(hb56.cell (p:=⟨fc,0,none⟩) hcl).trans y0;have y16:=(hb56.cell (p:=⟨fc,1,none⟩) hcl).trans y1;have u06:=(hb56.cell (p:=⟨f7,0,none⟩) hnl).trans u0;have u16:=(hb56.cell (p:=⟨f7,1,none⟩) hnl).trans u1;clear h6 hb6 hb56;refine⟨_,rfl,?_⟩)|(refine aa4 rfl 92 #[.tmp 34,.tmp 37] #[60,60] rfl ahj #[.agg #[.bool false,.slice bo1 ss1.length dap1],.agg #[.bool ng6,.slice ao6 k6 cap6]] (by simp[Act.eval]) (ae8 _ r.den ((Int.gcd (comR (rs.take k)) r.den:Nat):Int) _ _ L (M+L+1) (HDN.out.ru (Ru.of_below HB56.out)) H6.out.is (by omega) (by omega)) ?_;rintro e w7 ⟨v7,rfl,h7,hb7⟩;obtain⟨ng7,ao7,k7,cap7,rfl⟩:=h7.agg;have hb57:Below w5.heap.size w5 w7:=HB56.out.trans (hb7.mono HB56.out.size);have HB57:=hide hb57;have H7:=hide h7;have y07:=(hb57.cell (p:=⟨fc,0,none⟩) hcl).trans y0;have y17:=(hb57.cell (p:=⟨fc,1,none⟩) hcl).trans y1;clear h7 hb7 hb57;refine⟨_,rfl,?_⟩)|(refine aa4 rfl 34 #[.tmp 33,.tmp 38] #[60,60] rfl al8 #[.agg #[.bool ng,.slice a m c],.agg #[.bool ng7,.slice ao7 k7 cap7]] (by simp[Act.eval]) (mulF _ (comR (rs.take k)) _ _ _ M (L+4) (HCO.out.is.ru (Ru.of_below HB57.out)) H7.out.is (by omega) (by omega)) ?_;rintro e w8 ⟨v8,rfl,h8,hb8⟩;obtain⟨ng8,ao8,k8,cap8,rfl⟩:=h8.agg;have hb58:Below w5.heap.size w5 w8:=HB57.out.trans (hb8.mono HB57.out.size);have HB58:=hide hb58;have H8:=hide h8.out;have hc8:=(hb58.block fc hcl).trans HCB.out;have HC8:=hide hc8;have hc8':=aam hc8;obtain⟨hcl8,y08,y18,yf08,yf18⟩:=hc8';clear h8 hb8 hb58 hc8;refine⟨_,rfl,?_⟩))
    all_goals (
     go_wp2;go_roundw
     case rel=>
      refine⟨k+1,by go_num,by omega,?_,?_,_,_,_,_,acm HC8.out _ _,?_⟩
      ·have:=HB5.out.trans (HB58.out.mono (Nat.le_of_lt HPQ.out.lt));exact(this.setCell (Nat.le_of_lt hfc) _).setCell (Nat.le_of_lt hfc) _
      ·refine(HPQ.out.below HB58.out).ru (acy HC8.out _ _) ?_;rw[heap_setCell_other _ ⟨fc,1,none⟩ lb _ (by show lb≠fc;omega),heap_setCell_other _ ⟨fc,0,none⟩ lb _ (by show lb≠fc;omega)]
      ·rw[HCK.out];exact(H8.out.fit (by rw[<-HCK.out];exact HCM.out)).ru (acy HC8.out _ _)
     case measure=>simp[intOf];omega)
   ·have hlt':decide ((k:Int)<(n:Int))=false:=by simp;omega
    have hkn:rs.take k=rs:=List.take_of_length_le (by have:=HN.out;omega);have hkk:k=n:=by omega
    subst hkk;rw[hkn]at HO;clear hbw hp hbx ho hkn;have hszl:lb<=wr.heap.size:=Nat.le_of_lt HP.out.lt;go_wp2_with (refine wpList_make_full _ rfl (.tmp 42) (.tmp 42) 23 rfl lb 60 iW (.agg #[.bool false,.slice none 0 0]) 2 Tryz.underlying23 hi' hz0' hz1' .i64 .i64 _ _ k rfl rfl (by omega) (by omega) (by rw[hz2'];omega) (by unfold maxLen;omega) hszl ?hK2)
    case hK2=>
     intro w3 hown hgrow;have hb3:Below wr.heap.size wr w3:=(Below.refl _ _).grown hgrow (Nat.le_refl _) (by simp);obtain⟨_,hmb⟩:=aeg hown;rw[als]at hmb;have HQ0:=hide (PRow.start (K:=lb) (zs:=clr rs) (L:=M) hmb);have HP3:=hide (HP.out.below hb3);have HBX3:=hide ((hb3.block _ (aaa HBX.out)).trans HBX.out);have HO3:=hide (HO.out.ru (Ru.of_below hb3));have HB3:=hide (HW.out.trans (hb3.mono hszl));have hfob:fc<wr.heap.size:=aaa HBX.out;have hlob:lb<wr.heap.size:=HP.out.lt;clear hown hgrow hb3 hmb HP HBX HO;go_wp2_with fail
     generalize wr.heap.size=ob at *
     go_loopw [9,10,46] (fun _ _ iv wx=>∃(j:Nat),iv=.int .i64 j/\j<=k/\Below lb w wx/\PQ wx lb k k rs L/\PRow lb wx ob k j (clr rs) M/\wx.heap[fc]? = some (.cells #[.bool ng,.slice a m c] 60 (0,0))/\OutW (comR rs) M (.agg #[.bool ng,.slice a m c]) wx) (fun _ _ iv _=>k-(intOf iv).toNat)
     case atStart=>exact⟨0,rfl,Nat.zero_le _,HB3.out,HP3.out,HQ0.out,HBX3.out,HO3.out⟩
     case round=>
      obtain⟨j,rfl,hj,hbw,hp,hq,hbx,ho⟩:=hrel;have HWx:=hide hbw;have HPx:=hide hp;have HQx:=hide hq;have HBXx:=hide hbx;have HOx:=hide ho;by_cases hlt:j<k
      ·obtain⟨r,hr⟩:∃r,rs[j]? = some r:=⟨_,List.getElem?_eq_getElem (by have:=HN.out;omega)⟩;obtain⟨⟨ngx,ax,mx,cx,dx,ex,fx',x0,x1,x2,hout⟩,_,_,_⟩:=hp.cells hlt;have hoq:=hout r hlt hr;obtain⟨y0c,y1c,y2c,_,_⟩:=aam hbx;have hlt':(j:Int)<(k:Int):=by omega
       have HR:=hide hr;have hba:Below wr.heap.size wr (wr.alloc (.cells #[.bool ngx,.slice ax mx cx,.slice dx ex fx'] 62)):=hAl _ _;have HNM:=hide ((ah4 hoq).1.ru (Ru.of_below hba));have HDN:=hide ((ah4 hoq).2.ru (Ru.of_below hba));have hnew:=heap_alloc_new wr (.cells #[.bool ngx,.slice ax mx cx,.slice dx ex fx'] 62);have hcb:=(hba.block _ (aaa hbx)).trans hbx;have HCO:=hide (ho.ru (Ru.of_below hba));have hpl:=hp.lt;clear hout hoq hbw hp hq hbx ho hr y0c y1c y2c;go_wp2_with fail
       generalize (wr.alloc (.cells #[.bool ngx,.slice ax mx cx,.slice dx ex fx'] 62))=w5 at *
       obtain⟨hcl,y0,y1,_,_⟩:=aam hcb;obtain⟨hnl,u0,u1,u2,_,_,_⟩:=aag hnew;have HA5:=hide hba;clear hba hnew hcb x0 x1 x2;have hcj:(clr rs)[j]? = some (r.num*(comR rs/(r.den:Int))):=by rw[clr,List.getElem?_map,HR.out];rfl
       have HCJ:=hide hcj;have HFD:=hide (HD.out _ (List.mem_of_getElem? hcj));have hlw:=HPx.out.lt;clear hcj;go_region_law (first|(refine aa4 rfl 92 #[.tmp 55,.tmp 58] #[60,60] rfl ahj #[.agg #[.bool ng,.slice a m c],.agg #[.bool false,.slice dx ex fx']] (by simp[Act.eval,Act.put]) (ae8 _ (comR rs) r.den _ _ M L (HCO.out.is.ru (Ru.of_below (show Below w5.heap.size w5 _ by(repeat' first|with_reducible(first|exact Below.refl _ _|assumption|refine gdrewN ?_ _|refine Below.alloc ?_ ?_ _|refine Below.drew ?_|refine Below.setCell ?_ ?_ _)|go_size)))) (HDN.out.ru (Ru.of_below (show Below w5.heap.size w5 _ by(repeat' first|with_reducible(first|exact Below.refl _ _|assumption|refine gdrewN ?_ _|refine Below.alloc ?_ ?_ _|refine Below.drew ?_|refine Below.setCell ?_ ?_ _)|go_size)))) (by omega) (by omega)) ?_;rintro e w7 ⟨v7,rfl,h7,hb7⟩;obtain⟨ng7,ao7,k7,cap7,rfl⟩:=h7.agg;have hb57:Below w5.heap.size w5 w7:=(show Below w5.heap.size w5 _ by(repeat' first|with_reducible(first|exact Below.refl _ _|assumption|refine gdrewN ?_ _|refine Below.alloc ?_ ?_ _|refine Below.drew ?_|refine Below.setCell ?_ ?_ _)|go_size)).trans (hb7.mono (by simp));have HB57:=hide hb57;have H7:=hide h7;have u07:=(hb57.cell (p:=⟨wr.heap.size,0,none⟩) hnl).trans u0;have u17:=(hb57.cell (p:=⟨wr.heap.size,1,none⟩) hnl).trans u1;clear h7 hb7 hb57;refine⟨_,rfl,?_⟩)|(refine aa4 rfl 34 #[.tmp 54,.tmp 59] #[60,60] rfl al8 #[.agg #[.bool ngx,.slice ax mx cx],.agg #[.bool ng7,.slice ao7 k7 cap7]] (by simp[Act.eval]) (mulF _ r.num _ _ _ L (M+4) (HNM.out.ru (Ru.of_below HB57.out)) H7.out.is (by omega) (by omega)) ?_;rintro e w8 ⟨v8,rfl,h8,hb8⟩;obtain⟨ng8,ao8,k8,cap8,rfl⟩:=h8.agg;have hb58:Below w5.heap.size w5 w8:=HB57.out.trans (hb8.mono HB57.out.size);have HB58:=hide hb58;have hbx8:Below wr.heap.size wr w8:=HA5.out.trans (hb58.mono HA5.out.size);have HX8:=hide hbx8;have H8:=hide (h8.low (Nat.le_trans HA5.out.size HB57.out.size));have hq8:=PRow.cells (HQx.out.below hbx8) hlt;obtain⟨⟨_,_,_,_,o0,o1⟩,of0,of1⟩:=hq8;have hol8:=PRow.lt (HQx.out.below hbx8);clear h8 hb8 hb58 hbx8;refine⟨_,rfl,?_⟩))
       all_goals (
        obtain⟨q1,q2⟩:=HQx.out.put (Nat.le_refl _) HX8.out hlt HCJ.out (Nat.le_of_lt hlw) (H8.out.fit HFD.out);go_wp2;go_roundw
        case rel=>
         exact⟨j+1,by go_num,by omega,HWx.out.trans (q2.below (Nat.le_of_lt hlw) (Nat.le_of_lt hlob) (Nat.le_of_lt hlob)),HPx.out.ru q2.ru (q2.other lb hlw (by omega) (by omega)),q1,(q2.other fc (aaa HBXx.out) (by omega) (by omega)).trans HBXx.out,HOx.out.ru q2.ru⟩
        case measure=>simp[intOf];omega)
      ·have hlt':decide ((j:Int)<(k:Int))=false:=by simp;omega
       have hjk:j=k:=by omega
       subst hjk;clear hbw hp hq hbx ho;go_wp2;refine bodyPost_ret (v:=.slice (some ⟨ob,0,none⟩) j j) (acs rfl rfl) rfl ⟨_,rfl,⟨ob,by rw[HRL.out],by omega,by rw[HRL.out,hlb];exact HQx.out,by rw[HRL.out];exact hl⟩,by rw[hlb];exact HWx.out⟩
end Lm
namespace Lm
open Go Go.RowKit
open Dm (WFr)
theorem PRow.low{K K':Nat}{w:World}{bv n i:Nat}{zs:List Int}{L:Nat}(h:PRow K w bv n i zs L)(hk:K'<=K):PRow K' w bv n i zs L:=by
 obtain⟨es,B,T,h1,h2,h3,h4,h5⟩:=h;refine⟨es,B,T,h1,h2,h3,fun k e z hk' he hz=>?_,h5⟩;obtain⟨g1,g2,g3,g4,g5⟩:=h4 k e z hk' he hz;exact⟨g1,g2,g3,Nat.le_trans hk g4,g5⟩
def canonZ(rs:List Rat):List Int:=red (clr rs)
theorem limbsF(w:World)(z:Int)(L:Nat)(v:Value)(h:IsW z L v w)(hL:L<=400000):
  Calls Tryz.prog 55 #[v] w fun e w'=>∃m:Nat,e=.returned (.int .i64 (m:Int))/\(m<=32↔(z.natAbs:Int)<pw 32)/\Below w.heap.size w w':=by
 obtain⟨ng,ao,n,cap,xs,rfl,hA,hl⟩:=h;obtain⟨m,hm⟩:=ava hA;have hv:val xs=(z.natAbs:Int):=by
  obtain⟨_,_,_,_,_,hb,_⟩:=hA.sl;have h1:=aab hb;have h4:=hA.worth;rw[<-h4];cases ng
  ·simp only[sg];rw[if_neg (by decide)];omega
  ·simp only[sg];rw[if_pos trivial];omega
 refine(app w ng ao n cap xs hA.sl (by omega) m (by rw[hv];exact hm)).mono ?_;rintro e w' ⟨rfl,hb⟩;refine⟨m,rfl,?_,hb⟩;obtain⟨rs,hc,hv',rfl⟩:=hm;constructor
 ·intro h;have h1:=(aab hc.1).2;have h2:=aa9 h;omega
 ·intro h;exact aa1 hc (by rw[hv'];exact h)
theorem aty(w:World)(v:Value)(rs:List Rat)(L M:Nat)(h:IsQrow w v rs L)(hL:L<=10000)(hL1:1<=L)(hM:M<=100000)(hl:rs.length<=1000000)(hC:∀k,k<=rs.length->((comR (rs.take k)).natAbs:Int)<pw M)(hD:∀z∈clr rs,(z.natAbs:Int)<pw M)(hne:rs≠[]):
  Calls Tryz.prog 21 #[v] w fun e w'=>Below w.heap.size w w'/\(((∀z∈canonZ rs,(z.natAbs:Int)<pw 32)/\∃r,e=.returned (.tuple #[r,.int .i64 0])/\ORow w.heap.size w' r (canonZ rs) M)\/((∃z∈canonZ rs,¬(z.natAbs:Int)<pw 32)/\e=.returned (.tuple #[.slice none 0 0,.int .i64 2]))):=by
 obtain⟨ao,cap,rfl,_⟩:=h.parts;have K:=hide (ang w _ rs L M h hL hL1 (by omega) hl hC hD);have hn0:(((rs.length:Nat):Int)==0)=false:=by
  rw[beq_eq_false_iff_ne];intro e;exact hne (List.length_eq_zero_iff.1 (by omega))
 have HCL:Hid ((clr rs).length=rs.length):=(show(clr rs).length=rs.length by simp[clr]);have HZL:Hid ((canonZ rs).length=rs.length):=(show(canonZ rs).length=rs.length by simp[canonZ,red,clr]);clear h hC hD hne;generalize hn:rs.length=n at *
 go_enter Tryz.func21,Tryz.ntmps21
 go_wp2_with fail
 refine K.out.mono ?_;rintro e w1 ⟨r1,rfl,h1,hb1⟩;have K2:=anf w1 r1 (clr rs) M h1.is (by omega) (by rw[HCL.out];omega);go_wp2_with fail
 refine K2.mono ?_;rintro e w2 ⟨r2,rfl,h2,hb2⟩;obtain⟨bv,rfl,hbv,hP,hPl⟩:=h2;change PRow w1.heap.size w2 bv (canonZ rs).length (canonZ rs).length (canonZ rs) M at hP;have hrl:(red (clr rs)).length=n:=HZL.out;rw[HZL.out]at hP;rw[hrl];have HP:=hide hP;have HB:=hide (hb1.trans (hb2.mono hb1.size));have hbs:=hb1.size;have hw2:w.heap.size<=w2.heap.size:=HB.out.size;have hIs:IsRow w2 (.slice (some ⟨bv,0,none⟩) n n) (canonZ rs) M:=by
  have:=PRow.full (zs:=canonZ rs) (L:=M) (w:=w2) (bv:=bv) (K:=w1.heap.size) (by rw[HZL.out];exact hP) (by rw[HZL.out];exact hl);rwa[HZL.out]at this
 have HI:=hide hIs;have HBV:Hid (w.heap.size<=bv):=(show w.heap.size<=bv by omega);clear h1 hb1 hb2 K K2 hP hPl hrl hIs;go_wp2_with fail
 go_loopw [6,15] (fun _ iv wr=>∃(k:Nat),iv=.int .i64 k/\k<=n/\Below w2.heap.size w2 wr/\∀(j:Nat) (z:Int),j<k->(canonZ rs)[j]? = some z->(z.natAbs:Int)<pw 32) (fun _ iv _=>n-(intOf iv).toNat)
 case atStart=>exact⟨0,rfl,Nat.zero_le _,Below.refl _ _,fun j z hj=>by omega⟩
 case round=>
  obtain⟨k,rfl,hk,hbw,hall⟩:=hrel;have HW:=hide hbw;have HALL:=hide hall;by_cases hlt:k<n
  ·obtain⟨z,hz⟩:∃z,(canonZ rs)[k]? = some z:=⟨_,List.getElem?_eq_getElem (by have:=HZL.out;omega)⟩;obtain⟨b,off,ngx,ax,mx,cx,hao,hbl,x0,x1,hx⟩:=(HI.out.below hbw).cell hz;obtain⟨rfl,rfl⟩:bv=b/\0=off:=by simpa using hao
   rw[Nat.zero_add]at x0 x1;have HX:=hide hx;have HZ:=hide hz;have hlt':(k:Int)<(n:Int):=by omega
   have hba:Below wr.heap.size wr (wr.alloc (.cells #[.bool ngx,.slice ax mx cx] 60)):=hAl _ _;clear hbw hall hx hz hao;go_wp2_with fail
   refine(limbsF _ z M _ (HX.out.ru (Ru.of_below hba)) (by omega)).mono ?_;rintro e w3 ⟨m,rfl,hm,hb3⟩;have HM:=hide hm;have HB3:=hide (HW.out.trans ((hba.trans (hb3.mono hba.size)).mono HW.out.size));by_cases hbig:m<=32
   ·have hb':decide ((32:Int)<(m:Int))=false:=by simp;omega
    clear hm hb3 hba x0 x1;go_wp2;go_roundw
    case rel=>
     refine⟨k+1,by go_num,by omega,HB3.out,fun j y hj hy=>?_⟩;by_cases hjk:j=k
     ·subst hjk;rw[HZ.out]at hy;obtain rfl:=Option.some.inj hy;exact HM.out.1 hbig
     ·exact HALL.out j y (by omega) hy
    case measure=>simp[intOf];omega
   ·have hb':(32:Int)<(m:Int):=by omega
    have HBG:Hid (¬(z.natAbs:Int)<pw 32):=(show ¬(z.natAbs:Int)<pw 32 from fun h=>hbig (hm.2 h));clear hm hb3 hba x0 x1;go_wp2;refine bodyPost_ret (v:=_) (by simp[results,Tryz.results21,go_sem];try rfl) rfl ⟨HB.out.trans (HB3.out.mono hw2),.inr ⟨⟨z,List.mem_of_getElem? HZ.out,HBG.out⟩,rfl⟩⟩
  ·have hlt':decide ((k:Int)<(n:Int))=false:=by simp;omega
   clear hbw hall;go_wp2;refine bodyPost_ret (v:=_) (by simp[results,Tryz.results21,go_sem];try rfl) rfl ⟨HB.out.trans (HW.out.mono hw2),.inl ⟨?_,_,rfl,?_⟩⟩
   ·intro z hz;obtain⟨j,hj⟩:=List.mem_iff_getElem?.1 hz;exact HALL.out j z (by have:=(List.getElem?_eq_some_iff.1 hj).1;have:=HZL.out;omega) hj
   ·refine⟨bv,by rw[HZL.out],HBV.out,?_,by rw[HZL.out];exact hl⟩;rw[HZL.out];exact(PRow.low HP.out hbs).below HW.out
end Lm
namespace Lm
open Go Go.RowKit
open Dm (WFr)
def CanRow(w:World)(v:Value)(zs:List Int)(L:Nat):Prop:=∃es:List WE,Rw w v es/\es.length=zs.length/\∀(k:Nat) (e:WE) (z:Int),es[k]? = some e->zs[k]? = some z->Canon e.zs/\val e.zs=(z.natAbs:Int)/\e.ng=decide (z<0)/\e.zs.length<=L
theorem CanRow.below{w w':World}{v:Value}{zs:List Int}{L:Nat}(h:CanRow w v zs L)(hb:Below w.heap.size w w'):CanRow w' v zs L:=by
 obtain⟨es,h1,h2,h3⟩:=h;exact⟨es,h1.below hb,h2,h3⟩
theorem CanRow.is{w:World}{v:Value}{zs:List Int}{L:Nat}(h:CanRow w v zs L):IsRow w v zs L:=by
 obtain⟨es,h1,h2,h3⟩:=h;refine⟨es,h1,?_,?_⟩
 ·apply List.ext_getElem?;intro k;rw[List.getElem?_map];cases hk:es[k]? with
  |none=>
   rw[List.getElem?_eq_none_iff]at hk;rw[Option.map_none,eq_comm,List.getElem?_eq_none_iff];omega
  |some e=>
   have hkl:=(List.getElem?_eq_some_iff.1 hk).1;obtain⟨z,hz⟩:∃z,zs[k]? = some z:=⟨_,List.getElem?_eq_getElem (by omega)⟩;obtain⟨c1,c2,c3,_⟩:=h3 k e z hk hz;rw[hz,Option.map_some];congr 1;unfold WE.z sg;rw[c2,c3];by_cases hn:z<0
   ·rw[if_pos (decide_eq_true hn)];omega
   ·rw[if_neg (by simpa using hn)];omega
 ·intro e he;obtain⟨k,hk⟩:=List.mem_iff_getElem?.1 he;have hkl:=(List.getElem?_eq_some_iff.1 hk).1;obtain⟨z,hz⟩:∃z,zs[k]? = some z:=⟨_,List.getElem?_eq_getElem (by omega)⟩;exact(h3 k e z hk hz).2.2.2
theorem ORow.can{K:Nat}{w:World}{v:Value}{zs:List Int}{L:Nat}(h:ORow K w v zs L):CanRow w v zs L:=by
 obtain⟨bv,rfl,_,h,hl⟩:=h;obtain⟨es,B,T,e1,e2,e3,e4,e5⟩:=h;refine⟨es,⟨⟨_,_,by rw[e1],by omega,by omega,ac7 es,.inr ⟨bv,0,rfl,aaa e2,fun j u hu=>?_⟩⟩,?_⟩,e1,?_⟩
 ·rw[Nat.zero_add,cell_of_row _ _ _ _ _ (0,0) e2,List.getElem?_toArray];exact hu
 ·intro e he;obtain⟨k,hk⟩:=List.mem_iff_getElem?.1 he;have hkl:=(List.getElem?_eq_some_iff.1 hk).1;obtain⟨z,hz⟩:∃z,zs[k]? = some z:=⟨_,List.getElem?_eq_getElem (by omega)⟩;obtain⟨g1,g2,_⟩:=e4 k e z (by omega) hk hz;have:=g1.wh.sl;rwa[<-g2]at this
 ·intro k e z hk hz;have hkl:=(List.getElem?_eq_some_iff.1 hk).1;obtain⟨g1,g2,g3,_⟩:=e4 k e z (by omega) hk hz;exact⟨g1.fr.canon,g1.fr.val,g1.sgn,g3⟩
theorem anh(w:World)(v v':Value)(zs:List Int)(L M:Nat)(h:CanRow w v zs L)(h':CanRow w v' zs M):
  Calls Tryz.prog 22 #[v,v'] w fun e w'=>e=.returned (.bool true)/\Below w.heap.size w w':=by
 obtain⟨es,h1,h2,h3⟩:=h;obtain⟨fs,g1,g2,g3⟩:=h';obtain⟨a,c,rfl,_⟩:=id h1.cl;obtain⟨a',c',rfl,_⟩:=id g1.cl;refine asy w a _ c es h1 a' _ c' fs g1 ?_;unfold SameR;apply List.ext_getElem?;intro k;rw[List.getElem?_map,List.getElem?_map];cases hk:es[k]? with
 |none=>
  rw[List.getElem?_eq_none_iff]at hk;rw[(List.getElem?_eq_none_iff (l:=fs)).2 (by omega)]
 |some e=>
  have hkl:=(List.getElem?_eq_some_iff.1 hk).1;obtain⟨z,hz⟩:∃z,zs[k]? = some z:=⟨_,List.getElem?_eq_getElem (by omega)⟩;obtain⟨f,hf⟩:∃f,fs[k]? = some f:=⟨_,List.getElem?_eq_getElem (by omega)⟩;obtain⟨c1,c2,c3,_⟩:=h3 k e z hk hz;obtain⟨d1,d2,d3,_⟩:=g3 k f z hf hz;rw[hf,Option.map_some,Option.map_some,WE.raw,WE.raw,c3,d3,adh c1 d1 (c2.trans d2.symm)]
theorem ae9{ops:Array Oper}{rest:List Oper}{o:Oper}{a:Act}{w:World}{Q:Exit->Act->World->Prop}{R:Value->World->Prop}(hg:o.guard=none)(h:Does Tryz.prog o a.eval w R)(hK:∀v w',R v w'->wpList Tryz.prog ops Q rest (a.put o.dst v) w'):wpList Tryz.prog ops Q (o::rest) a w:=by
 refine wpList_plain hg fun K hK'=>?_
 exact Does.wp h (fun v w' hr=>hK' _ _ (hK v w' hr))
theorem ani(w:World)(v:Int)(h1 : -9223372036854775808<=v)(h2:v<=9223372036854775807)(h0:v<0):
  Calls Tryz.prog 72 #[.int .i64 v] w fun e w'=>∃r,e=.returned r/\FrW w.heap.size v 2 r w'/\Below w.heap.size w w':=by
 obtain⟨i0,hi,hz0,hz1,hz2⟩:=info_parts ab4;have hf0:=heap_alloc_new w (.cells #[.bool false,.slice none 0 0] 60);have hb0:=hAl w (.cells #[.bool false,.slice none 0 0] 60);generalize hE:w.alloc (.cells #[.bool false,.slice none 0 0] 60)=w0 at *
 have E0:=hide hE;have HF0:=hide hf0;have HB0:=hide hb0;clear hE hf0 hb0;have hw:IntKind.u64.wrap (-IntKind.u64.wrap v) = -v:=by rw[IntKind.wrap_u64,IntKind.wrap_u64];omega
 go_enter Tryz.func72,Tryz.ntmps72
 go_wp2;rw[E0.out];clear hw;go_loopw [3,4] (fun uv mv wr=>∃(u:Int) (ls:List Int),uv=.int .u64 u/\0<=u/\u<18446744073709551616/\Limb ls/\val ls+pw ls.length*u = -v/\(u=0->tl ls=ls.length)/\wr.ownsRow w0.heap.size 70 1 mv ls.length (ls.map (Value.int .u32))/\Below w0.heap.size w0 wr) (fun uv _ _=>(intOf uv).toNat)
 case atStart=>exact⟨-v,[],rfl,by omega,by omega,aae,by simp[val,pw],fun _=>rfl,World.ownsRow_nil _ _ _ _,Below.refl _ _⟩
 case round=>
  obtain⟨u,ls,rfl,hu0,hu1,hls,hv,htop,hown,hbel⟩:=hrel;have HL:=hide hls;have HV:=hide hv;have HT:=hide htop;clear hls hv htop;by_cases hu:0<u
  ·have hroom:=aro HL.out hu (by rw[HV.out];omega);have HV':=hide (arn HV.out);have HT':Hid (u/4294967296=0->tl (ls ++ [u%4294967296])=(ls ++ [u%4294967296]).length):=fun h=>aww hu h
   go_wp2_with (at_builtin;refine wpList_append_own _ rfl (.tmp 13) (.tmp 16) 38 rfl w0.heap.size 70 i0 (.int .u32 0) 1 4 Tryz.underlying38 hi hz0 hz1 hz2 rfl (by decide) _ _ _ rfl (hown.alloc _) ⟨wr.heap.size,0,none⟩ 1 1 [.int .u32 (u%4294967296)] rfl rfl (cell_one_new _ _ _) ?c2 ?c3 ?c4 ?c5 ?_)
   case c2=>first|rfl|(intro x hx;simp at hx;subst hx;rfl)
   case c3=>unfold maxLen;omega
   case c4=>omega
   case c5=>have:=hbel.size;first|omega|(simp;omega)
   intro v4 w4 hown4 hgrow4 _;have R:=akw hown4 hgrow4 hbel hbel.size hown.lt;clear hown4 hgrow4 hown;go_wp2;go_roundw
   case rel=>exact⟨u/4294967296,ls ++ [u%4294967296],rfl,by omega,by omega,aan.2 ⟨HL.out,aai.2 ⟨by omega,aae⟩⟩,HV'.out,HT'.out,by simpa using R.1,R.2⟩
   case measure=>simp[intOf];omega
  ·have hu':u=0:=by omega
   subst hu';have hval:val ls = -v:=by have:=HV.out;rwa[Int.mul_zero,Int.add_zero]at this
   have hcan:Canon ls:=⟨HL.out,HT.out rfl⟩;have hlen:ls.length<=2:=aa1 hcan (m:=2) (by rw[hval,show pw 2=18446744073709551616 from by decide];omega);have how:=aby hown HL.out;obtain⟨ao,cap,hmv,_⟩:=id how;subst hmv;have hfr:FrW w0.heap.size v 2 (.agg #[.bool true,.slice ao ls.length cap]) wr:=by
    refine⟨_,_,_,_,w0.heap.size,wr.heap.size,rfl,⟨⟨how,hcan,by rw[hval];omega,fun hc g off hg=>?_⟩,by simp;omega⟩,Nat.le_refl _,Nat.le_refl _,hlen⟩;subst hg;obtain⟨ao',cap',e1,_,_,_,e4⟩:=how;simp only[Value.slice.injEq]at e1;obtain⟨rfl,_,rfl⟩:=e1;rcases e4 with e4|⟨g',off',cur,e5,hB',hh,_⟩
    ·omega
    ·simp only[Option.some.injEq,Addr.mk.injEq]at e5;obtain⟨rfl,_,_⟩:=e5;exact⟨hB',aaa hh⟩
   have HFR:=hide (hfr.low HB0.out.size);have HFx:=hide ((hbel.block _ (aaa HF0.out)).trans HF0.out);have HBx:=hide (HB0.out.trans (hbel.mono HB0.out.size));obtain⟨hfl,c0,c1,fr0,fr1⟩:=aam HFx.out;have hd:decide (v<0)=true:=by simp;omega
   clear hval hown how hfr hbel hcan;go_wp2;exact bodyPost_ret (v:=.agg #[.bool true,.slice ao ls.length cap]) (acx (g:=w.heap.size) rfl rfl (lvw2 (acm HFx.out _ _))) rfl ⟨_,rfl,HFR.out.ru (acy HFx.out _ _),(HBx.out.setCell (Nat.le_refl _) _).setCell (Nat.le_refl _) _⟩
theorem anj(w:World)(v:Int)(h1 : -9223372036854775808<=v)(h2:v<=9223372036854775807)(h0:¬v<0):
  Calls Tryz.prog 72 #[.int .i64 v] w fun e w'=>∃r,e=.returned r/\FrW w.heap.size v 2 r w'/\Below w.heap.size w w':=by
 obtain⟨i0,hi,hz0,hz1,hz2⟩:=info_parts ab4;have hf0:=heap_alloc_new w (.cells #[.bool false,.slice none 0 0] 60);have hb0:=hAl w (.cells #[.bool false,.slice none 0 0] 60);generalize hE:w.alloc (.cells #[.bool false,.slice none 0 0] 60)=w0 at *
 have E0:=hide hE;have HF0:=hide hf0;have HB0:=hide hb0;clear hE hf0 hb0;have hw:True:=trivial;go_enter Tryz.func72,Tryz.ntmps72
 go_wp2;rw[E0.out];clear hw;go_loopw [3,4] (fun uv mv wr=>∃(u:Int) (ls:List Int),uv=.int .u64 u/\0<=u/\u<18446744073709551616/\Limb ls/\val ls+pw ls.length*u=v/\(u=0->tl ls=ls.length)/\wr.ownsRow w0.heap.size 70 1 mv ls.length (ls.map (Value.int .u32))/\Below w0.heap.size w0 wr) (fun uv _ _=>(intOf uv).toNat)
 case atStart=>exact⟨v,[],rfl,by omega,by omega,aae,by simp[val,pw],fun _=>rfl,World.ownsRow_nil _ _ _ _,Below.refl _ _⟩
 case round=>
  obtain⟨u,ls,rfl,hu0,hu1,hls,hv,htop,hown,hbel⟩:=hrel;have HL:=hide hls;have HV:=hide hv;have HT:=hide htop;clear hls hv htop;by_cases hu:0<u
  ·have hroom:=aro HL.out hu (by rw[HV.out];omega);have HV':=hide (arn HV.out);have HT':Hid (u/4294967296=0->tl (ls ++ [u%4294967296])=(ls ++ [u%4294967296]).length):=fun h=>aww hu h
   go_wp2_with (at_builtin;refine wpList_append_own _ rfl (.tmp 13) (.tmp 16) 38 rfl w0.heap.size 70 i0 (.int .u32 0) 1 4 Tryz.underlying38 hi hz0 hz1 hz2 rfl (by decide) _ _ _ rfl (hown.alloc _) ⟨wr.heap.size,0,none⟩ 1 1 [.int .u32 (u%4294967296)] rfl rfl (cell_one_new _ _ _) ?c2 ?c3 ?c4 ?c5 ?_)
   case c2=>first|rfl|(intro x hx;simp at hx;subst hx;rfl)
   case c3=>unfold maxLen;omega
   case c4=>omega
   case c5=>have:=hbel.size;first|omega|(simp;omega)
   intro v4 w4 hown4 hgrow4 _;have R:=akw hown4 hgrow4 hbel hbel.size hown.lt;clear hown4 hgrow4 hown;go_wp2;go_roundw
   case rel=>exact⟨u/4294967296,ls ++ [u%4294967296],rfl,by omega,by omega,aan.2 ⟨HL.out,aai.2 ⟨by omega,aae⟩⟩,HV'.out,HT'.out,by simpa using R.1,R.2⟩
   case measure=>simp[intOf];omega
  ·have hu':u=0:=by omega
   subst hu';have hval:val ls=v:=by have:=HV.out;rwa[Int.mul_zero,Int.add_zero]at this
   have hcan:Canon ls:=⟨HL.out,HT.out rfl⟩;have hlen:ls.length<=2:=aa1 hcan (m:=2) (by rw[hval,show pw 2=18446744073709551616 from by decide];omega);have how:=aby hown HL.out;obtain⟨ao,cap,hmv,_⟩:=id how;subst hmv;have hfr:FrW w0.heap.size v 2 (.agg #[.bool false,.slice ao ls.length cap]) wr:=by
    refine⟨_,_,_,_,w0.heap.size,wr.heap.size,rfl,⟨⟨how,hcan,by rw[hval];omega,fun hc g off hg=>?_⟩,by simp;omega⟩,Nat.le_refl _,Nat.le_refl _,hlen⟩;subst hg;obtain⟨ao',cap',e1,_,_,_,e4⟩:=how;simp only[Value.slice.injEq]at e1;obtain⟨rfl,_,rfl⟩:=e1;rcases e4 with e4|⟨g',off',cur,e5,hB',hh,_⟩
    ·omega
    ·simp only[Option.some.injEq,Addr.mk.injEq]at e5;obtain⟨rfl,_,_⟩:=e5;exact⟨hB',aaa hh⟩
   have HFR:=hide (hfr.low HB0.out.size);have HFx:=hide ((hbel.block _ (aaa HF0.out)).trans HF0.out);have HBx:=hide (HB0.out.trans (hbel.mono HB0.out.size));obtain⟨hfl,c0,c1,fr0,fr1⟩:=aam HFx.out;have hd:decide (v<0)=false:=by simp;omega
   clear hval hown how hfr hbel hcan;go_wp2;exact bodyPost_ret (v:=.agg #[.bool false,.slice ao ls.length cap]) (acx (g:=w.heap.size) rfl rfl (lvw2 (acm HFx.out _ _))) rfl ⟨_,rfl,HFR.out.ru (acy HFx.out _ _),(HBx.out.setCell (Nat.le_refl _) _).setCell (Nat.le_refl _) _⟩
theorem awn(w:World)(v:Int)(h1 : -9223372036854775808<=v)(h2:v<=9223372036854775807):
  Calls Tryz.prog 72 #[.int .i64 v] w fun e w'=>∃r,e=.returned r/\FrW w.heap.size v 2 r w'/\Below w.heap.size w w':=by
 by_cases h0:v<0
 ·exact ani w v h1 h2 h0
 ·exact anj w v h1 h2 h0
theorem aoj(w:World)(v:Value)(zs:List Int)(h:Nums w v zs)(hz:∀z∈zs,-9223372036854775808<=z/\z<=9223372036854775807)(hl:zs.length<=1000):
  Calls Tryz.prog 36 #[v] w fun e w'=>∃r,e=.returned r/\CanRow w' r zs 2/\Below w.heap.size w w':=by
 obtain⟨ao,cap,rfl,_⟩:=id h;have H:=hide h;have HZ:=hide hz;clear h hz;obtain⟨n,hn⟩:∃n,zs.length=n:=⟨_,rfl⟩;rw[hn]at H hl ⊢;have HN:=hide hn;clear hn;go_enter Tryz.func36,Tryz.ntmps36
 go_wp2_with fail
 go_loopw [3,4] (fun ov iv wr=>∃(k:Nat) (es:List WE),iv=.int .i64 k/\k<=n/\Below w.heap.size w wr/\es.length=k/\RwO w.heap.size wr ov es/\∀(j:Nat) (e:WE) (z:Int),es[j]? = some e->zs[j]? = some z->Canon e.zs/\val e.zs=(z.natAbs:Int)/\e.ng=decide (z<0)/\e.zs.length<=2) (fun _ iv _=>n-(intOf iv).toNat)
 case atStart=>exact⟨0,[],rfl,Nat.zero_le _,Below.refl _ _,rfl,an8 _ _,fun j e z he=>(by simp at he)⟩
 case round=>
  obtain⟨k,es,rfl,hk,hbw,hes,hown,hall⟩:=hrel;have HW:=hide hbw;have HES:=hide hes;have HOWN:=hide hown;have HALL:=hide hall;by_cases hlt:k<n
  ·obtain⟨b,off,rfl,hc⟩:=(show Nums wr (.slice ao n cap) zs from Ce.below H.out hbw).cell (i:=k) (by have:=HN.out;omega);have hget:zs[k]? = some (zs[k]'(by have:=HN.out;omega)):=List.getElem?_eq_getElem _;generalize zs[k]'(by have:=HN.out;omega)=z at hc hget;have HG:=hide hget;have hzb:=HZ.out z (List.mem_of_getElem? hget);have hlt':(k:Int)<(n:Int):=by omega
   obtain⟨aov,capv,hov,_⟩:=Cl.own hown.own;subst hov;clear hbw hes hown hall hget;go_wp2_with fail
   refine(awn wr z hzb.1 hzb.2).mono ?_;rintro e w2 ⟨r2,rfl,hf2,hb2⟩;obtain⟨ng2,ao2,cap2,rs2,B2,T2,rfl,hwf,hB2,hT2,hl2⟩:=hf2;have hA:=hAl w2 (.cells #[.bool ng2,.slice ao2 rs2.length cap2] 60);have hb2':=hb2.trans (hA.mono hb2.size);have hR2:=HOWN.out.below hb2';have hO2:One _ w2.heap.size ng2 ao2 rs2.length cap2:=heap_alloc_new w2 (.cells #[.bool ng2,.slice ao2 rs2.length cap2] 60);have hS2:Ow w.heap.size _ (.slice ao2 rs2.length cap2) rs2:=(hwf.fr.ow.mono (Nat.le_trans HW.out.size hB2)).below hA;have hsz:w.heap.size<=(w2.alloc (.cells #[.bool ng2,.slice ao2 rs2.length cap2] 60)).heap.size:=Nat.le_trans HW.out.size hb2'.size;go_wp2_with (at_builtin;refine ae9 rfl (an9 (i:=11) (j:=17) rfl rfl hR2 hO2 hS2 (by rw[HES.out];omega) hsz) ?_)
   intro v3 w3 hR3 hb3;obtain⟨aov3,capv3,hov3,_⟩:=Cl.own hR3.own;subst hov3;have HR3:=hide hR3;have HB3:=hide ((HW.out.trans (hb2'.mono HW.out.size)).trans hb3);have HWF:=hide hwf;clear hR3 hb3 hR2 hO2 hS2 hsz hA hb2 hb2' hwf hB2 hT2;go_wp2;go_roundw
   case rel=>
    refine⟨k+1,es ++ [⟨ng2,ao2,rs2.length,cap2,rs2⟩],by go_num,by omega,HB3.out,by simp[HES.out],HR3.out,fun j e y he hy=>?_⟩;by_cases hj:j<es.length
    ·rw[List.getElem?_append_left hj]at he;exact HALL.out j e y he hy
    ·have hjl:=(List.getElem?_eq_some_iff.1 he).1;simp at hjl;obtain rfl:j=es.length:=by omega
     rw[List.getElem?_append_right (Nat.le_refl _)]at he;simp at he;subst he;rw[HES.out,HG.out]at hy;obtain rfl:=Option.some.inj hy;exact⟨HWF.out.fr.canon,HWF.out.fr.val,HWF.out.sgn,hl2⟩
   case measure=>simp[intOf];omega
  ·have hlt':decide ((k:Int)<(n:Int))=false:=by simp;omega
   have hkn:k=n:=by omega
   subst hkn;clear hbw hes hown hall;go_wp2;refine bodyPost_ret (v:=_) (acs rfl rfl) rfl ⟨_,rfl,⟨es,HOWN.out.rw,by rw[HES.out,HN.out],HALL.out⟩,HW.out⟩
end Lm
namespace Lm
open Go Go.RowKit
theorem OutN.rl{z:Int}{L:Nat}{v:Value}{w w':World}(h:OutN z L v w)(hr:Rl w w'):OutN z L v w':=OutN.mono4 z L _ _ _ hr h
theorem OutN.agg{z:Int}{L:Nat}{v:Value}{w:World}(h:OutN z L v w):∃ng ao n cap,v=.agg #[.bool ng,.slice ao n cap]:=by
 obtain⟨ng,ao,cap,rs,rfl,_⟩:=h;exact⟨ng,ao,_,cap,rfl⟩
def NRow(w:World)(v:Value)(zs:List Int)(L:Nat):Prop:=∃fs:List WE,Cl w v 2 fs.length (flat fs)/\fs.length=zs.length/\∀(k:Nat) (f:WE) (z:Int),fs[k]? = some f->zs[k]? = some z->OutN z L f.v w
theorem NRow.below{w w':World}{v:Value}{zs:List Int}{L:Nat}(h:NRow w v zs L)(hb:Below w.heap.size w w'):NRow w' v zs L:=by
 obtain⟨fs,h1,h2,h3⟩:=h;exact⟨fs,h1.below hb,h2,fun k f z hf hz=>(h3 k f z hf hz).rl (Rl.of_below hb)⟩
theorem NRow.parts{w:World}{v:Value}{zs:List Int}{L:Nat}(h:NRow w v zs L):∃ao cap,v=.slice ao zs.length cap/\zs.length<=9223372036854775807:=by
 obtain⟨fs,⟨ao,cap,rfl,h1,h2,_⟩,h3,_⟩:=h;exact⟨ao,cap,by rw[h3],by omega⟩
theorem NRow.cell{w:World}{ao:Option Addr}{n cap:Nat}{zs:List Int}{L k:Nat}{z:Int}(h:NRow w (.slice ao n cap) zs L)(hz:zs[k]? = some z):∃b off ng a m c,ao=some ⟨b,off,none⟩/\b<w.heap.size/\w.cell? ⟨b,off+k*2,none⟩=some (.bool ng)/\w.cell? ⟨b,off+k*2+1,none⟩=some (.slice a m c)/\OutN z L (.agg #[.bool ng,.slice a m c]) w:=by
 obtain⟨fs,⟨ao',cap',hv,h1,h2,h3,h4⟩,h5,h6⟩:=h;simp only[Value.slice.injEq]at hv;obtain⟨rfl,rfl,rfl⟩:=hv;have hk:=(List.getElem?_eq_some_iff.1 hz).1;obtain⟨f,hf⟩:∃f,fs[k]? = some f:=⟨_,List.getElem?_eq_getElem (by omega)⟩;obtain⟨f1,f2⟩:=acv hf;rcases h4 with h4|⟨b,off,rfl,hb,hc⟩
 ·omega
 ·exact⟨b,off,f.ng,f.a,f.m,f.c,rfl,hb,hc _ _ f1,by rw[Nat.add_assoc];exact hc _ _ f2,h6 k f z hf hz⟩
def isI:Value->Bool
 |.int _ _=>true
 |_=>false
def NoI(w:World)(v:Value):Prop:=∀g cs T,v.ownBlock=some g->w.heap[g]? = some (.cells cs T (0,0))->∀x∈cs.toList,isI x=false
theorem NoI.below{w w':World}{v:Value}(h:NoI w v)(hl:∀k,v.ownBlock=some k->k<w.heap.size)(hb:Below w.heap.size w w'):NoI w' v:=fun g cs T hg hh=>h g cs T hg ((hb.block g (hl g hg)).symm.trans hh)
theorem al9{z:Array Value}(hz:∀x∈z.toList,isI x=false)(n:Nat):∀x∈(Builtin.zeroCells z n).toList,isI x=false:=by
 intro x hx;simp only[Builtin.zeroCells,Array.toList_map,List.mem_map]at hx;obtain⟨j,_,rfl⟩:=hx;by_cases h:j%z.size<z.size
 ·rw[getElem!_pos z _ h];exact hz _ (by simp)
 ·rw[getElem!_neg z _ h];rfl
theorem ayo{P:Program}(w:World)(base:Nat)(t ty e:TypeId)(i:TypeInfo)(z:Value)(bytes:Nat)(ht:P.underlying t=some (.slice e))(hi:P.info? e=some i)(hz:i.zero=some z)(hby:i.bytes=bytes)(_hsz:0<i.size)
  (v:Value) (n:Nat) (xs:List Value) (hown:w.ownsRow base e i.size v n xs) (a:Addr) (c:Nat) (news:List Value) (hl:news.length=i.size) (hnews:∀j u,news[j]? = some u->w.cell? (a.add j)=some u) (h1:∀u∈news,u.oneCell'=true)
  (h63:n+1<=maxLen) (hbytes:(n+1)*bytes<=140737488355328) (hI:NoI w v) (hN:∀u∈news,isI u=false) (hZ:∀u∈z.cells.toList,isI u=false) {v':Value} {w':World} (hr:(Builtin.append_ #[t,t] ty #[v,.slice (some a) 1 c]).run P w=.ok v' w'):NoI w' v':=by
 subst hby;have hl':news.length=1*i.size:=by omega
 have hsmall:n+1<=9223372036854775807:=by simp only[maxLen]at h63;omega
 rcases hown.2 with⟨rfl,rfl⟩|⟨g,cap,cur,rfl,hbg,hg,hnc,hcm,hcs,htake⟩
 ·have hr':=run_append_nil (P:=P) w t ty e i z ht hi hz a 1 c news hl' hnews (by omega) (by omega) (by omega);rw[hr]at hr';injection hr' with e1 e2;subst e1 e2;intro g cs T hg hh x hx;simp only[Value.ownBlock,Option.some.injEq]at hg;subst hg;rw[show(w.drew.alloc (Obj.cells (news.toArray++Builtin.zeroCells z.cells (grownCap w 1 0 e-1)) e)).heap[w.heap.size]? = _ from heap_alloc_new w.drew _]at hh;injection hh with hh;injection hh with hh;subst hh;simp only[Array.toList_append,List.mem_append]at hx;rcases hx with hx|hx
  ·exact hN x hx
  ·exact al9 hZ _ x hx
 ·have hcur:=hI g cur e rfl hg;by_cases hroom:n+1<=cap
  ·have hfit:n*i.size+news.length<=cur.size:=by rw[hl',hcs,<-Nat.add_mul];exact Nat.mul_le_mul_right _ hroom
   have hr':=run_append_room (P:=P) w t ty e i ht hi g n cap cur hg a 1 c news hl' hnews h1 hroom hfit;rw[hr]at hr';injection hr' with e1 e2;subst e1 e2;intro g' cs T hg' hh x hx;simp only[Value.ownBlock,Option.some.injEq]at hg';subst hg';rw[setRow_heap w g cur _ e _ hg]at hh;injection hh with hh;injection hh with hh;subst hh;simp only[List.mem_append]at hx;rcases hx with(hx|hx)|hx
   ·exact hcur x (List.mem_of_mem_take hx)
   ·exact hN x hx
   ·exact hcur x (List.mem_of_mem_drop hx)
  ·have hr':=run_append_grow (P:=P) w t ty e i z ht hi hz ⟨g,0,none⟩ n cap xs hown.1 (hown.cells (g:=g) rfl) a 1 c news hl' hnews (by omega) (by omega) (growslice_fits (by omega) hbytes);rw[hr]at hr';injection hr' with e1 e2;subst e1 e2;intro g' cs T hg' hh x hx;simp only[Value.ownBlock,Option.some.injEq]at hg';subst hg';rw[show(w.drew.alloc (Obj.cells (xs.toArray++news.toArray++Builtin.zeroCells z.cells (grownCap w (n+1) cap e-(n+1))) e)).heap[w.heap.size]? = _ from heap_alloc_new w.drew _]at hh;injection hh with hh;injection hh with hh;subst hh;simp only[Array.toList_append,List.mem_append]at hx;rcases hx with(hx|hx)|hx
   ·rw[<-htake]at hx;exact hcur x (List.mem_of_mem_take hx)
   ·exact hN x hx
   ·exact al9 hZ _ x hx
structure RnO (B:Nat) (w:World) (v:Value) (fs:List WE) (zs:List Int) (L:Nat):Prop where
 own:w.ownsRow B 85 2 v fs.length (flat fs)
 noi:NoI w v
 len:fs.length=zs.length
 out:∀(k:Nat) (f:WE) (z:Int),fs[k]? = some f->zs[k]? = some z->OutN z L f.v w
theorem RnO.below{B:Nat}{w w':World}{v:Value}{fs:List WE}{zs:List Int}{L:Nat}(h:RnO B w v fs zs L)(hb:Below w.heap.size w w'):RnO B w' v fs zs L:=
 ⟨h.own.kept (row:=none) ⟨hb.os,hb.tape,hb.output,hb.size,fun k hk _=>hb.block k hk⟩ (by cases hv:v.ownBlock <;> simp),h.noi.below (fun k hk=>(h.own.lt k hk).2) hb,h.len,fun k f z hf hz=>(h.out k f z hf hz).rl (Rl.of_below hb)⟩
theorem RnO.nrow{B:Nat}{w:World}{v:Value}{fs:List WE}{zs:List Int}{L:Nat}(h:RnO B w v fs zs L):NRow w v zs L:=⟨fs,Cl.own h.own,h.len,h.out⟩
theorem ayp(B:Nat)(w:World)(L:Nat):RnO B w (.slice none 0 0) [] [] L:=⟨World.ownsRow_nil w B _ 2,fun g cs T hg=>by simp[Value.ownBlock]at hg,rfl,fun k f z hf=>by simp at hf⟩
section
variable {dst:Option Tmp} {ty:TypeId} {pos:String} {after:Array Edge} {guard:Option (Nat×Bool)} {a:Act} {w:World} {ats:Array TypeId} {i j:Nat}
theorem infoN:(Tryz.prog.info? 85).map (fun i=>(i.zero,i.size,i.bytes))=some (some (.agg #[.bool false,.slice none 0 0]),2,32):=by kernel_rfl
theorem ayq{B g:Nat}{v:Value}{es:List WE}{zs:List Int}{L:Nat}{z:Int}{ng:Bool}{ao:Option Addr}{n c:Nat}(h1:a.eval (.tmp i)=v)(h2:a.eval (.tmp j)=.slice (some ⟨g,0,none⟩) 1 1)(R:RnO B w v es zs L)(O:w.heap[g]? = some (.cells #[.bool ng,.slice ao n c] 85 (0,0)))(S:OutN z L (.agg #[.bool ng,.slice ao n c]) w)(hn:es.length<=1000000)(hB:B<=w.heap.size):
  Does Tryz.prog {dst,op:=.call {callee:=.builtin .append,args:=#[.tmp i,.tmp j],argTypes:=#[79,79]},type:=ty,pos,after,guard} a.eval w fun v' w'=>RnO B w' v' (es ++ [⟨ng,ao,n,c,[]⟩]) (zs ++ [z]) L/\Below B w w':=by
 obtain⟨i0,hi,hz0,hz1,hz2⟩:=info_parts infoN;have hfl:flat (es ++ [⟨ng,ao,n,c,[]⟩])=flat es ++ [.bool ng,.slice ao n c]:=by rw[ahg];rfl
 have hcl:∀(k:Nat) (u:Value),[Value.bool ng,.slice ao n c][k]? = some u->w.cell? ((⟨g,0,none⟩:Addr).add k)=some u:=fun k u hu=>by
  have hc:∀k,w.cell? ⟨g,k,none⟩ = #[Value.bool ng,.slice ao n c][k]? :=fun k=>cell_of_row w g k _ _ (0,0) O
  have ha:(⟨g,0,none⟩:Addr).add k=⟨g,k,none⟩:=by unfold Addr.add;split <;> simp_all
  rw[ha,hc];simpa using hu
 obtain⟨v',w',hr,ho,hgr,_⟩:=run_append_own (P:=Tryz.prog) w B 79 ty 85 i0 _ 2 32 Tryz.underlying79 hi hz0 hz1 hz2 rfl (by decide) v es.length (flat es) R.own ⟨g,0,none⟩ 1 1 [.bool ng,.slice ao n c] rfl hcl (by simp[Value.oneCell']) (by simp[maxLen];omega) (by omega) hB;have e:(execOp a.eval {dst,op:=.call {callee:=.builtin .append,args:=#[.tmp i,.tmp j],argTypes:=#[79,79]},type:=ty,pos,after,guard}).run Tryz.prog w=.ok (.value v') w':=by
  simp only[execOp,resolve,invoke,builtin,Sem.run_bind,Sem.run_pure,Result.andThen_ok,List.map_toArray,List.map_cons,List.map_nil,h1,h2,hr]
 refine⟨?_⟩;unfold Turns;rw[e];have hrl:Rl w w':=by
  refine⟨hgr.size,fun p k z e=>?_,fun k cs T hT e=>?_⟩
  ·rw[World.cell?_of_block (w:=w) (hgr.block p.block (aau e) fun hb=>?_)]
   ·exact e
   ·rcases R.own.2 with⟨rfl,_⟩|⟨g',cap,cur,rfl,_,hh,h5,h6,h7,h8⟩
    ·simp[Value.ownBlock]at hb
    ·simp only[Value.ownBlock,Option.some.injEq]at hb;obtain⟨pb,po,pm⟩:=p;simp only at hb;subst hb;simp only[World.cell?,hh]at e;cases pm with
     |some m=>simp at e
     |none=>
      have hm:=R.noi _ cur _ rfl hh (.int k z) (Array.mem_toList_iff.2 (Array.mem_of_getElem? (i:=po) (by simpa using e)));exact absurd hm (by simp[isI])
  ·refine(hgr.block k (aaa e) fun hb=>?_).trans e;rcases R.own.2 with⟨rfl,_⟩|⟨g',cap,cur,rfl,_,hh,_⟩
   ·simp[Value.ownBlock]at hb
   ·simp only[Value.ownBlock,Option.some.injEq]at hb;subst hb;rw[hh]at e;injection e with e;injection e with _ e _;rcases hT with rfl|rfl
    ·exact absurd e (by decide)
    ·exact absurd e (by decide)
 have hni:NoI w' v':=by
  have hown:=R.own;rw[<-hz1]at hown;exact ayo (P:=Tryz.prog) w B 79 ty 85 i0 _ 32 Tryz.underlying79 hi hz0 hz2 (by omega) v es.length (flat es) hown ⟨g,0,none⟩ 1 [.bool ng,.slice ao n c] (by rw[hz1];rfl) hcl (by simp[Value.oneCell']) (by simp[maxLen];omega) (by omega) R.noi (by simp[isI]) (by simp[Value.cells,isI]) hr
 refine⟨⟨by rw[hfl,List.length_append];exact ho,hni,by simp[R.len],fun k f y hf hy=>?_⟩,⟨hgr.os,hgr.tape,hgr.output,hgr.size,fun k hk=>hgr.block k (by omega) (fun e=>?_)⟩⟩
 ·by_cases hk:k<es.length
  ·rw[List.getElem?_append_left hk]at hf;rw[List.getElem?_append_left (by rw[<-R.len];exact hk)]at hy;exact(R.out k f y hf hy).rl hrl
  ·have hkl:=(List.getElem?_eq_some_iff.1 hf).1;simp at hkl;obtain rfl:k=es.length:=by omega
   rw[List.getElem?_append_right (Nat.le_refl _)]at hf;rw[List.getElem?_append_right (by rw[R.len];exact Nat.le_refl _)]at hy;simp[R.len]at hf hy;subst hf hy;exact S.rl hrl
 ·have:=R.own.lt k e.symm;omega
end
theorem nofF(w:World)(x:Int)(v:Value)(L:Nat)(hx:IsW x L v w)(hL:L<=100000):
  Calls Tryz.prog 84 #[v] w fun e w'=>∃r,e=.returned r/\OutN x (3*L) r w'/\Below w.heap.size w w':=by
 obtain⟨n1,a1,m1,c1,xs,rfl,A1,l1⟩:=hx;refine(Dm.a03 w _ _ _ _ xs x A1 (by omega)).mono ?_;rintro e w' ⟨ng,ao,cap,rs,rfl,G,l,hb⟩;exact⟨_,rfl,⟨_,_,_,_,rfl,G,by omega⟩,hb⟩
theorem awo(w:World)(v:Value)(zs:List Int)(L:Nat)(h:IsRow w v zs L)(hl:zs.length<=100001)(hL:L<=100000):
  Calls Tryz.prog 46 #[v] w fun e w'=>∃r,e=.returned r/\NRow w' r zs (3*L)/\Below w.heap.size w w':=by
 obtain⟨ao,cap,rfl,_⟩:=h.parts;have H:=hide h;clear h;obtain⟨n,hn⟩:∃n,zs.length=n:=⟨_,rfl⟩;rw[hn]at H hl ⊢;have HN:=hide hn;clear hn;go_enter Tryz.func46,Tryz.ntmps46
 go_wp2_with fail
 go_loopw [3,4] (fun ov iv wr=>∃(k:Nat) (fs:List WE),iv=.int .i64 k/\k<=n/\Below w.heap.size w wr/\RnO w.heap.size wr ov fs (zs.take k) (3*L)) (fun _ iv _=>n-(intOf iv).toNat)
 case atStart=>exact⟨0,[],rfl,Nat.zero_le _,Below.refl _ _,ayp _ _ _⟩
 case round=>
  obtain⟨k,fs,rfl,hk,hbw,hown⟩:=hrel;have HW:=hide hbw;have HOWN:=hide hown;by_cases hlt:k<n
  ·obtain⟨z,hz⟩:∃z,zs[k]? = some z:=⟨_,List.getElem?_eq_getElem (by have:=HN.out;omega)⟩;obtain⟨b,off,ng,a,m,c,rfl,hbl,x0,x1,hxw⟩:=(H.out.below hbw).cell hz;have HZ:=hide hz;have K1:=hide (nofF wr z _ L hxw hL);have hlt':(k:Int)<(n:Int):=by omega
   obtain⟨aov,capv,hov,_⟩:=Cl.own hown.own;subst hov;clear hbw hown hz hxw;go_wp2_with fail
   refine K1.out.mono ?_;rintro e w2 ⟨r2,rfl,hf2,hb2⟩;obtain⟨ng2,ao2,n2,cap2,rfl⟩:=hf2.agg;have hA:=hAl w2 (.cells #[.bool ng2,.slice ao2 n2 cap2] 85);have hb2':=hb2.trans (hA.mono hb2.size);have hR2:=HOWN.out.below hb2';have hO2:=heap_alloc_new w2 (.cells #[.bool ng2,.slice ao2 n2 cap2] 85);have hS2:=hf2.rl (Rl.of_below hA);have hsz:w.heap.size<=(w2.alloc (.cells #[.bool ng2,.slice ao2 n2 cap2] 85)).heap.size:=Nat.le_trans HW.out.size hb2'.size;have hfl:fs.length<=1000000:=by rw[HOWN.out.len,List.length_take];omega
   go_wp2_with (at_builtin;refine ae9 rfl (ayq (i:=11) (j:=17) rfl rfl hR2 hO2 hS2 hfl hsz) ?_)
   intro v3 w3 hR3 hb3;obtain⟨aov3,capv3,hov3,_⟩:=Cl.own hR3.own;subst hov3;have HR3:=hide hR3;have HB3:=hide ((HW.out.trans (hb2'.mono HW.out.size)).trans hb3);clear hR3 hb3 hR2 hO2 hS2 hsz hA hb2 hb2' hf2 hfl;go_wp2;go_roundw
   case rel=>
    refine⟨k+1,fs ++ [⟨ng2,ao2,n2,cap2,[]⟩],by go_num,by omega,HB3.out,?_⟩;rw[List.take_add_one,HZ.out];exact HR3.out
   case measure=>simp[intOf];omega
  ·have hlt':decide ((k:Int)<(n:Int))=false:=by simp;omega
   have hkn:k=n:=by omega
   subst hkn;obtain⟨aov,capv,hov,_⟩:=Cl.own hown.own;subst hov;clear hbw hown;go_wp2;refine bodyPost_ret (v:=_) (acs rfl rfl) rfl ⟨_,rfl,(by have h:=HOWN.out.nrow;rw[List.take_of_length_le (by have:=HN.out;omega)]at h;exact h),HW.out⟩
theorem NRow.len{w:World}{ao:Option Addr}{n cap:Nat}{zs:List Int}{L:Nat}(h:NRow w (.slice ao n cap) zs L):n=zs.length/\zs.length<=9223372036854775807:=by
 obtain⟨a,c,e,h2⟩:=h.parts;simp only[Value.slice.injEq]at e;exact⟨e.2.1,h2⟩
theorem NRow.some{w:World}{ao:Option Addr}{n cap:Nat}{zs:List Int}{L:Nat}(h:NRow w (.slice ao n cap) zs L)(hn:0<n):∃b off,ao=some ⟨b,off,none⟩:=by
 have:=h.len.1;obtain⟨b,off,_,_,_,_,e,_⟩:=h.cell (k:=0) (List.getElem?_eq_getElem (by omega));exact⟨b,off,e⟩
section
end
theorem nsignF(w:World)(z:Int)(v:Value)(L:Nat)(h:OutN z L v w):
  Calls Tryz.prog 81 #[v] w fun e w'=>e=.returned (.int .i64 (Int.sign z))/\Below w.heap.size w w':=by
 obtain⟨ng,ao,cap,rs,rfl,W,l⟩:=h;exact Dm.axr w _ _ _ _ _ W
theorem infoStr:(Tryz.prog.info? 9).map (fun i=>(i.zero,i.size,i.bytes))=some (some (.string ⟨#[]⟩),1,16):=by kernel_rfl
theorem akh(w:World)(v:Value)(ss:List ByteArray)(h:Strs w v ss)(hl:ss.length<=1099511627776):
  Calls Tryz.prog 13 #[v] w fun e w'=>∃r,e=.returned r/\Strs w' r ss/\Below w.heap.size w w':=by
 obtain⟨ao,cap,rfl,h1,h2,h3,h4⟩:=h;obtain⟨i0,hi,hz0,hz1,hz2⟩:=info_parts infoStr;by_cases h0:0<ss.length
 ·rcases h4 with h4|⟨b,off,rfl,hbl,hc⟩
  ·omega
  have hcells:∀j u,(ss.map Value.string)[j]? = some u->w.cell? ((⟨b,off,none⟩:Addr).add j)=some u:=fun j u hu=>by
   rw[show((⟨b,off,none⟩:Addr).add j)=⟨b,off+j,none⟩from by simp[Addr.add]];exact hc j u hu
  have hone:∀u∈ss.map Value.string,u.oneCell'=true:=by
   intro u hu;obtain⟨z,_,rfl⟩:=List.mem_map.1 hu;rfl
  clear hc;go_enter Tryz.func13,Tryz.ntmps13
  go_wp2_with (at_builtin;refine wpList_append_own _ rfl (.const (.slice none 0 0)) (.tmp 3) 22 rfl w.heap.size 9 i0 (.string ⟨#[]⟩) 1 16 Tryz.underlying22 hi hz0 hz1 hz2 rfl (by decide) _ _ _ rfl (World.ownsRow_nil _ _ _ _) ⟨b,off,none⟩ ss.length cap (ss.map Value.string) rfl (by simp) hcells hone (by unfold maxLen;omega) (by omega) (by simp) ?_)
  intro v' w1 hown hgrow _;have hb1:Below w.heap.size w w1:=(Below.refl w.heap.size w).grown hgrow (by simp) (by intro k hk;simp[Value.ownBlock]at hk);have how:Strs w1 v' ss:=Ce.own (by simpa using hown);clear hown hgrow;go_wp2;go_ret;exact⟨_,rfl,how,hb1⟩
 ·have e:ss = []:=List.eq_nil_of_length_eq_zero (by omega);subst e;cases ao with
  |none=>
   go_enter Tryz.func13,Tryz.ntmps13
   go_wp2;go_ret;exact⟨_,rfl,⟨none,0,rfl,Nat.le_refl _,by simp,rfl,.inl rfl⟩,Below.refl _ _⟩
  |some ad=>
   go_enter Tryz.func13,Tryz.ntmps13
   go_wp2;go_ret;exact⟨_,rfl,⟨none,0,rfl,Nat.le_refl _,by simp,rfl,.inl rfl⟩,Below.refl _ _⟩
theorem ai1(w:World)(v:Value)(vs:List ByteArray)(h:Strs w v vs):
  Calls Tryz.prog 14 #[v] w fun e w'=>e=.returned (.int .i64 (nmsE vs))/\Below w.heap.size w w':=by
 obtain⟨ao,cap,rfl,_⟩:=id h;obtain⟨_,hb,hb2,hb3⟩:=h.parts;have H:=hide h;clear h;obtain⟨n,hn⟩:∃n,vs.length=n:=⟨_,rfl⟩;rw[hn]at H hb hb2 ⊢;have HN:=hide hn;clear hn;by_cases hbig:16<n
 ·have hbig':(16:Int)<(n:Int):=by omega
  have he:nmsE vs=1:=if_neg (fun h=>by have:=h.1;rw[HN.out]at this;omega);rw[he];clear he;go_enter Tryz.func14,Tryz.ntmps14
  go_wp2;go_ret;exact⟨rfl,Below.refl _ _⟩
 have hbig':decide ((16:Int)<(n:Int))=false:=by simp;omega
 go_enter Tryz.func14,Tryz.ntmps14
 go_wp2;go_loopw [3,4] (fun iv _ wr=>∃(i:Nat),iv=.int .i64 i/\i<=n/\(∀(j:Nat) (x:ByteArray),j<i->vs[j]? = some x->isNm x=true/\x∉vs.take j)/\Below w.heap.size w wr) (fun iv _ _=>n-(intOf iv).toNat)
 case atStart=>exact⟨0,rfl,Nat.zero_le _,by intro j x hj;omega,Below.refl _ _⟩
 case round=>
  obtain⟨i,rfl,hi,hz,hbw⟩:=hrel;have HZ:=hide hz;have HW:=hide hbw;clear hz hbw;by_cases hlt:i<n
  ·have hget:vs[i]? = some (vs[i]'(by have:=HN.out;omega)):=List.getElem?_eq_getElem _;generalize vs[i]'(by have:=HN.out;omega)=x at hget;obtain⟨b,off,rfl,hbl,hc⟩:=(H.out.below HW.out).cell hget;have HG:=hide hget;have hlt':(i:Int)<(n:Int):=by omega
   clear hget;have K:=hide (awl wr x);cases hnm:isNm x with
   |false=>
    have HNM:=hide hnm;rw[hnm]at K;clear hnm;have HE:Hid (nmsE vs=1):=if_neg (fun h=>by have:=(h.2 i x HG.out).1;rw[HNM.out]at this;cases this);go_wp2_with fail
    refine K.out.mono ?_;rintro r w1 ⟨hb1,rfl⟩;have HB1:=hide (HW.out.trans (hb1.mono HW.out.size));clear hb1;go_wp2;go_ret;exact⟨by rw[HE.out];rfl,HB1.out⟩
   |true=>
    have HNM:=hide hnm;rw[hnm]at K;clear hnm;go_wp2_with fail
    refine K.out.mono ?_;rintro r w1 ⟨hb1,rfl⟩;have HB1:=hide (HW.out.trans (hb1.mono HW.out.size));clear hb1 hc hbl;go_wp2_with fail
    go_loopw [4] (fun kv wr'=>∃(k:Nat),kv=.int .i64 k/\k<=i/\x∉vs.take k/\Below w.heap.size w wr') (fun kv _=>i-(intOf kv).toNat)
    case atStart=>exact⟨0,rfl,Nat.zero_le _,by simp,HB1.out⟩
    case round=>
     obtain⟨k,rfl,hk,hx,hbk⟩:=hrel;have HX:=hide hx;have HK:=hide hbk;have HS:=hide (H.out.below hbk);clear hx hbk;by_cases hlk:k<i
     ·have hlk':(k:Int)<(i:Int):=by omega
      obtain⟨y,hy⟩:∃y,vs[k]? = some y:=⟨_,List.getElem?_eq_getElem (by have:=HN.out;omega)⟩;obtain⟨b1,off1,e1,hbl1,hc1⟩:=HS.out.cell hy;obtain⟨b2,off2,e2,hbl2,hc2⟩:=HS.out.cell HG.out;obtain⟨rfl,rfl⟩:b=b1/\off=off1:=by simpa using e1
      obtain⟨rfl,rfl⟩:b=b2/\off=off2:=by simpa using e2
      have hkn:(k:Int)<(n:Int):=by omega
      have HY:=hide hy;clear hy e1 e2;by_cases he:y=x
      ·subst he;have HE:Hid (nmsE vs=1):=if_neg (fun h=>(h.2 i y HG.out).2 (List.mem_of_getElem? (i:=k) (by rw[List.getElem?_take,if_pos hlk];exact HY.out)));go_wp2_with fail
       go_quiet (fail)
       go_wp2;go_ret;exact⟨by rw[HE.out];rfl,gdrewN HK.out nq⟩
      ·have hne:(y.toList==x.toList)=false:=afz he;have HNE:=hide he;clear he;go_wp2_with fail
       go_quiet (fail)
       go_wp2;go_roundw
       case rel=>exact⟨k+1,by go_num,by omega,by rw[List.take_add_one,HY.out];simp only[Option.toList,List.mem_append,List.mem_singleton,not_or];exact⟨HX.out,fun e=>HNE.out e.symm⟩,gdrewN HK.out nq⟩
       case measure=>simp[intOf];omega
     ·have hlk':decide ((k:Int)<(i:Int))=false:=by simp;omega
      obtain rfl:k=i:=by omega
      go_wp2;go_roundw
      case rel=>
       refine⟨k+1,by go_num,by omega,?_,HK.out⟩;intro j y hj hy;by_cases hji:j=k
       ·subst hji;rw[HG.out]at hy;obtain rfl:=Option.some.inj hy;exact⟨HNM.out,HX.out⟩
       ·exact HZ.out j y (by omega) hy
      case measure=>simp[intOf];omega
  ·have hlt':decide ((i:Int)<(n:Int))=false:=by simp;omega
   have HE:Hid (nmsE vs=0):=if_pos ⟨by rw[HN.out];omega,fun j x hj=>HZ.out j x (by have:=(List.getElem?_eq_some_iff.1 hj).1;rw[HN.out]at this;omega) hj⟩;go_wp2;go_ret;exact⟨by rw[HE.out];rfl,HW.out⟩
theorem nabsF(w:World)(z:Int)(v:Value)(L:Nat)(h:OutN z L v w)(hL:L<=1000000):
  Calls Tryz.prog 98 #[v] w fun e w'=>∃r,e=.returned r/\OutN (z.natAbs:Int) L r w'/\Below w.heap.size w w':=by
 obtain⟨ng,ao,cap,rs,rfl,⟨G,_⟩,l⟩:=h;refine(Dm.axq w ng ao cap rs _ G (by omega)).mono ?_;rintro e w' ⟨ng',ao',cap',rs',rfl,hW,hl,hb⟩;exact⟨_,rfl,⟨_,_,_,_,rfl,hW,by omega⟩,hb⟩
theorem ntextF(w:World)(z:Int)(v:Value)(L:Nat)(h:OutN z L v w)(hL:L<=100000):
  Calls Tryz.prog 97 #[v] w fun e w'=>e=.returned (.string (txt z))/\Below w.heap.size w w':=by
 obtain⟨ng,ao,cap,rs,rfl,⟨G,hs⟩,l⟩:=h;subst hs;by_cases hz:z<0
 ·have h0:0<rs.length:=by
   apply Nat.pos_of_ne_zero;intro h;have hv:=G.2.2;rw[List.eq_nil_of_length_eq_zero h]at hv;simp only[Dm.val]at hv;omega
  rw[decide_eq_true hz];refine(Dm.am1 w ao cap rs _ G (by omega) h0).mono ?_;rintro e w' ⟨ds,rfl,hd,hb⟩;exact⟨by rw[txt,if_pos hz,<-adr hd],hb⟩
 ·rw[decide_eq_false hz];by_cases h0:0<rs.length
  ·refine(Dm.asu w ao cap rs _ G (by omega) h0).mono ?_;rintro e w' ⟨ds,rfl,hd,hb⟩;exact⟨by rw[txt,if_neg hz,<-adr hd],hb⟩
  ·obtain rfl:rs = []:=List.eq_nil_of_length_eq_zero (by omega);have hv:=G.2.2;simp only[Dm.val]at hv;refine(Dm.ap2 w ao cap).mono ?_;rintro e w' ⟨ds,rfl,hd,hb⟩;exact⟨by rw[txt,if_neg hz,<-hv,<-adr hd],hb⟩
theorem ag5:txt 1=⟨#[49]⟩:=by
 have h:IsDec [49] 1:=⟨by intro z hz;simp at hz;omega,by kernel_rfl,.inr ⟨49,[],rfl,by decide⟩⟩;rw[txt,if_neg (by decide),show((1:Int).natAbs:Int)=1 from rfl,<-adr h];rfl
theorem ad0{n:Nat}(h:n≠1):txt (n:Int)≠⟨#[49]⟩:=by
 intro e;have hp:=aog (z:=(n:Int)) (by omega);have hd:=ag2 n;rw[Int.natAbs_natCast]at hp;rw[<-hp,e]at hd;have h2:=hd.2.1;rw[show dval (bytesOf ⟨#[49]⟩)=1 by kernel_rfl]at h2;omega
theorem addL(x y:List UInt8)(h:x.length+y.length<=1000000000)(W:World):(Op.stringOp .add ⟨x.toArray⟩ ⟨y.toArray⟩).run Tryz.prog W=.ok (.string ⟨(x++y).toArray⟩) W:=by
 rw[run_string_add_sum (P:=Tryz.prog) W _ _ (by rw[ag4,ag4];omega),ai0]
theorem a0f(x:List UInt8):((⟨x.toArray⟩:ByteArray).toList == [])=decide (x = []):=by
 rw[ByteArray.toList_eq];by_cases h:x = []
 ·rw[h];rfl
 ·rw[decide_eq_false h,beq_eq_false_iff_ne];simpa using h
theorem ank(w:World)(rv vv:Value)(zs:List Int)(vs:List ByteArray)(L:Nat)(hr:NRow w rv zs (3*L))(hL:L<=10000)(hlt:∀z∈zs,(z.natAbs:Int)<pw L)(hv:Strs w vv vs)(hN:NmsOk vs)(hl:zs.length=vs.length+1):
  Calls Tryz.prog 60 #[rv,vv] w fun e w'=>e=.returned (.string (prn zs vs))/\Below w.heap.size w w':=by
 obtain⟨ra,rc,rfl,_⟩:=hr.parts;obtain⟨va,vc,rfl,_⟩:=id hv;obtain⟨n,hnn⟩:∃n,vs.length=n:=⟨_,rfl⟩;have hn16:n<=16:=by have:=hN.1;omega
 rw[hl]at hr ⊢;rw[hnn]at hr hv hl ⊢;have HR:=hide hr;have HV:=hide hv;have HN:=hide hN;have HNN:=hide hnn;have HL:=hide hl;have HLEN:Hid (∀k,k<=n->(lefts zs vs k).length<=k*(10*L+4102)):=(fun k hk=>ags hlt hN k (by omega) (by omega));have HLT:=hide hlt;obtain⟨z9,hz9⟩:∃z,zs[n]? = some z:=⟨_,List.getElem?_eq_getElem (by omega)⟩;obtain⟨b,off,har⟩:=hr.some (by omega);subst har;have HZ9:=hide hz9;have HP:Hid (prn zs vs=⟨(if lefts zs vs n = []then [48]else lefts zs vs n).toArray⟩++⟨#[32,61,32]⟩++txt z9):=(show _=_ by unfold prn;rw[hnn,List.getD_eq_getElem?_getD,hz9];rfl);clear hr hv hN hnn hl hlt hz9;go_enter Tryz.func60,Tryz.ntmps60
 go_wp2_with fail
 go_loopw [5,6,7,8] (fun lv iv _ _ wr=>∃k:Nat,iv=.int .i64 k/\k<=n/\lv=.string ⟨(lefts zs vs k).toArray⟩/\Below w.heap.size w wr) (fun _ iv _ _ _=>n-(intOf iv).toNat)
 case atStart=>exact⟨0,rfl,Nat.zero_le _,rfl,Below.refl _ _⟩
 case round=>
  obtain⟨k,rfl,hk,rfl,hbw⟩:=hrel;have HW:=hide hbw;have hll:(lefts zs vs k).length<=16*(10*L+4102):=Nat.le_trans (HLEN.out k hk) (Nat.mul_le_mul_right _ (by omega));have hef:=a0f (lefts zs vs k);by_cases hlt:k<n
  ·have hlt':(k:Int)<(n:Int):=by omega
   have hkn:(k:Int)<((n+1:Nat):Int):=by omega
   obtain⟨z,hz⟩:∃z,zs[k]? = some z:=⟨_,List.getElem?_eq_getElem (by have:=HL.out;omega)⟩;obtain⟨x,hx⟩:∃x,vs[k]? = some x:=⟨_,List.getElem?_eq_getElem (by have:=HNN.out;omega)⟩;obtain⟨b',off',ng,a,m,c,hao,hbl,x0,x1,hxw⟩:=(HR.out.below hbw).cell hz;obtain⟨rfl,rfl⟩:b=b'/\off=off':=by simpa using hao
   obtain⟨bv,ov,rfl,hbvl,v0⟩:=(HV.out.below hbw).cell hx;have hxs:x.data.toList.length<=4096:=by rw[Array.length_toList];exact agr (HN.out.2 k x hx).1
   obtain⟨f,hf⟩:∃f,decide (lefts zs vs k = [])=f:=⟨_,rfl⟩;rw[hf]at hef;have HST:Hid (lefts zs vs (k+1)=lefts zs vs k++tterm z f x.data.toList):=(show _=_ by rw[lefts,List.getD_eq_getElem?_getD,List.getD_eq_getElem?_getD,hz,hx,hf];rfl);have hts:=aev (z:=(z.natAbs:Int)) (by rw[Int.natAbs_natCast];exact HLT.out z (List.mem_of_getElem? hz));have K1:=nsignF wr z _ _ hxw;have HXW:=hide hxw;have HF:=hide hf;clear hbw hxw hao hz hx hf;obtain⟨pl,hpl⟩:∃pl,lefts zs vs k=pl:=⟨_,rfl⟩;rw[hpl]at hef hll HST HF ⊢;clear hpl;obtain⟨sl,hsl⟩:∃sl:ByteArray,⟨pl.toArray⟩=sl:=⟨_,rfl⟩;have HSL:=hide hsl;rw[hsl]at hef ⊢;clear hsl;by_cases hz0:z=0
   ·rw[hz0,Int.sign_zero]at K1;have K1:=hide K1;have HST':Hid (lefts zs vs (k+1)=pl):=(show _=_ by rw[HST.out,tterm,if_pos hz0,List.append_nil]);clear hz0 hef;go_wp2_with fail
    refine K1.out.mono ?_;rintro e w2 ⟨rfl,hb2⟩;have HB2:=hide (HW.out.trans (hb2.mono HW.out.size));clear hb2 K1;go_wp2;go_roundw
    case rel=>exact⟨k+1,by go_num,by omega,by rw[HST'.out,HSL.out],HB2.out⟩
    case measure=>simp[intOf];omega
   obtain⟨s,hs'⟩:∃s,Int.sign z=s:=⟨_,rfl⟩;have hs0:(s==0)=false:=beq_eq_false_iff_ne.2 (fun e=>hz0 (Int.sign_eq_zero_iff_zero.1 (by omega)));have HSZ:Hid (s<0↔z<0):=(show _↔_ by rw[<-hs'];exact Int.sign_neg_iff);rw[hs']at K1;have K1:=hide K1;rw[tterm,if_neg hz0]at HST;clear hz0 hs';have hfp:f=true->pl = []:=fun e=>of_decide_eq_true (HF.out.trans e)
   have hcs:(f=true/\s<0/\tpre z f = [45])\/(f=true/\¬s<0/\tpre z f = [])\/(f=false/\s<0/\tpre z f = [32,45,32])\/(f=false/\¬s<0/\tpre z f = [32,43,32]):=by
    rw[HSZ.out];unfold tpre;cases f <;> by_cases hz:z<0 <;> simp[hz]
   have K2:∀W,Below wr.heap.size wr W->Calls Tryz.prog 98 #[.agg #[.bool ng,.slice a m c]] W fun e w'=>∃r,e=.returned r/\OutN (z.natAbs:Int) (3*L) r w'/\Below W.heap.size W w':=fun W hb=>nabsF W z _ _ (HXW.out.rl (Rl.of_below hb)) (by omega)
   have K2:=hide K2;clear HF HSZ;rcases hcs with⟨rfl,hs1,hp⟩|⟨rfl,hs1,hp⟩|⟨rfl,hs1,hp⟩|⟨rfl,hs1,hp⟩
   ·obtain rfl:=hfp rfl;obtain rfl:sl=⟨#[]⟩:=HSL.out.symm;obtain⟨px,hpx,hx9⟩:∃px:List UInt8,px.length<=16*(10*L+4105)/\px = []++tpre z true:=⟨_,by rw[hp];exact Nat.le_trans (show _<=3 by decide) (by omega),rfl⟩;have hX:(⟨#[45]⟩:ByteArray)=⟨px.toArray⟩:=by rw[hx9,hp];rfl
    rw[<-List.append_assoc,<-hx9]at HST;clear hx9;clear hp hfp;go_wp2_with fail
    refine K1.out.mono ?_;rintro e w2 ⟨rfl,hb2⟩;have HB2:=hide (HW.out.trans (hb2.mono HW.out.size));have y0:=(hb2.cell (p:=⟨b,off+k*2,none⟩) hbl).trans x0;have y1:=(hb2.cell (p:=⟨b,off+k*2+1,none⟩) hbl).trans x1;have K2':=hide (K2.out w2 hb2);have v2:=(hb2.cell (p:=⟨bv,ov+k,none⟩) hbvl).trans v0;have hbv2:=Nat.lt_of_lt_of_le hbvl hb2.size;clear hb2 K1 K2 x0 x1 v0 hbl hbvl;go_wp2_with fail
    rw[hX];clear hX;refine K2'.out.mono ?_;rintro e w3 ⟨r3,rfl,ho3,hb3⟩;obtain⟨ng3,a3,n3,c3,rfl⟩:=ho3.agg;have HB3:=hide (HB2.out.trans (hb3.mono HB2.out.size));have K3:=ntextF w3 _ _ _ ho3 (by omega);have v3:=(hb3.cell (p:=⟨bv,ov+k,none⟩) hbv2).trans v2;have hbv3:=Nat.lt_of_lt_of_le hbv2 hb3.size;clear ho3 hb3 K2' y0 y1 v2 hbv2;by_cases h1:z.natAbs=1
    ·rw[if_pos h1,List.nil_append]at HST;rw[h1,show((1:Nat):Int)=1 from rfl,ag5]at K3;have K3:=hide K3;have ha3:∀W,(Op.stringOp .add ⟨px.toArray⟩ x).run Tryz.prog W=.ok (.string ⟨(lefts zs vs (k+1)).toArray⟩) W:=fun W=>(addL px x.data.toList (by omega) W).trans (by rw[HST.out])
     clear h1 hts hxs;go_wp2_with fail
     refine K3.out.mono ?_;rintro e w4 ⟨rfl,hb4⟩;have HB4:=hide (HB3.out.trans (hb4.mono HB3.out.size));have v4:=(hb4.cell (p:=⟨bv,ov+k,none⟩) hbv3).trans v3;clear hb4 K3 v3;go_wp2;go_roundw
     case rel=>exact⟨k+1,by go_num,by omega,rfl,HB4.out⟩
     case measure=>simp[intOf];omega
    ·rw[if_neg h1]at HST;have hne0:=ad0 h1;have K3:=hide K3;obtain⟨tm,htm⟩:∃tm,txt (z.natAbs:Int)=tm:=⟨_,rfl⟩;rw[htm]at K3 HST hne0 hts;have hne1:(tm.toList==(⟨#[49]⟩:ByteArray).toList)=false:=afz hne0;have hne2:(tm.toList == [49])=false:=by rw[show([49]:List UInt8)=(⟨#[49]⟩:ByteArray).toList by rw[ByteArray.toList_eq]];exact hne1
     have hne3:(tm.toList != [49])=true:=by rw[bne,hne2];rfl
     have htl:tm.data.toList.length=tm.size:=by rw[Array.length_toList];rfl
     have ha1:∀W,(Op.stringOp .add ⟨px.toArray⟩ tm).run Tryz.prog W=.ok (.string ⟨(px++tm.data.toList).toArray⟩) W:=fun W=>addL px tm.data.toList (by omega) W
     have ha2:∀W,(Op.stringOp .add ⟨(px++tm.data.toList).toArray⟩ ⟨#[42]⟩).run Tryz.prog W=.ok (.string ⟨(px++tm.data.toList ++ [42]).toArray⟩) W:=fun W=>addL (px++tm.data.toList) [42] (by simp only[List.length_append,List.length_cons,List.length_nil];omega) W
     have ha3:∀W,(Op.stringOp .add ⟨(px++tm.data.toList ++ [42]).toArray⟩ x).run Tryz.prog W=.ok (.string ⟨(lefts zs vs (k+1)).toArray⟩) W:=fun W=>(addL (px++tm.data.toList ++ [42]) x.data.toList (by simp only[List.length_append,List.length_cons,List.length_nil];omega) W).trans (by rw[HST.out];simp only[List.append_assoc])
     generalize (px++tm.data.toList ++ [42])=p2 at ha2 ha3;generalize (px++tm.data.toList)=p1 at ha1 ha2;clear h1 hts hxs hne0 htm htl;go_wp2_with fail
     refine K3.out.mono ?_;rintro e w4 ⟨rfl,hb4⟩;have HB4:=hide (HB3.out.trans (hb4.mono HB3.out.size));have v4:=(hb4.cell (p:=⟨bv,ov+k,none⟩) hbv3).trans v3;clear hb4 K3 v3;go_wp2;go_roundw
     case rel=>exact⟨k+1,by go_num,by omega,rfl,HB4.out⟩
     case measure=>simp[intOf];omega
   ·obtain rfl:=hfp rfl;obtain rfl:sl=⟨#[]⟩:=HSL.out.symm;obtain⟨px,hpx,hx9⟩:∃px:List UInt8,px.length<=16*(10*L+4105)/\px = []++tpre z true:=⟨_,by rw[hp];exact Nat.le_trans (show _<=3 by decide) (by omega),rfl⟩;obtain rfl:px = []:=by rw[hx9,hp];rfl
    rw[<-List.append_assoc,<-hx9]at HST;clear hx9;clear hp hfp;go_wp2_with fail
    refine K1.out.mono ?_;rintro e w2 ⟨rfl,hb2⟩;have HB2:=hide (HW.out.trans (hb2.mono HW.out.size));have y0:=(hb2.cell (p:=⟨b,off+k*2,none⟩) hbl).trans x0;have y1:=(hb2.cell (p:=⟨b,off+k*2+1,none⟩) hbl).trans x1;have K2':=hide (K2.out w2 hb2);have v2:=(hb2.cell (p:=⟨bv,ov+k,none⟩) hbvl).trans v0;have hbv2:=Nat.lt_of_lt_of_le hbvl hb2.size;clear hb2 K1 K2 x0 x1 v0 hbl hbvl;go_wp2_with fail
    refine K2'.out.mono ?_;rintro e w3 ⟨r3,rfl,ho3,hb3⟩;obtain⟨ng3,a3,n3,c3,rfl⟩:=ho3.agg;have HB3:=hide (HB2.out.trans (hb3.mono HB2.out.size));have K3:=ntextF w3 _ _ _ ho3 (by omega);have v3:=(hb3.cell (p:=⟨bv,ov+k,none⟩) hbv2).trans v2;have hbv3:=Nat.lt_of_lt_of_le hbv2 hb3.size;clear ho3 hb3 K2' y0 y1 v2 hbv2;by_cases h1:z.natAbs=1
    ·rw[if_pos h1,List.nil_append]at HST;rw[h1,show((1:Nat):Int)=1 from rfl,ag5]at K3;have K3:=hide K3;have ha3:∀W,(Op.stringOp .add ⟨#[]⟩ x).run Tryz.prog W=.ok (.string ⟨(lefts zs vs (k+1)).toArray⟩) W:=fun W=>(addL [] x.data.toList (by omega) W).trans (by rw[HST.out])
     clear h1 hts hxs;go_wp2_with fail
     refine K3.out.mono ?_;rintro e w4 ⟨rfl,hb4⟩;have HB4:=hide (HB3.out.trans (hb4.mono HB3.out.size));have v4:=(hb4.cell (p:=⟨bv,ov+k,none⟩) hbv3).trans v3;clear hb4 K3 v3;go_wp2;go_roundw
     case rel=>exact⟨k+1,by go_num,by omega,rfl,HB4.out⟩
     case measure=>simp[intOf];omega
    ·rw[if_neg h1]at HST;have hne0:=ad0 h1;have K3:=hide K3;obtain⟨tm,htm⟩:∃tm,txt (z.natAbs:Int)=tm:=⟨_,rfl⟩;rw[htm]at K3 HST hne0 hts;have hne1:(tm.toList==(⟨#[49]⟩:ByteArray).toList)=false:=afz hne0;have hne2:(tm.toList == [49])=false:=by rw[show([49]:List UInt8)=(⟨#[49]⟩:ByteArray).toList by rw[ByteArray.toList_eq]];exact hne1
     have hne3:(tm.toList != [49])=true:=by rw[bne,hne2];rfl
     have htl:tm.data.toList.length=tm.size:=by rw[Array.length_toList];rfl
     have ha1:∀W,(Op.stringOp .add ⟨#[]⟩ tm).run Tryz.prog W=.ok (.string ⟨([]++tm.data.toList).toArray⟩) W:=fun W=>addL [] tm.data.toList (by omega) W
     have ha2:∀W,(Op.stringOp .add ⟨([]++tm.data.toList).toArray⟩ ⟨#[42]⟩).run Tryz.prog W=.ok (.string ⟨([]++tm.data.toList ++ [42]).toArray⟩) W:=fun W=>addL ([]++tm.data.toList) [42] (by simp only[List.length_append,List.length_cons,List.length_nil];omega) W
     have ha3:∀W,(Op.stringOp .add ⟨([]++tm.data.toList ++ [42]).toArray⟩ x).run Tryz.prog W=.ok (.string ⟨(lefts zs vs (k+1)).toArray⟩) W:=fun W=>(addL ([]++tm.data.toList ++ [42]) x.data.toList (by simp only[List.length_append,List.length_cons,List.length_nil];omega) W).trans (by rw[HST.out];simp only[List.append_assoc])
     generalize ([]++tm.data.toList ++ [42])=p2 at ha2 ha3;generalize ([]++tm.data.toList)=p1 at ha1 ha2;clear h1 hts hxs hne0 htm htl;go_wp2_with fail
     refine K3.out.mono ?_;rintro e w4 ⟨rfl,hb4⟩;have HB4:=hide (HB3.out.trans (hb4.mono HB3.out.size));have v4:=(hb4.cell (p:=⟨bv,ov+k,none⟩) hbv3).trans v3;clear hb4 K3 v3;go_wp2;go_roundw
     case rel=>exact⟨k+1,by go_num,by omega,rfl,HB4.out⟩
     case measure=>simp[intOf];omega
   ·obtain⟨px,hpx,hx9⟩:∃px:List UInt8,px.length<=16*(10*L+4105)/\px=pl++tpre z false:=⟨_,by rw[hp,List.length_append];simp only[List.length_cons,List.length_nil];omega,rfl⟩;have hef2:(sl.toList != [])=true:=by rw[bne,hef];rfl
    have ha0:∀W,(Op.stringOp .add sl ⟨#[32,45,32]⟩).run Tryz.prog W=.ok (.string ⟨px.toArray⟩) W:=fun W=>by rw[<-HSL.out];exact(addL pl [32,45,32] (by simp only[List.length_cons,List.length_nil];omega) W).trans (by rw[hx9,hp])
    rw[<-List.append_assoc,<-hx9]at HST;clear hx9;clear hp hfp;go_wp2_with fail
    refine K1.out.mono ?_;rintro e w2 ⟨rfl,hb2⟩;have HB2:=hide (HW.out.trans (hb2.mono HW.out.size));have y0:=(hb2.cell (p:=⟨b,off+k*2,none⟩) hbl).trans x0;have y1:=(hb2.cell (p:=⟨b,off+k*2+1,none⟩) hbl).trans x1;have K2':=hide (K2.out w2 hb2);have v2:=(hb2.cell (p:=⟨bv,ov+k,none⟩) hbvl).trans v0;have hbv2:=Nat.lt_of_lt_of_le hbvl hb2.size;clear hb2 K1 K2 x0 x1 v0 hbl hbvl;go_wp2_with fail
    refine K2'.out.mono ?_;rintro e w3 ⟨r3,rfl,ho3,hb3⟩;obtain⟨ng3,a3,n3,c3,rfl⟩:=ho3.agg;have HB3:=hide (HB2.out.trans (hb3.mono HB2.out.size));have K3:=ntextF w3 _ _ _ ho3 (by omega);have v3:=(hb3.cell (p:=⟨bv,ov+k,none⟩) hbv2).trans v2;have hbv3:=Nat.lt_of_lt_of_le hbv2 hb3.size;clear ho3 hb3 K2' y0 y1 v2 hbv2;by_cases h1:z.natAbs=1
    ·rw[if_pos h1,List.nil_append]at HST;rw[h1,show((1:Nat):Int)=1 from rfl,ag5]at K3;have K3:=hide K3;have ha3:∀W,(Op.stringOp .add ⟨px.toArray⟩ x).run Tryz.prog W=.ok (.string ⟨(lefts zs vs (k+1)).toArray⟩) W:=fun W=>(addL px x.data.toList (by omega) W).trans (by rw[HST.out])
     clear h1 hts hxs;go_wp2_with fail
     refine K3.out.mono ?_;rintro e w4 ⟨rfl,hb4⟩;have HB4:=hide (HB3.out.trans (hb4.mono HB3.out.size));have v4:=(hb4.cell (p:=⟨bv,ov+k,none⟩) hbv3).trans v3;clear hb4 K3 v3;go_wp2;go_roundw
     case rel=>exact⟨k+1,by go_num,by omega,rfl,HB4.out⟩
     case measure=>simp[intOf];omega
    ·rw[if_neg h1]at HST;have hne0:=ad0 h1;have K3:=hide K3;obtain⟨tm,htm⟩:∃tm,txt (z.natAbs:Int)=tm:=⟨_,rfl⟩;rw[htm]at K3 HST hne0 hts;have hne1:(tm.toList==(⟨#[49]⟩:ByteArray).toList)=false:=afz hne0;have hne2:(tm.toList == [49])=false:=by rw[show([49]:List UInt8)=(⟨#[49]⟩:ByteArray).toList by rw[ByteArray.toList_eq]];exact hne1
     have hne3:(tm.toList != [49])=true:=by rw[bne,hne2];rfl
     have htl:tm.data.toList.length=tm.size:=by rw[Array.length_toList];rfl
     have ha1:∀W,(Op.stringOp .add ⟨px.toArray⟩ tm).run Tryz.prog W=.ok (.string ⟨(px++tm.data.toList).toArray⟩) W:=fun W=>addL px tm.data.toList (by omega) W
     have ha2:∀W,(Op.stringOp .add ⟨(px++tm.data.toList).toArray⟩ ⟨#[42]⟩).run Tryz.prog W=.ok (.string ⟨(px++tm.data.toList ++ [42]).toArray⟩) W:=fun W=>addL (px++tm.data.toList) [42] (by simp only[List.length_append,List.length_cons,List.length_nil];omega) W
     have ha3:∀W,(Op.stringOp .add ⟨(px++tm.data.toList ++ [42]).toArray⟩ x).run Tryz.prog W=.ok (.string ⟨(lefts zs vs (k+1)).toArray⟩) W:=fun W=>(addL (px++tm.data.toList ++ [42]) x.data.toList (by simp only[List.length_append,List.length_cons,List.length_nil];omega) W).trans (by rw[HST.out];simp only[List.append_assoc])
     generalize (px++tm.data.toList ++ [42])=p2 at ha2 ha3;generalize (px++tm.data.toList)=p1 at ha1 ha2;clear h1 hts hxs hne0 htm htl;go_wp2_with fail
     refine K3.out.mono ?_;rintro e w4 ⟨rfl,hb4⟩;have HB4:=hide (HB3.out.trans (hb4.mono HB3.out.size));have v4:=(hb4.cell (p:=⟨bv,ov+k,none⟩) hbv3).trans v3;clear hb4 K3 v3;go_wp2;go_roundw
     case rel=>exact⟨k+1,by go_num,by omega,rfl,HB4.out⟩
     case measure=>simp[intOf];omega
   ·obtain⟨px,hpx,hx9⟩:∃px:List UInt8,px.length<=16*(10*L+4105)/\px=pl++tpre z false:=⟨_,by rw[hp,List.length_append];simp only[List.length_cons,List.length_nil];omega,rfl⟩;have hef2:(sl.toList != [])=true:=by rw[bne,hef];rfl
    have ha0:∀W,(Op.stringOp .add sl ⟨#[32,43,32]⟩).run Tryz.prog W=.ok (.string ⟨px.toArray⟩) W:=fun W=>by rw[<-HSL.out];exact(addL pl [32,43,32] (by simp only[List.length_cons,List.length_nil];omega) W).trans (by rw[hx9,hp])
    rw[<-List.append_assoc,<-hx9]at HST;clear hx9;clear hp hfp;go_wp2_with fail
    refine K1.out.mono ?_;rintro e w2 ⟨rfl,hb2⟩;have HB2:=hide (HW.out.trans (hb2.mono HW.out.size));have y0:=(hb2.cell (p:=⟨b,off+k*2,none⟩) hbl).trans x0;have y1:=(hb2.cell (p:=⟨b,off+k*2+1,none⟩) hbl).trans x1;have K2':=hide (K2.out w2 hb2);have v2:=(hb2.cell (p:=⟨bv,ov+k,none⟩) hbvl).trans v0;have hbv2:=Nat.lt_of_lt_of_le hbvl hb2.size;clear hb2 K1 K2 x0 x1 v0 hbl hbvl;go_wp2_with fail
    refine K2'.out.mono ?_;rintro e w3 ⟨r3,rfl,ho3,hb3⟩;obtain⟨ng3,a3,n3,c3,rfl⟩:=ho3.agg;have HB3:=hide (HB2.out.trans (hb3.mono HB2.out.size));have K3:=ntextF w3 _ _ _ ho3 (by omega);have v3:=(hb3.cell (p:=⟨bv,ov+k,none⟩) hbv2).trans v2;have hbv3:=Nat.lt_of_lt_of_le hbv2 hb3.size;clear ho3 hb3 K2' y0 y1 v2 hbv2;by_cases h1:z.natAbs=1
    ·rw[if_pos h1,List.nil_append]at HST;rw[h1,show((1:Nat):Int)=1 from rfl,ag5]at K3;have K3:=hide K3;have ha3:∀W,(Op.stringOp .add ⟨px.toArray⟩ x).run Tryz.prog W=.ok (.string ⟨(lefts zs vs (k+1)).toArray⟩) W:=fun W=>(addL px x.data.toList (by omega) W).trans (by rw[HST.out])
     clear h1 hts hxs;go_wp2_with fail
     refine K3.out.mono ?_;rintro e w4 ⟨rfl,hb4⟩;have HB4:=hide (HB3.out.trans (hb4.mono HB3.out.size));have v4:=(hb4.cell (p:=⟨bv,ov+k,none⟩) hbv3).trans v3;clear hb4 K3 v3;go_wp2;go_roundw
     case rel=>exact⟨k+1,by go_num,by omega,rfl,HB4.out⟩
     case measure=>simp[intOf];omega
    ·rw[if_neg h1]at HST;have hne0:=ad0 h1;have K3:=hide K3;obtain⟨tm,htm⟩:∃tm,txt (z.natAbs:Int)=tm:=⟨_,rfl⟩;rw[htm]at K3 HST hne0 hts;have hne1:(tm.toList==(⟨#[49]⟩:ByteArray).toList)=false:=afz hne0;have hne2:(tm.toList == [49])=false:=by rw[show([49]:List UInt8)=(⟨#[49]⟩:ByteArray).toList by rw[ByteArray.toList_eq]];exact hne1
     have hne3:(tm.toList != [49])=true:=by rw[bne,hne2];rfl
     have htl:tm.data.toList.length=tm.size:=by rw[Array.length_toList];rfl
     have ha1:∀W,(Op.stringOp .add ⟨px.toArray⟩ tm).run Tryz.prog W=.ok (.string ⟨(px++tm.data.toList).toArray⟩) W:=fun W=>addL px tm.data.toList (by omega) W
     have ha2:∀W,(Op.stringOp .add ⟨(px++tm.data.toList).toArray⟩ ⟨#[42]⟩).run Tryz.prog W=.ok (.string ⟨(px++tm.data.toList ++ [42]).toArray⟩) W:=fun W=>addL (px++tm.data.toList) [42] (by simp only[List.length_append,List.length_cons,List.length_nil];omega) W
     have ha3:∀W,(Op.stringOp .add ⟨(px++tm.data.toList ++ [42]).toArray⟩ x).run Tryz.prog W=.ok (.string ⟨(lefts zs vs (k+1)).toArray⟩) W:=fun W=>(addL (px++tm.data.toList ++ [42]) x.data.toList (by simp only[List.length_append,List.length_cons,List.length_nil];omega) W).trans (by rw[HST.out];simp only[List.append_assoc])
     generalize (px++tm.data.toList ++ [42])=p2 at ha2 ha3;generalize (px++tm.data.toList)=p1 at ha1 ha2;clear h1 hts hxs hne0 htm htl;go_wp2_with fail
     refine K3.out.mono ?_;rintro e w4 ⟨rfl,hb4⟩;have HB4:=hide (HB3.out.trans (hb4.mono HB3.out.size));have v4:=(hb4.cell (p:=⟨bv,ov+k,none⟩) hbv3).trans v3;clear hb4 K3 v3;go_wp2;go_roundw
     case rel=>exact⟨k+1,by go_num,by omega,rfl,HB4.out⟩
     case measure=>simp[intOf];omega
  ·have hlt':decide ((k:Int)<(n:Int))=false:=by simp;omega
   obtain rfl:k=n:=by omega
   obtain⟨b',off',ng,a,m,c,hao,_,x0,x1,hxw⟩:=(HR.out.below hbw).cell HZ9.out;obtain⟨rfl,rfl⟩:b=b'/\off=off':=by simpa using hao
   have hts:=aev (HLT.out z9 (List.mem_of_getElem? HZ9.out));have K:=hide (ntextF wr z9 _ _ hxw (by omega));have hkn:(k:Int)<((k+1:Nat):Int):=by omega
   obtain⟨t9,ht9⟩:∃t9,txt z9=t9:=⟨_,rfl⟩;rw[ht9]at K HP hts;have htl:t9.data.toList.length=t9.size:=by rw[Array.length_toList];rfl
   have HP':Hid (prn zs vs=⟨((if lefts zs vs k = []then [48]else lefts zs vs k) ++ [32,61,32]++t9.data.toList).toArray⟩):=(show _=_ by rw[HP.out,<-ai0,<-ai0]);obtain⟨pl,hpl⟩:∃pl,lefts zs vs k=pl:=⟨_,rfl⟩;rw[hpl]at hef hll HP' ⊢;clear hpl HP hbw hxw hao ht9;obtain⟨q,hq,hql⟩:∃q:List UInt8,(if pl = []then [48]else pl)=q/\q.length<=16*(10*L+4102):=⟨_,rfl,by split;(· simp only[List.length_cons,List.length_nil];omega);(· exact hll)⟩;have ha1:∀W,(Op.stringOp .add ⟨q.toArray⟩ ⟨#[32,61,32]⟩).run Tryz.prog W=.ok (.string ⟨(q ++ [32,61,32]).toArray⟩) W:=fun W=>addL q [32,61,32] (by simp only[List.length_cons,List.length_nil];omega) W
   have ha2:∀W,(Op.stringOp .add ⟨(q ++ [32,61,32]).toArray⟩ t9).run Tryz.prog W=.ok (.string ⟨(q ++ [32,61,32]++t9.data.toList).toArray⟩) W:=fun W=>addL (q ++ [32,61,32]) t9.data.toList (by simp only[List.length_append,List.length_cons,List.length_nil];omega) W
   rw[hq]at HP';generalize (q ++ [32,61,32]++t9.data.toList)=q2 at ha2 HP';generalize (q ++ [32,61,32])=q1 at ha1 ha2;by_cases h0:pl = []
   ·subst h0;rw[if_pos rfl]at hq;subst hq;have ha1':∀W,(Op.stringOp .add ⟨#[48]⟩ ⟨#[32,61,32]⟩).run Tryz.prog W=.ok (.string ⟨q1.toArray⟩) W:=ha1;clear hef hll hts htl ha1 hql;go_wp2_with fail
    refine K.out.mono ?_;rintro e w2 ⟨rfl,hb2⟩;have HB2:=hide (HW.out.trans (hb2.mono HW.out.size));clear hb2 K;go_wp2;refine bodyPost_ret (v:=_) (acs rfl rfl) rfl ⟨by rw[HP'.out];rfl,HB2.out⟩
   ·rw[decide_eq_false h0]at hef;rw[if_neg h0]at hq;subst hq;generalize (⟨pl.toArray⟩:ByteArray)=sl at hef ha1 ⊢;clear h0 hll hts htl hql;go_wp2_with fail
    refine K.out.mono ?_;rintro e w2 ⟨rfl,hb2⟩;have HB2:=hide (HW.out.trans (hb2.mono HW.out.size));clear hb2 K;go_wp2;refine bodyPost_ret (v:=_) (acs rfl rfl) rfl ⟨by rw[HP'.out];rfl,HB2.out⟩
def tsg(t:Tk)(s:ByteArray):Bool:=decide (t.kind=3)&&decide (t.text=s)
theorem atz(w:World)(q b:Nat)(tv uv:Value)(l:List Tk)(vs:List ByteArray)(i:Nat)(t:Tk)(h:Rea w q b tv uv l vs i)(ht:l[i]? = some t)(s:ByteArray)(hk:t.kind=3)(hx:t.text=s)(hj:i+1<l.length)(hl:l.length<=100000):
  Calls Tryz.prog 104 #[.pointer (some ⟨q,0,none⟩),.string s] w fun r w'=>r=.returned (.bool true)/\Rea w' q b tv uv l vs (i+1)/\Rc q q w w':=by
 have H:=hide h;have hq:=aaa h.blk;have K:=hide (aa8 w q b tv uv l vs i t h ht);have hi:i<=100000:=by omega
 clear hl;have HJ:=hide hj;obtain⟨_,_,_,_,_,_,K1,_,KF,_⟩:=h.cells ht;have HK1:=hide (And.intro K1 KF);clear h ht hj K1 KF;unfold Tk.av at K;rw[hk,hx]at K;clear hk hx;go_enter Tryz.func104,Tryz.ntmps104
 go_wp2_with fail
 refine K.out.mono ?_;rintro r w1 ⟨rfl,hb⟩;have HB:=hide hb;have k1:=(hb.cell (p:=⟨q,1,none⟩) hq).trans HK1.out.1;have kf:w1.frozen? ⟨q,1,none⟩=false:=frozen_of_row w1 q 1 _ _ ((hb.block q hq).trans H.out.blk);have hq1:q<w1.heap.size:=Nat.lt_of_lt_of_le hq hb.size;clear hb K HK1;generalize hf:w1.heap.size=f at *
 have hqf:q≠f:=by omega
 go_wp2;refine bodyPost_ret (v:=_) (by simp[results,Tryz.results104,go_sem];try rfl) rfl ⟨rfl,?_⟩;obtain⟨n1,n2⟩:=H.out.next (.of_below HB.out) (HB.out.block q hq) HJ.out;have hA:∀(W:World) (o:Obj),Below W.heap.size W (W.alloc o):=fun W o=>(Below.refl _ _).alloc (Nat.le_refl _) o
 exact⟨n1.below (hA _ _),n2.trans (.of_below (hA _ _))⟩
theorem awp(w:World)(q b:Nat)(tv uv:Value)(l:List Tk)(vs:List ByteArray)(i:Nat)(t:Tk)(h:Rea w q b tv uv l vs i)(ht:l[i]? = some t)(s:ByteArray)(hk:t.kind=3->t.text≠s):
  Calls Tryz.prog 104 #[.pointer (some ⟨q,0,none⟩),.string s] w fun r w'=>r=.returned (.bool false)/\Rea w' q b tv uv l vs i/\Rc q q w w':=by
 have H:=hide h;have K:=hide (aa8 w q b tv uv l vs i t h ht);clear h ht;unfold Tk.av at K;have hA:∀(W:World) (o:Obj),Below W.heap.size W (W.alloc o):=fun W o=>(Below.refl _ _).alloc (Nat.le_refl _) o
 by_cases h3:t.kind=3
 ·have hx:(t.text.toList==s.toList)=false:=afz (hk h3);rw[h3]at K;clear hk h3;generalize t.text=x at K hx;go_enter Tryz.func104,Tryz.ntmps104
  go_wp2_with fail
  refine K.out.mono ?_;rintro r w1 ⟨rfl,hb⟩;have HB:=hide hb;clear hb K;go_wp2;refine bodyPost_ret (v:=_) (by simp[results,Tryz.results104,go_sem];try rfl) rfl ⟨rfl,?_⟩;exact⟨(H.out.below HB.out).below (hA _ _),(Rc.of_below HB.out).trans (.of_below (hA _ _))⟩
 ·have hx:(t.kind != 3)=true:=bne_iff_ne.2 h3;clear hk h3;generalize t.kind=x at K hx;go_enter Tryz.func104,Tryz.ntmps104
  go_wp2_with fail
  refine K.out.mono ?_;rintro r w1 ⟨rfl,hb⟩;have HB:=hide hb;clear hb K;go_wp2;refine bodyPost_ret (v:=_) (by simp[results,Tryz.results104,go_sem];try rfl) rfl ⟨rfl,?_⟩;exact⟨(H.out.below HB.out).below (hA _ _),(Rc.of_below HB.out).trans (.of_below (hA _ _))⟩
theorem abt(w:World)(q b:Nat)(tv uv:Value)(l:List Tk)(vs:List ByteArray)(i:Nat)(t:Tk)(h:Rea w q b tv uv l vs i)(ht:l[i]? = some t)(s:ByteArray)(hj:t.kind=3->i+1<l.length)(hl:l.length<=100000):
  Calls Tryz.prog 104 #[.pointer (some ⟨q,0,none⟩),.string s] w fun r w'=>r=.returned (.bool (tsg t s))/\Rea w' q b tv uv l vs (if tsg t s then i+1 else i)/\Rc q q w w':=by
 by_cases hc:t.kind=3/\t.text=s
 ·have e:tsg t s=true:=by simp[tsg,hc.1,hc.2]
  rw[e];exact atz w q b tv uv l vs i t h ht s hc.1 hc.2 (hj hc.1) hl
 ·have e:tsg t s=false:=by
   simp only[tsg,Bool.and_eq_false_imp,decide_eq_true_eq,decide_eq_false_iff_not];exact fun h1 h2=>hc ⟨h1,h2⟩
  rw[e];exact awp w q b tv uv l vs i t h ht s (fun h1 h2=>hc ⟨h1,h2⟩)
theorem ac9(w:World)(hT:Tabs w)(q b:Nat)(tv uv:Value)(l:List Tk)(vs:List ByteArray)(i:Nat)(t:Tk)(h:Rea w q b tv uv l vs i)(ht:l[i]? = some t):
  Calls Tryz.prog 183 #[.pointer (some ⟨q,0,none⟩)] w fun e w'=>∃v,e=.returned v/\OutW (zOf t.text) 6000 v w'/\Below w.heap.size w w':=by
 have hb0:Below w.heap.size w (w.alloc (.cells #[.bool false,.slice none 0 0] 60)):=hAl _ _;have K:=hide (aa8 _ q b tv uv l vs i t (h.below hb0) ht);have HT:=hide hT;clear h ht hT;unfold Tk.av at K;have hf1:∀W,(Instr.field 109 (.agg #[.int .i64 t.kind,.string t.text,.int .i64 t.pl.b,.int .i64 t.pl.g,.int .i64 t.pl.l,.int .i64 t.pl.c]) 1).run Tryz.prog W=.ok (.string t.text) W:=fun W=>aql _ _ _ _ _ _ W
 go_enter Tryz.func183,Tryz.ntmps183
 go_wp2_with fail
 refine K.out.mono ?_;rintro r w1 ⟨rfl,hb⟩;have HB:=hide (hb0.trans (hb.mono hb0.size));have hf:w1.heap[w.heap.size]? = some (.cells #[.bool false,.slice none 0 0] 60 (0,0)):=(hb.block _ (by simp)).trans (heap_alloc_new w _);have HF:=hide hf;clear hb K hb0 hf;go_wp2_with fail
 refine(awc w1 t.text (HT.out.below HB.out)).mono ?_;rintro r w2 ⟨v,rfl,⟨x,y,rfl,ho,rfl⟩,hb2⟩;obtain⟨ng,ao,cap,rs,rfl,ho'⟩:=id ho;have HO:=hide ho;have HB2:=hide (HB.out.trans (hb2.mono HB.out.size));have hf:=(hb2.block _ (aaa HF.out)).trans HF.out;have HF2:=hide hf;generalize hfz:w.heap.size=f at *
 obtain⟨hfl,c0,c1,fr0,fr1⟩:f<w2.heap.size/\w2.cell? ⟨f,0,none⟩=some (.bool false)/\w2.cell? ⟨f,1,none⟩=some (.slice none 0 0)/\w2.frozen? ⟨f,0,none⟩=false/\w2.frozen? ⟨f,1,none⟩=false:=⟨aaa hf,by rw[cell_of_row _ _ _ _ _ (0,0) hf];rfl,by rw[cell_of_row _ _ _ _ _ (0,0) hf];rfl,frozen_of_row _ _ _ _ _ hf,frozen_of_row _ _ _ _ _ hf⟩;clear ho ho' hb2 HF hf;go_wp2;refine bodyPost_ret (v:=.agg #[.bool ng,.slice ao rs.length cap]) (acx (g:=f) rfl rfl (lvw2 (aa2 (acm HF2.out _ _)))) rfl ⟨_,rfl,HO.out.ru ((acy HF2.out _ _).trans (Ru.of_below (hAl _ _))),?_⟩;rw[hfz];have HBx:=HB2.out
 (repeat' first|with_reducible(first|exact Below.refl _ _|assumption|refine gdrewN ?_ _|refine Below.alloc ?_ ?_ _|refine Below.drew ?_|refine Below.setCell ?_ ?_ _)|go_size)
def sMinus:ByteArray:=⟨#[45]⟩
def sPlus:ByteArray:=⟨#[43]⟩
def sOver:ByteArray:=⟨#[47]⟩
def sTimes:ByteArray:=⟨#[42]⟩
def sEq:ByteArray:=⟨#[61]⟩
def tpm(t:Tk):Bool:=tsg t sMinus||tsg t sPlus
theorem afm(w:World)(q b:Nat)(tv uv:Value)(l:List Tk)(vs:List ByteArray)(i:Nat)(t:Tk)(h:Rea w q b tv uv l vs i)(ht:l[i]? = some t)(hj:t.kind=3->i+1<l.length)(hl:l.length<=100000):
  Calls Tryz.prog 135 #[.pointer (some ⟨q,0,none⟩)] w fun e w'=>e=.returned (.tuple #[.bool (tsg t sMinus),.bool (tpm t)])/\Rea w' q b tv uv l vs (if tpm t then i+1 else i)/\Rc q q w w':=by
 have K:=hide (abt w q b tv uv l vs i t h ht sMinus hj hl);have HT:=hide ht;have HJ:=hide (And.intro hj hl);clear h ht hj hl;cases hm:tsg t sMinus with
 |true=>
  have e1:tpm t=true:=by rw[tpm,hm];rfl
  rw[hm]at K;rw[e1];clear e1 hm;unfold sMinus at K;go_enter Tryz.func135,Tryz.ntmps135
  go_wp2_with fail
  refine K.out.mono ?_;rintro r w1 ⟨rfl,h1,h2⟩;have H1:=hide h1;have H2:=hide h2;clear h1 h2 K;go_wp2;refine bodyPost_ret (v:=_) (by simp[results,Tryz.results135,go_sem];try rfl) rfl ⟨rfl,H1.out,H2.out⟩
 |false=>
  have e1:tpm t=tsg t sPlus:=by rw[tpm,hm];rfl
  rw[hm]at K;rw[e1];clear e1 hm;unfold sMinus at K;obtain⟨bp,hbp⟩:∃bp,tsg t sPlus=bp:=⟨_,rfl⟩;obtain⟨j,hjj⟩:∃j,(if bp=true then i+1 else i)=j:=⟨_,rfl⟩;rw[hbp,hjj];have HBP:=hide hbp;have HJJ:=hide hjj;clear hbp hjj;go_enter Tryz.func135,Tryz.ntmps135
  go_wp2_with fail
  refine K.out.mono ?_;rintro r w1 ⟨rfl,h1,h2⟩;have K2:=hide (abt w1 q b tv uv l vs i t h1 HT.out sPlus HJ.out.1 HJ.out.2);have H2:=hide h2;clear h1 h2 K;rw[HBP.out,HJJ.out]at K2;unfold sPlus at K2;go_wp2_with fail
  refine K2.out.mono ?_;rintro r w2 ⟨rfl,h1,h2⟩;have H1:=hide h1;have H3:=hide (H2.out.trans h2);clear h1 h2 K2;go_wp2;refine bodyPost_ret (v:=_) (by simp[results,Tryz.results135,go_sem];try rfl) rfl ⟨rfl,H1.out,H3.out⟩
inductive CoefR (l:List Tk) (i:Nat):Bool->Nat->Rat->Prop
 |plain (t t1:Tk) (h:l[i]? = some t) (h1:l[i+1]? = some t1) (hs:tsg t1 sOver=false):CoefR l i true (i+1) (zOf t.text:Int)
 |over (t t1 t2:Tk) (h:l[i]? = some t) (h1:l[i+1]? = some t1) (hs:tsg t1 sOver=true) (h2:l[i+2]? = some t2) (hz:zOf t2.text≠0):CoefR l i true (i+3) (Rat.divInt (zOf t.text) (zOf t2.text))
 |bad (t t1 t2:Tk) (h:l[i]? = some t) (h1:l[i+1]? = some t1) (hs:tsg t1 sOver=true) (h2:l[i+2]? = some t2) (hz:zOf t2.text=0):CoefR l i false (i+2) 0
structure Wf (l:List Tk):Prop where
 len:l.length<=100000
 stop:∀(i:Nat) (t:Tk),l[i]? = some t->i+1=l.length->t.kind=0/\t.text=⟨#[]⟩
theorem Wf.more{l:List Tk}(h:Wf l){i:Nat}{t:Tk}(ht:l[i]? = some t)(hk:t.kind≠0):i+1<l.length:=by
 have:=(List.getElem?_eq_some_iff.1 ht).1;by_cases he:i+1=l.length
 ·exact absurd (h.stop i t ht he).1 hk
 ·omega
theorem ag6{w:World}{q b:Nat}{tv uv:Value}{l:List Tk}{vs:List ByteArray}{i:Nat}{u:Value}(h:Rea w q b tv uv l vs i):Ru w (w.setCell ⟨q,1,none⟩ u):=by
 refine Ru.of_one h.blk (by decide) ?_ (by simp[World.setCell]) (fun k _ hn=>heap_setCell_other w ⟨q,1,none⟩ k _ hn);obtain⟨ao,ct,rfl,_⟩:=h.tks.parts;obtain⟨ao',ct',rfl,_⟩:=h.vrs;intro k z
 match k with
 |0=>simp
 |1=>simp
 |2=>simp
 |k+3=>simp
theorem Rea.fill3{w w3:World}{q b:Nat}{tv uv:Value}{l:List Tk}{vs:List ByteArray}{i j f:Nat}{ng:Bool}{a d:Option Addr}{n c k e:Nat}(H:Rea w q b tv uv l vs i)(HR:Rea w3 q b tv uv l vs j)(HC:Rc q q w w3)(hf:w3.heap[f]? = some (.cells #[.bool ng,.slice a n c,.slice d k e] 62 (0,0)))(hfw:w.heap.size<=f)(u v x:Value):Rea (((w3.setCell ⟨f,0,none⟩ u).setCell ⟨f,1,none⟩ v).setCell ⟨f,2,none⟩ x) q b tv uv l vs j/\Rc q q w (((w3.setCell ⟨f,0,none⟩ u).setCell ⟨f,1,none⟩ v).setCell ⟨f,2,none⟩ x):=by
 have hq:=aaa H.blk;have ho:∀k,k≠f->(((w3.setCell ⟨f,0,none⟩ u).setCell ⟨f,1,none⟩ v).setCell ⟨f,2,none⟩ x).heap[k]? = w3.heap[k]? :=fun k hn=>by rw[heap_setCell_other _ ⟨f,2,none⟩ k _ hn,heap_setCell_other _ ⟨f,1,none⟩ k _ hn,heap_setCell_other _ ⟨f,0,none⟩ k _ hn]
 have hrc:Rc q q w (((w3.setCell ⟨f,0,none⟩ u).setCell ⟨f,1,none⟩ v).setCell ⟨f,2,none⟩ x):=⟨HC.os,HC.tape,HC.output,by simpa[World.setCell]using HC.size,fun k hk h1 h2=>(ho k (by omega)).trans (HC.other k hk h1 h2),HC.ru.trans (ae0 hf u v x)⟩;exact⟨H.rc hrc.wide ((ho q (by omega)).trans HR.blk) HR.lt,hrc⟩
theorem Tabs.rcs{w w':World}{q b:Nat}(hT:Tabs w)(hr:Rc q b w w')(hq:∀z,w.cell? ⟨q,0,none⟩≠some (.int .u8 z))(hb:∀z,w.cell? ⟨b,0,none⟩≠some (.int .u8 z)):Tabs w':=by
 obtain⟨h1,h2⟩:=hT;have keep:∀g c z,(∃z0,w.cell? ⟨g,0,none⟩=some (.int .u8 z0))->w.cell? ⟨g,c,none⟩=some (.int .u8 z)->w'.cell? ⟨g,c,none⟩=some (.int .u8 z):=by
  rintro g c z ⟨z0,e0⟩ e;have n1:g≠q:=by rintro rfl;exact hq _ e0
  have n2:g≠b:=by rintro rfl;exact hb _ e0
  rw[World.cell?_of_block (w:=w) (hr.other g (aau e) n1 n2)];exact e
 refine⟨fun c hc=>keep _ _ _ ⟨_,h1 0 (by decide)⟩ (h1 c hc),fun i hi=>⟨keep _ _ _ ⟨_,(h2 0 (by decide)).1⟩ (h2 i hi).1,keep _ _ _ ⟨_,(h2 0 (by decide)).1⟩ (h2 i hi).2⟩⟩
theorem Rea.no8{w:World}{q b:Nat}{tv uv:Value}{l:List Tk}{vs:List ByteArray}{i:Nat}(h:Rea w q b tv uv l vs i)(z:Int):w.cell? ⟨q,0,none⟩≠some (.int .u8 z):=by
 rw[cell_of_row _ _ _ _ _ (0,0) h.blk];obtain⟨ao,ct,rfl,_⟩:=h.tks.parts;simp
theorem Tabs.rc{w w':World}{q b:Nat}{tv uv:Value}{l:List Tk}{vs:List ByteArray}{i:Nat}(hT:Tabs w)(h:Rea w q b tv uv l vs i)(hr:Rc q q w w'):Tabs w':=hT.rcs hr h.no8 h.no8
theorem anl(w:World)(hT:Tabs w)(q b:Nat)(tv uv:Value)(l:List Tk)(hW:Wf l)(vs:List ByteArray)(i:Nat)(h:Rea w q b tv uv l vs i)(t t1:Tk)(ht:l[i]? = some t)(ht1:l[i+1]? = some t1)(hs:tsg t1 sOver=false)(N:Nat)(hz:Fit (zOf t.text:Int) N):
  Calls Tryz.prog 169 #[.pointer (some ⟨q,0,none⟩)] w fun e w'=>∃v,e=.returned (.tuple #[v,.bool true])/\OutQr (zOf t.text:Int) N v w'/\Rea w' q b tv uv l vs (i+1)/\Rc q q w w':=by
 have hj:i+1<l.length:=(List.getElem?_eq_some_iff.1 ht1).1;have HJ:=hide hj;have hi:i<=100000:=by have:=hW.len;omega
 have hq:=aaa h.blk;have hb0:Below w.heap.size w (w.alloc (.cells #[.bool false,.slice none 0 0,.slice none 0 0] 62)):=hAl _ _;have K:=hide (ac9 _ (hT.below hb0) q b tv uv l vs i t (h.below hb0) ht);have H:=hide h;have HT1:=hide ht1;have HS:=hide hs;have HW:=hide hW;have HZ:=hide hz;clear h ht ht1 hs hT hW hj hz;go_enter Tryz.func169,Tryz.ntmps169
 go_wp2_with fail
 refine K.out.mono ?_;rintro r w1 ⟨v,rfl,ho,hb1⟩;obtain⟨ng,ao,cap,rs,rfl,_⟩:=id ho;have HO:=hide ho;have HB:=hide (hb0.trans (hb1.mono hb0.size));have hf:w1.heap[w.heap.size]? = some (.cells #[.bool false,.slice none 0 0,.slice none 0 0] 62 (0,0)):=(hb1.block _ (by simp)).trans (heap_alloc_new w _);have HF:=hide hf;have hqb:=(HB.out.block q hq).trans H.out.blk;have k1:w1.cell? ⟨q,1,none⟩=some (.int .i64 i):=by rw[cell_of_row _ _ _ _ _ (0,0) hqb];rfl
 have kf:w1.frozen? ⟨q,1,none⟩=false:=frozen_of_row w1 q 1 _ _ hqb;have hq1:q<w1.heap.size:=aaa hqb;clear ho hb1 K hb0 hf hqb;go_wp2_with fail
 obtain⟨n1,n2⟩:=H.out.next (.of_below HB.out) (HB.out.block q hq) HJ.out;have hmm:(w1.setCell ⟨q,1,none⟩ (.int .i64 ((i:Int)+1))).heap.size=w1.heap.size:=by simp[World.setCell]
 have hf2:((w1.setCell ⟨q,1,none⟩ (.int .i64 ((i:Int)+1))).alloc (.cells #[.bool ng,.slice ao rs.length cap] 60)).heap[w.heap.size]? = some (.cells #[.bool false,.slice none 0 0,.slice none 0 0] 62 (0,0)):=aa2 ((heap_setCell_other w1 ⟨q,1,none⟩ _ _ (by show w.heap.size≠q;omega)).trans HF.out);have hm2:((w1.setCell ⟨q,1,none⟩ (.int .i64 ((i:Int)+1))).alloc (.cells #[.bool ng,.slice ao rs.length cap] 60)).heap[w1.heap.size]? = some (.cells #[.bool ng,.slice ao rs.length cap] 60 (0,0)):=by rw[<-hmm];exact heap_alloc_new _ _
 have hu2:Ru w1 ((w1.setCell ⟨q,1,none⟩ (.int .i64 ((i:Int)+1))).alloc (.cells #[.bool ng,.slice ao rs.length cap] 60)):=(ag6 (H.out.below HB.out)).trans (Ru.of_below (hAl _ _));have K:=abt _ q b tv uv l vs (i+1) t1 (n1.below (hAl _ (.cells #[.bool ng,.slice ao rs.length cap] 60))) HT1.out sOver (fun h3=>HW.out.more HT1.out (by rw[h3];decide)) HW.out.len;rw[HS.out]at K;refine K.mono ?_;rintro r w2 ⟨rfl,hR2,hC2⟩;have HR2:=hide hR2;have HC2:=hide ((n2.trans (.of_below (hAl _ _))).trans hC2);have HO2:=hide (HO.out.ru (hu2.trans hC2.ru));have hf3:=(hC2.other _ (aaa hf2) (by omega) (by omega)).trans hf2;have hm3:=(hC2.other _ (aaa hm2) (by omega) (by omega)).trans hm2;have HF3:=hide hf3;obtain⟨_,m0,m1,_,_⟩:=aam hm3;have HM3:=hide hm3;clear hR2 hC2 hf2 hm2 hu2 K n1 n2 hmm hm3 hf3 k1 kf;go_wp2_with fail
 refine(adt w2 _ _ _ HO2.out.is (by omega)).mono ?_;rintro r w3 ⟨v,rfl,ho3,hb3⟩;replace ho3:=ho3.fit HZ.out;obtain⟨ng1,ao1,cap1,rs1,bo1,dap1,ss1,rfl,_⟩:=id ho3;have HO3:=hide ho3;have hf4:=(hb3.block _ (aaa HF3.out)).trans HF3.out;have HF4:=hide hf4;obtain⟨hfl,c0,c1,c2,fr0,fr1,fr2⟩:=aag hf4;have HR4:=hide (HR2.out.below hb3);have HC4:=hide (HC2.out.trans (.of_below hb3));clear ho3 hb3 hf4;go_wp2;obtain⟨x1,x2⟩:=H.out.fill3 HR4.out HC4.out HF4.out (Nat.le_refl _) (.bool ng1) (.slice ao1 rs1.length cap1) (.slice bo1 ss1.length dap1);exact bodyPost_ret (v:=.tuple #[.agg #[.bool ng1,.slice ao1 rs1.length cap1,.slice bo1 ss1.length dap1],.bool true]) (aeq (g:=w.heap.size) rfl rfl (lvr3 (aff HF4.out _ _ _)) rfl) rfl ⟨_,rfl,HO3.out.ru (ae0 HF4.out _ _ _),x1,x2⟩
end Lm
end Go.Proofs.YtooefpkhacecnaaGreatDoor
