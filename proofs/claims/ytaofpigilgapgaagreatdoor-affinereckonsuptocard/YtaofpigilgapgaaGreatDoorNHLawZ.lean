/-
  The given statement on AffineReckons, for every input of bulk at most 1048576: the call answers true, and each argument reads behind it as it read before; and its card. Its condition: the two tables of unicode/utf8 are laid as the row lists them; the card ties that to the program's text. Beside it: Rows of whole numbers: how long they are together, copied, held against one another. AffineReckons, the walk.
-/
import Derived.Test.YtaofpigilgapgaaGreatDoorRows
import Derived.Test.YtaofpigilgapgaaGreatDoorCards
import Derived.Test.YtaofpigilgapgaaGreatDoorTie
import Derived.ProofKit
import Derived.OpenShut
import Derived.ShutString
import Derived.ChangeOld
import Derived.SizedLaws
import Derived.Lib.SmallJoins
import Derived.Lib.LaidU8
import Derived.Lib.LaidIn
import Derived.Deep.DeepHandedRow
import Derived.SliceStrings
import Derived.JoinedCond
import Derived.Test.YtaofpigilgapgaaGreatDoorNHLawZ5
namespace Go.Proofs.YtaofpigilgapgaaGreatDoor
namespace Lm
open Go Go.RowKit
set_option maxRecDepth 20000 in
set_option maxHeartbeats 4000000 in
theorem lenrow_w (w:World) (ax:Option Addr) (mx cx:Nat) (xs:List WE) (R:Rw w (.slice ax mx cx) xs) (hl:lenW xs≤35184372088832) :
  Calls Tryz.prog 10 #[.slice ax mx cx] w fun e w'=>e=.returned (.int .i64 (lenW xs:Int))∧Below w.heap.size w w' := by
 have hll:=lenW_length xs
 have HX:=hide R
 have HNx:Hid (mx=xs.length):=R.parts.1
 have HL:Hid (lenW xs≤35184372088832∧mx≤lenW xs):=(show _∧_ from ⟨hl,by rw [HNx.out];exact hll⟩)
 have hm:mx≤35184372088832:=by have:=HL.out;omega
 clear R hl hll
 go_enter Tryz.func10,Tryz.ntmps10
 go_wp2_with fail
 go_loopw [3,4] (fun sv iv wr=>∃ k:Nat,iv=.int .i64 k∧k≤mx∧sv=.int .i64 (lenW (xs.take k):Int)∧Below w.heap.size w wr) (fun _ iv _=>mx - (intOf iv).toNat)
 case atStart=>exact ⟨0,rfl,Nat.zero_le _,rfl,Below.refl _ _⟩
 case round =>
  obtain ⟨k,rfl,hk,rfl,hbw⟩:=hrel
  by_cases hlt:k<mx
  ·have hlt' : (k:Int)<(mx:Int):=by omega
   obtain ⟨ex,hex⟩:∃ e,xs[k]? = some e:=⟨_,List.getElem?_eq_getElem (by have:=HNx.out;omega)⟩
   obtain ⟨bx,ox,hAx,hlx0,hcx⟩:=HX.out.cells (by have:=HNx.out;omega)
   subst hAx
   have hlx:bx<wr.heap.size:=Nat.lt_of_lt_of_le hlx0 hbw.size
   have x0:=(hbw.cell (p:=⟨bx,ox+k*2,none⟩) hlx0).trans (hcx _ _ (flat_at hex).1)
   have x1:wr.cell? ⟨bx,ox+k*2+1,none⟩ = some (.slice ex.a ex.m ex.c):=(hbw.cell (p:=⟨bx,ox+k*2+1,none⟩) hlx0).trans (hcx _ _ (flat_at hex).2)
   have hs:=lenW_take hex
   have hle:=lenW_take_le xs (k+1)
   have hm2:=HL.out
   have HW:=hide hbw
   have K1:=hide (wlen_any wr ex.ng ex.a ex.m ex.c (by omega))
   obtain ⟨s,hsv⟩:∃ s,lenW (xs.take k)=s:=⟨_,rfl⟩
   rw [hsv] at hs ⊢
   have hadd:IntKind.i64.wrap ((s:Int)+(1+(ex.m:Int)))=(s:Int)+(1+(ex.m:Int)):=by rw [IntKind.wrap_i64];omega
   have HSV:=hide hs
   clear hbw hs hle hsv hm2 hex hcx hlx
   go_wp2_with fail
   refine K1.out.mono ?_
   rintro e w2 ⟨rfl,hb2⟩
   have HB2:=hide (HW.out.trans (hb2.mono HW.out.size))
   clear hb2 x0 x1 hlx0
   go_wp2
   go_roundw
   case rel=>exact ⟨k+1,by go_num,by omega,by rw [HSV.out];simp,HB2.out⟩
   case measure=>simp [intOf];omega
  ·have hlt' : decide ((k:Int)<(mx:Int))=false:=by simp;omega
   have hkn:k=mx:=by omega
   subst hkn
   have HW:=hide hbw
   clear hbw
   go_wp2
   refine bodyPost_ret (v:=_) (res_t rfl rfl) rfl ⟨by rw [List.take_of_length_le (by have:=HNx.out;omega)];rfl,HW.out⟩
set_option maxRecDepth 20000 in
set_option maxHeartbeats 4000000 in
theorem copyrow_w (w:World) (ax:Option Addr) (mx cx:Nat) (xs:List WE) (R:Rw w (.slice ax mx cx) xs) (hl:lenW xs≤100000) :
  Calls Tryz.prog 16 #[.slice ax mx cx] w fun e w'=>∃ v es,e=.returned v∧RwO w.heap.size w' v es∧SameR es xs∧Below w.heap.size w w' := by
 have hll:=lenW_length xs
 have HX:=hide R
 have HNx:Hid (mx=xs.length):=R.parts.1
 have HL:Hid (lenW xs≤100000∧mx≤lenW xs):=(show _∧_ from ⟨hl,by rw [HNx.out];exact hll⟩)
 have hm:mx≤100000:=by have:=HL.out;omega
 clear R hl hll
 go_enter Tryz.func16,Tryz.ntmps16
 go_wp2_with fail
 go_loopw [3,4] (fun ov iv wr=>∃ (k:Nat) (es:List WE),iv=.int .i64 k∧k≤mx∧Below w.heap.size w wr∧RwO w.heap.size wr ov es∧SameR es (xs.take k)) (fun _ iv _=>mx - (intOf iv).toNat)
 case atStart=>exact ⟨0,[],rfl,Nat.zero_le _,Below.refl _ _,rwo_nil _ _,rfl⟩
 case round =>
  obtain ⟨k,es,rfl,hk,hbw,ho,hs⟩:=hrel
  obtain ⟨aov,capv,hov,_⟩:=Cl.own ho.own
  subst hov
  have HO:=hide ho
  have HS:=hide hs
  have HW:=hide hbw
  by_cases hlt:k<mx
  ·have hlt' : (k:Int)<(mx:Int):=by omega
   obtain ⟨ex,hex⟩:∃ e,xs[k]? = some e:=⟨_,List.getElem?_eq_getElem (by have:=HNx.out;omega)⟩
   obtain ⟨bx,ox,hAx,hlx0,hcx⟩:=HX.out.cells (by have:=HNx.out;omega)
   subst hAx
   have hlx:bx<wr.heap.size:=Nat.lt_of_lt_of_le hlx0 hbw.size
   have x0:=(hbw.cell (p:=⟨bx,ox+k*2,none⟩) hlx0).trans (hcx _ _ (flat_at hex).1)
   have x1:wr.cell? ⟨bx,ox+k*2+1,none⟩ = some (.slice ex.a ex.m ex.c):=(hbw.cell (p:=⟨bx,ox+k*2+1,none⟩) hlx0).trans (hcx _ _ (flat_at hex).2)
   have hsl:=(HX.out.sl ex (List.mem_of_getElem? hex)).below hbw
   have hem:=lenW_mem (List.mem_of_getElem? hex)
   have hm2:=HL.out
   have hes:es.length≤1000000:=by rw [hs.len,List.length_take];omega
   have K1:=hide (copywO_z wr ex.ng ex.a ex.m ex.c ex.zs hsl (by have:=hsl.parts.1;omega))
   have HEX:=hide hex
   clear hbw ho hs hsl hem hm2 hex hcx hlx
   go_wp2_with fail
   refine K1.out.mono ?_
   rintro e w2 ⟨r2,rfl,⟨ao2,cap2,rfl,hw2⟩,hb2⟩
   have hA:=hAl w2 (.cells #[.bool ex.ng,.slice ao2 ex.zs.length cap2] 66)
   have hb2' := hb2.trans (hA.mono hb2.size)
   have hR2:=HO.out.below hb2'
   have hO2:One _ w2.heap.size ex.ng ao2 ex.zs.length cap2:=heap_alloc_new w2 (.cells #[.bool ex.ng,.slice ao2 ex.zs.length cap2] 66)
   have hS2:Ow w.heap.size _ (.slice ao2 ex.zs.length cap2) ex.zs:=(hw2.mono HW.out.size).below hA
   have hsz:w.heap.size≤(w2.alloc (.cells #[.bool ex.ng,.slice ao2 ex.zs.length cap2] 66)).heap.size:=Nat.le_trans HW.out.size hb2'.size
   clear x0 x1 hlx0
   go_wp2_with (at_builtin;refine wpList_does rfl (op_appr (i:=11) (j:=17) rfl rfl hR2 hO2 hS2 hes hsz) ?_)
   intro v3 w3 hR3 hb3
   obtain ⟨aov3,capv3,hov3,_⟩:=Cl.own hR3.own
   subst hov3
   have HR3:=hide hR3
   have HB3:=hide ((HW.out.trans (hb2'.mono HW.out.size)).trans hb3)
   clear hR3 hb3 hR2 hO2 hS2 hsz hA hb2 hb2' hw2
   go_wp2
   go_roundw
   case rel=>exact ⟨k+1,_,by go_num,by omega,HB3.out,HR3.out,sameR_snoc HS.out HEX.out rfl⟩
   case measure=>simp [intOf];omega
  ·have hlt' : decide ((k:Int)<(mx:Int))=false:=by simp;omega
   have hkn:k=mx:=by omega
   subst hkn
   clear hbw ho hs
   go_wp2
   refine bodyPost_ret (v:=_) (res_t rfl rfl) rfl ⟨_,es,rfl,HO.out,(by have h:=HS.out;rwa [List.take_of_length_le (by have:=HNx.out;omega)] at h),HW.out⟩
set_option maxRecDepth 20000 in
set_option maxHeartbeats 4000000 in
theorem samerow_w (w:World) (ax:Option Addr) (mx cx:Nat) (xs:List WE) (Rx:Rw w (.slice ax mx cx) xs) (ay:Option Addr) (my cy:Nat) (ys:List WE) (Ry:Rw w (.slice ay my cy) ys) (hS:SameR xs ys) :
  Calls Tryz.prog 22 #[.slice ax mx cx,.slice ay my cy] w fun e w'=>e=.returned (.bool true)∧Below w.heap.size w w' := by
 obtain ⟨rfl,hx2,hx3⟩:=Rx.parts
 obtain ⟨rfl,_,_⟩:=Ry.parts
 have HX:=hide Rx
 have HY:=hide Ry
 have HS:=hide hS
 have hlen:=hS.len
 rw [←hlen] at HY ⊢
 obtain ⟨n,hn⟩:∃ n,xs.length=n:=⟨_,rfl⟩
 rw [hn] at HX HY hx2 ⊢
 have HNx:Hid (xs.length=n):=hn
 have HNy:Hid (ys.length=n):=hlen.symm.trans hn
 have hnn:((n:Int) != (n:Int))=false:=by simp
 clear Rx Ry hS hlen hn
 go_enter Tryz.func22,Tryz.ntmps22
 go_wp2_with fail
 go_loopw [5] (fun iv wr=>∃ k:Nat,iv=.int .i64 k∧k≤n∧Below w.heap.size w wr) (fun iv _=>n - (intOf iv).toNat)
 case atStart=>exact ⟨0,rfl,Nat.zero_le _,Below.refl _ _⟩
 case round =>
  obtain ⟨k,rfl,hk,hbw⟩:=hrel
  have HW:=hide hbw
  by_cases hlt:k<n
  ·have hlt' : (k:Int)<(n:Int):=by omega
   obtain ⟨ex,hex⟩:∃ e,xs[k]? = some e:=⟨_,List.getElem?_eq_getElem (by have:=HNx.out;omega)⟩
   obtain ⟨bx,ox,hAx,hlx0,hcx⟩:=HX.out.cells (by have:=HNx.out;omega)
   subst hAx
   have hlx:bx<wr.heap.size:=Nat.lt_of_lt_of_le hlx0 hbw.size
   have x0:=(hbw.cell (p:=⟨bx,ox+k*2,none⟩) hlx0).trans (hcx _ _ (flat_at hex).1)
   have x1:wr.cell? ⟨bx,ox+k*2+1,none⟩ = some (.slice ex.a ex.m ex.c):=(hbw.cell (p:=⟨bx,ox+k*2+1,none⟩) hlx0).trans (hcx _ _ (flat_at hex).2)
   obtain ⟨ey,hey⟩:∃ e,ys[k]? = some e:=⟨_,List.getElem?_eq_getElem (by have:=HNy.out;omega)⟩
   obtain ⟨by_,oy,hAy,hly0,hcy⟩:=HY.out.cells (by have:=HNy.out;omega)
   subst hAy
   have hly:by_<wr.heap.size:=Nat.lt_of_lt_of_le hly0 hbw.size
   have y0:=(hbw.cell (p:=⟨by_,oy+k*2,none⟩) hly0).trans (hcy _ _ (flat_at hey).1)
   have y1:wr.cell? ⟨by_,oy+k*2+1,none⟩ = some (.slice ey.a ey.m ey.c):=(hbw.cell (p:=⟨by_,oy+k*2+1,none⟩) hly0).trans (hcy _ _ (flat_at hey).2)
   have S1:=(HX.out.sl ex (List.mem_of_getElem? hex)).below hbw
   have S2:=(HY.out.sl ey (List.mem_of_getElem? hey)).below hbw
   have hq:=HS.out.at hex hey
   clear hbw hex hey hcx hcy
   go_upto_region 6 with fail
   go_cut [26] (fun cv wx=>cv=.bool false∧Below wr.heap.size wr wx)
   case first =>
    refine cut_abs [17,18,19,20,21,22,23,24,25,26] [Eqs (.slice (some ⟨bx,ox,none⟩) n cx),Eqs (.int .i64 (k:Int)),Eqs (.pointer (some ⟨bx,ox+k*2,none⟩)),Eqs (.agg #[.bool ex.ng,.slice ex.a ex.m ex.c]),Eqs (.slice (some ⟨by_,oy,none⟩) n cy),Eqs (.int .i64 (k:Int)),Eqs (.pointer (some ⟨by_,oy+k*2,none⟩)),Eqs (.agg #[.bool ey.ng,.slice ey.a ey.m ey.c]),Eqs (.bool true),Eqs (.bool false)] (by assumption) (by assumption) rfl (by decide) (by kernel_rfl) (by kernel_rfl) ⟨Eqs.mono _,Eqs.mono _,Eqs.mono _,Eqs.mono _,Eqs.mono _,Eqs.mono _,Eqs.mono _,Eqs.mono _,Eqs.mono _,Eqs.mono _,trivial⟩ ?_ ?_
    ·exact ⟨⟨rfl,fun a_ w_ _ hB hR hD=>op_mv ((hR 0 rfl).trans (eval_list rfl))⟩,
      ⟨rfl,fun a_ w_ _ hB hR hD=>op_mv ((hR 5 rfl).trans (eval_list rfl))⟩,
      ⟨rfl,fun a_ w_ _ hB hR hD=>op_idxr (show a_.eval (.tmp 17)=.slice (some ⟨bx,ox,none⟩) n cx from hD 0 rfl) rfl (show a_.eval (.tmp 18)=.int .i64 (k:Int) from hD 1 rfl) (by omega)⟩,
      ⟨rfl,fun a_ w_ _ hB hR hD=>op_ldc (p:=Eqs _) (show a_.eval (.tmp 19)=.pointer (some ⟨bx,ox+k*2,none⟩) from hD 2 rfl) ((hB.cell (p:=⟨bx,ox+k*2,none⟩) hlx).trans x0) ((hB.cell (p:=⟨bx,ox+k*2+1,none⟩) hlx).trans x1) rfl⟩,
      ⟨rfl,fun a_ w_ _ hB hR hD=>op_mv ((hR 1 rfl).trans (eval_list rfl))⟩,
      ⟨rfl,fun a_ w_ _ hB hR hD=>op_mv ((hR 5 rfl).trans (eval_list rfl))⟩,
      ⟨rfl,fun a_ w_ _ hB hR hD=>op_idxr (show a_.eval (.tmp 21)=.slice (some ⟨by_,oy,none⟩) n cy from hD 4 rfl) rfl (show a_.eval (.tmp 22)=.int .i64 (k:Int) from hD 5 rfl) (by omega)⟩,
      ⟨rfl,fun a_ w_ _ hB hR hD=>op_ldc (p:=Eqs _) (show a_.eval (.tmp 23)=.pointer (some ⟨by_,oy+k*2,none⟩) from hD 6 rfl) ((hB.cell (p:=⟨by_,oy+k*2,none⟩) hly).trans y0) ((hB.cell (p:=⟨by_,oy+k*2+1,none⟩) hly).trans y1) rfl⟩,
      ⟨rfl,fun a_ w_ _ hB hR hD=>op_sameraw (show a_.eval (.tmp 20)=.agg #[.bool ex.ng,.slice ex.a ex.m ex.c] from hD 3 rfl) (show a_.eval (.tmp 24)=.agg #[.bool ey.ng,.slice ey.a ey.m ey.c] from hD 7 rfl) (S1.below hB) (S2.below hB) hq.1 hq.2⟩,
      ⟨rfl,fun a_ w_ _ hB hR hD=>op_not (show a_.eval (.tmp 25)=.bool true from hD 8 rfl)⟩,
      trivial⟩
    ·intro a' w' hn' hd' hB' hR' hP'
     (repeat apply Exists.intro)
     refine ⟨?rel,act_fit hn' hd' hR' ?fit⟩
     case fit=>repeat' (first | exact trivial | refine ⟨(by first | exact .inl ⟨rfl,rfl⟩ | exact .inr rfl),?_⟩)
     case rel=>exact ⟨(show _ = _ from hP' 9 (by decide)),hB'⟩
   case rest =>
    obtain ⟨hc26,hbx⟩:=hcut
    subst hc26
    have HB2:=hide (HW.out.trans (hbx.mono HW.out.size))
    clear hbx x0 x1 y0 y1 S1 S2 hq
    go_wp2
    go_roundw
    case rel=>exact ⟨k+1,by go_num,by omega,HB2.out⟩
    case measure=>simp [intOf];omega
  ·have hlt' : decide ((k:Int)<(n:Int))=false:=by simp;omega
   clear hbw
   go_wp2
   refine bodyPost_ret (v:=_) (by simp [results,Tryz.results22,go_sem];try rfl) rfl ⟨rfl,HW.out⟩
end Lm
end Go.Proofs.YtaofpigilgapgaaGreatDoor

namespace Go.Proofs.YtaofpigilgapgaaGreatDoor
namespace Lm
open Go Go.RowKit
set_option maxRecDepth 20000 in
set_option maxHeartbeats 16000000 in
set_option maxRecDepth 400000 in
theorem reckons_any (w:World) (hT:Tabs w) (ax:Option Addr) (mx cx:Nat) (xs:List WE) (ay:Option Addr) (my cy:Nat) (ys:List WE) (Rx:Rw w (.slice ax mx cx) xs) (hx:lenW xs≤1048576) (Ry:Rw w (.slice ay my cy) ys) (hy:lenW ys≤1048576) :
  Calls Tryz.prog 7 #[.slice ax mx cx,.slice ay my cy] w fun e w'=>e=.returned (.bool true)∧Below w.heap.size w w' := by
 have K1:=hide (awake5 w hT)
 have lx:=lenW_length xs
 have ly:=lenW_length ys
 have HX:=hide Rx
 have HY:=hide Ry
 obtain ⟨sx,hsx⟩:∃ sx,lenW xs=sx:=⟨_,rfl⟩
 obtain ⟨sy,hsy⟩:∃ sy,lenW ys=sy:=⟨_,rfl⟩
 rw [hsx] at lx hx
 rw [hsy] at ly hy
 have HLX:=hide lx
 have HLY:=hide ly
 have HSx:=hide hsx
 have HSy:=hide hsy
 clear Rx Ry hT hsx hsy lx ly
 have hs1:IntKind.i64.wrap ((sx:Int)+(sy:Int))=(sx:Int)+(sy:Int):=by rw [IntKind.wrap_i64];omega
 go_enter Tryz.func7,Tryz.ntmps7
 go_wp2_with fail
 refine K1.out.mono ?_
 rintro e w1 ⟨rfl,hb1⟩
 have K2:=hide (lenrow_w w1 _ _ _ _ (HX.out.below hb1) (by have:=HSx.out;omega))
 rw [HSx.out] at K2
 have HB1:=hide hb1
 clear hb1 K1
 go_wp2_with fail
 refine K2.out.mono ?_
 rintro e w2 ⟨rfl,hb2⟩
 replace hb2:=HB1.out.trans (hb2.mono HB1.out.size)
 have K3:=hide (lenrow_w w2 _ _ _ _ (HY.out.below hb2) (by have:=HSy.out;omega))
 rw [HSy.out] at K3
 have HB2:=hide hb2
 clear hb2 K2 HB1
 go_wp2_with fail
 refine K3.out.mono ?_
 rintro e w3 ⟨rfl,hb3⟩
 replace hb3:=HB2.out.trans (hb3.mono HB2.out.size)
 have HB3:=hide hb3
 clear hb3 K3 HB2
 by_cases hlong:1500<(sx:Int)+(sy:Int)
 ·have hl' : decide (1500<(sx:Int)+(sy:Int))=true:=by simpa using hlong
  go_wp2
  refine bodyPost_ret (v:=_) (by simp [results,Tryz.results7,go_sem];try rfl) rfl ⟨rfl,HB3.out⟩
 ·have hl' : decide (1500<(sx:Int)+(sy:Int))=false:=by simpa using hlong
  have HLG:Hid (sx+sy≤1500):=(show sx+sy≤1500 by omega)
  obtain ⟨lz,le,hP1,hD1⟩:=left_both (xs.map WE.z) (ys.map WE.z) 1500 (by simp only [List.length_map];have:=HLY.out;omega) (by omega)
  obtain ⟨vz,ve,hP2,hD2⟩:=value_both (xs.map WE.z) (ys.map WE.z) 1500 (by simp only [List.length_map];have:=HLY.out;omega) (by omega)
  have HP1:=hide hP1
  have HD1:=hide hD1
  have HP2:=hide hP2
  have HD2:=hide hD2
  have hee:(le == le)=true:=by simp
  have hvv:(ve == ve)=true:=by simp
  clear hlong hP1 hD1 hP2 hD2
  have K4:=hide (copyrow_w w3 _ _ _ _ (HX.out.below HB3.out) (by have:=HSx.out;have:=HLG.out;omega))
  go_wp2_with fail
  refine K4.out.mono ?_
  rintro e w4 ⟨vp,es,rfl,ho4,hs4,hb4⟩
  obtain ⟨ap,cp,hvp,_⟩:=Cl.own ho4.own
  subst hvp
  have HO4:=hide ho4.rw
  have HS4:=hide hs4
  have HB4:=hide (HB3.out.trans (hb4.mono HB3.out.size))
  have K5:=hide (copyrow_w w4 _ _ _ _ (HY.out.below HB4.out) (by have:=HSy.out;have:=HLG.out;omega))
  clear ho4 hs4 hb4 K4 HB3
  go_wp2_with fail
  refine K5.out.mono ?_
  rintro e w5 ⟨vq,fs,rfl,ho5,hs5,hb5⟩
  obtain ⟨aq,cq,hvq,_⟩:=Cl.own ho5.own
  subst hvq
  have HO5:=hide (HO4.out.below hb5)
  have HQ5:=hide ho5.rw
  have HS5:=hide hs5
  have HB5:=hide (HB4.out.trans (hb5.mono HB4.out.size))
  have IP:Hid (IsRow w5 (.slice ap es.length cp) (xs.map WE.z) 1500):=⟨es,HO5.out,HS4.out.zs,HS4.out.le (fun e he=>(by have:=lenW_mem he;have:=(HX.out.sl e he).parts.1;have:=HSx.out;have:=HLG.out;omega))⟩
  have IQ:Hid (IsRow w5 (.slice aq fs.length cq) (ys.map WE.z) 1500):=⟨fs,HQ5.out,HS5.out.zs,HS5.out.le (fun e he=>(by have:=lenW_mem he;have:=(HY.out.sl e he).parts.1;have:=HSy.out;have:=HLG.out;omega))⟩
  have IX:=hide (HX.out.isrow (L:=1500) (by have:=HSx.out;have:=HLG.out;omega))
  have IY:=hide (HY.out.isrow (L:=1500) (by have:=HSy.out;have:=HLG.out;omega))
  have K6:=hide (HP1.out w5 _ _ IP.out IQ.out)
  clear ho5 hs5 hb5 K5 HO4 HB4
  go_wp2_with fail
  refine K6.out.mono ?_
  rintro e w6 ⟨ra,rfl,hfa,hb6⟩
  obtain ⟨ngA,aA,capA,rsA,BA,TA,rfl,hwA,hBA,hTA,hlA⟩:=hfa
  have hbX:=hAl w6 (.cells #[.bool ngA,.slice aA rsA.length capA] 66)
  have hnew:=heap_alloc_new w6 (.cells #[.bool ngA,.slice aA rsA.length capA] 66)
  have h56:=hb6.trans (hbX.mono hb6.size)
  have H57:=hide h56
  have HWA:=hide (hwA.ru (Ru.of_below hbX))
  have HNA:=hide hnew
  have HA1:Hid (w5.heap.size≤BA∧TA≤w6.heap.size∧w5.heap.size≤w6.heap.size):=⟨hBA,hTA,hb6.size⟩
  have K7:=hide (HP2.out _ _ _ (IP.out.below h56) (IQ.out.below h56))
  clear hb6 hbX hnew h56 hwA hBA hTA K6
  go_wp2_with fail
  generalize hW7:w6.alloc (.cells #[.bool ngA,.slice aA rsA.length capA] 66)=w7 at *
  have hs7:w7.heap.size=w6.heap.size+1:=by rw [←hW7];simp
  generalize hf6:w6.heap.size=fA at *
  have HS7:=hide hs7
  clear hW7 hf6 hs7
  refine K7.out.mono ?_
  rintro e w8 ⟨rb,rfl,hfb,hb8⟩
  obtain ⟨ngB,aB,capB,rsB,BB,TB,rfl,hwB,hBB,hTB,hlB⟩:=hfb
  have hbX:=hAl w8 (.cells #[.bool ngB,.slice aB rsB.length capB] 66)
  have hnew:=heap_alloc_new w8 (.cells #[.bool ngB,.slice aB rsB.length capB] 66)
  have h79:=hb8.trans (hbX.mono hb8.size)
  have H59:=hide (H57.out.trans (h79.mono H57.out.size))
  have HWB:=hide (hwB.ru (Ru.of_below hbX))
  have HNB:=hide hnew
  have HWA2:=hide (HWA.out.ru (Ru.of_below h79))
  have HNA2:=hide ((h79.block _ (lt_of_heap HNA.out)).trans HNA.out)
  have HB1:Hid (fA+1≤BB∧TB≤w8.heap.size∧fA+1≤w8.heap.size):=(show fA+1≤BB∧TB≤w8.heap.size∧fA+1≤w8.heap.size by have:=HS7.out;have:=hb8.size;omega)
  have H09:=hide (HB5.out.trans (H59.out.mono HB5.out.size))
  have K8:=hide (HD1.out _ _ _ (IX.out.below H09.out) (IY.out.below H09.out))
  clear hb8 hbX hnew h79 hwB hBB hTB K7 HWA HNA
  go_wp2_with fail
  generalize hW9:w8.alloc (.cells #[.bool ngB,.slice aB rsB.length capB] 66)=w9 at *
  have hs9:w9.heap.size=w8.heap.size+1:=by rw [←hW9];simp
  generalize hf8:w8.heap.size=fB at *
  have HS9:=hide hs9
  clear hW9 hf8 hs9
  refine K8.out.mono ?_
  rintro e w10 ⟨rx,rfl,hfx,hb10⟩
  obtain ⟨ngX,aX,capX,rsX,rfl,hwX,hlX⟩:=hfx
  have hbX:=hAl w10 (.cells #[.bool ngX,.slice aX rsX.length capX] 66)
  have hnew:=heap_alloc_new w10 (.cells #[.bool ngX,.slice aX rsX.length capX] 66)
  have h9b:=hb10.trans (hbX.mono hb10.size)
  have H5b:=hide (H59.out.trans (h9b.mono H59.out.size))
  have HWX:=hide (hwX.below hbX)
  have HNX:=hide hnew
  have HWA3:=hide (HWA2.out.ru (Ru.of_below h9b))
  have HNA3:=hide ((h9b.block _ (lt_of_heap HNA2.out)).trans HNA2.out)
  have HWB3:=hide (HWB.out.ru (Ru.of_below h9b))
  have HNB3:=hide ((h9b.block _ (lt_of_heap HNB.out)).trans HNB.out)
  have HX1:Hid (fB+1≤w10.heap.size):=(show fB+1≤w10.heap.size by have:=HS9.out;have:=hb10.size;omega)
  have H0b:=hide (H09.out.trans (h9b.mono H09.out.size))
  have K9:=hide (HD2.out _ _ _ (IX.out.below H0b.out) (IY.out.below H0b.out))
  clear hb10 hbX hnew h9b hwX K8 HWA2 HNA2 HWB HNB
  go_wp2_with fail
  generalize hWb:w10.alloc (.cells #[.bool ngX,.slice aX rsX.length capX] 66)=wb at *
  have hsb:wb.heap.size=w10.heap.size+1:=by rw [←hWb];simp
  generalize hf10:w10.heap.size=fX at *
  have HSb:=hide hsb
  clear hWb hf10 hsb
  refine K9.out.mono ?_
  rintro e w12 ⟨ry,rfl,hfy,hb12⟩
  obtain ⟨ngY,aY,capY,rsY,rfl,hwY,hlY⟩:=hfy
  have hbX:=hAl w12 (.cells #[.bool ngY,.slice aY rsY.length capY] 66)
  have hnew:=heap_alloc_new w12 (.cells #[.bool ngY,.slice aY rsY.length capY] 66)
  have hbd:=hb12.trans (hbX.mono hb12.size)
  have h5d:=H5b.out.trans (hbd.mono H5b.out.size)
  obtain ⟨wd,hWd⟩:∃ wd,w12.alloc (.cells #[.bool ngY,.slice aY rsY.length capY] 66)=wd:=⟨_,rfl⟩
  have hsd:wd.heap.size=w12.heap.size+1:=by rw [←hWd];simp
  rw [hWd] at hbX hnew hbd h5d
  have hbK:=hAl wd (.cells #[.slice none 0 0,.slice none 0 0] 40)
  have hbk:=hbd.trans (hbK.mono hbd.size)
  have hBK:Bs (wd.alloc (.cells #[.slice none 0 0,.slice none 0 0] 40)) wd.heap.size w.heap.size [] 0:=Bs.new (heap_alloc_new _ _)
  have hdk:=hbX.trans (hbK.mono hbX.size)
  have HWY:=hide (hwY.below hdk)
  have HNY:=hide ((hbK.block _ (lt_of_heap hnew)).trans hnew)
  have HWX4:=hide (HWX.out.below hbk)
  have HNX4:=hide ((hbk.block _ (lt_of_heap HNX.out)).trans HNX.out)
  have HWA4:=hide (HWA3.out.ru (Ru.of_below hbk))
  have HNA4:=hide ((hbk.block _ (lt_of_heap HNA3.out)).trans HNA3.out)
  have HWB4:=hide (HWB3.out.ru (Ru.of_below hbk))
  have HNB4:=hide ((hbk.block _ (lt_of_heap HNB3.out)).trans HNB3.out)
  have h5k:=h5d.trans (hbK.mono h5d.size)
  have HB0k:=hide (HB5.out.trans (h5k.mono HB5.out.size))
  have HP4:=hide (HO5.out.below h5k)
  have HQ4:=hide (HQ5.out.below h5k)
  have HBK:=hide hBK
  have hz12:=hb12.size
  have HY1:Hid (fX+1≤w12.heap.size∧wd.heap.size=w12.heap.size+1∧w.heap.size≤w5.heap.size):=(show _∧_∧_ from ⟨by have:=HSb.out;omega,hsd,HB5.out.size⟩)
  clear hb12 hbX hnew hbd h5d hbK hbk hBK hdk h5k hwY K9 HWA3 HNA3 HWB3 HNB3 hz12 HO5 HQ5 HWX HNX
  go_upto_region 12 with fail
  generalize hWk:wd.alloc (.cells #[.slice none 0 0,.slice none 0 0] 40)=wk at *
  have hsk:wk.heap.size=wd.heap.size+1:=by rw [←hWk];simp
  generalize hf12:w12.heap.size=fY at *
  generalize hfd:wd.heap.size=fK at *
  have HSk:=hide hsk
  clear hWk hf12 hfd hsk hWd hsd
  obtain rfl:=HY1.out.2.1
  obtain ⟨_,a0,a1,_,_⟩:=two_cells HNA4.out
  obtain ⟨_,b0,b1,_,_⟩:=two_cells HNB4.out
  obtain ⟨_,x0,x1,_,_⟩:=two_cells HNX4.out
  obtain ⟨_,y0,y1,_,_⟩:=two_cells HNY.out
  have K1:=hide (same_z wk _ _ _ _ _ _ _ _ _ _ HWA4.out.wh HWX4.out true (decide_eq_true rfl))
  go_wp2_with (go_at_call 11;refine (num_any _ _).mono ?_;rintro r w' ⟨rfl,rfl⟩)
  refine K1.out.mono ?_
  rintro e q1 ⟨rfl,hq1⟩
  have HQ1:=hide hq1
  have K2:=hide (same_z q1 _ _ _ _ _ _ _ _ _ _ (HWB4.out.wh.below hq1) (HWY.out.below hq1) true (decide_eq_true rfl))
  clear a0 a1 b0 b1 x0 x1 y0 y1 K1
  obtain ⟨_,b0,b1,_,_⟩:=two_cells ((hq1.block _ (lt_of_heap HNB4.out)).trans HNB4.out)
  obtain ⟨_,y0,y1,_,_⟩:=two_cells ((hq1.block _ (lt_of_heap HNY.out)).trans HNY.out)
  clear hq1
  go_wp2_with fail
  refine K2.out.mono ?_
  rintro e q2 ⟨rfl,hq2⟩
  have HQ2:=hide (HQ1.out.trans (hq2.mono HQ1.out.size))
  clear b0 b1 y0 y1 hq2 K2
  have K3:=hide (samerow_w q2 _ _ _ _ (HP4.out.below HQ2.out) _ _ _ _ (HX.out.below (HB0k.out.trans (HQ2.out.mono HB0k.out.size))) HS4.out)
  go_wp2_with fail
  refine K3.out.mono ?_
  rintro e q3 ⟨rfl,hq3⟩
  have HQ3:=hide (HQ2.out.trans (hq3.mono HQ2.out.size))
  clear hq3 K3
  have K4:=hide (samerow_w q3 _ _ _ _ (HQ4.out.below HQ3.out) _ _ _ _ (HY.out.below (HB0k.out.trans (HQ3.out.mono HB0k.out.size))) HS5.out)
  go_wp2_with fail
  refine K4.out.mono ?_
  rintro e q4 ⟨rfl,hq4⟩
  have hq:=HQ3.out.trans (hq4.mono HQ3.out.size)
  have HQQ:=hide hq
  obtain ⟨_,a0,a1,_,_⟩:=two_cells ((hq.block _ (lt_of_heap HNA4.out)).trans HNA4.out)
  have hz:=hq.size
  have hB0:=HB0k.out.trans (hq.mono HB0k.out.size)
  have h1:=HA1.out
  have h2:=HB1.out
  have h3:=HX1.out
  have h4:=HY1.out
  have h5:=HSk.out
  have HSZ:Hid (w.heap.size≤fA∧w.heap.size≤BA∧TA≤fA∧fA+1≤BB∧TB≤fB∧fA+1≤fB∧fB+1≤fX∧fX+1≤fY∧fY+1<q4.heap.size∧w.heap.size≤q4.heap.size):=(show _∧_∧_∧_∧_∧_∧_∧_∧_∧_ from ⟨by omega,by omega,by omega,by omega,by omega,by omega,by omega,by omega,by omega,hB0.size⟩)
  have HB4' := hide hB0
  have K5:=hide (ownWhole_b q4 _ _ _ _ (HBK.out.below hq) (by omega) BA TA ngA aA capA rsA _ (HWA4.out.ru (Ru.of_below hq)).fr (by omega) hB0.size (fun j hj=>by cases hj))
  clear hq4 hq hz hB0 h1 h2 h3 h4 h5 K4
  go_wp2_with fail
  refine K5.out.mono ?_
  rintro e q5 ⟨rfl,bs1,hbk1,hkp1,hj1⟩
  have hsz:=HSZ.out
  have hWB5:Dm.WFr BB TB q5 ngB aB capB rsB vz:=(HWB4.out.ru (Ru.of_below HQQ.out)).kp hkp1 (by omega) (fun j hj=>by rcases hj1 j hj with h | h | h;cases h;omega;omega)
  have hnb:q5.heap[fB]? = _:=(hkp1.other fB (by omega) (by omega) (fun hc=>by rcases hj1 _ hc with h | h | h;cases h;omega;omega)).trans ((HQQ.out.block _ (lt_of_heap HNB4.out)).trans HNB4.out)
  obtain ⟨_,b0,b1,_,_⟩:=two_cells hnb
  have hB5:=HB4'.out.trans (hkp1.below (by omega) (fun j hj=>by rcases hj1 j hj with h | h | h;cases h;omega;omega) HB4'.out.size)
  have hs5:=hkp1.size
  have HSZ5:Hid (q4.heap.size≤q5.heap.size):=hs5
  have HB5' := hide hB5
  have HJ1:=hide hj1
  have K6:=hide (ownWhole_b q5 _ _ _ _ hbk1 (by omega) BB TB ngB aB capB rsB _ hWB5.fr (by omega) hB5.size (fun j hj=>by rcases hj1 j hj with h | h | h;cases h;omega;omega))
  clear a0 a1 hbk1 hkp1 hj1 hsz hWB5 hnb hB5 hs5 K5
  go_wp2_with fail
  refine K6.out.mono ?_
  rintro e q6 ⟨rfl,bs2,hbk2,hkp2,hj2⟩
  have hsz:=HSZ.out
  have hs5:=HSZ5.out
  have hB6:=HB5'.out.trans (hkp2.below (by omega) (fun j hj=>by rcases hj2 j hj with h | h | h;rcases HJ1.out j h with h | h | h;cases h;omega;omega;omega;omega) HB5'.out.size)
  have HB6:=hide hB6
  have K7:=hide (done_b q6 _ _ _ _ hbk2 (by omega))
  clear b0 b1 hbk2 hkp2 hj2 hsz hs5 hB6 K6
  go_wp2_with fail
  refine K7.out.mono ?_
  rintro e q7 ⟨rfl,hq7⟩
  have HB7:=hide (HB6.out.trans (hq7.mono HB6.out.size))
  clear hq7 K7
  go_wp2
  refine bodyPost_ret (v:=_) (by simp [results,Tryz.results7,go_sem];try rfl) rfl ⟨rfl,HB7.out⟩
end Lm
end Go.Proofs.YtaofpigilgapgaaGreatDoor

namespace Go.Proofs.YtaofpigilgapgaaGreatDoor
namespace affineReckonsLaw
open Go.ChangeShapes Go.WideShapes Go.ChangeAt Go.RowKit
open Go.ChangeMaps (open_string shut_string)
theorem own:ownKnob Tryz.prog.godebug=none:=by kernel_rfl
theorem laidOut:laidOutB Tryz.prog=true:=by kernel_rfl
noncomputable def laidWorld (os:Os):World :=
 let w0:=World.holding Tryz.prog os ⟨#[],#[],[]⟩
 let put (h:Array Obj) (g:Nat) (cs:Array Value):Array Obj:=h.modify g fun
  | .cells _ t frozen=>.cells cs t frozen
  | o=>o
 let h1:=put w0.heap (Tryz.lays197_ren.g 3) (Lib.firstTab.map fun z=>Value.int .u8 z).toArray
 let h2:=put h1 (Tryz.lays197_ren.g 4) ((List.range 16).flatMap fun i=>[Value.int .u8 (Lib.accLo i),Value.int .u8 (Lib.accHi i)]).toArray
 { w0 with heap:=h2 }
theorem laid_met (os:Os):laidMet Tryz.prog Rows.affineReckonsUptoRow.laid ((laidWorld os).forCall (fun _ _=>0) ⟨#[],#[.slice none 0 0,.slice none 0 0],[]⟩).memory :=
 laidMet_of_run' 8 (by kernel_rfl) (by kernel_rfl)
theorem tabs {W:World} (h:laidMet Tryz.prog Rows.affineReckonsUptoRow.laid W):Lm.Tabs W :=
 utf8Tabs_of_reads (ρ:=Tryz.lays197_ren) { Tryz.lays197 with } ⟨by kernel_rfl,by kernel_rfl,by kernel_rfl,by kernel_rfl,by kernel_rfl,by kernel_rfl,by kernel_rfl⟩
  (Lib.laidMet.reads h (show ("unicode/utf8.first", Lib.firstData) ∈ Rows.affineReckonsUptoRow.laid from by
   rw [show Lib.firstData=Rows.laid_unicode_utf8_first from by kernel_rfl]
   exact .tail _ (.head _)))
  (Lib.laidMet.reads h (show ("unicode/utf8.acceptRanges", Lib.acceptData) ∈ Rows.affineReckonsUptoRow.laid from by
   rw [show Lib.acceptData=Rows.laid_unicode_utf8_acceptRanges from by kernel_rfl]
   exact .head _))
theorem reads (os:Os) {H:Type} (enc:TypeId × Value→H):∃ places,DataW.whole enc Tryz.prog ((laidWorld os).forCall (fun _ _=>0) ⟨#[],#[.slice none 0 0,.slice none 0 0],[]⟩).memory Tryz.f7.params.toList Rows.affineReckonsSpec.vars false (#[.slice none 0 0,.slice none 0 0]:Array Value).toList 8=some ([.nil,.nil],[],places) :=
 ⟨[],by kernel_rfl⟩
set_option linter.unusedVariables false in
set_option maxRecDepth 100000 in
theorem lifted (os:Os) (started:os.Started) (H:Type) (enc:TypeId × Value→H) (F:Stop.Interp) :
  ReturnsInHanded {} Tryz.checked os 7 .any ((Rows.OpenSpec.upto Rows.affineReckonsSpec).preRow enc Tryz.prog Tryz.f7 Rows.affineReckonsUptoRow.domain false Rows.affineReckonsUptoRow.laid) (((Rows.OpenSpec.upto Rows.affineReckonsSpec).at F).post enc Tryz.prog Tryz.f7 false true false false):=by
 obtain ⟨places,hx⟩:=reads os enc
 refine returnsInHanded_of_row (C:=Tryz.checked) (s:=(Rows.OpenSpec.upto Rows.affineReckonsSpec)) own started (by kernel_rfl) Tryz.func7
  (witness_row_at (enc:=enc) (C:=Tryz.checked) false (laidWorld os) #[.slice none 0 0,.slice none 0 0] rfl (by kernel_rfl) (by kernel_rfl) (by kernel_rfl)
   (OpenSpec.preRow_of_cond 8 hx (by kernel_rfl) (fun k hk=>by cases hk;kernel_rfl) (by kernel_rfl) (laid_met os))) ?_
 intro W base args ds gs before hval0 hW hcnd0 hcond hsz0 hL hj2 hj3
 have hTabs:Lm.Tabs W:=tabs hL
 have hval:∀ (j:Nat) t v,Tryz.f7.params[j]? = some t→args[j]? = some v→Value.okWide Tryz.prog W .any base t v:=hval0
 have hW' := hW
 obtain ⟨p,q,hA0,hV,rfl,hfz,hnd⟩:=hW
 have hA:DataW.TrodAll enc Tryz.prog W 0 (fun _=>true) true Tryz.f7.params.toList args.toList ds p:=hA0
 have hsz:(DataW.weightsEach Tryz.prog (Tryz.f7.params.toList ++ Rows.affineReckonsSpec.plain.varTypes Tryz.prog) (ds ++ gs)).all (·≤reachBytes)=true:=hsz0
 rw [Tryz.params7] at hA hval hsz
 obtain ⟨v0,vs0,d0,ds0,p0,q0,hargs,rfl,rfl,h0,r0⟩:=trodAll_cons hA
 obtain ⟨v1,vs1,d1,ds1,p1,q1,rfl,rfl,rfl,h1,r1⟩:=trodAll_cons r0
 obtain ⟨rfl,rfl,rfl⟩:=trodAll_nil r1
 obtain rfl:args = #[v0,v1]:=by cases args;simp_all
 obtain ⟨rfl,rfl⟩:=trodVars_none hV
 have hbulk:Rows.uptoBulkAll ([d0,d1]:List (DataW H))≤1048576:=by
  have h:=of_decide_eq_true (hcond Rows.uptoSmall rfl)
  simpa only [List.append_nil] using h
 simp only [Rows.uptoBulkAll] at hbulk
 obtain ⟨a0,len0,cap0,rfl⟩:=okWide_slice Tryz.underlying23 (hval 0 23 v0 rfl rfl)
 have k0:=h0
 have lt0:∀ x ∈ p0,x.block<W.heap.size:=by obtain ⟨m,hm⟩:=k0;exact DataW.trod_lt m _ _ _ hm
 obtain ⟨z0,w0,b0⟩:∃ es,Lm.Rw W (.slice a0 len0 cap0) es∧Lm.lenW es+1≤Rows.uptoBulk d0:=by
  obtain ⟨fuel,hf⟩:=h0
  exact Lm.open_row (x:=(d0,p0)) (by simpa [Value.cells] using hf)
 obtain ⟨a1,len1,cap1,rfl⟩:=okWide_slice Tryz.underlying23 (hval 1 23 v1 rfl rfl)
 have k1:=h1
 have lt1:∀ x ∈ p1,x.block<W.heap.size:=by obtain ⟨m,hm⟩:=k1;exact DataW.trod_lt m _ _ _ hm
 obtain ⟨z1,w1,b1⟩:∃ es,Lm.Rw W (.slice a1 len1 cap1) es∧Lm.lenW es+1≤Rows.uptoBulk d1:=by
  obtain ⟨fuel,hf⟩:=h1
  exact Lm.open_row (x:=(d1,p1)) (by simpa [Value.cells] using hf)
 clear hA0 hval0
 refine (Lm.reckons_any W hTabs a0 len0 cap0 z0 a1 len1 cap1 z1 w0 (by omega) w1 (by omega)).mono fun e W' ⟨he,bel⟩=>?_
 subst he
 exact ⟨_,rfl,_,_,_,[],_,[],hW',trodAll_mk1 (shut_bool Tryz.underlying4 _),(trodAll_cons_mk (Below.trod laidOut (by kernel_rfl) (of_decide_eq_true (by kernel_rfl)) k0 bel lt0) (trodAll_cons_mk (Below.trod laidOut (by kernel_rfl) (of_decide_eq_true (by kernel_rfl)) k1 bel lt1) trodAll_mk0)),rfl,bel.frame _,fun h=>by cases h⟩
theorem said:Rows.AffineReckonsUptoSaid :=
 OpenClaim.holds_of_cond 7 Tryz.f7 rfl rfl rfl rfl rfl rfl rfl ⟨rfl,rfl,rfl,rfl,rfl⟩ rfl rfl rfl rfl rfl (by kernel_rfl) Tryz.func7 (by kernel_rfl)
  (of_decide_eq_true (by kernel_rfl)) (by unfold Func.isWrapper;first | (rw [if_pos (by decide +kernel)];kernel_rfl) | (rw [if_neg (by decide +kernel)];exact ⟨rfl,rfl⟩))
  (fun os started H enc _ F=>by rw [OpenClaim.pre_eq_preRow];exact lifted os started H enc F)
theorem plain (f : FuncId) (fn : Func) (hf : Tryz.pinned.checked.prog.funcNamed "rafter/rafterlaw05.AffineReckons" = some f) (hfn : Tryz.pinned.checked.prog.funcs[f]? = some fn) :
  false=Tryz.pinned.checked.prog.looks []∧∀ (j:Nat) t,fn.params[j]? = some t→Tryz.pinned.checked.prog.wantsStandIn t=false:=by
 obtain rfl : f = 7 := Option.some.inj ((show Tryz.prog.funcNamed "rafter/rafterlaw05.AffineReckons" = some 7 by kernel_rfl).symm.trans hf) |>.symm
 obtain rfl:fn=Tryz.f7:=(Option.some.inj (Tryz.func7.symm.trans hfn)).symm
 refine ⟨by kernel_rfl,fun j t ht=>?_⟩
 rw [Tryz.params7] at ht
 have hm:=Array.mem_of_getElem? ht
 simp at hm
 subst hm
 exact (show Tryz.prog.wantsStandIn 23=false by kernel_rfl)
theorem card:Rows.AffineReckonsUptoCardSaid :=
 Claim7.holds_tied_plain_at .later [] _ _ _ _ said (fun _ h=>by cases h) (by kernel_rfl) (fun _ h=>by cases h) affineReckonsUpto_row_tie rfl ⟨rfl,rfl⟩ (by kernel_rfl) rfl plain (by kernel_rfl)
end affineReckonsLaw
theorem affineReckons_card:Rows.AffineReckonsUptoCardSaid:=affineReckonsLaw.card
#print axioms affineReckons_card
end Go.Proofs.YtaofpigilgapgaaGreatDoor

