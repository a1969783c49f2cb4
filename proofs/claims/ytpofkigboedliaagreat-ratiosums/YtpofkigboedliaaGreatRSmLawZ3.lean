/-
  The contracts of the reference's Of and Told: whole numbers as they are handed in, and as they are told. The contract of Book's Done. What the laws with lenders and books use beside their contracts. What is lent, and what lies in memory of its own, in regions that are gone through in stretches. The contract of the reference's Sub. The contract of the reference's Mul. What the reference's divided holds on its way: its memory, and the plain facts on quotient and rest. The contract of the reference's divided. The contract of the reference's Int. The contract of the reference's Gcd. The contracts of the reference's DivMod and Gcd on whole numbers. WholeDivides: what its walk uses beside the contracts. The book of what was answered, in regions that are gone through in stretches. Lists and fractions in memory of their own, in regions that are gone through in stretches. A fraction that is lent, and one that the book owns. Fractions: their order. Lowest terms, as numbers: fractions that are one number have one numerator and one denominator. No program is named here. Lowest terms: single operations, and what they come to as numbers. A fraction that is lent. The book owns a fraction's two lists. Structs that hold the document's own numbers and fractions, and single operations on them, over a frame that is not written out. The document's own fractions. The document's own whole numbers. How many limbs the document's own numbers have. The document's own fractions: read, told, asked.
-/
import Derived.Deep.DeepCutAuto
import Derived.BigRegion
import Derived.Test.YtpofkigboedliaaGreatRSmLawZ2
namespace Go.Proofs.YtpofkigboedliaaGreat
namespace Dm
open Go.RowKit
open Lm (hide lt_of_cell lt_of_heap)
theorem sg_eq (ng:Bool) (x:Int):sg ng x=Lm.sg ng x:=by cases ng <;> simp [sg,Lm.sg]
theorem Wh.nats {w:World} {ao:Option Addr} {cap:Nat} {rs:List Int} {x:Int} (h:Got w ao cap rs x):Wh w false ao cap rs x:=by
  have:=Wh.of false h
  simpa [sg] using this
set_option maxRecDepth 20000 in
set_option maxHeartbeats 1000000 in
theorem nof_g (w:World) (ng:Bool) (a1:Option Addr) (n1 c1:Nat) (xs:List Int) (hx:Lm.Sl w (.slice a1 n1 c1) xs) (m1:xs.length≤100000) :
    Calls Tryz.prog 53 #[.agg #[.bool ng,.slice a1 n1 c1]] w fun e w'=>∃ ng' ao cap rs,e=.returned (.agg #[.bool ng',.slice ao rs.length cap])∧Wh w' ng' ao cap rs (Lm.sg ng (Lm.val xs))∧rs.length≤3*xs.length∧Below w.heap.size w w' := by
  obtain ⟨w1,e1,bx,hb1,hs1⟩:=Lm.boxed0 w ng (.slice a1 n1 c1)
  obtain ⟨w2,e2,br,hb2,hs2⟩:=boxed0 w1 false (.slice none 0 0)
  have E1:=hide e1
  have E2:=hide e2
  have HB:=hb1.trans (hb2.mono hb1.size)
  replace bx:=bx.below hb2
  rw [hs1] at br
  have hx2:=hx.below HB
  have HS:w2.heap.size=w.heap.size+2:=by omega
  rw [←sg_eq]
  clear e1 e2 hb1 hb2 hs1 hs2
  cases ng with
  | false =>
    go_enter Tryz.func53,Tryz.ntmps53
    go_upto_region 1 with fail
    rw [E1.out,E2.out]
    obtain ⟨bx1,bx2,bx3,bx4⟩:=bx.facts
    go_wp2_with fail
    refine (fromLimbs_any _ _ _ _ xs hx2 (by omega)).mono ?_
    rintro e w3 ⟨p3,q3,D3,rfl,G3,d3,hb3⟩
    obtain ⟨w4,e4,bn,hb4,hs4⟩:=boxed0 w3 false (.slice p3 D3.length q3)
    have E4:=hide e4
    have z3:=hb3.size
    replace HB:=(HB.trans (hb3.mono HB.size)).trans (hb4.mono (Nat.le_trans HB.size z3))
    replace bx:=(bx.below hb3).below hb4
    replace br:=(br.below hb3).below hb4
    replace G3:=G3.below hb4
    clear e4 hb3 hb4 bx1 bx2 bx3 bx4
    go_upto_region 2 with fail
    rw [E4.out]
    obtain ⟨bx1,bx2,bx3,bx4⟩:=bx.facts
    obtain ⟨br1,br2,br3,br4⟩:=br.facts
    obtain ⟨bn1,bn2,bn3,bn4⟩:=bn.facts
    have F:=hide (br.set false (.slice p3 D3.length q3)).facts
    have Y:=hide (br.wh false (.slice p3 D3.length q3) (Wh.nats G3))
    have Z:=hide (below_set2 HB (show w.heap.size≤w.heap.size+1 by omega) (.bool false) (.slice p3 D3.length q3))
    go_wp2
    refine bodyPost_ret (v:=.agg #[.bool false,.slice p3 D3.length q3]) ?_ rfl ⟨false,p3,q3,D3,rfl,Y.out,by omega,Z.out⟩
    simp [results,Tryz.results53,go_sem,F.out.1,F.out.2.1]
  | true =>
    go_enter Tryz.func53,Tryz.ntmps53
    go_upto_region 1 with fail
    rw [E1.out,E2.out]
    obtain ⟨bx1,bx2,bx3,bx4⟩:=bx.facts
    go_wp2_with fail
    refine (fromLimbs_any _ _ _ _ xs hx2 (by omega)).mono ?_
    rintro e w3 ⟨p3,q3,D3,rfl,G3,d3,hb3⟩
    obtain ⟨w4,e4,bn,hb4,hs4⟩:=boxed0 w3 false (.slice p3 D3.length q3)
    have E4:=hide e4
    have z3:=hb3.size
    replace HB:=(HB.trans (hb3.mono HB.size)).trans (hb4.mono (Nat.le_trans HB.size z3))
    replace bx:=(bx.below hb3).below hb4
    replace br:=(br.below hb3).below hb4
    replace G3:=G3.below hb4
    clear e4 hb3 hb4 bx1 bx2 bx3 bx4
    go_upto_region 2 with fail
    rw [E4.out]
    obtain ⟨bx1,bx2,bx3,bx4⟩:=bx.facts
    obtain ⟨bn1,bn2,bn3,bn4⟩:=bn.facts
    go_wp2_with fail
    refine (minus_got _ _ _ _ D3 _ G3 (by omega)).mono ?_
    rintro e w5 ⟨n5,p5,q5,D5,rfl,G5,d5,hb5⟩
    replace HB:=HB.trans (hb5.mono HB.size)
    replace br:=br.below hb5
    clear bx1 bx2 bx3 bx4 bn1 bn2 bn3 bn4 hb5
    obtain ⟨br1,br2,br3,br4⟩:=br.facts
    have F:=hide (br.set n5 (.slice p5 D5.length q5)).facts
    have Y:=hide (br.wh n5 (.slice p5 D5.length q5) G5)
    have Z:=hide (below_set2 HB (show w.heap.size≤w.heap.size+1 by omega) (.bool n5) (.slice p5 D5.length q5))
    go_wp2
    refine bodyPost_ret (v:=.agg #[.bool n5,.slice p5 D5.length q5]) ?_ rfl ⟨n5,p5,q5,D5,rfl,Y.out,by omega,Z.out⟩
    simp [results,Tryz.results53,go_sem,F.out.1,F.out.2.1]
theorem nof_z (w:World) (ng:Bool) (a1:Option Addr) (n1 c1:Nat) (xs:List Int) (x:Int) (hx:Lm.Ag w ng a1 n1 c1 xs x) (m1:xs.length≤100000) :
    Calls Tryz.prog 53 #[.agg #[.bool ng,.slice a1 n1 c1]] w fun e w'=>∃ ng' ao cap rs,e=.returned (.agg #[.bool ng',.slice ao rs.length cap])∧Wh w' ng' ao cap rs x∧rs.length≤3*xs.length∧Below w.heap.size w w' := by
  have h:=nof_g w ng a1 n1 c1 xs hx.sl m1
  rw [hx.worth] at h
  exact h
structure WFr (B T:Nat) (w:World) (ng:Bool) (ao:Option Addr) (cap:Nat) (rs:List Int) (z:Int):Prop where
  fr:Lm.Fr B T w ao cap rs (z.natAbs:Int)
  sgn:ng=decide (z<0)
theorem WFr.wh {B T:Nat} {w:World} {ng:Bool} {ao:Option Addr} {cap:Nat} {rs:List Int} {z:Int} (h:WFr B T w ng ao cap rs z):Lm.Wh w ng ao cap rs z:=⟨h.fr.got,h.sgn⟩
theorem WFr.below {B T:Nat} {w w' : World} {ng:Bool} {ao:Option Addr} {cap:Nat} {rs:List Int} {z:Int} (h:WFr B T w ng ao cap rs z) (hb:Below w.heap.size w w'):WFr B T w' ng ao cap rs z:=⟨h.fr.below hb,h.sgn⟩
theorem WFr.kept {B T:Nat} {w w' : World} {ng:Bool} {ao:Option Addr} {cap:Nat} {rs:List Int} {z:Int} (h:WFr B T w ng ao cap rs z) (hk:∀ g,g<w.heap.size→B≤g→g<T→w'.heap[g]? = w.heap[g]?):WFr B T w' ng ao cap rs z:=⟨h.fr.kept hk,h.sgn⟩
theorem WFr.touch {B T L:Nat} {w w' : World} {ng:Bool} {ao:Option Addr} {cap:Nat} {rs:List Int} {z:Int} (h:WFr B T w ng ao cap rs z) (t:Lm.Touch w w' L) (hL:L<B∨T≤L):WFr B T w' ng ao cap rs z:=⟨h.fr.touch t hL,h.sgn⟩
theorem WFr.kp {B T p:Nat} {bs:List Nat} {w w' : World} {ng:Bool} {ao:Option Addr} {cap:Nat} {rs:List Int} {z:Int} (h:WFr B T w ng ao cap rs z) (k:Lm.Kp w w' p bs) (hp:p<B∨T≤p) (hb:∀ j,j ∈ bs→j<B∨T≤j):WFr B T w' ng ao cap rs z:=⟨h.fr.kp k hp hb,h.sgn⟩
theorem WFr.wide {B B' T T' : Nat} {w:World} {ng:Bool} {ao:Option Addr} {cap:Nat} {rs:List Int} {z:Int} (h:WFr B T w ng ao cap rs z) (hB:B'≤B) (hT:T≤T'):WFr B' T' w ng ao cap rs z :=
  ⟨⟨h.fr.ow.mono hB,h.fr.canon,h.fr.val,fun h0 g off e=>by have:=h.fr.lies h0 g off e;omega⟩,h.sgn⟩
theorem set2_kept {w:World} {k:Nat} (b u:Value) {g:Nat} (h:g≠k):((w.setCell ⟨k,0,none⟩ b).setCell ⟨k,1,none⟩ u).heap[g]? = w.heap[g]? := by
  rw [heap_setCell_other _ ⟨k,1,none⟩ g _ h,heap_setCell_other _ ⟨k,0,none⟩ g _ h]
set_option maxRecDepth 20000 in
set_option maxHeartbeats 1000000 in
theorem told_g (w:World) (ng:Bool) (ao:Option Addr) (cap:Nat) (rs:List Int) (z:Int) (h:Wh w ng ao cap rs z) (M:Nat) (hz:(z.natAbs:Int)<Lm.pw M) (hM:M≤1000000) (hl:rs.length≤1000000) :
    Calls Tryz.prog 54 #[.agg #[.bool ng,.slice ao rs.length cap]] w fun e w'=>∃ bo dap ls,e=.returned (.agg #[.bool ng,.slice bo ls.length dap])∧WFr w.heap.size w'.heap.size w' ng bo dap ls z∧ls.length≤M∧Below w.heap.size w w' := by
  obtain ⟨w1,e1,bx,hb1,hs1⟩:=boxed0 w ng (.slice ao rs.length cap)
  obtain ⟨w2,e2,br,hb2,hs2⟩:=Lm.boxed0 w1 false (.slice none 0 0)
  have E1:=hide e1
  have E2:=hide e2
  have HB:=hb1.trans (hb2.mono hb1.size)
  replace bx:=bx.below hb2
  rw [hs1] at br
  have h2:=h.below HB
  have HS:w2.heap.size=w.heap.size+2:=by omega
  have HSG:=hide h.2
  have HZ:=hide hz
  have ne1:¬ (w.heap.size=w.heap.size+1):=by omega
  have ne2:¬ (w.heap.size+1=w.heap.size):=by omega
  clear e1 e2 hb1 hb2 hs1 hs2 hz
  go_enter Tryz.func54,Tryz.ntmps54
  go_upto_region 1 with fail
  rw [E1.out,E2.out]
  obtain ⟨bx1,bx2,bx3,bx4⟩:=bx.facts
  obtain ⟨br1,br2,br3,br4⟩:=br.facts
  go_region_held3 (fun w'=>w'.cell? ⟨w.heap.size,0,none⟩ = some (.bool ng)∧w'.cell? ⟨w.heap.size,1,none⟩ = some (.slice ao rs.length cap)) (go_keep) (first
    | (go_at_call 55;refine (limbs_any _ _ _ _ rs _ (h2.1.below (by repeat (first | exact Below.refl _ _ | refine Below.drew ?_))) M HZ.out hM hl).mono ?_;rintro e w1' ⟨v1,rfl,I1,hb1⟩;have hb1' : Below w2.heap.size w2 w1' := (show Below w2.heap.size w2 _ by repeat (first | exact Below.refl _ _ | refine Below.drew ?_)).trans hb1;obtain ⟨p1,q1,r1,rfl,F1⟩:=I1.fr;clear I1;replace bx:=bx.below hb1';clear bx1 bx2 bx3 bx4;obtain ⟨bx1,bx2,bx3,bx4⟩:=bx.facts;replace br:=br.below hb1';clear br1 br2 br3 br4;obtain ⟨br1,br2,br3,br4⟩:=br.facts))
  all_goals
    have HB2:=HB.trans (hb1'.mono HB.size)
    have F:=hide (br.set ng (.slice p1 r1.length q1)).facts
    have hkk:=lt_of_heap br
    have Y:=hide (show WFr w2.heap.size w1'.heap.size _ ng p1 q1 r1 z from (WFr.kept (w:=w1') ⟨F1,HSG.out⟩ (fun g _ hg _=>set2_kept (.bool ng) (.slice p1 r1.length q1) (show g≠w.heap.size+1 by omega))))
    have Z:=hide (below_set2 HB2 (show w.heap.size≤w.heap.size+1 by omega) (.bool ng) (.slice p1 r1.length q1))
    have LL:=hide (Lm.canon_len F1.canon (m:=M) (by rw [F1.val];exact HZ.out))
    clear bx1 bx2 bx3 bx4
    go_wp2
    refine bodyPost_ret (v:=.agg #[.bool ng,.slice p1 r1.length q1]) ?_ rfl ⟨p1,q1,r1,rfl,Y.out.wide (by omega) (by simp [World.setCell]),LL.out,Z.out⟩
    simp [results,Tryz.results54,go_sem,F.out.1,F.out.2.1]
end Dm
end Go.Proofs.YtpofkigboedliaaGreat

namespace Go.Proofs.YtpofkigboedliaaGreat
namespace Lm
open Go.RowKit
theorem owns_cell {w:World} {B e n:Nat} {a:Option Addr} {c:Nat} {xs:List Value} (h:w.ownsRow B e 1 (.slice a n c) n xs) {i:Nat} (hi:i<n):∃ g u,a=some ⟨g,0,none⟩∧xs[i]? = some u∧w.cell? ⟨g,i,none⟩ = some u:=by
  have hl:=h.1
  rcases h.2 with ⟨e,rfl⟩ | ⟨g,cap,cur,e,_,hh,h1,h2,hs,ht⟩
  · omega
  · simp only [Value.slice.injEq] at e
    obtain ⟨rfl,_,rfl⟩:=e
    have hx:xs[i]? = some (xs[i]'(by omega)):=List.getElem?_eq_getElem (by omega)
    refine ⟨g,_,rfl,hx,?_⟩
    rw [cell_of_row w g i cur _ (0,0) hh,←Array.getElem?_toList,←hx,←ht,List.getElem?_take,if_pos (by omega)]
set_option maxRecDepth 20000 in
set_option maxHeartbeats 1000000 in
theorem done_any (w:World) (p Q:Nat) (bs:List Nat) (rv:List Value) (lv mv:Value) (hk:Bk w p Q bs rv rv.length lv mv) (_hr:rv.length≤1000) :
    Calls Tryz.prog 21 #[.pointer (some ⟨p,0,none⟩)] w fun e w'=>e=.returned (.bool true)∧Below w.heap.size w w' := by
  obtain ⟨al,cl,rfl,al1,al2⟩:=owns_shape hk.lists
  obtain ⟨am,cm,rfl,am1,am2⟩:=owns_shape hk.marks
  go_enter Tryz.func21,Tryz.ntmps21
  go_wp2
  go_loopw [3] (fun iv wr=>∃ i:Nat,i≤rv.length∧iv=.int .i64 i∧Below w.heap.size w wr) (fun iv _=>rv.length - (intOf iv).toNat)
  case atStart=>exact ⟨0,Nat.zero_le _,rfl,Below.refl _ _⟩
  case round =>
    obtain ⟨i,hi,rfl,hbel⟩:=hrel
    obtain ⟨k0,k1,k2,k3⟩:=(hk.below hbel).facts
    by_cases hlt:i<rv.length
    · have dI:(i:Int)<(rv.length:Int):=by omega
      have HBL:=hide hbel
      clear hbel
      go_wp2
      clear k0 k1 k2 k3
      obtain ⟨g1,u,rfl,hu,hc1⟩:=owns_cell hk.lists hlt
      obtain ⟨g2,u2,rfl,hu2,hc2⟩:=owns_cell hk.marks hlt
      rw [bmks_get hlt] at hu2
      simp only [Option.some.injEq] at hu2
      subst hu2
      obtain ⟨ao,n,cap,rfl,n1,n2,n3,n4⟩:=hk.rooms i u hu
      have C1:=hide hc1
      have C2:=hide hc2
      have N4:=hide n4
      clear hc1 hc2 n4 hu
      go_loopw [4] (fun kv wr=>∃ k:Nat,k≤n∧kv=.int .i64 k∧Below w.heap.size w wr) (fun kv _=>n - (intOf kv).toNat)
      case atStart=>exact ⟨0,Nat.zero_le _,rfl,HBL.out⟩
      case round =>
        clear HBL
        obtain ⟨k,hkn,rfl,hbel⟩:=hrel
        obtain ⟨k0,k1,k2,k3⟩:=(hk.below hbel).facts
        have c1:=(hbel.cell (p:=⟨g1,i,none⟩) (lt_of_cell C1.out)).trans C1.out
        have c2:=(hbel.cell (p:=⟨g2,i,none⟩) (lt_of_cell C2.out)).trans C2.out
        by_cases hlt2:k<n
        · have dK:(k:Int)<(n:Int):=by omega
          rcases N4.out with h0 | ⟨g,off,rfl,_,_,_,hc⟩
          · omega
          have c3:=(hbel.cell (p:=⟨g,off+k,none⟩) (lt_of_cell (hc k hlt2))).trans (hc k hlt2)
          clear hc N4
          simp only [bmk] at c2 c3
          go_wp2
          go_quiet (fail)
          go_wp2
          go_roundw
          case rel=>exact ⟨k+1,by omega,by go_num,below_drewN hbel _⟩
          case measure=>simp [intOf];omega
        · have dK:¬ (k:Int)<(n:Int):=by omega
          go_wp2
          go_roundw
          case rel=>exact ⟨i+1,by omega,by go_num,hbel⟩
          case measure=>simp [intOf];omega
    · have dI:¬ (i:Int)<(rv.length:Int):=by omega
      go_wp2
      go_ret
      exact ⟨rfl,hbel⟩
theorem done_b (w:World) (p Q n:Nat) (bs:List Nat) (hb:Bs w p Q bs n) (hn:n≤1000) :
    Calls Tryz.prog 21 #[.pointer (some ⟨p,0,none⟩)] w fun e w'=>e=.returned (.bool true)∧Below w.heap.size w w' := by
  obtain ⟨rv,lv,mv,rfl,hk⟩:=hb
  exact done_any w p Q bs rv lv mv hk hn
end Lm
end Go.Proofs.YtpofkigboedliaaGreat

namespace Go.Proofs.YtpofkigboedliaaGreat
namespace Lm
open Go.RowKit
theorem Sl.lt {w:World} {a:Option Addr} {n c:Nat} {zs:List Int} (h:Sl w (.slice a n c) zs) (h0:0<zs.length) (b off:Nat) (e:a=some ⟨b,off,none⟩):b<w.heap.size:=by
  obtain ⟨b',off',e',hc⟩:=h.cells h0
  rw [e] at e'
  simp only [Option.some.injEq,Addr.mk.injEq,and_true] at e'
  have:=lt_of_cell (hc 0 h0)
  omega
theorem LendS.lt {w:World} {L g:Nat} {xs:List Int} (h:LendS w L g xs):g<w.heap.size:=by
  obtain ⟨_,cur,hh,_⟩:=h
  exact lt_of_heap hh
end Lm
end Go.Proofs.YtpofkigboedliaaGreat

namespace Go.Proofs.YtpofkigboedliaaGreat
namespace Lm
open Go Go.RowKit
open Dm (WFr)
theorem Ag.ru {w w' : World} {ng:Bool} {ao:Option Addr} {n cap:Nat} {xs:List Int} {z:Int} (h:Ag w ng ao n cap xs z) (hr:Ru w w'):Ag w' ng ao n cap xs z:=⟨h.sl.ru hr,h.worth⟩
theorem Got.ru {w w' : World} {ao:Option Addr} {cap:Nat} {rs:List Int} {x:Int} (h:Got w ao cap rs x) (hr:Ru w w'):Got w' ao cap rs x:=⟨h.1.ru hr,h.2⟩
theorem Wh.ru {w w' : World} {ng:Bool} {ao:Option Addr} {cap:Nat} {rs:List Int} {z:Int} (h:Wh w ng ao cap rs z) (hr:Ru w w'):Wh w' ng ao cap rs z:=⟨Got.ru h.1 hr,h.2⟩
theorem Ow.ru {B:Nat} {w w' : World} {v:Value} {zs:List Int} (h:Ow B w v zs) (hr:Ru w w'):Ow B w' v zs:=by
  obtain ⟨ao,cap,rfl,h1,h2,h3,h4⟩:=h
  refine ⟨ao,cap,rfl,h1,h2,h3,?_⟩
  rcases h4 with h4 | ⟨g,off,cur,rfl,hB,hh,r⟩
  · exact .inl h4
  · exact .inr ⟨g,off,cur,rfl,hB,hr.rows g cur hh,r⟩
theorem Fr.ru {B T:Nat} {w w' : World} {ao:Option Addr} {cap:Nat} {rs:List Int} {x:Int} (h:Fr B T w ao cap rs x) (hr:Ru w w'):Fr B T w' ao cap rs x:=⟨h.ow.ru hr,h.canon,h.val,h.lies⟩
theorem _root_.Go.Proofs.YtpofkigboedliaaGreat.Dm.WFr.ru {B T:Nat} {w w' : World} {ng:Bool} {ao:Option Addr} {cap:Nat} {rs:List Int} {z:Int} (h:WFr B T w ng ao cap rs z) (hr:Ru w w'):WFr B T w' ng ao cap rs z:=⟨h.fr.ru hr,h.sgn⟩
theorem _root_.Go.Proofs.YtpofkigboedliaaGreat.Dm.WFr.rl {B T:Nat} {w w' : World} {ng:Bool} {ao:Option Addr} {cap:Nat} {rs:List Int} {z:Int} (h:WFr B T w ng ao cap rs z) (hr:Rl w w'):WFr B T w' ng ao cap rs z:=h.ru (Ru.of_rl hr)
theorem Eqs.mono5 (x:Value):Mono5 (Eqs x):=fun _ _ _ _ h=>h
theorem True.mono5:Mono5 (fun _ _=>True):=fun _ _ _ _ h=>h
theorem IsW.mono5 (z:Int) (L:Nat):Mono5 (IsW z L):=fun _ _ _ hb ⟨ng,ao,n,cap,xs,e,h,l⟩=>⟨ng,ao,n,cap,xs,e,h.ru hb,l⟩
theorem IsL.mono5 (x:Int) (L:Nat):Mono5 (IsL x L):=fun _ _ _ hr ⟨ao,n,cap,xs,e,h,v,l⟩=>⟨ao,n,cap,xs,e,h.ru hr,v,l⟩
theorem OutL.mono5 (x:Int) (L:Nat):Mono5 (OutL x L):=fun _ _ _ hr ⟨ao,cap,rs,e,h,l⟩=>⟨ao,cap,rs,e,h.ru hr,l⟩
theorem IsR.mono5 (p q:Int) (L:Nat):Mono5 (IsR p q L):=fun _ _ _ hr ⟨ng,ao,n,cap,xs,bo,m,dap,ys,e,h1,h2,h3,l1,l2⟩=>⟨ng,ao,n,cap,xs,bo,m,dap,ys,e,h1.ru hr,h2.ru hr,h3,l1,l2⟩
theorem OutR.mono5 (p q:Int) (L:Nat):Mono5 (OutR p q L):=fun _ _ _ hr ⟨ng,ao,cap,rs,bo,dap,ss,e,h1,h2,l1,l2⟩=>⟨ng,ao,cap,rs,bo,dap,ss,e,h1.ru hr,h2.ru hr,l1,l2⟩
section
variable {P:Program} {o:Oper} {a:Act} {w:World} {Ds:List (Option Nat)} {Rs:List (Nat × Nat × (Value→Value→Prop))} {i:Nat}
theorem d6 {p:Says} (h:(Rs.all fun r=>r.1 != i)=true) (hd:Does P o a.eval w fun v w'=>Below w.heap.size w w'∧p v w'):Does P o a.eval w fun v w'=>Below w.heap.size w w'∧p v w'∧TrI w.heap.size w'.heap.size v w'∧Rel Ds Rs i a v :=
  hd.mono fun v _ ⟨hb,hp⟩=>⟨hb,hp,trivial,Rel.none h a v⟩
theorem d6q {p:Says} {q:SaysI} (hpq:∀ B T v w,q B T v w→p v w) (h:(Rs.all fun r=>r.1 != i)=true) (hd:Does P o a.eval w fun v w'=>Below w.heap.size w w'∧q w.heap.size w'.heap.size v w'):Does P o a.eval w fun v w'=>Below w.heap.size w w'∧p v w'∧q w.heap.size w'.heap.size v w'∧Rel Ds Rs i a v :=
  hd.mono fun v _ ⟨hb,hp⟩=>⟨hb,hpq _ _ _ _ hp,hp,Rel.none h a v⟩
end
theorem nxt {Xt:List Xb} {i:Nat} (h:((Xt.map (·.i)).all fun j=>j != i)=true):∀ q ∈ Xt,q.i≠i:=fun q hq e=>by
  have:=List.all_eq_true.1 h q.i (List.mem_map.2 ⟨q,hq,rfl⟩)
  simp [e] at this
theorem xok_nil {bx:List Bx} {w0:World} : XOk bx [] w0:=by
  constructor <;> (intro q hq;cases hq)
def NeX:List Xb→Nat→Prop
  | [],_=>True
  | b :: bx,g=>b.m≠g∧NeX bx g
theorem NeX.all:∀ {bx:List Xb} {g:Nat},NeX bx g→∀ b ∈ bx,b.m≠g
  | [],_,_=>fun c hc=>by cases hc
  | b :: bx,g,h=>fun c hc=>by
    rcases List.mem_cons.1 hc with rfl | hc
    · exact h.1
    · exact NeX.all h.2 c hc
def UpX (B:Nat):List Xb→Prop
  | []=>True
  | b :: bx=>B≤b.m∧UpX B bx
theorem UpX.all {B:Nat} : ∀ {bx:List Xb},UpX B bx→∀ b ∈ bx,B≤b.m
  | [],_=>fun c hc=>by cases hc
  | b :: bx,h=>fun c hc=>by
    rcases List.mem_cons.1 hc with rfl | hc
    · exact h.1
    · exact UpX.all h.2 c hc
theorem BoxV.keep5 {τ:BoxTy} {bx:List Bx} {Xt:List Xb} {w w' : World} {g:Nat} {v:Value} (h:BoxV τ w g v) (hb:But5 bx Xt w w') (hn:NeOld bx g) (hx:NeX Xt g):BoxV τ w' g v:=by
  obtain ⟨cs,hc,h⟩:=h
  exact ⟨cs,hc,(hb.keep g (lt_of_heap h) hn.all hx.all).trans h⟩
def LendN (w:World) (L:Nat):Prop:=w.heap[L]? = some (.cells #[.slice none 0 0,.int .i64 0] 36 (0,0))
theorem LendN.lt {w:World} {L:Nat} (h:LendN w L):L<w.heap.size:=lt_of_heap h
theorem LendN.below {w w' : World} {L:Nat} (h:LendN w L) (hb:Below w.heap.size w w'):LendN w' L:=(hb.block L (lt_of_heap h)).trans h
def LentS (L K:Nat) (xs:List Int):Says:=fun v w=>∃ g,v=.slice (some ⟨g,5,none⟩) xs.length (xs.length+5)∧LendS w L g xs∧K≤g∧g<w.heap.size
theorem LentS.pres {L K:Nat} {xs:List Int} (v:Value) (w w' : World) (h:w'.heap[L]? = w.heap[L]?) (hr:Ru w w'):LentS L K xs v w→LentS L K xs v w' := fun ⟨g,e,⟨h1,cur,h2,h3⟩,h4,h5⟩=>⟨g,e,⟨h.trans h1,cur,hr.rows g cur h2,h3⟩,h4,Nat.lt_of_lt_of_le h5 hr.size⟩
theorem LendS.lts {w:World} {L g:Nat} {xs:List Int} (h:LendS w L g xs):L<w.heap.size∧g<w.heap.size:=by
  obtain ⟨h1,cur,h2,_⟩:=h
  exact ⟨lt_of_heap h1,lt_of_heap h2⟩
theorem LendS.ne {w:World} {L g:Nat} {xs:List Int} (h:LendS w L g xs):L≠g:=by
  obtain ⟨h1,cur,h2,_⟩:=h
  intro e
  subst e
  rw [h1] at h2
  simp at h2
section
variable {dst:Option Tmp} {ty:TypeId} {pos:String} {after:Array Edge} {guard:Option (Nat × Bool)} {a:Act} {w:World} {ats:Array TypeId} {i j:Nat} {x y z u:Int} {L L1 L2:Nat}
theorem op_lendn:Does Tryz.prog { dst,op:=.alloc 36,type:=ty,pos,after,guard } a.eval w fun v w'=>v=.pointer (some ⟨w.heap.size,0,none⟩)∧LendN w' w.heap.size∧Below w.heap.size w w' := by
  have e:(execOp a.eval { dst,op:=.alloc 36,type:=ty,pos,after,guard }).run Tryz.prog w=.ok (.value (.pointer (some ⟨w.heap.size,0,none⟩))) (w.alloc (.cells #[.slice none 0 0,.int .i64 0] 36)):=by
    simp only [execOp]
    go_simp
  refine ⟨?_⟩
  unfold Turns
  rw [e]
  exact ⟨rfl,heap_alloc_new _ _,(Below.refl _ _).alloc (Nat.le_refl _) _⟩
theorem has_lend:Has Tryz.prog 31:=by unfold Has;kernel_rfl
theorem op_lend {gL K:Nat} {ax:Option Addr} {mx cx:Nat} {xs:List Int} {Ds:List (Option Nat)} {Rs:List (Nat × Nat × (Value→Value→Prop))} {k:Nat} (hrl:(Rs.all fun r=>r.1 != k)=true) (hp:a.eval (.tmp i)=.pointer (some ⟨gL,0,none⟩)) (hs:a.eval (.tmp j)=.slice ax mx cx) (hL:LendN w gL) (hx:Sl w (.slice ax mx cx) xs) (hm:xs.length≤100000) (hne:0<xs.length→∀ b off,ax=some ⟨b,off,none⟩→b≠gL) (hK:K≤w.heap.size) :
    Does Tryz.prog { dst,op:=.call { callee:=.value (.func 31),args:=#[.tmp i,.tmp j],argTypes:=ats },type:=ty,pos,after,guard } a.eval w fun v w'=>Touch w w' gL∧Ru w w'∧IsL (val xs) xs.length v w'∧TrI w.heap.size w'.heap.size v w'∧Rel Ds Rs k a v∧LentS gL K xs v w' := by
  refine does_call has_lend _ (by simp only [List.map_toArray,List.map_cons,List.map_nil,hp,hs]) ((lend_any w gL _ _ ax mx cx xs hL hx hm hne).mono ?_)
  rintro e w' ⟨rfl,h1,h2⟩
  have hru:Ru w w' := Ru.of_touch h2 hL (by decide) (by
    intro i z
    match i with
    | 0=>simp
    | 1=>simp
    | i+2=>simp)
  exact ⟨_,rfl,h2,hru,⟨_,_,_,_,rfl,h1.sl (by omega),rfl,Nat.le_refl _⟩,trivial,Rel.none hrl _ _,_,rfl,h1,hK,h1.lts.2⟩
theorem has_back:Has Tryz.prog 13:=by unfold Has;kernel_rfl
theorem op_back {gL g:Nat} {ax:Option Addr} {mx cx:Nat} {xs:List Int} (hp:a.eval (.tmp i)=.pointer (some ⟨gL,0,none⟩)) (hs:a.eval (.tmp j)=.slice ax mx cx) (hL:LendS w gL g xs) (hx:Sl w (.slice ax mx cx) xs) (hm:xs.length≤100000) (hne:0<xs.length→∀ b off,ax=some ⟨b,off,none⟩→b≠g) :
    Does Tryz.prog { dst,op:=.call { callee:=.value (.func 13),args:=#[.tmp i,.tmp j],argTypes:=ats },type:=ty,pos,after,guard } a.eval w fun v w'=>v=.bool true∧Touch w w' g:=by
  refine does_call has_back _ (by simp only [List.map_toArray,List.map_cons,List.map_nil,hp,hs]) ((back_any w gL g ax mx cx xs hL hL.ne hx hm hne).mono ?_)
  rintro e w' ⟨rfl,h2⟩
  exact ⟨_,rfl,rfl,h2⟩
end
section
variable {dst:Option Tmp} {ty:TypeId} {pos:String} {after:Array Edge} {guard:Option (Nat × Bool)} {a:Act} {w:World} {ats:Array TypeId} {i j:Nat} {x y:Int} {L1 L2:Nat}
end
end Lm
end Go.Proofs.YtpofkigboedliaaGreat

namespace Go.Proofs.YtpofkigboedliaaGreat
namespace Dm
open Go.RowKit
open Lm (hide lt_of_cell lt_of_heap cmpI cmpI_lt cmpI_gt)
theorem Wh.via {w0 w1 w2:World} {ng:Bool} {ao:Option Addr} {cap:Nat} {rs:List Int} {z:Int} (h:Wh w0 ng ao cap rs z) (h1:Below w0.heap.size w0 w1) (h2:Below w1.heap.size w1 w2):Wh w2 ng ao cap rs z:=(h.below h1).below h2
set_option maxRecDepth 20000 in
set_option maxHeartbeats 1000000 in
theorem nsub_g (w:World) (n1:Bool) (a1:Option Addr) (c1:Nat) (xs:List Int) (x:Int) (hx:Wh w n1 a1 c1 xs x) (n2:Bool) (a2:Option Addr) (c2:Nat) (ys:List Int) (y:Int) (hy:Wh w n2 a2 c2 ys y) (m1:xs.length≤400000) (m2:ys.length≤400000) :
    Calls Tryz.prog 93 #[.agg #[.bool n1,.slice a1 xs.length c1],.agg #[.bool n2,.slice a2 ys.length c2]] w fun e w'=>∃ ng' ao cap rs,e=.returned (.agg #[.bool ng',.slice ao rs.length cap])∧Wh w' ng' ao cap rs (x - y)∧rs.length≤xs.length+ys.length+1∧Below w.heap.size w w' := by
  obtain ⟨w0,e0,bx,by',br,hb0,hs0⟩:=boxed3 w n1 (.slice a1 xs.length c1) n2 (.slice a2 ys.length c2)
  have E0:=hide e0
  have hx0:=hx.below hb0
  have hy0:=hy.below hb0
  have HB:=hb0
  have ne1:¬ (w.heap.size=w.heap.size+1+1):=by omega
  have ne2:¬ (w.heap.size+1+1=w.heap.size):=by omega
  clear e0 hs0
  go_enter Tryz.func93,Tryz.ntmps93
  go_wp2_with fail
  rw [E0.out]
  obtain ⟨bx1,bx2,bx3,bx4⟩:=bx.facts
  obtain ⟨by1,by2,by3,by4⟩:=by'.facts
  obtain ⟨br1,br2,br3,br4⟩:=br.facts
  go_region_held3 (fun w'=>w'.cell? ⟨w.heap.size,0,none⟩ = some (.bool n1)∧w'.cell? ⟨w.heap.size,1,none⟩ = some (.slice a1 xs.length c1)∧w'.cell? ⟨w.heap.size+1,0,none⟩ = some (.bool n2)∧w'.cell? ⟨w.heap.size+1,1,none⟩ = some (.slice a2 ys.length c2)) (go_keep) (first
    | (go_at_call 69;have _hq:=hb1';refine (nadd_g _ _ _ _ xs _ (hx0.via hb1' (by repeat (first | exact Below.refl _ _ | refine Below.drew ?_))) _ _ _ r1 _ (G1.below (by repeat (first | exact Below.refl _ _ | refine Below.drew ?_))) (by omega) (by omega)).mono ?_;rintro e w2 ⟨ng2,p2,q2,r2,rfl,G2,l2,hb2⟩;have hb2' : Below w1.heap.size w1 w2:=(show Below w1.heap.size w1 _ by repeat (first | exact Below.refl _ _ | refine Below.drew ?_)).trans hb2;have HB:=HB.trans (hb2'.mono HB.size);replace bx:=bx.below hb2';clear bx1 bx2 bx3 bx4;obtain ⟨bx1,bx2,bx3,bx4⟩:=bx.facts;replace by' := by'.below hb2';clear by1 by2 by3 by4;obtain ⟨by1,by2,by3,by4⟩:=by'.facts;replace br:=br.below hb2';clear br1 br2 br3 br4;obtain ⟨br1,br2,br3,br4⟩:=br.facts)
    | (go_at_call 56;refine (minus_g _ _ _ _ ys _ (hy0.below (by repeat (first | exact Below.refl _ _ | refine Below.drew ?_))) (by omega)).mono ?_;rintro e w1 ⟨ng1,p1,q1,r1,rfl,G1,l1,hb1⟩;have hb1' : Below w0.heap.size w0 w1:=(show Below w0.heap.size w0 _ by repeat (first | exact Below.refl _ _ | refine Below.drew ?_)).trans hb1;have HB:=HB.trans (hb1'.mono HB.size);replace bx:=bx.below hb1';clear bx1 bx2 bx3 bx4;obtain ⟨bx1,bx2,bx3,bx4⟩:=bx.facts;replace by' := by'.below hb1';clear by1 by2 by3 by4;obtain ⟨by1,by2,by3,by4⟩:=by'.facts;replace br:=br.below hb1';clear br1 br2 br3 br4;obtain ⟨br1,br2,br3,br4⟩:=br.facts))
  all_goals
    have X:=hide (br.set ng2 (.slice p2 r2.length q2)).facts
    have Y:=hide (br.wh ng2 (.slice p2 r2.length q2) G2)
    have Z:=hide (below_set2 HB (show w.heap.size≤w.heap.size+1+1 by omega) (.bool ng2) (.slice p2 r2.length q2))
    clear bx1 bx2 bx3 bx4 by1 by2 by3 by4
    go_wp2
    refine bodyPost_ret (v:=.agg #[.bool ng2,.slice p2 r2.length q2]) ?_ rfl ⟨ng2,p2,q2,r2,rfl,by rw [show x - y=x+-y by omega];exact Y.out,by omega,Z.out⟩
    simp [results,Tryz.results93,go_sem,X.out.1,X.out.2.1]
end Dm
end Go.Proofs.YtpofkigboedliaaGreat

namespace Go.Proofs.YtpofkigboedliaaGreat
namespace Dm
open Go.RowKit
open Lm (hide lt_of_cell lt_of_heap)
theorem val_set:∀ (L:List Int) (i:Nat) (x:Int),i<L.length→val (L.set i x)=val L+pw i*(x - L.getD i 0)
  | [],i,x,h=>by simp at h
  | z :: zs,0,x,_=>by simp [val,pw];omega
  | z :: zs,i+1,x,h=>by
    have ih:=val_set zs i x (by simpa using h)
    rw [List.set_cons_succ,val,ih,val,List.getD_cons_succ,pw,Int.mul_add,←Int.mul_assoc]
    omega
theorem digit_le:∀ (L:List Int) (i:Nat),(∀ z ∈ L,0≤z)→pw i*L.getD i 0≤val L
  | [],i,_=>by simp [val]
  | z :: zs,0,h=>by
    have h1:0≤val zs:=by
      have:∀ l:List Int,(∀ z ∈ l,0≤z)→0≤val l:=by
        intro l
        induction l with
        | nil=>intro _;simp [val]
        | cons a l ih =>
          intro hl
          have:=ih (fun z hz=>hl z (List.mem_cons_of_mem _ hz))
          have:=hl a (List.mem_cons_self ..)
          rw [val]
          omega
      exact this zs (fun y hy=>h y (List.mem_cons_of_mem _ hy))
    simp [val,pw]
    omega
  | z :: zs,i+1,h=>by
    have ih:=digit_le zs i (fun y hy=>h y (List.mem_cons_of_mem _ hy))
    have:=h z (List.mem_cons_self ..)
    rw [List.getD_cons_succ,val,pw,Int.mul_assoc]
    omega
theorem limb_set {L:List Int} (h:Limb L) (i:Nat) (x:Int) (hx:0≤x∧x<10000):Limb (L.set i x):=by
  intro z hz
  rcases List.mem_or_eq_of_mem_set hz with h1 | h1
  · exact h z h1
  · rw [h1];exact hx
theorem nonneg_set {L:List Int} (h:Limb L) (i:Nat) (x:Int) (hx:0≤x):∀ z ∈ L.set i x,0≤z:=by
  intro z hz
  rcases List.mem_or_eq_of_mem_set hz with h1 | h1
  · exact (h z h1).1
  · rw [h1];exact hx
theorem mul_99 {a b:Int} (ha:0≤a∧a<10000) (hb:0≤b∧b<10000):0≤a*b∧a*b≤99980001:=by
  refine ⟨Int.mul_nonneg ha.1 hb.1,?_⟩
  have h1:a*b≤9999*b:=Int.mul_le_mul_of_nonneg_right (by omega) hb.1
  omega
theorem mul_in {B M:List Int} {k j:Nat} {P a b c t s:Int} (hl:k+j<M.length) (ht:M.getD (k+j) 0=t) (hb:B.getD j 0=b) (hs:s=c+t+a*b) (h:val M+pw (k+j)*c=P+pw k*(a*vf B j)) :
    val (M.set (k+j) (s % 10000))+pw (k+(j+1))*(s / 10000)=P+pw k*(a*vf B (j+1)):=by
  rw [val_set M _ _ hl,ht,vf,hb,←Nat.add_assoc,pw]
  have e:s=s % 10000+10000*(s / 10000):=by omega
  have e2:pw (k+j)*(s % 10000 - t)+10000*pw (k+j)*(s / 10000)=pw (k+j)*(s - t):=by
    rw [Int.mul_comm 10000 (pw (k+j)),Int.mul_assoc,←Int.mul_add]
    congr 1
    omega
  have e3:pw (k+j)*(s - t)=pw (k+j)*c+pw (k+j)*(a*b):=by rw [←Int.mul_add];congr 1;omega
  have e4:pw k*(a*(vf B j+pw j*b))=pw k*(a*vf B j)+pw (k+j)*(a*b):=by
    rw [pw_add,Int.mul_add,Int.mul_add,Int.mul_assoc (pw k) (pw j),←Int.mul_assoc a (pw j),Int.mul_comm a (pw j),Int.mul_assoc (pw j) a]
  rw [Int.add_assoc,e2,e3,e4]
  omega
theorem mul_out {A B M:List Int} {k:Nat} {a c t:Int} (hA:Limb A) (hB:Limb B) (hM:Limb M) (hk:k<A.length) (hl:k+B.length<M.length) (ht:M.getD (k+B.length) 0=t) (ha:A.getD k 0=a) (hc:0≤c) (h:val M+pw (k+B.length)*c=vf A k*val B+pw k*(a*vf B B.length)) :
    val (M.set (k+B.length) (t+c))=vf A (k+1)*val B∧Limb (M.set (k+B.length) (t+c)):=by
  have h0:0≤t:=by rw [←ht];exact (limb_getD hM _).1
  have e1:val (M.set (k+B.length) (t+c))=vf A (k+1)*val B:=by
    rw [val_set M _ _ hl,ht,vf,ha,Int.add_mul,show t+c - t=c by omega,h,vf_all B _ (Nat.le_refl _),Int.mul_assoc]
  refine ⟨e1,limb_set hM _ _ ⟨by omega,?_⟩⟩
  have h1:=digit_le _ (k+B.length) (nonneg_set hM (k+B.length) (t+c) (by omega))
  have h2:(M.set (k+B.length) (t+c)).getD (k+B.length) 0=t+c:=by
    rw [List.getD_eq_getElem?_getD,List.getElem?_set_self hl];rfl
  rw [h2,e1] at h1
  have h3:=val_bounds hB
  have h4:=val_bounds (limb_take hA (k+1))
  rw [←vf_take,List.length_take,Nat.min_eq_left (by omega)] at h4
  have h5:vf A (k+1)*val B≤(pw (k+1) - 1)*val B:=Int.mul_le_mul_of_nonneg_right (by omega) h3.1
  have h6:(pw (k+1) - 1)*val B≤(pw (k+1) - 1)*(pw B.length - 1):=Int.mul_le_mul_of_nonneg_left (by omega) (by have:=pw_pos (k+1);omega)
  have h7:(pw (k+1) - 1)*(pw B.length - 1)<pw (k+1)*pw B.length:=by
    have:=pw_pos (k+1)
    have:=pw_pos B.length
    rw [Int.sub_mul,Int.mul_sub]
    omega
  have h8:pw (k+1)*pw B.length=pw (k+B.length)*10000:=by rw [←pw_add,show k+1+B.length=(k+B.length)+1 by omega,pw,Int.mul_comm]
  apply Classical.byContradiction
  intro hn
  have h9:pw (k+B.length)*10000≤pw (k+B.length)*(t+c):=Int.mul_le_mul_of_nonneg_left (by omega) (by have:=pw_pos (k+B.length);omega)
  omega
theorem Box.wr {w w' : World} {g g' : Nat} {cur:Array Value} {e:TypeId} {ng:Bool} {v:Value} (h:Box w g ng v) (hw:Wr w w' g' cur e) (hne:g≠g'):Box w' g ng v:=(hw.other g hne).trans h
set_option maxRecDepth 20000 in
set_option maxHeartbeats 1000000 in
theorem nmul_got (w:World) (n1:Bool) (a1:Option Addr) (c1:Nat) (A:List Int) (x:Int) (hx:Got w a1 c1 A x) (n2:Bool) (a2:Option Addr) (c2:Nat) (B:List Int) (y:Int) (hy:Got w a2 c2 B y) (m1:A.length≤400000) (m2:B.length≤400000) :
    Calls Tryz.prog 30 #[.agg #[.bool n1,.slice a1 A.length c1],.agg #[.bool n2,.slice a2 B.length c2]] w fun e w'=>∃ ng' ao cap rs,e=.returned (.agg #[.bool ng',.slice ao rs.length cap])∧Wh w' ng' ao cap rs (sg (n1 != n2) (x*y))∧rs.length≤A.length+B.length+1∧Below w.heap.size w w' := by
  obtain ⟨w0,e0,bx,by',br,hb0,hs0⟩:=boxed3 w n1 (.slice a1 A.length c1) n2 (.slice a2 B.length c2)
  obtain ⟨i0,hi,hz0,hz1,hz2⟩:=info_parts info64
  have E0:=hide e0
  have hx0:=hx.below hb0
  have hy0:=hy.below hb0
  obtain ⟨_,p1,p2,p3⟩:=hx.sl.parts
  obtain ⟨_,q1,q2,q3⟩:=hy.sl.parts
  have P3:=hide p3
  have Q3:=hide q3
  have HS:=hide hs0
  clear p3 q3 e0 hs0
  go_enter Tryz.func30,Tryz.ntmps30
  go_wp2_with (refine wpList_make_full _ rfl (.tmp 16) (.tmp 16) 52 rfl w0.heap.size 3 i0 (.int .i64 0) 1 Tryz.underlying52 hi hz0 hz1 .i64 .i64 _ _ (A.length+B.length+1) rfl rfl (by omega) (by omega) (by rw [hz2];omega) (by unfold maxLen;omega) (by rw [E0.out];exact Nat.le_refl _) ?hK)
  case hK =>
    intro w1 hown hgrow
    rw [E0.out] at hgrow
    generalize hgg:w.heap.size+1+1+1=g at hown ⊢
    obtain ⟨hgB,cur,hh,hcs,hat⟩:=block_of_made hown
    have hb1:Below w0.heap.size w0 w1:=(Below.refl _ _).grown hgrow (Nat.le_refl _) (by simp)
    have HB1:=hb0.trans (hb1.mono hb0.size)
    have hs0:=HS.out
    replace bx:=bx.below hb1
    replace by' := by'.below hb1
    replace br:=br.below hb1
    have n1g:w.heap.size≠g:=by omega
    have n2g:w.heap.size+1≠g:=by omega
    have n3g:w.heap.size+1+1≠g:=by omega
    have NG:=hide (And.intro n1g (And.intro n2g n3g))
    have HX:=hide hx0
    have HY:=hide hy0
    have BX:=hide bx
    have BY:=hide by'
    have BR:=hide br
    have HH:=hide hh
    have HC:=hide hcs
    have HAT:=hide hat
    have HG:=hide hgB
    clear hown hgrow hh hcs hat hgB hgg bx by' br hx0 hy0 n1g n2g n3g E0 hs0
    go_wp2
    go_loopw [6] (fun iv wr=>∃ (k:Nat) (M:List Int) (cur' : Array Value),k≤A.length∧iv=.int .i64 k∧M.length=A.length+B.length+1∧Limb M∧val M=vf A k*val B∧Wr w1 wr g cur' 3∧cur'.size=A.length+B.length+1∧At cur' .i64 0 M) (fun iv _=>A.length - (intOf iv).toNat)
    case atStart=>exact ⟨0,List.replicate (A.length+B.length+1) 0,cur,Nat.zero_le _,rfl,by simp,limb_zeros _,by rw [val_zeros];simp [vf],Wr.refl HH.out,HC.out,HAT.out⟩
    case round =>
      obtain ⟨k,M,cur',hk,rfl,hml,hm,hv,hwr,hcs',hat'⟩:=hrel
      obtain ⟨bx1,bx2,bx3,bx4⟩:=(BX.out.wr hwr NG.out.1).facts
      obtain ⟨by1,by2,by3,by4⟩:=(BY.out.wr hwr NG.out.2.1).facts
      by_cases hlt:k<A.length
      · have dA:(k:Int)<(A.length:Int):=by omega
        obtain ⟨a,hak⟩:∃ a,A.getD k 0=a:=⟨_,rfl⟩
        have HI:Hid (M.length=A.length+B.length+1∧Limb M∧val M+pw (k+0)*0=vf A k*val B+pw k*(a*vf B 0)∧Wr w1 wr g cur' 3∧cur'.size=A.length+B.length+1∧At cur' .i64 0 M):=⟨hml,hm,by rw [hv];simp [vf],hwr,hcs',hat'⟩
        have HK:=hide hak
        clear hml hm hv hwr hcs' hat' hak
        go_wp2
        clear bx1 bx2 bx3 bx4 by1 by2 by3 by4
        go_loopw [7,8] (fun cv jv wr=>∃ (j:Nat) (c:Int) (M:List Int) (cur' : Array Value),j≤B.length∧jv=.int .i64 j∧cv=.int .i64 c∧(0≤c∧c<10000)∧M.length=A.length+B.length+1∧Limb M∧val M+pw (k+j)*c=vf A k*val B+pw k*(a*vf B j)∧Wr w1 wr g cur' 3∧cur'.size=A.length+B.length+1∧At cur' .i64 0 M) (fun _ jv _=>B.length - (intOf jv).toNat)
        case atStart=>exact ⟨0,0,M,cur',Nat.zero_le _,rfl,rfl,by omega,HI.out.1,HI.out.2.1,HI.out.2.2.1,HI.out.2.2.2.1,HI.out.2.2.2.2.1,HI.out.2.2.2.2.2⟩
        case round =>
          clear HI
          obtain ⟨j,c,M,cur',hj,rfl,rfl,hc,hml,hm,hv,hwr,hcs',hat'⟩:=hrel
          have bx' := BX.out.wr hwr NG.out.1
          have by'' := BY.out.wr hwr NG.out.2.1
          obtain ⟨bx1,bx2,bx3,bx4⟩:=bx'.facts
          obtain ⟨by1,by2,by3,by4⟩:=by''.facts
          have sA:=hwr.sl HG.out hb1 rfl HX.out.sl
          have sB:=hwr.sl HG.out hb1 rfl HY.out.sl
          obtain ⟨b1,off1,rfl,hca⟩:=sA.cells (by omega)
          have ca:=hca k hlt
          have ba:=limb_getD P3.out k
          rw [HK.out] at ca ba
          have hm0:=hide hml
          by_cases hltB:j<B.length
          · have dB:(j:Int)<(B.length:Int):=by omega
            obtain ⟨b2,off2,rfl,hcb⟩:=sB.cells (by omega)
            have cb:=hcb j hltB
            have bb:=limb_getD Q3.out j
            obtain ⟨b,hbk⟩:∃ b,B.getD j 0=b:=⟨_,rfl⟩
            rw [hbk] at cb bb
            have cm:=hat'.cell hwr.here (k+j) (by omega)
            rw [Nat.zero_add] at cm
            have bm:=limb_getD hm (k+j)
            obtain ⟨t,htk⟩:∃ t,M.getD (k+j) 0=t:=⟨_,rfl⟩
            rw [htk] at cm bm
            have fm:=hwr.free (k+j)
            have hab:=mul_99 ba bb
            have dM:(k:Int)+(j:Int)<(A.length:Int)+(B.length:Int)+1:=by omega
            have HV' := hide (mul_in (a:=a) (by omega) htk hbk rfl hv)
            have HL' := hide (limb_set hm (k+j) ((c+t+a*b) % 10000) (by omega))
            have HT' := hide (hat'.set (k+j) ((c+t+a*b) % 10000))
            have HW' := hide hwr
            have HCS:=hide hcs'
            clear sA sB hca hcb hbk htk hml hm hv hwr hcs' hat' bx' by''
            go_wp2
            go_quiet (fail)
            replace cm:(wr.drewN nq).cell? ⟨g,k+j,none⟩ = some (.int .i64 t):=cm
            replace fm:(wr.drewN nq).frozen? ⟨g,k+j,none⟩ = false:=fm
            have HW2:=hide ((HW'.out.drewN nq).set (k+j) (.int .i64 ((c+t+a*b) % 10000)))
            clear HW' ca cb bx1 bx2 bx3 bx4 by1 by2 by3 by4
            generalize wr.drewN nq=wr2 at cm fm HW2 ⊢
            go_wp2
            go_roundw
            case rel=>exact ⟨j+1,(c+t+a*b) / 10000,M.set (k+j) ((c+t+a*b) % 10000),_,by omega,by go_num,rfl,by omega,by rw [List.length_set];exact hm0.out,HL'.out,HV'.out,HW2.out,by rw [Array.size_setIfInBounds];exact HCS.out,by simpa using HT'.out⟩
            case measure=>simp [intOf];omega
          · have hjB:j=B.length:=by omega
            subst hjB
            have dB:¬ (B.length:Int)<(B.length:Int):=by omega
            have cm:=hat'.cell hwr.here (k+B.length) (by omega)
            rw [Nat.zero_add] at cm
            have bm:=limb_getD hm (k+B.length)
            obtain ⟨t,htk⟩:∃ t,M.getD (k+B.length) 0=t:=⟨_,rfl⟩
            rw [htk] at cm bm
            have fm:=hwr.free (k+B.length)
            have dM:(k:Int)+(B.length:Int)<(A.length:Int)+(B.length:Int)+1:=by omega
            have HO:=hide (mul_out P3.out Q3.out hm hlt (by omega) htk HK.out hc.1 hv)
            have HT' := hide (hat'.set (k+B.length) (t+c))
            have HW' := hide (hwr.set (k+B.length) (.int .i64 (t+c)))
            have HCS:=hide hcs'
            have wr1:IntKind.i64.wrap ((k:Int)+(B.length:Int))=(k:Int)+(B.length:Int):=by rw [IntKind.wrap_i64];omega
            have wr2:IntKind.i64.wrap (t+c)=t+c:=by rw [IntKind.wrap_i64];omega
            have wr3:(0:Int)≤(k:Int)+(B.length:Int):=by omega
            have wr4:((k:Int)+(B.length:Int)).toNat=k+B.length:=by omega
            clear sA sB hca htk hml hm hv hwr hcs' hat' bx' by'' ca
            go_wp2
            go_region
            have HW2:=hide HW'.out.drew
            clear HW' bx1 bx2 bx3 bx4 by1 by2 by3 by4 cm fm
            generalize (wr.setCell ⟨g,k+B.length,none⟩ (.int .i64 (t+c))).drew=wr9 at HW2 ⊢
            go_wp2
            go_roundw
            case rel=>exact ⟨k+1,M.set (k+B.length) (t+c),_,by omega,by go_num,by rw [List.length_set];exact hm0.out,HO.out.2,HO.out.1,HW2.out,by rw [Array.size_setIfInBounds];exact HCS.out,by simpa using HT'.out⟩
            case measure=>simp [intOf];omega
      · have hkA:k=A.length:=by omega
        subst hkA
        have dA:¬ (A.length:Int)<(A.length:Int):=by omega
        have hvv:val M=x*y:=by rw [hv,vf_all A _ (Nat.le_refl _),HX.out.val,HY.out.val]
        have sM:Sl wr (.slice (some ⟨g,0,none⟩) (A.length+B.length+1) (A.length+B.length+1)) M:=(show Ow g wr _ M from ⟨_,_,by rw [hml],by omega,by unfold maxLen;omega,hm,.inr ⟨g,0,cur',rfl,Nat.le_refl _,hwr.here,by omega,hat'⟩⟩).sl
        have br:=BR.out.wr hwr NG.out.2.2
        have HB:=HB1.trans ((hwr.below HG.out).mono hb0.size)
        rw [←hml] at sM
        have SM:=hide sM
        have HVV:=hide hvv
        have HML:=hide hml
        clear hml hm hv hwr hcs' hat' hvv sM
        go_wp2_with fail
        rw [←HML.out]
        refine (made_w _ _ _ _ M _ SM.out HVV.out).mono ?_
        rintro e w2 ⟨ng2,r2,rfl,G2,l2,hb2⟩
        rw [HML.out] at l2
        replace HB:=HB.trans (hb2.mono HB.size)
        replace br:=br.below hb2
        obtain ⟨br1,br2,br3,br4⟩:=br.facts
        have X:=hide (br.set ng2 (.slice (some ⟨g,0,none⟩) r2.length M.length)).facts
        have Y:=hide (br.wh ng2 (.slice (some ⟨g,0,none⟩) r2.length M.length) G2)
        have Z:=hide (below_set2 HB (show w.heap.size≤w.heap.size+1+1 by omega) (.bool ng2) (.slice (some ⟨g,0,none⟩) r2.length M.length))
        clear bx1 bx2 bx3 bx4 by1 by2 by3 by4
        go_wp2
        refine bodyPost_ret (v:=.agg #[.bool ng2,.slice (some ⟨g,0,none⟩) r2.length M.length]) ?_ rfl ⟨ng2,(some ⟨g,0,none⟩),M.length,r2,rfl,by first | exact Y.out | (rw [bne];exact Y.out),l2,Z.out⟩
        simp [results,Tryz.results30,go_sem,X.out.1,X.out.2.1]
theorem nmul_g (w:World) (n1:Bool) (a1:Option Addr) (c1:Nat) (xs:List Int) (x:Int) (hx:Wh w n1 a1 c1 xs x) (n2:Bool) (a2:Option Addr) (c2:Nat) (ys:List Int) (y:Int) (hy:Wh w n2 a2 c2 ys y) (m1:xs.length≤400000) (m2:ys.length≤400000) :
    Calls Tryz.prog 30 #[.agg #[.bool n1,.slice a1 xs.length c1],.agg #[.bool n2,.slice a2 ys.length c2]] w fun e w'=>∃ ng' ao cap rs,e=.returned (.agg #[.bool ng',.slice ao rs.length cap])∧Wh w' ng' ao cap rs (x*y)∧rs.length≤xs.length+ys.length+1∧Below w.heap.size w w' := by
  have wx:=hx.worth
  have wy:=hy.worth
  rw [hx.1.val] at wx
  rw [hy.1.val] at wy
  rw [show x*y=sg (n1 != n2) ((x.natAbs:Int)*(y.natAbs:Int)) by rw [sg_mul,wx,wy]]
  exact nmul_got w n1 a1 c1 xs _ hx.1 n2 a2 c2 ys _ hy.1 m1 m2
end Dm
end Go.Proofs.YtpofkigboedliaaGreat

namespace Go.Proofs.YtpofkigboedliaaGreat
namespace Dm
open Go.RowKit
open Lm (hide lt_of_cell lt_of_heap cmpI cmpI_lt cmpI_gt)
set_option maxRecDepth 20000 in
set_option maxHeartbeats 1000000 in
theorem abs_far (w:World) (ng:Bool) (a1:Option Addr) (c1:Nat) (xs:List Int) (x:Int) (hx:Got w a1 c1 xs x) (m1:xs.length≤1000000) (h0:0<xs.length) :
    Calls Tryz.prog 76 #[.agg #[.bool ng,.slice a1 xs.length c1]] w fun e w'=>∃ ng' ao cap rs,e=.returned (.agg #[.bool ng',.slice ao rs.length cap])∧Wh w' ng' ao cap rs (sg false x)∧rs.length≤xs.length∧(∀ b off,ao=some ⟨b,off,none⟩→w.heap.size≤b)∧Below w.heap.size w w' := by
  obtain ⟨b,off,rfl,_⟩:=hx.sl.cells h0
  obtain ⟨w0,rfl,bx,br,hb0,hs0⟩:=boxed1 w ng (.slice (some ⟨b,off,none⟩) xs.length c1)
  obtain ⟨i0,hi,hz0,hz1,hz2⟩:=info_parts info64
  obtain ⟨_,p1,p2,p3⟩:=hx.sl.parts
  have P3:=hide p3
  have hx0:=hx.below hb0
  have HB:=hb0
  clear p3
  go_enter Tryz.func76,Tryz.ntmps76
  go_wp2_with (at_builtin;refine wpList_append_lies _ rfl _ _ _ rfl w.heap.size 3 i0 _ 1 8 Tryz.underlying52 hi hz0 hz1 hz2 rfl (by omega) (.slice none 0 0) 0 [] rfl (World.ownsRow_nil _ _ _ _) ⟨b,off,none⟩ xs.length c1 (xs.map (Value.int .i64)) rfl (by simp) (Sl.copy hx0.sl) (one_cells xs) (by omega) (by unfold maxLen;omega) (by omega) (by simp;omega) (w.heap.size+2) (by simp) ?_)
  intro g1 q1 w1 hown hgrow hat hlt
  have hb1:=Below.grown (Below.refl _ _) hgrow (Nat.le_refl _) (by intro k hk;simp [Value.ownBlock] at hk)
  have HB:=HB.trans (hb1.mono HB.size)
  have s1:=copied hown P3.out
  replace bx:=bx.below hb1
  replace br:=br.below hb1
  have FAR:Hid (w.heap.size≤g1):=by rcases hat with e | e;(simp [Value.ownBlock] at e);(show w.heap.size≤g1;omega)
  clear hown hgrow hat hx0
  go_wp2_with fail
  try rw [Nat.zero_add]
  refine (made_w _ _ _ _ xs _ s1 hx.val).mono ?_
  rintro e w2 ⟨ng2,r2,rfl,G2,l2,hb2⟩
  replace HB:=HB.trans (hb2.mono HB.size)
  replace bx:=bx.below hb2
  replace br:=br.below hb2
  obtain ⟨bx1,bx2,bx3,bx4⟩:=bx.facts
  obtain ⟨br1,br2,br3,br4⟩:=br.facts
  all_goals
    have X:=hide (br.set ng2 (.slice (some ⟨g1,0,none⟩) r2.length q1)).facts
    have Y:=hide (br.wh ng2 (.slice (some ⟨g1,0,none⟩) r2.length q1) G2)
    have Z:=hide (below_set2 HB (show w.heap.size≤w.heap.size+1 by omega) (.bool ng2) (.slice (some ⟨g1,0,none⟩) r2.length q1))
    clear bx1 bx2 bx3 bx4
    go_wp2
    refine bodyPost_ret (v:=.agg #[.bool ng2,.slice (some ⟨g1,0,none⟩) r2.length q1]) ?_ rfl ⟨ng2,(some ⟨g1,0,none⟩),q1,r2,rfl,Y.out,by omega,(fun b off e=>by simp only [Option.some.injEq,Addr.mk.injEq] at e;have:=FAR.out;omega),Z.out⟩
    simp [results,Tryz.results76,go_sem,X.out.1,X.out.2.1]
theorem Is.far {B:Nat} {w:World} {v:Value} {x:Int} (h:Is B w v x):∃ ao cap rs,v=.slice ao rs.length cap∧Got w ao cap rs x∧(0<rs.length→∀ b off,ao=some ⟨b,off,none⟩→B≤b):=by
  obtain ⟨rs,ho,hc,hv⟩:=h
  have hs:=ho.sl
  obtain ⟨ao,cap,rfl,h1,h2,h3,h4⟩:=ho
  refine ⟨ao,cap,rs,rfl,⟨hs,hc,hv⟩,?_⟩
  intro h0 b off e
  rcases h4 with h4 | ⟨g',off',cur,e',hB,hh,_⟩
  · omega
  · rw [e'] at e
    simp only [Option.some.injEq,Addr.mk.injEq,and_true] at e
    omega
theorem Wh.natu {w:World} {ao:Option Addr} {cap:Nat} {rs:List Int} {x:Int} (h:Got w ao cap rs x):Wh w false ao cap rs x:=by
  have:=Wh.of false h
  simpa [sg] using this
theorem cmpI_le0 {x y:Int} : cmpI x y≤0↔x≤y:=by
  rcases Int.lt_trichotomy x y with h | h | h
  · rw [cmpI_lt h];omega
  · subst h;simp [Lm.cmpI]
  · rw [cmpI_gt h];omega
def Cl (w:World) (b i:Nat) (v:Value):Prop:=w.cell? ⟨b,i,none⟩ = some v
theorem Cl.below {w w' : World} {b i:Nat} {v:Value} (h:Cl w b i v) (hb:Below w.heap.size w w'):Cl w' b i v:=(hb.cell (p:=⟨b,i,none⟩) (lt_of_cell h)).trans h
theorem Cl.facts {w:World} {b i:Nat} {v:Value} (h:Cl w b i v):w.cell? ⟨b,i,none⟩ = some v∧True∧True∧True:=⟨h,trivial,trivial,trivial⟩
theorem Sl.other {w w' : World} {g n c:Nat} {a:Option Addr} {zs:List Int} (h:Sl w (.slice a n c) zs) (hne:0<zs.length→∀ b off,a=some ⟨b,off,none⟩→b≠g) (ho:∀ k,k≠g→w'.heap[k]? = w.heap[k]?):Sl w' (.slice a n c) zs:=by
  obtain ⟨ao',cap',hv,h1,h2,h3,h4⟩:=h
  obtain ⟨rfl,rfl,rfl⟩:=(Value.slice.injEq .. ▸ hv)
  refine ⟨_,_,rfl,h1,h2,h3,?_⟩
  rcases h4 with h4 | ⟨b,off,rfl,hc⟩
  · exact .inl h4
  · by_cases h0:0<zs.length
    · refine .inr ⟨b,off,rfl,fun i hi=>?_⟩
      rw [World.cell?_of_block (w:=w) (ho b (hne h0 b off rfl))]
      exact hc i hi
    · exact .inl (List.eq_nil_of_length_eq_zero (by omega))
structure Dv (w wr:World) (na:Bool) (va:Value) (g gy gr n:Nat) (Dl:List Int) (pY:Option Addr) (qY:Nat) (Y:List Int) (y:Int) (nR:Bool) (pR:Option Addr) (qR:Nat) (R:List Int) (r:Int):Prop where
  hb:Below w.heap.size w wr
  ba:Box wr w.heap.size na va
  b4:Box wr (w.heap.size+1+1) false (.slice none 0 0)
  b5:Box wr (w.heap.size+1+1+1) false (.slice none 0 0)
  bY:Box wr gy false (.slice pY Y.length qY)
  bR:Box wr gr nR (.slice pR R.length qR)
  d:∃ cur,wr.heap[g]? = some (.cells cur 3 (0,0))∧cur.size=n∧At cur .i64 0 Dl
  dl:Dl.length=n∧Limb Dl
  hY:Wh wr false pY qY Y y
  hR:Wh wr nR pR qR R r
  lt:w.heap.size+4≤g∧g<gy∧gy<gr
  farY:∀ b off,pY=some ⟨b,off,none⟩→g<b
section
variable {w wr wr' : World} {na:Bool} {va:Value} {g gy gr n:Nat} {Dl:List Int} {pY:Option Addr} {qY:Nat} {Y:List Int} {y:Int} {nR:Bool} {pR:Option Addr} {qR:Nat} {R:List Int} {r:Int}
theorem Dv.below (h:Dv w wr na va g gy gr n Dl pY qY Y y nR pR qR R r) (hb:Below wr.heap.size wr wr'):Dv w wr' na va g gy gr n Dl pY qY Y y nR pR qR R r:=by
  obtain ⟨cur,hh,r1⟩:=h.d
  exact ⟨h.hb.trans (hb.mono h.hb.size),h.ba.below hb,h.b4.below hb,h.b5.below hb,h.bY.below hb,h.bR.below hb,⟨cur,(hb.block g (lt_of_heap hh)).trans hh,r1⟩,h.dl,h.hY.below hb,h.hR.below hb,h.lt,h.farY⟩
theorem box_other {w:World} {g k:Nat} {ng:Bool} {v:Value} (h:Box w k ng v) (hne:k≠g) (b u:Value):Box ((w.setCell ⟨g,0,none⟩ b).setCell ⟨g,1,none⟩ u) k ng v:=by
  unfold Box
  rw [heap_setCell_other _ ⟨g,1,none⟩ k _ hne,heap_setCell_other _ ⟨g,0,none⟩ k _ hne]
  exact h
theorem Dv.setR (h:Dv w wr na va g gy gr n Dl pY qY Y y nR pR qR R r) {n2:Bool} {p2:Option Addr} {q2:Nat} {R2:List Int} {r2:Int} (h2:Wh wr n2 p2 q2 R2 r2) :
    Dv w ((wr.setCell ⟨gr,0,none⟩ (.bool n2)).setCell ⟨gr,1,none⟩ (.slice p2 R2.length q2)) na va g gy gr n Dl pY qY Y y n2 p2 q2 R2 r2:=by
  obtain ⟨cur,hh,r1⟩:=h.d
  have l:=h.lt
  refine ⟨below_set2 h.hb (by omega) _ _,box_other h.ba (by omega) _ _,box_other h.b4 (by omega) _ _,box_other h.b5 (by omega) _ _,box_other h.bY (by omega) _ _,h.bR.set _ _,⟨cur,?_,r1⟩,h.dl,h.bR.wh _ _ h.hY,h.bR.wh _ _ h2,h.lt,h.farY⟩
  rw [heap_setCell_other _ ⟨gr,1,none⟩ g _ (by simp;omega),heap_setCell_other _ ⟨gr,0,none⟩ g _ (by simp;omega)]
  exact hh
theorem Dv.setD (h:Dv w wr na va g gy gr n Dl pY qY Y y nR pR qR R r) (i:Nat) (q:Int) (hq:0≤q∧q<10000) (hfar:0<R.length→∀ b off,pR=some ⟨b,off,none⟩→b≠g) :
    Dv w (wr.setCell ⟨g,i,none⟩ (.int .i64 q)) na va g gy gr n (Dl.set i q) pY qY Y y nR pR qR R r:=by
  obtain ⟨cur,hh,hs,ha⟩:=h.d
  have l:=h.lt
  have ho:∀ k,k≠g→(wr.setCell ⟨g,i,none⟩ (.int .i64 q)).heap[k]? = wr.heap[k]? := fun k hk=>heap_setCell_other wr ⟨g,i,none⟩ k _ hk
  have hset:=ha.set i q
  rw [Nat.zero_add] at hset
  refine ⟨h.hb.setCell (show w.heap.size≤g by omega) _,(ho _ (by omega)).trans h.ba,(ho _ (by omega)).trans h.b4,(ho _ (by omega)).trans h.b5,(ho _ (by omega)).trans h.bY,(ho _ (by omega)).trans h.bR,⟨_,heap_setCell_same wr g i cur _ _ hh,by rw [Array.size_setIfInBounds];exact hs,hset⟩,⟨by rw [List.length_set];exact h.dl.1,limb_set h.dl.2 _ _ hq⟩,?_,?_,h.lt,h.farY⟩
  · exact ⟨⟨h.hY.1.1.other (fun _ b off e=>by have:=h.farY b off e;omega) ho,h.hY.1.2⟩,h.hY.2⟩
  · exact ⟨⟨h.hR.1.1.other hfar ho,h.hR.1.2⟩,h.hR.2⟩
theorem Dv.cell (h:Dv w wr na va g gy gr n Dl pY qY Y y nR pR qR R r) (i:Nat) (hi:i<n):wr.cell? ⟨g,i,none⟩ = some (.int .i64 (Dl.getD i 0))∧wr.frozen? ⟨g,i,none⟩ = false:=by
  obtain ⟨cur,hh,hs,ha⟩:=h.d
  have:=ha.cell hh i (by rw [h.dl.1];exact hi)
  rw [Nat.zero_add] at this
  exact ⟨this,frozen_of_row wr g i cur _ hh⟩
theorem Dv.sl (h:Dv w wr na va g gy gr n Dl pY qY Y y nR pR qR R r) (hn:n≤1000000):Sl wr (.slice (some ⟨g,0,none⟩) n n) Dl:=by
  obtain ⟨cur,hh,hs,ha⟩:=h.d
  exact (show Ow g wr _ Dl from ⟨_,n,by rw [h.dl.1],by rw [h.dl.1];omega,by unfold maxLen;omega,h.dl.2,.inr ⟨g,0,cur,rfl,Nat.le_refl _,hh,by omega,ha⟩⟩).sl
end
theorem div_round {A Dl:List Int} {k:Nat} {y r a q:Int} (hk:k<A.length) (hd:k<Dl.length) (ha:A.getD k 0=a) (h:val (A.drop (k+1))=y*val (Dl.drop (k+1))+r):val (A.drop k)=y*val ((Dl.set k q).drop k)+(r*10000+a - (y*q+0)):=by
  rw [drop_getD A k hk,ha,val,h]
  have e:(Dl.set k q).drop k=q :: Dl.drop (k+1):=by
    rw [drop_getD _ k (by rw [List.length_set];exact hd),List.drop_set_of_lt (by omega)]
    congr 1
    rw [List.getD_eq_getElem?_getD,List.getElem?_set_self hd]
    rfl
  rw [e,val,Int.mul_add,Int.mul_add,←Int.mul_assoc,←Int.mul_assoc,Int.mul_comm 10000 y]
  omega
theorem div_start {A:List Int} (hA:Limb A) {m:Nat} {y:Int} (hy:pw m≤y) {sk:Nat} (hs:A.length - sk≤m):0≤val (A.drop sk)∧val (A.drop sk)<y:=by
  have h1:=val_bounds (limb_drop hA sk)
  have h2:=pw_mono (m:=(A.drop sk).length) (n:=m) (by rw [List.length_drop];exact hs)
  omega
theorem div_end {x y q r:Int} (h:x=y*q+r) (h0:0≤r) (h1:r<y):q=x / y∧r=x % y:=by
  have e:(r+y*q) / y=r / y+q:=Int.add_mul_ediv_left _ _ (by omega)
  have e2:(r+y*q) % y=r % y:=Int.add_mul_emod_self_left _ _ _
  rw [Int.add_comm] at h
  rw [h,e,e2,Int.ediv_eq_zero_of_lt h0 h1,Int.emod_eq_of_lt h0 h1]
  omega
end Dm
end Go.Proofs.YtpofkigboedliaaGreat

namespace Go.Proofs.YtpofkigboedliaaGreat
namespace Dm
open Go.RowKit
open Lm (hide lt_of_cell lt_of_heap cmpI cmpI_lt cmpI_gt)
theorem Sl.drop {w:World} {b off n c:Nat} {zs:List Int} (h:Sl w (.slice (some ⟨b,off,none⟩) n c) zs) (k:Nat) (hk:k≤zs.length):Sl w (.slice (some ⟨b,off+k,none⟩) (zs.length - k) (c - k)) (zs.drop k):=by
  obtain ⟨ao',cap',hv,h1,h2,h3,h4⟩:=h
  obtain ⟨rfl,rfl,rfl⟩:=(Value.slice.injEq .. ▸ hv)
  refine ⟨_,_,by rw [List.length_drop],by rw [List.length_drop];omega,Nat.le_trans (Nat.sub_le _ _) h2,limb_drop h3 k,?_⟩
  rcases h4 with rfl | ⟨b',off',e,hc⟩
  · exact .inl (by simp)
  · simp only [Option.some.injEq,Addr.mk.injEq,and_true] at e
    obtain ⟨rfl,rfl⟩:=e
    refine .inr ⟨b,off+k,rfl,fun i hi=>?_⟩
    rw [List.length_drop] at hi
    have:=hc (k+i) (by omega)
    rw [List.getD_eq_getElem?_getD,List.getElem?_drop,←List.getD_eq_getElem?_getD,Nat.add_assoc]
    exact this
theorem made_n (w:World) (ng:Bool) (ao:Option Addr) (n cap:Nat) (ds:List Int) (x:Int) (h:Sl w (.slice ao n cap) ds) (hv:Dm.val ds=x) :
    Calls Tryz.prog 59 #[.bool ng,.slice ao n cap] w fun e w'=>∃ ng' rs,e=.returned (.agg #[.bool ng',.slice ao rs.length cap])∧Wh w' ng' ao cap rs (sg ng x)∧rs.length≤ds.length∧Below w.heap.size w w' := by
  obtain ⟨rfl,_⟩:=h.parts
  exact made_w w ng ao cap ds x h hv
set_option maxRecDepth 20000 in
set_option maxHeartbeats 8000000 in
theorem divided_g (w:World) (n1:Bool) (a1:Option Addr) (c1:Nat) (A:List Int) (x:Int) (hx:Got w a1 c1 A x) (n2:Bool) (a2:Option Addr) (c2:Nat) (B:List Int) (y:Int) (hy:Got w a2 c2 B y) (m1:A.length≤300000) (m2:B.length≤300000) (y0:0<B.length) :
    Calls Tryz.prog 77 #[.agg #[.bool n1,.slice a1 A.length c1],.agg #[.bool n2,.slice a2 B.length c2]] w fun e w'=>∃ nq pq qq Q nr pr qr R,e=.returned (.tuple #[.agg #[.bool nq,.slice pq Q.length qq],.agg #[.bool nr,.slice pr R.length qr]])∧Wh w' nq pq qq Q (x / y)∧Wh w' nr pr qr R (x % y)∧Q.length≤A.length∧R.length≤B.length∧Below w.heap.size w w' := by
  obtain ⟨w0,e0,bx,by',br,hb0,hs0⟩:=boxed3 w n1 (.slice a1 A.length c1) n2 (.slice a2 B.length c2)
  obtain ⟨bs5,hb5,hs5⟩:=boxed w0 false (.slice none 0 0)
  obtain ⟨i0,hi,hz0,hz1,hz2⟩:=info_parts info64
  have E0:=hide e0
  rw [hs0] at bs5 hs5
  replace bx:=bx.below hb5
  replace by' := by'.below hb5
  replace br:=br.below hb5
  have HB0:=hb0.trans (hb5.mono hb0.size)
  have hx0:=hx.below HB0
  have hy0:=hy.below HB0
  obtain ⟨_,p1,p2,p3⟩:=hx.sl.parts
  obtain ⟨_,q1,q2,q3⟩:=hy.sl.parts
  have P3:=hide p3
  have Q3:=hide q3
  generalize hw0:w0.alloc (.cells #[.bool false,.slice none 0 0] 54)=w5 at *
  have E5:=hide hw0
  have HS:=hide hs5
  clear p3 q3 e0 hs0 hb5 hw0 hs5
  go_enter Tryz.func77,Tryz.ntmps77
  obtain ⟨bx1,bx2,bx3,bx4⟩:=bx.facts
  go_wp2_with (refine wpList_make_full _ rfl (.tmp 16) (.tmp 16) 52 rfl w5.heap.size 3 i0 (.int .i64 0) 1 Tryz.underlying52 hi hz0 hz1 .i64 .i64 _ _ A.length rfl rfl (by omega) (by omega) (by rw [hz2];omega) (by unfold maxLen;omega) (by rw [E0.out,E5.out];exact Nat.le_refl _) ?hK)
  case hK =>
    intro w1 hown hgrow
    rw [E0.out,E5.out] at hgrow
    have hsz5:=HS.out
    obtain ⟨hgB,cur,hh,hcs,hat⟩:=block_of_made hown
    have hb1:Below w5.heap.size w5 w1:=(Below.refl _ _).grown hgrow (Nat.le_refl _) (by simp)
    have HB1:=HB0.trans (hb1.mono HB0.size)
    have hs1:=lt_of_heap hh
    replace bx:=bx.below hb1
    replace by' := by'.below hb1
    replace br:=br.below hb1
    replace bs5:=bs5.below hb1
    have hx1:=hx0.below hb1
    have hy1:=hy0.below hb1
    have HH:=hide (And.intro hh (And.intro hcs hat))
    clear hown hgrow hh hcs hat hgB hx0 hy0 bx1 bx2 bx3 bx4 E0 E5 hb1 HB0 HS
    generalize hgg:w.heap.size+1+1+1+1=g at HH hs1 ⊢
    obtain ⟨bx1,bx2,bx3,bx4⟩:=bx.facts
    obtain ⟨by1,by2,by3,by4⟩:=by'.facts
    go_wp2_with fail
    refine (abs_far _ _ _ _ B _ hy1 (by omega) y0).mono ?_
    rintro e w2 ⟨nY,pY,qY,Y,rfl,GY,lY,farY,hb2⟩
    have HB2:=HB1.trans (hb2.mono HB1.size)
    have z2:=hb2.size
    replace bx:=bx.below hb2
    replace by' := by'.below hb2
    replace br:=br.below hb2
    replace bs5:=bs5.below hb2
    replace hx1:=hx1.below hb2
    have hh2:=(hb2.block g hs1).trans HH.out.1
    obtain rfl:nY=false:=by
      rw [GY.2]
      have:=(val_bounds Q3.out).1
      rw [hy.val] at this
      simp [sg]
      omega
    simp only [sg,Bool.false_eq_true,if_false] at GY
    obtain ⟨w3,e3,bY,hb3,hs3⟩:=boxed0 w2 false (.slice pY Y.length qY)
    have HB3:=HB2.trans (hb3.mono HB2.size)
    replace bx:=bx.below hb3
    replace by' := by'.below hb3
    replace br:=br.below hb3
    replace bs5:=bs5.below hb3
    replace hx1:=hx1.below hb3
    replace GY:=GY.below hb3
    have hh3:=(hb3.block g (by omega)).trans hh2
    have HH3:=hide (And.intro hh3 HH.out.2)
    have E3:=hide e3
    clear hb2 hb3 hy1 HH hh2 hh3 e3 bx1 bx2 bx3 bx4 by1 by2 by3 by4
    go_upto_region 3 with fail
    rw [E3.out]
    clear E3
    obtain ⟨bx1,bx2,bx3,bx4⟩:=bx.facts
    obtain ⟨by1,by2,by3,by4⟩:=by'.facts
    generalize hgy:w2.heap.size=gy at *
    go_upto_if 29 with fail
    have hsk:∃ sk:Nat,sk=A.length+1 - B.length:=⟨_,rfl⟩
    obtain ⟨sk,hsk⟩:=hsk
    go_cut [8] (fun v wx=>v=.int .i64 (sk:Int)∧wx=w3)
    case first =>
      by_cases hneg:(A.length:Int) - B.length+1<0
      · go_wp2
        go_meet
        case rel=>exact ⟨by simp;omega,rfl⟩
      · go_wp2
        go_meet
        case rel=>exact ⟨by simp;omega,rfl⟩
    case rest =>
      obtain ⟨rfl,rfl⟩:=hcut
      have HSK:=hide hsk
      have hskA:sk≤A.length:=by omega
      clear hsk
      have DV0:Hid (∀ (wx:World) (gr:Nat) (nR:Bool) (pR:Option Addr) (qR:Nat) (R:List Int) (r:Int),Below wc.heap.size wc wx→Box wx gr nR (.slice pR R.length qR)→Wh wx nR pR qR R r→gy<gr→Dv w wx n1 (.slice a1 A.length c1) g gy gr A.length (List.replicate A.length 0) pY qY Y y nR pR qR R r):=by
        intro wx gr nR pR qR R r hbx bRx hRx hgr
        have hd:=HH3.out.1
        exact ⟨HB3.trans (hbx.mono HB3.size),bx.below hbx,br.below hbx,bs5.below hbx,bY.below hbx,bRx,⟨cur,(hbx.block g (lt_of_heap hd)).trans hd,HH3.out.2⟩,⟨by simp,limb_zeros _⟩,GY.below hbx,hRx,⟨by omega,by omega,hgr⟩,fun b off e=>by have:=farY b off e;omega⟩
      go_upto_region 6 with fail
      go_cut [9] (fun v wx=>∃ gr nR pR qR R,v=.pointer (some ⟨gr,0,none⟩)∧Dv w wx n1 (.slice a1 A.length c1) g gy gr A.length (List.replicate A.length 0) pY qY Y y nR pR qR R (val (A.drop sk)))
      case first =>
        by_cases hne:sk<A.length
        · obtain ⟨b,off,rfl,_⟩:=hx1.sl.cells (by omega)
          have sd:=hx1.sl.drop sk (by omega)
          have dI:(sk:Int)≤(A.length:Int):=by omega
          have sd2:=sd
          rw [←List.length_drop] at sd2
          have hlen:(A.drop sk).length=A.length - sk:=List.length_drop
          go_wp2_with (at_builtin;refine wpList_append_lies _ rfl _ _ _ rfl wc.heap.size 3 i0 _ 1 8 Tryz.underlying52 hi hz0 hz1 hz2 rfl (by omega) (.slice none 0 0) 0 [] rfl (World.ownsRow_nil _ _ _ _) ⟨b,off+sk,none⟩ (A.length - sk) (c1 - sk) ((A.drop sk).map (Value.int .i64)) rfl (by simp) (Sl.copy sd) (one_cells _) (by omega) (by unfold maxLen;omega) (by omega) (Nat.le_refl _) wc.heap.size rfl ?_)
          intro g1 q1 w4 hown hgrow hat hlt
          have hb4:=Below.grown (Below.refl wc.heap.size wc) hgrow (Nat.le_refl _) (by intro k hk;simp [Value.ownBlock] at hk)
          have s4:=copied (zs:=A.drop sk) (by rw [List.nil_append,List.map_drop];exact hown) (limb_drop P3.out sk)
          clear hown hgrow hat
          go_wp2_with fail
          refine (made_n _ _ _ (A.length - sk) _ (A.drop sk) _ (by rw [hlen] at s4;exact s4) rfl).mono ?_
          rintro e w5 ⟨nR,R,rfl,GR,lR,hb5⟩
          have hb45:Below wc.heap.size wc w5:=hb4.trans (hb5.mono hb4.size)
          obtain ⟨w6,e6,bR,hb6,hs6⟩:=boxed0 w5 nR (.slice (some ⟨g1,0,none⟩) R.length q1)
          have E6:=hide e6
          have z5:=hb45.size
          have FIN:=hide (DV0.out w6 w5.heap.size nR (some ⟨g1,0,none⟩) q1 R _ (hb45.trans (hb6.mono hb45.size)) bR (GR.below hb6) (by omega))
          clear e6 bx1 bx2 bx3 bx4 by1 by2 by3 by4
          go_wp2
          rw [E6.out]
          go_meet
          case rel=>exact ⟨w5.heap.size,nR,(some ⟨g1,0,none⟩),q1,R,rfl,FIN.out⟩
        · have hsk2:sk=A.length:=by omega
          subst hsk2
          cases a1 with
          | none =>
            go_wp2_with fail
            refine (made_w _ _ none 0 [] 0 (sl_nil _) rfl).mono ?_
            rintro e w5 ⟨nR,R,rfl,GR,lR,hb5⟩
            have hb45:Below wc.heap.size wc w5:=hb5
            obtain ⟨w6,e6,bR,hb6,hs6⟩:=boxed0 w5 nR (.slice none R.length 0)
            have E6:=hide e6
            have z5:=hb45.size
            have FIN:=hide (DV0.out w6 w5.heap.size nR none 0 R _ (hb45.trans (hb6.mono hb45.size)) bR (GR.below hb6) (by omega))
            clear e6 bx1 bx2 bx3 bx4 by1 by2 by3 by4
            go_wp2
            rw [E6.out]
            go_meet
            case rel=>exact ⟨w5.heap.size,nR,none,0,R,rfl,by rw [List.drop_length];exact FIN.out⟩
          | some ad =>
            rcases Nat.eq_or_lt_of_le p1 with hc | hc
            · subst hc
              go_wp2_with fail
              refine (made_w _ _ none 0 [] 0 (sl_nil _) rfl).mono ?_
              rintro e w5 ⟨nR,R,rfl,GR,lR,hb5⟩
              have hb45:Below wc.heap.size wc w5:=hb5
              obtain ⟨w6,e6,bR,hb6,hs6⟩:=boxed0 w5 nR (.slice none R.length 0)
              have E6:=hide e6
              have z5:=hb45.size
              have FIN:=hide (DV0.out w6 w5.heap.size nR none 0 R _ (hb45.trans (hb6.mono hb45.size)) bR (GR.below hb6) (by omega))
              clear e6 bx1 bx2 bx3 bx4 by1 by2 by3 by4
              go_wp2
              rw [E6.out]
              go_meet
              case rel=>exact ⟨w5.heap.size,nR,none,0,R,rfl,by rw [List.drop_length];exact FIN.out⟩
            · have hc1:¬ c1=A.length:=by omega
              have hc2:¬ A.length=c1:=by omega
              go_wp2_with fail
              refine (made_w _ _ none 0 [] 0 (sl_nil _) rfl).mono ?_
              rintro e w5 ⟨nR,R,rfl,GR,lR,hb5⟩
              have hb45:Below wc.heap.size wc w5:=hb5
              obtain ⟨w6,e6,bR,hb6,hs6⟩:=boxed0 w5 nR (.slice none R.length 0)
              have E6:=hide e6
              have z5:=hb45.size
              have FIN:=hide (DV0.out w6 w5.heap.size nR none 0 R _ (hb45.trans (hb6.mono hb45.size)) bR (GR.below hb6) (by omega))
              clear e6 bx1 bx2 bx3 bx4 by1 by2 by3 by4
              go_wp2
              rw [E6.out]
              go_meet
              case rel=>exact ⟨w5.heap.size,nR,none,0,R,rfl,by rw [List.drop_length];exact FIN.out⟩
      case rest =>
        obtain ⟨gr,nR,pR,qR,R,rfl,DV⟩:=hcut
        have hyv:0<y:=by rw [←hy.val];have:=canon_low hy.canon (by intro e;rw [e] at y0;simp at y0);have:=pw_pos (B.length - 1);omega
        have hyp:y<pw B.length:=by rw [←hy.val];exact (val_bounds Q3.out).2
        have HST:=hide (div_start P3.out (m:=B.length - 1) (y:=y) (sk:=sk) (by rw [←hy.val];exact canon_low hy.canon (by intro e;rw [e] at y0;simp at y0)) (by have:=HSK.out;omega))
        have HYP:=hide hyp
        clear DV0 bx1 bx2 bx3 bx4 by1 by2 by3 by4 bx by' br bs5 bY hx1 GY HH3 farY hyp
        go_wp2
        go_loopw [10] (fun iv wr=>∃ (k:Nat) (Dl:List Int) (nR:Bool) (pR:Option Addr) (qR:Nat) (R:List Int) (r:Int),k≤sk∧iv=.int .i64 ((k:Int) - 1)∧Dv w wr n1 (.slice a1 A.length c1) g gy gr A.length Dl pY qY Y y nR pR qR R r∧val (A.drop k)=y*val (Dl.drop k)+r∧0≤r∧r<y) (fun iv _=>(intOf iv+1).toNat)
        case atStart=>exact ⟨sk,_,_,_,_,_,_,Nat.le_refl _,rfl,DV,by rw [List.drop_replicate,val_zeros];omega,HST.out.1,HST.out.2⟩
        case round =>
          clear DV HST
          obtain ⟨k,Dl,nR,pR,qR,R,r,hk,rfl,DV,hv,hr0,hr1⟩:=hrel
          have lR:=DV.hR.len (m:=B.length) (by have:=HYP.out;omega)
          have HV:=hide hv
          clear hv
          cases k with
          | zero =>
            have hv:=HV.out
            rw [List.drop_zero,List.drop_zero,hx.val] at hv
            have QE:=hide (div_end hv hr0 hr1)
            have bR:=DV.bR
            have b4:=DV.b4
            have b5:=DV.b5
            have HL9:=DV.lt
            have ne1:¬ (w.heap.size+1+1=gr):=by omega
            have ne2:¬ (w.heap.size+1+1+1=gr):=by omega
            have ne3:¬ (gr=w.heap.size+1+1):=by omega
            have ne4:¬ (gr=w.heap.size+1+1+1):=by omega
            obtain ⟨bR1,bR2,bR3,bR4⟩:=bR.facts
            obtain ⟨b41,b42,b43,b44⟩:=b4.facts
            obtain ⟨b51,b52,b53,b54⟩:=b5.facts
            clear hv
            go_wp2_with fail
            go_region_held3 (fun w'=>w'.cell? ⟨gr,0,none⟩ = some (.bool nR)∧w'.cell? ⟨gr,1,none⟩ = some (.slice pR R.length qR)) (go_keep) (first
              | (go_at_call 59;refine (made_n _ _ _ _ _ Dl _ ((DV.sl (by omega)).below (by repeat (first | exact Below.refl _ _ | refine Below.drew ?_))) rfl).mono ?_;rintro e w1 ⟨n2q,Q,rfl,GQ,lQ,hb1⟩;have hb1' : Below wr.heap.size wr w1:=(show Below wr.heap.size wr _ by repeat (first | exact Below.refl _ _ | refine Below.drew ?_)).trans hb1;replace DV:=DV.below hb1';replace bR:=bR.below hb1';clear bR1 bR2 bR3 bR4;obtain ⟨bR1,bR2,bR3,bR4⟩:=bR.facts;replace b4:=b4.below hb1';clear b41 b42 b43 b44;obtain ⟨b41,b42,b43,b44⟩:=b4.facts;replace b5:=b5.below hb1';clear b51 b52 b53 b54;obtain ⟨b51,b52,b53,b54⟩:=b5.facts))
            all_goals
              have F1:=hide (box_other (b4.set n2q (.slice (some ⟨g,0,none⟩) Q.length A.length)) (show w.heap.size+1+1≠w.heap.size+1+1+1 by omega) (.bool nR) (.slice pR R.length qR)).facts
              have b5' := box_other b5 (show w.heap.size+1+1+1≠w.heap.size+1+1 by omega) (.bool n2q) (.slice (some ⟨g,0,none⟩) Q.length A.length)
              have F2:=hide (b5'.set nR (.slice pR R.length qR)).facts
              have Y1:=hide (b5'.wh nR (.slice pR R.length qR) (b4.wh n2q (.slice (some ⟨g,0,none⟩) Q.length A.length) GQ))
              have Y2:=hide (b5'.wh nR (.slice pR R.length qR) (b4.wh n2q (.slice (some ⟨g,0,none⟩) Q.length A.length) DV.hR))
              have Z2:=hide (below_set2 (below_set2 DV.hb (show w.heap.size≤w.heap.size+1+1 by omega) (.bool n2q) (.slice (some ⟨g,0,none⟩) Q.length A.length)) (show w.heap.size≤w.heap.size+1+1+1 by omega) (.bool nR) (.slice pR R.length qR))
              have lD:=DV.dl.1
              clear bR1 bR2 bR3 bR4 DV
              go_wp2
              refine bodyPost_ret (v:=.tuple #[.agg #[.bool n2q,.slice (some ⟨g,0,none⟩) Q.length A.length],.agg #[.bool nR,.slice pR R.length qR]]) ?_ rfl ⟨n2q,some ⟨g,0,none⟩,A.length,Q,nR,pR,qR,R,rfl,by rw [←QE.out.1];exact Y1.out,by rw [←QE.out.2];exact Y2.out,by omega,by omega,Z2.out⟩
              simp [results,Tryz.results77,go_sem,F1.out.1,F1.out.2.1,F2.out.1,F2.out.2.1]
          | succ k =>
            obtain ⟨b,off,rfl,hca⟩:=hx.sl.cells (by omega)
            have cc:Cl wr b (off+k) (.int .i64 (A.getD k 0)):=(DV.hb.cell (p:=⟨b,off+k,none⟩) (lt_of_cell (hca k (by omega)))).trans (hca k (by omega))
            have ba9:=limb_getD P3.out k
            obtain ⟨a,hak⟩:∃ a,A.getD k 0=a:=⟨_,rfl⟩
            rw [hak] at cc ba9
            have HAK:=hide hak
            have ba:=DV.ba
            have bR:=DV.bR
            have vR:val R=r:=by rw [DV.hR.1.val];omega
            have dK:(k:Int)<(A.length:Int):=by omega
            have dK0:(0:Int)≤(k:Int):=by omega
            have HL9:=DV.lt
            have hz9:=lt_of_heap DV.bR
            clear hca hak
            have ek:(((k+1:Nat):Int) - 1)=(k:Int):=by omega
            rw [ek]
            clear ek
            go_upto_region 10 with fail
            go_cut [] (fun wx=>∃ pR qR R,Dv w wx n1 (.slice (some ⟨b,off,none⟩) A.length c1) g gy gr A.length Dl pY qY Y y false pR qR R (r*10000+a)∧(0<R.length→∀ b off,pR=some ⟨b,off,none⟩→b≠g))
            case first =>
              obtain ⟨cc1,cc2,cc3,cc4⟩:=cc.facts
              obtain ⟨ba1,ba2,ba3,ba4⟩:=ba.facts
              obtain ⟨bR1,bR2,bR3,bR4⟩:=bR.facts
              go_region_with (first
                | (go_at_call 59;have _hq:=hb1';refine (made_g _ p1 q1 r1 _ (G1.below (by repeat (first | exact Below.refl _ _ | refine Below.drew ?_)))).mono ?_;rintro e w2 ⟨rfl,hb2⟩;have hb2' : Below w1.heap.size w1 w2:=(show Below w1.heap.size w1 _ by repeat (first | exact Below.refl _ _ | refine Below.drew ?_)).trans hb2;replace G1:=G1.below hb2';replace DV:=DV.below hb2';replace ba:=ba.below hb2';clear ba1 ba2 ba3 ba4;obtain ⟨ba1,ba2,ba3,ba4⟩:=ba.facts;replace bR:=bR.below hb2';clear bR1 bR2 bR3 bR4;obtain ⟨bR1,bR2,bR3,bR4⟩:=bR.facts;replace cc:=cc.below hb2';clear cc1 cc2 cc3 cc4;obtain ⟨cc1,cc2,cc3,cc4⟩:=cc.facts)
                | (go_at_call 73;refine (small_any _ _ _ _ R (DV.hR.sl.below (by repeat (first | exact Below.refl _ _ | refine Below.drew ?_))) 10000 a (by omega) (by omega) (by omega)).mono ?_;rintro e w1 ⟨v1,rfl,I1,hb1⟩;have hb1' : Below wr.heap.size wr w1:=(show Below wr.heap.size wr _ by repeat (first | exact Below.refl _ _ | refine Below.drew ?_)).trans hb1;obtain ⟨p1,q1,r1,rfl,G1,far1⟩:=I1.far;clear I1;replace DV:=DV.below hb1';replace ba:=ba.below hb1';clear ba1 ba2 ba3 ba4;obtain ⟨ba1,ba2,ba3,ba4⟩:=ba.facts;replace bR:=bR.below hb1';clear bR1 bR2 bR3 bR4;obtain ⟨bR1,bR2,bR3,bR4⟩:=bR.facts;replace cc:=cc.below hb1';clear cc1 cc2 cc3 cc4;obtain ⟨cc1,cc2,cc3,cc4⟩:=cc.facts))
              all_goals
                rw [vR] at G1
                have FIN:=hide (DV.setR (Wh.natu G1))
                have FAR:Hid (0<r1.length→∀ b off,p1=some ⟨b,off,none⟩→b≠g):=fun h0 b off e=>by have:=far1 h0 b off e;simp at this;omega
                clear ba1 ba2 ba3 ba4 cc1 cc2 cc3 cc4 DV
                go_wp2
                go_meet
                case rel=>exact ⟨p1,q1,r1,FIN.out,FAR.out⟩
            case rest =>
              obtain ⟨pR,qR,R,DV,farR⟩:=hcut
              have HFR:=hide farR
              clear farR vR ba bR cc
              have lR2:=DV.hR.len (m:=B.length+1) (by rw [pw];have:=HYP.out;omega)
              go_wp2
              obtain ⟨r9,hr9⟩:∃ r9,r*10000+a=r9:=⟨_,rfl⟩
              rw [hr9] at DV
              have hy9:y*9999+y=y*(9999+1):=by rw [Int.mul_add];omega
              go_loopw [11,12] (fun lo hi wx=>∃ l h:Int,lo=.int .i64 l∧hi=.int .i64 h∧0≤l∧l≤h∧h≤9999∧y*l≤r9∧r9<y*(h+1)∧Below wc.heap.size wc wx) (fun lo hi _=>(intOf hi - intOf lo).toNat)
              case atStart=>exact ⟨0,9999,rfl,rfl,by omega,by omega,by omega,by omega,by omega,Below.refl _ _⟩
              case round =>
                obtain ⟨l,h,rfl,rfl,l0,lh,h9,lo1,hi1,hbx⟩:=hrel
                replace DV:=DV.below hbx
                have LO:=hide lo1
                have HI:=hide hi1
                have HBW:=hide hbx
                clear lo1 hi1 hbx
                by_cases hlt:l<h
                · obtain ⟨m,hm⟩:∃ m,(l+h+1) / 2=m:=⟨_,rfl⟩
                  have hm1:l<m∧m≤h:=by omega
                  have bY:=DV.bY
                  have bR:=DV.bR
                  have vY:val Y=y:=by rw [DV.hY.1.val];omega
                  have hg9:0≤r9:=by omega
                  go_upto_region 15 with fail
                  rw [hm]
                  go_cut [66] (fun v wx=>v=.bool (decide (y*m≤r9))∧Below wr.heap.size wr wx)
                  case first =>
                    obtain ⟨bY1,bY2,bY3,bY4⟩:=bY.facts
                    obtain ⟨bR1,bR2,bR3,bR4⟩:=bR.facts
                    have K:=hide (fun w g1 g2 a1 a2 c1 c2 xs ys x y hx hy=>size_any w g1 g2 a1 a2 c1 c2 xs ys x y hx hy)
                    go_region_held3 (fun w'=>w'.cell? ⟨gy,0,none⟩ = some (.bool false)∧w'.cell? ⟨gy,1,none⟩ = some (.slice pY Y.length qY)∧w'.cell? ⟨gr,0,none⟩ = some (.bool false)∧w'.cell? ⟨gr,1,none⟩ = some (.slice pR R.length qR)) (go_keep) (first
                      | (go_at_call 90;have _hq:=hb2';refine (size_any _ _ _ p1 _ q1 _ r1 R _ _ (G1.below (by repeat (first | exact Below.refl _ _ | refine Below.drew ?_))) (DV.hR.1.below (by repeat (first | exact Below.refl _ _ | refine Below.drew ?_)))).mono ?_;rintro e w3 ⟨rfl,hb3⟩;have hb3' : Below w2.heap.size w2 w3:=(show Below w2.heap.size w2 _ by repeat (first | exact Below.refl _ _ | refine Below.drew ?_)).trans hb3;replace DV:=DV.below hb3';replace bY:=bY.below hb3';clear bY1 bY2 bY3 bY4;obtain ⟨bY1,bY2,bY3,bY4⟩:=bY.facts;replace bR:=bR.below hb3';clear bR1 bR2 bR3 bR4;obtain ⟨bR1,bR2,bR3,bR4⟩:=bR.facts)
                      | (go_at_call 59;have _hq:=hb1';refine (made_g _ p1 q1 r1 _ (G1.below (by repeat (first | exact Below.refl _ _ | refine Below.drew ?_)))).mono ?_;rintro e w2 ⟨rfl,hb2⟩;have hb2' : Below w1.heap.size w1 w2:=(show Below w1.heap.size w1 _ by repeat (first | exact Below.refl _ _ | refine Below.drew ?_)).trans hb2;replace G1:=G1.below hb2';replace DV:=DV.below hb2';replace bY:=bY.below hb2';clear bY1 bY2 bY3 bY4;obtain ⟨bY1,bY2,bY3,bY4⟩:=bY.facts;replace bR:=bR.below hb2';clear bR1 bR2 bR3 bR4;obtain ⟨bR1,bR2,bR3,bR4⟩:=bR.facts)
                      | (go_at_call 73;refine (small_any _ _ _ _ Y (DV.hY.sl.below (by repeat (first | exact Below.refl _ _ | refine Below.drew ?_))) m 0 (by omega) (by omega) (by omega)).mono ?_;rintro e w1 ⟨v1,rfl,I1,hb1⟩;have hb1' : Below wr.heap.size wr w1:=(show Below wr.heap.size wr _ by repeat (first | exact Below.refl _ _ | refine Below.drew ?_)).trans hb1;obtain ⟨p1,q1,r1,rfl,G1,far1⟩:=I1.far;clear I1 far1;replace DV:=DV.below hb1';replace bY:=bY.below hb1';clear bY1 bY2 bY3 bY4;obtain ⟨bY1,bY2,bY3,bY4⟩:=bY.facts;replace bR:=bR.below hb1';clear bR1 bR2 bR3 bR4;obtain ⟨bR1,bR2,bR3,bR4⟩:=bR.facts))
                    all_goals
                      clear DV bY1 bY2 bY3 bY4 bR1 bR2 bR3 bR4
                      have HBX:=hide ((hb1'.trans (hb2'.mono hb1'.size)).trans (hb3'.mono (Nat.le_trans hb1'.size hb2'.size)))
                      have e9:(cmpI (y*m) (r9.natAbs:Int)≤0)↔(y*m≤r9):=by
                        rw [show ((r9.natAbs:Nat):Int)=r9 by omega]
                        exact cmpI_le0
                      have e10:decide (cmpI (y*m) (r9.natAbs:Int)≤0)=decide (y*m≤r9):=decide_eq_decide.2 e9
                      have E9:=hide e10
                      clear e9 e10
                      go_wp2
                      go_meet
                      case rel=>exact ⟨by rw [←E9.out],HBX.out⟩
                  case rest =>
                    obtain ⟨rfl,hbx⟩:=hcut
                    by_cases hle:y*m≤r9
                    · have hd:decide (y*m≤r9)=true:=decide_eq_true hle
                      rw [hd]
                      have HLE:=hide hle
                      clear hle hd
                      go_wp2
                      go_roundw
                      case rel=>exact ⟨m,h,by first | rfl | rw [hm],rfl,by omega,by omega,by omega,HLE.out,HI.out,HBW.out.trans (hbx.mono HBW.out.size)⟩
                      case measure=>simp [intOf];omega
                    · have hd:decide (y*m≤r9)=false:=decide_eq_false hle
                      rw [hd]
                      have HLE:=hide hle
                      clear hle hd
                      go_wp2
                      go_roundw
                      case rel=>exact ⟨l,m - 1,rfl,by first | rfl | rw [hm],by omega,by omega,by omega,LO.out,by have:=HLE.out;rw [show m - 1+1=m by omega];omega,HBW.out.trans (hbx.mono HBW.out.size)⟩
                      case measure=>simp [intOf];omega
                · obtain rfl:h=l:=by omega
                  have vY:val Y=y:=by rw [DV.hY.1.val];omega
                  have hg9:0≤r9:=by omega
                  obtain ⟨cd,fd⟩:=DV.cell k (by omega)
                  have DV2:=DV.setD k h (by omega) HFR.out
                  have HDV:=hide DV2
                  have hp9:r9<pw (B.length+1):=by rw [pw];have:=HYP.out;omega
                  have hp8:val Y*h+0<pw (B.length+1):=by rw [vY];have:=LO.out;omega
                  have HP8:=hide hp8
                  have vv:∃ dv,Dl.getD k 0=dv:=⟨_,rfl⟩
                  obtain ⟨dv,hdv⟩:=vv
                  rw [hdv] at cd
                  clear hp9 hp8 DV DV2 hdv
                  go_upto_region 19 with fail
                  generalize wr.setCell ⟨g,k,none⟩ (.int .i64 h)=ws at HDV ⊢
                  have DV:=HDV.out
                  have bY:=DV.bY
                  have bR:=DV.bR
                  clear HDV cd fd
                  have e1:y*(h+1)=y*h+y:=by rw [Int.mul_add];omega
                  have E1:=hide e1
                  clear e1
                  obtain ⟨bY1,bY2,bY3,bY4⟩:=bY.facts
                  obtain ⟨bR1,bR2,bR3,bR4⟩:=bR.facts
                  go_region_with (first
                      | (go_at_call 93;have _hq:=hb2';refine (nsub_g _ _ _ _ R _ (DV.hR.below (by repeat (first | exact Below.refl _ _ | refine Below.drew ?_))) _ p1 q1 r1 _ (Wh.natu (G1.below (by repeat (first | exact Below.refl _ _ | refine Below.drew ?_)))) (by omega) (by have:=canon_len G1.canon (m:=B.length+1) (by rw [G1.val];exact HP8.out);omega)).mono ?_;rintro e w3 ⟨n3,p3,q3,r3,rfl,G3,l3,hb3⟩;have hb3' : Below w2.heap.size w2 w3:=(show Below w2.heap.size w2 _ by repeat (first | exact Below.refl _ _ | refine Below.drew ?_)).trans hb3;replace DV:=DV.below hb3';replace bY:=bY.below hb3';clear bY1 bY2 bY3 bY4;obtain ⟨bY1,bY2,bY3,bY4⟩:=bY.facts;replace bR:=bR.below hb3';clear bR1 bR2 bR3 bR4;obtain ⟨bR1,bR2,bR3,bR4⟩:=bR.facts)
                      | (go_at_call 59;have _hq:=hb1';refine (made_g _ p1 q1 r1 _ (G1.below (by repeat (first | exact Below.refl _ _ | refine Below.drew ?_)))).mono ?_;rintro e w2 ⟨rfl,hb2⟩;have hb2' : Below w1.heap.size w1 w2:=(show Below w1.heap.size w1 _ by repeat (first | exact Below.refl _ _ | refine Below.drew ?_)).trans hb2;replace G1:=G1.below hb2';replace DV:=DV.below hb2';replace bY:=bY.below hb2';clear bY1 bY2 bY3 bY4;obtain ⟨bY1,bY2,bY3,bY4⟩:=bY.facts;replace bR:=bR.below hb2';clear bR1 bR2 bR3 bR4;obtain ⟨bR1,bR2,bR3,bR4⟩:=bR.facts)
                      | (go_at_call 73;refine (small_any _ _ _ _ Y (DV.hY.sl.below (by repeat (first | exact Below.refl _ _ | refine Below.drew ?_))) h 0 (by omega) (by omega) (by omega)).mono ?_;rintro e w1 ⟨v1,rfl,I1,hb1⟩;have hb1' : Below ws.heap.size ws w1:=(show Below ws.heap.size ws _ by repeat (first | exact Below.refl _ _ | refine Below.drew ?_)).trans hb1;obtain ⟨p1,q1,r1,rfl,G1,far1⟩:=I1.far;clear I1 far1;replace DV:=DV.below hb1';replace bY:=bY.below hb1';clear bY1 bY2 bY3 bY4;obtain ⟨bY1,bY2,bY3,bY4⟩:=bY.facts;replace bR:=bR.below hb1';clear bR1 bR2 bR3 bR4;obtain ⟨bR1,bR2,bR3,bR4⟩:=bR.facts))
                  all_goals
                    rw [vY] at G3
                    have FIN:=hide (DV.setR G3)
                    clear bY1 bY2 bY3 bY4 DV
                    go_wp2
                    go_roundw
                    case rel=>exact ⟨k,Dl.set k h,n3,p3,q3,r3,_,by omega,by go_num,FIN.out,by rw [←hr9];exact div_round (by omega) (by have:=FIN.out.dl.1;rw [List.length_set] at this;omega) HAK.out HV.out,by have:=LO.out;omega,by have:=HI.out;have:=E1.out;omega⟩
                    case measure=>simp [intOf]
end Dm
end Go.Proofs.YtpofkigboedliaaGreat

namespace Go.Proofs.YtpofkigboedliaaGreat
namespace Dm
open Go.RowKit
open Lm (hide lt_of_cell lt_of_heap)
theorem i_step {ds:List Int} {k:Nat} {u x:Int} (hk:ds.length=k) (h:val ds+pw k*u=x):val (ds ++ [u % 10000])+pw (k+1)*(u / 10000)=x:=by
  rw [val_snoc,hk,pw]
  have e:u=u % 10000+10000*(u / 10000):=by omega
  have e2:pw k*(u % 10000)+10000*pw k*(u / 10000)=pw k*u:=by
    rw [Int.mul_comm 10000 (pw k),Int.mul_assoc,←Int.mul_add,←e]
  omega
theorem i_room {ds:List Int} {k:Nat} {u:Int} (_hk:ds.length=k) (hl:Limb ds) (hu:0<u) (h:val ds+pw k*u<18446744073709551616):k≤4:=by
  apply Classical.byContradiction
  intro hn
  have h1:=pw_mono (m:=5) (n:=k) (by omega)
  rw [show pw 5=100000000000000000000 from by decide] at h1
  have h2:pw k*1≤pw k*u:=Int.mul_le_mul_of_nonneg_left (by omega) (by omega)
  have h3:=(val_bounds hl).1
  omega
set_option maxRecDepth 20000 in
set_option maxHeartbeats 1000000 in
theorem nint_neg (w:World) (v:Int) (h1 : -9223372036854775808≤v) (h2:v≤9223372036854775807) (h0:v<0) :
    Calls Tryz.prog 74 #[.int .i64 v] w fun e w'=>∃ ng' ao cap rs,e=.returned (.agg #[.bool ng',.slice ao rs.length cap])∧Wh w' ng' ao cap rs v∧rs.length≤5∧Below w.heap.size w w' := by
  obtain ⟨i0,hi,hz0,hz1,hz2⟩:=info_parts info64
  obtain ⟨w0,e0,br,hb0,hs0⟩:=boxed0 w false (.slice none 0 0)
  have E0:=hide e0
  clear e0 hs0
  have hw:IntKind.u64.wrap (-IntKind.u64.wrap v) = -v:=by rw [IntKind.wrap_u64,IntKind.wrap_u64];omega
  go_enter Tryz.func74,Tryz.ntmps74
  go_wp2
  rw [E0.out]
  clear hw
  go_loopw [3,4] (fun mv uv wr=>∃ (k:Nat) (u:Int) (ds:List Int),uv=.int .u64 u∧0≤u∧u<18446744073709551616∧ds.length=k∧k≤5∧Limb ds∧val ds+pw k*u = -v∧wr.ownsRow w0.heap.size 3 1 mv k (ds.map (Value.int .i64))∧Below w0.heap.size w0 wr) (fun _ uv _=>(intOf uv).toNat)
  case atStart=>exact ⟨0,-v,[],rfl,by omega,by omega,rfl,by omega,limb_nil,by simp [val,pw],World.ownsRow_nil _ _ _ _,Below.refl _ _⟩
  case round =>
    obtain ⟨k,u,ds,rfl,hu0,hu1,hdl,hk5,hds,hv,hown,hbel⟩:=hrel
    have HD:=hide hds
    have HDL:=hide hdl
    have HV:=hide hv
    have hsz:=hbel.size
    clear hds hdl hv
    by_cases hu:0<u
    · have hroom:=i_room HDL.out HD.out hu (by rw [HV.out];omega)
      have HV' := hide (i_step HDL.out HV.out)
      go_wp2_with (at_builtin;refine wpList_append_own _ rfl (.tmp 13) (.tmp 17) 52 rfl w0.heap.size 3 i0 (.int .i64 0) 1 8 Tryz.underlying52 hi hz0 hz1 hz2 rfl (by decide) _ _ _ rfl (hown.alloc _) ⟨wr.heap.size,0,none⟩ 1 1 [.int .i64 (u % 10000)] rfl rfl (cell_one_new _ _ _) ?c2 ?c3 ?c4 ?c5 ?_)
      case c2=>first | rfl | (intro x hx;simp at hx;subst hx;rfl)
      case c3=>unfold maxLen;omega
      case c4=>omega
      case c5=>first | omega | (simp;omega)
      intro v4 w4 hown4 hgrow4 _
      have R:=step_own hown4 hgrow4 hbel (hown.lt)
      clear hown4 hgrow4 hown
      go_wp2
      go_roundw
      case rel=>exact ⟨k+1,u / 10000,ds ++ [u % 10000],rfl,by omega,by omega,by have:=HDL.out;simp;omega,by omega,limb_append.2 ⟨HD.out,limb_cons.2 ⟨by omega,limb_nil⟩⟩,HV'.out,R.1,R.2⟩
      case measure=>simp [intOf];omega
    · have hu' : u=0:=by omega
      subst hu'
      have hval:Hid (val ds = -v):=by have:=HV.out;rw [Int.mul_zero,Int.add_zero] at this;exact this
      obtain ⟨ao1,cap1,hv1,s1,_,_⟩:=(ow_of_row hown HD.out).open
      subst hv1
      replace br:=br.below hbel
      have HB:=hb0.trans (hbel.mono hb0.size)
      have hd:decide (v<0)=true:=by simp;omega
      have hsg:Hid (sg true (-v)=v):=by simp [Hid,sg]
      clear hown hbel
      go_wp2_with fail
      try rw [hd]
      refine (made_w _ _ _ _ ds _ s1 hval.out).mono ?_
      rintro e w2 ⟨ng2,r2,rfl,G2,l2,hb2⟩
      rw [hsg.out] at G2
      replace br:=br.below hb2
      replace HB:=HB.trans (hb2.mono HB.size)
      have hdl:=HDL.out
      clear hb2 hval s1
      obtain ⟨ka,kb,kc,kd⟩:=br.facts
      have X:=hide (br.set ng2 (.slice ao1 r2.length cap1)).facts
      have Y:=hide (br.wh ng2 (.slice ao1 r2.length cap1) G2)
      have Z:=hide (below_set2 HB (Nat.le_refl _) (.bool ng2) (.slice ao1 r2.length cap1))
      go_wp2
      refine bodyPost_ret (v:=.agg #[.bool ng2,.slice ao1 r2.length cap1]) ?_ rfl ⟨ng2,ao1,cap1,r2,rfl,Y.out,by omega,Z.out⟩
      simp [results,Tryz.results74,go_sem,X.out.1,X.out.2.1]
set_option maxRecDepth 20000 in
set_option maxHeartbeats 1000000 in
theorem nint_pos (w:World) (v:Int) (h1 : -9223372036854775808≤v) (h2:v≤9223372036854775807) (h0:¬ v<0) :
    Calls Tryz.prog 74 #[.int .i64 v] w fun e w'=>∃ ng' ao cap rs,e=.returned (.agg #[.bool ng',.slice ao rs.length cap])∧Wh w' ng' ao cap rs v∧rs.length≤5∧Below w.heap.size w w' := by
  obtain ⟨i0,hi,hz0,hz1,hz2⟩:=info_parts info64
  obtain ⟨w0,e0,br,hb0,hs0⟩:=boxed0 w false (.slice none 0 0)
  have E0:=hide e0
  clear e0 hs0
  have hw:True:=trivial
  go_enter Tryz.func74,Tryz.ntmps74
  go_wp2
  rw [E0.out]
  clear hw
  go_loopw [3,4] (fun mv uv wr=>∃ (k:Nat) (u:Int) (ds:List Int),uv=.int .u64 u∧0≤u∧u<18446744073709551616∧ds.length=k∧k≤5∧Limb ds∧val ds+pw k*u=v∧wr.ownsRow w0.heap.size 3 1 mv k (ds.map (Value.int .i64))∧Below w0.heap.size w0 wr) (fun _ uv _=>(intOf uv).toNat)
  case atStart=>exact ⟨0,v,[],rfl,by omega,by omega,rfl,by omega,limb_nil,by simp [val,pw],World.ownsRow_nil _ _ _ _,Below.refl _ _⟩
  case round =>
    obtain ⟨k,u,ds,rfl,hu0,hu1,hdl,hk5,hds,hv,hown,hbel⟩:=hrel
    have HD:=hide hds
    have HDL:=hide hdl
    have HV:=hide hv
    have hsz:=hbel.size
    clear hds hdl hv
    by_cases hu:0<u
    · have hroom:=i_room HDL.out HD.out hu (by rw [HV.out];omega)
      have HV' := hide (i_step HDL.out HV.out)
      go_wp2_with (at_builtin;refine wpList_append_own _ rfl (.tmp 13) (.tmp 17) 52 rfl w0.heap.size 3 i0 (.int .i64 0) 1 8 Tryz.underlying52 hi hz0 hz1 hz2 rfl (by decide) _ _ _ rfl (hown.alloc _) ⟨wr.heap.size,0,none⟩ 1 1 [.int .i64 (u % 10000)] rfl rfl (cell_one_new _ _ _) ?c2 ?c3 ?c4 ?c5 ?_)
      case c2=>first | rfl | (intro x hx;simp at hx;subst hx;rfl)
      case c3=>unfold maxLen;omega
      case c4=>omega
      case c5=>first | omega | (simp;omega)
      intro v4 w4 hown4 hgrow4 _
      have R:=step_own hown4 hgrow4 hbel (hown.lt)
      clear hown4 hgrow4 hown
      go_wp2
      go_roundw
      case rel=>exact ⟨k+1,u / 10000,ds ++ [u % 10000],rfl,by omega,by omega,by have:=HDL.out;simp;omega,by omega,limb_append.2 ⟨HD.out,limb_cons.2 ⟨by omega,limb_nil⟩⟩,HV'.out,R.1,R.2⟩
      case measure=>simp [intOf];omega
    · have hu' : u=0:=by omega
      subst hu'
      have hval:Hid (val ds=v):=by have:=HV.out;rw [Int.mul_zero,Int.add_zero] at this;exact this
      obtain ⟨ao1,cap1,hv1,s1,_,_⟩:=(ow_of_row hown HD.out).open
      subst hv1
      replace br:=br.below hbel
      have HB:=hb0.trans (hbel.mono hb0.size)
      have hd:decide (v<0)=false:=by simp;omega
      have hsg:Hid (sg false (v)=v):=by simp [Hid,sg]
      clear hown hbel
      go_wp2_with fail
      try rw [hd]
      refine (made_w _ _ _ _ ds _ s1 hval.out).mono ?_
      rintro e w2 ⟨ng2,r2,rfl,G2,l2,hb2⟩
      rw [hsg.out] at G2
      replace br:=br.below hb2
      replace HB:=HB.trans (hb2.mono HB.size)
      have hdl:=HDL.out
      clear hb2 hval s1
      obtain ⟨ka,kb,kc,kd⟩:=br.facts
      have X:=hide (br.set ng2 (.slice ao1 r2.length cap1)).facts
      have Y:=hide (br.wh ng2 (.slice ao1 r2.length cap1) G2)
      have Z:=hide (below_set2 HB (Nat.le_refl _) (.bool ng2) (.slice ao1 r2.length cap1))
      go_wp2
      refine bodyPost_ret (v:=.agg #[.bool ng2,.slice ao1 r2.length cap1]) ?_ rfl ⟨ng2,ao1,cap1,r2,rfl,Y.out,by omega,Z.out⟩
      simp [results,Tryz.results74,go_sem,X.out.1,X.out.2.1]
theorem nint_any (w:World) (v:Int) (h1 : -9223372036854775808≤v) (h2:v≤9223372036854775807) :
    Calls Tryz.prog 74 #[.int .i64 v] w fun e w'=>∃ ng' ao cap rs,e=.returned (.agg #[.bool ng',.slice ao rs.length cap])∧Wh w' ng' ao cap rs v∧rs.length≤5∧Below w.heap.size w w' := by
  by_cases h0:v<0
  · exact nint_neg w v h1 h2 h0
  · exact nint_pos w v h1 h2 h0
end Dm
end Go.Proofs.YtpofkigboedliaaGreat

namespace Go.Proofs.YtpofkigboedliaaGreat
namespace Dm
open Go.RowKit
open Lm (hide lt_of_cell lt_of_heap cmpI cmpI_lt cmpI_gt)
theorem gcd_step (u v:Int):Int.gcd v (u % v)=Int.gcd v u:=by
  have h1:=Lm.gcd_step u v (u / v)
  have h2:=Int.mul_ediv_add_emod u v
  rw [Int.mul_comm] at h2
  rw [show u - u / v*v=u % v by omega] at h1
  rw [h1,Int.gcd_comm]
set_option maxRecDepth 20000 in
set_option maxHeartbeats 2000000 in
theorem ngcd_g (w:World) (n1:Bool) (a1:Option Addr) (c1:Nat) (A:List Int) (x:Int) (hx:Got w a1 c1 A x) (n2:Bool) (a2:Option Addr) (c2:Nat) (B:List Int) (y:Int) (hy:Got w a2 c2 B y) (m1:A.length≤300000) (m2:B.length≤300000) :
    Calls Tryz.prog 57 #[.agg #[.bool n1,.slice a1 A.length c1],.agg #[.bool n2,.slice a2 B.length c2]] w fun e w'=>∃ ng ao cap rs,e=.returned (.agg #[.bool ng,.slice ao rs.length cap])∧Wh w' ng ao cap rs (Int.gcd x y:Int)∧rs.length≤A.length+B.length∧Below w.heap.size w w' := by
  obtain ⟨w0,e0,bx,by',br,hb0,hs0⟩:=boxed3 w n1 (.slice a1 A.length c1) n2 (.slice a2 B.length c2)
  have E0:=hide e0
  have hx0:=hx.below hb0
  have hy0:=hy.below hb0
  have hxn:0≤x:=by rw [←hx.val];exact (val_bounds hx.canon.1).1
  have hyn:0≤y:=by rw [←hy.val];exact (val_bounds hy.canon.1).1
  clear e0
  go_enter Tryz.func57,Tryz.ntmps57
  go_upto_region 1 with fail
  rw [E0.out]
  obtain ⟨bx1,bx2,bx3,bx4⟩:=bx.facts
  go_wp2_with fail
  refine (abs_got _ _ _ _ A _ hx0 (by omega)).mono ?_
  rintro e w1 ⟨nX,pX,qX,X,rfl,GX,lX,hb1⟩
  obtain ⟨w2,e2,bX,hb2,hs2⟩:=boxed0 w1 nX (.slice pX X.length qX)
  have z1:=hb1.size
  have HB:=hb0.trans (hb1.mono hb0.size)
  replace HB:=HB.trans (hb2.mono HB.size)
  replace bx:=(bx.below hb1).below hb2
  replace by' := (by'.below hb1).below hb2
  replace br:=(br.below hb1).below hb2
  replace hy0:=(hy0.below hb1).below hb2
  replace GX:=GX.below hb2
  have E2:=hide e2
  clear e2 bx1 bx2 bx3 bx4 hb1 hb2 E0
  go_upto_region 2 with fail
  rw [E2.out]
  clear E2
  obtain ⟨by1,by2,by3,by4⟩:=by'.facts
  go_wp2_with fail
  refine (abs_got _ _ _ _ B _ hy0 (by omega)).mono ?_
  rintro e w3 ⟨nY,pY,qY,Y,rfl,GY,lY,hb3⟩
  obtain ⟨w4,e4,bY,hb4,hs4⟩:=boxed0 w3 nY (.slice pY Y.length qY)
  have z3:=hb3.size
  replace HB:=HB.trans (hb3.mono HB.size)
  replace HB:=HB.trans (hb4.mono HB.size)
  replace br:=(br.below hb3).below hb4
  replace bX:=(bX.below hb3).below hb4
  replace GX:=(GX.below hb3).below hb4
  replace GY:=GY.below hb4
  have E4:=hide e4
  clear e4 by1 by2 by3 by4 hb3 hb4 hy0 hx0 bx by'
  go_wp2_with fail
  rw [E4.out]
  clear E4
  have hsx:w.heap.size+3≤w1.heap.size:=by omega
  have hsy:w1.heap.size+1≤w3.heap.size:=by omega
  have hsz:w3.heap.size<w4.heap.size:=by omega
  generalize w1.heap.size=gx at *
  generalize w3.heap.size=gy at *
  have hsg:sg false x=x:=rfl
  have hsg2:sg false y=y:=rfl
  rw [hsg] at GX
  rw [hsg2] at GY
  clear hsg hsg2 z1 z3 hs2 hs4 hs0
  go_loopg [] y.toNat (fun k wr=>∃ (nX:Bool) (pX:Option Addr) (qX:Nat) (X:List Int) (u:Int) (nY:Bool) (pY:Option Addr) (qY:Nat) (Y:List Int) (v:Int),Box wr gx nX (.slice pX X.length qX)∧Box wr gy nY (.slice pY Y.length qY)∧Box wr (w.heap.size+1+1) false (.slice none 0 0)∧Wh wr nX pX qX X u∧Wh wr nY pY qY Y v∧0≤u∧0≤v∧Int.gcd u v=Int.gcd x y∧X.length≤A.length+B.length∧Y.length≤A.length+B.length∧X.length≤300000∧Y.length≤300000∧Below w.heap.size w wr∧k=v.toNat)
  case atStart=>exact ⟨nX,pX,qX,X,x,nY,pY,qY,Y,y,bX,bY,br,GX,GY,hxn,hyn,rfl,by omega,by omega,by omega,by omega,HB,rfl⟩
  case round =>
    clear bX bY br GX GY HB lX lY
    obtain ⟨nX,pX,qX,X,u,nY,pY,qY,Y,v,bX,bY,br,GX,GY,hu,hv,hg,lX,lY,lX2,lY2,HB,hk⟩:=hrel
    obtain rfl:nY=false:=by rw [GY.2];simp;omega
    have HG:=hide hg
    have HK:=hide hk
    have hz:=GY.zero
    have HZ:=hide hz
    obtain ⟨bY1,bY2,bY3,bY4⟩:=bY.facts
    clear hg hk hz
    go_wp2_with fail
    refine (sign_any _ _ _ _).mono ?_
    rintro e w5 ⟨rfl,e5⟩
    have hb5:Below wr.heap.size wr w5:=by rw [e5];exact (Below.refl _ _).alloc (Nat.le_refl _) _
    clear e5
    replace bX:=bX.below hb5
    replace bY:=bY.below hb5
    replace br:=br.below hb5
    replace GX:=GX.below hb5
    replace GY:=GY.below hb5
    replace HB:=HB.trans (hb5.mono HB.size)
    clear hb5 bY1 bY2 bY3 bY4
    by_cases h0:Y.length=0
    · have v0:v=0:=HZ.out.2 (List.eq_nil_of_length_eq_zero h0)
      have hs:sgn Y.length=0:=by simp [sgn,h0]
      rw [hs]
      have HG2:Hid ((Int.gcd x y:Int)=u):=by
        have:=HG.out
        rw [v0] at this
        show ((Int.gcd x y:Nat):Int)=u
        rw [←this,Int.gcd_zero_right]
        omega
      clear hs h0 v0
      obtain ⟨bX1,bX2,bX3,bX4⟩:=bX.facts
      obtain ⟨br1,br2,br3,br4⟩:=br.facts
      have F:=hide (br.set nX (.slice pX X.length qX)).facts
      have Y1:=hide (br.wh nX (.slice pX X.length qX) GX)
      have Z:=hide (below_set2 HB (show w.heap.size≤w.heap.size+1+1 by omega) (.bool nX) (.slice pX X.length qX))
      go_wp2
      refine bodyPost_ret (v:=.agg #[.bool nX,.slice pX X.length qX]) ?_ rfl ⟨nX,pX,qX,X,rfl,by rw [HG2.out];exact Y1.out,by omega,Z.out⟩
      simp [results,Tryz.results57,go_sem,F.out.1,F.out.2.1]
    · have hs:sgn Y.length=1:=by simp [sgn,h0]
      rw [hs]
      clear hs
      have vp:0<v:=by
        apply Classical.byContradiction
        intro hn
        exact h0 (by rw [HZ.out.1 (by omega)];rfl)
      obtain ⟨bX1,bX2,bX3,bX4⟩:=bX.facts
      obtain ⟨bY1,bY2,bY3,bY4⟩:=bY.facts
      have GX' := GX.1
      have GY' := GY.1
      rw [show ((u.natAbs:Nat):Int)=u by omega] at GX'
      rw [show ((v.natAbs:Nat):Int)=v by omega] at GY'
      go_wp2_with fail
      refine (divided_g _ _ _ _ X _ GX' _ _ _ Y _ GY' (by omega) (by omega) (by omega)).mono ?_
      rintro e w6 ⟨nq,pq,qq,Q,nr,pr,qr,R,rfl,GQ,GR,lQ,lR,hb6⟩
      obtain ⟨w7,e7,bq,bz,hb7,hs7⟩:=boxed2 w6 nq (.slice pq Q.length qq) nr (.slice pr R.length qr)
      have z6:=hb6.size
      have lgy:=lt_of_heap bY
      replace bX:=(bX.below hb6).below hb7
      replace bY:=(bY.below hb6).below hb7
      replace br:=(br.below hb6).below hb7
      replace GY:=(GY.below hb6).below hb7
      replace GR:=GR.below hb7
      replace HB:=(HB.trans (hb6.mono HB.size)).trans (hb7.mono (Nat.le_trans HB.size z6))
      have E7:=hide e7
      clear e7 hb6 hb7 bX1 bX2 bX3 bX4 bY1 bY2 bY3 bY4 GX GX' GY' GQ bq
      go_upto_region 5 with fail
      rw [E7.out]
      clear E7
      generalize w6.heap.size=g6 at *
      have bX' := bX.set false (.slice pY Y.length qY)
      have bY' := box_other bY (show gy≠gx by omega) (.bool false) (.slice pY Y.length qY)
      have br' := box_other br (show w.heap.size+1+1≠gx by omega) (.bool false) (.slice pY Y.length qY)
      have bz' := box_other bz (show g6+1≠gx by omega) (.bool false) (.slice pY Y.length qY)
      have GY' := bX.wh false (.slice pY Y.length qY) GY
      have GR' := bX.wh false (.slice pY Y.length qY) GR
      have HB' := below_set2 HB (show w.heap.size≤gx by omega) (.bool false) (.slice pY Y.length qY)
      obtain ⟨bX1,bX2,bX3,bX4⟩:=bX.facts
      obtain ⟨bY1,bY2,bY3,bY4⟩:=bY.facts
      have FF:=hide (And.intro bX' (And.intro bY' (And.intro br' (And.intro bz' (And.intro GY' (And.intro GR' HB'))))))
      clear bX' bY' br' bz' GY' GR' HB'
      go_upto_region 6 with fail
      clear bX bY br bz GY GR HB bX1 bX2 bX3 bX4 bY1 bY2 bY3 bY4
      generalize (w7.setCell ⟨gx,0,none⟩ (.bool false)).setCell ⟨gx,1,none⟩ (.slice pY Y.length qY)=w8 at FF ⊢
      obtain ⟨bX,bY,br,bz,GY,GR,HB⟩:=FF.out
      clear FF
      obtain ⟨bY1,bY2,bY3,bY4⟩:=bY.facts
      obtain ⟨bz1,bz2,bz3,bz4⟩:=bz.facts
      have bX' := box_other bX (show gx≠gy by omega) (.bool nr) (.slice pr R.length qr)
      have bY' := bY.set nr (.slice pr R.length qr)
      have br' := box_other br (show w.heap.size+1+1≠gy by omega) (.bool nr) (.slice pr R.length qr)
      have GY' := bY.wh nr (.slice pr R.length qr) GY
      have GR' := bY.wh nr (.slice pr R.length qr) GR
      have HB' := below_set2 HB (show w.heap.size≤gy by omega) (.bool nr) (.slice pr R.length qr)
      have FF:=hide (And.intro bX' (And.intro bY' (And.intro br' (And.intro GY' (And.intro GR' HB')))))
      clear bX' bY' br' GY' GR' HB' bX br
      go_wp2
      go_roundg (u % v).toNat
      case measure =>
        have:=Int.emod_lt_of_pos u vp
        have:=Int.emod_nonneg u (show v≠0 by omega)
        have:=HK.out
        omega
      case rel=>exact ⟨false,pY,qY,Y,v,nr,pr,qr,R,u % v,FF.out.1,FF.out.2.1,FF.out.2.2.1,FF.out.2.2.2.1,FF.out.2.2.2.2.1,hv,Int.emod_nonneg u (show v≠0 by omega),by rw [←HG.out,Int.gcd_comm u v];exact gcd_step u v,lY,by omega,lY2,by omega,FF.out.2.2.2.2.2,rfl⟩
end Dm
end Go.Proofs.YtpofkigboedliaaGreat

namespace Go.Proofs.YtpofkigboedliaaGreat
namespace Dm
open Go.RowKit
open Lm (hide lt_of_cell lt_of_heap)
set_option maxRecDepth 20000 in
set_option maxHeartbeats 400000 in
theorem nsign_zero (w:World) (ng:Bool) (ao:Option Addr) (cap:Nat) :
    Calls Tryz.prog 27 #[.agg #[.bool ng,.slice ao 0 cap]] w fun e w'=>e=.returned (.int .i64 0)∧Below w.heap.size w w' := by
  have hb:Below w.heap.size w (w.alloc (.cells #[.bool ng,.slice ao 0 cap] 54)):=(Below.refl _ _).alloc (Nat.le_refl _) _
  go_enter Tryz.func27,Tryz.ntmps27
  go_wp2
  go_ret
  exact ⟨rfl,hb⟩
set_option maxRecDepth 20000 in
set_option maxHeartbeats 400000 in
theorem nsign_neg (w:World) (ao:Option Addr) (n cap:Nat) (h0:¬ n=0) :
    Calls Tryz.prog 27 #[.agg #[.bool true,.slice ao n cap]] w fun e w'=>e=.returned (.int .i64 (-1))∧Below w.heap.size w w' := by
  have hb:Below w.heap.size w (w.alloc (.cells #[.bool true,.slice ao n cap] 54)):=(Below.refl _ _).alloc (Nat.le_refl _) _
  have hl2:(((n:Nat):Int) == 0)=false:=by simp;omega
  clear h0
  go_enter Tryz.func27,Tryz.ntmps27
  go_wp2
  go_ret
  exact ⟨rfl,hb⟩
set_option maxRecDepth 20000 in
set_option maxHeartbeats 400000 in
theorem nsign_pos (w:World) (ao:Option Addr) (n cap:Nat) (h0:¬ n=0) :
    Calls Tryz.prog 27 #[.agg #[.bool false,.slice ao n cap]] w fun e w'=>e=.returned (.int .i64 1)∧Below w.heap.size w w' := by
  have hb:Below w.heap.size w (w.alloc (.cells #[.bool false,.slice ao n cap] 54)):=(Below.refl _ _).alloc (Nat.le_refl _) _
  have hl2:(((n:Nat):Int) == 0)=false:=by simp;omega
  clear h0
  go_enter Tryz.func27,Tryz.ntmps27
  go_wp2
  go_ret
  exact ⟨rfl,hb⟩
theorem nsign_z (w:World) (ng:Bool) (ao:Option Addr) (cap:Nat) (rs:List Int) (z:Int) (h:Wh w ng ao cap rs z) :
    Calls Tryz.prog 27 #[.agg #[.bool ng,.slice ao rs.length cap]] w fun e w'=>e=.returned (.int .i64 (Int.sign z))∧Below w.heap.size w w' := by
  by_cases h0:rs.length=0
  · have hz:z=0:=h.zero.2 (List.eq_nil_of_length_eq_zero h0)
    rw [hz,h0]
    exact nsign_zero w ng ao cap
  · have hz:z≠0:=fun e=>h0 (by rw [h.zero.1 e];rfl)
    cases ng with
    | true =>
      have hn:z<0:=by have:=h.2;simpa using this.symm
      rw [Int.sign_eq_neg_one_of_neg hn]
      exact nsign_neg w ao _ cap h0
    | false =>
      have hn:0<z:=by have:=h.2;simp at this;omega
      rw [Int.sign_eq_one_of_pos hn]
      exact nsign_pos w ao _ cap h0
theorem gcd_abs (x y:Int):Int.gcd (x.natAbs:Int) (y.natAbs:Int)=Int.gcd x y:=by simp [Int.gcd]
end Dm
end Go.Proofs.YtpofkigboedliaaGreat

namespace Go.Proofs.YtpofkigboedliaaGreat
namespace Lm
open Go.RowKit
open Dm (WFr set2_kept)
theorem Kp.from {w w1 w' : World} {p:Nat} {bs:List Nat} (hb:Below w.heap.size w w1) (k:Kp w1 w' p bs):Kp w w' p bs :=
  ⟨k.os.trans hb.os,k.tape.trans hb.tape,k.output.trans hb.output,Nat.le_trans hb.size k.size,fun j hj hp hn=>(k.other j (Nat.lt_of_lt_of_le hj hb.size) hp hn).trans (hb.block j hj)⟩
theorem li_nil (B T:Nat) (w:World):Li B T w none 0 []:=⟨⟨none,0,rfl,Nat.le_refl _,by simp [maxLen],limb_nil,.inl rfl⟩,fun h=>by omega⟩
theorem wh_nil (w:World):Wh w false none 0 [] 0:=⟨⟨⟨none,0,rfl,Nat.le_refl _,by simp [maxLen],limb_nil,.inl rfl⟩,canon_nil,rfl⟩,rfl⟩
theorem Li.wfr {B T:Nat} {w:World} {ng:Bool} {ao:Option Addr} {cap:Nat} {rs:List Int} {z:Int} (h:Li B T w ao cap rs) (g:Wh w ng ao cap rs z):WFr B T w ng ao cap rs z:=⟨h.fr g.1,g.2⟩
end Lm
end Go.Proofs.YtpofkigboedliaaGreat

namespace Go.Proofs.YtpofkigboedliaaGreat
namespace Lm
open Go Go.RowKit
open Dm (WFr)
def SzGe (K:Nat) (w:World):Prop:=K≤w.heap.size
theorem SzGe.le {K:Nat} {w:World} (h:SzGe K w):K≤w.heap.size:=h
theorem SzGe.rl {K:Nat} {w w' : World} (h:SzGe K w) (hr:Rl w w'):SzGe K w' := Nat.le_trans h hr.size
theorem SzGe.ru {K:Nat} {w w' : World} (h:SzGe K w) (hr:Ru w w'):SzGe K w' := Nat.le_trans h hr.size
theorem SzGe.below {K:Nat} {w w' : World} (h:SzGe K w) (hb:Below w.heap.size w w'):SzGe K w' := Nat.le_trans h hb.size
theorem SzGe.touch {K L:Nat} {w w' : World} (h:SzGe K w) (hb:Touch w w' L):SzGe K w' := Nat.le_trans h hb.size
theorem SzGe.kp {K p:Nat} {bs:List Nat} {w w' : World} (h:SzGe K w) (hb:Kp w w' p bs):SzGe K w' := Nat.le_trans h hb.size
theorem BoxV.kp {τ:BoxTy} {w w' : World} {g p:Nat} {bs:List Nat} {v:Value} (h:BoxV τ w g v) (k:Kp w w' p bs) (hp:g≠p) (hb:g ∉ bs):BoxV τ w' g v:=by
  obtain ⟨cs,hc,h⟩:=h
  exact ⟨cs,hc,(k.other g (lt_of_heap h) hp hb).trans h⟩
theorem lends_ne {w:World} {L g M k:Nat} {xs ys:List Int} (h:LendS w L g xs) (h' : LendS w M k ys):L≠k∧M≠g:=by
  obtain ⟨h1,cur,h2,_⟩:=h
  obtain ⟨h3,cur',h4,_⟩:=h'
  constructor
  · intro e
    subst e
    rw [h1] at h4
    simp at h4
  · intro e
    subst e
    rw [h2] at h3
    simp at h3
section
variable {dst:Option Tmp} {ty:TypeId} {pos:String} {after:Array Edge} {guard:Option (Nat × Bool)} {a:Act} {w:World} {ats:Array TypeId} {i j:Nat} {z:Int}
theorem op_bBook:Does Tryz.prog { dst,op:=.build 34 #[],type:=ty,pos,after,guard } a.eval w fun v' w'=>Below w.heap.size w w'∧Eqs (.agg #[.slice none 0 0,.slice none 0 0]) v' w' := by
  have e:(execOp a.eval { dst,op:=.build 34 #[],type:=ty,pos,after,guard }).run Tryz.prog w=.ok (.value (.agg #[.slice none 0 0,.slice none 0 0])) w:=by
    simp only [execOp,List.map_toArray,List.map_nil]
    go_simp
  refine ⟨?_⟩
  unfold Turns
  rw [e]
  exact ⟨Below.refl _ _,rfl⟩
theorem op_bookn {Q:Nat} (h:a.eval (.tmp i)=.agg #[.slice none 0 0,.slice none 0 0]):Does Tryz.prog { dst,op:=.box 34 (.tmp i),type:=ty,pos,after,guard } a.eval w fun v w'=>v=.pointer (some ⟨w.heap.size,0,none⟩)∧Bs w' w.heap.size Q [] 0∧Below w.heap.size w w' := by
  have e:(execOp a.eval { dst,op:=.box 34 (.tmp i),type:=ty,pos,after,guard }).run Tryz.prog w=.ok (.value (.pointer (some ⟨w.heap.size,0,none⟩))) (w.alloc (.cells #[.slice none 0 0,.slice none 0 0] 34)):=by
    simp only [execOp,h]
    go_simp
  refine ⟨?_⟩
  unfold Turns
  rw [e]
  exact ⟨rfl,Bs.new (heap_alloc_new _ _),(Below.refl _ _).alloc (Nat.le_refl _) _⟩
theorem op_neqsame {u:Int} (h1:a.eval (.tmp i)=.int .i64 u) (h2:a.eval (.tmp j)=.int .i64 u) :
    Does Tryz.prog { dst,op:=.binOp .neq 3 (.tmp i) (.tmp j) 3,type:=ty,pos,after,guard } a.eval w fun v' w'=>Below w.heap.size w w'∧Eqs (.bool false) v' w' := by
  refine does_bin (v:=.bool false) ?_ ?_ ⟨Below.refl _ _,rfl⟩
  · rw [h1,h2];simp [go_sem]
  · rw [h1,h2];simp [go_sem]
theorem op_addk {u v:Int} (h1:a.eval (.tmp i)=.int .i64 u) (h : -9223372036854775808≤u+v∧u+v≤9223372036854775807) :
    Does Tryz.prog { dst,op:=.binOp .add 3 (.tmp i) (.const (.int .i64 v)) 3,type:=ty,pos,after,guard } a.eval w fun v' w'=>Below w.heap.size w w'∧Eqs (.int .i64 (u+v)) v' w' := by
  refine does_bin (v:=.int .i64 (u+v)) ?_ ?_ ⟨Below.refl _ _,rfl⟩
  · rw [h1];simp [go_sem,Act.eval]
  · rw [h1];simp [go_sem,Act.eval];exact wrap64 h.1 h.2
theorem has_bdone:Has Tryz.prog 21:=by unfold Has;kernel_rfl
theorem op_bdone {p Q n:Nat} {bs:List Nat} (hp:a.eval (.tmp i)=.pointer (some ⟨p,0,none⟩)) (hb:Bs w p Q bs n) (hn:n≤1000) :
    Does Tryz.prog { dst,op:=.call { callee:=.value (.func 21),args:=#[.tmp i],argTypes:=ats },type:=ty,pos,after,guard } a.eval w fun v w'=>Below w.heap.size w w'∧Eqs (.bool true) v w' := by
  refine does_call has_bdone _ (by simp only [List.map_toArray,List.map_cons,List.map_nil,hp]) ((done_b w p Q n bs hb hn).mono ?_)
  rintro e w' ⟨rfl,hb⟩
  exact ⟨_,rfl,hb,rfl⟩
end
end Lm
end Go.Proofs.YtpofkigboedliaaGreat

namespace Go.Proofs.YtpofkigboedliaaGreat
namespace Lm
open Go Go.RowKit
open Dm (WFr)
theorem Fr.rl {B T:Nat} {w w' : World} {ao:Option Addr} {cap:Nat} {rs:List Int} {x:Int} (h:Fr B T w ao cap rs x) (hr:Rl w w'):Fr B T w' ao cap rs x:=h.ru (Ru.of_rl hr)
def OwnLI (x:Int) (L:Nat):SaysI:=fun B T v w=>∃ ao cap rs,v=.slice ao rs.length cap∧Fr B T w ao cap rs x∧rs.length≤L
theorem OwnLI.mono6 (x:Int) (L:Nat):Mono6 (OwnLI x L):=fun _ _ _ _ _ hr ⟨ao,cap,rs,e,h,l⟩=>⟨ao,cap,rs,e,h.ru hr,l⟩
theorem OwnLI.out {x:Int} {L B T:Nat} {v:Value} {w:World} : OwnLI x L B T v w→OutL x L v w:=fun ⟨ao,cap,rs,e,h,l⟩=>⟨ao,cap,rs,e,h.got,l⟩
def FrL (K:Nat) (x:Int) (L:Nat):Says:=fun v w=>∃ ao cap rs B T,v=.slice ao rs.length cap∧Fr B T w ao cap rs x∧K≤B∧T≤w.heap.size∧rs.length≤L
theorem FrL.mono5 (K:Nat) (x:Int) (L:Nat):Mono5 (FrL K x L):=fun _ _ _ hr ⟨ao,cap,rs,B,T,e,h,h1,h2,l⟩=>⟨ao,cap,rs,B,T,e,h.ru hr,h1,Nat.le_trans h2 hr.size,l⟩
theorem FrL.mono4 (K:Nat) (x:Int) (L:Nat):Mono4 (FrL K x L):=fun v w w' hr h=>FrL.mono5 K x L v w w' (Ru.of_rl hr) h
def OwnRI (p q:Int) (L:Nat):SaysI:=fun B T v w=>∃ ng ao cap rs bo dap ss B1 T1 B2 T2,v=.agg #[.bool ng,.slice ao rs.length cap,.slice bo ss.length dap]∧WFr B1 T1 w ng ao cap rs p∧Fr B2 T2 w bo dap ss q∧(B≤B1∧T1≤T∧B≤B2∧T2≤T)∧(T1≤B2∨T2≤B1)∧rs.length≤L∧ss.length≤L
theorem OwnRI.mono6 (p q:Int) (L:Nat):Mono6 (OwnRI p q L):=fun _ _ _ _ _ hr ⟨ng,ao,cap,rs,bo,dap,ss,B1,T1,B2,T2,e,h1,h2,h3,h4,h5⟩=>⟨ng,ao,cap,rs,bo,dap,ss,B1,T1,B2,T2,e,h1.ru hr,h2.ru hr,h3,h4,h5⟩
theorem OwnRI.out {p q:Int} {L B T:Nat} {v:Value} {w:World} : OwnRI p q L B T v w→OutR p q L v w:=fun ⟨ng,ao,cap,rs,bo,dap,ss,_,_,_,_,e,h1,h2,_,_,l1,l2⟩=>⟨ng,ao,cap,rs,bo,dap,ss,e,h1.wh,h2.got,l1,l2⟩
def FrR (K:Nat) (p q:Int) (L:Nat):Says:=fun v w=>∃ T,T≤w.heap.size∧OwnRI p q L K T v w
theorem FrR.mono5 (K:Nat) (p q:Int) (L:Nat):Mono5 (FrR K p q L):=fun _ _ _ hr ⟨T,h,o⟩=>⟨T,Nat.le_trans h hr.size,OwnRI.mono6 p q L _ _ _ _ _ hr o⟩
theorem FrR.mono4 (K:Nat) (p q:Int) (L:Nat):Mono4 (FrR K p q L):=fun v w w' hr h=>FrR.mono5 K p q L v w w' (Ru.of_rl hr) h
theorem FrR.out {p q:Int} {L K:Nat} {v:Value} {w:World} : FrR K p q L v w→OutR p q L v w:=fun ⟨_,_,o⟩=>o.out
theorem FrR.to {p q p' q' : Int} {L L' K:Nat} {v:Value} {w:World} (h:FrR K p q L v w) (e1:p=p') (e2:q=q') (hl:L≤L'):FrR K p' q' L' v w:=by
  subst e1 e2
  obtain ⟨T,h0,ng,ao,cap,rs,bo,dap,ss,B1,T1,B2,T2,e,h1,h2,h3,h4,l1,l2⟩:=h
  exact ⟨T,h0,ng,ao,cap,rs,bo,dap,ss,B1,T1,B2,T2,e,h1,h2,h3,h4,Nat.le_trans l1 hl,Nat.le_trans l2 hl⟩
theorem FrR.cs {p q:Int} {L K:Nat} (v:Value) (w:World) (h:FrR K p q L v w):∃ cs,R3.Cs v cs:=OutR.cs v w h.out
theorem FrR.own {P:Program} {o:Oper} {a:Act} {w:World} {p q:Int} {L:Nat} (hd:Does P o a.eval w fun v w'=>Below w.heap.size w w'∧FrR w.heap.size p q L v w'):Does P o a.eval w fun v w'=>Below w.heap.size w w'∧OwnRI p q L w.heap.size w'.heap.size v w' :=
  hd.mono fun _ _ ⟨hb,_,h0,ng,ao,cap,rs,bo,dap,ss,B1,T1,B2,T2,e,h1,h2,h3,h4,h5⟩=>⟨hb,ng,ao,cap,rs,bo,dap,ss,B1,T1,B2,T2,e,h1,h2,⟨h3.1,Nat.le_trans h3.2.1 h0,h3.2.2.1,Nat.le_trans h3.2.2.2 h0⟩,h4,h5⟩
section
variable {dst:Option Tmp} {ty:TypeId} {pos:String} {after:Array Edge} {guard:Option (Nat × Bool)} {a:Act} {w:World} {ats:Array TypeId} {i j:Nat} {x y:Int} {L L1 L2 K:Nat}
theorem op_ltrimO (h:IsL x L (a.eval (.tmp i)) w) (hL:L≤1000000) :
    Does Tryz.prog { dst,op:=.call { callee:=.value (.func 62),args:=#[.tmp i],argTypes:=ats },type:=ty,pos,after,guard } a.eval w fun v w'=>Below w.heap.size w w'∧OwnLI x L w.heap.size w'.heap.size v w' := by
  obtain ⟨ao,n,cap,xs,e,S,rfl,l⟩:=h
  refine does_call has_ltrim _ (by simp only [List.map_toArray,List.map_cons,List.map_nil,e]) ((trim_o w _ _ _ _ S (by omega)).mono ?_)
  rintro e w' ⟨ao,cap,rs,rfl,G,l',o,hb⟩
  exact ⟨_,rfl,hb,_,_,_,rfl,o.fr G,by omega⟩
theorem op_ldivF (h1:IsL x L1 (a.eval (.tmp i)) w) (h2:IsL y L2 (a.eval (.tmp j)) w) (hL:L1≤400000) (h0:y≠0) (hK:K≤w.heap.size) :
    Does Tryz.prog { dst,op:=.call { callee:=.value (.func 64),args:=#[.tmp i,.tmp j],argTypes:=ats },type:=ty,pos,after,guard } a.eval w fun v w'=>Below w.heap.size w w'∧Tup3 (FrL K (x / y) L1) (OutL (x % y) L2) (Eqs (.bool true)) v w' := by
  obtain ⟨ao,n,cap,xs,e,S,rfl,l⟩:=h1
  obtain ⟨bo,m,dap,ys,e',S',rfl,l'⟩:=h2
  refine does_call has_ldiv _ (by simp only [List.map_toArray,List.map_cons,List.map_nil,e,e']) ((divmod_o w _ _ _ _ _ _ _ _ S S' (by omega) h0).mono ?_)
  rintro e w' ⟨ao,cap,rs,bo,dap,ss,B1,T1,B2,T2,rfl,G,G',l1,l2,o1,o2,⟨x1,x2,x3,x4,x5⟩,hb⟩
  exact ⟨_,rfl,hb,_,_,_,rfl,⟨_,_,_,_,_,rfl,o1.fr G,by omega,x2,by omega⟩,⟨_,_,_,rfl,G',by omega⟩,rfl⟩
theorem op_asr {x:Nat} {Ds:List (Option Nat)} {Rs:List (Nat × Nat × (Value→Value→Prop))} {k:Nat} (h:∀ v,v=a.eval (.tmp x)→Rel Ds Rs k a v):Does Tryz.prog { dst,op:=.assign (.tmp x),type:=ty,pos,after,guard } a.eval w fun v' w'=>Below w.heap.size w w'∧True∧TrI w.heap.size w'.heap.size v' w'∧Rel Ds Rs k a v' :=
  does_assign ⟨Below.refl _ _,trivial,trivial,h _ rfl⟩
end
end Lm
end Go.Proofs.YtpofkigboedliaaGreat

namespace Go.Proofs.YtpofkigboedliaaGreat
namespace Lm
open Go Go.RowKit
open Dm (WFr)
def LentI:SaysI:=fun B T v _=>∃ g n c,v=.slice (some ⟨g,5,none⟩) n c∧B≤g∧g<T
theorem LentI.mono6:Mono6 LentI:=fun _ _ _ _ _ _ h=>h
structure Touch2 (w w' : World) (L M:Nat):Prop where
  os:w'.os=w.os
  tape:w'.tape=w.tape
  output:w'.output=w.output
  size:w.heap.size≤w'.heap.size
  other:∀ k,k<w.heap.size→k≠L→k≠M→w'.heap[k]? = w.heap[k]?
theorem Touch2.below {w w' : World} {L M B:Nat} (h:Touch2 w w' L M) (hL:B≤L) (hM:B≤M) (hs:B≤w.heap.size):Below B w w' := ⟨h.os,h.tape,h.output,h.size,fun k hk=>h.other k (by omega) (by omega) (by omega)⟩
theorem BoxV.touch2 {τ:BoxTy} {w w' : World} {g L M:Nat} {v:Value} (h:BoxV τ w g v) (ht:Touch2 w w' L M) (h1:g≠L) (h2:g≠M):BoxV τ w' g v:=by
  obtain ⟨cs,hc,h⟩:=h
  exact ⟨cs,hc,(ht.other g (lt_of_heap h) h1 h2).trans h⟩
theorem touch2_of {w w1 w2:World} {bx:List Bx} {i j L M:Nat} {S R:Says} (hb:Below w.heap.size w w1) (h:But5 bx [⟨i,L,S⟩,⟨j,M,R⟩] w1 w2) (hn:UpOld w.heap.size bx):Touch2 w w2 L M :=
  ⟨h.os.trans hb.os,h.tape.trans hb.tape,h.output.trans hb.output,Nat.le_trans hb.size h.size,fun k hk h1 h2=>(h.keep k (Nat.lt_of_lt_of_le hk hb.size) (fun b hb hi=>by have:=hn.all b hb hi;omega) (fun q hq=>by
    simp only [List.mem_cons,List.not_mem_nil,or_false] at hq
    rcases hq with rfl | rfl
    · exact fun e=>h1 e.symm
    · exact fun e=>h2 e.symm)).trans (hb.block k hk)⟩
theorem xok_two {bx:List Bx} {w0:World} {i j m n:Nat} {S R:Says} (hij:i≠j) (hmn:m≠n) (hm:m<w0.heap.size) (hn:n<w0.heap.size) (hb:∀ b ∈ bx,b.ia=none→b.g0≠m) (hb2:∀ b ∈ bx,b.ia=none→b.g0≠n) (hp:∀ v w w',w'.heap[m]? = w.heap[m]?→Ru w w'→S v w→S v w') (hp2:∀ v w w',w'.heap[n]? = w.heap[n]?→Ru w w'→R v w→R v w'):XOk bx [⟨i,m,S⟩,⟨j,n,R⟩] w0:=by
  refine ⟨?_,?_,?_,?_,?_⟩
  all_goals intro q hq;simp only [List.mem_cons,List.not_mem_nil,or_false] at hq
  · rcases hq with rfl | rfl
    · exact hm
    · exact hn
  · rcases hq with rfl | rfl
    · exact hb
    · exact hb2
  · intro q' hq' e
    simp only [List.mem_cons,List.not_mem_nil,or_false] at hq'
    rcases hq with rfl | rfl <;> rcases hq' with rfl | rfl
    · rfl
    · exact absurd e hij
    · exact absurd e.symm hij
    · rfl
  · intro q' hq' e
    simp only [List.mem_cons,List.not_mem_nil,or_false] at hq'
    rcases hq with rfl | rfl <;> rcases hq' with rfl | rfl
    · rfl
    · exact absurd e hmn
    · exact absurd e.symm hmn
    · rfl
  · rcases hq with rfl | rfl
    · exact hp
    · exact hp2
theorem lendn_sl {w:World} {L n c:Nat} {ao:Option Addr} {xs:List Int} (h:LendN w L) (hx:Sl w (.slice ao n c) xs):0<xs.length→∀ b off,ao=some ⟨b,off,none⟩→b≠L:=by
  intro h0 b off e hL
  subst hL
  obtain ⟨b',off',e',hc⟩:=hx.cells h0
  rw [e] at e'
  simp only [Option.some.injEq,Addr.mk.injEq,and_true] at e'
  obtain ⟨rfl,rfl⟩:=e'
  have h1:=hc 0 h0
  rw [Nat.add_zero,cell_of_row w b off _ _ (0,0) h] at h1
  match off with
  | 0=>simp at h1
  | 1=>simp at h1
  | off+2=>simp at h1
theorem lendn_box {τ:BoxTy} {w:World} {L k:Nat} {v:Value} (hτ:τ.T≠36) (h:LendN w L) (b:BoxV τ w k v):k≠L:=by
  obtain ⟨cs,_,b⟩:=b
  intro e
  subst e
  unfold LendN at h
  rw [b] at h
  injection h with h
  injection h with _ h
  exact hτ h
theorem lends_box {τ:BoxTy} {w:World} {L g k:Nat} {xs:List Int} {v:Value} (hτ:τ.T≠69) (h:LendS w L g xs) (b:BoxV τ w k v):k≠g:=by
  obtain ⟨_,cur,h2,_⟩:=h
  obtain ⟨cs,_,b⟩:=b
  intro e
  subst e
  rw [b] at h2
  injection h2 with h
  injection h with _ h
  exact hτ h
section
variable {dst:Option Tmp} {ty:TypeId} {pos:String} {after:Array Edge} {guard:Option (Nat × Bool)} {a:Act} {w:World} {ats:Array TypeId} {i j:Nat} {x y:Int} {L L1 L2:Nat}
theorem op_ldrneg {g k:Nat} {ng:Bool} {ao bo:Option Addr} {n c m d:Nat} (hp:a.eval (.tmp k)=.pointer (some ⟨g,0,none⟩)) (hb:BoxV R3 w g (.agg #[.bool ng,.slice ao n c,.slice bo m d])) :
    Does Tryz.prog { dst,op:=.load 4 (.tmp k),type:=ty,pos,after,guard } a.eval w fun v' w'=>Below w.heap.size w w'∧Eqs (.bool ng) v' w' := by
  obtain ⟨b1,b2,b3,b4,b5,b6⟩:=r3_facts (r3_row hb)
  refine does_load (v:=.bool ng) ?_ ⟨Below.refl _ _,rfl⟩
  rw [hp]
  go_simp
theorem op_lendI {gL K:Nat} {ax:Option Addr} {mx cx:Nat} {xs:List Int} {Ds:List (Option Nat)} {Rs:List (Nat × Nat × (Value→Value→Prop))} {k:Nat} (hrl:(Rs.all fun r=>r.1 != k)=true) (hp:a.eval (.tmp i)=.pointer (some ⟨gL,0,none⟩)) (hs:a.eval (.tmp j)=.slice ax mx cx) (hL:LendN w gL) (hx:Sl w (.slice ax mx cx) xs) (hm:xs.length≤100000) (hne:0<xs.length→∀ b off,ax=some ⟨b,off,none⟩→b≠gL) (hK:K≤w.heap.size) :
    Does Tryz.prog { dst,op:=.call { callee:=.value (.func 31),args:=#[.tmp i,.tmp j],argTypes:=ats },type:=ty,pos,after,guard } a.eval w fun v w'=>Touch w w' gL∧Ru w w'∧IsL (val xs) xs.length v w'∧LentI w.heap.size w'.heap.size v w'∧Rel Ds Rs k a v∧LentS gL K xs v w' := by
  have h:=op_lend (dst:=dst) (ty:=ty) (pos:=pos) (after:=after) (guard:=guard) (ats:=ats) (Ds:=Ds) hrl hp hs hL hx hm hne (Nat.le_refl w.heap.size)
  refine h.mono fun v w' ⟨h1,h2,h3,_,h4,g,e,h5,h6,h7⟩=>⟨h1,h2,h3,⟨g,_,_,e,h6,h7⟩,h4,g,e,h5,Nat.le_trans hK h6,h7⟩
theorem op_bWl2 {b:Bool} {Ds:List (Option Nat)} {k k2 jj d:Nat} {R2:Value→Value→Prop} {j2 j3:Nat} {R3' : Value→Value→Prop} (hk:k2≠k) (hd:Ds.getD jj none=some d) (h1:a.eval (.tmp i)=.bool b) (h2:IsL x L (a.eval (.tmp d)) w):Does Tryz.prog { dst,op:=.build 24 #[(0,.tmp i),(1,.tmp d)],type:=ty,pos,after,guard } a.eval w fun v' w'=>Below w.heap.size w w'∧IsW (sg b x) L v' w'∧TrI w.heap.size w'.heap.size v' w'∧Rel Ds [(k,jj,fun v u=>u=.agg #[.bool b,v]),(k2,j2,R2),(k2,j3,R3')] k a v' := by
  obtain ⟨ao,n,cap,xs,e,hs,hv,hl⟩:=h2
  refine (op_bW2 h1 e).mono fun v' w' ⟨hb,he⟩=>⟨hb,⟨b,ao,n,cap,xs,he,⟨hs.below hb,by rw [hv]⟩,hl⟩,trivial,fun r hr e'=>?_⟩
  simp only [List.mem_cons,List.not_mem_nil,or_false] at hr
  rcases hr with rfl | rfl | rfl
  · show v' = .agg #[.bool b,rd Ds a jj]
    unfold rd
    rw [hd]
    simp only
    rw [e]
    exact he
  · exact absurd e' hk
  · exact absurd e' hk
theorem op_bRl {Ds:List (Option Nat)} {k k1 j1 jw jl dw dl:Nat} {R1:Value→Value→Prop} (hk:k1≠k) (hdw:Ds.getD jw none=some dw) (hdl:Ds.getD jl none=some dl) (h1:IsW x L1 (a.eval (.tmp dw)) w) (h2:IsL y L2 (a.eval (.tmp dl)) w) (hl1:L1≤L) (hl2:L2≤L):Does Tryz.prog { dst,op:=.build 26 #[(0,.tmp dw),(1,.tmp dl)],type:=ty,pos,after,guard } a.eval w fun v' w'=>Below w.heap.size w w'∧IsR x y L v' w'∧TrI w.heap.size w'.heap.size v' w'∧Rel Ds [(k1,j1,R1),(k,jw,fun v u=>∃ b s t,v=.agg #[b,s]∧u=.agg #[b,s,t]),(k,jl,fun v u=>∃ b s,u=.agg #[b,s,v])] k a v' := by
  obtain ⟨ng,ao,n,cap,xs,e,hA,hl⟩:=h1
  obtain ⟨bo,m,dap,ys,e',hs,hv,hl'⟩:=h2
  refine (op_bR e e').mono fun v' w' ⟨hb,he⟩=>⟨hb,⟨ng,ao,n,cap,xs,bo,m,dap,ys,he,hA.below hb,hs.below hb,hv,by omega,by omega⟩,trivial,fun r hr ee=>?_⟩
  simp only [List.mem_cons,List.not_mem_nil,or_false] at hr
  rcases hr with rfl | rfl | rfl
  · exact absurd ee hk
  · refine ⟨_,_,_,?_,he⟩
    unfold rd
    rw [hdw]
    exact e
  · refine ⟨.bool ng,.slice ao n cap,?_⟩
    show v' = _
    unfold rd
    rw [hdl]
    simp only
    rw [e']
    exact he
end
end Lm
end Go.Proofs.YtpofkigboedliaaGreat

namespace Go.Proofs.YtpofkigboedliaaGreat
namespace Lm
open Go Go.RowKit
set_option maxRecDepth 20000 in
set_option maxHeartbeats 2000000 in
theorem rcmp_z (w:World) (Br:Nat) (nr:Bool) (ar:Option Addr) (mr cr:Nat) (rs:List Int) (pr:Int) (Ar:Ag w nr ar mr cr rs pr) (Lr:rs.length≤Br) (br:Option Addr) (kr dr:Nat) (rt:List Int) (qr:Int) (Sr:Sl w (.slice br kr dr) rt) (Vr:val rt=qr) (Mr:rt.length≤Br) (Bu:Nat) (nu:Bool) (au:Option Addr) (mu cu:Nat) (us:List Int) (pu:Int) (Au:Ag w nu au mu cu us pu) (Lu:us.length≤Bu) (bu:Option Addr) (ku du:Nat) (ut:List Int) (qu:Int) (Su:Sl w (.slice bu ku du) ut) (Vu:val ut=qu) (Mu:ut.length≤Bu) (hL:Br+Bu+4≤100000) :
  Calls Tryz.prog 12 #[.agg #[.bool nr,.slice ar mr cr,.slice br kr dr],.agg #[.bool nu,.slice au mu cu,.slice bu ku du]] w fun e w'=>∃ v,e=.returned v∧(Eqs (.int .i64 (cmpI (tp pr qr*tq qu) (tp pu qu*tq qr)))) v w'∧Below w.heap.size w w' := by
 go_enter Tryz.func12,Tryz.ntmps12
 generalize hA:(Act.mk _ _)=aa
 have hn:aa.tmps.size=26:=by rw [←hA];rfl
 have hd:aa.defers = []:=by rw [←hA]
 have f0:aa.eval (.tmp 0)=.agg #[.bool nr,.slice ar mr cr,.slice br kr dr]:=by rw [←hA];rfl
 have f1:aa.eval (.tmp 1)=.agg #[.bool nu,.slice au mu cu,.slice bu ku du]:=by rw [←hA];rfl
 clear hA
 have HB:Below w.heap.size w w:=Below.refl _ _
 have Dr:Ag w false br kr dr rt qr:=⟨Sr,Vr⟩
 have Du:Ag w false bu ku du ut qu:=⟨Su,Vu⟩
 refine wp_seq ?_
 refine region4 [some 2,some 3,some 4] [Tt,Tt,Eqs ((.int .i64 0))] [⟨R3,some 0,0,2,.agg #[.bool nr,.slice ar mr cr,.slice br kr dr],none,[]⟩,⟨R3,some 1,0,3,.agg #[.bool nu,.slice au mu cu,.slice bu ku du],none,[]⟩] [] (by kernel_rfl) hn rfl (by kernel_rfl) (by kernel_rfl) (by kernel_rfl) (by kernel_rfl) (by kernel_rfl) (by kernel_rfl) ⟨True.mono4,True.mono4,Eqs.mono4 _,trivial⟩ (ok_cons R3ok (ok_cons R3ok ok_nil)) (IsOld.all (bx:=[⟨R3,some 0,0,2,.agg #[.bool nr,.slice ar mr cr,.slice br kr dr],none,[]⟩,⟨R3,some 1,0,3,.agg #[.bool nu,.slice au mu cu,.slice bu ku du],none,[]⟩]) ⟨someNe,someNe,trivial⟩) (DisOld.all (bx:=[⟨R3,some 0,0,2,.agg #[.bool nr,.slice ar mr cr,.slice br kr dr],none,[]⟩,⟨R3,some 1,0,3,.agg #[.bool nu,.slice au mu cu,.slice bu ku du],none,[]⟩]) ⟨someNe,someNe,trivial⟩) ?_ ?_
 ·exact ⟨.alloc 0 _ rfl rfl (.inr ⟨_,rfl,r3_cs,fun a_ hR=>(hR 0 rfl).trans f0⟩) rfl rfl rfl rfl rfl,.alloc 1 _ rfl rfl (.inr ⟨_,rfl,r3_cs,fun a_ hR=>(hR 1 rfl).trans f1⟩) rfl rfl rfl rfl rfl,.norm 4 rfl rfl rfl (fun a_ w_ _ t r R D _ _=>op_assign rfl),trivial⟩
 ·intro a1 w1 gs1 hn1 hd1 hBt hr hR hP hX hU
  replace hn:=hn1;replace hd:=hd1.trans hd
  have b2:BoxV R3 w1 (gs1 0) (.agg #[.bool nr,.slice ar mr cr,.slice br kr dr]):=(hX 0 _ rfl).2.2.2
  have f2:=(hX 0 _ rfl).1
  have u2:w.heap.size≤gs1 0:=Nat.le_trans HB.size ((hX 0 _ rfl).2.2.1 (by simp))
  have b3:BoxV R3 w1 (gs1 1) (.agg #[.bool nu,.slice au mu cu,.slice bu ku du]):=(hX 1 _ rfl).2.2.2
  have f3:=(hX 1 _ rfl).1
  have u3:w.heap.size≤gs1 1:=Nat.le_trans HB.size ((hX 1 _ rfl).2.2.1 (by simp))
  have e4:a1.eval (.tmp 4)=(.int .i64 0):=hP 2 (by decide)
  have f4:=e4
  replace Ar:=Ar.rl hr
  replace Sr:=Sr.rl hr
  replace Dr:=Dr.rl hr
  replace Au:=Au.rl hr
  replace Su:=Su.rl hr
  replace Du:=Du.rl hr
  replace HB:=HB.trans (hBt.below HB.size (UpOld.all (bx:=[⟨R3,some 0,0,2,.agg #[.bool nr,.slice ar mr cr,.slice br kr dr],none,[]⟩,⟨R3,some 1,0,3,.agg #[.bool nu,.slice au mu cu,.slice bu ku du],none,[]⟩]) ⟨someNe,someNe,trivial⟩))
  clear hBt hr hR hP hX hU
  refine wp_seq ?_
  refine region4 [some 10,some 11,some 9,some 12,some 13,some 5,some 6,none,none] [Eqs (.agg #[.bool nr,.slice ar mr cr,.slice br kr dr]),Tup2 (IsW ((tp pr qr)) ((Br)+2)) (IsW ((tq qr)) ((Br)+2)),Tup2 (IsW ((tp pr qr)) ((Br)+2)) (IsW ((tq qr)) ((Br)+2)),IsW ((tp pr qr)) ((Br)+2),IsW ((tq qr)) ((Br)+2),Tt,Tt,Tt,Tt] [⟨W2,some 5,0,5,.agg #[.bool false,.slice none 0 0],some (7,12,3),[]⟩,⟨W2,some 6,0,6,.agg #[.bool false,.slice none 0 0],some (8,13,4),[]⟩] [] (by kernel_rfl) hn rfl (by kernel_rfl) (by kernel_rfl) (by kernel_rfl) (by kernel_rfl) (by kernel_rfl) (by kernel_rfl) ⟨Eqs.mono4 _,Tup2.mono4 (IsW.mono4 _ _) (IsW.mono4 _ _),Tup2.mono4 (IsW.mono4 _ _) (IsW.mono4 _ _),IsW.mono4 _ _,IsW.mono4 _ _,True.mono4,True.mono4,True.mono4,True.mono4,trivial⟩ (ok_cons W2ok (ok_cons W2ok ok_nil)) (IsOld.all (bx:=[⟨W2,some 5,0,5,.agg #[.bool false,.slice none 0 0],some (7,12,3),[]⟩,⟨W2,some 6,0,6,.agg #[.bool false,.slice none 0 0],some (8,13,4),[]⟩]) ⟨someNe,someNe,trivial⟩) (DisOld.all (bx:=[⟨W2,some 5,0,5,.agg #[.bool false,.slice none 0 0],some (7,12,3),[]⟩,⟨W2,some 6,0,6,.agg #[.bool false,.slice none 0 0],some (8,13,4),[]⟩]) ⟨someNe,someNe,trivial⟩) ?_ ?_
  ·exact ⟨.norm 10 rfl rfl rfl (fun a_ w_ _ t r R D _ _=>op_loadv R3ok ((R 2 rfl).trans f2) (b2.keep t ⟨someNe,someNe,trivial⟩)),.norm 11 rfl rfl rfl (fun a_ w_ _ t r R D _ _=>op_terms (isr_eq (show a_.eval (.tmp 10)=.agg #[.bool nr,.slice ar mr cr,.slice br kr dr] from D 0 rfl) (Ar.rl r) (Sr.rl r) Vr Lr Mr) (by omega)),.norm 9 rfl rfl rfl (fun a_ w_ _ t r R D _ _=>op_mvp (p:=Tup2 (IsW ((tp pr qr)) ((Br)+2)) (IsW ((tq qr)) ((Br)+2))) (show Tup2 (IsW ((tp pr qr)) ((Br)+2)) (IsW ((tq qr)) ((Br)+2)) (a_.eval (.tmp 11)) w_ from D 1 rfl)),.norm 12 rfl rfl rfl (fun a_ w_ _ t r R D _ _=>op_ex20 (show Tup2 (IsW ((tp pr qr)) ((Br)+2)) (IsW ((tq qr)) ((Br)+2)) (a_.eval (.tmp 9)) w_ from D 2 rfl)),.norm 13 rfl rfl rfl (fun a_ w_ _ t r R D _ _=>op_ex21 (show Tup2 (IsW ((tp pr qr)) ((Br)+2)) (IsW ((tq qr)) ((Br)+2)) (a_.eval (.tmp 9)) w_ from D 2 rfl)),.alloc 0 _ rfl rfl (.inl ⟨rfl,rfl⟩) rfl rfl rfl rfl rfl,.alloc 1 _ rfl rfl (.inl ⟨rfl,rfl⟩) rfl rfl rfl rfl rfl,.store 0 _ _ _ rfl rfl rfl rfl rfl rfl rfl (fun ia h=>by cases h;rfl) rfl rfl rfl IsW.cs,.store 1 _ _ _ rfl rfl rfl rfl rfl rfl rfl (fun ia h=>by cases h;rfl) rfl rfl rfl IsW.cs,trivial⟩
  ·intro a2 w2 gs2 hn2 hd2 hBt hr hR hP hX hU
   replace hn:=hn2;replace hd:=hd2.trans hd
   replace b3:=b3.keep hBt ⟨someNe,someNe,trivial⟩
   obtain ⟨n_3,a_3,m_3,c_3,r_3,e12,A3,l3⟩:IsW ((tp pr qr)) ((Br)+2) (a2.eval (.tmp 12)) w2:=hP 3 (by decide)
   have b5:BoxV W2 w2 (gs2 0) (.agg #[.bool n_3,.slice a_3 m_3 c_3]):=boxv_of (hX 0 _ rfl).2.2.2 e12
   have f5:=(hX 0 _ rfl).1
   have u5:w.heap.size≤gs2 0:=Nat.le_trans HB.size ((hX 0 _ rfl).2.2.1 (by simp))
   obtain ⟨n_4,a_4,m_4,c_4,r_4,e13,A4,l4⟩:IsW ((tq qr)) ((Br)+2) (a2.eval (.tmp 13)) w2:=hP 4 (by decide)
   have b6:BoxV W2 w2 (gs2 1) (.agg #[.bool n_4,.slice a_4 m_4 c_4]):=boxv_of (hX 1 _ rfl).2.2.2 e13
   have f6:=(hX 1 _ rfl).1
   have u6:w.heap.size≤gs2 1:=Nat.le_trans HB.size ((hX 1 _ rfl).2.2.1 (by simp))
   replace f3:=(hR 3 rfl).trans f3
   replace f4:=(hR 4 rfl).trans f4
   replace Ar:=Ar.rl hr
   replace Sr:=Sr.rl hr
   replace Dr:=Dr.rl hr
   replace Au:=Au.rl hr
   replace Su:=Su.rl hr
   replace Du:=Du.rl hr
   replace HB:=HB.trans (hBt.below HB.size (UpOld.all (bx:=[⟨W2,some 5,0,5,.agg #[.bool false,.slice none 0 0],some (7,12,3),[]⟩,⟨W2,some 6,0,6,.agg #[.bool false,.slice none 0 0],some (8,13,4),[]⟩]) ⟨someNe,someNe,trivial⟩))
   clear hBt hr hR hP hX hU
   refine wp_seq ?_
   refine region4 [some 15,some 16,some 14,some 17,some 18,some 7,some 8,none,none] [Eqs (.agg #[.bool nu,.slice au mu cu,.slice bu ku du]),Tup2 (IsW ((tp pu qu)) ((Bu)+2)) (IsW ((tq qu)) ((Bu)+2)),Tup2 (IsW ((tp pu qu)) ((Bu)+2)) (IsW ((tq qu)) ((Bu)+2)),IsW ((tp pu qu)) ((Bu)+2),IsW ((tq qu)) ((Bu)+2),Tt,Tt,Tt,Tt] [⟨W2,some 5,0,7,.agg #[.bool false,.slice none 0 0],some (7,17,3),[]⟩,⟨W2,some 6,0,8,.agg #[.bool false,.slice none 0 0],some (8,18,4),[]⟩] [] (by kernel_rfl) hn rfl (by kernel_rfl) (by kernel_rfl) (by kernel_rfl) (by kernel_rfl) (by kernel_rfl) (by kernel_rfl) ⟨Eqs.mono4 _,Tup2.mono4 (IsW.mono4 _ _) (IsW.mono4 _ _),Tup2.mono4 (IsW.mono4 _ _) (IsW.mono4 _ _),IsW.mono4 _ _,IsW.mono4 _ _,True.mono4,True.mono4,True.mono4,True.mono4,trivial⟩ (ok_cons W2ok (ok_cons W2ok ok_nil)) (IsOld.all (bx:=[⟨W2,some 5,0,7,.agg #[.bool false,.slice none 0 0],some (7,17,3),[]⟩,⟨W2,some 6,0,8,.agg #[.bool false,.slice none 0 0],some (8,18,4),[]⟩]) ⟨someNe,someNe,trivial⟩) (DisOld.all (bx:=[⟨W2,some 5,0,7,.agg #[.bool false,.slice none 0 0],some (7,17,3),[]⟩,⟨W2,some 6,0,8,.agg #[.bool false,.slice none 0 0],some (8,18,4),[]⟩]) ⟨someNe,someNe,trivial⟩) ?_ ?_
   ·exact ⟨.norm 15 rfl rfl rfl (fun a_ w_ _ t r R D _ _=>op_loadv R3ok ((R 3 rfl).trans f3) (b3.keep t ⟨someNe,someNe,trivial⟩)),.norm 16 rfl rfl rfl (fun a_ w_ _ t r R D _ _=>op_terms (isr_eq (show a_.eval (.tmp 15)=.agg #[.bool nu,.slice au mu cu,.slice bu ku du] from D 0 rfl) (Au.rl r) (Su.rl r) Vu Lu Mu) (by omega)),.norm 14 rfl rfl rfl (fun a_ w_ _ t r R D _ _=>op_mvp (p:=Tup2 (IsW ((tp pu qu)) ((Bu)+2)) (IsW ((tq qu)) ((Bu)+2))) (show Tup2 (IsW ((tp pu qu)) ((Bu)+2)) (IsW ((tq qu)) ((Bu)+2)) (a_.eval (.tmp 16)) w_ from D 1 rfl)),.norm 17 rfl rfl rfl (fun a_ w_ _ t r R D _ _=>op_ex20 (show Tup2 (IsW ((tp pu qu)) ((Bu)+2)) (IsW ((tq qu)) ((Bu)+2)) (a_.eval (.tmp 14)) w_ from D 2 rfl)),.norm 18 rfl rfl rfl (fun a_ w_ _ t r R D _ _=>op_ex21 (show Tup2 (IsW ((tp pu qu)) ((Bu)+2)) (IsW ((tq qu)) ((Bu)+2)) (a_.eval (.tmp 14)) w_ from D 2 rfl)),.alloc 0 _ rfl rfl (.inl ⟨rfl,rfl⟩) rfl rfl rfl rfl rfl,.alloc 1 _ rfl rfl (.inl ⟨rfl,rfl⟩) rfl rfl rfl rfl rfl,.store 0 _ _ _ rfl rfl rfl rfl rfl rfl rfl (fun ia h=>by cases h;rfl) rfl rfl rfl IsW.cs,.store 1 _ _ _ rfl rfl rfl rfl rfl rfl rfl (fun ia h=>by cases h;rfl) rfl rfl rfl IsW.cs,trivial⟩
   ·intro a5 w5 gs5 hn5 hd5 hBt hr hR hP hX hU
    replace hn:=hn5;replace hd:=hd5.trans hd
    replace b5:=b5.keep hBt ⟨someNe,someNe,trivial⟩
    replace b6:=b6.keep hBt ⟨someNe,someNe,trivial⟩
    obtain ⟨n_6,a_6,m_6,c_6,r_6,e17,A6,l6⟩:IsW ((tp pu qu)) ((Bu)+2) (a5.eval (.tmp 17)) w5:=hP 3 (by decide)
    have b7:BoxV W2 w5 (gs5 0) (.agg #[.bool n_6,.slice a_6 m_6 c_6]):=boxv_of (hX 0 _ rfl).2.2.2 e17
    have f7:=(hX 0 _ rfl).1
    have u7:w.heap.size≤gs5 0:=Nat.le_trans HB.size ((hX 0 _ rfl).2.2.1 (by simp))
    obtain ⟨n_7,a_7,m_7,c_7,r_7,e18,A7,l7⟩:IsW ((tq qu)) ((Bu)+2) (a5.eval (.tmp 18)) w5:=hP 4 (by decide)
    have b8:BoxV W2 w5 (gs5 1) (.agg #[.bool n_7,.slice a_7 m_7 c_7]):=boxv_of (hX 1 _ rfl).2.2.2 e18
    have f8:=(hX 1 _ rfl).1
    have u8:w.heap.size≤gs5 1:=Nat.le_trans HB.size ((hX 1 _ rfl).2.2.1 (by simp))
    replace f4:=(hR 4 rfl).trans f4
    replace f5:=(hR 5 rfl).trans f5
    replace f6:=(hR 6 rfl).trans f6
    replace Ar:=Ar.rl hr
    replace Sr:=Sr.rl hr
    replace Dr:=Dr.rl hr
    replace Au:=Au.rl hr
    replace Su:=Su.rl hr
    replace Du:=Du.rl hr
    replace A3:=A3.rl hr
    replace A4:=A4.rl hr
    replace HB:=HB.trans (hBt.below HB.size (UpOld.all (bx:=[⟨W2,some 5,0,7,.agg #[.bool false,.slice none 0 0],some (7,17,3),[]⟩,⟨W2,some 6,0,8,.agg #[.bool false,.slice none 0 0],some (8,18,4),[]⟩]) ⟨someNe,someNe,trivial⟩))
    clear hBt hr hR hP hX hU
    refine wp_seq ?_
    refine region4 [some 19,some 20,some 21,some 22,some 23,some 24,some 25,some 4] [Eqs (.agg #[.bool n_3,.slice a_3 m_3 c_3]),Eqs (.agg #[.bool n_7,.slice a_7 m_7 c_7]),OutW (((tp pr qr)*(tq qu))) (((Br)+2)+((Bu)+2)),Eqs (.agg #[.bool n_6,.slice a_6 m_6 c_6]),Eqs (.agg #[.bool n_4,.slice a_4 m_4 c_4]),OutW (((tp pu qu)*(tq qr))) (((Bu)+2)+((Br)+2)),Eqs (.int .i64 (cmpI ((tp pr qr)*(tq qu)) ((tp pu qu)*(tq qr)))),Eqs (.int .i64 (cmpI ((tp pr qr)*(tq qu)) ((tp pu qu)*(tq qr))))] [] [] (by kernel_rfl) hn rfl (by kernel_rfl) (by kernel_rfl) (by kernel_rfl) (by kernel_rfl) (by kernel_rfl) (by kernel_rfl) ⟨Eqs.mono4 _,Eqs.mono4 _,OutW.mono4 _ _,Eqs.mono4 _,Eqs.mono4 _,OutW.mono4 _ _,Eqs.mono4 _,Eqs.mono4 _,trivial⟩ ok_nil (IsOld.all (bx:=[]) trivial) (DisOld.all (bx:=[]) trivial) ?_ ?_
    ·exact ⟨.norm 19 rfl rfl rfl (fun a_ w_ _ t r R D _ _=>op_loadv W2ok ((R 5 rfl).trans f5) (b5.keep t trivial)),.norm 20 rfl rfl rfl (fun a_ w_ _ t r R D _ _=>op_loadv W2ok ((R 8 rfl).trans f8) (b8.keep t trivial)),.norm 21 rfl rfl rfl (fun a_ w_ _ t r R D _ _=>op_mul (isw_eq (show a_.eval (.tmp 19)=.agg #[.bool n_3,.slice a_3 m_3 c_3] from D 0 rfl) (A3.rl r) l3) (isw_eq (show a_.eval (.tmp 20)=.agg #[.bool n_7,.slice a_7 m_7 c_7] from D 1 rfl) (A7.rl r) l7) (by omega) (by omega)),.norm 22 rfl rfl rfl (fun a_ w_ _ t r R D _ _=>op_loadv W2ok ((R 7 rfl).trans f7) (b7.keep t trivial)),.norm 23 rfl rfl rfl (fun a_ w_ _ t r R D _ _=>op_loadv W2ok ((R 6 rfl).trans f6) (b6.keep t trivial)),.norm 24 rfl rfl rfl (fun a_ w_ _ t r R D _ _=>op_mul (isw_eq (show a_.eval (.tmp 22)=.agg #[.bool n_6,.slice a_6 m_6 c_6] from D 3 rfl) (A6.rl r) l6) (isw_eq (show a_.eval (.tmp 23)=.agg #[.bool n_4,.slice a_4 m_4 c_4] from D 4 rfl) (A4.rl r) l4) (by omega) (by omega)),.norm 25 rfl rfl rfl (fun a_ w_ _ t r R D _ _=>op_cmp (show OutW (((tp pr qr)*(tq qu))) (((Br)+2)+((Bu)+2)) (a_.eval (.tmp 21)) w_ from D 2 rfl).is (show OutW (((tp pu qu)*(tq qr))) (((Bu)+2)+((Br)+2)) (a_.eval (.tmp 24)) w_ from D 5 rfl).is (by omega) (by omega)),.norm 4 rfl rfl rfl (fun a_ w_ _ t r R D _ _=>op_assign (show a_.eval (.tmp 25)=.int .i64 (cmpI ((tp pr qr)*(tq qu)) ((tp pu qu)*(tq qr))) from D 6 rfl)),trivial⟩
    ·intro a8 w8 gs8 hn8 hd8 hBt hr hR hP hX hU
     replace hn:=hn8;replace hd:=hd8.trans hd
     have e4:a8.eval (.tmp 4)=.int .i64 (cmpI ((tp pr qr)*(tq qu)) ((tp pu qu)*(tq qr))):=hP 7 (by decide)
     have f4:=e4
     replace Ar:=Ar.rl hr
     replace Sr:=Sr.rl hr
     replace Dr:=Dr.rl hr
     replace Au:=Au.rl hr
     replace Su:=Su.rl hr
     replace Du:=Du.rl hr
     replace A3:=A3.rl hr
     replace A4:=A4.rl hr
     replace A6:=A6.rl hr
     replace A7:=A7.rl hr
     replace HB:=HB.trans (hBt.below HB.size (UpOld.all (bx:=[]) trivial))
     clear hBt hr hR hP hX hU
     refine wp_ret ?_
     repeat (first | refine then_ret ?_ | refine scope_ret ?_ | refine block_ret ?_)
     exact bodyPost_ret (v:=.int .i64 (cmpI ((tp pr qr)*(tq qu)) ((tp pu qu)*(tq qr)))) (res_t rfl f4) hd ⟨_,rfl,rfl,HB⟩
theorem has_rcmp:Has Tryz.prog 12:=by unfold Has;kernel_rfl
theorem op_rcmp {dst:Option Tmp} {ty:TypeId} {pos:String} {after:Array Edge} {guard:Option (Nat × Bool)} {a:Act} {w:World} {ats:Array TypeId} {i j:Nat} {Br:Nat} {pr qr:Int} (Hr:IsR pr qr Br (a.eval (.tmp i)) w) {Bu:Nat} {pu qu:Int} (Hu:IsR pu qu Bu (a.eval (.tmp j)) w) (hL:Br+Bu+4≤100000) :
  Does Tryz.prog { dst,op:=.call { callee:=.value (.func 12),args:=#[.tmp i,.tmp j],argTypes:=ats },type:=ty,pos,after,guard } a.eval w fun v w'=>Below w.heap.size w w'∧(Eqs (.int .i64 (cmpI (tp pr qr*tq qu) (tp pu qu*tq qr)))) v w' := by
 obtain ⟨nr,ar,mr,cr,rs,br,kr,dr,rt,er,Ar,Sr,Vr,Lr,Mr⟩:=Hr
 obtain ⟨nu,au,mu,cu,us,bu,ku,du,ut,eu,Au,Su,Vu,Lu,Mu⟩:=Hu
 refine does_call has_rcmp _ (by simp only [List.map_toArray,List.map_cons,List.map_nil,er,eu]) ((rcmp_z w Br _ _ _ _ _ _ Ar Lr _ _ _ _ _ Sr Vr Mr Bu _ _ _ _ _ _ Au Lu _ _ _ _ _ Su Vu Mu hL).mono ?_)
 rintro e w' ⟨v,rfl,h1,hb⟩
 exact ⟨_,rfl,hb,h1⟩
end Lm
end Go.Proofs.YtpofkigboedliaaGreat

namespace Go.Proofs.YtpofkigboedliaaGreat
namespace Lm
theorem low_parts (p:Int) {q:Int} (hq:q≠0):∃ g a b:Int,0<g∧p=g*a∧q=g*b∧b≠0∧Int.gcd a b=1∧nm p q=Int.sign b*a∧dn p q=Int.sign b*b:=by
  have hg:=gcd_pos_right (p:=p) hq
  obtain ⟨a,ha⟩:((Int.gcd p q:Nat):Int) ∣ p:=Int.gcd_dvd_left p q
  obtain ⟨b,hb⟩:((Int.gcd p q:Nat):Int) ∣ q:=Int.gcd_dvd_right p q
  have ea:p / ((Int.gcd p q:Nat):Int)=a:=by
    conv=>lhs;lhs;rw [ha]
    exact Int.mul_ediv_cancel_left _ (by omega)
  have eb:q / ((Int.gcd p q:Nat):Int)=b:=by
    conv=>lhs;lhs;rw [hb]
    exact Int.mul_ediv_cancel_left _ (by omega)
  have hs:Int.sign q=Int.sign b:=by
    rw [hb,Int.sign_mul,Int.sign_eq_one_of_pos hg,Int.one_mul]
  have hc:Int.gcd a b=1:=by
    have:=Int.gcd_ediv_gcd_ediv_gcd (i:=p) (j:=q) (by omega)
    rwa [ea,eb] at this
  refine ⟨_,a,b,hg,ha,hb,?_,hc,?_,?_⟩
  · rintro rfl
    rw [Int.mul_zero] at hb
    exact hq hb
  · unfold nm
    rw [ea,hs]
  · unfold dn
    rw [eb,hs]
theorem sign_self_pos {b:Int} (h:b≠0):0<Int.sign b*b:=by
  rcases Int.lt_trichotomy b 0 with h1 | h1 | h1
  · rw [Int.sign_eq_neg_one_of_neg h1];omega
  · exact absurd h1 h
  · rw [Int.sign_eq_one_of_pos h1];omega
theorem dn_pos (p:Int) {q:Int} (hq:q≠0):0<dn p q:=by
  obtain ⟨g,a,b,_,_,_,hb,_,_,e⟩:=low_parts p hq
  rw [e]
  exact sign_self_pos hb
theorem dn_ne (p:Int) {q:Int} (hq:q≠0):dn p q≠0:=by
  have:=dn_pos p hq
  omega
theorem low_cross (p:Int) {q:Int} (hq:q≠0):nm p q*q=p*dn p q:=by
  obtain ⟨g,a,b,_,hp,hq',_,_,e1,e2⟩:=low_parts p hq
  rw [e1,e2]
  grind
theorem low_cop (p:Int) {q:Int} (hq:q≠0):Int.gcd (nm p q) (dn p q)=1:=by
  obtain ⟨g,a,b,_,_,_,hb,hc,e1,e2⟩:=low_parts p hq
  rw [e1,e2]
  rcases Int.lt_trichotomy b 0 with h1 | h1 | h1
  · rw [Int.sign_eq_neg_one_of_neg h1];simpa using hc
  · exact absurd h1 hb
  · rw [Int.sign_eq_one_of_pos h1];simpa using hc
theorem dvd_cop {n d k:Int} (hc:Int.gcd n d=1) (h:d ∣ n*k):d ∣ k:=by
  have h1:d.natAbs ∣ n.natAbs*k.natAbs:=by rw [←Int.natAbs_mul];exact Int.natAbs_dvd_natAbs.2 h
  have hc' : Nat.Coprime d.natAbs n.natAbs:=by
    unfold Nat.Coprime
    rw [Nat.gcd_comm]
    exact hc
  exact Int.natAbs_dvd_natAbs.1 (hc'.dvd_of_dvd_mul_left h1)
theorem low_eq {p q p' q' : Int} (hq:q≠0) (hq' : q'≠0) (h:p*q' = p'*q):nm p q=nm p' q'∧dn p q=dn p' q' := by
  have c1:=low_cross p hq
  have c2:=low_cross p' hq'
  have d1:=dn_pos p hq
  have d2:=dn_pos p' hq'
  have hx:nm p q*dn p' q' = nm p' q'*dn p q:=by
    apply Int.eq_of_mul_eq_mul_right (Int.mul_ne_zero hq hq')
    grind
  have e1:dn p q ∣ dn p' q' := dvd_cop (low_cop p hq) ⟨nm p' q',by rw [hx,Int.mul_comm]⟩
  have e2:dn p' q' ∣ dn p q:=dvd_cop (low_cop p' hq') ⟨nm p q,by rw [←hx,Int.mul_comm]⟩
  have e:dn p q=dn p' q' := Int.dvd_antisymm (by omega) (by omega) e1 e2
  refine ⟨?_,e⟩
  rw [e] at hx
  exact Int.eq_of_mul_eq_mul_right (by omega) hx
end Lm
end Go.Proofs.YtpofkigboedliaaGreat

namespace Go.Proofs.YtpofkigboedliaaGreat
namespace Lm
open Go Go.RowKit
section
variable {dst:Option Tmp} {ty:TypeId} {pos:String} {after:Array Edge} {guard:Option (Nat × Bool)} {a:Act} {w:World} {ats:Array TypeId} {i j k g:Nat} {u v x y z:Int} {L L1 L2:Nat}
theorem op_ldrmag {ng:Bool} {ao bo:Option Addr} {n c m d:Nat} (hp:a.eval (.tmp k)=.pointer (some ⟨g,1,none⟩)) (hb:BoxV R3 w g (.agg #[.bool ng,.slice ao n c,.slice bo m d])) :
    Does Tryz.prog { dst,op:=.load 22 (.tmp k),type:=ty,pos,after,guard } a.eval w fun v' w'=>Below w.heap.size w w'∧Eqs (.slice ao n c) v' w' := by
  obtain ⟨b1,b2,b3,b4,b5,b6⟩:=r3_facts (r3_row hb)
  refine does_load (v:=.slice ao n c) ?_ ⟨Below.refl _ _,rfl⟩
  rw [hp]
  go_simp
end
end Lm
end Go.Proofs.YtpofkigboedliaaGreat

namespace Go.Proofs.YtpofkigboedliaaGreat
namespace Lm
open Go Go.RowKit
set_option maxRecDepth 20000 in
set_option maxHeartbeats 2000000 in
theorem lent_z (w:World) (La Lb:Nat) (LNa:LendN w La) (LNb:LendN w Lb) (hab:La≠Lb) (nr:Bool) (ar:Option Addr) (mr cr:Nat) (rs:List Int) (pr:Int) (Ar:Ag w nr ar mr cr rs pr) (Lr:rs.length≤1500) (br:Option Addr) (kr dr:Nat) (rt:List Int) (qr:Int) (Sr:Sl w (.slice br kr dr) rt) (_Vr:val rt=qr) (Mr:rt.length≤1500) :
  Calls Tryz.prog 7 #[.agg #[.bool nr,.slice ar mr cr,.slice br kr dr],.pointer (some ⟨La,0,none⟩),.pointer (some ⟨Lb,0,none⟩)] w fun e w'=>∃ ga gb,e=.returned (.agg #[.bool nr,.slice (some ⟨ga,5,none⟩) rs.length (rs.length+5),.slice (some ⟨gb,5,none⟩) rt.length (rt.length+5)])∧LendS w' La ga rs∧LendS w' Lb gb rt∧w.heap.size≤ga∧w.heap.size≤gb∧ga≠gb∧Touch2 w w' La Lb:=by
 go_enter Tryz.func7,Tryz.ntmps7
 generalize hA:(Act.mk _ _)=aa
 have hn:aa.tmps.size=21:=by rw [←hA];rfl
 have hd:aa.defers = []:=by rw [←hA]
 have f0:aa.eval (.tmp 0)=.agg #[.bool nr,.slice ar mr cr,.slice br kr dr]:=by rw [←hA];rfl
 have f1:aa.eval (.tmp 1)=.pointer (some ⟨La,0,none⟩):=by rw [←hA];rfl
 have f2:aa.eval (.tmp 2)=.pointer (some ⟨Lb,0,none⟩):=by rw [←hA];rfl
 clear hA
 have HB:Below w.heap.size w w:=Below.refl _ _
 have Tr:=Ar.sl
 refine wp_seq ?_
 refine region4 [some 3,some 6] [Tt,Tt] [⟨R3,some 0,0,3,.agg #[.bool nr,.slice ar mr cr,.slice br kr dr],none,[]⟩,⟨R3,some 1,0,6,.agg #[.bool false,.slice none 0 0,.slice none 0 0],none,[]⟩] [] (by kernel_rfl) hn rfl (by kernel_rfl) (by kernel_rfl) (by kernel_rfl) (by kernel_rfl) (by kernel_rfl) (by kernel_rfl) ⟨True.mono4,True.mono4,trivial⟩ (ok_cons R3ok (ok_cons R3ok ok_nil)) (IsOld.all (bx:=[⟨R3,some 0,0,3,.agg #[.bool nr,.slice ar mr cr,.slice br kr dr],none,[]⟩,⟨R3,some 1,0,6,.agg #[.bool false,.slice none 0 0,.slice none 0 0],none,[]⟩]) ⟨someNe,someNe,trivial⟩) (DisOld.all (bx:=[⟨R3,some 0,0,3,.agg #[.bool nr,.slice ar mr cr,.slice br kr dr],none,[]⟩,⟨R3,some 1,0,6,.agg #[.bool false,.slice none 0 0,.slice none 0 0],none,[]⟩]) ⟨someNe,someNe,trivial⟩) ?_ ?_
 ·exact ⟨.alloc 0 _ rfl rfl (.inr ⟨_,rfl,r3_cs,fun a_ hR=>(hR 0 rfl).trans f0⟩) rfl rfl rfl rfl rfl,.alloc 1 _ rfl rfl (.inl ⟨rfl,rfl⟩) rfl rfl rfl rfl rfl,trivial⟩
 ·intro a1 w1 gs1 hn1 hd1 hBt hr hR hP hX hU
  replace hn:=hn1;replace hd:=hd1.trans hd
  have ne3_6:gs1 0≠gs1 1:=hU 0 1 (by simp) (by simp) (by decide)
  have b3:BoxV R3 w1 (gs1 0) (.agg #[.bool nr,.slice ar mr cr,.slice br kr dr]):=(hX 0 _ rfl).2.2.2
  have f3:=(hX 0 _ rfl).1
  have u3:w.heap.size≤gs1 0:=Nat.le_trans HB.size ((hX 0 _ rfl).2.2.1 (by simp))
  have b6:BoxV R3 w1 (gs1 1) (.agg #[.bool false,.slice none 0 0,.slice none 0 0]):=(hX 1 _ rfl).2.2.2
  have f6:=(hX 1 _ rfl).1
  have u6:w.heap.size≤gs1 1:=Nat.le_trans HB.size ((hX 1 _ rfl).2.2.1 (by simp))
  replace f1:=(hR 1 rfl).trans f1
  replace f2:=(hR 2 rfl).trans f2
  replace Ar:=Ar.rl hr
  replace Sr:=Sr.rl hr
  replace Tr:=Tr.rl hr
  replace HB:=HB.trans (hBt.below HB.size (UpOld.all (bx:=[⟨R3,some 0,0,3,.agg #[.bool nr,.slice ar mr cr,.slice br kr dr],none,[]⟩,⟨R3,some 1,0,6,.agg #[.bool false,.slice none 0 0,.slice none 0 0],none,[]⟩]) ⟨someNe,someNe,trivial⟩))
  have hBl_:=hBt.below (Nat.le_refl _) (UpOld.all (bx:=[⟨R3,some 0,0,3,.agg #[.bool nr,.slice ar mr cr,.slice br kr dr],none,[]⟩,⟨R3,some 1,0,6,.agg #[.bool false,.slice none 0 0,.slice none 0 0],none,[]⟩]) ⟨someNe,someNe,trivial⟩)
  replace LNa:=LNa.below hBl_
  replace LNb:=LNb.below hBl_
  clear hBt hr hR hP hX hU
  refine wp_seq ?_
  refine wp_of_good (by kernel_rfl) (by kernel_rfl) (fun w_0 hb_0=>?_)
  replace b3:=b3.below hb_0
  replace b6:=b6.below hb_0
  replace Ar:=Ar.below hb_0
  replace Sr:=Sr.below hb_0
  replace Tr:=Tr.below hb_0
  replace LNa:=LNa.below hb_0
  replace LNb:=LNb.below hb_0
  replace HB:=HB.trans (hb_0.mono HB.size);clear hb_0
  have nx3_7:(gs1 0)≠La:=lendn_box (by decide) LNa b3
  have nx6_7:(gs1 1)≠La:=lendn_box (by decide) LNa b6
  have nx3_12:(gs1 0)≠Lb:=lendn_box (by decide) LNb b3
  have nx6_12:(gs1 1)≠Lb:=lendn_box (by decide) LNb b6
  refine good6 0 15 none [some 7,some 8,some 9,some 10,some 11,some 12,some 13,some 14,some 15,some 16,some 17,some 18,some 19,some 20,none] [Eqs (.pointer (some ⟨gs1 0,0,none⟩)),Eqs (.pointer (some ⟨gs1 0,0,none⟩)),Eqs (.bool nr),Eqs (.pointer (some ⟨La,0,none⟩)),Eqs (.pointer (some ⟨gs1 0,0,none⟩)),Eqs (.pointer (some ⟨gs1 0,1,none⟩)),Eqs (.slice ar mr cr),IsL ((val rs)) (rs.length),IsW ((sg nr (val rs))) (rs.length),Eqs (.pointer (some ⟨Lb,0,none⟩)),Eqs (.pointer (some ⟨gs1 0,2,none⟩)),Eqs (.slice br kr dr),IsL ((val rt)) (rt.length),IsR ((sg nr (val rs))) ((val rt)) (rs.length+rt.length),Tt] [TrI,TrI,TrI,TrI,TrI,TrI,TrI,LentI,TrI,TrI,TrI,TrI,LentI,TrI,TrI] [(8,7,fun v u=>u=.agg #[.bool nr,v]),(13,8,fun v u=>∃ b s t,v=.agg #[b,s]∧u=.agg #[b,s,t]),(13,12,fun v u=>∃ b s,u=.agg #[b,s,v])] [⟨R3,none,(gs1 1),6,.agg #[.bool false,.slice none 0 0,.slice none 0 0],some (14,20,13),[]⟩] [⟨7,La,LentS La w_0.heap.size rs⟩,⟨12,Lb,LentS Lb w_0.heap.size rt⟩] [] (by kernel_rfl) hn rfl (by kernel_rfl) (by kernel_rfl) (by kernel_rfl) (by kernel_rfl) (by kernel_rfl) (by kernel_rfl) (by kernel_rfl) (by kernel_rfl) (by kernel_rfl) (by decide) ⟨Eqs.mono5 _,Eqs.mono5 _,Eqs.mono5 _,Eqs.mono5 _,Eqs.mono5 _,Eqs.mono5 _,Eqs.mono5 _,IsL.mono5 _ _,IsW.mono5 _ _,Eqs.mono5 _,Eqs.mono5 _,Eqs.mono5 _,IsL.mono5 _ _,IsR.mono5 _ _ _,True.mono5,trivial⟩ ⟨TrI.mono6,TrI.mono6,TrI.mono6,TrI.mono6,TrI.mono6,TrI.mono6,TrI.mono6,LentI.mono6,TrI.mono6,TrI.mono6,TrI.mono6,TrI.mono6,LentI.mono6,TrI.mono6,TrI.mono6,trivial⟩ (xok_two (by decide) hab LNa.lt LNb.lt (NeOld.all (bx:=[⟨R3,none,(gs1 1),6,.agg #[.bool false,.slice none 0 0,.slice none 0 0],some (14,20,13),[]⟩]) ⟨fun _=>nx6_7,trivial⟩) (NeOld.all (bx:=[⟨R3,none,(gs1 1),6,.agg #[.bool false,.slice none 0 0,.slice none 0 0],some (14,20,13),[]⟩]) ⟨fun _=>nx6_12,trivial⟩) LentS.pres LentS.pres) (ok_cons R3ok ok_nil) (IsOld.all (bx:=[⟨R3,none,(gs1 1),6,.agg #[.bool false,.slice none 0 0,.slice none 0 0],some (14,20,13),[]⟩]) ⟨fun _=>⟨f6,b6⟩,trivial⟩) (DisOld.all (bx:=[⟨R3,none,(gs1 1),6,.agg #[.bool false,.slice none 0 0,.slice none 0 0],some (14,20,13),[]⟩]) ⟨fun _=>trivial,trivial⟩) trivial ?_ ?_ ?_
  ·exact ⟨.inr (.norm 7 rfl rfl (nxt rfl) rfl (fun a_ w_ _ t r R D _ _=>d6 rfl (op_faR fa_num ((R 3 rfl).trans f3)))),.inr (.norm 8 rfl rfl (nxt rfl) rfl (fun a_ w_ _ t r R D _ _=>d6 rfl (op_fa fa_neg (show a_.eval (.tmp 7)=.pointer (some ⟨gs1 0,0,none⟩) from D 0 rfl)))),.inr (.norm 9 rfl rfl (nxt rfl) rfl (fun a_ w_ _ t r R D _ _=>d6 rfl (op_ldrneg (show a_.eval (.tmp 8)=.pointer (some ⟨gs1 0,0,none⟩) from D 1 rfl) (b3.keep5 t ⟨fun _=>ne3_6.symm,trivial⟩ ⟨(nx3_7).symm,(nx3_12).symm,trivial⟩)))),.inr (.norm 10 rfl rfl (nxt rfl) rfl (fun a_ w_ _ t r R D _ _=>d6 rfl (op_mv ((R 1 rfl).trans f1)))),.inr (.norm 11 rfl rfl (nxt rfl) rfl (fun a_ w_ _ t r R D _ _=>d6 rfl (op_faR fa_num ((R 3 rfl).trans f3)))),.inr (.norm 12 rfl rfl (nxt rfl) rfl (fun a_ w_ _ t r R D _ _=>d6 rfl (op_fa fa_mag (show a_.eval (.tmp 11)=.pointer (some ⟨gs1 0,0,none⟩) from D 4 rfl)))),.inr (.norm 13 rfl rfl (nxt rfl) rfl (fun a_ w_ hn_ t r R D hO hS=>d6 rfl (op_ldrmag (show a_.eval (.tmp 12)=.pointer (some ⟨gs1 0,1,none⟩) from D 5 rfl) (b3.keep5 t ⟨fun _=>ne3_6.symm,trivial⟩ ⟨(nx3_7).symm,(nx3_12).symm,trivial⟩)))),.inr (.touch ⟨7,La,LentS La w_0.heap.size rs⟩ (by simp) rfl 14 rfl rfl rfl rfl (fun a_ w_ hn_ t r R D hO hS hm_=>op_lendI (gL:=La) (K:=w_0.heap.size) rfl (show a_.eval (.tmp 10)=.pointer (some ⟨La,0,none⟩) from D 3 rfl) (show a_.eval (.tmp 13)=.slice ar mr cr from D 6 rfl) (hm_.trans LNa) (Tr.ru r) (by omega) (lendn_sl LNa Tr) t.size)),.inr (.norm 15 rfl rfl (nxt rfl) rfl (fun a_ w_ _ t r R D _ _=>op_bWl2 (by decide) rfl (show a_.eval (.tmp 9)=.bool nr from D 2 rfl) (show IsL ((val rs)) (rs.length) (a_.eval (.tmp 14)) w_ from D 7 rfl))),.inr (.norm 16 rfl rfl (nxt rfl) rfl (fun a_ w_ _ t r R D _ _=>d6 rfl (op_mv ((R 2 rfl).trans f2)))),.inr (.norm 17 rfl rfl (nxt rfl) rfl (fun a_ w_ _ t r R D _ _=>d6 rfl (op_faR fa_den ((R 3 rfl).trans f3)))),.inr (.norm 18 rfl rfl (nxt rfl) rfl (fun a_ w_ hn_ t r R D hO hS=>d6 rfl (op_ldden (show a_.eval (.tmp 17)=.pointer (some ⟨gs1 0,2,none⟩) from D 10 rfl) (b3.keep5 t ⟨fun _=>ne3_6.symm,trivial⟩ ⟨(nx3_7).symm,(nx3_12).symm,trivial⟩)))),.inr (.touch ⟨12,Lb,LentS Lb w_0.heap.size rt⟩ (by simp) rfl 19 rfl rfl rfl rfl (fun a_ w_ hn_ t r R D hO hS hm_=>op_lendI (gL:=Lb) (K:=w_0.heap.size) rfl (show a_.eval (.tmp 16)=.pointer (some ⟨Lb,0,none⟩) from D 9 rfl) (show a_.eval (.tmp 18)=.slice br kr dr from D 11 rfl) (hm_.trans LNb) (Sr.ru r) (by omega) (lendn_sl LNb Sr) t.size)),.inr (.norm 20 rfl rfl (nxt rfl) rfl (fun a_ w_ _ t r R D _ _=>op_bRl (by decide) rfl rfl (show IsW ((sg nr (val rs))) (rs.length) (a_.eval (.tmp 15)) w_ from D 8 rfl) (show IsL ((val rt)) (rt.length) (a_.eval (.tmp 19)) w_ from D 12 rfl) (by omega) (by omega))),.inr (.store 0 _ _ _ rfl rfl rfl rfl rfl rfl rfl rfl rfl (nxt rfl) (fun ia h=>by cases h) rfl rfl rfl IsR.cs),trivial⟩
  ·exact fun _ _ h=>by cases h
  ·intro _ a2 w2 gs2 B2 T2 F_
   obtain ⟨hn2,hd2,hBt,hr,hR,hP,hTs,hLi,hX,hU,hRel,hSl⟩:=F_
   replace hn:=hn2;replace hd:=hd2.trans hd
   obtain ⟨ga,ea_,LSa,uga,lga⟩:=hTs ⟨7,La,LentS La w_0.heap.size rs⟩ (by simp) (show 7<15 by decide)
   obtain ⟨gb,eb_,LSb,ugb,lgb⟩:=hTs ⟨12,Lb,LentS Lb w_0.heap.size rt⟩ (by simp) (show 12<15 by decide)
   obtain ⟨_,_,_,⟨ga',na_,ca_,ea2_,ba1_,ba2_⟩,ja_⟩:=hLi 7 (by decide) (by decide)
   obtain ⟨_,_,_,⟨gb',nb_,cb_,eb2_,bb1_,bb2_⟩,_⟩:=hLi 12 (by decide) (by decide)
   have hgab:ga≠gb:=by (have h1:=ea_.symm.trans ea2_;have h2:=eb_.symm.trans eb2_;have h3:=ja_ 12 (by decide) (by decide) (by decide);simp only [Value.slice.injEq,Option.some.injEq,Addr.mk.injEq,and_true] at h1 h2;omega)
   have r1_:a2.eval (.tmp 15)=.agg #[.bool nr,a2.eval (.tmp 14)]:=hRel (8,7,fun v u=>u=.agg #[.bool nr,v]) (by simp) (show 0≤8 by decide) (show 8<15 by decide)
   obtain ⟨b1_,s1_,t1_,e1_,e2_⟩:∃ b s t,a2.eval (.tmp 15)=.agg #[b,s]∧a2.eval (.tmp 20)=.agg #[b,s,t]:=hRel (13,8,fun v u=>∃ b s t,v=.agg #[b,s]∧u=.agg #[b,s,t]) (by simp) (show 0≤13 by decide) (show 13<15 by decide)
   obtain ⟨b2_,s2_,e3_⟩:∃ b s,a2.eval (.tmp 20)=.agg #[b,s,a2.eval (.tmp 19)]:=hRel (13,12,fun v u=>∃ b s,u=.agg #[b,s,v]) (by simp) (show 0≤13 by decide) (show 13<15 by decide)
   have e20:a2.eval (.tmp 20)=.agg #[.bool nr,.slice (some ⟨ga,5,none⟩) rs.length (rs.length+5),.slice (some ⟨gb,5,none⟩) rt.length (rt.length+5)]:=by (rw [show a2.eval (.tmp 14) = _ from ea_,e1_] at r1_;rw [show a2.eval (.tmp 19) = _ from eb_,e2_] at e3_;rw [e2_];simp only [Value.agg.injEq,Array.mk.injEq,List.cons.injEq,and_true] at r1_ e3_ ⊢;exact ⟨r1_.1,r1_.2,e3_.2.2⟩)
   have b6:BoxV R3 w2 ((gs1 1)) (.agg #[.bool nr,.slice (some ⟨ga,5,none⟩) rs.length (rs.length+5),.slice (some ⟨gb,5,none⟩) rt.length (rt.length+5)]):=boxv_old ((hX 0 _ rfl).2.1 rfl) (hX 0 _ rfl).2.2.2 e20
   replace f6:a2.eval (.tmp 6) = _:=(hR 6 rfl).trans f6
   replace Ar:=Ar.ru hr
   replace Sr:=Sr.ru hr
   replace Tr:=Tr.ru hr
   have HX:=touch2_of HB hBt (show UpOld w.heap.size [⟨R3,none,(gs1 1),6,.agg #[.bool false,.slice none 0 0,.slice none 0 0],some (14,20,13),[]⟩] from ⟨fun _=>u6,trivial⟩);have hz_:=HB.size
   clear hBt hr hR hP hTs hLi hX hU hRel hSl
   refine wp_ret ?_
   repeat (first | refine then_ret ?_ | refine scope_ret ?_ | refine block_ret ?_)
   exact bodyPost_ret (v:=.agg #[.bool nr,.slice (some ⟨ga,5,none⟩) rs.length (rs.length+5),.slice (some ⟨gb,5,none⟩) rt.length (rt.length+5)]) (res_c rfl f6 (lv_R3 b6)) hd ⟨ga,gb,rfl,LSa,LSb,Nat.le_trans hz_ uga,Nat.le_trans hz_ ugb,hgab,HX⟩
end Lm
end Go.Proofs.YtpofkigboedliaaGreat

namespace Go.Proofs.YtpofkigboedliaaGreat
namespace Lm
open Go Go.RowKit
open Dm (WFr)
theorem Kp.both {w w1 w2:World} {p:Nat} {bs bs' : List Nat} (h:Kp w w1 p bs) (h' : Kp w1 w2 p bs'):Kp w w2 p (bs ++ bs') :=
  ⟨h'.os.trans h.os,h'.tape.trans h.tape,h'.output.trans h.output,Nat.le_trans h.size h'.size,fun k hk hp hn=>(h'.other k (Nat.lt_of_lt_of_le hk h.size) hp (fun hm=>hn (List.mem_append.2 (.inr hm)))).trans (h.other k hk hp (fun hm=>hn (List.mem_append.2 (.inl hm))))⟩
set_option maxRecDepth 20000 in
set_option maxHeartbeats 1000000 in
theorem ownRatio_b (w:World) (p Q n:Nat) (bs:List Nat) (hb:Bs w p Q bs n) (hn:n≤900) (B1 T1 B2 T2:Nat) (ng:Bool) (ao bo:Option Addr) (cap dap:Nat) (rs ss:List Int) (x y:Int) (h:Fr B1 T1 w ao cap rs x) (h' : Fr B2 T2 w bo dap ss y) (hQB:Q≤B1) (hQB' : Q≤B2) (hQ:Q≤w.heap.size) (ht:T1≤w.heap.size) (ht' : T2≤w.heap.size) (hd:∀ j,j ∈ bs→j<B1∨T1≤j) (hd' : ∀ j,j ∈ bs→j<B2∨T2≤j) (hdd:T1≤B2∨T2≤B1) (hp:p<B2∨T2≤p) :
    Calls Tryz.prog 20 #[.pointer (some ⟨p,0,none⟩),.agg #[.bool ng,.slice ao rs.length cap,.slice bo ss.length dap]] w fun e w'=>e=.returned (.bool true)∧∃ bs' ks,Bs w' p Q bs' (n+2)∧Kp w w' p ks∧(∀ j,j ∈ bs'∨j ∈ ks→j ∈ bs∨w.heap.size≤j∨(B1≤j∧j<T1)∨(B2≤j∧j<T2)):=by
  have hb0:Below w.heap.size w (w.alloc (.cells #[.bool ng,.slice ao rs.length cap,.slice bo ss.length dap] 26)):=(Below.refl _ _).alloc (Nat.le_refl _) _
  have hr0:=heap_alloc_new w (.cells #[.bool ng,.slice ao rs.length cap,.slice bo ss.length dap] 26)
  obtain ⟨w0,e0⟩:∃ w0,w.alloc (.cells #[.bool ng,.slice ao rs.length cap,.slice bo ss.length dap] 26)=w0:=⟨_,rfl⟩
  rw [e0] at hb0 hr0
  have hlt:=lt_of_heap hr0
  have hpl:=hb.lt.2
  have hbl:=fun j hj=>(hb.low j hj).2
  have E0:=hide e0
  have R0:=hide hr0
  clear e0
  go_enter Tryz.func20,Tryz.ntmps20
  go_upto_region 1 with fail
  rw [E0.out]
  obtain ⟨c1,c2,c3,c4,c5,c6⟩:=r3_facts hr0
  clear hr0
  go_wp2_with fail
  refine (own_b _ _ _ _ bs (hb.below hb0) (by omega) _ _ _ _ _ _ (h.below hb0) hQB (by have:=hb0.size;omega) hd).mono ?_
  rintro e w1 ⟨rfl,bs1,BK1,k1,j1⟩
  have J1:∀ j,j ∈ bs1→j ∈ bs∨w0.heap.size≤j∨(B1≤j∧j<T1):=j1
  have hr1:w1.heap[w.heap.size]? = some (.cells #[.bool ng,.slice ao rs.length cap,.slice bo ss.length dap] 26 (0,0)):=(k1.other w.heap.size hlt (by omega) (fun hm=>by rcases J1 _ hm with q | q | q;have:=hbl _ q;omega;omega;omega)).trans R0.out
  have H1:=(h'.below hb0).kp k1 hp (fun j hj=>by have:=hb0.size;rcases J1 j hj with q | q | q;exact hd' j q;omega;omega)
  clear c1 c2 c3 c4 c5 c6 j1
  obtain ⟨c1,c2,c3,c4,c5,c6⟩:=r3_facts hr1
  go_wp2_with fail
  refine (own_b _ _ _ _ bs1 BK1 (by omega) _ _ _ _ _ _ H1 hQB' (by have:=hb0.size;have:=k1.size;omega) (fun j hj=>by have:=hb0.size;rcases J1 j hj with q | q | q;exact hd' j q;omega;omega)).mono ?_
  rintro e w2 ⟨rfl,bs2,BK2,k2,j2⟩
  clear c1 c2 c3 c4 c5 c6
  go_wp2
  go_ret
  have z0:=hb0.size
  have z1:=k1.size
  have J2:∀ j,j ∈ bs2→j ∈ bs∨w.heap.size≤j∨(B1≤j∧j<T1)∨(B2≤j∧j<T2):=by
    intro j hj
    rcases j2 j hj with q | q | q
    · rcases J1 j q with r | r | r
      · exact .inl r
      · exact .inr (.inl (by omega))
      · exact .inr (.inr (.inl r))
    · exact .inr (.inl (by omega))
    · exact .inr (.inr (.inr q))
  refine ⟨rfl,bs2,bs1 ++ bs2,BK2,(k1.both k2).from hb0,fun j hj=>?_⟩
  rcases hj with hj | hj
  · exact J2 j hj
  · rcases List.mem_append.1 hj with hj | hj
    · rcases J1 j hj with r | r | r
      · exact .inl r
      · exact .inr (.inl (by omega))
      · exact .inr (.inr (.inl r))
    · exact J2 j hj
section
variable {dst:Option Tmp} {ty:TypeId} {pos:String} {after:Array Edge} {guard:Option (Nat × Bool)} {a:Act} {w:World} {ats:Array TypeId} {i j:Nat} {x y:Int}
theorem has_ownr:Has Tryz.prog 20:=by unfold Has;kernel_rfl
theorem op_ownr {p Q n B1 T1 B2 T2:Nat} {bs:List Nat} {ng:Bool} {ao bo:Option Addr} {cap dap:Nat} {rs ss:List Int} (hp:a.eval (.tmp i)=.pointer (some ⟨p,0,none⟩)) (hv:a.eval (.tmp j)=.agg #[.bool ng,.slice ao rs.length cap,.slice bo ss.length dap]) (hb:Bs w p Q bs n) (hn:n≤900) (h:WFr B1 T1 w ng ao cap rs x) (h' : Fr B2 T2 w bo dap ss y) (hQB:Q≤B1) (hQB' : Q≤B2) (hQ:Q≤w.heap.size) (ht:T1≤w.heap.size) (ht' : T2≤w.heap.size) (hd:∀ j,j ∈ bs→j<B1∨T1≤j) (hd' : ∀ j,j ∈ bs→j<B2∨T2≤j) (hdd:T1≤B2∨T2≤B1) (hpp:p<B2∨T2≤p) :
    Does Tryz.prog { dst,op:=.call { callee:=.value (.func 20),args:=#[.tmp i,.tmp j],argTypes:=ats },type:=ty,pos,after,guard } a.eval w fun v w'=>v=.bool true∧∃ bs' ks,Bs w' p Q bs' (n+2)∧Kp w w' p ks∧(∀ j,j ∈ bs'∨j ∈ ks→j ∈ bs∨w.heap.size≤j∨(B1≤j∧j<T1)∨(B2≤j∧j<T2)):=by
  refine does_call has_ownr _ (by simp only [List.map_toArray,List.map_cons,List.map_nil,hp,hv]) ((ownRatio_b w p Q n bs hb hn B1 T1 B2 T2 ng ao bo cap dap rs ss _ _ h.fr h' hQB hQB' hQ ht ht' hd hd' hdd hpp).mono ?_)
  rintro e w' ⟨rfl,h1⟩
  exact ⟨_,rfl,rfl,h1⟩
end
end Lm
end Go.Proofs.YtpofkigboedliaaGreat

namespace Go.Proofs.YtpofkigboedliaaGreat
namespace Dm
open Go Go.RowKit
theorem Sl.rl {w w' : World} {v:Value} {zs:List Int} (h:Sl w v zs) (hr:Lm.Rl w w'):Sl w' v zs:=by
  obtain ⟨ao,cap,rfl,h1,h2,h3,h4⟩:=h
  refine ⟨ao,cap,rfl,h1,h2,h3,?_⟩
  rcases h4 with h4 | ⟨b,off,rfl,hc⟩
  · exact .inl h4
  · exact .inr ⟨b,off,rfl,fun i hi=>hr.ints _ _ _ (hc i hi)⟩
theorem Wh.rl {w w' : World} {ng:Bool} {ao:Option Addr} {cap:Nat} {rs:List Int} {z:Int} (h:Wh w ng ao cap rs z) (hr:Lm.Rl w w'):Wh w' ng ao cap rs z:=⟨⟨h.1.1.rl hr,h.1.2⟩,h.2⟩
theorem pw_small (n:Nat):pw n≤Lm.pw n:=by
  induction n with
  | zero=>simp [pw,Lm.pw]
  | succ n ih =>
    have:=pw_pos n
    simp only [pw,Lm.pw]
    omega
theorem Wh.bound {w:World} {ng:Bool} {ao:Option Addr} {cap:Nat} {rs:List Int} {z:Int} {L:Nat} (h:Wh w ng ao cap rs z) (hl:rs.length≤L):(z.natAbs:Int)<Lm.pw L:=by
  have h1:=(val_bounds h.1.canon.1).2
  rw [h.1.val] at h1
  have h2:=pw_mono hl
  have h3:=pw_small L
  omega
theorem Wh.some {w:World} {ng:Bool} {ao:Option Addr} {cap:Nat} {rs:List Int} {z:Int} (h:Wh w ng ao cap rs z) (hz:z≠0):0<rs.length:=by
  apply Classical.byContradiction
  intro hn
  exact hz (h.zero.2 (List.eq_nil_of_length_eq_zero (by omega)))
end Dm
namespace Lm
open Go Go.RowKit
def N2:BoxTy:=⟨54,.agg #[.bool false,.slice none 0 0],fun v cs=>∃ ng ao n c,v=.agg #[.bool ng,.slice ao n c]∧cs = #[.bool ng,.slice ao n c]⟩
theorem N2ok:BoxOk Tryz.prog N2 where
  noInt:=by
    rintro v cs ⟨ng,ao,n,c,rfl,rfl⟩ i k z
    match i with
    | 0=>simp
    | 1=>simp
    | i+2=>simp
  ne:=by unfold N2;exact ⟨by decide,by decide⟩
  alloc:=fun w=>⟨#[.bool false,.slice none 0 0],⟨_,_,_,_,rfl,rfl⟩,by unfold N2;go_simp⟩
  box:=by
    rintro w v ⟨cs,ng,ao,n,c,rfl,rfl⟩
    exact ⟨_,⟨_,_,_,_,rfl,rfl⟩,by unfold N2;go_simp⟩
  store:=by
    rintro w g v0 v ⟨cs0,⟨m,bo,p,d,rfl,rfl⟩,hh⟩ ⟨cs,ng,ao,n,c,rfl,rfl⟩
    have hb:Dm.Box w g m (.slice bo p d):=hh
    obtain ⟨b1,b2,b3,b4⟩:=hb.facts
    refine ⟨(w.setCell ⟨g,0,none⟩ (.bool ng)).setCell ⟨g,1,none⟩ (.slice ao n c),?_,⟨_,⟨_,_,_,_,rfl,rfl⟩,hb.set ng (.slice ao n c)⟩,⟨rfl,rfl,rfl,by simp [World.setCell],fun k hk=>?_⟩⟩
    · unfold N2
      go_simp
    · rw [Below.heap_setCell _ _ _ _ (by simpa using hk),Below.heap_setCell _ _ _ _ (by simpa using hk)]
  load:=by
    rintro w g v ⟨cs,⟨ng,ao,n,c,rfl,rfl⟩,hh⟩
    obtain ⟨b1,b2,b3,b4⟩:=(show Dm.Box w g ng (.slice ao n c) from hh).facts
    unfold N2
    go_simp
def Q4:BoxTy:=⟨56,.agg #[.bool false,.slice none 0 0,.bool false,.slice none 0 0],fun v cs=>∃ ng ao n c mg bo m d,v=.agg #[.bool ng,.slice ao n c,.bool mg,.slice bo m d]∧cs = #[.bool ng,.slice ao n c,.bool mg,.slice bo m d]⟩
theorem q4_facts {w:World} {g:Nat} {x y z u:Value} {T:TypeId} (h:w.heap[g]? = some (.cells #[x,y,z,u] T (0,0))):w.cell? ⟨g,0,none⟩ = some x∧w.cell? ⟨g,1,none⟩ = some y∧w.cell? ⟨g,2,none⟩ = some z∧w.cell? ⟨g,3,none⟩ = some u∧w.frozen? ⟨g,0,none⟩ = false∧w.frozen? ⟨g,1,none⟩ = false∧w.frozen? ⟨g,2,none⟩ = false∧w.frozen? ⟨g,3,none⟩ = false :=
  ⟨by rw [cell_of_row _ _ _ _ _ (0,0) h];rfl,by rw [cell_of_row _ _ _ _ _ (0,0) h];rfl,by rw [cell_of_row _ _ _ _ _ (0,0) h];rfl,by rw [cell_of_row _ _ _ _ _ (0,0) h];rfl,frozen_of_row _ _ _ _ _ h,frozen_of_row _ _ _ _ _ h,frozen_of_row _ _ _ _ _ h,frozen_of_row _ _ _ _ _ h⟩
theorem Q4ok:BoxOk Tryz.prog Q4 where
  noInt:=by
    rintro v cs ⟨ng,ao,n,c,mg,bo,m,d,rfl,rfl⟩ i k z
    match i with
    | 0=>simp
    | 1=>simp
    | 2=>simp
    | 3=>simp
    | i+4=>simp
  ne:=by unfold Q4;exact ⟨by decide,by decide⟩
  alloc:=fun w=>⟨#[.bool false,.slice none 0 0,.bool false,.slice none 0 0],⟨_,_,_,_,_,_,_,_,rfl,rfl⟩,by unfold Q4;go_simp⟩
  box:=by
    rintro w v ⟨cs,ng,ao,n,c,mg,bo,m,d,rfl,rfl⟩
    exact ⟨_,⟨_,_,_,_,_,_,_,_,rfl,rfl⟩,by unfold Q4;go_simp⟩
  store:=by
    rintro w g v0 v ⟨cs0,⟨m,bo,p,d,mg,b2,d2,e2,rfl,rfl⟩,hh⟩ ⟨cs,ng,ao,n,c,m2,co,q,f,rfl,rfl⟩
    obtain ⟨b1,b2,b3,b4,b5,b6,b7,b8⟩:=q4_facts hh
    have h1:=heap_setCell_same w g 0 _ _ (.bool ng) hh
    have h2:=heap_setCell_same _ g 1 _ _ (.slice ao n c) h1
    have h3:=heap_setCell_same _ g 2 _ _ (.bool m2) h2
    have h4:=heap_setCell_same _ g 3 _ _ (.slice co q f) h3
    refine ⟨(((w.setCell ⟨g,0,none⟩ (.bool ng)).setCell ⟨g,1,none⟩ (.slice ao n c)).setCell ⟨g,2,none⟩ (.bool m2)).setCell ⟨g,3,none⟩ (.slice co q f),?_,⟨_,⟨_,_,_,_,_,_,_,_,rfl,rfl⟩,h4⟩,⟨rfl,rfl,rfl,by simp [World.setCell],fun k hk=>?_⟩⟩
    · unfold Q4
      go_simp
    · rw [Below.heap_setCell _ _ _ _ (by simpa using hk),Below.heap_setCell _ _ _ _ (by simpa using hk),Below.heap_setCell _ _ _ _ (by simpa using hk),Below.heap_setCell _ _ _ _ (by simpa using hk)]
  load:=by
    rintro w g v ⟨cs,⟨ng,ao,n,c,mg,bo,m,d,rfl,rfl⟩,hh⟩
    obtain ⟨b1,b2,b3,b4,b5,b6,b7,b8⟩:=q4_facts hh
    unfold Q4
    go_simp
def OutN (z:Int) (L:Nat):Says:=fun v w=>∃ ng ao cap rs,v=.agg #[.bool ng,.slice ao rs.length cap]∧Dm.Wh w ng ao cap rs z∧rs.length≤L
def OutQ (p q:Int) (L:Nat):Says:=fun v w=>∃ ng ao cap rs mg bo dap ss,v=.agg #[.bool ng,.slice ao rs.length cap,.bool mg,.slice bo ss.length dap]∧Dm.Wh w ng ao cap rs p∧Dm.Wh w mg bo dap ss q∧rs.length≤L∧ss.length≤L
theorem OutN.mono4 (z:Int) (L:Nat):Mono4 (OutN z L):=fun _ _ _ hb ⟨ng,ao,cap,rs,e,h,l⟩=>⟨ng,ao,cap,rs,e,h.rl hb,l⟩
theorem OutQ.mono4 (p q:Int) (L:Nat):Mono4 (OutQ p q L):=fun _ _ _ hb ⟨ng,ao,cap,rs,mg,bo,dap,ss,e,h,h',l,l'⟩=>⟨ng,ao,cap,rs,mg,bo,dap,ss,e,h.rl hb,h'.rl hb,l,l'⟩
theorem OutN.to {z z' : Int} {L L' : Nat} {v:Value} {w:World} (h:OutN z L v w) (e:z=z') (hl:L≤L'):OutN z' L' v w:=by
  subst e
  obtain ⟨ng,ao,cap,rs,e',h,l⟩:=h
  exact ⟨ng,ao,cap,rs,e',h,Nat.le_trans l hl⟩
theorem OutQ.to {p q p' q' : Int} {L L' : Nat} {v:Value} {w:World} (h:OutQ p q L v w) (e:p=p') (e' : q=q') (hl:L≤L'):OutQ p' q' L' v w:=by
  subst e e'
  obtain ⟨ng,ao,cap,rs,mg,bo,dap,ss,e,h,h',l,l'⟩:=h
  exact ⟨ng,ao,cap,rs,mg,bo,dap,ss,e,h,h',Nat.le_trans l hl,Nat.le_trans l' hl⟩
theorem OutN.cs {z:Int} {L:Nat} (v:Value) (w:World) (h:OutN z L v w):∃ cs,N2.Cs v cs:=by
  obtain ⟨ng,ao,cap,rs,rfl,_⟩:=h
  exact ⟨_,_,_,_,_,rfl,rfl⟩
theorem OutQ.cs {p q:Int} {L:Nat} (v:Value) (w:World) (h:OutQ p q L v w):∃ cs,Q4.Cs v cs:=by
  obtain ⟨ng,ao,cap,rs,mg,bo,dap,ss,rfl,_⟩:=h
  exact ⟨_,_,_,_,_,_,_,_,_,rfl,rfl⟩
theorem n2_cs {ng:Bool} {ao:Option Addr} {n c:Nat} : ∃ cs,N2.Cs (.agg #[.bool ng,.slice ao n c]) cs:=⟨_,_,_,_,_,rfl,rfl⟩
theorem q4_cs {ng mg:Bool} {ao bo:Option Addr} {n c m d:Nat} : ∃ cs,Q4.Cs (.agg #[.bool ng,.slice ao n c,.bool mg,.slice bo m d]) cs:=⟨_,_,_,_,_,_,_,_,_,rfl,rfl⟩
theorem outn_eq {v:Value} {w:World} {ng:Bool} {ao:Option Addr} {c:Nat} {rs:List Int} {z:Int} {L:Nat} (h:v=.agg #[.bool ng,.slice ao rs.length c]) (hA:Dm.Wh w ng ao c rs z) (hl:rs.length≤L):OutN z L v w:=⟨_,_,_,_,h,hA,hl⟩
theorem outq_eq {v:Value} {w:World} {ng mg:Bool} {ao bo:Option Addr} {c d:Nat} {rs ss:List Int} {p q:Int} {L:Nat} (h:v=.agg #[.bool ng,.slice ao rs.length c,.bool mg,.slice bo ss.length d]) (hA:Dm.Wh w ng ao c rs p) (hB:Dm.Wh w mg bo d ss q) (hl:rs.length≤L) (hl' : ss.length≤L):OutQ p q L v w:=⟨_,_,_,_,_,_,_,_,h,hA,hB,hl,hl'⟩
theorem n2_row {w:World} {g:Nat} {ng:Bool} {ao:Option Addr} {n c:Nat} (h:BoxV N2 w g (.agg #[.bool ng,.slice ao n c])):Dm.Box w g ng (.slice ao n c):=by
  obtain ⟨cs,⟨_,_,_,_,e,rfl⟩,h⟩:=h
  simp only [Value.agg.injEq] at e
  simp only [Array.mk.injEq,List.cons.injEq,Value.bool.injEq,Value.slice.injEq,and_true] at e
  obtain ⟨rfl,rfl,rfl,rfl⟩:=e
  exact h
theorem q4_row {w:World} {g:Nat} {ng mg:Bool} {ao bo:Option Addr} {n c m d:Nat} (h:BoxV Q4 w g (.agg #[.bool ng,.slice ao n c,.bool mg,.slice bo m d])):w.heap[g]? = some (.cells #[.bool ng,.slice ao n c,.bool mg,.slice bo m d] 56 (0,0)):=by
  obtain ⟨cs,⟨_,_,_,_,_,_,_,_,e,rfl⟩,h⟩:=h
  simp only [Value.agg.injEq] at e
  simp only [Array.mk.injEq,List.cons.injEq,Value.bool.injEq,Value.slice.injEq,and_true] at e
  obtain ⟨rfl,⟨rfl,rfl,rfl⟩,rfl,rfl,rfl,rfl⟩:=e
  exact h
theorem lv_N2 {w:World} {g:Nat} {v:Value} (h:BoxV N2 w g v):(loadVar 54 ⟨g,0,none⟩).run Tryz.prog w=.ok v w:=by
  obtain ⟨cs,⟨ng,ao,n,c,rfl,rfl⟩,hh⟩:=h
  obtain ⟨b1,b2,b3,b4⟩:=(show Dm.Box w g ng (.slice ao n c) from hh).facts
  go_simp
theorem lv_Q4 {w:World} {g:Nat} {v:Value} (h:BoxV Q4 w g v):(loadVar 56 ⟨g,0,none⟩).run Tryz.prog w=.ok v w:=by
  obtain ⟨cs,⟨ng,ao,n,c,mg,bo,m,d,rfl,rfl⟩,hh⟩:=h
  obtain ⟨b1,b2,b3,b4,b5,b6,b7,b8⟩:=q4_facts hh
  go_simp
section
variable {dst:Option Tmp} {ty:TypeId} {pos:String} {after:Array Edge} {guard:Option (Nat × Bool)} {a:Act} {w:World} {ats:Array TypeId} {i j k g:Nat} {x y z p q:Int} {L L1 L2:Nat}
theorem op_faN {f off:Nat} (hf:∀ w:World,(Instr.fieldAt 54 (.pointer (some ⟨g,0,none⟩)) f).run Tryz.prog w=.ok (.pointer (some ⟨g,off,none⟩)) w) (hp:a.eval (.tmp k)=.pointer (some ⟨g,0,none⟩)) :
    Does Tryz.prog { dst,op:=.fieldAddr 54 (.tmp k) f,type:=ty,pos,after,guard } a.eval w fun v' w'=>Below w.heap.size w w'∧Eqs (.pointer (some ⟨g,off,none⟩)) v' w' := by
  refine ⟨?_⟩
  unfold Turns
  simp only [execOp,hp]
  simp [hf]
  exact ⟨Below.refl _ _,rfl⟩
theorem fa_nneg (w:World):(Instr.fieldAt 54 (.pointer (some ⟨g,0,none⟩)) 0).run Tryz.prog w=.ok (.pointer (some ⟨g,0,none⟩)) w:=by go_simp
theorem op_faQ {f off:Nat} (hf:∀ w:World,(Instr.fieldAt 56 (.pointer (some ⟨g,0,none⟩)) f).run Tryz.prog w=.ok (.pointer (some ⟨g,off,none⟩)) w) (hp:a.eval (.tmp k)=.pointer (some ⟨g,0,none⟩)) :
    Does Tryz.prog { dst,op:=.fieldAddr 56 (.tmp k) f,type:=ty,pos,after,guard } a.eval w fun v' w'=>Below w.heap.size w w'∧Eqs (.pointer (some ⟨g,off,none⟩)) v' w' := by
  refine ⟨?_⟩
  unfold Turns
  simp only [execOp,hp]
  simp [hf]
  exact ⟨Below.refl _ _,rfl⟩
theorem fa_q0 (w:World):(Instr.fieldAt 56 (.pointer (some ⟨g,0,none⟩)) 0).run Tryz.prog w=.ok (.pointer (some ⟨g,0,none⟩)) w:=by go_simp
theorem fa_q1 (w:World):(Instr.fieldAt 56 (.pointer (some ⟨g,0,none⟩)) 1).run Tryz.prog w=.ok (.pointer (some ⟨g,2,none⟩)) w:=by go_simp
theorem op_ldnneg {ng:Bool} {ao:Option Addr} {n c:Nat} (hp:a.eval (.tmp k)=.pointer (some ⟨g,0,none⟩)) (hb:BoxV N2 w g (.agg #[.bool ng,.slice ao n c])) :
    Does Tryz.prog { dst,op:=.load 4 (.tmp k),type:=ty,pos,after,guard } a.eval w fun v' w'=>Below w.heap.size w w'∧Eqs (.bool ng) v' w' := by
  obtain ⟨b1,b2,b3,b4⟩:=(n2_row hb).facts
  refine does_load (v:=.bool ng) ?_ ⟨Below.refl _ _,rfl⟩
  rw [hp]
  go_simp
theorem op_ldq0 {ng mg:Bool} {ao bo:Option Addr} {n c m d:Nat} (hp:a.eval (.tmp k)=.pointer (some ⟨g,0,none⟩)) (hb:BoxV Q4 w g (.agg #[.bool ng,.slice ao n c,.bool mg,.slice bo m d])) :
    Does Tryz.prog { dst,op:=.load 54 (.tmp k),type:=ty,pos,after,guard } a.eval w fun v' w'=>Below w.heap.size w w'∧Eqs (.agg #[.bool ng,.slice ao n c]) v' w' := by
  obtain ⟨b1,b2,b3,b4,b5,b6,b7,b8⟩:=q4_facts (q4_row hb)
  refine does_load (v:=.agg #[.bool ng,.slice ao n c]) ?_ ⟨Below.refl _ _,rfl⟩
  rw [hp]
  go_simp
theorem op_ldq1 {ng mg:Bool} {ao bo:Option Addr} {n c m d:Nat} (hp:a.eval (.tmp k)=.pointer (some ⟨g,2,none⟩)) (hb:BoxV Q4 w g (.agg #[.bool ng,.slice ao n c,.bool mg,.slice bo m d])) :
    Does Tryz.prog { dst,op:=.load 54 (.tmp k),type:=ty,pos,after,guard } a.eval w fun v' w'=>Below w.heap.size w w'∧Eqs (.agg #[.bool mg,.slice bo m d]) v' w' := by
  obtain ⟨b1,b2,b3,b4,b5,b6,b7,b8⟩:=q4_facts (q4_row hb)
  refine does_load (v:=.agg #[.bool mg,.slice bo m d]) ?_ ⟨Below.refl _ _,rfl⟩
  rw [hp]
  go_simp
theorem op_bQ (h1:OutN p L (a.eval (.tmp i)) w) (h2:OutN q L (a.eval (.tmp j)) w):Does Tryz.prog { dst,op:=.build 56 #[(0,.tmp i),(1,.tmp j)],type:=ty,pos,after,guard } a.eval w fun v' w'=>Below w.heap.size w w'∧OutQ p q L v' w' := by
  obtain ⟨ng,ao,cap,rs,e1,W1,l1⟩:=h1
  obtain ⟨mg,bo,dap,ss,e2,W2,l2⟩:=h2
  have e:(execOp a.eval { dst,op:=.build 56 #[(0,.tmp i),(1,.tmp j)],type:=ty,pos,after,guard }).run Tryz.prog w=.ok (.value (.agg #[.bool ng,.slice ao rs.length cap,.bool mg,.slice bo ss.length dap])) w:=by
    simp only [execOp,List.map_toArray,List.map_nil,List.map_cons,e1,e2]
    go_simp
  refine ⟨?_⟩
  unfold Turns
  rw [e]
  exact ⟨Below.refl _ _,outq_eq rfl W1 W2 l1 l2⟩
theorem has_nof:Has Tryz.prog 53:=by unfold Has;kernel_rfl
theorem op_nof (h:IsW z L (a.eval (.tmp i)) w) (hL:L≤100000) :
    Does Tryz.prog { dst,op:=.call { callee:=.value (.func 53),args:=#[.tmp i],argTypes:=ats },type:=ty,pos,after,guard } a.eval w fun v w'=>Below w.heap.size w w'∧OutN z (3*L) v w' := by
  obtain ⟨n1,a1,m1,c1,xs,e1,A1,l1⟩:=h
  refine does_call has_nof _ (by simp only [List.map_toArray,List.map_cons,List.map_nil,e1]) ((Dm.nof_z w _ _ _ _ xs z A1 (by omega)).mono ?_)
  rintro e w' ⟨ng,ao,cap,rs,rfl,G,l,hb⟩
  exact ⟨_,rfl,hb,_,_,_,_,rfl,G,by omega⟩
theorem has_nint:Has Tryz.prog 74:=by unfold Has;kernel_rfl
theorem op_nint {v:Int} (h1 : -9223372036854775808≤v) (h2:v≤9223372036854775807) :
    Does Tryz.prog { dst,op:=.call { callee:=.value (.func 74),args:=#[.const (.int .i64 v)],argTypes:=ats },type:=ty,pos,after,guard } a.eval w fun v' w'=>Below w.heap.size w w'∧OutN v 5 v' w' := by
  refine does_call has_nint _ (by simp only [List.map_toArray,List.map_cons,List.map_nil,Act.eval]) ((Dm.nint_any w v h1 h2).mono ?_)
  rintro e w' ⟨ng,ao,cap,rs,rfl,G,l,hb⟩
  exact ⟨_,rfl,hb,_,_,_,_,rfl,G,l⟩
theorem has_nsign:Has Tryz.prog 27:=by unfold Has;kernel_rfl
theorem op_nsign (h:OutN z L (a.eval (.tmp i)) w) :
    Does Tryz.prog { dst,op:=.call { callee:=.value (.func 27),args:=#[.tmp i],argTypes:=ats },type:=ty,pos,after,guard } a.eval w fun v w'=>Below w.heap.size w w'∧Eqs (.int .i64 (Int.sign z)) v w' := by
  obtain ⟨ng,ao,cap,rs,e1,W,l⟩:=h
  refine does_call has_nsign _ (by simp only [List.map_toArray,List.map_cons,List.map_nil,e1]) ((Dm.nsign_z w _ _ _ _ _ W).mono ?_)
  rintro e w' ⟨rfl,hb⟩
  exact ⟨_,rfl,hb,rfl⟩
theorem has_nminus:Has Tryz.prog 56:=by unfold Has;kernel_rfl
theorem op_nminus (h:OutN z L (a.eval (.tmp i)) w) (hL:L≤1000000) :
    Does Tryz.prog { dst,op:=.call { callee:=.value (.func 56),args:=#[.tmp i],argTypes:=ats },type:=ty,pos,after,guard } a.eval w fun v w'=>Below w.heap.size w w'∧OutN (-z) L v w' := by
  obtain ⟨ng,ao,cap,rs,e1,W,l⟩:=h
  refine does_call has_nminus _ (by simp only [List.map_toArray,List.map_cons,List.map_nil,e1]) ((Dm.minus_g w _ _ _ _ _ W (by omega)).mono ?_)
  rintro e w' ⟨ng,ao,cap,rs,rfl,G,l,hb⟩
  exact ⟨_,rfl,hb,_,_,_,_,rfl,G,by omega⟩
theorem has_ngcd:Has Tryz.prog 57:=by unfold Has;kernel_rfl
theorem op_ngcd (h1:OutN x L1 (a.eval (.tmp i)) w) (h2:OutN y L2 (a.eval (.tmp j)) w) (hL:L1≤300000) (hL' : L2≤300000) :
    Does Tryz.prog { dst,op:=.call { callee:=.value (.func 57),args:=#[.tmp i,.tmp j],argTypes:=ats },type:=ty,pos,after,guard } a.eval w fun v w'=>Below w.heap.size w w'∧OutN ((Int.gcd x y:Nat):Int) (L1+L2) v w' := by
  obtain ⟨ng,ao,cap,rs,e1,W,l⟩:=h1
  obtain ⟨mg,bo,dap,ss,e2,W',l'⟩:=h2
  refine does_call has_ngcd _ (by simp only [List.map_toArray,List.map_cons,List.map_nil,e1,e2]) ((Dm.ngcd_g w ng ao cap rs _ W.1 mg bo dap ss _ W'.1 (by omega) (by omega)).mono ?_)
  rintro e w' ⟨ng,ao,cap,rs,rfl,G,l,hb⟩
  rw [Dm.gcd_abs] at G
  exact ⟨_,rfl,hb,_,_,_,_,rfl,G,by omega⟩
theorem has_ndivided:Has Tryz.prog 77:=by unfold Has;kernel_rfl
theorem op_ndivided (h1:OutN x L1 (a.eval (.tmp i)) w) (h2:OutN y L2 (a.eval (.tmp j)) w) (hL:L1≤300000) (hL' : L2≤300000) (h0:y≠0) :
    Does Tryz.prog { dst,op:=.call { callee:=.value (.func 77),args:=#[.tmp i,.tmp j],argTypes:=ats },type:=ty,pos,after,guard } a.eval w fun v w'=>Below w.heap.size w w'∧Tup2 (OutN ((x.natAbs:Int) / (y.natAbs:Int)) L1) (OutN ((x.natAbs:Int) % (y.natAbs:Int)) L2) v w' := by
  obtain ⟨ng,ao,cap,rs,e1,W,l⟩:=h1
  obtain ⟨mg,bo,dap,ss,e2,W',l'⟩:=h2
  refine does_call has_ndivided _ (by simp only [List.map_toArray,List.map_cons,List.map_nil,e1,e2]) ((Dm.divided_g w ng ao cap rs _ W.1 mg bo dap ss _ W'.1 (by omega) (by omega) (W'.some h0)).mono ?_)
  rintro e w' ⟨nq,pq,qq,Q,nr,pr,qr,R,rfl,G,G',l1,l2,hb⟩
  exact ⟨_,rfl,hb,_,_,rfl,⟨_,_,_,_,rfl,G,by omega⟩,⟨_,_,_,_,rfl,G',by omega⟩⟩
theorem has_ntold:Has Tryz.prog 54:=by unfold Has;kernel_rfl
theorem op_ntold (h:OutN z L (a.eval (.tmp i)) w) (hL:L≤1000000) :
    Does Tryz.prog { dst,op:=.call { callee:=.value (.func 54),args:=#[.tmp i],argTypes:=ats },type:=ty,pos,after,guard } a.eval w fun v w'=>Below w.heap.size w w'∧OutW z L v w' := by
  obtain ⟨ng,ao,cap,rs,e1,W,l⟩:=h
  refine does_call has_ntold _ (by simp only [List.map_toArray,List.map_cons,List.map_nil,e1]) ((Dm.told_g w _ _ _ _ _ W L (W.bound l) hL (by omega)).mono ?_)
  rintro e w' ⟨bo,dap,ls,rfl,F,l2,hb⟩
  exact ⟨_,rfl,hb,_,_,_,_,rfl,F.wh,l2⟩
theorem has_nlimbs:Has Tryz.prog 55:=by unfold Has;kernel_rfl
theorem op_nlimbs (h:OutN z L (a.eval (.tmp i)) w) (hL:L≤1000000) (hz:0<z) :
    Does Tryz.prog { dst,op:=.call { callee:=.value (.func 55),args:=#[.tmp i],argTypes:=ats },type:=ty,pos,after,guard } a.eval w fun v w'=>Below w.heap.size w w'∧OutL z L v w' := by
  obtain ⟨ng,ao,cap,rs,e1,W,l⟩:=h
  have hb:=W.bound l
  refine does_call has_nlimbs _ (by simp only [List.map_toArray,List.map_cons,List.map_nil,e1]) ((Dm.limbs_loop w ng ao cap rs _ W.1 L hb hL (by omega) (W.some (by omega))).mono ?_)
  rintro e w' ⟨v,rfl,I,hb'⟩
  obtain ⟨ao,cap,rs,rfl,G⟩:=I.got
  have e3:((z.natAbs:Nat):Int)=z:=by omega
  refine ⟨_,rfl,hb',_,_,_,rfl,e3 ▸ G,canon_len G.canon (by rw [G.val];exact hb)⟩
end
end Lm
end Go.Proofs.YtpofkigboedliaaGreat

namespace Go.Proofs.YtpofkigboedliaaGreat
namespace Lm
open Go Go.RowKit
def ov (x y:Int):Int:=sg (decide (x<0) != decide (y<0)) ((x.natAbs:Int) / (y.natAbs:Int))
theorem gcd_ne (x:Int) {y:Int} (h:y≠0):((Int.gcd x y:Nat):Int)≠0:=by
 have:=gcd_pos_right (p:=x) h
 omega
theorem ov_exact {x g:Int} (hg:0<g) (hd:g ∣ x):ov x g=x / g:=by
 obtain ⟨k,rfl⟩:=hd
 have h1:decide (g<0)=false:=decide_eq_false (by omega)
 have h2:((g.natAbs:Nat):Int)=g:=by omega
 rw [Int.mul_ediv_cancel_left _ (by omega)]
 unfold ov
 rw [h1,h2,Int.natAbs_mul]
 have h3:((g.natAbs*k.natAbs:Nat):Int)=g*(k.natAbs:Int):=by
  rw [Int.natCast_mul,h2]
 rw [h3,Int.mul_ediv_cancel_left _ (by omega)]
 by_cases hk:k<0
 ·have:g*k<0:=Int.mul_neg_of_pos_of_neg hg hk
  simp [sg,this]
  omega
 ·have:¬ g*k<0:=by
   have:=Int.mul_nonneg (show 0≤g by omega) (show 0≤k by omega)
   omega
  simp [sg,this]
  omega
theorem mk_pos {x y:Int} (hy:0<y):ov x ((Int.gcd x y:Nat):Int)=nm x y∧ov y ((Int.gcd x y:Nat):Int)=dn x y:=by
 have hg:=gcd_pos_right (p:=x) (show y≠0 by omega)
 rw [ov_exact hg (Int.gcd_dvd_left x y),ov_exact hg (Int.gcd_dvd_right x y),nm,dn,Int.sign_eq_one_of_pos hy]
 simp
theorem mk_neg {x y:Int} (hy:y<0):ov (-x) ((Int.gcd (-x) (-y):Nat):Int)=nm x y∧ov (-y) ((Int.gcd (-x) (-y):Nat):Int)=dn x y:=by
 have h:=mk_pos (x:=-x) (y:=-y) (by omega)
 rw [h.1,h.2]
 exact low_eq (by omega) (by omega) (by grind)
section
variable {dst:Option Tmp} {ty:TypeId} {pos:String} {after:Array Edge} {guard:Option (Nat × Bool)} {a:Act} {w:World} {ats:Array TypeId} {i j:Nat}
end
set_option maxRecDepth 20000 in
set_option maxHeartbeats 2000000 in
theorem nover_z (w:World) (Bx:Nat) (nx:Bool) (ax:Option Addr) (cx:Nat) (xs:List Int) (zx:Int) (Gx:Dm.Wh w nx ax cx xs zx) (Lx:xs.length≤Bx) (By:Nat) (ny:Bool) (ay:Option Addr) (cy:Nat) (ys:List Int) (zy:Int) (Gy:Dm.Wh w ny ay cy ys zy) (Ly:ys.length≤By) (hL:Bx≤300000) (hL2:By≤300000) (hy:zy≠0) :
  Calls Tryz.prog 58 #[.agg #[.bool nx,.slice ax xs.length cx],.agg #[.bool ny,.slice ay ys.length cy]] w fun e w'=>∃ v,e=.returned v∧(OutN (ov zx zy) Bx) v w'∧Below w.heap.size w w' := by
 go_enter Tryz.func58,Tryz.ntmps58
 generalize hA:(Act.mk _ _)=aa
 have hn:aa.tmps.size=21:=by rw [←hA];rfl
 have hd:aa.defers = []:=by rw [←hA]
 have f0:aa.eval (.tmp 0)=.agg #[.bool nx,.slice ax xs.length cx]:=by rw [←hA];rfl
 have f1:aa.eval (.tmp 1)=.agg #[.bool ny,.slice ay ys.length cy]:=by rw [←hA];rfl
 clear hA
 have HB:Below w.heap.size w w:=Below.refl _ _
 refine wp_seq ?_
 refine region4 [some 2,some 3,some 4] [Tt,Tt,Tt] [⟨N2,some 0,0,2,.agg #[.bool nx,.slice ax xs.length cx],none,[]⟩,⟨N2,some 1,0,3,.agg #[.bool ny,.slice ay ys.length cy],none,[]⟩,⟨N2,some 2,0,4,.agg #[.bool false,.slice none 0 0],none,[]⟩] [] (by kernel_rfl) hn rfl (by kernel_rfl) (by kernel_rfl) (by kernel_rfl) (by kernel_rfl) (by kernel_rfl) (by kernel_rfl) ⟨True.mono4,True.mono4,True.mono4,trivial⟩ (ok_cons N2ok (ok_cons N2ok (ok_cons N2ok ok_nil))) (IsOld.all (bx:=[⟨N2,some 0,0,2,.agg #[.bool nx,.slice ax xs.length cx],none,[]⟩,⟨N2,some 1,0,3,.agg #[.bool ny,.slice ay ys.length cy],none,[]⟩,⟨N2,some 2,0,4,.agg #[.bool false,.slice none 0 0],none,[]⟩]) ⟨someNe,someNe,someNe,trivial⟩) (DisOld.all (bx:=[⟨N2,some 0,0,2,.agg #[.bool nx,.slice ax xs.length cx],none,[]⟩,⟨N2,some 1,0,3,.agg #[.bool ny,.slice ay ys.length cy],none,[]⟩,⟨N2,some 2,0,4,.agg #[.bool false,.slice none 0 0],none,[]⟩]) ⟨someNe,someNe,someNe,trivial⟩) ?_ ?_
 ·exact ⟨.alloc 0 _ rfl rfl (.inr ⟨_,rfl,n2_cs,fun a_ hR=>(hR 0 rfl).trans f0⟩) rfl rfl rfl rfl rfl,.alloc 1 _ rfl rfl (.inr ⟨_,rfl,n2_cs,fun a_ hR=>(hR 1 rfl).trans f1⟩) rfl rfl rfl rfl rfl,.alloc 2 _ rfl rfl (.inl ⟨rfl,rfl⟩) rfl rfl rfl rfl rfl,trivial⟩
 ·intro a1 w1 gs1 hn1 hd1 hBt hr hR hP hX hU
  replace hn:=hn1;replace hd:=hd1.trans hd
  have ne2_4:gs1 0≠gs1 2:=hU 0 2 (by simp) (by simp) (by decide)
  have ne3_4:gs1 1≠gs1 2:=hU 1 2 (by simp) (by simp) (by decide)
  have b2:BoxV N2 w1 (gs1 0) (.agg #[.bool nx,.slice ax xs.length cx]):=(hX 0 _ rfl).2.2.2
  have f2:=(hX 0 _ rfl).1
  have u2:w.heap.size≤gs1 0:=Nat.le_trans HB.size ((hX 0 _ rfl).2.2.1 (by simp))
  have b3:BoxV N2 w1 (gs1 1) (.agg #[.bool ny,.slice ay ys.length cy]):=(hX 1 _ rfl).2.2.2
  have f3:=(hX 1 _ rfl).1
  have u3:w.heap.size≤gs1 1:=Nat.le_trans HB.size ((hX 1 _ rfl).2.2.1 (by simp))
  have b4:BoxV N2 w1 (gs1 2) (.agg #[.bool false,.slice none 0 0]):=(hX 2 _ rfl).2.2.2
  have f4:=(hX 2 _ rfl).1
  have u4:w.heap.size≤gs1 2:=Nat.le_trans HB.size ((hX 2 _ rfl).2.2.1 (by simp))
  replace Gx:=Gx.rl hr
  replace Gy:=Gy.rl hr
  replace HB:=HB.trans (hBt.below HB.size (UpOld.all (bx:=[⟨N2,some 0,0,2,.agg #[.bool nx,.slice ax xs.length cx],none,[]⟩,⟨N2,some 1,0,3,.agg #[.bool ny,.slice ay ys.length cy],none,[]⟩,⟨N2,some 2,0,4,.agg #[.bool false,.slice none 0 0],none,[]⟩]) ⟨someNe,someNe,someNe,trivial⟩))
  clear hBt hr hR hP hX hU
  refine wp_seq ?_
  refine region4 [some 8,some 9,some 10,some 7,some 11,some 12,some 5,some 6,none,none] [Eqs (.agg #[.bool nx,.slice ax xs.length cx]),Eqs (.agg #[.bool ny,.slice ay ys.length cy]),Tup2 (OutN ((((zx).natAbs:Int) / ((zy).natAbs:Int))) (Bx)) (OutN ((((zx).natAbs:Int) % ((zy).natAbs:Int))) (By)),Tup2 (OutN ((((zx).natAbs:Int) / ((zy).natAbs:Int))) (Bx)) (OutN ((((zx).natAbs:Int) % ((zy).natAbs:Int))) (By)),OutN ((((zx).natAbs:Int) / ((zy).natAbs:Int))) (Bx),OutN ((((zx).natAbs:Int) % ((zy).natAbs:Int))) (By),Tt,Tt,Tt,Tt] [⟨N2,some 6,0,5,.agg #[.bool false,.slice none 0 0],some (8,11,4),[]⟩,⟨N2,some 7,0,6,.agg #[.bool false,.slice none 0 0],some (9,12,5),[]⟩] [] (by kernel_rfl) hn rfl (by kernel_rfl) (by kernel_rfl) (by kernel_rfl) (by kernel_rfl) (by kernel_rfl) (by kernel_rfl) ⟨Eqs.mono4 _,Eqs.mono4 _,Tup2.mono4 (OutN.mono4 _ _) (OutN.mono4 _ _),Tup2.mono4 (OutN.mono4 _ _) (OutN.mono4 _ _),OutN.mono4 _ _,OutN.mono4 _ _,True.mono4,True.mono4,True.mono4,True.mono4,trivial⟩ (ok_cons N2ok (ok_cons N2ok ok_nil)) (IsOld.all (bx:=[⟨N2,some 6,0,5,.agg #[.bool false,.slice none 0 0],some (8,11,4),[]⟩,⟨N2,some 7,0,6,.agg #[.bool false,.slice none 0 0],some (9,12,5),[]⟩]) ⟨someNe,someNe,trivial⟩) (DisOld.all (bx:=[⟨N2,some 6,0,5,.agg #[.bool false,.slice none 0 0],some (8,11,4),[]⟩,⟨N2,some 7,0,6,.agg #[.bool false,.slice none 0 0],some (9,12,5),[]⟩]) ⟨someNe,someNe,trivial⟩) ?_ ?_
  ·exact ⟨.norm 8 rfl rfl rfl (fun a_ w_ _ t r R D _ _=>op_loadv N2ok ((R 2 rfl).trans f2) (b2.keep t ⟨someNe,someNe,trivial⟩)),.norm 9 rfl rfl rfl (fun a_ w_ _ t r R D _ _=>op_loadv N2ok ((R 3 rfl).trans f3) (b3.keep t ⟨someNe,someNe,trivial⟩)),.norm 10 rfl rfl rfl (fun a_ w_ _ t r R D _ _=>op_ndivided (outn_eq (show a_.eval (.tmp 8)=.agg #[.bool nx,.slice ax xs.length cx] from D 0 rfl) (Gx.rl r) Lx) (outn_eq (show a_.eval (.tmp 9)=.agg #[.bool ny,.slice ay ys.length cy] from D 1 rfl) (Gy.rl r) Ly) (by omega) (by omega) hy),.norm 7 rfl rfl rfl (fun a_ w_ _ t r R D _ _=>op_mvp (p:=Tup2 (OutN ((((zx).natAbs:Int) / ((zy).natAbs:Int))) (Bx)) (OutN ((((zx).natAbs:Int) % ((zy).natAbs:Int))) (By))) (show Tup2 (OutN ((((zx).natAbs:Int) / ((zy).natAbs:Int))) (Bx)) (OutN ((((zx).natAbs:Int) % ((zy).natAbs:Int))) (By)) (a_.eval (.tmp 10)) w_ from D 2 rfl)),.norm 11 rfl rfl rfl (fun a_ w_ _ t r R D _ _=>op_ex20 (show Tup2 (OutN ((((zx).natAbs:Int) / ((zy).natAbs:Int))) (Bx)) (OutN ((((zx).natAbs:Int) % ((zy).natAbs:Int))) (By)) (a_.eval (.tmp 7)) w_ from D 3 rfl)),.norm 12 rfl rfl rfl (fun a_ w_ _ t r R D _ _=>op_ex21 (show Tup2 (OutN ((((zx).natAbs:Int) / ((zy).natAbs:Int))) (Bx)) (OutN ((((zx).natAbs:Int) % ((zy).natAbs:Int))) (By)) (a_.eval (.tmp 7)) w_ from D 3 rfl)),.alloc 0 _ rfl rfl (.inl ⟨rfl,rfl⟩) rfl rfl rfl rfl rfl,.alloc 1 _ rfl rfl (.inl ⟨rfl,rfl⟩) rfl rfl rfl rfl rfl,.store 0 _ _ _ rfl rfl rfl rfl rfl rfl rfl (fun ia h=>by cases h;rfl) rfl rfl rfl OutN.cs,.store 1 _ _ _ rfl rfl rfl rfl rfl rfl rfl (fun ia h=>by cases h;rfl) rfl rfl rfl OutN.cs,trivial⟩
  ·intro a2 w2 gs2 hn2 hd2 hBt hr hR hP hX hU
   replace hn:=hn2;replace hd:=hd2.trans hd
   have ne2_5:(gs1 0)≠gs2 0:=by have h1:=b2.lt;have h2:=(hX 0 _ rfl).2.2.1 (by simp);omega
   have ne3_5:(gs1 1)≠gs2 0:=by have h1:=b3.lt;have h2:=(hX 0 _ rfl).2.2.1 (by simp);omega
   have ne4_5:(gs1 2)≠gs2 0:=by have h1:=b4.lt;have h2:=(hX 0 _ rfl).2.2.1 (by simp);omega
   replace b2:=b2.keep hBt ⟨someNe,someNe,trivial⟩
   replace b3:=b3.keep hBt ⟨someNe,someNe,trivial⟩
   replace b4:=b4.keep hBt ⟨someNe,someNe,trivial⟩
   obtain ⟨n_3,a_3,c_3,r_3,e11,G3,l3⟩:OutN ((((zx).natAbs:Int) / ((zy).natAbs:Int))) (Bx) (a2.eval (.tmp 11)) w2:=hP 4 (by decide)
   have b5:BoxV N2 w2 (gs2 0) (.agg #[.bool n_3,.slice a_3 r_3.length c_3]):=boxv_of (hX 0 _ rfl).2.2.2 e11
   have f5:=(hX 0 _ rfl).1
   have u5:w.heap.size≤gs2 0:=Nat.le_trans HB.size ((hX 0 _ rfl).2.2.1 (by simp))
   replace f2:=(hR 2 rfl).trans f2
   replace f3:=(hR 3 rfl).trans f3
   replace f4:=(hR 4 rfl).trans f4
   replace Gx:=Gx.rl hr
   replace Gy:=Gy.rl hr
   replace HB:=HB.trans (hBt.below HB.size (UpOld.all (bx:=[⟨N2,some 6,0,5,.agg #[.bool false,.slice none 0 0],some (8,11,4),[]⟩,⟨N2,some 7,0,6,.agg #[.bool false,.slice none 0 0],some (9,12,5),[]⟩]) ⟨someNe,someNe,trivial⟩))
   clear hBt hr hR hP hX hU
   refine wp_seq ?_
   refine wp_seq ?_
   refine region4 [some 13,some 14,some 15,some 16,some 17] [Eqs (.pointer (some ⟨gs1 0,0,none⟩)),Eqs (.bool nx),Eqs (.pointer (some ⟨gs1 1,0,none⟩)),Eqs (.bool ny),Eqs (.bool (nx != ny))] [] [] (by kernel_rfl) hn rfl (by kernel_rfl) (by kernel_rfl) (by kernel_rfl) (by kernel_rfl) (by kernel_rfl) (by kernel_rfl) ⟨Eqs.mono4 _,Eqs.mono4 _,Eqs.mono4 _,Eqs.mono4 _,Eqs.mono4 _,trivial⟩ ok_nil (IsOld.all (bx:=[]) trivial) (DisOld.all (bx:=[]) trivial) ?_ ?_
   ·exact ⟨.norm 13 rfl rfl rfl (fun a_ w_ _ t r R D _ _=>op_faN fa_nneg ((R 2 rfl).trans f2)),.norm 14 rfl rfl rfl (fun a_ w_ _ t r R D _ _=>op_ldnneg (show a_.eval (.tmp 13)=.pointer (some ⟨gs1 0,0,none⟩) from D 0 rfl) (b2.keep t trivial)),.norm 15 rfl rfl rfl (fun a_ w_ _ t r R D _ _=>op_faN fa_nneg ((R 3 rfl).trans f3)),.norm 16 rfl rfl rfl (fun a_ w_ _ t r R D _ _=>op_ldnneg (show a_.eval (.tmp 15)=.pointer (some ⟨gs1 1,0,none⟩) from D 2 rfl) (b3.keep t trivial)),.norm 17 rfl rfl rfl (fun a_ w_ _ t r R D _ _=>op_neqb (show a_.eval (.tmp 14)=.bool nx from D 1 rfl) (show a_.eval (.tmp 16)=.bool ny from D 3 rfl)),trivial⟩
   ·intro a4 w4 gs4 hn4 hd4 hBt hr hR hP hX hU
    replace hn:=hn4;replace hd:=hd4.trans hd
    replace b4:=b4.keep hBt trivial
    replace b5:=b5.keep hBt trivial
    replace f4:=(hR 4 rfl).trans f4
    replace f5:=(hR 5 rfl).trans f5
    have e17:a4.eval (.tmp 17)=.bool (nx != ny):=hP 4 (by decide)
    have f17:=e17
    replace Gx:=Gx.rl hr
    replace Gy:=Gy.rl hr
    replace G3:=G3.rl hr
    replace HB:=HB.trans (hBt.below HB.size (UpOld.all (bx:=[]) trivial))
    clear hBt hr hR hP hX hU
    refine wp_cond_split f17 (fun hc17=>?_) (fun hc17=>?_)
    ·skip
     refine region4 [some 18,some 19,none] [Eqs (.agg #[.bool n_3,.slice a_3 r_3.length c_3]),OutN ((-(((zx).natAbs:Int) / ((zy).natAbs:Int)))) (Bx),Tt] [⟨N2,none,(gs2 0),5,.agg #[.bool n_3,.slice a_3 r_3.length c_3],some (2,19,1),[0]⟩] [] (by kernel_rfl) hn rfl (by kernel_rfl) (by kernel_rfl) (by kernel_rfl) (by kernel_rfl) (by kernel_rfl) (by kernel_rfl) ⟨Eqs.mono4 _,OutN.mono4 _ _,True.mono4,trivial⟩ (ok_cons N2ok ok_nil) (IsOld.all (bx:=[⟨N2,none,(gs2 0),5,.agg #[.bool n_3,.slice a_3 r_3.length c_3],some (2,19,1),[0]⟩]) ⟨fun _=>⟨f5,b5⟩,trivial⟩) (DisOld.all (bx:=[⟨N2,none,(gs2 0),5,.agg #[.bool n_3,.slice a_3 r_3.length c_3],some (2,19,1),[0]⟩]) ⟨fun _=>trivial,trivial⟩) ?_ ?_
     ·exact ⟨.norm 18 rfl rfl rfl (fun a_ w_ _ t r R D hO _=>op_loadv N2ok ((R 5 rfl).trans f5) (hO 0 _ rfl rfl rfl)),.norm 19 rfl rfl rfl (fun a_ w_ _ t r R D _ _=>op_nminus (outn_eq (show a_.eval (.tmp 18)=.agg #[.bool n_3,.slice a_3 r_3.length c_3] from D 0 rfl) (G3.rl r) l3) (by omega)),.store 0 _ _ _ rfl rfl rfl rfl rfl rfl rfl (fun ia h=>by cases h) rfl rfl rfl OutN.cs,trivial⟩
     ·intro a5 w5 gs5 hn5 hd5 hBt hr hR hP hX hU
      replace hn:=hn5;replace hd:=hd5.trans hd
      replace b4:=b4.keep hBt ⟨fun _=>ne4_5.symm,trivial⟩
      obtain ⟨n_6,a_6,c_6,r_6,e19,G6,l6⟩:OutN ((-(((zx).natAbs:Int) / ((zy).natAbs:Int)))) (Bx) (a5.eval (.tmp 19)) w5:=hP 1 (by decide)
      have b5:BoxV N2 w5 ((gs2 0)) (.agg #[.bool n_6,.slice a_6 r_6.length c_6]):=boxv_old ((hX 0 _ rfl).2.1 rfl) (hX 0 _ rfl).2.2.2 e19
      replace f5:a5.eval (.tmp 5) = _:=(hR 5 rfl).trans f5
      replace f4:=(hR 4 rfl).trans f4
      replace Gx:=Gx.rl hr
      replace Gy:=Gy.rl hr
      replace G3:=G3.rl hr
      replace HB:=HB.trans (hBt.below HB.size (UpOld.all (bx:=[⟨N2,none,(gs2 0),5,.agg #[.bool n_3,.slice a_3 r_3.length c_3],some (2,19,1),[0]⟩]) ⟨fun _=>u5,trivial⟩))
      clear hBt hr hR hP hX hU
      refine wp_seq ?_
      refine region4 [some 20,none] [Eqs (.agg #[.bool n_6,.slice a_6 r_6.length c_6]),Tt] [⟨N2,none,(gs1 2),4,.agg #[.bool false,.slice none 0 0],some (1,20,0),[]⟩] [] (by kernel_rfl) hn rfl (by kernel_rfl) (by kernel_rfl) (by kernel_rfl) (by kernel_rfl) (by kernel_rfl) (by kernel_rfl) ⟨Eqs.mono4 _,True.mono4,trivial⟩ (ok_cons N2ok ok_nil) (IsOld.all (bx:=[⟨N2,none,(gs1 2),4,.agg #[.bool false,.slice none 0 0],some (1,20,0),[]⟩]) ⟨fun _=>⟨f4,b4⟩,trivial⟩) (DisOld.all (bx:=[⟨N2,none,(gs1 2),4,.agg #[.bool false,.slice none 0 0],some (1,20,0),[]⟩]) ⟨fun _=>trivial,trivial⟩) ?_ ?_
      ·exact ⟨.norm 20 rfl rfl rfl (fun a_ w_ _ t r R D _ _=>op_loadv N2ok ((R 5 rfl).trans f5) (b5.keep t ⟨fun _=>ne4_5,trivial⟩)),.store 0 _ _ _ rfl rfl rfl rfl rfl rfl rfl (fun ia h=>by cases h) rfl rfl rfl (eqs_cs n2_cs),trivial⟩
      ·intro a7 w7 gs7 hn7 hd7 hBt hr hR hP hX hU
       replace hn:=hn7;replace hd:=hd7.trans hd
       have e20:a7.eval (.tmp 20)=.agg #[.bool n_6,.slice a_6 r_6.length c_6]:=hP 0 (by decide)
       have b4:BoxV N2 w7 ((gs1 2)) (.agg #[.bool n_6,.slice a_6 r_6.length c_6]):=boxv_old ((hX 0 _ rfl).2.1 rfl) (hX 0 _ rfl).2.2.2 e20
       replace f4:a7.eval (.tmp 4) = _:=(hR 4 rfl).trans f4
       replace Gx:=Gx.rl hr
       replace Gy:=Gy.rl hr
       replace G3:=G3.rl hr
       replace G6:=G6.rl hr
       replace HB:=HB.trans (hBt.below HB.size (UpOld.all (bx:=[⟨N2,none,(gs1 2),4,.agg #[.bool false,.slice none 0 0],some (1,20,0),[]⟩]) ⟨fun _=>u4,trivial⟩))
       clear hBt hr hR hP hX hU
       refine wp_ret ?_
       repeat (first | refine then_ret ?_ | refine scope_ret ?_ | refine block_ret ?_)
       exact bodyPost_ret (v:=.agg #[.bool n_6,.slice a_6 r_6.length c_6]) (res_c rfl f4 (lv_N2 b4)) hd ⟨_,rfl,OutN.to (outn_eq rfl G6 l6) (by rw [ov,←Gx.2,←Gy.2,hc17];rfl) (by omega),HB⟩
    ·skip
     refine wp_skip ?_
     refine wp_seq ?_
     refine region4 [some 20,none] [Eqs (.agg #[.bool n_3,.slice a_3 r_3.length c_3]),Tt] [⟨N2,none,(gs1 2),4,.agg #[.bool false,.slice none 0 0],some (1,20,0),[]⟩] [] (by kernel_rfl) hn rfl (by kernel_rfl) (by kernel_rfl) (by kernel_rfl) (by kernel_rfl) (by kernel_rfl) (by kernel_rfl) ⟨Eqs.mono4 _,True.mono4,trivial⟩ (ok_cons N2ok ok_nil) (IsOld.all (bx:=[⟨N2,none,(gs1 2),4,.agg #[.bool false,.slice none 0 0],some (1,20,0),[]⟩]) ⟨fun _=>⟨f4,b4⟩,trivial⟩) (DisOld.all (bx:=[⟨N2,none,(gs1 2),4,.agg #[.bool false,.slice none 0 0],some (1,20,0),[]⟩]) ⟨fun _=>trivial,trivial⟩) ?_ ?_
     ·exact ⟨.norm 20 rfl rfl rfl (fun a_ w_ _ t r R D _ _=>op_loadv N2ok ((R 5 rfl).trans f5) (b5.keep t ⟨fun _=>ne4_5,trivial⟩)),.store 0 _ _ _ rfl rfl rfl rfl rfl rfl rfl (fun ia h=>by cases h) rfl rfl rfl (eqs_cs n2_cs),trivial⟩
     ·intro a8 w8 gs8 hn8 hd8 hBt hr hR hP hX hU
      replace hn:=hn8;replace hd:=hd8.trans hd
      have e20:a8.eval (.tmp 20)=.agg #[.bool n_3,.slice a_3 r_3.length c_3]:=hP 0 (by decide)
      have b4:BoxV N2 w8 ((gs1 2)) (.agg #[.bool n_3,.slice a_3 r_3.length c_3]):=boxv_old ((hX 0 _ rfl).2.1 rfl) (hX 0 _ rfl).2.2.2 e20
      replace f4:a8.eval (.tmp 4) = _:=(hR 4 rfl).trans f4
      replace Gx:=Gx.rl hr
      replace Gy:=Gy.rl hr
      replace G3:=G3.rl hr
      replace HB:=HB.trans (hBt.below HB.size (UpOld.all (bx:=[⟨N2,none,(gs1 2),4,.agg #[.bool false,.slice none 0 0],some (1,20,0),[]⟩]) ⟨fun _=>u4,trivial⟩))
      clear hBt hr hR hP hX hU
      refine wp_ret ?_
      repeat (first | refine then_ret ?_ | refine scope_ret ?_ | refine block_ret ?_)
      exact bodyPost_ret (v:=.agg #[.bool n_3,.slice a_3 r_3.length c_3]) (res_c rfl f4 (lv_N2 b4)) hd ⟨_,rfl,OutN.to (outn_eq rfl G3 l3) (by rw [ov,←Gx.2,←Gy.2,hc17];rfl) (by omega),HB⟩
theorem has_nover:Has Tryz.prog 58:=by unfold Has;kernel_rfl
theorem op_nover {dst:Option Tmp} {ty:TypeId} {pos:String} {after:Array Edge} {guard:Option (Nat × Bool)} {a:Act} {w:World} {ats:Array TypeId} {i j:Nat} {Bx:Nat} {zx:Int} (Hx:OutN zx Bx (a.eval (.tmp i)) w) {By:Nat} {zy:Int} (Hy:OutN zy By (a.eval (.tmp j)) w) (hL:Bx≤300000) (hL2:By≤300000) (hy:zy≠0) :
  Does Tryz.prog { dst,op:=.call { callee:=.value (.func 58),args:=#[.tmp i,.tmp j],argTypes:=ats },type:=ty,pos,after,guard } a.eval w fun v w'=>Below w.heap.size w w'∧(OutN (ov zx zy) Bx) v w' := by
 obtain ⟨nx,ax,cx,xs,ex,Gx,Lx⟩:=Hx
 obtain ⟨ny,ay,cy,ys,ey,Gy,Ly⟩:=Hy
 refine does_call has_nover _ (by simp only [List.map_toArray,List.map_cons,List.map_nil,ex,ey]) ((nover_z w Bx _ _ _ _ _ Gx Lx By _ _ _ _ _ Gy Ly hL hL2 hy).mono ?_)
 rintro e w' ⟨v,rfl,h1,hb⟩
 exact ⟨_,rfl,hb,h1⟩
set_option maxRecDepth 20000 in
set_option maxHeartbeats 2000000 in
theorem qmake_z (w:World) (Bx:Nat) (nx:Bool) (ax:Option Addr) (cx:Nat) (xs:List Int) (zx:Int) (Gx:Dm.Wh w nx ax cx xs zx) (Lx:xs.length≤Bx) (By:Nat) (ny:Bool) (ay:Option Addr) (cy:Nat) (ys:List Int) (zy:Int) (Gy:Dm.Wh w ny ay cy ys zy) (Ly:ys.length≤By) (hL:Bx+By≤300000) (hy:zy≠0) :
  Calls Tryz.prog 29 #[.agg #[.bool nx,.slice ax xs.length cx],.agg #[.bool ny,.slice ay ys.length cy]] w fun e w'=>∃ v,e=.returned v∧(OutQ (nm zx zy) (dn zx zy) (Bx+By)) v w'∧Below w.heap.size w w' := by
 go_enter Tryz.func29,Tryz.ntmps29
 generalize hA:(Act.mk _ _)=aa
 have hn:aa.tmps.size=22:=by rw [←hA];rfl
 have hd:aa.defers = []:=by rw [←hA]
 have f0:aa.eval (.tmp 0)=.agg #[.bool nx,.slice ax xs.length cx]:=by rw [←hA];rfl
 have f1:aa.eval (.tmp 1)=.agg #[.bool ny,.slice ay ys.length cy]:=by rw [←hA];rfl
 clear hA
 have HB:Below w.heap.size w w:=Below.refl _ _
 refine wp_seq ?_
 refine region4 [some 2,some 3,some 4] [Tt,Tt,Tt] [⟨N2,some 0,0,2,.agg #[.bool nx,.slice ax xs.length cx],none,[]⟩,⟨N2,some 1,0,3,.agg #[.bool ny,.slice ay ys.length cy],none,[]⟩,⟨Q4,some 2,0,4,.agg #[.bool false,.slice none 0 0,.bool false,.slice none 0 0],none,[]⟩] [] (by kernel_rfl) hn rfl (by kernel_rfl) (by kernel_rfl) (by kernel_rfl) (by kernel_rfl) (by kernel_rfl) (by kernel_rfl) ⟨True.mono4,True.mono4,True.mono4,trivial⟩ (ok_cons N2ok (ok_cons N2ok (ok_cons Q4ok ok_nil))) (IsOld.all (bx:=[⟨N2,some 0,0,2,.agg #[.bool nx,.slice ax xs.length cx],none,[]⟩,⟨N2,some 1,0,3,.agg #[.bool ny,.slice ay ys.length cy],none,[]⟩,⟨Q4,some 2,0,4,.agg #[.bool false,.slice none 0 0,.bool false,.slice none 0 0],none,[]⟩]) ⟨someNe,someNe,someNe,trivial⟩) (DisOld.all (bx:=[⟨N2,some 0,0,2,.agg #[.bool nx,.slice ax xs.length cx],none,[]⟩,⟨N2,some 1,0,3,.agg #[.bool ny,.slice ay ys.length cy],none,[]⟩,⟨Q4,some 2,0,4,.agg #[.bool false,.slice none 0 0,.bool false,.slice none 0 0],none,[]⟩]) ⟨someNe,someNe,someNe,trivial⟩) ?_ ?_
 ·exact ⟨.alloc 0 _ rfl rfl (.inr ⟨_,rfl,n2_cs,fun a_ hR=>(hR 0 rfl).trans f0⟩) rfl rfl rfl rfl rfl,.alloc 1 _ rfl rfl (.inr ⟨_,rfl,n2_cs,fun a_ hR=>(hR 1 rfl).trans f1⟩) rfl rfl rfl rfl rfl,.alloc 2 _ rfl rfl (.inl ⟨rfl,rfl⟩) rfl rfl rfl rfl rfl,trivial⟩
 ·intro a1 w1 gs1 hn1 hd1 hBt hr hR hP hX hU
  replace hn:=hn1;replace hd:=hd1.trans hd
  have ne2_3:gs1 0≠gs1 1:=hU 0 1 (by simp) (by simp) (by decide)
  have ne2_4:gs1 0≠gs1 2:=hU 0 2 (by simp) (by simp) (by decide)
  have ne3_4:gs1 1≠gs1 2:=hU 1 2 (by simp) (by simp) (by decide)
  have b2:BoxV N2 w1 (gs1 0) (.agg #[.bool nx,.slice ax xs.length cx]):=(hX 0 _ rfl).2.2.2
  have f2:=(hX 0 _ rfl).1
  have u2:w.heap.size≤gs1 0:=Nat.le_trans HB.size ((hX 0 _ rfl).2.2.1 (by simp))
  have b3:BoxV N2 w1 (gs1 1) (.agg #[.bool ny,.slice ay ys.length cy]):=(hX 1 _ rfl).2.2.2
  have f3:=(hX 1 _ rfl).1
  have u3:w.heap.size≤gs1 1:=Nat.le_trans HB.size ((hX 1 _ rfl).2.2.1 (by simp))
  have b4:BoxV Q4 w1 (gs1 2) (.agg #[.bool false,.slice none 0 0,.bool false,.slice none 0 0]):=(hX 2 _ rfl).2.2.2
  have f4:=(hX 2 _ rfl).1
  have u4:w.heap.size≤gs1 2:=Nat.le_trans HB.size ((hX 2 _ rfl).2.2.1 (by simp))
  replace Gx:=Gx.rl hr
  replace Gy:=Gy.rl hr
  replace HB:=HB.trans (hBt.below HB.size (UpOld.all (bx:=[⟨N2,some 0,0,2,.agg #[.bool nx,.slice ax xs.length cx],none,[]⟩,⟨N2,some 1,0,3,.agg #[.bool ny,.slice ay ys.length cy],none,[]⟩,⟨Q4,some 2,0,4,.agg #[.bool false,.slice none 0 0,.bool false,.slice none 0 0],none,[]⟩]) ⟨someNe,someNe,someNe,trivial⟩))
  clear hBt hr hR hP hX hU
  refine wp_seq ?_
  refine wp_seq ?_
  refine region4 [some 6,some 7] [Eqs (.pointer (some ⟨gs1 1,0,none⟩)),Eqs (.bool ny)] [] [] (by kernel_rfl) hn rfl (by kernel_rfl) (by kernel_rfl) (by kernel_rfl) (by kernel_rfl) (by kernel_rfl) (by kernel_rfl) ⟨Eqs.mono4 _,Eqs.mono4 _,trivial⟩ ok_nil (IsOld.all (bx:=[]) trivial) (DisOld.all (bx:=[]) trivial) ?_ ?_
  ·exact ⟨.norm 6 rfl rfl rfl (fun a_ w_ _ t r R D _ _=>op_faN fa_nneg ((R 3 rfl).trans f3)),.norm 7 rfl rfl rfl (fun a_ w_ _ t r R D _ _=>op_ldnneg (show a_.eval (.tmp 6)=.pointer (some ⟨gs1 1,0,none⟩) from D 0 rfl) (b3.keep t trivial)),trivial⟩
  ·intro a2 w2 gs2 hn2 hd2 hBt hr hR hP hX hU
   replace hn:=hn2;replace hd:=hd2.trans hd
   replace b2:=b2.keep hBt trivial
   replace b3:=b3.keep hBt trivial
   replace b4:=b4.keep hBt trivial
   replace f2:=(hR 2 rfl).trans f2
   replace f3:=(hR 3 rfl).trans f3
   replace f4:=(hR 4 rfl).trans f4
   have e7:a2.eval (.tmp 7)=.bool ny:=hP 1 (by decide)
   have f7:=e7
   replace Gx:=Gx.rl hr
   replace Gy:=Gy.rl hr
   replace HB:=HB.trans (hBt.below HB.size (UpOld.all (bx:=[]) trivial))
   clear hBt hr hR hP hX hU
   refine wp_cond_split f7 (fun hc7=>?_) (fun hc7=>?_)
   ·skip
    have hc7' : zy<0:=by have h:=Gy.2;rw [hc7] at h;exact of_decide_eq_true h.symm
    refine wp_seq ?_
    refine region4 [some 8,some 9,none] [Eqs (.agg #[.bool nx,.slice ax xs.length cx]),OutN ((-zx)) (Bx),Tt] [⟨N2,none,(gs1 0),2,.agg #[.bool nx,.slice ax xs.length cx],some (2,9,1),[0]⟩] [] (by kernel_rfl) hn rfl (by kernel_rfl) (by kernel_rfl) (by kernel_rfl) (by kernel_rfl) (by kernel_rfl) (by kernel_rfl) ⟨Eqs.mono4 _,OutN.mono4 _ _,True.mono4,trivial⟩ (ok_cons N2ok ok_nil) (IsOld.all (bx:=[⟨N2,none,(gs1 0),2,.agg #[.bool nx,.slice ax xs.length cx],some (2,9,1),[0]⟩]) ⟨fun _=>⟨f2,b2⟩,trivial⟩) (DisOld.all (bx:=[⟨N2,none,(gs1 0),2,.agg #[.bool nx,.slice ax xs.length cx],some (2,9,1),[0]⟩]) ⟨fun _=>trivial,trivial⟩) ?_ ?_
    ·exact ⟨.norm 8 rfl rfl rfl (fun a_ w_ _ t r R D hO _=>op_loadv N2ok ((R 2 rfl).trans f2) (hO 0 _ rfl rfl rfl)),.norm 9 rfl rfl rfl (fun a_ w_ _ t r R D _ _=>op_nminus (outn_eq (show a_.eval (.tmp 8)=.agg #[.bool nx,.slice ax xs.length cx] from D 0 rfl) (Gx.rl r) Lx) (by omega)),.store 0 _ _ _ rfl rfl rfl rfl rfl rfl rfl (fun ia h=>by cases h) rfl rfl rfl OutN.cs,trivial⟩
    ·intro a3 w3 gs3 hn3 hd3 hBt hr hR hP hX hU
     replace hn:=hn3;replace hd:=hd3.trans hd
     replace b3:=b3.keep hBt ⟨fun _=>ne2_3,trivial⟩
     replace b4:=b4.keep hBt ⟨fun _=>ne2_4,trivial⟩
     obtain ⟨n_4,a_4,c_4,r_4,e9,G4,l4⟩:OutN ((-zx)) (Bx) (a3.eval (.tmp 9)) w3:=hP 1 (by decide)
     have b2:BoxV N2 w3 ((gs1 0)) (.agg #[.bool n_4,.slice a_4 r_4.length c_4]):=boxv_old ((hX 0 _ rfl).2.1 rfl) (hX 0 _ rfl).2.2.2 e9
     replace f2:a3.eval (.tmp 2) = _:=(hR 2 rfl).trans f2
     replace f3:=(hR 3 rfl).trans f3
     replace f4:=(hR 4 rfl).trans f4
     replace Gx:=Gx.rl hr
     replace Gy:=Gy.rl hr
     replace HB:=HB.trans (hBt.below HB.size (UpOld.all (bx:=[⟨N2,none,(gs1 0),2,.agg #[.bool nx,.slice ax xs.length cx],some (2,9,1),[0]⟩]) ⟨fun _=>u2,trivial⟩))
     clear hBt hr hR hP hX hU
     refine region4 [some 10,some 11,none] [Eqs (.agg #[.bool ny,.slice ay ys.length cy]),OutN ((-zy)) (By),Tt] [⟨N2,none,(gs1 1),3,.agg #[.bool ny,.slice ay ys.length cy],some (2,11,1),[0]⟩] [] (by kernel_rfl) hn rfl (by kernel_rfl) (by kernel_rfl) (by kernel_rfl) (by kernel_rfl) (by kernel_rfl) (by kernel_rfl) ⟨Eqs.mono4 _,OutN.mono4 _ _,True.mono4,trivial⟩ (ok_cons N2ok ok_nil) (IsOld.all (bx:=[⟨N2,none,(gs1 1),3,.agg #[.bool ny,.slice ay ys.length cy],some (2,11,1),[0]⟩]) ⟨fun _=>⟨f3,b3⟩,trivial⟩) (DisOld.all (bx:=[⟨N2,none,(gs1 1),3,.agg #[.bool ny,.slice ay ys.length cy],some (2,11,1),[0]⟩]) ⟨fun _=>trivial,trivial⟩) ?_ ?_
     ·exact ⟨.norm 10 rfl rfl rfl (fun a_ w_ _ t r R D hO _=>op_loadv N2ok ((R 3 rfl).trans f3) (hO 0 _ rfl rfl rfl)),.norm 11 rfl rfl rfl (fun a_ w_ _ t r R D _ _=>op_nminus (outn_eq (show a_.eval (.tmp 10)=.agg #[.bool ny,.slice ay ys.length cy] from D 0 rfl) (Gy.rl r) Ly) (by omega)),.store 0 _ _ _ rfl rfl rfl rfl rfl rfl rfl (fun ia h=>by cases h) rfl rfl rfl OutN.cs,trivial⟩
     ·intro a5 w5 gs5 hn5 hd5 hBt hr hR hP hX hU
      replace hn:=hn5;replace hd:=hd5.trans hd
      replace b2:=b2.keep hBt ⟨fun _=>ne2_3.symm,trivial⟩
      replace b4:=b4.keep hBt ⟨fun _=>ne3_4,trivial⟩
      obtain ⟨n_6,a_6,c_6,r_6,e11,G6,l6⟩:OutN ((-zy)) (By) (a5.eval (.tmp 11)) w5:=hP 1 (by decide)
      have b3:BoxV N2 w5 ((gs1 1)) (.agg #[.bool n_6,.slice a_6 r_6.length c_6]):=boxv_old ((hX 0 _ rfl).2.1 rfl) (hX 0 _ rfl).2.2.2 e11
      replace f3:a5.eval (.tmp 3) = _:=(hR 3 rfl).trans f3
      replace f2:=(hR 2 rfl).trans f2
      replace f4:=(hR 4 rfl).trans f4
      replace Gx:=Gx.rl hr
      replace Gy:=Gy.rl hr
      replace G4:=G4.rl hr
      replace HB:=HB.trans (hBt.below HB.size (UpOld.all (bx:=[⟨N2,none,(gs1 1),3,.agg #[.bool ny,.slice ay ys.length cy],some (2,11,1),[0]⟩]) ⟨fun _=>u3,trivial⟩))
      clear hBt hr hR hP hX hU
      refine wp_seq ?_
      refine region4 [some 12,some 13,some 14,some 5,none] [Eqs (.agg #[.bool n_4,.slice a_4 r_4.length c_4]),Eqs (.agg #[.bool n_6,.slice a_6 r_6.length c_6]),OutN (((Int.gcd (-zx) (-zy):Nat):Int)) ((Bx)+(By)),Tt,Tt] [⟨N2,some 3,0,5,.agg #[.bool false,.slice none 0 0],some (4,14,2),[]⟩] [] (by kernel_rfl) hn rfl (by kernel_rfl) (by kernel_rfl) (by kernel_rfl) (by kernel_rfl) (by kernel_rfl) (by kernel_rfl) ⟨Eqs.mono4 _,Eqs.mono4 _,OutN.mono4 _ _,True.mono4,True.mono4,trivial⟩ (ok_cons N2ok ok_nil) (IsOld.all (bx:=[⟨N2,some 3,0,5,.agg #[.bool false,.slice none 0 0],some (4,14,2),[]⟩]) ⟨someNe,trivial⟩) (DisOld.all (bx:=[⟨N2,some 3,0,5,.agg #[.bool false,.slice none 0 0],some (4,14,2),[]⟩]) ⟨someNe,trivial⟩) ?_ ?_
      ·exact ⟨.norm 12 rfl rfl rfl (fun a_ w_ _ t r R D _ _=>op_loadv N2ok ((R 2 rfl).trans f2) (b2.keep t ⟨someNe,trivial⟩)),.norm 13 rfl rfl rfl (fun a_ w_ _ t r R D _ _=>op_loadv N2ok ((R 3 rfl).trans f3) (b3.keep t ⟨someNe,trivial⟩)),.norm 14 rfl rfl rfl (fun a_ w_ _ t r R D _ _=>op_ngcd (L1:=Bx) (L2:=By) (outn_eq (show a_.eval (.tmp 12)=.agg #[.bool n_4,.slice a_4 r_4.length c_4] from D 0 rfl) (G4.rl r) l4) (outn_eq (show a_.eval (.tmp 13)=.agg #[.bool n_6,.slice a_6 r_6.length c_6] from D 1 rfl) (G6.rl r) l6) (by omega) (by omega)),.alloc 0 _ rfl rfl (.inl ⟨rfl,rfl⟩) rfl rfl rfl rfl rfl,.store 0 _ _ _ rfl rfl rfl rfl rfl rfl rfl (fun ia h=>by cases h;rfl) rfl rfl rfl OutN.cs,trivial⟩
      ·intro a7 w7 gs7 hn7 hd7 hBt hr hR hP hX hU
       replace hn:=hn7;replace hd:=hd7.trans hd
       have ne4_5:(gs1 2)≠gs7 0:=by have h1:=b4.lt;have h2:=(hX 0 _ rfl).2.2.1 (by simp);omega
       replace b2:=b2.keep hBt ⟨someNe,trivial⟩
       replace b3:=b3.keep hBt ⟨someNe,trivial⟩
       replace b4:=b4.keep hBt ⟨someNe,trivial⟩
       obtain ⟨n_8,a_8,c_8,r_8,e14,G8,l8⟩:OutN (((Int.gcd (-zx) (-zy):Nat):Int)) ((Bx)+(By)) (a7.eval (.tmp 14)) w7:=hP 2 (by decide)
       have b5:BoxV N2 w7 (gs7 0) (.agg #[.bool n_8,.slice a_8 r_8.length c_8]):=boxv_of (hX 0 _ rfl).2.2.2 e14
       have f5:=(hX 0 _ rfl).1
       have u5:w.heap.size≤gs7 0:=Nat.le_trans HB.size ((hX 0 _ rfl).2.2.1 (by simp))
       replace f2:=(hR 2 rfl).trans f2
       replace f3:=(hR 3 rfl).trans f3
       replace f4:=(hR 4 rfl).trans f4
       replace Gx:=Gx.rl hr
       replace Gy:=Gy.rl hr
       replace G4:=G4.rl hr
       replace G6:=G6.rl hr
       replace HB:=HB.trans (hBt.below HB.size (UpOld.all (bx:=[⟨N2,some 3,0,5,.agg #[.bool false,.slice none 0 0],some (4,14,2),[]⟩]) ⟨someNe,trivial⟩))
       clear hBt hr hR hP hX hU
       refine wp_seq ?_
       refine region4 [some 15,some 16,some 17,some 18,some 19,some 20,some 21,none] [Eqs (.agg #[.bool n_4,.slice a_4 r_4.length c_4]),Eqs (.agg #[.bool n_8,.slice a_8 r_8.length c_8]),OutN ((ov (-zx) ((Int.gcd (-zx) (-zy):Nat):Int))) (Bx),Eqs (.agg #[.bool n_6,.slice a_6 r_6.length c_6]),Eqs (.agg #[.bool n_8,.slice a_8 r_8.length c_8]),OutN ((ov (-zy) ((Int.gcd (-zx) (-zy):Nat):Int))) (By),OutQ ((ov (-zx) ((Int.gcd (-zx) (-zy):Nat):Int))) ((ov (-zy) ((Int.gcd (-zx) (-zy):Nat):Int))) ((Bx)+(By)),Tt] [⟨Q4,none,(gs1 2),4,.agg #[.bool false,.slice none 0 0,.bool false,.slice none 0 0],some (7,21,6),[]⟩] [] (by kernel_rfl) hn rfl (by kernel_rfl) (by kernel_rfl) (by kernel_rfl) (by kernel_rfl) (by kernel_rfl) (by kernel_rfl) ⟨Eqs.mono4 _,Eqs.mono4 _,OutN.mono4 _ _,Eqs.mono4 _,Eqs.mono4 _,OutN.mono4 _ _,OutQ.mono4 _ _ _,True.mono4,trivial⟩ (ok_cons Q4ok ok_nil) (IsOld.all (bx:=[⟨Q4,none,(gs1 2),4,.agg #[.bool false,.slice none 0 0,.bool false,.slice none 0 0],some (7,21,6),[]⟩]) ⟨fun _=>⟨f4,b4⟩,trivial⟩) (DisOld.all (bx:=[⟨Q4,none,(gs1 2),4,.agg #[.bool false,.slice none 0 0,.bool false,.slice none 0 0],some (7,21,6),[]⟩]) ⟨fun _=>trivial,trivial⟩) ?_ ?_
       ·exact ⟨.norm 15 rfl rfl rfl (fun a_ w_ _ t r R D _ _=>op_loadv N2ok ((R 2 rfl).trans f2) (b2.keep t ⟨fun _=>ne2_4.symm,trivial⟩)),.norm 16 rfl rfl rfl (fun a_ w_ _ t r R D _ _=>op_loadv N2ok ((R 5 rfl).trans f5) (b5.keep t ⟨fun _=>ne4_5,trivial⟩)),.norm 17 rfl rfl rfl (fun a_ w_ _ t r R D _ _=>op_nover (outn_eq (show a_.eval (.tmp 15)=.agg #[.bool n_4,.slice a_4 r_4.length c_4] from D 0 rfl) (G4.rl r) l4) (outn_eq (show a_.eval (.tmp 16)=.agg #[.bool n_8,.slice a_8 r_8.length c_8] from D 1 rfl) (G8.rl r) l8) (by omega) (by omega) (gcd_ne _ (by omega))),.norm 18 rfl rfl rfl (fun a_ w_ _ t r R D _ _=>op_loadv N2ok ((R 3 rfl).trans f3) (b3.keep t ⟨fun _=>ne3_4.symm,trivial⟩)),.norm 19 rfl rfl rfl (fun a_ w_ _ t r R D _ _=>op_loadv N2ok ((R 5 rfl).trans f5) (b5.keep t ⟨fun _=>ne4_5,trivial⟩)),.norm 20 rfl rfl rfl (fun a_ w_ _ t r R D _ _=>op_nover (outn_eq (show a_.eval (.tmp 18)=.agg #[.bool n_6,.slice a_6 r_6.length c_6] from D 3 rfl) (G6.rl r) l6) (outn_eq (show a_.eval (.tmp 19)=.agg #[.bool n_8,.slice a_8 r_8.length c_8] from D 4 rfl) (G8.rl r) l8) (by omega) (by omega) (gcd_ne _ (by omega))),.norm 21 rfl rfl rfl (fun a_ w_ _ t r R D _ _=>op_bQ (L:=(Bx)+(By)) ((show OutN ((ov (-zx) ((Int.gcd (-zx) (-zy):Nat):Int))) (Bx) (a_.eval (.tmp 17)) w_ from D 2 rfl).to rfl (by omega)) ((show OutN ((ov (-zy) ((Int.gcd (-zx) (-zy):Nat):Int))) (By) (a_.eval (.tmp 20)) w_ from D 5 rfl).to rfl (by omega))),.store 0 _ _ _ rfl rfl rfl rfl rfl rfl rfl (fun ia h=>by cases h) rfl rfl rfl OutQ.cs,trivial⟩
       ·intro a9 w9 gs9 hn9 hd9 hBt hr hR hP hX hU
        replace hn:=hn9;replace hd:=hd9.trans hd
        obtain ⟨n_10,a_10,c_10,r_10,o_10,b_10,d_10,s_10,e21,G10,K10,l10,k10⟩:OutQ ((ov (-zx) ((Int.gcd (-zx) (-zy):Nat):Int))) ((ov (-zy) ((Int.gcd (-zx) (-zy):Nat):Int))) ((Bx)+(By)) (a9.eval (.tmp 21)) w9:=hP 6 (by decide)
        have b4:BoxV Q4 w9 ((gs1 2)) (.agg #[.bool n_10,.slice a_10 r_10.length c_10,.bool o_10,.slice b_10 s_10.length d_10]):=boxv_old ((hX 0 _ rfl).2.1 rfl) (hX 0 _ rfl).2.2.2 e21
        replace f4:a9.eval (.tmp 4) = _:=(hR 4 rfl).trans f4
        replace Gx:=Gx.rl hr
        replace Gy:=Gy.rl hr
        replace G4:=G4.rl hr
        replace G6:=G6.rl hr
        replace G8:=G8.rl hr
        replace HB:=HB.trans (hBt.below HB.size (UpOld.all (bx:=[⟨Q4,none,(gs1 2),4,.agg #[.bool false,.slice none 0 0,.bool false,.slice none 0 0],some (7,21,6),[]⟩]) ⟨fun _=>u4,trivial⟩))
        clear hBt hr hR hP hX hU
        refine wp_ret ?_
        repeat (first | refine then_ret ?_ | refine scope_ret ?_ | refine block_ret ?_)
        exact bodyPost_ret (v:=.agg #[.bool n_10,.slice a_10 r_10.length c_10,.bool o_10,.slice b_10 s_10.length d_10]) (res_c rfl f4 (lv_Q4 b4)) hd ⟨_,rfl,OutQ.to (outq_eq rfl G10 K10 l10 k10) (mk_neg hc7').1 (mk_neg hc7').2 (by omega),HB⟩
   ·skip
    have hc7' : 0<zy:=by have h:=Gy.2;rw [hc7] at h;have h2:=of_decide_eq_false h.symm;omega
    refine wp_skip ?_
    refine wp_seq ?_
    refine region4 [some 12,some 13,some 14,some 5,none] [Eqs (.agg #[.bool nx,.slice ax xs.length cx]),Eqs (.agg #[.bool ny,.slice ay ys.length cy]),OutN (((Int.gcd zx zy:Nat):Int)) ((Bx)+(By)),Tt,Tt] [⟨N2,some 3,0,5,.agg #[.bool false,.slice none 0 0],some (4,14,2),[]⟩] [] (by kernel_rfl) hn rfl (by kernel_rfl) (by kernel_rfl) (by kernel_rfl) (by kernel_rfl) (by kernel_rfl) (by kernel_rfl) ⟨Eqs.mono4 _,Eqs.mono4 _,OutN.mono4 _ _,True.mono4,True.mono4,trivial⟩ (ok_cons N2ok ok_nil) (IsOld.all (bx:=[⟨N2,some 3,0,5,.agg #[.bool false,.slice none 0 0],some (4,14,2),[]⟩]) ⟨someNe,trivial⟩) (DisOld.all (bx:=[⟨N2,some 3,0,5,.agg #[.bool false,.slice none 0 0],some (4,14,2),[]⟩]) ⟨someNe,trivial⟩) ?_ ?_
    ·exact ⟨.norm 12 rfl rfl rfl (fun a_ w_ _ t r R D _ _=>op_loadv N2ok ((R 2 rfl).trans f2) (b2.keep t ⟨someNe,trivial⟩)),.norm 13 rfl rfl rfl (fun a_ w_ _ t r R D _ _=>op_loadv N2ok ((R 3 rfl).trans f3) (b3.keep t ⟨someNe,trivial⟩)),.norm 14 rfl rfl rfl (fun a_ w_ _ t r R D _ _=>op_ngcd (L1:=Bx) (L2:=By) (outn_eq (show a_.eval (.tmp 12)=.agg #[.bool nx,.slice ax xs.length cx] from D 0 rfl) (Gx.rl r) Lx) (outn_eq (show a_.eval (.tmp 13)=.agg #[.bool ny,.slice ay ys.length cy] from D 1 rfl) (Gy.rl r) Ly) (by omega) (by omega)),.alloc 0 _ rfl rfl (.inl ⟨rfl,rfl⟩) rfl rfl rfl rfl rfl,.store 0 _ _ _ rfl rfl rfl rfl rfl rfl rfl (fun ia h=>by cases h;rfl) rfl rfl rfl OutN.cs,trivial⟩
    ·intro a11 w11 gs11 hn11 hd11 hBt hr hR hP hX hU
     replace hn:=hn11;replace hd:=hd11.trans hd
     have ne4_5:(gs1 2)≠gs11 0:=by have h1:=b4.lt;have h2:=(hX 0 _ rfl).2.2.1 (by simp);omega
     replace b2:=b2.keep hBt ⟨someNe,trivial⟩
     replace b3:=b3.keep hBt ⟨someNe,trivial⟩
     replace b4:=b4.keep hBt ⟨someNe,trivial⟩
     obtain ⟨n_12,a_12,c_12,r_12,e14,G12,l12⟩:OutN (((Int.gcd zx zy:Nat):Int)) ((Bx)+(By)) (a11.eval (.tmp 14)) w11:=hP 2 (by decide)
     have b5:BoxV N2 w11 (gs11 0) (.agg #[.bool n_12,.slice a_12 r_12.length c_12]):=boxv_of (hX 0 _ rfl).2.2.2 e14
     have f5:=(hX 0 _ rfl).1
     have u5:w.heap.size≤gs11 0:=Nat.le_trans HB.size ((hX 0 _ rfl).2.2.1 (by simp))
     replace f2:=(hR 2 rfl).trans f2
     replace f3:=(hR 3 rfl).trans f3
     replace f4:=(hR 4 rfl).trans f4
     replace Gx:=Gx.rl hr
     replace Gy:=Gy.rl hr
     replace HB:=HB.trans (hBt.below HB.size (UpOld.all (bx:=[⟨N2,some 3,0,5,.agg #[.bool false,.slice none 0 0],some (4,14,2),[]⟩]) ⟨someNe,trivial⟩))
     clear hBt hr hR hP hX hU
     refine wp_seq ?_
     refine region4 [some 15,some 16,some 17,some 18,some 19,some 20,some 21,none] [Eqs (.agg #[.bool nx,.slice ax xs.length cx]),Eqs (.agg #[.bool n_12,.slice a_12 r_12.length c_12]),OutN ((ov zx ((Int.gcd zx zy:Nat):Int))) (Bx),Eqs (.agg #[.bool ny,.slice ay ys.length cy]),Eqs (.agg #[.bool n_12,.slice a_12 r_12.length c_12]),OutN ((ov zy ((Int.gcd zx zy:Nat):Int))) (By),OutQ ((ov zx ((Int.gcd zx zy:Nat):Int))) ((ov zy ((Int.gcd zx zy:Nat):Int))) ((Bx)+(By)),Tt] [⟨Q4,none,(gs1 2),4,.agg #[.bool false,.slice none 0 0,.bool false,.slice none 0 0],some (7,21,6),[]⟩] [] (by kernel_rfl) hn rfl (by kernel_rfl) (by kernel_rfl) (by kernel_rfl) (by kernel_rfl) (by kernel_rfl) (by kernel_rfl) ⟨Eqs.mono4 _,Eqs.mono4 _,OutN.mono4 _ _,Eqs.mono4 _,Eqs.mono4 _,OutN.mono4 _ _,OutQ.mono4 _ _ _,True.mono4,trivial⟩ (ok_cons Q4ok ok_nil) (IsOld.all (bx:=[⟨Q4,none,(gs1 2),4,.agg #[.bool false,.slice none 0 0,.bool false,.slice none 0 0],some (7,21,6),[]⟩]) ⟨fun _=>⟨f4,b4⟩,trivial⟩) (DisOld.all (bx:=[⟨Q4,none,(gs1 2),4,.agg #[.bool false,.slice none 0 0,.bool false,.slice none 0 0],some (7,21,6),[]⟩]) ⟨fun _=>trivial,trivial⟩) ?_ ?_
     ·exact ⟨.norm 15 rfl rfl rfl (fun a_ w_ _ t r R D _ _=>op_loadv N2ok ((R 2 rfl).trans f2) (b2.keep t ⟨fun _=>ne2_4.symm,trivial⟩)),.norm 16 rfl rfl rfl (fun a_ w_ _ t r R D _ _=>op_loadv N2ok ((R 5 rfl).trans f5) (b5.keep t ⟨fun _=>ne4_5,trivial⟩)),.norm 17 rfl rfl rfl (fun a_ w_ _ t r R D _ _=>op_nover (outn_eq (show a_.eval (.tmp 15)=.agg #[.bool nx,.slice ax xs.length cx] from D 0 rfl) (Gx.rl r) Lx) (outn_eq (show a_.eval (.tmp 16)=.agg #[.bool n_12,.slice a_12 r_12.length c_12] from D 1 rfl) (G12.rl r) l12) (by omega) (by omega) (gcd_ne _ (by omega))),.norm 18 rfl rfl rfl (fun a_ w_ _ t r R D _ _=>op_loadv N2ok ((R 3 rfl).trans f3) (b3.keep t ⟨fun _=>ne3_4.symm,trivial⟩)),.norm 19 rfl rfl rfl (fun a_ w_ _ t r R D _ _=>op_loadv N2ok ((R 5 rfl).trans f5) (b5.keep t ⟨fun _=>ne4_5,trivial⟩)),.norm 20 rfl rfl rfl (fun a_ w_ _ t r R D _ _=>op_nover (outn_eq (show a_.eval (.tmp 18)=.agg #[.bool ny,.slice ay ys.length cy] from D 3 rfl) (Gy.rl r) Ly) (outn_eq (show a_.eval (.tmp 19)=.agg #[.bool n_12,.slice a_12 r_12.length c_12] from D 4 rfl) (G12.rl r) l12) (by omega) (by omega) (gcd_ne _ (by omega))),.norm 21 rfl rfl rfl (fun a_ w_ _ t r R D _ _=>op_bQ (L:=(Bx)+(By)) ((show OutN ((ov zx ((Int.gcd zx zy:Nat):Int))) (Bx) (a_.eval (.tmp 17)) w_ from D 2 rfl).to rfl (by omega)) ((show OutN ((ov zy ((Int.gcd zx zy:Nat):Int))) (By) (a_.eval (.tmp 20)) w_ from D 5 rfl).to rfl (by omega))),.store 0 _ _ _ rfl rfl rfl rfl rfl rfl rfl (fun ia h=>by cases h) rfl rfl rfl OutQ.cs,trivial⟩
     ·intro a13 w13 gs13 hn13 hd13 hBt hr hR hP hX hU
      replace hn:=hn13;replace hd:=hd13.trans hd
      obtain ⟨n_14,a_14,c_14,r_14,o_14,b_14,d_14,s_14,e21,G14,K14,l14,k14⟩:OutQ ((ov zx ((Int.gcd zx zy:Nat):Int))) ((ov zy ((Int.gcd zx zy:Nat):Int))) ((Bx)+(By)) (a13.eval (.tmp 21)) w13:=hP 6 (by decide)
      have b4:BoxV Q4 w13 ((gs1 2)) (.agg #[.bool n_14,.slice a_14 r_14.length c_14,.bool o_14,.slice b_14 s_14.length d_14]):=boxv_old ((hX 0 _ rfl).2.1 rfl) (hX 0 _ rfl).2.2.2 e21
      replace f4:a13.eval (.tmp 4) = _:=(hR 4 rfl).trans f4
      replace Gx:=Gx.rl hr
      replace Gy:=Gy.rl hr
      replace G12:=G12.rl hr
      replace HB:=HB.trans (hBt.below HB.size (UpOld.all (bx:=[⟨Q4,none,(gs1 2),4,.agg #[.bool false,.slice none 0 0,.bool false,.slice none 0 0],some (7,21,6),[]⟩]) ⟨fun _=>u4,trivial⟩))
      clear hBt hr hR hP hX hU
      refine wp_ret ?_
      repeat (first | refine then_ret ?_ | refine scope_ret ?_ | refine block_ret ?_)
      exact bodyPost_ret (v:=.agg #[.bool n_14,.slice a_14 r_14.length c_14,.bool o_14,.slice b_14 s_14.length d_14]) (res_c rfl f4 (lv_Q4 b4)) hd ⟨_,rfl,OutQ.to (outq_eq rfl G14 K14 l14 k14) (mk_pos hc7').1 (mk_pos hc7').2 (by omega),HB⟩
theorem has_qmake:Has Tryz.prog 29:=by unfold Has;kernel_rfl
theorem op_qmake {dst:Option Tmp} {ty:TypeId} {pos:String} {after:Array Edge} {guard:Option (Nat × Bool)} {a:Act} {w:World} {ats:Array TypeId} {i j:Nat} {Bx:Nat} {zx:Int} (Hx:OutN zx Bx (a.eval (.tmp i)) w) {By:Nat} {zy:Int} (Hy:OutN zy By (a.eval (.tmp j)) w) (hL:Bx+By≤300000) (hy:zy≠0) :
  Does Tryz.prog { dst,op:=.call { callee:=.value (.func 29),args:=#[.tmp i,.tmp j],argTypes:=ats },type:=ty,pos,after,guard } a.eval w fun v w'=>Below w.heap.size w w'∧(OutQ (nm zx zy) (dn zx zy) (Bx+By)) v w' := by
 obtain ⟨nx,ax,cx,xs,ex,Gx,Lx⟩:=Hx
 obtain ⟨ny,ay,cy,ys,ey,Gy,Ly⟩:=Hy
 refine does_call has_qmake _ (by simp only [List.map_toArray,List.map_cons,List.map_nil,ex,ey]) ((qmake_z w Bx _ _ _ _ _ Gx Lx By _ _ _ _ _ Gy Ly hL hy).mono ?_)
 rintro e w' ⟨v,rfl,h1,hb⟩
 exact ⟨_,rfl,hb,h1⟩
set_option maxRecDepth 20000 in
set_option maxHeartbeats 2000000 in
theorem qtold_z (w:World) (Bx:Nat) (nx:Bool) (ax:Option Addr) (cx:Nat) (xs:List Int) (px:Int) (Gx:Dm.Wh w nx ax cx xs px) (Lx:xs.length≤Bx) (ox:Bool) (bx:Option Addr) (dx:Nat) (xt:List Int) (qx:Int) (Kx:Dm.Wh w ox bx dx xt qx) (Mx:xt.length≤Bx) (hL:Bx≤400000) (hq:0<qx) :
  Calls Tryz.prog 28 #[.agg #[.bool nx,.slice ax xs.length cx,.bool ox,.slice bx xt.length dx]] w fun e w'=>∃ v,e=.returned v∧(OutR px qx (2*Bx)) v w'∧Below w.heap.size w w' := by
 go_enter Tryz.func28,Tryz.ntmps28
 generalize hA:(Act.mk _ _)=aa
 have hn:aa.tmps.size=10:=by rw [←hA];rfl
 have hd:aa.defers = []:=by rw [←hA]
 have f0:aa.eval (.tmp 0)=.agg #[.bool nx,.slice ax xs.length cx,.bool ox,.slice bx xt.length dx]:=by rw [←hA];rfl
 clear hA
 have HB:Below w.heap.size w w:=Below.refl _ _
 refine wp_seq ?_
 refine region4 [some 1,some 2] [Tt,Tt] [⟨Q4,some 0,0,1,.agg #[.bool nx,.slice ax xs.length cx,.bool ox,.slice bx xt.length dx],none,[]⟩,⟨R3,some 1,0,2,.agg #[.bool false,.slice none 0 0,.slice none 0 0],none,[]⟩] [] (by kernel_rfl) hn rfl (by kernel_rfl) (by kernel_rfl) (by kernel_rfl) (by kernel_rfl) (by kernel_rfl) (by kernel_rfl) ⟨True.mono4,True.mono4,trivial⟩ (ok_cons Q4ok (ok_cons R3ok ok_nil)) (IsOld.all (bx:=[⟨Q4,some 0,0,1,.agg #[.bool nx,.slice ax xs.length cx,.bool ox,.slice bx xt.length dx],none,[]⟩,⟨R3,some 1,0,2,.agg #[.bool false,.slice none 0 0,.slice none 0 0],none,[]⟩]) ⟨someNe,someNe,trivial⟩) (DisOld.all (bx:=[⟨Q4,some 0,0,1,.agg #[.bool nx,.slice ax xs.length cx,.bool ox,.slice bx xt.length dx],none,[]⟩,⟨R3,some 1,0,2,.agg #[.bool false,.slice none 0 0,.slice none 0 0],none,[]⟩]) ⟨someNe,someNe,trivial⟩) ?_ ?_
 ·exact ⟨.alloc 0 _ rfl rfl (.inr ⟨_,rfl,q4_cs,fun a_ hR=>(hR 0 rfl).trans f0⟩) rfl rfl rfl rfl rfl,.alloc 1 _ rfl rfl (.inl ⟨rfl,rfl⟩) rfl rfl rfl rfl rfl,trivial⟩
 ·intro a1 w1 gs1 hn1 hd1 hBt hr hR hP hX hU
  replace hn:=hn1;replace hd:=hd1.trans hd
  have ne1_2:gs1 0≠gs1 1:=hU 0 1 (by simp) (by simp) (by decide)
  have b1:BoxV Q4 w1 (gs1 0) (.agg #[.bool nx,.slice ax xs.length cx,.bool ox,.slice bx xt.length dx]):=(hX 0 _ rfl).2.2.2
  have f1:=(hX 0 _ rfl).1
  have u1:w.heap.size≤gs1 0:=Nat.le_trans HB.size ((hX 0 _ rfl).2.2.1 (by simp))
  have b2:BoxV R3 w1 (gs1 1) (.agg #[.bool false,.slice none 0 0,.slice none 0 0]):=(hX 1 _ rfl).2.2.2
  have f2:=(hX 1 _ rfl).1
  have u2:w.heap.size≤gs1 1:=Nat.le_trans HB.size ((hX 1 _ rfl).2.2.1 (by simp))
  replace Gx:=Gx.rl hr
  replace Kx:=Kx.rl hr
  replace HB:=HB.trans (hBt.below HB.size (UpOld.all (bx:=[⟨Q4,some 0,0,1,.agg #[.bool nx,.slice ax xs.length cx,.bool ox,.slice bx xt.length dx],none,[]⟩,⟨R3,some 1,0,2,.agg #[.bool false,.slice none 0 0,.slice none 0 0],none,[]⟩]) ⟨someNe,someNe,trivial⟩))
  clear hBt hr hR hP hX hU
  refine wp_seq ?_
  refine region4 [some 3,some 4,some 5,some 6,some 7,some 8,some 9,none] [Eqs (.pointer (some ⟨gs1 0,0,none⟩)),Eqs (.agg #[.bool nx,.slice ax xs.length cx]),OutW (px) (Bx),Eqs (.pointer (some ⟨gs1 0,2,none⟩)),Eqs (.agg #[.bool ox,.slice bx xt.length dx]),OutL (qx) (Bx),OutR (px) (qx) ((Bx)+(Bx)),Tt] [⟨R3,none,(gs1 1),2,.agg #[.bool false,.slice none 0 0,.slice none 0 0],some (7,9,6),[]⟩] [] (by kernel_rfl) hn rfl (by kernel_rfl) (by kernel_rfl) (by kernel_rfl) (by kernel_rfl) (by kernel_rfl) (by kernel_rfl) ⟨Eqs.mono4 _,Eqs.mono4 _,OutW.mono4 _ _,Eqs.mono4 _,Eqs.mono4 _,OutL.mono4 _ _,OutR.mono4 _ _ _,True.mono4,trivial⟩ (ok_cons R3ok ok_nil) (IsOld.all (bx:=[⟨R3,none,(gs1 1),2,.agg #[.bool false,.slice none 0 0,.slice none 0 0],some (7,9,6),[]⟩]) ⟨fun _=>⟨f2,b2⟩,trivial⟩) (DisOld.all (bx:=[⟨R3,none,(gs1 1),2,.agg #[.bool false,.slice none 0 0,.slice none 0 0],some (7,9,6),[]⟩]) ⟨fun _=>trivial,trivial⟩) ?_ ?_
  ·exact ⟨.norm 3 rfl rfl rfl (fun a_ w_ _ t r R D _ _=>op_faQ fa_q0 ((R 1 rfl).trans f1)),.norm 4 rfl rfl rfl (fun a_ w_ _ t r R D _ _=>op_ldq0 (show a_.eval (.tmp 3)=.pointer (some ⟨gs1 0,0,none⟩) from D 0 rfl) (b1.keep t ⟨fun _=>ne1_2.symm,trivial⟩)),.norm 5 rfl rfl rfl (fun a_ w_ _ t r R D _ _=>op_ntold (outn_eq (show a_.eval (.tmp 4)=.agg #[.bool nx,.slice ax xs.length cx] from D 1 rfl) (Gx.rl r) Lx) (by omega)),.norm 6 rfl rfl rfl (fun a_ w_ _ t r R D _ _=>op_faQ fa_q1 ((R 1 rfl).trans f1)),.norm 7 rfl rfl rfl (fun a_ w_ _ t r R D _ _=>op_ldq1 (show a_.eval (.tmp 6)=.pointer (some ⟨gs1 0,2,none⟩) from D 3 rfl) (b1.keep t ⟨fun _=>ne1_2.symm,trivial⟩)),.norm 8 rfl rfl rfl (fun a_ w_ _ t r R D _ _=>op_nlimbs (outn_eq (show a_.eval (.tmp 7)=.agg #[.bool ox,.slice bx xt.length dx] from D 4 rfl) (Kx.rl r) Mx) (by omega) hq),.norm 9 rfl rfl rfl (fun a_ w_ _ t r R D _ _=>op_bRo ((show OutW (px) (Bx) (a_.eval (.tmp 5)) w_ from D 2 rfl).to rfl (by omega)) ((show OutL (qx) (Bx) (a_.eval (.tmp 8)) w_ from D 5 rfl).to (by omega))),.store 0 _ _ _ rfl rfl rfl rfl rfl rfl rfl (fun ia h=>by cases h) rfl rfl rfl OutR.cs,trivial⟩
  ·intro a2 w2 gs2 hn2 hd2 hBt hr hR hP hX hU
   replace hn:=hn2;replace hd:=hd2.trans hd
   obtain ⟨n_3,a_3,c_3,r_3,b_3,d_3,s_3,e9,G3,K3,l3,k3⟩:OutR (px) (qx) ((Bx)+(Bx)) (a2.eval (.tmp 9)) w2:=hP 6 (by decide)
   have A3:=G3.ag;have S3:=K3.sl;have V3:=K3.val
   have b2:BoxV R3 w2 ((gs1 1)) (.agg #[.bool n_3,.slice a_3 r_3.length c_3,.slice b_3 s_3.length d_3]):=boxv_old ((hX 0 _ rfl).2.1 rfl) (hX 0 _ rfl).2.2.2 e9
   replace f2:a2.eval (.tmp 2) = _:=(hR 2 rfl).trans f2
   replace Gx:=Gx.rl hr
   replace Kx:=Kx.rl hr
   replace HB:=HB.trans (hBt.below HB.size (UpOld.all (bx:=[⟨R3,none,(gs1 1),2,.agg #[.bool false,.slice none 0 0,.slice none 0 0],some (7,9,6),[]⟩]) ⟨fun _=>u2,trivial⟩))
   clear hBt hr hR hP hX hU
   refine wp_ret ?_
   repeat (first | refine then_ret ?_ | refine scope_ret ?_ | refine block_ret ?_)
   exact bodyPost_ret (v:=.agg #[.bool n_3,.slice a_3 r_3.length c_3,.slice b_3 s_3.length d_3]) (res_c rfl f2 (lv_R3 b2)) hd ⟨_,rfl,OutR.to (outr_eq rfl G3 K3 l3 k3) rfl rfl (by omega),HB⟩
theorem has_qtold:Has Tryz.prog 28:=by unfold Has;kernel_rfl
theorem op_qtold {dst:Option Tmp} {ty:TypeId} {pos:String} {after:Array Edge} {guard:Option (Nat × Bool)} {a:Act} {w:World} {ats:Array TypeId} {i:Nat} {Bx:Nat} {px qx:Int} (Hx:OutQ px qx Bx (a.eval (.tmp i)) w) (hL:Bx≤400000) (hq:0<qx) :
  Does Tryz.prog { dst,op:=.call { callee:=.value (.func 28),args:=#[.tmp i],argTypes:=ats },type:=ty,pos,after,guard } a.eval w fun v w'=>Below w.heap.size w w'∧(OutR px qx (2*Bx)) v w' := by
 obtain ⟨nx,ax,cx,xs,ox,bx,dx,xt,ex,Gx,Kx,Lx,Mx⟩:=Hx
 refine does_call has_qtold _ (by simp only [List.map_toArray,List.map_cons,List.map_nil,ex]) ((qtold_z w Bx _ _ _ _ _ Gx Lx _ _ _ _ _ Kx Mx hL hq).mono ?_)
 rintro e w' ⟨v,rfl,h1,hb⟩
 exact ⟨_,rfl,hb,h1⟩
end Lm
end Go.Proofs.YtpofkigboedliaaGreat

namespace Go.Proofs.YtpofkigboedliaaGreat
namespace Lm
open Go Go.RowKit
theorem ncmp_lt {x y:Int} (h:Int.sign x<Int.sign y):(-1:Int)=cmpI x y:=by
 refine (cmpI_lt ?_).symm
 rcases Int.lt_trichotomy x 0 with a | a | a <;> rcases Int.lt_trichotomy y 0 with b | b | b <;> simp_all [Int.sign_eq_neg_one_of_neg,Int.sign_eq_one_of_pos] <;> omega
theorem ncmp_gt {x y:Int} (hn:¬ Int.sign x=Int.sign y) (h:¬ Int.sign x<Int.sign y):(1:Int)=cmpI x y:=by
 refine (cmpI_gt ?_).symm
 rcases Int.lt_trichotomy x 0 with a | a | a <;> rcases Int.lt_trichotomy y 0 with b | b | b <;> simp_all [Int.sign_eq_neg_one_of_neg,Int.sign_eq_one_of_pos] <;> omega
theorem cmpI_same {a b c d:Int} (h1:a<b↔c<d) (h2:a=b↔c=d):cmpI a b=cmpI c d:=by
 rcases Int.lt_trichotomy a b with h | h | h
 ·rw [cmpI_lt h,cmpI_lt (h1.1 h)]
 ·rw [cmpI_eq h,cmpI_eq (h2.1 h)]
 ·rw [cmpI_gt h,cmpI_gt (by omega)]
theorem ncmp_neg {x y:Int} (hs:Int.sign x=Int.sign y) (hx:x<0):cmpI (y.natAbs:Int) (x.natAbs:Int)=cmpI x y:=by
 have hy:y<0:=by
  rw [Int.sign_eq_neg_one_of_neg hx] at hs
  exact Int.sign_eq_neg_one_iff_neg.1 hs.symm
 exact cmpI_same (by omega) (by omega)
theorem ncmp_pos {x y:Int} (hs:Int.sign x=Int.sign y) (hx:¬ x<0):cmpI (x.natAbs:Int) (y.natAbs:Int)=cmpI x y:=by
 have hy:¬ y<0:=by
  intro hy
  rw [Int.sign_eq_neg_one_of_neg hy] at hs
  exact hx (Int.sign_eq_neg_one_iff_neg.1 hs)
 exact cmpI_same (by omega) (by omega)
section
variable {dst:Option Tmp} {ty:TypeId} {pos:String} {after:Array Edge} {guard:Option (Nat × Bool)} {a:Act} {w:World} {ats:Array TypeId} {i j:Nat} {x y u v:Int} {L1 L2:Nat}
theorem has_nadd:Has Tryz.prog 69:=by unfold Has;kernel_rfl
theorem op_nadd (h1:OutN x L1 (a.eval (.tmp i)) w) (h2:OutN y L2 (a.eval (.tmp j)) w) (hL:L1≤400000) (hL' : L2≤400000) :
  Does Tryz.prog { dst,op:=.call { callee:=.value (.func 69),args:=#[.tmp i,.tmp j],argTypes:=ats },type:=ty,pos,after,guard } a.eval w fun v w'=>Below w.heap.size w w'∧OutN (x+y) (L1+L2+1) v w' := by
 obtain ⟨ng,ao,cap,rs,e1,W,l⟩:=h1
 obtain ⟨mg,bo,dap,ss,e2,W',l'⟩:=h2
 refine does_call has_nadd _ (by simp only [List.map_toArray,List.map_cons,List.map_nil,e1,e2]) ((Dm.nadd_g w ng ao cap rs _ W mg bo dap ss _ W' (by omega) (by omega)).mono ?_)
 rintro e w' ⟨ng,ao,cap,rs,rfl,G,l,hb⟩
 exact ⟨_,rfl,hb,_,_,_,_,rfl,G,by omega⟩
theorem has_nmul:Has Tryz.prog 30:=by unfold Has;kernel_rfl
theorem op_nmul (h1:OutN x L1 (a.eval (.tmp i)) w) (h2:OutN y L2 (a.eval (.tmp j)) w) (hL:L1≤400000) (hL' : L2≤400000) :
  Does Tryz.prog { dst,op:=.call { callee:=.value (.func 30),args:=#[.tmp i,.tmp j],argTypes:=ats },type:=ty,pos,after,guard } a.eval w fun v w'=>Below w.heap.size w w'∧OutN (x*y) (L1+L2+1) v w' := by
 obtain ⟨ng,ao,cap,rs,e1,W,l⟩:=h1
 obtain ⟨mg,bo,dap,ss,e2,W',l'⟩:=h2
 refine does_call has_nmul _ (by simp only [List.map_toArray,List.map_cons,List.map_nil,e1,e2]) ((Dm.nmul_g w ng ao cap rs _ W mg bo dap ss _ W' (by omega) (by omega)).mono ?_)
 rintro e w' ⟨ng,ao,cap,rs,rfl,G,l,hb⟩
 exact ⟨_,rfl,hb,_,_,_,_,rfl,G,by omega⟩
theorem has_nsize:Has Tryz.prog 90:=by unfold Has;kernel_rfl
theorem op_nsize (h1:OutN x L1 (a.eval (.tmp i)) w) (h2:OutN y L2 (a.eval (.tmp j)) w) :
  Does Tryz.prog { dst,op:=.call { callee:=.value (.func 90),args:=#[.tmp i,.tmp j],argTypes:=ats },type:=ty,pos,after,guard } a.eval w fun v w'=>Below w.heap.size w w'∧Eqs (.int .i64 (cmpI (x.natAbs:Int) (y.natAbs:Int))) v w' := by
 obtain ⟨ng,ao,cap,rs,e1,W,l⟩:=h1
 obtain ⟨mg,bo,dap,ss,e2,W',l'⟩:=h2
 refine does_call has_nsize _ (by simp only [List.map_toArray,List.map_cons,List.map_nil,e1,e2]) ((Dm.size_any w ng mg ao bo cap dap rs ss _ _ W.1 W'.1).mono ?_)
 rintro e w' ⟨rfl,hb⟩
 exact ⟨_,rfl,hb,rfl⟩
theorem op_neqi (h1:a.eval (.tmp i)=.int .i64 u) (h2:a.eval (.tmp j)=.int .i64 v) :
  Does Tryz.prog { dst,op:=.binOp .neq 3 (.tmp i) (.tmp j) 3,type:=ty,pos,after,guard } a.eval w fun v' w'=>Below w.heap.size w w'∧Eqs (.bool (!decide (u=v))) v' w' := by
 refine does_bin (v:=.bool (!decide (u=v))) ?_ ?_ ⟨Below.refl _ _,rfl⟩
 ·rw [h1,h2];simp [go_sem]
 ·rw [h1,h2];simp [go_sem];rfl
theorem op_lssi (h1:a.eval (.tmp i)=.int .i64 u) (h2:a.eval (.tmp j)=.int .i64 v) :
  Does Tryz.prog { dst,op:=.binOp .lss 3 (.tmp i) (.tmp j) 3,type:=ty,pos,after,guard } a.eval w fun v' w'=>Below w.heap.size w w'∧Eqs (.bool (decide (u<v))) v' w' := by
 refine does_bin (v:=.bool (decide (u<v))) ?_ ?_ ⟨Below.refl _ _,rfl⟩
 ·rw [h1,h2];simp [go_sem]
 ·rw [h1,h2];simp [go_sem]
end
set_option maxRecDepth 20000 in
set_option maxHeartbeats 2000000 in
theorem ncmp_z (w:World) (Bx:Nat) (nx:Bool) (ax:Option Addr) (cx:Nat) (xs:List Int) (zx:Int) (Gx:Dm.Wh w nx ax cx xs zx) (Lx:xs.length≤Bx) (By:Nat) (ny:Bool) (ay:Option Addr) (cy:Nat) (ys:List Int) (zy:Int) (Gy:Dm.Wh w ny ay cy ys zy) (Ly:ys.length≤By)  :
  Calls Tryz.prog 68 #[.agg #[.bool nx,.slice ax xs.length cx],.agg #[.bool ny,.slice ay ys.length cy]] w fun e w'=>∃ v,e=.returned v∧(Eqs (.int .i64 (cmpI zx zy))) v w'∧Below w.heap.size w w' := by
 go_enter Tryz.func68,Tryz.ntmps68
 generalize hA:(Act.mk _ _)=aa
 have hn:aa.tmps.size=23:=by rw [←hA];rfl
 have hd:aa.defers = []:=by rw [←hA]
 have f0:aa.eval (.tmp 0)=.agg #[.bool nx,.slice ax xs.length cx]:=by rw [←hA];rfl
 have f1:aa.eval (.tmp 1)=.agg #[.bool ny,.slice ay ys.length cy]:=by rw [←hA];rfl
 clear hA
 have HB:Below w.heap.size w w:=Below.refl _ _
 refine wp_seq ?_
 refine region4 [some 2,some 3,some 4] [Tt,Tt,Eqs ((.int .i64 0))] [⟨N2,some 0,0,2,.agg #[.bool nx,.slice ax xs.length cx],none,[]⟩,⟨N2,some 1,0,3,.agg #[.bool ny,.slice ay ys.length cy],none,[]⟩] [] (by kernel_rfl) hn rfl (by kernel_rfl) (by kernel_rfl) (by kernel_rfl) (by kernel_rfl) (by kernel_rfl) (by kernel_rfl) ⟨True.mono4,True.mono4,Eqs.mono4 _,trivial⟩ (ok_cons N2ok (ok_cons N2ok ok_nil)) (IsOld.all (bx:=[⟨N2,some 0,0,2,.agg #[.bool nx,.slice ax xs.length cx],none,[]⟩,⟨N2,some 1,0,3,.agg #[.bool ny,.slice ay ys.length cy],none,[]⟩]) ⟨someNe,someNe,trivial⟩) (DisOld.all (bx:=[⟨N2,some 0,0,2,.agg #[.bool nx,.slice ax xs.length cx],none,[]⟩,⟨N2,some 1,0,3,.agg #[.bool ny,.slice ay ys.length cy],none,[]⟩]) ⟨someNe,someNe,trivial⟩) ?_ ?_
 ·exact ⟨.alloc 0 _ rfl rfl (.inr ⟨_,rfl,n2_cs,fun a_ hR=>(hR 0 rfl).trans f0⟩) rfl rfl rfl rfl rfl,.alloc 1 _ rfl rfl (.inr ⟨_,rfl,n2_cs,fun a_ hR=>(hR 1 rfl).trans f1⟩) rfl rfl rfl rfl rfl,.norm 4 rfl rfl rfl (fun a_ w_ _ t r R D _ _=>op_assign rfl),trivial⟩
 ·intro a1 w1 gs1 hn1 hd1 hBt hr hR hP hX hU
  replace hn:=hn1;replace hd:=hd1.trans hd
  have b2:BoxV N2 w1 (gs1 0) (.agg #[.bool nx,.slice ax xs.length cx]):=(hX 0 _ rfl).2.2.2
  have f2:=(hX 0 _ rfl).1
  have u2:w.heap.size≤gs1 0:=Nat.le_trans HB.size ((hX 0 _ rfl).2.2.1 (by simp))
  have b3:BoxV N2 w1 (gs1 1) (.agg #[.bool ny,.slice ay ys.length cy]):=(hX 1 _ rfl).2.2.2
  have f3:=(hX 1 _ rfl).1
  have u3:w.heap.size≤gs1 1:=Nat.le_trans HB.size ((hX 1 _ rfl).2.2.1 (by simp))
  have e4:a1.eval (.tmp 4)=(.int .i64 0):=hP 2 (by decide)
  have f4:=e4
  replace Gx:=Gx.rl hr
  replace Gy:=Gy.rl hr
  replace HB:=HB.trans (hBt.below HB.size (UpOld.all (bx:=[⟨N2,some 0,0,2,.agg #[.bool nx,.slice ax xs.length cx],none,[]⟩,⟨N2,some 1,0,3,.agg #[.bool ny,.slice ay ys.length cy],none,[]⟩]) ⟨someNe,someNe,trivial⟩))
  clear hBt hr hR hP hX hU
  refine wp_seq ?_
  refine wp_seq ?_
  refine region4 [some 5,some 6,some 7,some 8,some 9] [Eqs (.agg #[.bool nx,.slice ax xs.length cx]),Eqs (.int .i64 (Int.sign zx)),Eqs (.agg #[.bool ny,.slice ay ys.length cy]),Eqs (.int .i64 (Int.sign zy)),Eqs (.bool (!decide ((Int.sign zx)=(Int.sign zy))))] [] [] (by kernel_rfl) hn rfl (by kernel_rfl) (by kernel_rfl) (by kernel_rfl) (by kernel_rfl) (by kernel_rfl) (by kernel_rfl) ⟨Eqs.mono4 _,Eqs.mono4 _,Eqs.mono4 _,Eqs.mono4 _,Eqs.mono4 _,trivial⟩ ok_nil (IsOld.all (bx:=[]) trivial) (DisOld.all (bx:=[]) trivial) ?_ ?_
  ·exact ⟨.norm 5 rfl rfl rfl (fun a_ w_ _ t r R D _ _=>op_loadv N2ok ((R 2 rfl).trans f2) (b2.keep t trivial)),.norm 6 rfl rfl rfl (fun a_ w_ _ t r R D _ _=>op_nsign (outn_eq (show a_.eval (.tmp 5)=.agg #[.bool nx,.slice ax xs.length cx] from D 0 rfl) (Gx.rl r) Lx)),.norm 7 rfl rfl rfl (fun a_ w_ _ t r R D _ _=>op_loadv N2ok ((R 3 rfl).trans f3) (b3.keep t trivial)),.norm 8 rfl rfl rfl (fun a_ w_ _ t r R D _ _=>op_nsign (outn_eq (show a_.eval (.tmp 7)=.agg #[.bool ny,.slice ay ys.length cy] from D 2 rfl) (Gy.rl r) Ly)),.norm 9 rfl rfl rfl (fun a_ w_ _ t r R D _ _=>op_neqi (show a_.eval (.tmp 6)=.int .i64 (Int.sign zx) from D 1 rfl) (show a_.eval (.tmp 8)=.int .i64 (Int.sign zy) from D 3 rfl)),trivial⟩
  ·intro a2 w2 gs2 hn2 hd2 hBt hr hR hP hX hU
   replace hn:=hn2;replace hd:=hd2.trans hd
   replace b2:=b2.keep hBt trivial
   replace b3:=b3.keep hBt trivial
   replace f2:=(hR 2 rfl).trans f2
   replace f3:=(hR 3 rfl).trans f3
   replace f4:=(hR 4 rfl).trans f4
   have e9:a2.eval (.tmp 9)=.bool (!decide ((Int.sign zx)=(Int.sign zy))):=hP 4 (by decide)
   have f9:=e9
   replace Gx:=Gx.rl hr
   replace Gy:=Gy.rl hr
   replace HB:=HB.trans (hBt.below HB.size (UpOld.all (bx:=[]) trivial))
   clear hBt hr hR hP hX hU
   refine wp_cond_split f9 (fun hc9=>?_) (fun hc9=>?_)
   ·skip
    refine wp_seq ?_
    refine wp_seq ?_
    refine region4 [some 10,some 11,some 12,some 13,some 14] [Eqs (.agg #[.bool nx,.slice ax xs.length cx]),Eqs (.int .i64 (Int.sign zx)),Eqs (.agg #[.bool ny,.slice ay ys.length cy]),Eqs (.int .i64 (Int.sign zy)),Eqs (.bool (decide ((Int.sign zx)<(Int.sign zy))))] [] [] (by kernel_rfl) hn rfl (by kernel_rfl) (by kernel_rfl) (by kernel_rfl) (by kernel_rfl) (by kernel_rfl) (by kernel_rfl) ⟨Eqs.mono4 _,Eqs.mono4 _,Eqs.mono4 _,Eqs.mono4 _,Eqs.mono4 _,trivial⟩ ok_nil (IsOld.all (bx:=[]) trivial) (DisOld.all (bx:=[]) trivial) ?_ ?_
    ·exact ⟨.norm 10 rfl rfl rfl (fun a_ w_ _ t r R D _ _=>op_loadv N2ok ((R 2 rfl).trans f2) (b2.keep t trivial)),.norm 11 rfl rfl rfl (fun a_ w_ _ t r R D _ _=>op_nsign (outn_eq (show a_.eval (.tmp 10)=.agg #[.bool nx,.slice ax xs.length cx] from D 0 rfl) (Gx.rl r) Lx)),.norm 12 rfl rfl rfl (fun a_ w_ _ t r R D _ _=>op_loadv N2ok ((R 3 rfl).trans f3) (b3.keep t trivial)),.norm 13 rfl rfl rfl (fun a_ w_ _ t r R D _ _=>op_nsign (outn_eq (show a_.eval (.tmp 12)=.agg #[.bool ny,.slice ay ys.length cy] from D 2 rfl) (Gy.rl r) Ly)),.norm 14 rfl rfl rfl (fun a_ w_ _ t r R D _ _=>op_lssi (show a_.eval (.tmp 11)=.int .i64 (Int.sign zx) from D 1 rfl) (show a_.eval (.tmp 13)=.int .i64 (Int.sign zy) from D 3 rfl)),trivial⟩
    ·intro a3 w3 gs3 hn3 hd3 hBt hr hR hP hX hU
     replace hn:=hn3;replace hd:=hd3.trans hd
     replace b2:=b2.keep hBt trivial
     replace b3:=b3.keep hBt trivial
     replace f2:=(hR 2 rfl).trans f2
     replace f3:=(hR 3 rfl).trans f3
     replace f4:=(hR 4 rfl).trans f4
     have e14:a3.eval (.tmp 14)=.bool (decide ((Int.sign zx)<(Int.sign zy))):=hP 4 (by decide)
     have f14:=e14
     replace Gx:=Gx.rl hr
     replace Gy:=Gy.rl hr
     replace HB:=HB.trans (hBt.below HB.size (UpOld.all (bx:=[]) trivial))
     clear hBt hr hR hP hX hU
     refine wp_cond_split f14 (fun hc14=>?_) (fun hc14=>?_)
     ·skip
      refine wp_seq ?_
      refine region4 [some 4] [Eqs ((.int .i64 (-1)))] [] [] (by kernel_rfl) hn rfl (by kernel_rfl) (by kernel_rfl) (by kernel_rfl) (by kernel_rfl) (by kernel_rfl) (by kernel_rfl) ⟨Eqs.mono4 _,trivial⟩ ok_nil (IsOld.all (bx:=[]) trivial) (DisOld.all (bx:=[]) trivial) ?_ ?_
      ·exact ⟨.norm 4 rfl rfl rfl (fun a_ w_ _ t r R D _ _=>op_assign rfl),trivial⟩
      ·intro a4 w4 gs4 hn4 hd4 hBt hr hR hP hX hU
       replace hn:=hn4;replace hd:=hd4.trans hd
       replace b2:=b2.keep hBt trivial
       replace b3:=b3.keep hBt trivial
       replace f2:=(hR 2 rfl).trans f2
       replace f3:=(hR 3 rfl).trans f3
       have e4:a4.eval (.tmp 4)=(.int .i64 (-1)):=hP 0 (by decide)
       have f4:=e4
       replace Gx:=Gx.rl hr
       replace Gy:=Gy.rl hr
       replace HB:=HB.trans (hBt.below HB.size (UpOld.all (bx:=[]) trivial))
       clear hBt hr hR hP hX hU
       refine wp_ret ?_
       repeat (first | refine then_ret ?_ | refine scope_ret ?_ | refine block_ret ?_)
       exact bodyPost_ret (v:=.int .i64 (-1)) (res_t rfl f4) hd ⟨_,rfl,congrArg (Value.int .i64) (ncmp_lt (of_decide_eq_true hc14)),HB⟩
     ·skip
      refine wp_skip ?_
      refine wp_seq ?_
      refine region4 [some 4] [Eqs ((.int .i64 1))] [] [] (by kernel_rfl) hn rfl (by kernel_rfl) (by kernel_rfl) (by kernel_rfl) (by kernel_rfl) (by kernel_rfl) (by kernel_rfl) ⟨Eqs.mono4 _,trivial⟩ ok_nil (IsOld.all (bx:=[]) trivial) (DisOld.all (bx:=[]) trivial) ?_ ?_
      ·exact ⟨.norm 4 rfl rfl rfl (fun a_ w_ _ t r R D _ _=>op_assign rfl),trivial⟩
      ·intro a5 w5 gs5 hn5 hd5 hBt hr hR hP hX hU
       replace hn:=hn5;replace hd:=hd5.trans hd
       replace b2:=b2.keep hBt trivial
       replace b3:=b3.keep hBt trivial
       replace f2:=(hR 2 rfl).trans f2
       replace f3:=(hR 3 rfl).trans f3
       have e4:a5.eval (.tmp 4)=(.int .i64 1):=hP 0 (by decide)
       have f4:=e4
       replace Gx:=Gx.rl hr
       replace Gy:=Gy.rl hr
       replace HB:=HB.trans (hBt.below HB.size (UpOld.all (bx:=[]) trivial))
       clear hBt hr hR hP hX hU
       refine wp_ret ?_
       repeat (first | refine then_ret ?_ | refine scope_ret ?_ | refine block_ret ?_)
       exact bodyPost_ret (v:=.int .i64 1) (res_t rfl f4) hd ⟨_,rfl,congrArg (Value.int .i64) (ncmp_gt (by simpa using hc9) (of_decide_eq_false hc14)),HB⟩
   ·skip
    refine wp_skip ?_
    refine wp_seq ?_
    refine wp_seq ?_
    refine region4 [some 15,some 16] [Eqs (.pointer (some ⟨gs1 0,0,none⟩)),Eqs (.bool nx)] [] [] (by kernel_rfl) hn rfl (by kernel_rfl) (by kernel_rfl) (by kernel_rfl) (by kernel_rfl) (by kernel_rfl) (by kernel_rfl) ⟨Eqs.mono4 _,Eqs.mono4 _,trivial⟩ ok_nil (IsOld.all (bx:=[]) trivial) (DisOld.all (bx:=[]) trivial) ?_ ?_
    ·exact ⟨.norm 15 rfl rfl rfl (fun a_ w_ _ t r R D _ _=>op_faN fa_nneg ((R 2 rfl).trans f2)),.norm 16 rfl rfl rfl (fun a_ w_ _ t r R D _ _=>op_ldnneg (show a_.eval (.tmp 15)=.pointer (some ⟨gs1 0,0,none⟩) from D 0 rfl) (b2.keep t trivial)),trivial⟩
    ·intro a6 w6 gs6 hn6 hd6 hBt hr hR hP hX hU
     replace hn:=hn6;replace hd:=hd6.trans hd
     replace b2:=b2.keep hBt trivial
     replace b3:=b3.keep hBt trivial
     replace f2:=(hR 2 rfl).trans f2
     replace f3:=(hR 3 rfl).trans f3
     replace f4:=(hR 4 rfl).trans f4
     have e16:a6.eval (.tmp 16)=.bool nx:=hP 1 (by decide)
     have f16:=e16
     replace Gx:=Gx.rl hr
     replace Gy:=Gy.rl hr
     replace HB:=HB.trans (hBt.below HB.size (UpOld.all (bx:=[]) trivial))
     clear hBt hr hR hP hX hU
     refine wp_cond_split f16 (fun hc16=>?_) (fun hc16=>?_)
     ·skip
      refine wp_seq ?_
      refine region4 [some 17,some 18,some 19,some 4] [Eqs (.agg #[.bool ny,.slice ay ys.length cy]),Eqs (.agg #[.bool nx,.slice ax xs.length cx]),Eqs (.int .i64 (cmpI ((zy).natAbs:Int) ((zx).natAbs:Int))),Eqs (.int .i64 (cmpI ((zy).natAbs:Int) ((zx).natAbs:Int)))] [] [] (by kernel_rfl) hn rfl (by kernel_rfl) (by kernel_rfl) (by kernel_rfl) (by kernel_rfl) (by kernel_rfl) (by kernel_rfl) ⟨Eqs.mono4 _,Eqs.mono4 _,Eqs.mono4 _,Eqs.mono4 _,trivial⟩ ok_nil (IsOld.all (bx:=[]) trivial) (DisOld.all (bx:=[]) trivial) ?_ ?_
      ·exact ⟨.norm 17 rfl rfl rfl (fun a_ w_ _ t r R D _ _=>op_loadv N2ok ((R 3 rfl).trans f3) (b3.keep t trivial)),.norm 18 rfl rfl rfl (fun a_ w_ _ t r R D _ _=>op_loadv N2ok ((R 2 rfl).trans f2) (b2.keep t trivial)),.norm 19 rfl rfl rfl (fun a_ w_ _ t r R D _ _=>op_nsize (outn_eq (show a_.eval (.tmp 17)=.agg #[.bool ny,.slice ay ys.length cy] from D 0 rfl) (Gy.rl r) Ly) (outn_eq (show a_.eval (.tmp 18)=.agg #[.bool nx,.slice ax xs.length cx] from D 1 rfl) (Gx.rl r) Lx)),.norm 4 rfl rfl rfl (fun a_ w_ _ t r R D _ _=>op_assign (show a_.eval (.tmp 19)=.int .i64 (cmpI ((zy).natAbs:Int) ((zx).natAbs:Int)) from D 2 rfl)),trivial⟩
      ·intro a7 w7 gs7 hn7 hd7 hBt hr hR hP hX hU
       replace hn:=hn7;replace hd:=hd7.trans hd
       replace b2:=b2.keep hBt trivial
       replace b3:=b3.keep hBt trivial
       replace f2:=(hR 2 rfl).trans f2
       replace f3:=(hR 3 rfl).trans f3
       have e4:a7.eval (.tmp 4)=.int .i64 (cmpI ((zy).natAbs:Int) ((zx).natAbs:Int)):=hP 3 (by decide)
       have f4:=e4
       replace Gx:=Gx.rl hr
       replace Gy:=Gy.rl hr
       replace HB:=HB.trans (hBt.below HB.size (UpOld.all (bx:=[]) trivial))
       clear hBt hr hR hP hX hU
       refine wp_ret ?_
       repeat (first | refine then_ret ?_ | refine scope_ret ?_ | refine block_ret ?_)
       exact bodyPost_ret (v:=.int .i64 (cmpI ((zy).natAbs:Int) ((zx).natAbs:Int))) (res_t rfl f4) hd ⟨_,rfl,congrArg (Value.int .i64) (ncmp_neg (by simpa using hc9) (by have h:=Gx.2;rw [hc16] at h;exact of_decide_eq_true h.symm)),HB⟩
     ·skip
      refine wp_skip ?_
      refine wp_seq ?_
      refine region4 [some 20,some 21,some 22,some 4] [Eqs (.agg #[.bool nx,.slice ax xs.length cx]),Eqs (.agg #[.bool ny,.slice ay ys.length cy]),Eqs (.int .i64 (cmpI ((zx).natAbs:Int) ((zy).natAbs:Int))),Eqs (.int .i64 (cmpI ((zx).natAbs:Int) ((zy).natAbs:Int)))] [] [] (by kernel_rfl) hn rfl (by kernel_rfl) (by kernel_rfl) (by kernel_rfl) (by kernel_rfl) (by kernel_rfl) (by kernel_rfl) ⟨Eqs.mono4 _,Eqs.mono4 _,Eqs.mono4 _,Eqs.mono4 _,trivial⟩ ok_nil (IsOld.all (bx:=[]) trivial) (DisOld.all (bx:=[]) trivial) ?_ ?_
      ·exact ⟨.norm 20 rfl rfl rfl (fun a_ w_ _ t r R D _ _=>op_loadv N2ok ((R 2 rfl).trans f2) (b2.keep t trivial)),.norm 21 rfl rfl rfl (fun a_ w_ _ t r R D _ _=>op_loadv N2ok ((R 3 rfl).trans f3) (b3.keep t trivial)),.norm 22 rfl rfl rfl (fun a_ w_ _ t r R D _ _=>op_nsize (outn_eq (show a_.eval (.tmp 20)=.agg #[.bool nx,.slice ax xs.length cx] from D 0 rfl) (Gx.rl r) Lx) (outn_eq (show a_.eval (.tmp 21)=.agg #[.bool ny,.slice ay ys.length cy] from D 1 rfl) (Gy.rl r) Ly)),.norm 4 rfl rfl rfl (fun a_ w_ _ t r R D _ _=>op_assign (show a_.eval (.tmp 22)=.int .i64 (cmpI ((zx).natAbs:Int) ((zy).natAbs:Int)) from D 2 rfl)),trivial⟩
      ·intro a8 w8 gs8 hn8 hd8 hBt hr hR hP hX hU
       replace hn:=hn8;replace hd:=hd8.trans hd
       have e4:a8.eval (.tmp 4)=.int .i64 (cmpI ((zx).natAbs:Int) ((zy).natAbs:Int)):=hP 3 (by decide)
       have f4:=e4
       replace Gx:=Gx.rl hr
       replace Gy:=Gy.rl hr
       replace HB:=HB.trans (hBt.below HB.size (UpOld.all (bx:=[]) trivial))
       clear hBt hr hR hP hX hU
       refine wp_ret ?_
       repeat (first | refine then_ret ?_ | refine scope_ret ?_ | refine block_ret ?_)
       exact bodyPost_ret (v:=.int .i64 (cmpI ((zx).natAbs:Int) ((zy).natAbs:Int))) (res_t rfl f4) hd ⟨_,rfl,congrArg (Value.int .i64) (ncmp_pos (by simpa using hc9) (by have h:=Gx.2;rw [hc16] at h;exact of_decide_eq_false h.symm)),HB⟩
theorem has_ncmp:Has Tryz.prog 68:=by unfold Has;kernel_rfl
theorem op_ncmp {dst:Option Tmp} {ty:TypeId} {pos:String} {after:Array Edge} {guard:Option (Nat × Bool)} {a:Act} {w:World} {ats:Array TypeId} {i j:Nat} {Bx:Nat} {zx:Int} (Hx:OutN zx Bx (a.eval (.tmp i)) w) {By:Nat} {zy:Int} (Hy:OutN zy By (a.eval (.tmp j)) w)  :
  Does Tryz.prog { dst,op:=.call { callee:=.value (.func 68),args:=#[.tmp i,.tmp j],argTypes:=ats },type:=ty,pos,after,guard } a.eval w fun v w'=>Below w.heap.size w w'∧(Eqs (.int .i64 (cmpI zx zy))) v w' := by
 obtain ⟨nx,ax,cx,xs,ex,Gx,Lx⟩:=Hx
 obtain ⟨ny,ay,cy,ys,ey,Gy,Ly⟩:=Hy
 refine does_call has_ncmp _ (by simp only [List.map_toArray,List.map_cons,List.map_nil,ex,ey]) ((ncmp_z w Bx _ _ _ _ _ Gx Lx By _ _ _ _ _ Gy Ly ).mono ?_)
 rintro e w' ⟨v,rfl,h1,hb⟩
 exact ⟨_,rfl,hb,h1⟩
end Lm
end Go.Proofs.YtpofkigboedliaaGreat

namespace Go.Proofs.YtpofkigboedliaaGreat
namespace Lm
open Go Go.RowKit
section
variable {dst:Option Tmp} {ty:TypeId} {pos:String} {after:Array Edge} {guard:Option (Nat × Bool)} {a:Act} {w:World} {ats:Array TypeId} {i k g:Nat} {x z u v:Int} {L:Nat}
theorem op_lssk (h1:a.eval (.tmp i)=.int .i64 u) :
    Does Tryz.prog { dst,op:=.binOp .lss 3 (.tmp i) (.const (.int .i64 v)) 3,type:=ty,pos,after,guard } a.eval w fun v' w'=>Below w.heap.size w w'∧Eqs (.bool (decide (u<v))) v' w' := by
  refine does_bin (v:=.bool (decide (u<v))) ?_ ?_ ⟨Below.refl _ _,rfl⟩
  · rw [h1];simp [go_sem,Act.eval]
  · rw [h1];simp [go_sem,Act.eval]
end
end Lm
end Go.Proofs.YtpofkigboedliaaGreat

namespace Go.Proofs.YtpofkigboedliaaGreat
namespace Lm
open Go Go.RowKit
theorem outn_zero {v:Value} (w:World) (h:v=.agg #[.bool false,.slice none 0 0]):OutN 0 0 v w:=⟨false,none,0,[],h,⟨⟨⟨none,0,rfl,Nat.le_refl _,by simp [maxLen],(fun _ h=>by cases h),.inl rfl⟩,⟨(fun _ h=>by cases h),rfl⟩,rfl⟩,rfl⟩,Nat.le_refl _⟩
theorem read_zero {p q:Int} (h:q=0):0=nm (tp p q) (tq q)∧1=dn (tp p q) (tq q):=by
 subst h
 simp [nm,dn,tp,tq]
theorem read_some {p q:Int} (h:q≠0):nm p q=nm (tp p q) (tq q)∧dn p q=dn (tp p q) (tq q):=by
 simp [tp,tq,h]
section
variable {dst:Option Tmp} {ty:TypeId} {pos:String} {after:Array Edge} {guard:Option (Nat × Bool)} {a:Act} {w:World} {ats:Array TypeId} {i:Nat} {x p q:Int} {L:Nat}
theorem has_nfrom:Has Tryz.prog 51:=by unfold Has;kernel_rfl
theorem op_nfrom (h:IsL x L (a.eval (.tmp i)) w) (hL:L≤100000) :
  Does Tryz.prog { dst,op:=.call { callee:=.value (.func 51),args:=#[.tmp i],argTypes:=ats },type:=ty,pos,after,guard } a.eval w fun v w'=>Below w.heap.size w w'∧OutN x (3*L) v w' := by
 obtain ⟨ao,n,cap,xs,e,hs,hv,hl⟩:=h
 have h0:=(val_bounds hs.parts.2.2.2).1
 refine does_call has_nfrom _ (by simp only [List.map_toArray,List.map_cons,List.map_nil,e]) ((Dm.fromLimbs_any w ao n cap xs hs (by omega)).mono ?_)
 rintro e w' ⟨ao',cap',D,rfl,G,hl',hb⟩
 rw [hv] at G h0
 refine ⟨_,rfl,hb,_,_,_,_,rfl,⟨?_,(decide_eq_false (by omega)).symm⟩,by omega⟩
 rwa [show ((x.natAbs:Nat):Int)=x by omega]
theorem op_bN0:Does Tryz.prog { dst,op:=.build 54 #[],type:=ty,pos,after,guard } a.eval w fun v' w'=>Below w.heap.size w w'∧Eqs (.agg #[.bool false,.slice none 0 0]) v' w' := by
 have e:(execOp a.eval { dst,op:=.build 54 #[],type:=ty,pos,after,guard }).run Tryz.prog w=.ok (.value (.agg #[.bool false,.slice none 0 0])) w:=by
  simp only [execOp,List.map_toArray,List.map_nil]
  go_simp
 refine ⟨?_⟩
 unfold Turns
 rw [e]
 exact ⟨Below.refl _ _,rfl⟩
end
set_option maxRecDepth 20000 in
set_option maxHeartbeats 2000000 in
theorem qzero_z (w:World)   :
  Calls Tryz.prog 52 #[] w fun e w'=>∃ v,e=.returned v∧(OutQ 0 1 5) v w'∧Below w.heap.size w w' := by
 go_enter Tryz.func52,Tryz.ntmps52
 generalize hA:(Act.mk _ _)=aa
 have hn:aa.tmps.size=4:=by rw [←hA];rfl
 have hd:aa.defers = []:=by rw [←hA]
 clear hA
 have HB:Below w.heap.size w w:=Below.refl _ _
 refine wp_seq ?_
 refine region4 [some 0] [Tt] [⟨Q4,some 0,0,0,.agg #[.bool false,.slice none 0 0,.bool false,.slice none 0 0],none,[]⟩] [] (by kernel_rfl) hn rfl (by kernel_rfl) (by kernel_rfl) (by kernel_rfl) (by kernel_rfl) (by kernel_rfl) (by kernel_rfl) ⟨True.mono4,trivial⟩ (ok_cons Q4ok ok_nil) (IsOld.all (bx:=[⟨Q4,some 0,0,0,.agg #[.bool false,.slice none 0 0,.bool false,.slice none 0 0],none,[]⟩]) ⟨someNe,trivial⟩) (DisOld.all (bx:=[⟨Q4,some 0,0,0,.agg #[.bool false,.slice none 0 0,.bool false,.slice none 0 0],none,[]⟩]) ⟨someNe,trivial⟩) ?_ ?_
 ·exact ⟨.alloc 0 _ rfl rfl (.inl ⟨rfl,rfl⟩) rfl rfl rfl rfl rfl,trivial⟩
 ·intro a1 w1 gs1 hn1 hd1 hBt hr hR hP hX hU
  replace hn:=hn1;replace hd:=hd1.trans hd
  have b0:BoxV Q4 w1 (gs1 0) (.agg #[.bool false,.slice none 0 0,.bool false,.slice none 0 0]):=(hX 0 _ rfl).2.2.2
  have f0:=(hX 0 _ rfl).1
  have u0:w.heap.size≤gs1 0:=Nat.le_trans HB.size ((hX 0 _ rfl).2.2.1 (by simp))
  replace HB:=HB.trans (hBt.below HB.size (UpOld.all (bx:=[⟨Q4,some 0,0,0,.agg #[.bool false,.slice none 0 0,.bool false,.slice none 0 0],none,[]⟩]) ⟨someNe,trivial⟩))
  clear hBt hr hR hP hX hU
  refine wp_seq ?_
  refine region4 [some 1,some 2,some 3,none] [Eqs (.agg #[.bool false,.slice none 0 0]),OutN (1) (5),OutQ (0) (1) ((0)+(5)),Tt] [⟨Q4,none,(gs1 0),0,.agg #[.bool false,.slice none 0 0,.bool false,.slice none 0 0],some (3,3,2),[]⟩] [] (by kernel_rfl) hn rfl (by kernel_rfl) (by kernel_rfl) (by kernel_rfl) (by kernel_rfl) (by kernel_rfl) (by kernel_rfl) ⟨Eqs.mono4 _,OutN.mono4 _ _,OutQ.mono4 _ _ _,True.mono4,trivial⟩ (ok_cons Q4ok ok_nil) (IsOld.all (bx:=[⟨Q4,none,(gs1 0),0,.agg #[.bool false,.slice none 0 0,.bool false,.slice none 0 0],some (3,3,2),[]⟩]) ⟨fun _=>⟨f0,b0⟩,trivial⟩) (DisOld.all (bx:=[⟨Q4,none,(gs1 0),0,.agg #[.bool false,.slice none 0 0,.bool false,.slice none 0 0],some (3,3,2),[]⟩]) ⟨fun _=>trivial,trivial⟩) ?_ ?_
  ·exact ⟨.norm 1 rfl rfl rfl (fun a_ w_ _ t r R D _ _=>op_bN0),.norm 2 rfl rfl rfl (fun a_ w_ _ t r R D _ _=>op_nint (by omega) (by omega)),.norm 3 rfl rfl rfl (fun a_ w_ _ t r R D _ _=>op_bQ (L:=(0)+(5)) ((outn_zero _ (show a_.eval (.tmp 1)=.agg #[.bool false,.slice none 0 0] from D 0 rfl)).to rfl (by omega)) ((show OutN (1) (5) (a_.eval (.tmp 2)) w_ from D 1 rfl).to rfl (by omega))),.store 0 _ _ _ rfl rfl rfl rfl rfl rfl rfl (fun ia h=>by cases h) rfl rfl rfl OutQ.cs,trivial⟩
  ·intro a2 w2 gs2 hn2 hd2 hBt hr hR hP hX hU
   replace hn:=hn2;replace hd:=hd2.trans hd
   obtain ⟨n_3,a_3,c_3,r_3,o_3,b_3,d_3,s_3,e3,G3,K3,l3,k3⟩:OutQ (0) (1) ((0)+(5)) (a2.eval (.tmp 3)) w2:=hP 2 (by decide)
   have b0:BoxV Q4 w2 ((gs1 0)) (.agg #[.bool n_3,.slice a_3 r_3.length c_3,.bool o_3,.slice b_3 s_3.length d_3]):=boxv_old ((hX 0 _ rfl).2.1 rfl) (hX 0 _ rfl).2.2.2 e3
   replace f0:a2.eval (.tmp 0) = _:=(hR 0 rfl).trans f0
   replace HB:=HB.trans (hBt.below HB.size (UpOld.all (bx:=[⟨Q4,none,(gs1 0),0,.agg #[.bool false,.slice none 0 0,.bool false,.slice none 0 0],some (3,3,2),[]⟩]) ⟨fun _=>u0,trivial⟩))
   clear hBt hr hR hP hX hU
   refine wp_ret ?_
   repeat (first | refine then_ret ?_ | refine scope_ret ?_ | refine block_ret ?_)
   exact bodyPost_ret (v:=.agg #[.bool n_3,.slice a_3 r_3.length c_3,.bool o_3,.slice b_3 s_3.length d_3]) (res_c rfl f0 (lv_Q4 b0)) hd ⟨_,rfl,OutQ.to (outq_eq rfl G3 K3 l3 k3) rfl rfl (by omega),HB⟩
theorem has_qzero:Has Tryz.prog 52:=by unfold Has;kernel_rfl
theorem op_qzero {dst:Option Tmp} {ty:TypeId} {pos:String} {after:Array Edge} {guard:Option (Nat × Bool)} {a:Act} {w:World} {ats:Array TypeId}   :
  Does Tryz.prog { dst,op:=.call { callee:=.value (.func 52),args:=#[],argTypes:=ats },type:=ty,pos,after,guard } a.eval w fun v w'=>Below w.heap.size w w'∧(OutQ 0 1 5) v w' := by
 
 refine does_call has_qzero _ (by simp only [List.map_toArray,List.map_nil]) ((qzero_z w  ).mono ?_)
 rintro e w' ⟨v,rfl,h1,hb⟩
 exact ⟨_,rfl,hb,h1⟩
set_option maxRecDepth 20000 in
set_option maxHeartbeats 2000000 in
theorem qread_z (w:World) (Br:Nat) (nr:Bool) (ar:Option Addr) (mr cr:Nat) (rs:List Int) (pr:Int) (Ar:Ag w nr ar mr cr rs pr) (Lr:rs.length≤Br) (br:Option Addr) (kr dr:Nat) (rt:List Int) (qr:Int) (Sr:Sl w (.slice br kr dr) rt) (Vr:val rt=qr) (Mr:rt.length≤Br) (hL:Br≤10000) :
  Calls Tryz.prog 26 #[.agg #[.bool nr,.slice ar mr cr,.slice br kr dr]] w fun e w'=>∃ v,e=.returned v∧(OutQ (nm (tp pr qr) (tq qr)) (dn (tp pr qr) (tq qr)) (6*Br+10)) v w'∧Below w.heap.size w w' := by
 go_enter Tryz.func26,Tryz.ntmps26
 generalize hA:(Act.mk _ _)=aa
 have hn:aa.tmps.size=16:=by rw [←hA];rfl
 have hd:aa.defers = []:=by rw [←hA]
 have f0:aa.eval (.tmp 0)=.agg #[.bool nr,.slice ar mr cr,.slice br kr dr]:=by rw [←hA];rfl
 clear hA
 have HB:Below w.heap.size w w:=Below.refl _ _
 have Dr:Ag w false br kr dr rt qr:=⟨Sr,Vr⟩
 refine wp_seq ?_
 refine region4 [some 1,some 2] [Tt,Tt] [⟨R3,some 0,0,1,.agg #[.bool nr,.slice ar mr cr,.slice br kr dr],none,[]⟩,⟨Q4,some 1,0,2,.agg #[.bool false,.slice none 0 0,.bool false,.slice none 0 0],none,[]⟩] [] (by kernel_rfl) hn rfl (by kernel_rfl) (by kernel_rfl) (by kernel_rfl) (by kernel_rfl) (by kernel_rfl) (by kernel_rfl) ⟨True.mono4,True.mono4,trivial⟩ (ok_cons R3ok (ok_cons Q4ok ok_nil)) (IsOld.all (bx:=[⟨R3,some 0,0,1,.agg #[.bool nr,.slice ar mr cr,.slice br kr dr],none,[]⟩,⟨Q4,some 1,0,2,.agg #[.bool false,.slice none 0 0,.bool false,.slice none 0 0],none,[]⟩]) ⟨someNe,someNe,trivial⟩) (DisOld.all (bx:=[⟨R3,some 0,0,1,.agg #[.bool nr,.slice ar mr cr,.slice br kr dr],none,[]⟩,⟨Q4,some 1,0,2,.agg #[.bool false,.slice none 0 0,.bool false,.slice none 0 0],none,[]⟩]) ⟨someNe,someNe,trivial⟩) ?_ ?_
 ·exact ⟨.alloc 0 _ rfl rfl (.inr ⟨_,rfl,r3_cs,fun a_ hR=>(hR 0 rfl).trans f0⟩) rfl rfl rfl rfl rfl,.alloc 1 _ rfl rfl (.inl ⟨rfl,rfl⟩) rfl rfl rfl rfl rfl,trivial⟩
 ·intro a1 w1 gs1 hn1 hd1 hBt hr hR hP hX hU
  replace hn:=hn1;replace hd:=hd1.trans hd
  have ne1_2:gs1 0≠gs1 1:=hU 0 1 (by simp) (by simp) (by decide)
  have b1:BoxV R3 w1 (gs1 0) (.agg #[.bool nr,.slice ar mr cr,.slice br kr dr]):=(hX 0 _ rfl).2.2.2
  have f1:=(hX 0 _ rfl).1
  have u1:w.heap.size≤gs1 0:=Nat.le_trans HB.size ((hX 0 _ rfl).2.2.1 (by simp))
  have b2:BoxV Q4 w1 (gs1 1) (.agg #[.bool false,.slice none 0 0,.bool false,.slice none 0 0]):=(hX 1 _ rfl).2.2.2
  have f2:=(hX 1 _ rfl).1
  have u2:w.heap.size≤gs1 1:=Nat.le_trans HB.size ((hX 1 _ rfl).2.2.1 (by simp))
  replace Ar:=Ar.rl hr
  replace Sr:=Sr.rl hr
  replace Dr:=Dr.rl hr
  replace HB:=HB.trans (hBt.below HB.size (UpOld.all (bx:=[⟨R3,some 0,0,1,.agg #[.bool nr,.slice ar mr cr,.slice br kr dr],none,[]⟩,⟨Q4,some 1,0,2,.agg #[.bool false,.slice none 0 0,.bool false,.slice none 0 0],none,[]⟩]) ⟨someNe,someNe,trivial⟩))
  clear hBt hr hR hP hX hU
  refine wp_seq ?_
  refine region4 [some 4,some 5,some 6,some 3,none] [Eqs (.pointer (some ⟨gs1 0,2,none⟩)),Eqs (.slice br kr dr),OutN (qr) (3*(Br)),Tt,Tt] [⟨N2,some 3,0,3,.agg #[.bool false,.slice none 0 0],some (4,6,2),[]⟩] [] (by kernel_rfl) hn rfl (by kernel_rfl) (by kernel_rfl) (by kernel_rfl) (by kernel_rfl) (by kernel_rfl) (by kernel_rfl) ⟨Eqs.mono4 _,Eqs.mono4 _,OutN.mono4 _ _,True.mono4,True.mono4,trivial⟩ (ok_cons N2ok ok_nil) (IsOld.all (bx:=[⟨N2,some 3,0,3,.agg #[.bool false,.slice none 0 0],some (4,6,2),[]⟩]) ⟨someNe,trivial⟩) (DisOld.all (bx:=[⟨N2,some 3,0,3,.agg #[.bool false,.slice none 0 0],some (4,6,2),[]⟩]) ⟨someNe,trivial⟩) ?_ ?_
  ·exact ⟨.norm 4 rfl rfl rfl (fun a_ w_ _ t r R D _ _=>op_faR fa_den ((R 1 rfl).trans f1)),.norm 5 rfl rfl rfl (fun a_ w_ _ t r R D _ _=>op_ldden (show a_.eval (.tmp 4)=.pointer (some ⟨gs1 0,2,none⟩) from D 0 rfl) (b1.keep t ⟨someNe,trivial⟩)),.norm 6 rfl rfl rfl (fun a_ w_ _ t r R D _ _=>op_nfrom (isl_eq (show a_.eval (.tmp 5)=.slice br kr dr from D 1 rfl) (Sr.rl r) Vr Mr) (by omega)),.alloc 0 _ rfl rfl (.inl ⟨rfl,rfl⟩) rfl rfl rfl rfl rfl,.store 0 _ _ _ rfl rfl rfl rfl rfl rfl rfl (fun ia h=>by cases h;rfl) rfl rfl rfl OutN.cs,trivial⟩
  ·intro a2 w2 gs2 hn2 hd2 hBt hr hR hP hX hU
   replace hn:=hn2;replace hd:=hd2.trans hd
   have ne2_3:(gs1 1)≠gs2 0:=by have h1:=b2.lt;have h2:=(hX 0 _ rfl).2.2.1 (by simp);omega
   replace b1:=b1.keep hBt ⟨someNe,trivial⟩
   replace b2:=b2.keep hBt ⟨someNe,trivial⟩
   obtain ⟨n_3,a_3,c_3,r_3,e6,G3,l3⟩:OutN (qr) (3*(Br)) (a2.eval (.tmp 6)) w2:=hP 2 (by decide)
   have b3:BoxV N2 w2 (gs2 0) (.agg #[.bool n_3,.slice a_3 r_3.length c_3]):=boxv_of (hX 0 _ rfl).2.2.2 e6
   have f3:=(hX 0 _ rfl).1
   have u3:w.heap.size≤gs2 0:=Nat.le_trans HB.size ((hX 0 _ rfl).2.2.1 (by simp))
   replace f1:=(hR 1 rfl).trans f1
   replace f2:=(hR 2 rfl).trans f2
   replace Ar:=Ar.rl hr
   replace Sr:=Sr.rl hr
   replace Dr:=Dr.rl hr
   replace HB:=HB.trans (hBt.below HB.size (UpOld.all (bx:=[⟨N2,some 3,0,3,.agg #[.bool false,.slice none 0 0],some (4,6,2),[]⟩]) ⟨someNe,trivial⟩))
   clear hBt hr hR hP hX hU
   refine wp_seq ?_
   refine wp_seq ?_
   refine region4 [some 7,some 8,some 9] [Eqs (.agg #[.bool n_3,.slice a_3 r_3.length c_3]),Eqs (.int .i64 (Int.sign qr)),Eqs (.bool (decide ((Int.sign qr)=0)))] [] [] (by kernel_rfl) hn rfl (by kernel_rfl) (by kernel_rfl) (by kernel_rfl) (by kernel_rfl) (by kernel_rfl) (by kernel_rfl) ⟨Eqs.mono4 _,Eqs.mono4 _,Eqs.mono4 _,trivial⟩ ok_nil (IsOld.all (bx:=[]) trivial) (DisOld.all (bx:=[]) trivial) ?_ ?_
   ·exact ⟨.norm 7 rfl rfl rfl (fun a_ w_ _ t r R D _ _=>op_loadv N2ok ((R 3 rfl).trans f3) (b3.keep t trivial)),.norm 8 rfl rfl rfl (fun a_ w_ _ t r R D _ _=>op_nsign (outn_eq (show a_.eval (.tmp 7)=.agg #[.bool n_3,.slice a_3 r_3.length c_3] from D 0 rfl) (G3.rl r) l3)),.norm 9 rfl rfl rfl (fun a_ w_ _ t r R D _ _=>op_eqlk (show a_.eval (.tmp 8)=.int .i64 (Int.sign qr) from D 1 rfl)),trivial⟩
   ·intro a4 w4 gs4 hn4 hd4 hBt hr hR hP hX hU
    replace hn:=hn4;replace hd:=hd4.trans hd
    replace b1:=b1.keep hBt trivial
    replace b2:=b2.keep hBt trivial
    replace b3:=b3.keep hBt trivial
    replace f1:=(hR 1 rfl).trans f1
    replace f2:=(hR 2 rfl).trans f2
    replace f3:=(hR 3 rfl).trans f3
    have e9:a4.eval (.tmp 9)=.bool (decide ((Int.sign qr)=0)):=hP 2 (by decide)
    have f9:=e9
    replace Ar:=Ar.rl hr
    replace Sr:=Sr.rl hr
    replace Dr:=Dr.rl hr
    replace G3:=G3.rl hr
    replace HB:=HB.trans (hBt.below HB.size (UpOld.all (bx:=[]) trivial))
    clear hBt hr hR hP hX hU
    refine wp_cond_split f9 (fun hc9=>?_) (fun hc9=>?_)
    ·skip
     have hq0:qr=0:=Int.sign_eq_zero_iff_zero.1 (of_decide_eq_true hc9)
     refine wp_seq ?_
     refine region4 [some 10,none] [OutQ (0) (1) (5),Tt] [⟨Q4,none,(gs1 1),2,.agg #[.bool false,.slice none 0 0,.bool false,.slice none 0 0],some (1,10,0),[]⟩] [] (by kernel_rfl) hn rfl (by kernel_rfl) (by kernel_rfl) (by kernel_rfl) (by kernel_rfl) (by kernel_rfl) (by kernel_rfl) ⟨OutQ.mono4 _ _ _,True.mono4,trivial⟩ (ok_cons Q4ok ok_nil) (IsOld.all (bx:=[⟨Q4,none,(gs1 1),2,.agg #[.bool false,.slice none 0 0,.bool false,.slice none 0 0],some (1,10,0),[]⟩]) ⟨fun _=>⟨f2,b2⟩,trivial⟩) (DisOld.all (bx:=[⟨Q4,none,(gs1 1),2,.agg #[.bool false,.slice none 0 0,.bool false,.slice none 0 0],some (1,10,0),[]⟩]) ⟨fun _=>trivial,trivial⟩) ?_ ?_
     ·exact ⟨.norm 10 rfl rfl rfl (fun a_ w_ _ t r R D _ _=>op_qzero),.store 0 _ _ _ rfl rfl rfl rfl rfl rfl rfl (fun ia h=>by cases h) rfl rfl rfl OutQ.cs,trivial⟩
     ·intro a5 w5 gs5 hn5 hd5 hBt hr hR hP hX hU
      replace hn:=hn5;replace hd:=hd5.trans hd
      replace b1:=b1.keep hBt ⟨fun _=>ne1_2.symm,trivial⟩
      replace b3:=b3.keep hBt ⟨fun _=>ne2_3,trivial⟩
      obtain ⟨n_6,a_6,c_6,r_6,o_6,b_6,d_6,s_6,e10,G6,K6,l6,k6⟩:OutQ (0) (1) (5) (a5.eval (.tmp 10)) w5:=hP 0 (by decide)
      have b2:BoxV Q4 w5 ((gs1 1)) (.agg #[.bool n_6,.slice a_6 r_6.length c_6,.bool o_6,.slice b_6 s_6.length d_6]):=boxv_old ((hX 0 _ rfl).2.1 rfl) (hX 0 _ rfl).2.2.2 e10
      replace f2:a5.eval (.tmp 2) = _:=(hR 2 rfl).trans f2
      replace f1:=(hR 1 rfl).trans f1
      replace f3:=(hR 3 rfl).trans f3
      replace Ar:=Ar.rl hr
      replace Sr:=Sr.rl hr
      replace Dr:=Dr.rl hr
      replace G3:=G3.rl hr
      replace HB:=HB.trans (hBt.below HB.size (UpOld.all (bx:=[⟨Q4,none,(gs1 1),2,.agg #[.bool false,.slice none 0 0,.bool false,.slice none 0 0],some (1,10,0),[]⟩]) ⟨fun _=>u2,trivial⟩))
      clear hBt hr hR hP hX hU
      refine wp_ret ?_
      repeat (first | refine then_ret ?_ | refine scope_ret ?_ | refine block_ret ?_)
      exact bodyPost_ret (v:=.agg #[.bool n_6,.slice a_6 r_6.length c_6,.bool o_6,.slice b_6 s_6.length d_6]) (res_c rfl f2 (lv_Q4 b2)) hd ⟨_,rfl,OutQ.to (outq_eq rfl G6 K6 l6 k6) (read_zero hq0).1 (read_zero hq0).2 (by omega),HB⟩
    ·skip
     have hq0:qr≠0:=fun e=>of_decide_eq_false hc9 (Int.sign_eq_zero_iff_zero.2 e)
     refine wp_skip ?_
     refine wp_seq ?_
     refine region4 [some 11,some 12,some 13,some 14,some 15,none] [Eqs (.pointer (some ⟨gs1 0,0,none⟩)),Eqs (.agg #[.bool nr,.slice ar mr cr]),OutN (pr) (3*(Br)),Eqs (.agg #[.bool n_3,.slice a_3 r_3.length c_3]),OutQ ((nm pr qr)) ((dn pr qr)) ((3*(Br))+(3*(Br))),Tt] [⟨Q4,none,(gs1 1),2,.agg #[.bool false,.slice none 0 0,.bool false,.slice none 0 0],some (5,15,4),[]⟩] [] (by kernel_rfl) hn rfl (by kernel_rfl) (by kernel_rfl) (by kernel_rfl) (by kernel_rfl) (by kernel_rfl) (by kernel_rfl) ⟨Eqs.mono4 _,Eqs.mono4 _,OutN.mono4 _ _,Eqs.mono4 _,OutQ.mono4 _ _ _,True.mono4,trivial⟩ (ok_cons Q4ok ok_nil) (IsOld.all (bx:=[⟨Q4,none,(gs1 1),2,.agg #[.bool false,.slice none 0 0,.bool false,.slice none 0 0],some (5,15,4),[]⟩]) ⟨fun _=>⟨f2,b2⟩,trivial⟩) (DisOld.all (bx:=[⟨Q4,none,(gs1 1),2,.agg #[.bool false,.slice none 0 0,.bool false,.slice none 0 0],some (5,15,4),[]⟩]) ⟨fun _=>trivial,trivial⟩) ?_ ?_
     ·exact ⟨.norm 11 rfl rfl rfl (fun a_ w_ _ t r R D _ _=>op_faR fa_num ((R 1 rfl).trans f1)),.norm 12 rfl rfl rfl (fun a_ w_ _ t r R D _ _=>op_ldnum (show a_.eval (.tmp 11)=.pointer (some ⟨gs1 0,0,none⟩) from D 0 rfl) (b1.keep t ⟨fun _=>ne1_2.symm,trivial⟩)),.norm 13 rfl rfl rfl (fun a_ w_ _ t r R D _ _=>op_nof (L:=Br) (isw_eq (show a_.eval (.tmp 12)=.agg #[.bool nr,.slice ar mr cr] from D 1 rfl) (Ar.rl r) Lr) (by omega)),.norm 14 rfl rfl rfl (fun a_ w_ _ t r R D _ _=>op_loadv N2ok ((R 3 rfl).trans f3) (b3.keep t ⟨fun _=>ne2_3,trivial⟩)),.norm 15 rfl rfl rfl (fun a_ w_ _ t r R D _ _=>op_qmake (Bx:=3*(Br)) (By:=3*(Br)) (show OutN (pr) (3*(Br)) (a_.eval (.tmp 13)) w_ from D 2 rfl) (outn_eq (show a_.eval (.tmp 14)=.agg #[.bool n_3,.slice a_3 r_3.length c_3] from D 3 rfl) (G3.rl r) l3) (by omega) hq0),.store 0 _ _ _ rfl rfl rfl rfl rfl rfl rfl (fun ia h=>by cases h) rfl rfl rfl OutQ.cs,trivial⟩
     ·intro a7 w7 gs7 hn7 hd7 hBt hr hR hP hX hU
      replace hn:=hn7;replace hd:=hd7.trans hd
      obtain ⟨n_8,a_8,c_8,r_8,o_8,b_8,d_8,s_8,e15,G8,K8,l8,k8⟩:OutQ ((nm pr qr)) ((dn pr qr)) ((3*(Br))+(3*(Br))) (a7.eval (.tmp 15)) w7:=hP 4 (by decide)
      have b2:BoxV Q4 w7 ((gs1 1)) (.agg #[.bool n_8,.slice a_8 r_8.length c_8,.bool o_8,.slice b_8 s_8.length d_8]):=boxv_old ((hX 0 _ rfl).2.1 rfl) (hX 0 _ rfl).2.2.2 e15
      replace f2:a7.eval (.tmp 2) = _:=(hR 2 rfl).trans f2
      replace Ar:=Ar.rl hr
      replace Sr:=Sr.rl hr
      replace Dr:=Dr.rl hr
      replace G3:=G3.rl hr
      replace HB:=HB.trans (hBt.below HB.size (UpOld.all (bx:=[⟨Q4,none,(gs1 1),2,.agg #[.bool false,.slice none 0 0,.bool false,.slice none 0 0],some (5,15,4),[]⟩]) ⟨fun _=>u2,trivial⟩))
      clear hBt hr hR hP hX hU
      refine wp_ret ?_
      repeat (first | refine then_ret ?_ | refine scope_ret ?_ | refine block_ret ?_)
      exact bodyPost_ret (v:=.agg #[.bool n_8,.slice a_8 r_8.length c_8,.bool o_8,.slice b_8 s_8.length d_8]) (res_c rfl f2 (lv_Q4 b2)) hd ⟨_,rfl,OutQ.to (outq_eq rfl G8 K8 l8 k8) (read_some hq0).1 (read_some hq0).2 (by omega),HB⟩
theorem has_qread:Has Tryz.prog 26:=by unfold Has;kernel_rfl
theorem op_qread {dst:Option Tmp} {ty:TypeId} {pos:String} {after:Array Edge} {guard:Option (Nat × Bool)} {a:Act} {w:World} {ats:Array TypeId} {i:Nat} {Br:Nat} {pr qr:Int} (Hr:IsR pr qr Br (a.eval (.tmp i)) w) (hL:Br≤10000) :
  Does Tryz.prog { dst,op:=.call { callee:=.value (.func 26),args:=#[.tmp i],argTypes:=ats },type:=ty,pos,after,guard } a.eval w fun v w'=>Below w.heap.size w w'∧(OutQ (nm (tp pr qr) (tq qr)) (dn (tp pr qr) (tq qr)) (6*Br+10)) v w' := by
 obtain ⟨nr,ar,mr,cr,rs,br,kr,dr,rt,er,Ar,Sr,Vr,Lr,Mr⟩:=Hr
 refine does_call has_qread _ (by simp only [List.map_toArray,List.map_cons,List.map_nil,er]) ((qread_z w Br _ _ _ _ _ _ Ar Lr _ _ _ _ _ Sr Vr Mr hL).mono ?_)
 rintro e w' ⟨v,rfl,h1,hb⟩
 exact ⟨_,rfl,hb,h1⟩
set_option maxRecDepth 20000 in
set_option maxHeartbeats 2000000 in
theorem qminus_z (w:World) (Bx:Nat) (nx:Bool) (ax:Option Addr) (cx:Nat) (xs:List Int) (px:Int) (Gx:Dm.Wh w nx ax cx xs px) (Lx:xs.length≤Bx) (ox:Bool) (bx:Option Addr) (dx:Nat) (xt:List Int) (qx:Int) (Kx:Dm.Wh w ox bx dx xt qx) (Mx:xt.length≤Bx) (hL:Bx≤400000) :
  Calls Tryz.prog 43 #[.agg #[.bool nx,.slice ax xs.length cx,.bool ox,.slice bx xt.length dx]] w fun e w'=>∃ v,e=.returned v∧(OutQ (-px) qx (2*Bx)) v w'∧Below w.heap.size w w' := by
 go_enter Tryz.func43,Tryz.ntmps43
 generalize hA:(Act.mk _ _)=aa
 have hn:aa.tmps.size=9:=by rw [←hA];rfl
 have hd:aa.defers = []:=by rw [←hA]
 have f0:aa.eval (.tmp 0)=.agg #[.bool nx,.slice ax xs.length cx,.bool ox,.slice bx xt.length dx]:=by rw [←hA];rfl
 clear hA
 have HB:Below w.heap.size w w:=Below.refl _ _
 refine wp_seq ?_
 refine region4 [some 1,some 2] [Tt,Tt] [⟨Q4,some 0,0,1,.agg #[.bool nx,.slice ax xs.length cx,.bool ox,.slice bx xt.length dx],none,[]⟩,⟨Q4,some 1,0,2,.agg #[.bool false,.slice none 0 0,.bool false,.slice none 0 0],none,[]⟩] [] (by kernel_rfl) hn rfl (by kernel_rfl) (by kernel_rfl) (by kernel_rfl) (by kernel_rfl) (by kernel_rfl) (by kernel_rfl) ⟨True.mono4,True.mono4,trivial⟩ (ok_cons Q4ok (ok_cons Q4ok ok_nil)) (IsOld.all (bx:=[⟨Q4,some 0,0,1,.agg #[.bool nx,.slice ax xs.length cx,.bool ox,.slice bx xt.length dx],none,[]⟩,⟨Q4,some 1,0,2,.agg #[.bool false,.slice none 0 0,.bool false,.slice none 0 0],none,[]⟩]) ⟨someNe,someNe,trivial⟩) (DisOld.all (bx:=[⟨Q4,some 0,0,1,.agg #[.bool nx,.slice ax xs.length cx,.bool ox,.slice bx xt.length dx],none,[]⟩,⟨Q4,some 1,0,2,.agg #[.bool false,.slice none 0 0,.bool false,.slice none 0 0],none,[]⟩]) ⟨someNe,someNe,trivial⟩) ?_ ?_
 ·exact ⟨.alloc 0 _ rfl rfl (.inr ⟨_,rfl,q4_cs,fun a_ hR=>(hR 0 rfl).trans f0⟩) rfl rfl rfl rfl rfl,.alloc 1 _ rfl rfl (.inl ⟨rfl,rfl⟩) rfl rfl rfl rfl rfl,trivial⟩
 ·intro a1 w1 gs1 hn1 hd1 hBt hr hR hP hX hU
  replace hn:=hn1;replace hd:=hd1.trans hd
  have ne1_2:gs1 0≠gs1 1:=hU 0 1 (by simp) (by simp) (by decide)
  have b1:BoxV Q4 w1 (gs1 0) (.agg #[.bool nx,.slice ax xs.length cx,.bool ox,.slice bx xt.length dx]):=(hX 0 _ rfl).2.2.2
  have f1:=(hX 0 _ rfl).1
  have u1:w.heap.size≤gs1 0:=Nat.le_trans HB.size ((hX 0 _ rfl).2.2.1 (by simp))
  have b2:BoxV Q4 w1 (gs1 1) (.agg #[.bool false,.slice none 0 0,.bool false,.slice none 0 0]):=(hX 1 _ rfl).2.2.2
  have f2:=(hX 1 _ rfl).1
  have u2:w.heap.size≤gs1 1:=Nat.le_trans HB.size ((hX 1 _ rfl).2.2.1 (by simp))
  replace Gx:=Gx.rl hr
  replace Kx:=Kx.rl hr
  replace HB:=HB.trans (hBt.below HB.size (UpOld.all (bx:=[⟨Q4,some 0,0,1,.agg #[.bool nx,.slice ax xs.length cx,.bool ox,.slice bx xt.length dx],none,[]⟩,⟨Q4,some 1,0,2,.agg #[.bool false,.slice none 0 0,.bool false,.slice none 0 0],none,[]⟩]) ⟨someNe,someNe,trivial⟩))
  clear hBt hr hR hP hX hU
  refine wp_seq ?_
  refine region4 [some 3,some 4,some 5,some 6,some 7,some 8,none] [Eqs (.pointer (some ⟨gs1 0,0,none⟩)),Eqs (.agg #[.bool nx,.slice ax xs.length cx]),OutN ((-px)) (Bx),Eqs (.pointer (some ⟨gs1 0,2,none⟩)),Eqs (.agg #[.bool ox,.slice bx xt.length dx]),OutQ ((-px)) (qx) ((Bx)+(Bx)),Tt] [⟨Q4,none,(gs1 1),2,.agg #[.bool false,.slice none 0 0,.bool false,.slice none 0 0],some (6,8,5),[]⟩] [] (by kernel_rfl) hn rfl (by kernel_rfl) (by kernel_rfl) (by kernel_rfl) (by kernel_rfl) (by kernel_rfl) (by kernel_rfl) ⟨Eqs.mono4 _,Eqs.mono4 _,OutN.mono4 _ _,Eqs.mono4 _,Eqs.mono4 _,OutQ.mono4 _ _ _,True.mono4,trivial⟩ (ok_cons Q4ok ok_nil) (IsOld.all (bx:=[⟨Q4,none,(gs1 1),2,.agg #[.bool false,.slice none 0 0,.bool false,.slice none 0 0],some (6,8,5),[]⟩]) ⟨fun _=>⟨f2,b2⟩,trivial⟩) (DisOld.all (bx:=[⟨Q4,none,(gs1 1),2,.agg #[.bool false,.slice none 0 0,.bool false,.slice none 0 0],some (6,8,5),[]⟩]) ⟨fun _=>trivial,trivial⟩) ?_ ?_
  ·exact ⟨.norm 3 rfl rfl rfl (fun a_ w_ _ t r R D _ _=>op_faQ fa_q0 ((R 1 rfl).trans f1)),.norm 4 rfl rfl rfl (fun a_ w_ _ t r R D _ _=>op_ldq0 (show a_.eval (.tmp 3)=.pointer (some ⟨gs1 0,0,none⟩) from D 0 rfl) (b1.keep t ⟨fun _=>ne1_2.symm,trivial⟩)),.norm 5 rfl rfl rfl (fun a_ w_ _ t r R D _ _=>op_nminus (outn_eq (show a_.eval (.tmp 4)=.agg #[.bool nx,.slice ax xs.length cx] from D 1 rfl) (Gx.rl r) Lx) (by omega)),.norm 6 rfl rfl rfl (fun a_ w_ _ t r R D _ _=>op_faQ fa_q1 ((R 1 rfl).trans f1)),.norm 7 rfl rfl rfl (fun a_ w_ _ t r R D _ _=>op_ldq1 (show a_.eval (.tmp 6)=.pointer (some ⟨gs1 0,2,none⟩) from D 3 rfl) (b1.keep t ⟨fun _=>ne1_2.symm,trivial⟩)),.norm 8 rfl rfl rfl (fun a_ w_ _ t r R D _ _=>op_bQ (L:=(Bx)+(Bx)) ((show OutN ((-px)) (Bx) (a_.eval (.tmp 5)) w_ from D 2 rfl).to rfl (by omega)) ((outn_eq (show a_.eval (.tmp 7)=.agg #[.bool ox,.slice bx xt.length dx] from D 4 rfl) (Kx.rl r) Mx).to rfl (by omega))),.store 0 _ _ _ rfl rfl rfl rfl rfl rfl rfl (fun ia h=>by cases h) rfl rfl rfl OutQ.cs,trivial⟩
  ·intro a2 w2 gs2 hn2 hd2 hBt hr hR hP hX hU
   replace hn:=hn2;replace hd:=hd2.trans hd
   obtain ⟨n_3,a_3,c_3,r_3,o_3,b_3,d_3,s_3,e8,G3,K3,l3,k3⟩:OutQ ((-px)) (qx) ((Bx)+(Bx)) (a2.eval (.tmp 8)) w2:=hP 5 (by decide)
   have b2:BoxV Q4 w2 ((gs1 1)) (.agg #[.bool n_3,.slice a_3 r_3.length c_3,.bool o_3,.slice b_3 s_3.length d_3]):=boxv_old ((hX 0 _ rfl).2.1 rfl) (hX 0 _ rfl).2.2.2 e8
   replace f2:a2.eval (.tmp 2) = _:=(hR 2 rfl).trans f2
   replace Gx:=Gx.rl hr
   replace Kx:=Kx.rl hr
   replace HB:=HB.trans (hBt.below HB.size (UpOld.all (bx:=[⟨Q4,none,(gs1 1),2,.agg #[.bool false,.slice none 0 0,.bool false,.slice none 0 0],some (6,8,5),[]⟩]) ⟨fun _=>u2,trivial⟩))
   clear hBt hr hR hP hX hU
   refine wp_ret ?_
   repeat (first | refine then_ret ?_ | refine scope_ret ?_ | refine block_ret ?_)
   exact bodyPost_ret (v:=.agg #[.bool n_3,.slice a_3 r_3.length c_3,.bool o_3,.slice b_3 s_3.length d_3]) (res_c rfl f2 (lv_Q4 b2)) hd ⟨_,rfl,OutQ.to (outq_eq rfl G3 K3 l3 k3) rfl rfl (by omega),HB⟩
theorem has_qminus:Has Tryz.prog 43:=by unfold Has;kernel_rfl
theorem op_qminus {dst:Option Tmp} {ty:TypeId} {pos:String} {after:Array Edge} {guard:Option (Nat × Bool)} {a:Act} {w:World} {ats:Array TypeId} {i:Nat} {Bx:Nat} {px qx:Int} (Hx:OutQ px qx Bx (a.eval (.tmp i)) w) (hL:Bx≤400000) :
  Does Tryz.prog { dst,op:=.call { callee:=.value (.func 43),args:=#[.tmp i],argTypes:=ats },type:=ty,pos,after,guard } a.eval w fun v w'=>Below w.heap.size w w'∧(OutQ (-px) qx (2*Bx)) v w' := by
 obtain ⟨nx,ax,cx,xs,ox,bx,dx,xt,ex,Gx,Kx,Lx,Mx⟩:=Hx
 refine does_call has_qminus _ (by simp only [List.map_toArray,List.map_cons,List.map_nil,ex]) ((qminus_z w Bx _ _ _ _ _ Gx Lx _ _ _ _ _ Kx Mx hL).mono ?_)
 rintro e w' ⟨v,rfl,h1,hb⟩
 exact ⟨_,rfl,hb,h1⟩
end Lm
end Go.Proofs.YtpofkigboedliaaGreat

