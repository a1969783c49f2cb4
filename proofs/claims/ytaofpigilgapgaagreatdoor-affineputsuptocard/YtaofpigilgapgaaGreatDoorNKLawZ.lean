/-
  The given statement on AffinePuts, for every input of bulk at most 1048576: the call answers true, and each argument reads behind it as it read before; and its card. Its condition: the two tables of unicode/utf8 are laid as the row lists them; the card ties that to the program's text. Beside it: The text of one row: what every program answers that is one. What every program answers that is one: package affine. What every program answers that is one: package affine, the walk. AffinePulls, the walk. Rows of whole numbers: how long they are together, copied, held against one another. AffinePuts, the walk.
-/
import Derived.Test.YtaofpigilgapgaaGreatDoorRows
import Derived.Test.YtaofpigilgapgaaGreatDoorCards
import Derived.Test.YtaofpigilgapgaaGreatDoorTie
import Derived.ProofKit
import Derived.OpenShut
import Derived.ShutString
import Derived.ChangeOld
import Derived.SizedLaws
import Derived.Lib.SmallJoins
import Derived.Lib.LaidU8
import Derived.Lib.LaidIn
import Derived.Deep.DeepHandedRow
import Derived.SliceStrings
import Derived.JoinedCond
import Derived.Test.YtaofpigilgapgaaGreatDoorNKLawZ5
namespace Go.Proofs.YtaofpigilgapgaaGreatDoor
namespace Lm
open Go Go.RowKit
theorem isDec2 {ds:List Int} (h:IsDec ds 2):ds = [50]:=isDec_one h ⟨by intro z hz;simp at hz;omega,by kernel_rfl,.inr ⟨50,[],rfl,by decide⟩⟩
theorem isDec3 {ds:List Int} (h:IsDec ds 3):ds = [51]:=isDec_one h ⟨by intro z hz;simp at hz;omega,by kernel_rfl,.inr ⟨51,[],rfl,by decide⟩⟩
theorem wtext_m3 (w:World) (v:Value) (L:Nat) (h:IsW (-3) L v w) (hL:L≤100000):Calls Tryz.prog 77 #[v] w fun e w'=>e=.returned (.string ⟨#[45,51]⟩)∧Below w.heap.size w w' := by
 obtain ⟨ng,a,n,c,xs,rfl,hA,hl⟩:=h
 refine (wtext_neg w ng a n c xs hA.sl (by omega) (by rw [hA.worth];decide)).mono ?_
 rintro e w' ⟨ds,rfl,hd,hb⟩
 have hv:val xs=3:=by
  obtain ⟨_,_,_,_,_,hb',_⟩:=hA.sl
  have h1:=val_bounds hb'
  have h4:=hA.worth
  cases ng
  ·simp only [sg] at h4;rw [if_neg (by decide)] at h4;omega
  ·simp only [sg] at h4;rw [if_pos trivial] at h4;omega
 rw [hv] at hd
 obtain rfl:=isDec3 hd
 exact ⟨by kernel_rfl,hb⟩
theorem term_x (w:World) (L:Nat) (v:Value) (hv:IsW 1 L v w) (hL:L≤100000):Calls Tryz.prog 76 #[v,.string ⟨#[120]⟩,.bool true] w fun e w'=>e=.returned (.string ⟨#[120]⟩)∧Below w.heap.size w w' :=
 term_one w 1 L v ⟨#[120]⟩ true hv hL rfl rfl (by decide)
theorem term_y (w:World) (L:Nat) (v:Value) (hv:IsW (-2) L v w) (hL:L≤100000):Calls Tryz.prog 76 #[v,.string ⟨#[121]⟩,.bool false] w fun e w'=>e=.returned (.string ⟨#[32,45,32,50,42,121]⟩)∧Below w.heap.size w w' := by
 refine (term_minus w (-2) L v ⟨#[121]⟩ false hv hL (by decide) (by decide) (fun ds hd=>by obtain rfl:=isDec2 hd;decide) rfl (by decide)).mono ?_
 rintro e w' ⟨ds,hd,rfl,hb⟩
 obtain rfl:=isDec2 hd
 exact ⟨by kernel_rfl,hb⟩
set_option maxRecDepth 20000 in
set_option maxHeartbeats 8000000 in
theorem print_awake (w:World) (hT:Tabs w) (rv vv:Value) (L:Nat) (hr:IsRow w rv [1,-2,-3] L) (hL:L≤100000) (hv:Strs w vv [⟨#[120]⟩,⟨#[121]⟩]) (hN:NmsOk [⟨#[120]⟩,⟨#[121]⟩]) :
  Calls Tryz.prog 31 #[rv,vv] w fun e w'=>e=.returned (.tuple #[.string ⟨#[120,32,45,32,50,42,121,32,61,32,45,51]⟩,.int .i64 0])∧Below w.heap.size w w' := by
 obtain ⟨ra,rc,rfl,_⟩:=hr.parts
 obtain ⟨va,vc,rfl,_⟩:=id hv
 have K:=names_any w hT _ _ hv
 rw [show nmsE [⟨#[120]⟩,⟨#[121]⟩]=0 from if_pos hN] at K
 have K:=hide K
 have HR:=hide hr
 have HV:=hide hv
 obtain ⟨b,off,ng2,a2,m2,c2,rfl,hbl,_,_,_⟩:=hr.cell (k:=2) (z:=-3) rfl
 obtain ⟨bv,ov,rfl,hbvl,_⟩:=hv.cell (i:=0) rfl
 clear hT hr hv hN
 simp only [List.length_cons,List.length_nil,Nat.zero_add,Nat.reduceAdd] at *
 have hadd:∀ (A B:ByteArray),A.size+B.size≤1000→∀ W,(Op.stringOp .add A B).run Tryz.prog W=.ok (.string (A ++ B)) W:=fun A B h W=>run_string_add_sum (P:=Tryz.prog) W A B (by omega)
 have hA0:∀ W,(Op.stringOp .add ⟨#[]⟩ ⟨#[120]⟩).run Tryz.prog W=.ok (.string ⟨#[120]⟩) W:=fun W=>hadd _ _ (by decide) W
 have hA1:∀ W,(Op.stringOp .add ⟨#[120]⟩ ⟨#[32,45,32,50,42,121]⟩).run Tryz.prog W=.ok (.string ⟨#[120,32,45,32,50,42,121]⟩) W:=fun W=>hadd _ _ (by decide) W
 have hA2:∀ W,(Op.stringOp .add ⟨#[120,32,45,32,50,42,121]⟩ ⟨#[32,61,32]⟩).run Tryz.prog W=.ok (.string ⟨#[120,32,45,32,50,42,121,32,61,32]⟩) W:=fun W=>hadd _ _ (by decide) W
 have hA3:∀ W,(Op.stringOp .add ⟨#[120,32,45,32,50,42,121,32,61,32]⟩ ⟨#[45,51]⟩).run Tryz.prog W=.ok (.string ⟨#[120,32,45,32,50,42,121,32,61,32,45,51]⟩) W:=fun W=>hadd _ _ (by decide) W
 clear hadd
 go_enter Tryz.func31,Tryz.ntmps31
 go_wp2_with fail
 refine K.out.mono ?_
 rintro e w1 ⟨rfl,hb1⟩
 have HB1:=hide hb1
 clear hb1 K
 go_wp2_with fail
 go_loopw [6,7,8,22] (fun lv _ _ iv wr=>Below w.heap.size w wr∧((iv=.int .i64 0∧lv=.string ⟨#[]⟩)∨(iv=.int .i64 1∧lv=.string ⟨#[120]⟩)∨(iv=.int .i64 2∧lv=.string ⟨#[120,32,45,32,50,42,121]⟩))) (fun _ _ _ iv _=>2 - (intOf iv).toNat)
 case atStart=>exact ⟨HB1.out,.inl ⟨rfl,rfl⟩⟩
 case round =>
  obtain ⟨hbw,⟨rfl,rfl⟩ | ⟨rfl,rfl⟩ | ⟨rfl,rfl⟩⟩:=hrel
  ·obtain ⟨b',off',ng,a,m,c,hao,_,x0,x1,hx⟩:=(HR.out.below hbw).cell (k:=0) (z:=1) rfl
   obtain ⟨rfl,rfl⟩:b=b'∧off=off' := by simpa using hao
   obtain ⟨bv',ov',hao',_,v0⟩:=(HV.out.below hbw).cell (i:=0) rfl
   obtain ⟨rfl,rfl⟩:bv=bv'∧ov=ov' := by simpa using hao'
   have HW:=hide hbw
   have K:=hide (term_x wr L _ hx hL)
   clear hbw hx hao hao'
   simp only [Nat.zero_mul,Nat.add_zero] at x0 x1 v0
   go_wp2_with fail
   refine K.out.mono ?_
   rintro e w2 ⟨rfl,hb2⟩
   have HB2:=hide (HW.out.trans (hb2.mono HW.out.size))
   clear hb2 K
   go_wp2
   go_roundw
   case rel=>exact ⟨HB2.out,.inr (.inl ⟨rfl,rfl⟩)⟩
   case measure=>simp [intOf]
  ·obtain ⟨b',off',ng,a,m,c,hao,_,x0,x1,hx⟩:=(HR.out.below hbw).cell (k:=1) (z:=-2) rfl
   obtain ⟨rfl,rfl⟩:b=b'∧off=off' := by simpa using hao
   obtain ⟨bv',ov',hao',_,v0⟩:=(HV.out.below hbw).cell (i:=1) rfl
   obtain ⟨rfl,rfl⟩:bv=bv'∧ov=ov' := by simpa using hao'
   have HW:=hide hbw
   have K:=hide (term_y wr L _ hx hL)
   clear hbw hx hao hao'
   simp only [Nat.one_mul] at x0 x1
   go_wp2_with fail
   refine K.out.mono ?_
   rintro e w2 ⟨rfl,hb2⟩
   have HB2:=hide (HW.out.trans (hb2.mono HW.out.size))
   clear hb2 K
   go_wp2
   go_roundw
   case rel=>exact ⟨HB2.out,.inr (.inr ⟨rfl,rfl⟩)⟩
   case measure=>simp [intOf]
  ·obtain ⟨b',off',ng,a,m,c,hao,_,x0,x1,hx⟩:=(HR.out.below hbw).cell (k:=2) (z:=-3) rfl
   obtain ⟨rfl,rfl⟩:b=b'∧off=off' := by simpa using hao
   have HW:=hide hbw
   have K:=hide (wtext_m3 wr _ L hx hL)
   clear hbw hx hao
   simp only [Nat.reduceMul] at x0 x1
   go_wp2_with fail
   refine K.out.mono ?_
   rintro e w2 ⟨rfl,hb2⟩
   have HB2:=hide (HW.out.trans (hb2.mono HW.out.size))
   clear hb2 K
   go_wp2
   refine bodyPost_ret (v:=_) (by simp [results,Tryz.results31,go_sem];try rfl) rfl ⟨rfl,HB2.out⟩
end Lm
end Go.Proofs.YtaofpigilgapgaaGreatDoor

namespace Go.Proofs.YtaofpigilgapgaaGreatDoor
namespace Lm
open Go Go.RowKit
theorem nm_one (c:Nat) (s:ByteArray) (gs:List Gl) (e:Pl) (l:List Tk) (_hc:c<128) (hs:s.size≤4096) (hQ:Snd s pl0 gs e) (hR:ScanR s e gs (.ok l)) (hn:nmS s (.ok l)=true):isNm s=true:=by
 rw [←isNm_eq hs hQ hR]
 exact hn
theorem isnm_x:isNm ⟨#[120]⟩ = true:=by
 refine nm_one 120 ⟨#[120]⟩ [⟨120,⟨0,0,1,1⟩⟩] ⟨1,1,1,2⟩ [⟨1,⟨#[120]⟩,⟨0,0,1,1⟩⟩,⟨0,⟨#[]⟩,⟨1,1,1,2⟩⟩] (by decide) (by decide) ?_ ?_ (by kernel_rfl)
 ·refine snd_step (k:=1) (by decide) (by kernel_rfl) (by decide) ?_
  exact .stop ⟨1,1,1,2⟩ (.inl (by decide))
 ·refine ScanR.tok _ ⟨120,⟨0,0,1,1⟩⟩ [] 1 ⟨#[120]⟩ [] (.ok [⟨0,⟨#[]⟩,⟨1,1,1,2⟩⟩]) (by kernel_rfl) (tok_name (by kernel_rfl) (by kernel_rfl) (by decide) (by kernel_rfl)) ?_
  exact ScanR.done _ (by kernel_rfl) (by decide)
theorem isnm_y:isNm ⟨#[121]⟩ = true:=by
 refine nm_one 121 ⟨#[121]⟩ [⟨121,⟨0,0,1,1⟩⟩] ⟨1,1,1,2⟩ [⟨1,⟨#[121]⟩,⟨0,0,1,1⟩⟩,⟨0,⟨#[]⟩,⟨1,1,1,2⟩⟩] (by decide) (by decide) ?_ ?_ (by kernel_rfl)
 ·refine snd_step (k:=1) (by decide) (by kernel_rfl) (by decide) ?_
  exact .stop ⟨1,1,1,2⟩ (.inl (by decide))
 ·refine ScanR.tok _ ⟨121,⟨0,0,1,1⟩⟩ [] 1 ⟨#[121]⟩ [] (.ok [⟨0,⟨#[]⟩,⟨1,1,1,2⟩⟩]) (by kernel_rfl) (tok_name (by kernel_rfl) (by kernel_rfl) (by decide) (by kernel_rfl)) ?_
  exact ScanR.done _ (by kernel_rfl) (by decide)
theorem nms_xy:NmsOk [⟨#[120]⟩,⟨#[121]⟩]:=by
 refine ⟨by decide,fun i x hx=>?_⟩
 match i with
 | 0=>simp at hx;subst hx;exact ⟨isnm_x,by simp⟩
 | 1=>simp at hx;subst hx;exact ⟨isnm_y,by simp⟩
 | i+2=>simp at hx
def eqs:ByteArray:=⟨#[50,120,32,61,32,52,121,32,45,32,54]⟩
def eqt:List Tk:=[⟨2,⟨#[50]⟩,⟨0,0,1,1⟩⟩,⟨1,⟨#[120]⟩,⟨1,1,1,2⟩⟩,⟨3,⟨#[61]⟩,⟨3,3,1,4⟩⟩,⟨2,⟨#[52]⟩,⟨5,5,1,6⟩⟩,⟨1,⟨#[121]⟩,⟨6,6,1,7⟩⟩,⟨3,⟨#[45]⟩,⟨8,8,1,9⟩⟩,⟨2,⟨#[54]⟩,⟨10,10,1,11⟩⟩,⟨0,⟨#[]⟩,⟨11,11,1,12⟩⟩]
theorem eqs_snd:Snd eqs pl0 [⟨50,⟨0,0,1,1⟩⟩,⟨120,⟨1,1,1,2⟩⟩,⟨32,⟨2,2,1,3⟩⟩,⟨61,⟨3,3,1,4⟩⟩,⟨32,⟨4,4,1,5⟩⟩,⟨52,⟨5,5,1,6⟩⟩,⟨121,⟨6,6,1,7⟩⟩,⟨32,⟨7,7,1,8⟩⟩,⟨45,⟨8,8,1,9⟩⟩,⟨32,⟨9,9,1,10⟩⟩,⟨54,⟨10,10,1,11⟩⟩] ⟨11,11,1,12⟩:=by
 refine snd_step (p:=⟨0,0,1,1⟩) (k:=1) (by decide) (by kernel_rfl) (by decide) ?_
 refine snd_step (p:=⟨1,1,1,2⟩) (k:=1) (by decide) (by kernel_rfl) (by decide) ?_
 refine snd_step (p:=⟨2,2,1,3⟩) (k:=1) (by decide) (by kernel_rfl) (by decide) ?_
 refine snd_step (p:=⟨3,3,1,4⟩) (k:=1) (by decide) (by kernel_rfl) (by decide) ?_
 refine snd_step (p:=⟨4,4,1,5⟩) (k:=1) (by decide) (by kernel_rfl) (by decide) ?_
 refine snd_step (p:=⟨5,5,1,6⟩) (k:=1) (by decide) (by kernel_rfl) (by decide) ?_
 refine snd_step (p:=⟨6,6,1,7⟩) (k:=1) (by decide) (by kernel_rfl) (by decide) ?_
 refine snd_step (p:=⟨7,7,1,8⟩) (k:=1) (by decide) (by kernel_rfl) (by decide) ?_
 refine snd_step (p:=⟨8,8,1,9⟩) (k:=1) (by decide) (by kernel_rfl) (by decide) ?_
 refine snd_step (p:=⟨9,9,1,10⟩) (k:=1) (by decide) (by kernel_rfl) (by decide) ?_
 refine snd_step (p:=⟨10,10,1,11⟩) (k:=1) (by decide) (by kernel_rfl) (by decide) ?_
 exact .stop ⟨11,11,1,12⟩ (.inl (by decide))
theorem eqs_scan:ScanR eqs ⟨11,11,1,12⟩ [⟨50,⟨0,0,1,1⟩⟩,⟨120,⟨1,1,1,2⟩⟩,⟨32,⟨2,2,1,3⟩⟩,⟨61,⟨3,3,1,4⟩⟩,⟨32,⟨4,4,1,5⟩⟩,⟨52,⟨5,5,1,6⟩⟩,⟨121,⟨6,6,1,7⟩⟩,⟨32,⟨7,7,1,8⟩⟩,⟨45,⟨8,8,1,9⟩⟩,⟨32,⟨9,9,1,10⟩⟩,⟨54,⟨10,10,1,11⟩⟩] (.ok eqt):=by
 show ScanR eqs ⟨11,11,1,12⟩ [⟨50,⟨0,0,1,1⟩⟩,⟨120,⟨1,1,1,2⟩⟩,⟨32,⟨2,2,1,3⟩⟩,⟨61,⟨3,3,1,4⟩⟩,⟨32,⟨4,4,1,5⟩⟩,⟨52,⟨5,5,1,6⟩⟩,⟨121,⟨6,6,1,7⟩⟩,⟨32,⟨7,7,1,8⟩⟩,⟨45,⟨8,8,1,9⟩⟩,⟨32,⟨9,9,1,10⟩⟩,⟨54,⟨10,10,1,11⟩⟩] (.ok [⟨2,⟨#[50]⟩,⟨0,0,1,1⟩⟩,⟨1,⟨#[120]⟩,⟨1,1,1,2⟩⟩,⟨3,⟨#[61]⟩,⟨3,3,1,4⟩⟩,⟨2,⟨#[52]⟩,⟨5,5,1,6⟩⟩,⟨1,⟨#[121]⟩,⟨6,6,1,7⟩⟩,⟨3,⟨#[45]⟩,⟨8,8,1,9⟩⟩,⟨2,⟨#[54]⟩,⟨10,10,1,11⟩⟩,⟨0,⟨#[]⟩,⟨11,11,1,12⟩⟩])
 have hn0:TokR eqs ⟨11,11,1,12⟩ ⟨50,⟨0,0,1,1⟩⟩ [⟨120,⟨1,1,1,2⟩⟩,⟨32,⟨2,2,1,3⟩⟩,⟨61,⟨3,3,1,4⟩⟩,⟨32,⟨4,4,1,5⟩⟩,⟨52,⟨5,5,1,6⟩⟩,⟨121,⟨6,6,1,7⟩⟩,⟨32,⟨7,7,1,8⟩⟩,⟨45,⟨8,8,1,9⟩⟩,⟨32,⟨9,9,1,10⟩⟩,⟨54,⟨10,10,1,11⟩⟩] (.ok 2 ⟨#[50]⟩ [⟨120,⟨1,1,1,2⟩⟩,⟨32,⟨2,2,1,3⟩⟩,⟨61,⟨3,3,1,4⟩⟩,⟨32,⟨4,4,1,5⟩⟩,⟨52,⟨5,5,1,6⟩⟩,⟨121,⟨6,6,1,7⟩⟩,⟨32,⟨7,7,1,8⟩⟩,⟨45,⟨8,8,1,9⟩⟩,⟨32,⟨9,9,1,10⟩⟩,⟨54,⟨10,10,1,11⟩⟩]):=by
  have hv:dval (bytesOf (eqs.extract 0 1))=2:=by kernel_rfl
  have h1:IsLen (dval (bytesOf (eqs.extract 0 1))) 1:=⟨[2],⟨by intro z hz;simp at hz;omega,by kernel_rfl⟩,by rw [hv];kernel_rfl,rfl⟩
  have h2:IsDec [50] (dval (bytesOf (eqs.extract 0 1))):=⟨by intro z hz;simp at hz;omega,by rw [hv];kernel_rfl,.inr ⟨50,[],rfl,by decide⟩⟩
  exact tokR_num (s:=eqs) (e:=⟨11,11,1,12⟩) (g:=⟨50,⟨0,0,1,1⟩⟩) (r:=[⟨120,⟨1,1,1,2⟩⟩,⟨32,⟨2,2,1,3⟩⟩,⟨61,⟨3,3,1,4⟩⟩,⟨32,⟨4,4,1,5⟩⟩,⟨52,⟨5,5,1,6⟩⟩,⟨121,⟨6,6,1,7⟩⟩,⟨32,⟨7,7,1,8⟩⟩,⟨45,⟨8,8,1,9⟩⟩,⟨32,⟨9,9,1,10⟩⟩,⟨54,⟨10,10,1,11⟩⟩]) (n:=1) (ds:=[50]) (by kernel_rfl) h1 h2
 refine ScanR.tok _ ⟨50,⟨0,0,1,1⟩⟩ [⟨120,⟨1,1,1,2⟩⟩,⟨32,⟨2,2,1,3⟩⟩,⟨61,⟨3,3,1,4⟩⟩,⟨32,⟨4,4,1,5⟩⟩,⟨52,⟨5,5,1,6⟩⟩,⟨121,⟨6,6,1,7⟩⟩,⟨32,⟨7,7,1,8⟩⟩,⟨45,⟨8,8,1,9⟩⟩,⟨32,⟨9,9,1,10⟩⟩,⟨54,⟨10,10,1,11⟩⟩] 2 ⟨#[50]⟩ [⟨120,⟨1,1,1,2⟩⟩,⟨32,⟨2,2,1,3⟩⟩,⟨61,⟨3,3,1,4⟩⟩,⟨32,⟨4,4,1,5⟩⟩,⟨52,⟨5,5,1,6⟩⟩,⟨121,⟨6,6,1,7⟩⟩,⟨32,⟨7,7,1,8⟩⟩,⟨45,⟨8,8,1,9⟩⟩,⟨32,⟨9,9,1,10⟩⟩,⟨54,⟨10,10,1,11⟩⟩] (.ok [⟨1,⟨#[120]⟩,⟨1,1,1,2⟩⟩,⟨3,⟨#[61]⟩,⟨3,3,1,4⟩⟩,⟨2,⟨#[52]⟩,⟨5,5,1,6⟩⟩,⟨1,⟨#[121]⟩,⟨6,6,1,7⟩⟩,⟨3,⟨#[45]⟩,⟨8,8,1,9⟩⟩,⟨2,⟨#[54]⟩,⟨10,10,1,11⟩⟩,⟨0,⟨#[]⟩,⟨11,11,1,12⟩⟩]) (by kernel_rfl) hn0 ?_
 refine ScanR.tok _ ⟨120,⟨1,1,1,2⟩⟩ [⟨32,⟨2,2,1,3⟩⟩,⟨61,⟨3,3,1,4⟩⟩,⟨32,⟨4,4,1,5⟩⟩,⟨52,⟨5,5,1,6⟩⟩,⟨121,⟨6,6,1,7⟩⟩,⟨32,⟨7,7,1,8⟩⟩,⟨45,⟨8,8,1,9⟩⟩,⟨32,⟨9,9,1,10⟩⟩,⟨54,⟨10,10,1,11⟩⟩] 1 ⟨#[120]⟩ [⟨32,⟨2,2,1,3⟩⟩,⟨61,⟨3,3,1,4⟩⟩,⟨32,⟨4,4,1,5⟩⟩,⟨52,⟨5,5,1,6⟩⟩,⟨121,⟨6,6,1,7⟩⟩,⟨32,⟨7,7,1,8⟩⟩,⟨45,⟨8,8,1,9⟩⟩,⟨32,⟨9,9,1,10⟩⟩,⟨54,⟨10,10,1,11⟩⟩] (.ok [⟨3,⟨#[61]⟩,⟨3,3,1,4⟩⟩,⟨2,⟨#[52]⟩,⟨5,5,1,6⟩⟩,⟨1,⟨#[121]⟩,⟨6,6,1,7⟩⟩,⟨3,⟨#[45]⟩,⟨8,8,1,9⟩⟩,⟨2,⟨#[54]⟩,⟨10,10,1,11⟩⟩,⟨0,⟨#[]⟩,⟨11,11,1,12⟩⟩]) (by kernel_rfl) (tok_name (by kernel_rfl) (by kernel_rfl) (by decide) (by kernel_rfl)) ?_
 refine ScanR.tok _ ⟨61,⟨3,3,1,4⟩⟩ [⟨32,⟨4,4,1,5⟩⟩,⟨52,⟨5,5,1,6⟩⟩,⟨121,⟨6,6,1,7⟩⟩,⟨32,⟨7,7,1,8⟩⟩,⟨45,⟨8,8,1,9⟩⟩,⟨32,⟨9,9,1,10⟩⟩,⟨54,⟨10,10,1,11⟩⟩] 3 ⟨#[61]⟩ [⟨32,⟨4,4,1,5⟩⟩,⟨52,⟨5,5,1,6⟩⟩,⟨121,⟨6,6,1,7⟩⟩,⟨32,⟨7,7,1,8⟩⟩,⟨45,⟨8,8,1,9⟩⟩,⟨32,⟨9,9,1,10⟩⟩,⟨54,⟨10,10,1,11⟩⟩] (.ok [⟨2,⟨#[52]⟩,⟨5,5,1,6⟩⟩,⟨1,⟨#[121]⟩,⟨6,6,1,7⟩⟩,⟨3,⟨#[45]⟩,⟨8,8,1,9⟩⟩,⟨2,⟨#[54]⟩,⟨10,10,1,11⟩⟩,⟨0,⟨#[]⟩,⟨11,11,1,12⟩⟩]) (by kernel_rfl) (tokR_sign (by kernel_rfl)) ?_
 have hn5:TokR eqs ⟨11,11,1,12⟩ ⟨52,⟨5,5,1,6⟩⟩ [⟨121,⟨6,6,1,7⟩⟩,⟨32,⟨7,7,1,8⟩⟩,⟨45,⟨8,8,1,9⟩⟩,⟨32,⟨9,9,1,10⟩⟩,⟨54,⟨10,10,1,11⟩⟩] (.ok 2 ⟨#[52]⟩ [⟨121,⟨6,6,1,7⟩⟩,⟨32,⟨7,7,1,8⟩⟩,⟨45,⟨8,8,1,9⟩⟩,⟨32,⟨9,9,1,10⟩⟩,⟨54,⟨10,10,1,11⟩⟩]):=by
  have hv:dval (bytesOf (eqs.extract 5 6))=4:=by kernel_rfl
  have h1:IsLen (dval (bytesOf (eqs.extract 5 6))) 1:=⟨[4],⟨by intro z hz;simp at hz;omega,by kernel_rfl⟩,by rw [hv];kernel_rfl,rfl⟩
  have h2:IsDec [52] (dval (bytesOf (eqs.extract 5 6))):=⟨by intro z hz;simp at hz;omega,by rw [hv];kernel_rfl,.inr ⟨52,[],rfl,by decide⟩⟩
  exact tokR_num (s:=eqs) (e:=⟨11,11,1,12⟩) (g:=⟨52,⟨5,5,1,6⟩⟩) (r:=[⟨121,⟨6,6,1,7⟩⟩,⟨32,⟨7,7,1,8⟩⟩,⟨45,⟨8,8,1,9⟩⟩,⟨32,⟨9,9,1,10⟩⟩,⟨54,⟨10,10,1,11⟩⟩]) (n:=1) (ds:=[52]) (by kernel_rfl) h1 h2
 refine ScanR.tok _ ⟨52,⟨5,5,1,6⟩⟩ [⟨121,⟨6,6,1,7⟩⟩,⟨32,⟨7,7,1,8⟩⟩,⟨45,⟨8,8,1,9⟩⟩,⟨32,⟨9,9,1,10⟩⟩,⟨54,⟨10,10,1,11⟩⟩] 2 ⟨#[52]⟩ [⟨121,⟨6,6,1,7⟩⟩,⟨32,⟨7,7,1,8⟩⟩,⟨45,⟨8,8,1,9⟩⟩,⟨32,⟨9,9,1,10⟩⟩,⟨54,⟨10,10,1,11⟩⟩] (.ok [⟨1,⟨#[121]⟩,⟨6,6,1,7⟩⟩,⟨3,⟨#[45]⟩,⟨8,8,1,9⟩⟩,⟨2,⟨#[54]⟩,⟨10,10,1,11⟩⟩,⟨0,⟨#[]⟩,⟨11,11,1,12⟩⟩]) (by kernel_rfl) hn5 ?_
 refine ScanR.tok _ ⟨121,⟨6,6,1,7⟩⟩ [⟨32,⟨7,7,1,8⟩⟩,⟨45,⟨8,8,1,9⟩⟩,⟨32,⟨9,9,1,10⟩⟩,⟨54,⟨10,10,1,11⟩⟩] 1 ⟨#[121]⟩ [⟨32,⟨7,7,1,8⟩⟩,⟨45,⟨8,8,1,9⟩⟩,⟨32,⟨9,9,1,10⟩⟩,⟨54,⟨10,10,1,11⟩⟩] (.ok [⟨3,⟨#[45]⟩,⟨8,8,1,9⟩⟩,⟨2,⟨#[54]⟩,⟨10,10,1,11⟩⟩,⟨0,⟨#[]⟩,⟨11,11,1,12⟩⟩]) (by kernel_rfl) (tok_name (by kernel_rfl) (by kernel_rfl) (by decide) (by kernel_rfl)) ?_
 refine ScanR.tok _ ⟨45,⟨8,8,1,9⟩⟩ [⟨32,⟨9,9,1,10⟩⟩,⟨54,⟨10,10,1,11⟩⟩] 3 ⟨#[45]⟩ [⟨32,⟨9,9,1,10⟩⟩,⟨54,⟨10,10,1,11⟩⟩] (.ok [⟨2,⟨#[54]⟩,⟨10,10,1,11⟩⟩,⟨0,⟨#[]⟩,⟨11,11,1,12⟩⟩]) (by kernel_rfl) (tokR_sign (by kernel_rfl)) ?_
 have hn10:TokR eqs ⟨11,11,1,12⟩ ⟨54,⟨10,10,1,11⟩⟩ [] (.ok 2 ⟨#[54]⟩ []):=by
  have hv:dval (bytesOf (eqs.extract 10 11))=6:=by kernel_rfl
  have h1:IsLen (dval (bytesOf (eqs.extract 10 11))) 1:=⟨[6],⟨by intro z hz;simp at hz;omega,by kernel_rfl⟩,by rw [hv];kernel_rfl,rfl⟩
  have h2:IsDec [54] (dval (bytesOf (eqs.extract 10 11))):=⟨by intro z hz;simp at hz;omega,by rw [hv];kernel_rfl,.inr ⟨54,[],rfl,by decide⟩⟩
  exact tokR_num (s:=eqs) (e:=⟨11,11,1,12⟩) (g:=⟨54,⟨10,10,1,11⟩⟩) (r:=[]) (n:=1) (ds:=[54]) (by kernel_rfl) h1 h2
 refine ScanR.tok _ ⟨54,⟨10,10,1,11⟩⟩ [] 2 ⟨#[54]⟩ [] (.ok [⟨0,⟨#[]⟩,⟨11,11,1,12⟩⟩]) (by kernel_rfl) hn10 ?_
 exact ScanR.done _ (by kernel_rfl) (by decide)
theorem z_2:zOf ⟨#[50]⟩ = 2:=by
 have h1:msplit ⟨#[50]⟩ = (false,⟨#[50]⟩):=by kernel_rfl
 have h2:Dm.Fine ⟨#[50]⟩:=⟨by decide,by decide,by intro z hz;simp [bytesOf] at hz;omega⟩
 have h3:zOf ⟨#[50]⟩ = sg false (xOf ⟨#[50]⟩):=by unfold zOf;rw [h1]
 rw [h3,(of_fine h2).2]
 exact (by kernel_rfl:sg false (dval (bytesOf ⟨#[50]⟩))=2)
theorem z_4:zOf ⟨#[52]⟩ = 4:=by
 have h1:msplit ⟨#[52]⟩ = (false,⟨#[52]⟩):=by kernel_rfl
 have h2:Dm.Fine ⟨#[52]⟩:=⟨by decide,by decide,by intro z hz;simp [bytesOf] at hz;omega⟩
 have h3:zOf ⟨#[52]⟩ = sg false (xOf ⟨#[52]⟩):=by unfold zOf;rw [h1]
 rw [h3,(of_fine h2).2]
 exact (by kernel_rfl:sg false (dval (bytesOf ⟨#[52]⟩))=4)
theorem z_6:zOf ⟨#[54]⟩ = 6:=by
 have h1:msplit ⟨#[54]⟩ = (false,⟨#[54]⟩):=by kernel_rfl
 have h2:Dm.Fine ⟨#[54]⟩:=⟨by decide,by decide,by intro z hz;simp [bytesOf] at hz;omega⟩
 have h3:zOf ⟨#[54]⟩ = sg false (xOf ⟨#[54]⟩):=by unfold zOf;rw [h1]
 rw [h3,(of_fine h2).2]
 exact (by kernel_rfl:sg false (dval (bytesOf ⟨#[54]⟩))=6)
theorem coef_plain' {l:List Tk} {i:Nat} {t t1:Tk} {z:Int} (h:l[i]? = some t) (h1:l[i+1]? = some t1) (hs:tsg t1 sOver=false) (hz:zOf t.text=z):CoefR l i true (i+1) (z:Int):=by
 subst hz
 exact .plain t t1 h h1 hs
def rs0:List Rat:=List.replicate 3 0
def rs1:List Rat:=rs0.set 0 (0+sgq false ((2:Int):Rat))
def rs2:List Rat:=rs1.set 1 (0+sgq true ((4:Int):Rat))
def rs3:List Rat:=rs2.set 2 (0+sgq false (-((6:Int):Rat)))
theorem eq_read:EqR eqt [⟨#[120]⟩,⟨#[121]⟩] 8 0 (List.replicate 3 0) true 7 rs3:=by
 refine .good 2 rs1 ⟨3,⟨#[61]⟩,⟨3,3,1,4⟩⟩ ?_ rfl (by kernel_rfl) 7 rs3 ?_ ⟨0,⟨#[]⟩,⟨11,11,1,12⟩⟩ rfl rfl
 ·refine ⟨_,rfl,?_⟩
  refine .last _ _ 2 _ _ ?_ ⟨3,⟨#[61]⟩,⟨3,3,1,4⟩⟩ rfl (by kernel_rfl)
  exact .next _ rfl rfl 1 _ (coef_plain' rfl rfl (by kernel_rfl) z_2) (by constructor <;> decide +kernel) _ rfl (by kernel_rfl) rfl _ _ _ (.yes _ 0 0 rfl (by kernel_rfl) rfl (by constructor <;> decide +kernel) (by constructor <;> decide +kernel))
 ·refine ⟨_,rfl,?_⟩
  refine .more _ _ 5 _ _ rs2 _ _ ?_ ⟨3,⟨#[45]⟩,⟨8,8,1,9⟩⟩ rfl (by kernel_rfl) ?_
  ·exact .next _ rfl rfl 4 _ (coef_plain' rfl rfl (by kernel_rfl) z_4) (by constructor <;> decide +kernel) _ rfl (by kernel_rfl) rfl _ _ _ (.yes _ 1 0 rfl (by kernel_rfl) rfl (by constructor <;> decide +kernel) (by constructor <;> decide +kernel))
  ·refine .last _ _ 7 _ _ ?_ ⟨0,⟨#[]⟩,⟨11,11,1,12⟩⟩ rfl (by kernel_rfl)
   exact .alone _ rfl rfl 7 _ (coef_plain' rfl rfl (by kernel_rfl) z_6) (by constructor <;> decide +kernel) _ rfl (by kernel_rfl) (by decide) 0 rfl (by constructor <;> decide +kernel)
theorem eq_canon:canonZ rs3 = [1,-2,-3]:=by kernel_rfl
end Lm
end Go.Proofs.YtaofpigilgapgaaGreatDoor

namespace Go.Proofs.YtaofpigilgapgaaGreatDoor
namespace Lm
open Go Go.RowKit
theorem strs_two (w:World) (x y:ByteArray) (e:TypeId):Strs (w.alloc (.cells #[.string x,.string y] e)) (.slice (some ⟨w.heap.size,0,none⟩) 2 2) [x,y]:=by
 refine ⟨_,2,rfl,Nat.le_refl _,by decide,rfl,.inr ⟨w.heap.size,0,rfl,by simp,fun j u hu=>?_⟩⟩
 have hh:=heap_alloc_new w (.cells #[.string x,.string y] e)
 rw [Nat.zero_add,cell_of_row _ _ _ _ _ (0,0) hh]
 match j with
 | 0=>simpa using hu
 | 1=>simpa using hu
 | j+2=>simp at hu
theorem equation_awake (w:World) (hT:Tabs w) (v:Value) (hv:Strs w v [⟨#[120]⟩,⟨#[121]⟩]) :
  Calls Tryz.prog 27 #[.string ⟨#[50,120,32,61,32,52,121,32,45,32,54]⟩,v] w fun r w'=>Below w.heap.size w w'∧∃ x,r=.returned (.tuple #[x,.int .i64 0,.agg #[.int .i64 0,.int .i64 0,.int .i64 0,.int .i64 0]])∧CanRow w' x [1,-2,-3] 16:=by
 refine (equation_good w hT eqs (by decide) v _ hv nms_xy _ _ eqt eqs_snd eqs_scan 8 16 (by decide) (by decide) (by decide) 7 rs3 eq_read rfl ?_ ?_ (by simp)).mono ?_
 ·intro k hk
  have hk' : k≤3:=hk
  match k,hk' with
  | 0,_=>decide +kernel
  | 1,_=>decide +kernel
  | 2,_=>decide +kernel
  | 3,_=>decide +kernel
 ·have h:clr rs3 = [2,-4,-6]:=by kernel_rfl
  rw [h]
  intro z hz
  simp at hz
  rcases hz with rfl | rfl | rfl <;> decide +kernel
 ·rintro r w' ⟨hb,⟨_,x,rfl,hO⟩ | ⟨⟨z,hz,hbig⟩,_⟩⟩
  ·rw [eq_canon] at hO
   exact ⟨hb,x,rfl,hO.can⟩
  ·rw [eq_canon] at hz
   simp at hz
   rcases hz with rfl | rfl | rfl <;> exact absurd (by decide +kernel) hbig
theorem nums_three (w:World) (a b c:Int) (e:TypeId):Nums (w.alloc (.cells #[.int .i64 a,.int .i64 b,.int .i64 c] e)) (.slice (some ⟨w.heap.size,0,none⟩) 3 3) [a,b,c]:=nums_new w [a,b,c] (by simp) e
set_option maxRecDepth 20000 in
set_option maxHeartbeats 8000000 in
theorem awake5 (w:World) (hT:Tabs w) :
  Calls Tryz.prog 9 #[] w fun r w'=>r=.returned (.bool true)∧Below w.heap.size w w' := by
 have hb0:=hAl w (.cells #[.string ⟨#[120]⟩,.string ⟨#[121]⟩] 9)
 have K:=hide (equation_awake _ (hT.below hb0) _ (strs_two w ⟨#[120]⟩ ⟨#[121]⟩ 9))
 have HT:=hide hT
 clear hT
 go_enter Tryz.func9,Tryz.ntmps9
 go_wp2_with fail
 refine K.out.mono ?_
 rintro r w1 ⟨hb1,x,rfl,hcx⟩
 obtain ⟨ax,cx,hvx,_⟩:=hcx.is.parts
 subst hvx
 have hbA:=hAl w1 (.cells #[.int .i64 0,.int .i64 0,.int .i64 0,.int .i64 0] 51)
 have hb1' := hb0.trans (hb1.mono hb0.size)
 have hb2:=hb1'.trans (hbA.mono hb1'.size)
 have HB2:=hide hb2
 have HCX:=hide (hcx.below hbA)
 clear hb0 hb1 hb1' hcx K hbA
 go_wp2_with fail
 generalize hW2:w1.alloc (.cells #[.int .i64 0,.int .i64 0,.int .i64 0,.int .i64 0] 51)=w2 at *
 have hs2:w2.heap.size=w1.heap.size+1:=by rw [←hW2];simp
 rw [←hs2]
 have hz3:∀ z ∈ ([1,-2,-3]:List Int),-9223372036854775808≤z∧z≤9223372036854775807:=by intro z hz;simp at hz;rcases hz with rfl | rfl | rfl <;> decide
 have HZ3:=hide hz3
 have hbn2:=hAl w2 (.cells #[.int .i64 1,.int .i64 (-2),.int .i64 (-3)] 3)
 refine (row_any _ _ [1,-2,-3] (nums_three w2 1 (-2) (-3) 3) hz3 (by decide)).mono ?_
 rintro e w3 ⟨r3,rfl,hr3,hb3⟩
 obtain ⟨a3,c3,hv3,_⟩:=hr3.is.parts
 subst hv3
 have hb23:=hbn2.trans (hb3.mono hbn2.size)
 have HB3:=hide (HB2.out.trans (hb23.mono HB2.out.size))
 have HCX3:=hide (HCX.out.below hb23)
 have hbs:=hAl w3 (.cells #[.string ⟨#[120]⟩,.string ⟨#[121]⟩] 9)
 have K4:=hide (print_awake _ ((HT.out.below HB3.out).below hbs) _ _ 2 (hr3.is.below hbs) (by decide) (strs_two w3 ⟨#[120]⟩ ⟨#[121]⟩ 9) nms_xy)
 have HBS:=hide hbs
 clear hb3 hb23 hbn2 hr3 hbs hz3 hW2 hs2
 go_wp2_with fail
 refine K4.out.mono ?_
 rintro e w4 ⟨rfl,hb4⟩
 have hb34:=HBS.out.trans (hb4.mono HBS.out.size)
 have HB4:=hide (HB3.out.trans (hb34.mono HB3.out.size))
 have HCX4:=hide (HCX3.out.below hb34)
 have hbn4:=hAl w4 (.cells #[.int .i64 1,.int .i64 (-2),.int .i64 (-3)] 3)
 have K5:=hide (row_any _ _ [1,-2,-3] (nums_three w4 1 (-2) (-3) 3) HZ3.out (by decide))
 have HBN4:=hide hbn4
 clear hb4 hb34 hbn4 K4
 go_wp2_with fail
 refine K5.out.mono ?_
 rintro e w5 ⟨r5,rfl,hr5,hb5⟩
 obtain ⟨a5,c5,hv5,_⟩:=hr5.is.parts
 subst hv5
 have hb45:=HBN4.out.trans (hb5.mono HBN4.out.size)
 have HB5:=hide (HB4.out.trans (hb45.mono HB4.out.size))
 have K6:=hide (samerow_can w5 _ _ [1,-2,-3] 16 2 (HCX4.out.below hb45) hr5)
 have hst:((⟨#[120,32,45,32,50,42,121,32,61,32,45,51]⟩:ByteArray).toList == [120,32,45,32,50,42,121,32,61,32,45,51])=true:=by rw [ByteArray.toList_eq];decide
 clear hb5 hb45 hr5 K5
 go_wp2_with fail
 refine K6.out.mono ?_
 rintro e w6 ⟨rfl,hb6⟩
 have HB6:=hide (HB5.out.trans (hb6.mono HB5.out.size))
 clear hb6 K6
 go_wp2
 refine bodyPost_ret (v:=_) (by simp [results,Tryz.results9,go_sem];try rfl) rfl ⟨rfl,HB6.out⟩
end Lm
end Go.Proofs.YtaofpigilgapgaaGreatDoor

namespace Go.Proofs.YtaofpigilgapgaaGreatDoor
namespace Lm
open Go Go.RowKit
theorem Rw.isrow {w:World} {v:Value} {es:List WE} (h:Rw w v es) {L:Nat} (hl:lenW es≤L):IsRow w v (es.map WE.z) L:=by
 refine ⟨es,h,rfl,fun e he=>?_⟩
 have h1:=lenW_mem he
 have h2:=(h.sl e he).parts.1
 omega
theorem SameR.zs {es us:List WE} (h:SameR es us):es.map WE.z=us.map WE.z:=by
 have e:∀ l:List WE,l.map WE.z=(l.map WE.raw).map fun p=>sg p.1 (val p.2):=fun l=>by rw [List.map_map];rfl
 rw [e,e,h]
theorem SameR.le {es us:List WE} {L:Nat} (h:SameR es us) (hl:∀ e ∈ us,e.zs.length≤L):∀ e ∈ es,e.zs.length≤L:=by
 intro e he
 have h1:e.raw ∈ us.map WE.raw:=by rw [←h];exact List.mem_map_of_mem he
 obtain ⟨u,hu,hr⟩:=List.mem_map.1 h1
 have h2:u.zs=e.zs:=congrArg Prod.snd hr
 rw [←h2]
 exact hl u hu
end Lm
end Go.Proofs.YtaofpigilgapgaaGreatDoor

namespace Go.Proofs.YtaofpigilgapgaaGreatDoor
namespace Lm
open Go Go.RowKit
set_option maxRecDepth 20000 in
set_option maxHeartbeats 4000000 in
theorem lenrow_w (w:World) (ax:Option Addr) (mx cx:Nat) (xs:List WE) (R:Rw w (.slice ax mx cx) xs) (hl:lenW xs≤35184372088832) :
  Calls Tryz.prog 10 #[.slice ax mx cx] w fun e w'=>e=.returned (.int .i64 (lenW xs:Int))∧Below w.heap.size w w' := by
 have hll:=lenW_length xs
 have HX:=hide R
 have HNx:Hid (mx=xs.length):=R.parts.1
 have HL:Hid (lenW xs≤35184372088832∧mx≤lenW xs):=(show _∧_ from ⟨hl,by rw [HNx.out];exact hll⟩)
 have hm:mx≤35184372088832:=by have:=HL.out;omega
 clear R hl hll
 go_enter Tryz.func10,Tryz.ntmps10
 go_wp2_with fail
 go_loopw [3,4] (fun sv iv wr=>∃ k:Nat,iv=.int .i64 k∧k≤mx∧sv=.int .i64 (lenW (xs.take k):Int)∧Below w.heap.size w wr) (fun _ iv _=>mx - (intOf iv).toNat)
 case atStart=>exact ⟨0,rfl,Nat.zero_le _,rfl,Below.refl _ _⟩
 case round =>
  obtain ⟨k,rfl,hk,rfl,hbw⟩:=hrel
  by_cases hlt:k<mx
  ·have hlt' : (k:Int)<(mx:Int):=by omega
   obtain ⟨ex,hex⟩:∃ e,xs[k]? = some e:=⟨_,List.getElem?_eq_getElem (by have:=HNx.out;omega)⟩
   obtain ⟨bx,ox,hAx,hlx0,hcx⟩:=HX.out.cells (by have:=HNx.out;omega)
   subst hAx
   have hlx:bx<wr.heap.size:=Nat.lt_of_lt_of_le hlx0 hbw.size
   have x0:=(hbw.cell (p:=⟨bx,ox+k*2,none⟩) hlx0).trans (hcx _ _ (flat_at hex).1)
   have x1:wr.cell? ⟨bx,ox+k*2+1,none⟩ = some (.slice ex.a ex.m ex.c):=(hbw.cell (p:=⟨bx,ox+k*2+1,none⟩) hlx0).trans (hcx _ _ (flat_at hex).2)
   have hs:=lenW_take hex
   have hle:=lenW_take_le xs (k+1)
   have hm2:=HL.out
   have HW:=hide hbw
   have K1:=hide (wlen_any wr ex.ng ex.a ex.m ex.c (by omega))
   obtain ⟨s,hsv⟩:∃ s,lenW (xs.take k)=s:=⟨_,rfl⟩
   rw [hsv] at hs ⊢
   have hadd:IntKind.i64.wrap ((s:Int)+(1+(ex.m:Int)))=(s:Int)+(1+(ex.m:Int)):=by rw [IntKind.wrap_i64];omega
   have HSV:=hide hs
   clear hbw hs hle hsv hm2 hex hcx hlx
   go_wp2_with fail
   refine K1.out.mono ?_
   rintro e w2 ⟨rfl,hb2⟩
   have HB2:=hide (HW.out.trans (hb2.mono HW.out.size))
   clear hb2 x0 x1 hlx0
   go_wp2
   go_roundw
   case rel=>exact ⟨k+1,by go_num,by omega,by rw [HSV.out];simp,HB2.out⟩
   case measure=>simp [intOf];omega
  ·have hlt' : decide ((k:Int)<(mx:Int))=false:=by simp;omega
   have hkn:k=mx:=by omega
   subst hkn
   have HW:=hide hbw
   clear hbw
   go_wp2
   refine bodyPost_ret (v:=_) (res_t rfl rfl) rfl ⟨by rw [List.take_of_length_le (by have:=HNx.out;omega)];rfl,HW.out⟩
set_option maxRecDepth 20000 in
set_option maxHeartbeats 4000000 in
theorem copyrow_w (w:World) (ax:Option Addr) (mx cx:Nat) (xs:List WE) (R:Rw w (.slice ax mx cx) xs) (hl:lenW xs≤100000) :
  Calls Tryz.prog 16 #[.slice ax mx cx] w fun e w'=>∃ v es,e=.returned v∧RwO w.heap.size w' v es∧SameR es xs∧Below w.heap.size w w' := by
 have hll:=lenW_length xs
 have HX:=hide R
 have HNx:Hid (mx=xs.length):=R.parts.1
 have HL:Hid (lenW xs≤100000∧mx≤lenW xs):=(show _∧_ from ⟨hl,by rw [HNx.out];exact hll⟩)
 have hm:mx≤100000:=by have:=HL.out;omega
 clear R hl hll
 go_enter Tryz.func16,Tryz.ntmps16
 go_wp2_with fail
 go_loopw [3,4] (fun ov iv wr=>∃ (k:Nat) (es:List WE),iv=.int .i64 k∧k≤mx∧Below w.heap.size w wr∧RwO w.heap.size wr ov es∧SameR es (xs.take k)) (fun _ iv _=>mx - (intOf iv).toNat)
 case atStart=>exact ⟨0,[],rfl,Nat.zero_le _,Below.refl _ _,rwo_nil _ _,rfl⟩
 case round =>
  obtain ⟨k,es,rfl,hk,hbw,ho,hs⟩:=hrel
  obtain ⟨aov,capv,hov,_⟩:=Cl.own ho.own
  subst hov
  have HO:=hide ho
  have HS:=hide hs
  have HW:=hide hbw
  by_cases hlt:k<mx
  ·have hlt' : (k:Int)<(mx:Int):=by omega
   obtain ⟨ex,hex⟩:∃ e,xs[k]? = some e:=⟨_,List.getElem?_eq_getElem (by have:=HNx.out;omega)⟩
   obtain ⟨bx,ox,hAx,hlx0,hcx⟩:=HX.out.cells (by have:=HNx.out;omega)
   subst hAx
   have hlx:bx<wr.heap.size:=Nat.lt_of_lt_of_le hlx0 hbw.size
   have x0:=(hbw.cell (p:=⟨bx,ox+k*2,none⟩) hlx0).trans (hcx _ _ (flat_at hex).1)
   have x1:wr.cell? ⟨bx,ox+k*2+1,none⟩ = some (.slice ex.a ex.m ex.c):=(hbw.cell (p:=⟨bx,ox+k*2+1,none⟩) hlx0).trans (hcx _ _ (flat_at hex).2)
   have hsl:=(HX.out.sl ex (List.mem_of_getElem? hex)).below hbw
   have hem:=lenW_mem (List.mem_of_getElem? hex)
   have hm2:=HL.out
   have hes:es.length≤1000000:=by rw [hs.len,List.length_take];omega
   have K1:=hide (copywO_z wr ex.ng ex.a ex.m ex.c ex.zs hsl (by have:=hsl.parts.1;omega))
   have HEX:=hide hex
   clear hbw ho hs hsl hem hm2 hex hcx hlx
   go_wp2_with fail
   refine K1.out.mono ?_
   rintro e w2 ⟨r2,rfl,⟨ao2,cap2,rfl,hw2⟩,hb2⟩
   have hA:=hAl w2 (.cells #[.bool ex.ng,.slice ao2 ex.zs.length cap2] 66)
   have hb2' := hb2.trans (hA.mono hb2.size)
   have hR2:=HO.out.below hb2'
   have hO2:One _ w2.heap.size ex.ng ao2 ex.zs.length cap2:=heap_alloc_new w2 (.cells #[.bool ex.ng,.slice ao2 ex.zs.length cap2] 66)
   have hS2:Ow w.heap.size _ (.slice ao2 ex.zs.length cap2) ex.zs:=(hw2.mono HW.out.size).below hA
   have hsz:w.heap.size≤(w2.alloc (.cells #[.bool ex.ng,.slice ao2 ex.zs.length cap2] 66)).heap.size:=Nat.le_trans HW.out.size hb2'.size
   clear x0 x1 hlx0
   go_wp2_with (at_builtin;refine wpList_does rfl (op_appr (i:=11) (j:=17) rfl rfl hR2 hO2 hS2 hes hsz) ?_)
   intro v3 w3 hR3 hb3
   obtain ⟨aov3,capv3,hov3,_⟩:=Cl.own hR3.own
   subst hov3
   have HR3:=hide hR3
   have HB3:=hide ((HW.out.trans (hb2'.mono HW.out.size)).trans hb3)
   clear hR3 hb3 hR2 hO2 hS2 hsz hA hb2 hb2' hw2
   go_wp2
   go_roundw
   case rel=>exact ⟨k+1,_,by go_num,by omega,HB3.out,HR3.out,sameR_snoc HS.out HEX.out rfl⟩
   case measure=>simp [intOf];omega
  ·have hlt' : decide ((k:Int)<(mx:Int))=false:=by simp;omega
   have hkn:k=mx:=by omega
   subst hkn
   clear hbw ho hs
   go_wp2
   refine bodyPost_ret (v:=_) (res_t rfl rfl) rfl ⟨_,es,rfl,HO.out,(by have h:=HS.out;rwa [List.take_of_length_le (by have:=HNx.out;omega)] at h),HW.out⟩
set_option maxRecDepth 20000 in
set_option maxHeartbeats 4000000 in
theorem samerow_w (w:World) (ax:Option Addr) (mx cx:Nat) (xs:List WE) (Rx:Rw w (.slice ax mx cx) xs) (ay:Option Addr) (my cy:Nat) (ys:List WE) (Ry:Rw w (.slice ay my cy) ys) (hS:SameR xs ys) :
  Calls Tryz.prog 22 #[.slice ax mx cx,.slice ay my cy] w fun e w'=>e=.returned (.bool true)∧Below w.heap.size w w' := by
 obtain ⟨rfl,hx2,hx3⟩:=Rx.parts
 obtain ⟨rfl,_,_⟩:=Ry.parts
 have HX:=hide Rx
 have HY:=hide Ry
 have HS:=hide hS
 have hlen:=hS.len
 rw [←hlen] at HY ⊢
 obtain ⟨n,hn⟩:∃ n,xs.length=n:=⟨_,rfl⟩
 rw [hn] at HX HY hx2 ⊢
 have HNx:Hid (xs.length=n):=hn
 have HNy:Hid (ys.length=n):=hlen.symm.trans hn
 have hnn:((n:Int) != (n:Int))=false:=by simp
 clear Rx Ry hS hlen hn
 go_enter Tryz.func22,Tryz.ntmps22
 go_wp2_with fail
 go_loopw [5] (fun iv wr=>∃ k:Nat,iv=.int .i64 k∧k≤n∧Below w.heap.size w wr) (fun iv _=>n - (intOf iv).toNat)
 case atStart=>exact ⟨0,rfl,Nat.zero_le _,Below.refl _ _⟩
 case round =>
  obtain ⟨k,rfl,hk,hbw⟩:=hrel
  have HW:=hide hbw
  by_cases hlt:k<n
  ·have hlt' : (k:Int)<(n:Int):=by omega
   obtain ⟨ex,hex⟩:∃ e,xs[k]? = some e:=⟨_,List.getElem?_eq_getElem (by have:=HNx.out;omega)⟩
   obtain ⟨bx,ox,hAx,hlx0,hcx⟩:=HX.out.cells (by have:=HNx.out;omega)
   subst hAx
   have hlx:bx<wr.heap.size:=Nat.lt_of_lt_of_le hlx0 hbw.size
   have x0:=(hbw.cell (p:=⟨bx,ox+k*2,none⟩) hlx0).trans (hcx _ _ (flat_at hex).1)
   have x1:wr.cell? ⟨bx,ox+k*2+1,none⟩ = some (.slice ex.a ex.m ex.c):=(hbw.cell (p:=⟨bx,ox+k*2+1,none⟩) hlx0).trans (hcx _ _ (flat_at hex).2)
   obtain ⟨ey,hey⟩:∃ e,ys[k]? = some e:=⟨_,List.getElem?_eq_getElem (by have:=HNy.out;omega)⟩
   obtain ⟨by_,oy,hAy,hly0,hcy⟩:=HY.out.cells (by have:=HNy.out;omega)
   subst hAy
   have hly:by_<wr.heap.size:=Nat.lt_of_lt_of_le hly0 hbw.size
   have y0:=(hbw.cell (p:=⟨by_,oy+k*2,none⟩) hly0).trans (hcy _ _ (flat_at hey).1)
   have y1:wr.cell? ⟨by_,oy+k*2+1,none⟩ = some (.slice ey.a ey.m ey.c):=(hbw.cell (p:=⟨by_,oy+k*2+1,none⟩) hly0).trans (hcy _ _ (flat_at hey).2)
   have S1:=(HX.out.sl ex (List.mem_of_getElem? hex)).below hbw
   have S2:=(HY.out.sl ey (List.mem_of_getElem? hey)).below hbw
   have hq:=HS.out.at hex hey
   clear hbw hex hey hcx hcy
   go_upto_region 6 with fail
   go_cut [26] (fun cv wx=>cv=.bool false∧Below wr.heap.size wr wx)
   case first =>
    refine cut_abs [17,18,19,20,21,22,23,24,25,26] [Eqs (.slice (some ⟨bx,ox,none⟩) n cx),Eqs (.int .i64 (k:Int)),Eqs (.pointer (some ⟨bx,ox+k*2,none⟩)),Eqs (.agg #[.bool ex.ng,.slice ex.a ex.m ex.c]),Eqs (.slice (some ⟨by_,oy,none⟩) n cy),Eqs (.int .i64 (k:Int)),Eqs (.pointer (some ⟨by_,oy+k*2,none⟩)),Eqs (.agg #[.bool ey.ng,.slice ey.a ey.m ey.c]),Eqs (.bool true),Eqs (.bool false)] (by assumption) (by assumption) rfl (by decide) (by kernel_rfl) (by kernel_rfl) ⟨Eqs.mono _,Eqs.mono _,Eqs.mono _,Eqs.mono _,Eqs.mono _,Eqs.mono _,Eqs.mono _,Eqs.mono _,Eqs.mono _,Eqs.mono _,trivial⟩ ?_ ?_
    ·exact ⟨⟨rfl,fun a_ w_ _ hB hR hD=>op_mv ((hR 0 rfl).trans (eval_list rfl))⟩,
      ⟨rfl,fun a_ w_ _ hB hR hD=>op_mv ((hR 5 rfl).trans (eval_list rfl))⟩,
      ⟨rfl,fun a_ w_ _ hB hR hD=>op_idxr (show a_.eval (.tmp 17)=.slice (some ⟨bx,ox,none⟩) n cx from hD 0 rfl) rfl (show a_.eval (.tmp 18)=.int .i64 (k:Int) from hD 1 rfl) (by omega)⟩,
      ⟨rfl,fun a_ w_ _ hB hR hD=>op_ldc (p:=Eqs _) (show a_.eval (.tmp 19)=.pointer (some ⟨bx,ox+k*2,none⟩) from hD 2 rfl) ((hB.cell (p:=⟨bx,ox+k*2,none⟩) hlx).trans x0) ((hB.cell (p:=⟨bx,ox+k*2+1,none⟩) hlx).trans x1) rfl⟩,
      ⟨rfl,fun a_ w_ _ hB hR hD=>op_mv ((hR 1 rfl).trans (eval_list rfl))⟩,
      ⟨rfl,fun a_ w_ _ hB hR hD=>op_mv ((hR 5 rfl).trans (eval_list rfl))⟩,
      ⟨rfl,fun a_ w_ _ hB hR hD=>op_idxr (show a_.eval (.tmp 21)=.slice (some ⟨by_,oy,none⟩) n cy from hD 4 rfl) rfl (show a_.eval (.tmp 22)=.int .i64 (k:Int) from hD 5 rfl) (by omega)⟩,
      ⟨rfl,fun a_ w_ _ hB hR hD=>op_ldc (p:=Eqs _) (show a_.eval (.tmp 23)=.pointer (some ⟨by_,oy+k*2,none⟩) from hD 6 rfl) ((hB.cell (p:=⟨by_,oy+k*2,none⟩) hly).trans y0) ((hB.cell (p:=⟨by_,oy+k*2+1,none⟩) hly).trans y1) rfl⟩,
      ⟨rfl,fun a_ w_ _ hB hR hD=>op_sameraw (show a_.eval (.tmp 20)=.agg #[.bool ex.ng,.slice ex.a ex.m ex.c] from hD 3 rfl) (show a_.eval (.tmp 24)=.agg #[.bool ey.ng,.slice ey.a ey.m ey.c] from hD 7 rfl) (S1.below hB) (S2.below hB) hq.1 hq.2⟩,
      ⟨rfl,fun a_ w_ _ hB hR hD=>op_not (show a_.eval (.tmp 25)=.bool true from hD 8 rfl)⟩,
      trivial⟩
    ·intro a' w' hn' hd' hB' hR' hP'
     (repeat apply Exists.intro)
     refine ⟨?rel,act_fit hn' hd' hR' ?fit⟩
     case fit=>repeat' (first | exact trivial | refine ⟨(by first | exact .inl ⟨rfl,rfl⟩ | exact .inr rfl),?_⟩)
     case rel=>exact ⟨(show _ = _ from hP' 9 (by decide)),hB'⟩
   case rest =>
    obtain ⟨hc26,hbx⟩:=hcut
    subst hc26
    have HB2:=hide (HW.out.trans (hbx.mono HW.out.size))
    clear hbx x0 x1 y0 y1 S1 S2 hq
    go_wp2
    go_roundw
    case rel=>exact ⟨k+1,by go_num,by omega,HB2.out⟩
    case measure=>simp [intOf];omega
  ·have hlt' : decide ((k:Int)<(n:Int))=false:=by simp;omega
   clear hbw
   go_wp2
   refine bodyPost_ret (v:=_) (by simp [results,Tryz.results22,go_sem];try rfl) rfl ⟨rfl,HW.out⟩
end Lm
end Go.Proofs.YtaofpigilgapgaaGreatDoor

namespace Go.Proofs.YtaofpigilgapgaaGreatDoor
namespace Lm
open Go Go.RowKit
set_option maxRecDepth 20000 in
set_option maxHeartbeats 16000000 in
set_option maxRecDepth 400000 in
theorem puts_any (w:World) (hT:Tabs w) (ax:Option Addr) (mx cx:Nat) (xs:List WE) (v:Int) (ay:Option Addr) (my cy:Nat) (ys:List WE) (Rx:Rw w (.slice ax mx cx) xs) (hx:lenW xs≤1048576) (Ry:Rw w (.slice ay my cy) ys) (hy:lenW ys≤1048576) :
  Calls Tryz.prog 8 #[.slice ax mx cx,.int .i64 v,.slice ay my cy] w fun e w'=>e=.returned (.bool true)∧Below w.heap.size w w' := by
 have K1:=hide (awake5 w hT)
 have lx:=lenW_length xs
 have ly:=lenW_length ys
 have HX:=hide Rx
 have HY:=hide Ry
 obtain ⟨sx,hsx⟩:∃ sx,lenW xs=sx:=⟨_,rfl⟩
 obtain ⟨sy,hsy⟩:∃ sy,lenW ys=sy:=⟨_,rfl⟩
 rw [hsx] at lx hx
 rw [hsy] at ly hy
 have HLX:=hide lx
 have HLY:=hide ly
 have HSx:=hide hsx
 have HSy:=hide hsy
 clear Rx Ry hT hsx hsy lx ly
 have hs1:IntKind.i64.wrap ((sx:Int)+(sy:Int))=(sx:Int)+(sy:Int):=by rw [IntKind.wrap_i64];omega
 go_enter Tryz.func8,Tryz.ntmps8
 go_wp2_with fail
 refine K1.out.mono ?_
 rintro e w1 ⟨rfl,hb1⟩
 have K2:=hide (lenrow_w w1 _ _ _ _ (HX.out.below hb1) (by have:=HSx.out;omega))
 rw [HSx.out] at K2
 have HB1:=hide hb1
 clear hb1 K1
 go_wp2_with fail
 refine K2.out.mono ?_
 rintro e w2 ⟨rfl,hb2⟩
 replace hb2:=HB1.out.trans (hb2.mono HB1.out.size)
 have K3:=hide (lenrow_w w2 _ _ _ _ (HY.out.below hb2) (by have:=HSy.out;omega))
 rw [HSy.out] at K3
 have HB2:=hide hb2
 clear hb2 K2 HB1
 go_wp2_with fail
 refine K3.out.mono ?_
 rintro e w3 ⟨rfl,hb3⟩
 replace hb3:=HB2.out.trans (hb3.mono HB2.out.size)
 have HB3:=hide hb3
 clear hb3 K3 HB2
 by_cases hlong:1500<(sx:Int)+(sy:Int)
 ·have hl' : decide (1500<(sx:Int)+(sy:Int))=true:=by simpa using hlong
  go_wp2
  refine bodyPost_ret (v:=_) (by simp [results,Tryz.results8,go_sem];try rfl) rfl ⟨rfl,HB3.out⟩
 ·have hl' : decide (1500<(sx:Int)+(sy:Int))=false:=by simpa using hlong
  have HLG:Hid (sx+sy≤1500):=(show sx+sy≤1500 by omega)
  obtain ⟨zs,pe,hzl,hP1,hD1⟩:=put_both (xs.map WE.z) (ys.map WE.z) v 1500 (by simp only [List.length_map];have:=HLX.out;omega) (by omega)
  have HP1:=hide hP1
  have HD1:=hide hD1
  have HZL:=hide hzl
  have hee:(pe == pe)=true:=by simp
  clear hlong hP1 hD1 hzl
  have K4:=hide (copyrow_w w3 _ _ _ _ (HX.out.below HB3.out) (by have:=HSx.out;have:=HLG.out;omega))
  go_wp2_with fail
  refine K4.out.mono ?_
  rintro e w4 ⟨vp,es,rfl,ho4,hs4,hb4⟩
  obtain ⟨ap,cp,hvp,_⟩:=Cl.own ho4.own
  subst hvp
  have HO4:=hide ho4.rw
  have HS4:=hide hs4
  have HB4:=hide (HB3.out.trans (hb4.mono HB3.out.size))
  have K5:=hide (copyrow_w w4 _ _ _ _ (HY.out.below HB4.out) (by have:=HSy.out;have:=HLG.out;omega))
  clear ho4 hs4 hb4 K4 HB3
  go_wp2_with fail
  refine K5.out.mono ?_
  rintro e w5 ⟨vq,fs,rfl,ho5,hs5,hb5⟩
  obtain ⟨aq,cq,hvq,_⟩:=Cl.own ho5.own
  subst hvq
  have HO5:=hide (HO4.out.below hb5)
  have HQ5:=hide ho5.rw
  have HS5:=hide hs5
  have HB5:=hide (HB4.out.trans (hb5.mono HB4.out.size))
  have IP:Hid (IsRow w5 (.slice ap es.length cp) (xs.map WE.z) 1500):=⟨es,HO5.out,HS4.out.zs,HS4.out.le (fun e he=>(by have:=lenW_mem he;have:=(HX.out.sl e he).parts.1;have:=HSx.out;have:=HLG.out;omega))⟩
  have IQ:Hid (IsRow w5 (.slice aq fs.length cq) (ys.map WE.z) 1500):=⟨fs,HQ5.out,HS5.out.zs,HS5.out.le (fun e he=>(by have:=lenW_mem he;have:=(HY.out.sl e he).parts.1;have:=HSy.out;have:=HLG.out;omega))⟩
  have IX:=hide (HX.out.isrow (L:=1500) (by have:=HSx.out;have:=HLG.out;omega))
  have IY:=hide (HY.out.isrow (L:=1500) (by have:=HSy.out;have:=HLG.out;omega))
  have K6:=hide (HP1.out w5 _ _ IP.out IQ.out)
  clear ho5 hs5 hb5 K5 HO4 HB4
  go_wp2_with fail
  refine K6.out.mono ?_
  rintro e w6 ⟨rg,rfl,htr,hb6⟩
  have HT6:=hide htr
  have H56:=hide hb6
  have H06:=hide (HB5.out.trans (hb6.mono HB5.out.size))
  have K7:=hide (HD1.out w6 _ _ (IX.out.below H06.out) (IY.out.below H06.out))
  clear htr hb6 K6
  go_wp2_with fail
  refine K7.out.mono ?_
  rintro e w7 ⟨rw_,rfl,hcr,hb7⟩
  have hbK:=hAl w7 (.cells #[.slice none 0 0,.slice none 0 0] 40)
  have hBK:Bs (w7.alloc (.cells #[.slice none 0 0,.slice none 0 0] 40)) w7.heap.size w.heap.size [] 0:=Bs.new (heap_alloc_new _ _)
  have h67:=hb7.trans (hbK.mono hb7.size)
  have HC7:=hide (hcr.below hbK)
  have HT7:=hide (HT6.out.can.below h67)
  have H67:=hide h67
  have h57:=H56.out.trans (h67.mono H56.out.size)
  have HP4:=hide (HO5.out.below h57)
  have HQ4:=hide (HQ5.out.below h57)
  have HB0k:=hide (HB5.out.trans (h57.mono HB5.out.size))
  have HBK:=hide hBK
  have HSZ:Hid (w6.heap.size≤w7.heap.size∧w.heap.size≤w5.heap.size∧w5.heap.size≤w6.heap.size):=⟨hb7.size,HB5.out.size,H56.out.size⟩
  clear hcr hb7 hbK hBK h67 h57 K7 HO5 HQ5
  go_upto_region 10 with fail
  generalize hWk:w7.alloc (.cells #[.slice none 0 0,.slice none 0 0] 40)=wk at *
  have hsk:wk.heap.size=w7.heap.size+1:=by rw [←hWk];simp
  generalize hf7:w7.heap.size=fK at *
  have HSk:=hide hsk
  clear hWk hf7 hsk
  have K1:=hide (samerow_can wk _ _ zs _ _ HT7.out HC7.out)
  go_wp2_with (go_at_call 11;refine (num_any _ _).mono ?_;rintro r w' ⟨rfl,rfl⟩)
  refine K1.out.mono ?_
  rintro e q2 ⟨rfl,hq2⟩
  have HQ2:=hide hq2
  clear hq2 K1
  have K3:=hide (samerow_w q2 _ _ _ _ (HP4.out.below HQ2.out) _ _ _ _ (HX.out.below (HB0k.out.trans (HQ2.out.mono HB0k.out.size))) HS4.out)
  go_wp2_with fail
  refine K3.out.mono ?_
  rintro e q3 ⟨rfl,hq3⟩
  have HQ3:=hide (HQ2.out.trans (hq3.mono HQ2.out.size))
  clear hq3 K3
  have K4:=hide (samerow_w q3 _ _ _ _ (HQ4.out.below HQ3.out) _ _ _ _ (HY.out.below (HB0k.out.trans (HQ3.out.mono HB0k.out.size))) HS5.out)
  go_wp2_with fail
  refine K4.out.mono ?_
  rintro e q4 ⟨rfl,hq4⟩
  have hq:=HQ3.out.trans (hq4.mono HQ3.out.size)
  have hB0:=HB0k.out.trans (hq.mono HB0k.out.size)
  have hsz:=HSZ.out
  have hsk:=HSk.out
  have hqs:=hq.size
  have HB4' := hide hB0
  have K5:=hide (HT6.out.own hsz.2.2 q4 fK w.heap.size (H67.out.trans (hq.mono H67.out.size)) (HBK.out.below hq) (by omega) (by omega) (by omega) (by have:=HZL.out;simp only [List.length_map] at this;have:=HLX.out;have:=HLY.out;have:=HLG.out;omega))
  clear hq4 hq hB0 hsz hsk hqs K4
  go_wp2_with fail
  refine K5.out.mono ?_
  rintro e q5 ⟨rfl,bs1,m1,hm1,hbk1,hbe⟩
  have HB5' := hide (HB4'.out.trans (hbe.mono HSZ.out.2.1))
  have K7:=hide (done_b q5 _ _ _ _ hbk1 hm1)
  clear hbk1 hbe K5 hm1
  go_wp2_with fail
  refine K7.out.mono ?_
  rintro e q7 ⟨rfl,hq7⟩
  have HB7:=hide (HB5'.out.trans (hq7.mono HB5'.out.size))
  clear hq7 K7
  go_wp2
  refine bodyPost_ret (v:=_) (by simp [results,Tryz.results8,go_sem];try rfl) rfl ⟨rfl,HB7.out⟩
end Lm
end Go.Proofs.YtaofpigilgapgaaGreatDoor

namespace Go.Proofs.YtaofpigilgapgaaGreatDoor
namespace affinePutsLaw
open Go.ChangeShapes Go.WideShapes Go.ChangeAt Go.RowKit
open Go.ChangeMaps (open_string shut_string)
theorem own:ownKnob Tryz.prog.godebug=none:=by kernel_rfl
theorem laidOut:laidOutB Tryz.prog=true:=by kernel_rfl
noncomputable def laidWorld (os:Os):World :=
 let w0:=World.holding Tryz.prog os ⟨#[],#[],[]⟩
 let put (h:Array Obj) (g:Nat) (cs:Array Value):Array Obj:=h.modify g fun
  | .cells _ t frozen=>.cells cs t frozen
  | o=>o
 let h1:=put w0.heap (Tryz.lays197_ren.g 3) (Lib.firstTab.map fun z=>Value.int .u8 z).toArray
 let h2:=put h1 (Tryz.lays197_ren.g 4) ((List.range 16).flatMap fun i=>[Value.int .u8 (Lib.accLo i),Value.int .u8 (Lib.accHi i)]).toArray
 { w0 with heap:=h2 }
theorem laid_met (os:Os):laidMet Tryz.prog Rows.affinePutsUptoRow.laid ((laidWorld os).forCall (fun _ _=>0) ⟨#[],#[.slice none 0 0,.int .i64 0,.slice none 0 0],[]⟩).memory :=
 laidMet_of_run' 8 (by kernel_rfl) (by kernel_rfl)
theorem tabs {W:World} (h:laidMet Tryz.prog Rows.affinePutsUptoRow.laid W):Lm.Tabs W :=
 utf8Tabs_of_reads (ρ:=Tryz.lays197_ren) { Tryz.lays197 with } ⟨by kernel_rfl,by kernel_rfl,by kernel_rfl,by kernel_rfl,by kernel_rfl,by kernel_rfl,by kernel_rfl⟩
  (Lib.laidMet.reads h (show ("unicode/utf8.first", Lib.firstData) ∈ Rows.affinePutsUptoRow.laid from by
   rw [show Lib.firstData=Rows.laid_unicode_utf8_first from by kernel_rfl]
   exact .tail _ (.head _)))
  (Lib.laidMet.reads h (show ("unicode/utf8.acceptRanges", Lib.acceptData) ∈ Rows.affinePutsUptoRow.laid from by
   rw [show Lib.acceptData=Rows.laid_unicode_utf8_acceptRanges from by kernel_rfl]
   exact .head _))
theorem reads (os:Os) {H:Type} (enc:TypeId × Value→H):∃ places,DataW.whole enc Tryz.prog ((laidWorld os).forCall (fun _ _=>0) ⟨#[],#[.slice none 0 0,.int .i64 0,.slice none 0 0],[]⟩).memory Tryz.f8.params.toList Rows.affinePutsSpec.vars false (#[.slice none 0 0,.int .i64 0,.slice none 0 0]:Array Value).toList 8=some ([.nil,.lit (.int .i64 0),.nil],[],places) :=
 ⟨[],by kernel_rfl⟩
set_option linter.unusedVariables false in
set_option maxRecDepth 100000 in
theorem lifted (os:Os) (started:os.Started) (H:Type) (enc:TypeId × Value→H) (F:Stop.Interp) :
  ReturnsInHanded {} Tryz.checked os 8 .any ((Rows.OpenSpec.upto Rows.affinePutsSpec).preRow enc Tryz.prog Tryz.f8 Rows.affinePutsUptoRow.domain false Rows.affinePutsUptoRow.laid) (((Rows.OpenSpec.upto Rows.affinePutsSpec).at F).post enc Tryz.prog Tryz.f8 false true false false):=by
 obtain ⟨places,hx⟩:=reads os enc
 refine returnsInHanded_of_row (C:=Tryz.checked) (s:=(Rows.OpenSpec.upto Rows.affinePutsSpec)) own started (by kernel_rfl) Tryz.func8
  (witness_row_at (enc:=enc) (C:=Tryz.checked) false (laidWorld os) #[.slice none 0 0,.int .i64 0,.slice none 0 0] rfl (by kernel_rfl) (by kernel_rfl) (by kernel_rfl)
   (OpenSpec.preRow_of_cond 8 hx (by kernel_rfl) (fun k hk=>by cases hk;kernel_rfl) (by kernel_rfl) (laid_met os))) ?_
 intro W base args ds gs before hval0 hW hcnd0 hcond hsz0 hL hj2 hj3
 have hTabs:Lm.Tabs W:=tabs hL
 have hval:∀ (j:Nat) t v,Tryz.f8.params[j]? = some t→args[j]? = some v→Value.okWide Tryz.prog W .any base t v:=hval0
 have hW' := hW
 obtain ⟨p,q,hA0,hV,rfl,hfz,hnd⟩:=hW
 have hA:DataW.TrodAll enc Tryz.prog W 0 (fun _=>true) true Tryz.f8.params.toList args.toList ds p:=hA0
 have hsz:(DataW.weightsEach Tryz.prog (Tryz.f8.params.toList ++ Rows.affinePutsSpec.plain.varTypes Tryz.prog) (ds ++ gs)).all (·≤reachBytes)=true:=hsz0
 rw [Tryz.params8] at hA hval hsz
 obtain ⟨v0,vs0,d0,ds0,p0,q0,hargs,rfl,rfl,h0,r0⟩:=trodAll_cons hA
 obtain ⟨v1,vs1,d1,ds1,p1,q1,rfl,rfl,rfl,h1,r1⟩:=trodAll_cons r0
 obtain ⟨v2,vs2,d2,ds2,p2,q2,rfl,rfl,rfl,h2,r2⟩:=trodAll_cons r1
 obtain ⟨rfl,rfl,rfl⟩:=trodAll_nil r2
 obtain rfl:args = #[v0,v1,v2]:=by cases args;simp_all
 obtain ⟨rfl,rfl⟩:=trodVars_none hV
 have hbulk:Rows.uptoBulkAll ([d0,d1,d2]:List (DataW H))≤1048576:=by
  have h:=of_decide_eq_true (hcond Rows.uptoSmall rfl)
  simpa only [List.append_nil] using h
 simp only [Rows.uptoBulkAll] at hbulk
 obtain ⟨a0,len0,cap0,rfl⟩:=okWide_slice Tryz.underlying23 (hval 0 23 v0 rfl rfl)
 have k0:=h0
 have lt0:∀ x ∈ p0,x.block<W.heap.size:=by obtain ⟨m,hm⟩:=k0;exact DataW.trod_lt m _ _ _ hm
 obtain ⟨z0,w0,b0⟩:∃ es,Lm.Rw W (.slice a0 len0 cap0) es∧Lm.lenW es+1≤Rows.uptoBulk d0:=by
  obtain ⟨fuel,hf⟩:=h0
  exact Lm.open_row (x:=(d0,p0)) (by simpa [Value.cells] using hf)
 obtain ⟨a1,rfl,rfl,rfl,w1⟩:=open_int Tryz.underlying3 (hval 1 3 v1 rfl rfl) h1
 obtain ⟨a2,len2,cap2,rfl⟩:=okWide_slice Tryz.underlying23 (hval 2 23 v2 rfl rfl)
 have k2:=h2
 have lt2:∀ x ∈ p2,x.block<W.heap.size:=by obtain ⟨m,hm⟩:=k2;exact DataW.trod_lt m _ _ _ hm
 obtain ⟨z2,w2,b2⟩:∃ es,Lm.Rw W (.slice a2 len2 cap2) es∧Lm.lenW es+1≤Rows.uptoBulk d2:=by
  obtain ⟨fuel,hf⟩:=h2
  exact Lm.open_row (x:=(d2,p2)) (by simpa [Value.cells] using hf)
 clear hA0 hval0
 refine (Lm.puts_any W hTabs a0 len0 cap0 z0 a1 a2 len2 cap2 z2 w0 (by omega) w2 (by omega)).mono fun e W' ⟨he,bel⟩=>?_
 subst he
 exact ⟨_,rfl,_,_,_,[],_,[],hW',trodAll_mk1 (shut_bool Tryz.underlying4 _),(trodAll_cons_mk (Below.trod laidOut (by kernel_rfl) (of_decide_eq_true (by kernel_rfl)) k0 bel lt0) (trodAll_cons_mk (shut_int Tryz.underlying3 w1) (trodAll_cons_mk (Below.trod laidOut (by kernel_rfl) (of_decide_eq_true (by kernel_rfl)) k2 bel lt2) trodAll_mk0))),rfl,bel.frame _,fun h=>by cases h⟩
theorem said:Rows.AffinePutsUptoSaid :=
 OpenClaim.holds_of_cond 8 Tryz.f8 rfl rfl rfl rfl rfl rfl rfl ⟨rfl,rfl,rfl,rfl,rfl⟩ rfl rfl rfl rfl rfl (by kernel_rfl) Tryz.func8 (by kernel_rfl)
  (of_decide_eq_true (by kernel_rfl)) (by unfold Func.isWrapper;first | (rw [if_pos (by decide +kernel)];kernel_rfl) | (rw [if_neg (by decide +kernel)];exact ⟨rfl,rfl⟩))
  (fun os started H enc _ F=>by rw [OpenClaim.pre_eq_preRow];exact lifted os started H enc F)
theorem plain (f : FuncId) (fn : Func) (hf : Tryz.pinned.checked.prog.funcNamed "rafter/rafterlaw05.AffinePuts" = some f) (hfn : Tryz.pinned.checked.prog.funcs[f]? = some fn) :
  false=Tryz.pinned.checked.prog.looks []∧∀ (j:Nat) t,fn.params[j]? = some t→Tryz.pinned.checked.prog.wantsStandIn t=false:=by
 obtain rfl : f = 8 := Option.some.inj ((show Tryz.prog.funcNamed "rafter/rafterlaw05.AffinePuts" = some 8 by kernel_rfl).symm.trans hf) |>.symm
 obtain rfl:fn=Tryz.f8:=(Option.some.inj (Tryz.func8.symm.trans hfn)).symm
 refine ⟨by kernel_rfl,fun j t ht=>?_⟩
 rw [Tryz.params8] at ht
 have hm:=Array.mem_of_getElem? ht
 simp at hm
 rcases hm with rfl | rfl | rfl
 ·exact (show Tryz.prog.wantsStandIn 23=false by kernel_rfl)
 ·exact (show Tryz.prog.wantsStandIn 3=false by kernel_rfl)
 ·exact (show Tryz.prog.wantsStandIn 23=false by kernel_rfl)
theorem card:Rows.AffinePutsUptoCardSaid :=
 Claim7.holds_tied_plain_at .later [] _ _ _ _ said (fun _ h=>by cases h) (by kernel_rfl) (fun _ h=>by cases h) affinePutsUpto_row_tie rfl ⟨rfl,rfl⟩ (by kernel_rfl) rfl plain (by kernel_rfl)
end affinePutsLaw
theorem affinePuts_card:Rows.AffinePutsUptoCardSaid:=affinePutsLaw.card
#print axioms affinePuts_card
end Go.Proofs.YtaofpigilgapgaaGreatDoor

