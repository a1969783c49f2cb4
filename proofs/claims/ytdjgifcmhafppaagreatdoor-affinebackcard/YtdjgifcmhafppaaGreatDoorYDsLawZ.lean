/-
  The given statement on AffineBack, for every input: the call answers true, and each argument reads behind it as it read before; and its card. Its condition: the two tables of unicode/utf8 are laid as the row lists them; the card ties that to the program's text. Beside it: The reader of equations: a number, a coefficient, a variable. The reader of equations: a fraction as a coefficient. The reader of equations: a variable. The reader of equations: a term. The reader of equations: what its parts come to, as relations on tokens; a term. The reader of equations: a side, and the whole. The reader of equations: an equation. What the tokens of a text are like. The program's Equation. Texts of whole numbers: whole.Text, the document's Text. A whole number's text, read again. No walk is here. A term as a text: any factor, any name. The text of any row: the program's Print. The text of one row: what every program answers that is one. What every program answers that is one: package affine. Numbers written in a text: the token that they make, and what it is worth. No program is named here. A text of plain codes, token by token. No program is named here. The texts of AffineBad, read as equations: where the reader stops. No program is named here. The seven texts of AffineTurns: their tokens (places do not matter here). No program is named here. The seven texts of AffineTurns, read as equations. No program is named here. The document's Names, Same and Canonical; the program's Canonical; texts copied. Rows of fractions as they lie in memory: how long they are together. Fractions copied, and held against one another; rows of them. The document's Cleared of a row of fractions. Rows that are multiples of one another have one canonical row. No program is named here. The seven texts of AffineTurns say one row; what Equation answers of each. What Equation answers of the seven texts of AffineTurns: one row. The document's CanonOf of a row of fractions. A row as it is printed: its text by codes, its tokens, and what they say. No program is named here. What the tokens of a printed row say: the row. No program is named here. The law's own question: is no number of the row too long? AffineBack: the names, fractions of whole numbers, and what the printed row comes to. What every program answers that is one: package affine, the walk. AffinePulls, the walk. AffineBack, the walk.
-/
import Derived.Deep.DeepCutAuto
import Derived.Test.YtdjgifcmhafppaaGreatDoorRows
import Derived.Test.YtdjgifcmhafppaaGreatDoorCards
import Derived.Test.YtdjgifcmhafppaaGreatDoorTie
import Derived.ProofKit
import Derived.OpenShut
import Derived.ShutString
import Derived.ChangeOld
import Derived.SizedLaws
import Derived.Lib.SmallJoins
import Derived.Lib.LaidU8
import Derived.Lib.LaidIn
import Derived.Deep.DeepHandedRow
import Derived.SliceStrings
import Derived.JoinedCond
import Derived.Test.YtdjgifcmhafppaaGreatDoorYDsLawZ3
namespace Go.Proofs.YtdjgifcmhafppaaGreatDoor
namespace Lm
open Go Go.RowKit
set_option maxRecDepth 20000 in
set_option maxHeartbeats 2000000 in
theorem acr (w:World) (hT:Tabs w) (q b:Nat) (tv uv:Value) (l:List Tk) (vs:List ByteArray) (i:Nat) (t:Tk) (h:Rea w q b tv uv l vs i) (ht:l[i]? = some t) :
  Calls Tryz.prog 108 #[.pointer (some ⟨q,0,none⟩)] w fun e w'=>∃ v,e=.returned v∧OutW (zOf t.text) 6000 v w'∧Below w.heap.size w w' := by
 have hb0:Below w.heap.size w (w.alloc (.cells #[.bool false,.slice none 0 0] 38)):=hAl _ _
 have K:=hide (aa0 _ q b tv uv l vs i t (h.below hb0) ht)
 have HT:=hide hT
 clear h ht hT
 unfold Tk.av at K
 have hf1:∀ W,(Instr.field 64 (.agg #[.int .i64 t.kind,.string t.text,.int .i64 t.pl.b,.int .i64 t.pl.g,.int .i64 t.pl.l,.int .i64 t.pl.c]) 1).run Tryz.prog W=.ok (.string t.text) W:=fun W=>aph _ _ _ _ _ _ W
 go_enter Tryz.func108,Tryz.ntmps108
 go_wp2_with fail
 refine K.out.mono ?_
 rintro r w1 ⟨rfl,hb⟩
 have HB:=hide (hb0.trans (hb.mono hb0.size))
 have hf:w1.heap[w.heap.size]? = some (.cells #[.bool false,.slice none 0 0] 38 (0,0)):=(hb.block _ (by simp)).trans (heap_alloc_new w _)
 have HF:=hide hf
 clear hb K hb0 hf
 go_wp2_with fail
 refine (aur w1 t.text (HT.out.below HB.out)).mono ?_
 rintro r w2 ⟨v,rfl,⟨x,y,rfl,ho,rfl⟩,hb2⟩
 obtain ⟨ng,ao,cap,rs,rfl,ho'⟩:=id ho
 have HO:=hide ho
 have HB2:=hide (HB.out.trans (hb2.mono HB.out.size))
 have hf:=(hb2.block _ (aaa HF.out)).trans HF.out
 have HF2:=hide hf
 generalize hfz:w.heap.size=f at *
 obtain ⟨hfl,c0,c1,fr0,fr1⟩:f<w2.heap.size∧w2.cell? ⟨f,0,none⟩ = some (.bool false)∧w2.cell? ⟨f,1,none⟩ = some (.slice none 0 0)∧w2.frozen? ⟨f,0,none⟩ = false∧w2.frozen? ⟨f,1,none⟩ = false:=⟨aaa hf,by rw [cell_of_row _ _ _ _ _ (0,0) hf];rfl,by rw [cell_of_row _ _ _ _ _ (0,0) hf];rfl,frozen_of_row _ _ _ _ _ hf,frozen_of_row _ _ _ _ _ hf⟩
 clear ho ho' hb2 HF hf
 go_wp2
 refine bodyPost_ret (v:=.agg #[.bool ng,.slice ao rs.length cap]) (acb (g:=f) rfl rfl (lvw2 (aar (aby HF2.out _ _)))) rfl ⟨_,rfl,HO.out.ru ((acd HF2.out _ _).trans (Ru.of_below (hAl _ _))),?_⟩
 rw [hfz]
 have HBx:=HB2.out
 (repeat' first|with_reducible(first|exact Below.refl _ _|assumption|refine gdrewN ?_ _|refine Below.alloc ?_ ?_ _|refine Below.drew ?_|refine Below.setCell ?_ ?_ _)|go_size)
def sMinus:ByteArray:=⟨#[45]⟩
def sPlus:ByteArray:=⟨#[43]⟩
def sOver:ByteArray:=⟨#[47]⟩
def sTimes:ByteArray:=⟨#[42]⟩
def sEq:ByteArray:=⟨#[61]⟩
def tpm (t:Tk):Bool:=tsg t sMinus || tsg t sPlus
set_option maxRecDepth 20000 in
set_option maxHeartbeats 2000000 in
theorem aet (w:World) (q b:Nat) (tv uv:Value) (l:List Tk) (vs:List ByteArray) (i:Nat) (t:Tk) (h:Rea w q b tv uv l vs i) (ht:l[i]? = some t) (hj:t.kind=3→i+1<l.length) (hl:l.length≤100000) :
  Calls Tryz.prog 75 #[.pointer (some ⟨q,0,none⟩)] w fun e w'=>e=.returned (.tuple #[.bool (tsg t sMinus),.bool (tpm t)])∧Rea w' q b tv uv l vs (if tpm t then i+1 else i)∧Rc q q w w' := by
 have K:=hide (abd w q b tv uv l vs i t h ht sMinus hj hl)
 have HT:=hide ht
 have HJ:=hide (And.intro hj hl)
 clear h ht hj hl
 cases hm:tsg t sMinus with
 | true =>
  have e1:tpm t=true:=by rw [tpm,hm];rfl
  rw [hm] at K
  rw [e1]
  clear e1 hm
  unfold sMinus at K
  go_enter Tryz.func75,Tryz.ntmps75
  go_wp2_with fail
  refine K.out.mono ?_
  rintro r w1 ⟨rfl,h1,h2⟩
  have H1:=hide h1
  have H2:=hide h2
  clear h1 h2 K
  go_wp2
  refine bodyPost_ret (v:=_) (by simp [results,Tryz.results75,go_sem];try rfl) rfl ⟨rfl,H1.out,H2.out⟩
 | false =>
  have e1:tpm t=tsg t sPlus:=by rw [tpm,hm];rfl
  rw [hm] at K
  rw [e1]
  clear e1 hm
  unfold sMinus at K
  obtain ⟨bp,hbp⟩:∃ bp,tsg t sPlus=bp:=⟨_,rfl⟩
  obtain ⟨j,hjj⟩:∃ j,(if bp=true then i+1 else i)=j:=⟨_,rfl⟩
  rw [hbp,hjj]
  have HBP:=hide hbp
  have HJJ:=hide hjj
  clear hbp hjj
  go_enter Tryz.func75,Tryz.ntmps75
  go_wp2_with fail
  refine K.out.mono ?_
  rintro r w1 ⟨rfl,h1,h2⟩
  have K2:=hide (abd w1 q b tv uv l vs i t h1 HT.out sPlus HJ.out.1 HJ.out.2)
  have H2:=hide h2
  clear h1 h2 K
  rw [HBP.out,HJJ.out] at K2
  unfold sPlus at K2
  go_wp2_with fail
  refine K2.out.mono ?_
  rintro r w2 ⟨rfl,h1,h2⟩
  have H1:=hide h1
  have H3:=hide (H2.out.trans h2)
  clear h1 h2 K2
  go_wp2
  refine bodyPost_ret (v:=_) (by simp [results,Tryz.results75,go_sem];try rfl) rfl ⟨rfl,H1.out,H3.out⟩
inductive CoefR (l:List Tk) (i:Nat):Bool→Nat→Rat→Prop
 | plain (t t1:Tk) (h:l[i]? = some t) (h1:l[i+1]? = some t1) (hs:tsg t1 sOver=false):CoefR l i true (i+1) (zOf t.text:Int)
 | over (t t1 t2:Tk) (h:l[i]? = some t) (h1:l[i+1]? = some t1) (hs:tsg t1 sOver=true) (h2:l[i+2]? = some t2) (hz:zOf t2.text≠0):CoefR l i true (i+3) (Rat.divInt (zOf t.text) (zOf t2.text))
 | bad (t t1 t2:Tk) (h:l[i]? = some t) (h1:l[i+1]? = some t1) (hs:tsg t1 sOver=true) (h2:l[i+2]? = some t2) (hz:zOf t2.text=0):CoefR l i false (i+2) 0
structure Wf (l:List Tk):Prop where
 len:l.length≤100000
 stop:∀ (i:Nat) (t:Tk),l[i]? = some t→i+1=l.length→t.kind=0∧t.text=⟨#[]⟩
theorem Wf.more {l:List Tk} (h:Wf l) {i:Nat} {t:Tk} (ht:l[i]? = some t) (hk:t.kind≠0):i+1<l.length:=by
 have:=(List.getElem?_eq_some_iff.1 ht).1
 by_cases he:i+1=l.length
 ·exact absurd (h.stop i t ht he).1 hk
 ·omega
theorem age {w:World} {q b:Nat} {tv uv:Value} {l:List Tk} {vs:List ByteArray} {i:Nat} {u:Value} (h:Rea w q b tv uv l vs i):Ru w (w.setCell ⟨q,1,none⟩ u):=by
 refine Ru.of_one h.blk (by decide) ?_ (by simp [World.setCell]) (fun k _ hn=>heap_setCell_other w ⟨q,1,none⟩ k _ hn)
 obtain ⟨ao,ct,rfl,_⟩:=h.tks.parts
 obtain ⟨ao',ct',rfl,_⟩:=h.vrs
 intro k z
 match k with
 | 0=>simp
 | 1=>simp
 | 2=>simp
 | k+3=>simp
theorem Rea.fill3 {w w3:World} {q b:Nat} {tv uv:Value} {l:List Tk} {vs:List ByteArray} {i j f:Nat} {ng:Bool} {a d:Option Addr} {n c k e:Nat} (H:Rea w q b tv uv l vs i) (HR:Rea w3 q b tv uv l vs j) (HC:Rc q q w w3) (hf:w3.heap[f]? = some (.cells #[.bool ng,.slice a n c,.slice d k e] 40 (0,0))) (hfw:w.heap.size≤f) (u v x:Value):Rea (((w3.setCell ⟨f,0,none⟩ u).setCell ⟨f,1,none⟩ v).setCell ⟨f,2,none⟩ x) q b tv uv l vs j∧Rc q q w (((w3.setCell ⟨f,0,none⟩ u).setCell ⟨f,1,none⟩ v).setCell ⟨f,2,none⟩ x):=by
 have hq:=aaa H.blk
 have ho:∀ k,k≠f→(((w3.setCell ⟨f,0,none⟩ u).setCell ⟨f,1,none⟩ v).setCell ⟨f,2,none⟩ x).heap[k]? = w3.heap[k]? := fun k hn=>by rw [heap_setCell_other _ ⟨f,2,none⟩ k _ hn,heap_setCell_other _ ⟨f,1,none⟩ k _ hn,heap_setCell_other _ ⟨f,0,none⟩ k _ hn]
 have hrc:Rc q q w (((w3.setCell ⟨f,0,none⟩ u).setCell ⟨f,1,none⟩ v).setCell ⟨f,2,none⟩ x):=⟨HC.os,HC.tape,HC.output,by simpa [World.setCell] using HC.size,fun k hk h1 h2=>(ho k (by omega)).trans (HC.other k hk h1 h2),HC.ru.trans (adl hf u v x)⟩
 exact ⟨H.rc hrc.wide ((ho q (by omega)).trans HR.blk) HR.lt,hrc⟩
theorem Tabs.rcs {w w' : World} {q b:Nat} (hT:Tabs w) (hr:Rc q b w w') (hq:∀ z,w.cell? ⟨q,0,none⟩≠some (.int .u8 z)) (hb:∀ z,w.cell? ⟨b,0,none⟩≠some (.int .u8 z)):Tabs w' := by
 obtain ⟨h1,h2⟩:=hT
 have keep:∀ g c z,(∃ z0,w.cell? ⟨g,0,none⟩ = some (.int .u8 z0))→w.cell? ⟨g,c,none⟩ = some (.int .u8 z)→w'.cell? ⟨g,c,none⟩ = some (.int .u8 z):=by
  rintro g c z ⟨z0,e0⟩ e
  have n1:g≠q:=by rintro rfl;exact hq _ e0
  have n2:g≠b:=by rintro rfl;exact hb _ e0
  rw [World.cell?_of_block (w:=w) (hr.other g (aao e) n1 n2)]
  exact e
 refine ⟨fun c hc=>keep _ _ _ ⟨_,h1 0 (by decide)⟩ (h1 c hc),fun i hi=>⟨keep _ _ _ ⟨_,(h2 0 (by decide)).1⟩ (h2 i hi).1,keep _ _ _ ⟨_,(h2 0 (by decide)).1⟩ (h2 i hi).2⟩⟩
theorem Rea.no8 {w:World} {q b:Nat} {tv uv:Value} {l:List Tk} {vs:List ByteArray} {i:Nat} (h:Rea w q b tv uv l vs i) (z:Int):w.cell? ⟨q,0,none⟩≠some (.int .u8 z):=by
 rw [cell_of_row _ _ _ _ _ (0,0) h.blk]
 obtain ⟨ao,ct,rfl,_⟩:=h.tks.parts
 simp
theorem Tabs.rc {w w' : World} {q b:Nat} {tv uv:Value} {l:List Tk} {vs:List ByteArray} {i:Nat} (hT:Tabs w) (h:Rea w q b tv uv l vs i) (hr:Rc q q w w'):Tabs w' := hT.rcs hr h.no8 h.no8
set_option maxRecDepth 20000 in
set_option maxHeartbeats 4000000 in
theorem amp (w:World) (hT:Tabs w) (q b:Nat) (tv uv:Value) (l:List Tk) (hW:Wf l) (vs:List ByteArray) (i:Nat) (h:Rea w q b tv uv l vs i) (t t1:Tk) (ht:l[i]? = some t) (ht1:l[i+1]? = some t1) (hs:tsg t1 sOver=false) (N:Nat) (hz:Fit (zOf t.text:Int) N) :
  Calls Tryz.prog 97 #[.pointer (some ⟨q,0,none⟩)] w fun e w'=>∃ v,e=.returned (.tuple #[v,.bool true])∧OutQr (zOf t.text:Int) N v w'∧Rea w' q b tv uv l vs (i+1)∧Rc q q w w' := by
 have hj:i+1<l.length:=(List.getElem?_eq_some_iff.1 ht1).1
 have HJ:=hide hj
 have hi:i≤100000:=by have:=hW.len;omega
 have hq:=aaa h.blk
 have hb0:Below w.heap.size w (w.alloc (.cells #[.bool false,.slice none 0 0,.slice none 0 0] 40)):=hAl _ _
 have K:=hide (acr _ (hT.below hb0) q b tv uv l vs i t (h.below hb0) ht)
 have H:=hide h
 have HT1:=hide ht1
 have HS:=hide hs
 have HW:=hide hW
 have HZ:=hide hz
 clear h ht ht1 hs hT hW hj hz
 go_enter Tryz.func97,Tryz.ntmps97
 go_wp2_with fail
 refine K.out.mono ?_
 rintro r w1 ⟨v,rfl,ho,hb1⟩
 obtain ⟨ng,ao,cap,rs,rfl,_⟩:=id ho
 have HO:=hide ho
 have HB:=hide (hb0.trans (hb1.mono hb0.size))
 have hf:w1.heap[w.heap.size]? = some (.cells #[.bool false,.slice none 0 0,.slice none 0 0] 40 (0,0)):=(hb1.block _ (by simp)).trans (heap_alloc_new w _)
 have HF:=hide hf
 have hqb:=(HB.out.block q hq).trans H.out.blk
 have k1:w1.cell? ⟨q,1,none⟩ = some (.int .i64 i):=by rw [cell_of_row _ _ _ _ _ (0,0) hqb];rfl
 have kf:w1.frozen? ⟨q,1,none⟩ = false:=frozen_of_row w1 q 1 _ _ hqb
 have hq1:q<w1.heap.size:=aaa hqb
 clear ho hb1 K hb0 hf hqb
 go_wp2_with fail
 obtain ⟨n1,n2⟩:=H.out.next (.of_below HB.out) (HB.out.block q hq) HJ.out
 have hmm:(w1.setCell ⟨q,1,none⟩ (.int .i64 ((i:Int)+1))).heap.size=w1.heap.size:=by simp [World.setCell]
 have hf2:((w1.setCell ⟨q,1,none⟩ (.int .i64 ((i:Int)+1))).alloc (.cells #[.bool ng,.slice ao rs.length cap] 38)).heap[w.heap.size]? = some (.cells #[.bool false,.slice none 0 0,.slice none 0 0] 40 (0,0)):=aar ((heap_setCell_other w1 ⟨q,1,none⟩ _ _ (by show w.heap.size≠q;omega)).trans HF.out)
 have hm2:((w1.setCell ⟨q,1,none⟩ (.int .i64 ((i:Int)+1))).alloc (.cells #[.bool ng,.slice ao rs.length cap] 38)).heap[w1.heap.size]? = some (.cells #[.bool ng,.slice ao rs.length cap] 38 (0,0)):=by rw [←hmm];exact heap_alloc_new _ _
 have hu2:Ru w1 ((w1.setCell ⟨q,1,none⟩ (.int .i64 ((i:Int)+1))).alloc (.cells #[.bool ng,.slice ao rs.length cap] 38)):=(age (H.out.below HB.out)).trans (Ru.of_below (hAl _ _))
 have K:=abd _ q b tv uv l vs (i+1) t1 (n1.below (hAl _ (.cells #[.bool ng,.slice ao rs.length cap] 38))) HT1.out sOver (fun h3=>HW.out.more HT1.out (by rw [h3];decide)) HW.out.len
 rw [HS.out] at K
 refine K.mono ?_
 rintro r w2 ⟨rfl,hR2,hC2⟩
 have HR2:=hide hR2
 have HC2:=hide ((n2.trans (.of_below (hAl _ _))).trans hC2)
 have HO2:=hide (HO.out.ru (hu2.trans hC2.ru))
 have hf3:=(hC2.other _ (aaa hf2) (by omega) (by omega)).trans hf2
 have hm3:=(hC2.other _ (aaa hm2) (by omega) (by omega)).trans hm2
 have HF3:=hide hf3
 obtain ⟨_,m0,m1,_,_⟩:=aah hm3
 have HM3:=hide hm3
 clear hR2 hC2 hf2 hm2 hu2 K n1 n2 hmm hm3 hf3 k1 kf
 go_wp2_with fail
 refine (ac9 w2 _ _ _ HO2.out.is (by omega)).mono ?_
 rintro r w3 ⟨v,rfl,ho3,hb3⟩
 replace ho3:=ho3.fit HZ.out
 obtain ⟨ng1,ao1,cap1,rs1,bo1,dap1,ss1,rfl,_⟩:=id ho3
 have HO3:=hide ho3
 have hf4:=(hb3.block _ (aaa HF3.out)).trans HF3.out
 have HF4:=hide hf4
 obtain ⟨hfl,c0,c1,c2,fr0,fr1,fr2⟩:=aac hf4
 have HR4:=hide (HR2.out.below hb3)
 have HC4:=hide (HC2.out.trans (.of_below hb3))
 clear ho3 hb3 hf4
 go_wp2
 obtain ⟨x1,x2⟩:=H.out.fill3 HR4.out HC4.out HF4.out (Nat.le_refl _) (.bool ng1) (.slice ao1 rs1.length cap1) (.slice bo1 ss1.length dap1)
 exact bodyPost_ret (v:=.tuple #[.agg #[.bool ng1,.slice ao1 rs1.length cap1,.slice bo1 ss1.length dap1],.bool true]) (ad1 (g:=w.heap.size) rfl rfl (lvr3 (aeo HF4.out _ _ _)) rfl) rfl ⟨_,rfl,HO3.out.ru (adl HF4.out _ _ _),x1,x2⟩
theorem agw:Has Tryz.prog 108:=by unfold Has;kernel_rfl
theorem awt (w:World) (x y:Value) (z u:Int) (L M:Nat) (hx:IsW z L x w) (hy:IsW u M y w) (hL:L+M≤100000) (hu:u≠0) (N:Nat) (hf:Fit (Rat.divInt z u) N) :
  Calls Tryz.prog 109 #[x,y] w fun e w'=>Below w.heap.size w w'∧∃ v,e=.returned (.tuple #[v,.int .i64 0])∧OutQr (Rat.divInt z u) N v w' := by
 refine (au7 w x y z u L M hx hy hL).mono ?_
 rintro e w' ⟨hb,⟨_,v,rfl,ho⟩ | ⟨h0,_⟩⟩
 ·exact ⟨hb,v,rfl,ho.fit hf⟩
 ·exact absurd h0 hu
theorem ayr (w:World) (x y:Value) (z u:Int) (L M:Nat) (hx:IsW z L x w) (hy:IsW u M y w) (hL:L+M≤100000) (hu:u=0) :
  Calls Tryz.prog 109 #[x,y] w fun e w'=>Below w.heap.size w w'∧e=.returned (.tuple #[.agg #[.bool false,.slice none 0 0,.slice none 0 0],.int .i64 20]):=by
 refine (au7 w x y z u L M hx hy hL).mono ?_
 rintro e w' ⟨hb,⟨h0,_⟩ | ⟨_,rfl⟩⟩
 ·exact absurd hu h0
 ·exact ⟨hb,rfl⟩
theorem awu:zOf ⟨#[]⟩ = 0:=by
 have h1:msplit ⟨#[]⟩ = (false,⟨#[]⟩):=by kernel_rfl
 have h2:¬ Dm.Fine ⟨#[]⟩:=by
  rintro ⟨h,_⟩
  exact absurd h (by decide)
 rw [zOf,h1,xOf,if_neg h2]
 rfl
def OutQr0 (v:Value):Prop:=v=.agg #[.bool false,.slice none 0 0,.slice none 0 0]
set_option maxRecDepth 20000 in
set_option maxHeartbeats 4000000 in
theorem apn (w:World) (hT:Tabs w) (q b:Nat) (tv uv:Value) (l:List Tk) (hW:Wf l) (vs:List ByteArray) (i:Nat) (h:Rea w q b tv uv l vs i) (t t1 t2:Tk) (ht:l[i]? = some t) (ht1:l[i+1]? = some t1) (hs:tsg t1 sOver=true) (ht2:l[i+2]? = some t2) (hnz:zOf t2.text≠0) (N:Nat) (hz:Fit (Rat.divInt (zOf t.text) (zOf t2.text)) N) :
  Calls Tryz.prog 97 #[.pointer (some ⟨q,0,none⟩)] w fun e w'=>∃ v,e=.returned (.tuple #[v,.bool true])∧OutQr (Rat.divInt (zOf t.text) (zOf t2.text)) N v w'∧Rea w' q b tv uv l vs (i+3)∧Rc q q w w' := by
 have HT2:=hide ht2
 have HTT:=hide hT
 have HNZ:=hide hnz
 have hj:i+1<l.length:=(List.getElem?_eq_some_iff.1 ht1).1
 have HJ:=hide hj
 have hj3:i+2+1<l.length:=by
  have h1:=(List.getElem?_eq_some_iff.1 ht2).1
  by_cases he:i+2+1=l.length
  ·have h2:=(hW.stop _ _ ht2 he).2
   rw [h2] at hnz
   exact absurd awu hnz
  ·omega
 have HJ3:=hide hj3
 clear hj3
 have hi:i≤100000:=by have:=hW.len;omega
 have hq:=aaa h.blk
 have hb0:Below w.heap.size w (w.alloc (.cells #[.bool false,.slice none 0 0,.slice none 0 0] 40)):=hAl _ _
 have K:=hide (acr _ (hT.below hb0) q b tv uv l vs i t (h.below hb0) ht)
 have H:=hide h
 have HT1:=hide ht1
 have HS:=hide hs
 have HW:=hide hW
 have HZ:=hide hz
 clear h ht ht1 ht2 hs hT hW hj hz hnz
 go_enter Tryz.func97,Tryz.ntmps97
 go_wp2_with fail
 refine K.out.mono ?_
 rintro r w1 ⟨v,rfl,ho,hb1⟩
 obtain ⟨ng,ao,cap,rs,rfl,_⟩:=id ho
 have HO:=hide ho
 have HB:=hide (hb0.trans (hb1.mono hb0.size))
 have hf:w1.heap[w.heap.size]? = some (.cells #[.bool false,.slice none 0 0,.slice none 0 0] 40 (0,0)):=(hb1.block _ (by simp)).trans (heap_alloc_new w _)
 have HF:=hide hf
 have hqb:=(HB.out.block q hq).trans H.out.blk
 have k1:w1.cell? ⟨q,1,none⟩ = some (.int .i64 i):=by rw [cell_of_row _ _ _ _ _ (0,0) hqb];rfl
 have kf:w1.frozen? ⟨q,1,none⟩ = false:=frozen_of_row w1 q 1 _ _ hqb
 have hq1:q<w1.heap.size:=aaa hqb
 clear ho hb1 K hb0 hf hqb
 go_wp2_with fail
 obtain ⟨n1,n2⟩:=H.out.next (.of_below HB.out) (HB.out.block q hq) HJ.out
 have hmm:(w1.setCell ⟨q,1,none⟩ (.int .i64 ((i:Int)+1))).heap.size=w1.heap.size:=by simp [World.setCell]
 have hf2:((w1.setCell ⟨q,1,none⟩ (.int .i64 ((i:Int)+1))).alloc (.cells #[.bool ng,.slice ao rs.length cap] 38)).heap[w.heap.size]? = some (.cells #[.bool false,.slice none 0 0,.slice none 0 0] 40 (0,0)):=aar ((heap_setCell_other w1 ⟨q,1,none⟩ _ _ (by show w.heap.size≠q;omega)).trans HF.out)
 have hm2:((w1.setCell ⟨q,1,none⟩ (.int .i64 ((i:Int)+1))).alloc (.cells #[.bool ng,.slice ao rs.length cap] 38)).heap[w1.heap.size]? = some (.cells #[.bool ng,.slice ao rs.length cap] 38 (0,0)):=by rw [←hmm];exact heap_alloc_new _ _
 have hu2:Ru w1 ((w1.setCell ⟨q,1,none⟩ (.int .i64 ((i:Int)+1))).alloc (.cells #[.bool ng,.slice ao rs.length cap] 38)):=(age (H.out.below HB.out)).trans (Ru.of_below (hAl _ _))
 have K:=abd _ q b tv uv l vs (i+1) t1 (n1.below (hAl _ (.cells #[.bool ng,.slice ao rs.length cap] 38))) HT1.out sOver (fun h3=>HW.out.more HT1.out (by rw [h3];decide)) HW.out.len
 rw [HS.out] at K
 refine K.mono ?_
 rintro r w2 ⟨rfl,hR2,hC2⟩
 have HR2:=hide hR2
 have HC2:=hide ((n2.trans (.of_below (hAl _ _))).trans hC2)
 have HO2:=hide (HO.out.ru (hu2.trans hC2.ru))
 have hf3:=(hC2.other _ (aaa hf2) (by omega) (by omega)).trans hf2
 have hm3:=(hC2.other _ (aaa hm2) (by omega) (by omega)).trans hm2
 have HF3:=hide hf3
 obtain ⟨_,m0,m1,_,_⟩:=aah hm3
 have HM3:=hide hm3
 clear hR2 hC2 hf2 hm2 hu2 K n1 n2 hmm hm3 hf3 k1 kf
 rw [if_pos rfl] at HR2
 have HTw:=hide (HTT.out.rc H.out HC2.out)
 go_wp2_with fail
 go_cut [5,6] (fun pv ev wx=>∃ p ng4 ao4 m4 c4 bo4 k4 d4,pv=.pointer (some ⟨p,0,none⟩)∧ev=.int .i64 0∧wx.heap[p]? = some (.cells #[.bool ng4,.slice ao4 m4 c4,.slice bo4 k4 d4] 40 (0,0))∧OutQr (Rat.divInt (zOf t.text) (zOf t2.text)) N (.agg #[.bool ng4,.slice ao4 m4 c4,.slice bo4 k4 d4]) wx∧Below w2.heap.size w2 wx∧w2.heap.size≤p)
 case first =>
  go_region_law (first | (refine aau rfl 108 #[.tmp 23] #[57] rfl agw #[.pointer (some ⟨q,0,none⟩)] (by simp [Act.eval,Act.put]) (acr _ (HTw.out.below (show Below w2.heap.size w2 _ by (repeat' first|with_reducible(first|exact Below.refl _ _|assumption|refine gdrewN ?_ _|refine Below.alloc ?_ ?_ _|refine Below.drew ?_|refine Below.setCell ?_ ?_ _)|go_size))) q b tv uv l vs (i+2) t2 (HR2.out.below (show Below w2.heap.size w2 _ by (repeat' first|with_reducible(first|exact Below.refl _ _|assumption|refine gdrewN ?_ _|refine Below.alloc ?_ ?_ _|refine Below.drew ?_|refine Below.setCell ?_ ?_ _)|go_size))) HT2.out) ?_;rintro e w3 ⟨v,rfl,ho3,hb3⟩;obtain ⟨ng3,ao3,cap3,rs3,rfl,_⟩:=id ho3;have HO3:=hide ho3;have hb23:Below w2.heap.size w2 w3:=(show Below w2.heap.size w2 _ by (repeat' first|with_reducible(first|exact Below.refl _ _|assumption|refine gdrewN ?_ _|refine Below.alloc ?_ ?_ _|refine Below.drew ?_|refine Below.setCell ?_ ?_ _)|go_size)).trans (hb3.mono (by simp));have HB23:=hide hb23;have hm3:=(hb23.block _ (aaa HM3.out)).trans HM3.out;have hm3:=aah hm3;obtain ⟨_,m03,m13,_,_⟩:=hm3;first | (have hz3:w3.heap[w2.heap.size]? = some (.cells #[.bool false,.slice none 0 0,.slice none 0 0] 40 (0,0)):=(hb3.block _ (by simp)).trans (heap_alloc_new w2 _);have hz3' := aac hz3;have HZ3:=hide hz3;clear hz3;obtain ⟨_,z30,z31,z32,y30,y31,y32⟩:=hz3') | skip;clear ho3 hb3 hb23;refine ⟨_,rfl,?_⟩) | (refine aau rfl 109 #[.tmp 22,.tmp 24] #[38,38] rfl am5 #[.agg #[.bool ng,.slice ao rs.length cap],.agg #[.bool ng3,.slice ao3 rs3.length cap3]] (by simp [Act.eval]) (awt _ _ _ _ _ 6000 6000 (HO2.out.ru (Ru.of_below (HB23.out.trans ((show Below w3.heap.size w3 _ by (repeat' first|with_reducible(first|exact Below.refl _ _|assumption|refine gdrewN ?_ _|refine Below.alloc ?_ ?_ _|refine Below.drew ?_|refine Below.setCell ?_ ?_ _)|go_size)).mono HB23.out.size)))).is (HO3.out.ru (Ru.of_below (show Below w3.heap.size w3 _ by (repeat' first|with_reducible(first|exact Below.refl _ _|assumption|refine gdrewN ?_ _|refine Below.alloc ?_ ?_ _|refine Below.drew ?_|refine Below.setCell ?_ ?_ _)|go_size)))).is (by omega) HNZ.out N HZ.out) ?_;rintro e w4 ⟨hb4,v,rfl,ho4⟩;obtain ⟨ng4,ao4,cap4,rs4,bo4,dap4,ss4,rfl,_⟩:=id ho4;have HO4:=hide ho4;clear ho4;have hb24:Below w2.heap.size w2 w4:=(show Below w2.heap.size w2 _ from (HB23.out.trans ((show Below w3.heap.size w3 _ by (repeat' first|with_reducible(first|exact Below.refl _ _|assumption|refine gdrewN ?_ _|refine Below.alloc ?_ ?_ _|refine Below.drew ?_|refine Below.setCell ?_ ?_ _)|go_size)).mono HB23.out.size))).trans (hb4.mono (by first | exact HB23.out.size | exact Nat.le_trans HB23.out.size (Nat.le_of_lt (by simp))));have HB24:=hide hb24;have hq4:=hb24.block q (aaa HR2.out.blk);have hq4:=hq4.trans HR2.out.blk;have q41:w4.cell? ⟨q,1,none⟩ = some (.int .i64 ((i+2:Nat):Int)):=(by rw [cell_of_row _ _ _ _ _ (0,0) hq4];rfl);have q4f:w4.frozen? ⟨q,1,none⟩ = false:=frozen_of_row w4 q 1 _ _ hq4;have hf4:=(hb24.block _ (aaa HF3.out)).trans HF3.out;have HF4:=hide hf4;have hf4:=aac hf4;obtain ⟨hfl,c0,c1,c2,fr0,fr1,fr2⟩:=hf4;first | (have hz4:=(hb4.block _ (aaa HZ3.out)).trans HZ3.out;have hz4' := aac hz4;have HZ4:=hide hz4;clear hz4;obtain ⟨_,z40,z41,z42,y40,y41,y42⟩:=hz4') | (have hz4:w4.heap[w3.heap.size]? = some (.cells #[.bool false,.slice none 0 0,.slice none 0 0] 40 (0,0)):=(hb4.block _ (by simp)).trans (heap_alloc_new w3 _);have hz4' := aac hz4;have HZ4:=hide hz4;clear hz4;obtain ⟨_,z40,z41,z42,y40,y41,y42⟩:=hz4') | skip;clear hb4 hb24 hq4;refine ⟨_,rfl,?_⟩))
  all_goals (
   go_wp2_with fail
   go_meet
   have hb24:=HB24.out
   have hb23:=HB23.out
   first
   | exact ⟨_,_,_,_,_,_,_,_,rfl,rfl,aeo HZ4.out _ _ _,HO4.out.ru (adl HZ4.out _ _ _),((hb24.setCell (by first | exact Nat.le_refl _ | exact hb23.size) _).setCell (by first | exact Nat.le_refl _ | exact hb23.size) _).setCell (by first | exact Nat.le_refl _ | exact hb23.size) _,by first | exact Nat.le_refl _ | exact hb23.size⟩
   | exact ⟨_,_,_,_,_,_,_,_,rfl,rfl,heap_alloc_new w4 _,HO4.out.ru (Ru.of_below (hAl _ _)),hb24.alloc hb24.size _,hb24.size⟩)
 case rest =>
  obtain ⟨p,ng4,ao4,m4,c4,bo4,k4,d4,rfl,rfl,hp,ho4,hb,hpl⟩:=hcut
  have HO4:=hide ho4
  have hq2:=aaa HR2.out.blk
  have hq4:=(hb.block q hq2).trans HR2.out.blk
  have q41:wc.cell? ⟨q,1,none⟩ = some (.int .i64 ((i+2:Nat):Int)):=by rw [cell_of_row _ _ _ _ _ (0,0) hq4];rfl
  rw [show ((i+2:Nat):Int)=(i:Int)+2 from by omega] at q41
  have q4f:wc.frozen? ⟨q,1,none⟩ = false:=frozen_of_row wc q 1 _ _ hq4
  have hf4:=(hb.block _ (aaa HF3.out)).trans HF3.out
  have HF4:=hide hf4
  obtain ⟨hfl,c0,c1,c2,fr0,fr1,fr2⟩:=aac hf4
  obtain ⟨hpl2,p0,p1,p2,_,_,_⟩:=aac hp
  have HB4:=hide hb
  have hpq:p≠q:=by omega
  have hfp:=aaa HF3.out
  have hpf:p≠w.heap.size:=by omega
  clear ho4 hb hq4 hf4 hp m0 m1
  go_wp2
  obtain ⟨n1,n2⟩:=HR2.out.next (.of_below HB4.out) (HB4.out.block q hq2) HJ3.out
  rw [show ((i+2:Nat):Int)=(i:Int)+2 from by omega] at n1 n2
  have hfq:(wc.setCell ⟨q,1,none⟩ (.int .i64 ((i:Int)+2+1))).heap[w.heap.size]? = some (.cells #[.bool false,.slice none 0 0,.slice none 0 0] 40 (0,0)):=(heap_setCell_other wc ⟨q,1,none⟩ _ _ (by show w.heap.size≠q;omega)).trans HF4.out
  obtain ⟨x1,x2⟩:=H.out.fill3 n1 (HC2.out.trans n2) hfq (Nat.le_refl _) (.bool ng4) (.slice ao4 m4 c4) (.slice bo4 k4 d4)
  exact bodyPost_ret (v:=.tuple #[.agg #[.bool ng4,.slice ao4 m4 c4,.slice bo4 k4 d4],.bool true]) (ad1 (g:=w.heap.size) rfl rfl (lvr3 (aeo hfq _ _ _)) rfl) rfl ⟨_,rfl,HO4.out.ru ((age (HR2.out.below HB4.out)).trans (adl hfq _ _ _)),x1,x2⟩
set_option maxRecDepth 20000 in
set_option maxHeartbeats 4000000 in
theorem ar9 (w:World) (hT:Tabs w) (q b:Nat) (tv uv:Value) (l:List Tk) (hW:Wf l) (vs:List ByteArray) (i:Nat) (h:Rea w q b tv uv l vs i) (t t1 t2:Tk) (ht:l[i]? = some t) (ht1:l[i+1]? = some t1) (hs:tsg t1 sOver=true) (ht2:l[i+2]? = some t2) (hnz:zOf t2.text=0) :
  Calls Tryz.prog 97 #[.pointer (some ⟨q,0,none⟩)] w fun e w'=>∃ v,e=.returned (.tuple #[v,.bool false])∧OutQr0 v∧Rea w' q b tv uv l vs (i+2)∧Rc q q w w' := by
 have HT2:=hide ht2
 have HTT:=hide hT
 have HNZ:=hide hnz
 have hj:i+1<l.length:=(List.getElem?_eq_some_iff.1 ht1).1
 have HJ:=hide hj
 have hi:i≤100000:=by have:=hW.len;omega
 have hq:=aaa h.blk
 have hb0:Below w.heap.size w (w.alloc (.cells #[.bool false,.slice none 0 0,.slice none 0 0] 40)):=hAl _ _
 have K:=hide (acr _ (hT.below hb0) q b tv uv l vs i t (h.below hb0) ht)
 have H:=hide h
 have HT1:=hide ht1
 have HS:=hide hs
 have HW:=hide hW
 clear h ht ht1 ht2 hs hT hW hj hnz
 go_enter Tryz.func97,Tryz.ntmps97
 go_wp2_with fail
 refine K.out.mono ?_
 rintro r w1 ⟨v,rfl,ho,hb1⟩
 obtain ⟨ng,ao,cap,rs,rfl,_⟩:=id ho
 have HO:=hide ho
 have HB:=hide (hb0.trans (hb1.mono hb0.size))
 have hf:w1.heap[w.heap.size]? = some (.cells #[.bool false,.slice none 0 0,.slice none 0 0] 40 (0,0)):=(hb1.block _ (by simp)).trans (heap_alloc_new w _)
 have HF:=hide hf
 have hqb:=(HB.out.block q hq).trans H.out.blk
 have k1:w1.cell? ⟨q,1,none⟩ = some (.int .i64 i):=by rw [cell_of_row _ _ _ _ _ (0,0) hqb];rfl
 have kf:w1.frozen? ⟨q,1,none⟩ = false:=frozen_of_row w1 q 1 _ _ hqb
 have hq1:q<w1.heap.size:=aaa hqb
 clear ho hb1 K hb0 hf hqb
 go_wp2_with fail
 obtain ⟨n1,n2⟩:=H.out.next (.of_below HB.out) (HB.out.block q hq) HJ.out
 have hmm:(w1.setCell ⟨q,1,none⟩ (.int .i64 ((i:Int)+1))).heap.size=w1.heap.size:=by simp [World.setCell]
 have hf2:((w1.setCell ⟨q,1,none⟩ (.int .i64 ((i:Int)+1))).alloc (.cells #[.bool ng,.slice ao rs.length cap] 38)).heap[w.heap.size]? = some (.cells #[.bool false,.slice none 0 0,.slice none 0 0] 40 (0,0)):=aar ((heap_setCell_other w1 ⟨q,1,none⟩ _ _ (by show w.heap.size≠q;omega)).trans HF.out)
 have hm2:((w1.setCell ⟨q,1,none⟩ (.int .i64 ((i:Int)+1))).alloc (.cells #[.bool ng,.slice ao rs.length cap] 38)).heap[w1.heap.size]? = some (.cells #[.bool ng,.slice ao rs.length cap] 38 (0,0)):=by rw [←hmm];exact heap_alloc_new _ _
 have hu2:Ru w1 ((w1.setCell ⟨q,1,none⟩ (.int .i64 ((i:Int)+1))).alloc (.cells #[.bool ng,.slice ao rs.length cap] 38)):=(age (H.out.below HB.out)).trans (Ru.of_below (hAl _ _))
 have K:=abd _ q b tv uv l vs (i+1) t1 (n1.below (hAl _ (.cells #[.bool ng,.slice ao rs.length cap] 38))) HT1.out sOver (fun h3=>HW.out.more HT1.out (by rw [h3];decide)) HW.out.len
 rw [HS.out] at K
 refine K.mono ?_
 rintro r w2 ⟨rfl,hR2,hC2⟩
 have HR2:=hide hR2
 have HC2:=hide ((n2.trans (.of_below (hAl _ _))).trans hC2)
 have HO2:=hide (HO.out.ru (hu2.trans hC2.ru))
 have hf3:=(hC2.other _ (aaa hf2) (by omega) (by omega)).trans hf2
 have hm3:=(hC2.other _ (aaa hm2) (by omega) (by omega)).trans hm2
 have HF3:=hide hf3
 obtain ⟨_,m0,m1,_,_⟩:=aah hm3
 have HM3:=hide hm3
 clear hR2 hC2 hf2 hm2 hu2 K n1 n2 hmm hm3 hf3 k1 kf
 rw [if_pos rfl] at HR2
 have HTw:=hide (HTT.out.rc H.out HC2.out)
 go_wp2_with fail
 go_cut [6] (fun ev wx=>ev=.int .i64 20∧Below w2.heap.size w2 wx)
 case first =>
  go_region_law (first | (refine aau rfl 108 #[.tmp 23] #[57] rfl agw #[.pointer (some ⟨q,0,none⟩)] (by simp [Act.eval,Act.put]) (acr _ (HTw.out.below (show Below w2.heap.size w2 _ by (repeat' first|with_reducible(first|exact Below.refl _ _|assumption|refine gdrewN ?_ _|refine Below.alloc ?_ ?_ _|refine Below.drew ?_|refine Below.setCell ?_ ?_ _)|go_size))) q b tv uv l vs (i+2) t2 (HR2.out.below (show Below w2.heap.size w2 _ by (repeat' first|with_reducible(first|exact Below.refl _ _|assumption|refine gdrewN ?_ _|refine Below.alloc ?_ ?_ _|refine Below.drew ?_|refine Below.setCell ?_ ?_ _)|go_size))) HT2.out) ?_;rintro e w3 ⟨v,rfl,ho3,hb3⟩;obtain ⟨ng3,ao3,cap3,rs3,rfl,_⟩:=id ho3;have HO3:=hide ho3;have hb23:Below w2.heap.size w2 w3:=(show Below w2.heap.size w2 _ by (repeat' first|with_reducible(first|exact Below.refl _ _|assumption|refine gdrewN ?_ _|refine Below.alloc ?_ ?_ _|refine Below.drew ?_|refine Below.setCell ?_ ?_ _)|go_size)).trans (hb3.mono (by simp));have HB23:=hide hb23;have hm3:=(hb23.block _ (aaa HM3.out)).trans HM3.out;have hm3:=aah hm3;obtain ⟨_,m03,m13,_,_⟩:=hm3;first | (have hz3:w3.heap[w2.heap.size]? = some (.cells #[.bool false,.slice none 0 0,.slice none 0 0] 40 (0,0)):=(hb3.block _ (by simp)).trans (heap_alloc_new w2 _);have hz3' := aac hz3;have HZ3:=hide hz3;clear hz3;obtain ⟨_,z30,z31,z32,y30,y31,y32⟩:=hz3') | skip;clear ho3 hb3 hb23;refine ⟨_,rfl,?_⟩) | (refine aau rfl 109 #[.tmp 22,.tmp 24] #[38,38] rfl am5 #[.agg #[.bool ng,.slice ao rs.length cap],.agg #[.bool ng3,.slice ao3 rs3.length cap3]] (by simp [Act.eval]) (ayr _ _ _ _ _ 6000 6000 (HO2.out.ru (Ru.of_below (HB23.out.trans ((show Below w3.heap.size w3 _ by (repeat' first|with_reducible(first|exact Below.refl _ _|assumption|refine gdrewN ?_ _|refine Below.alloc ?_ ?_ _|refine Below.drew ?_|refine Below.setCell ?_ ?_ _)|go_size)).mono HB23.out.size)))).is (HO3.out.ru (Ru.of_below (show Below w3.heap.size w3 _ by (repeat' first|with_reducible(first|exact Below.refl _ _|assumption|refine gdrewN ?_ _|refine Below.alloc ?_ ?_ _|refine Below.drew ?_|refine Below.setCell ?_ ?_ _)|go_size)))).is (by omega) HNZ.out) ?_;rintro e w4 ⟨hb4,rfl⟩;have hb24:Below w2.heap.size w2 w4:=(show Below w2.heap.size w2 _ from (HB23.out.trans ((show Below w3.heap.size w3 _ by (repeat' first|with_reducible(first|exact Below.refl _ _|assumption|refine gdrewN ?_ _|refine Below.alloc ?_ ?_ _|refine Below.drew ?_|refine Below.setCell ?_ ?_ _)|go_size)).mono HB23.out.size))).trans (hb4.mono (by first | exact HB23.out.size | exact Nat.le_trans HB23.out.size (Nat.le_of_lt (by simp))));have HB24:=hide hb24;have hq4:=hb24.block q (aaa HR2.out.blk);have hq4:=hq4.trans HR2.out.blk;have q41:w4.cell? ⟨q,1,none⟩ = some (.int .i64 ((i+2:Nat):Int)):=(by rw [cell_of_row _ _ _ _ _ (0,0) hq4];rfl);have q4f:w4.frozen? ⟨q,1,none⟩ = false:=frozen_of_row w4 q 1 _ _ hq4;have hf4:=(hb24.block _ (aaa HF3.out)).trans HF3.out;have HF4:=hide hf4;have hf4:=aac hf4;obtain ⟨hfl,c0,c1,c2,fr0,fr1,fr2⟩:=hf4;first | (have hz4:=(hb4.block _ (aaa HZ3.out)).trans HZ3.out;have hz4' := aac hz4;have HZ4:=hide hz4;clear hz4;obtain ⟨_,z40,z41,z42,y40,y41,y42⟩:=hz4') | (have hz4:w4.heap[w3.heap.size]? = some (.cells #[.bool false,.slice none 0 0,.slice none 0 0] 40 (0,0)):=(hb4.block _ (by simp)).trans (heap_alloc_new w3 _);have hz4' := aac hz4;have HZ4:=hide hz4;clear hz4;obtain ⟨_,z40,z41,z42,y40,y41,y42⟩:=hz4') | skip;clear hb4 hb24 hq4;refine ⟨_,rfl,?_⟩))
  all_goals (
   go_wp2_with fail
   go_meet
   have hb24:=HB24.out
   have hb23:=HB23.out
   first
   | exact ⟨rfl,((hb24.setCell (by first | exact Nat.le_refl _ | exact hb23.size) _).setCell (by first | exact Nat.le_refl _ | exact hb23.size) _).setCell (by first | exact Nat.le_refl _ | exact hb23.size) _⟩
   | exact ⟨rfl,hb24.alloc hb24.size _⟩)
 case rest =>
  obtain ⟨rfl,hb⟩:=hcut
  have hf4:=(hb.block _ (aaa HF3.out)).trans HF3.out
  have HF4:=hide hf4
  obtain ⟨hfl,c0,c1,c2,fr0,fr1,fr2⟩:=aac hf4
  have HB4:=hide hb
  clear hb hf4 m0 m1
  go_wp2
  obtain ⟨x1,x2⟩:=H.out.fill3 (HR2.out.below HB4.out) (HC2.out.trans (.of_below HB4.out)) HF4.out (Nat.le_refl _) (.bool false) (.slice none 0 0) (.slice none 0 0)
  exact bodyPost_ret (v:=.tuple #[.agg #[.bool false,.slice none 0 0,.slice none 0 0],.bool false]) (ad1 (g:=w.heap.size) rfl rfl (lvr3 (aeo HF4.out _ _ _)) rfl) rfl ⟨_,rfl,rfl,x1,x2⟩
theorem aid:Has Tryz.prog 28:=by unfold Has;kernel_rfl
theorem aie:Has Tryz.prog 67:=by unfold Has;kernel_rfl
set_option maxRecDepth 20000 in
set_option maxHeartbeats 4000000 in
theorem awv (w:World) (q b:Nat) (tv uv:Value) (l:List Tk) (vs:List ByteArray) (i:Nat) (h:Rea w q b tv uv l vs i) (t:Tk) (ht:l[i]? = some t) (x:Rat) (L:Nat) (xv av:Value) (hx:IsQ x L xv w) (hk:ixS t.text vs=none) :
  Calls Tryz.prog 98 #[.pointer (some ⟨q,0,none⟩),xv,av] w fun e w'=>e=.returned (.bool false)∧Rea w' q b tv uv l vs i∧Rc q q w w' := by
 obtain ⟨ng,ao,n,cap,xs,bo,m,dap,ys,p,d,rfl,_⟩:=hx.open
 obtain ⟨au,cu,rfl,_⟩:=h.vrs
 have H:=hide h
 have HT:=hide ht
 have HK:=hide hk
 have hq:=aaa h.blk
 have k2:w.cell? ⟨q,2,none⟩ = some (.slice au vs.length cu):=by rw [cell_of_row _ _ _ _ _ (0,0) h.blk];rfl
 have hf1:∀ W,(Instr.field 64 (.agg #[.int .i64 t.kind,.string t.text,.int .i64 t.pl.b,.int .i64 t.pl.g,.int .i64 t.pl.l,.int .i64 t.pl.c]) 1).run Tryz.prog W=.ok (.string t.text) W:=fun W=>aph _ _ _ _ _ _ W
 clear h ht hx hk
 generalize vs.length=nv at *
 go_enter Tryz.func98,Tryz.ntmps98
 go_wp2_with fail
 go_cut [7] (fun ev wx=>ev=.int .i64 (-1)∧Below w.heap.size w wx)
 case first =>
  go_region_law (first | (refine aau rfl 28 #[.tmp 12] #[57] rfl aid #[.pointer (some ⟨q,0,none⟩)] (by simp [Act.eval,Act.put]) (aa0 _ q b tv (.slice au nv cu) l vs i t (H.out.below (show Below w.heap.size w _ by (repeat' first|with_reducible(first|exact Below.refl _ _|assumption|refine gdrewN ?_ _|refine Below.alloc ?_ ?_ _|refine Below.drew ?_|refine Below.setCell ?_ ?_ _)|go_size))) HT.out) ?_;rintro e w1 ⟨rfl,hb1⟩;have hbw:Below w.heap.size w w1:=(show Below w.heap.size w _ by (repeat' first|with_reducible(first|exact Below.refl _ _|assumption|refine gdrewN ?_ _|refine Below.alloc ?_ ?_ _|refine Below.drew ?_|refine Below.setCell ?_ ?_ _)|go_size)).trans (hb1.mono (by simp));have HB1:=hide hbw;have k21:=(hbw.cell (p:=⟨q,2,none⟩) hq).trans k2;unfold Tk.av;clear hb1 hbw;refine ⟨_,rfl,?_⟩) | (refine aau rfl 67 #[.tmp 11,.tmp 14] #[26,9] rfl aie #[.slice au nv cu,.string t.text] (by simp [Act.eval,Act.put]) (afd _ _ _ _ vs t.text (H.out.below HB1.out).vrs) ?_;rintro e w2 ⟨rfl,rfl⟩;rw [HK.out];unfold ixV;refine ⟨_,rfl,?_⟩))
  all_goals (
   go_wp2_with fail
   go_meet
   exact ⟨rfl,HB1.out⟩)
 case rest =>
  obtain ⟨rfl,hb⟩:=hcut
  have HB:=hide hb
  clear hb
  go_wp2
  refine bodyPost_ret (v:=_) (by simp [results,Tryz.results98,go_sem];try rfl) rfl ⟨rfl,H.out.below HB.out,.of_below HB.out⟩
set_option maxRecDepth 20000 in
set_option maxHeartbeats 4000000 in
theorem aus (w:World) (q b:Nat) (tv uv:Value) (l:List Tk) (vs:List ByteArray) (i:Nat) (h:Rea w q b tv uv l vs i) (t:Tk) (ht:l[i]? = some t) (x:Rat) (L:Nat) (xv av:Value) (hx:IsQ x L xv w) (g k:Nat) (rs:List Rat) (r:Rat) (sn:Bool) (hk:ixS t.text vs=some k) (hj:i+1<l.length) (hl:l.length≤100000) (hA:AddV q b g w av sn) (hR:RQ w g b rs L) (hr:rs[k]? = some r) (hL:L≤10000) (hfx:Fit x L) (hfr:Fit (r+sgq sn x) L) (hqb:q≠b) (hqg:g≠q) :
  Calls Tryz.prog 98 #[.pointer (some ⟨q,0,none⟩),xv,av] w fun e w'=>e=.returned (.bool true)∧Rea w' q b tv uv l vs (i+1)∧Rc q b w w'∧RQ w' g b (rs.set k (r+sgq sn x)) L:=by
 have HX:=hide hx
 obtain ⟨f,cp,rfl,hf,hadd⟩:=ahf hA rs L k r hr hL
 have HADD:=hide hadd
 have HR:=hide hR
 have HF:=hide (And.intro hfx hfr)
 have HJ:=hide hj
 have hi:i≤100000:=by omega
 have hent:∀ args W,(callFunc f args).run Tryz.prog W=.ok (.enter f args) W:=hf.enter
 clear hadd hA hR hr hfx hfr hj hl
 obtain ⟨ng,ao,n,cap,xs,bo,m,dap,ys,p,d,rfl,_⟩:=hx.open
 obtain ⟨au,cu,rfl,_⟩:=h.vrs
 have H:=hide h
 have HT:=hide ht
 have HK:=hide hk
 have hq:=aaa h.blk
 have k2:w.cell? ⟨q,2,none⟩ = some (.slice au vs.length cu):=by rw [cell_of_row _ _ _ _ _ (0,0) h.blk];rfl
 have hf1:∀ W,(Instr.field 64 (.agg #[.int .i64 t.kind,.string t.text,.int .i64 t.pl.b,.int .i64 t.pl.g,.int .i64 t.pl.l,.int .i64 t.pl.c]) 1).run Tryz.prog W=.ok (.string t.text) W:=fun W=>aph _ _ _ _ _ _ W
 clear h ht hx hk
 generalize vs.length=nv at *
 go_enter Tryz.func98,Tryz.ntmps98
 go_wp2_with fail
 go_cut [7] (fun ev wx=>ev=.int .i64 (k:Int)∧Below w.heap.size w wx∧wx.heap[w.heap.size]? = some (.cells #[.bool ng,.slice ao n cap,.slice bo m dap] 40 (0,0)))
 case first =>
  go_region_law (first | (refine aau rfl 28 #[.tmp 12] #[57] rfl aid #[.pointer (some ⟨q,0,none⟩)] (by simp [Act.eval,Act.put]) (aa0 _ q b tv (.slice au nv cu) l vs i t (H.out.below (show Below w.heap.size w _ by (repeat' first|with_reducible(first|exact Below.refl _ _|assumption|refine gdrewN ?_ _|refine Below.alloc ?_ ?_ _|refine Below.drew ?_|refine Below.setCell ?_ ?_ _)|go_size))) HT.out) ?_;rintro e w1 ⟨rfl,hb1⟩;have hbw:Below w.heap.size w w1:=(show Below w.heap.size w _ by (repeat' first|with_reducible(first|exact Below.refl _ _|assumption|refine gdrewN ?_ _|refine Below.alloc ?_ ?_ _|refine Below.drew ?_|refine Below.setCell ?_ ?_ _)|go_size)).trans (hb1.mono (by simp));have HB1:=hide hbw;have k21:=(hbw.cell (p:=⟨q,2,none⟩) hq).trans k2;have hbx:w1.heap[w.heap.size]? = some (.cells #[.bool ng,.slice ao n cap,.slice bo m dap] 40 (0,0)):=(hb1.block _ (by simp)).trans (heap_alloc_new w _);have HBX:=hide hbx;clear hbx;unfold Tk.av;clear hb1 hbw;refine ⟨_,rfl,?_⟩) | (refine aau rfl 67 #[.tmp 11,.tmp 14] #[26,9] rfl aie #[.slice au nv cu,.string t.text] (by simp [Act.eval,Act.put]) (afd _ _ _ _ vs t.text (H.out.below HB1.out).vrs) ?_;rintro e w2 ⟨rfl,rfl⟩;rw [HK.out];unfold ixV;refine ⟨_,rfl,?_⟩))
  all_goals (
   go_wp2_with fail
   go_meet
   exact ⟨rfl,HB1.out,HBX.out⟩)
 case rest =>
  obtain ⟨rfl,hb,hbx⟩:=hcut
  obtain ⟨_,x0,x1,x2,_,_,_⟩:=aac hbx
  have HB:=hide hb
  have hkk:decide ((k:Int)<0)=false:=by simp
  clear hb hbx
  go_wp2_with fail
  refine (HADD.out wc x _ HB.out (HR.out.below HB.out) (HX.out.ru (Ru.of_below HB.out)) HF.out.1 HF.out.2).mono ?_
  rintro e w2 ⟨rfl,hrc,hrq⟩
  have hqw:=(hrc.other q (Nat.lt_of_lt_of_le hq HB.out.size) hqb hqb).trans (HB.out.block q hq)
  have hrc' : Rc q b w w2:=(Rc.of_below HB.out).trans hrc.wideR
  have h2:Rea w2 q b tv (.slice au nv cu) l vs i:=H.out.rc hrc' (hqw.trans H.out.blk) H.out.lt
  have HRC:=hide hrc'
  have HRQ:=hide hrq
  have k1:w2.cell? ⟨q,1,none⟩ = some (.int .i64 i):=by rw [cell_of_row _ _ _ _ _ (0,0) h2.blk];rfl
  have kf:w2.frozen? ⟨q,1,none⟩ = false:=frozen_of_row w2 q 1 _ _ h2.blk
  have hq2:=aaa h2.blk
  have H2:=hide h2
  clear hqw hrc hrc' hrq h2 x0 x1 x2
  go_wp2
  obtain ⟨n1,n2⟩:=H2.out.next (Rc.refl _ _ _) rfl HJ.out
  have hbq:b≠q:=fun e=>hqb e.symm
  refine bodyPost_ret (v:=_) (by simp [results,Tryz.results98,go_sem];try rfl) rfl ⟨rfl,n1,HRC.out.trans n2.wide,HRQ.out.rc n2 hqg hbq⟩
theorem asa:Has Tryz.prog 78:=by unfold Has;kernel_rfl
theorem adu {L:Nat} (h:1≤L):Fit (1:Rat) L:=by
 have h1:pw 1≤pw L:=aa3 h
 have h2:(1:Int)<pw 1:=by decide
 exact ⟨by show (1:Int)<_;omega,by show (1:Int)<_;omega⟩
set_option maxRecDepth 20000 in
set_option maxHeartbeats 8000000 in
theorem amq (w:World) (hT:Tabs w) (q b g:Nat) (tv uv:Value) (l:List Tk) (hW:Wf l) (vs:List ByteArray) (i:Nat) (h:Rea w q b tv uv l vs i) (t:Tk) (ht:l[i]? = some t) (L:Nat) (_hL:L≤10000) (hL1:1≤L) (av:Value) (sn:Bool) (hA:AddV q b g w av sn) (rs:List Rat) (hR:RQ w g b rs L) (_hqb:q≠b) (_hqg:g≠q) (h1:t.kind≠1) (h2:t.kind≠2) :
  Calls Tryz.prog 76 #[.pointer (some ⟨q,0,none⟩),av] w fun e w'=>e=.returned (.bool false)∧Rea w' q b tv uv l vs i∧Rc q b w w'∧RQ w' g b rs L:=by
 have e1:(t.kind == 1)=false:=beq_eq_false_iff_ne.2 h1
 have e2:(t.kind == 2)=false:=beq_eq_false_iff_ne.2 h2
 clear h1 h2
 have H:=hide h
 have HT:=hide ht
 have HTT:=hide hT
 have HA:=hide hA
 have HR:=hide hR
 have HW:=hide hW
 have hq:=aaa h.blk
 have hgl:=aaa hR.slot
 have hf0:∀ W,(Instr.field 64 (.agg #[.int .i64 t.kind,.string t.text,.int .i64 t.pl.b,.int .i64 t.pl.g,.int .i64 t.pl.l,.int .i64 t.pl.c]) 0).run Tryz.prog W=.ok (.int .i64 t.kind) W:=fun W=>ade _ _ _ _ _ _ W
 clear h ht hA hR hT hW
 go_enter Tryz.func76,Tryz.ntmps76
 go_wp2_with fail
 refine (adb w 1 (by decide) (by decide)).mono ?_
 rintro r w1 ⟨ng0,ao0,cap0,rs0,rfl,hw1,hl1,hb1⟩
 have ho1:OutW 1 2 (.agg #[.bool ng0,.slice ao0 rs0.length cap0]) w1:=⟨_,_,_,_,rfl,hw1,hl1⟩
 clear hw1 hl1
 go_wp2_with fail
 refine (ac9 w1 _ _ _ ho1.is (by omega)).mono ?_
 rintro r w2 ⟨v,rfl,ho2,hb2⟩
 replace ho2:OutQr (1:Rat) L v w2:=OutQr.fit ho2 (adu hL1)
 obtain ⟨ng1,ao1,cap1,rs1,bo1,dap1,ss1,rfl,_⟩:=id ho2
 have hbw2:=hb1.trans (hb2.mono hb1.size)
 have hbw:Below w.heap.size w (w2.alloc (.cells #[.bool ng1,.slice ao1 rs1.length cap1,.slice bo1 ss1.length dap1] 40)):=hbw2.alloc hbw2.size _
 clear ho1 hb1 hb2
 go_wp2_with fail
 refine (aa0 _ q b tv uv l vs i t (H.out.below hbw) HT.out).mono ?_
 rintro r w3 ⟨rfl,hb3⟩
 have hbx:w3.heap[w2.heap.size]? = some (.cells #[.bool ng1,.slice ao1 rs1.length cap1,.slice bo1 ss1.length dap1] 40 (0,0)):=(hb3.block _ (by simp)).trans (heap_alloc_new w2 _)
 have HBX:=hide hbx
 have HO:=hide (ho2.ru (Ru.of_below ((hAl w2 _).trans (hb3.mono (hAl w2 _).size))))
 have HB3:=hide (hbw.trans (hb3.mono hbw.size))
 have hf5:w.heap.size≤w2.heap.size:=hbw2.size
 generalize w2.heap.size=f5 at *
 unfold Tk.av
 clear hbw hbw2 hb3 hbx ho2
 go_wp2
 refine bodyPost_ret (v:=_) (by simp [results,Tryz.results76,go_sem];try rfl) rfl ⟨rfl,H.out.below HB3.out,.of_below HB3.out,HR.out.below HB3.out⟩
set_option maxRecDepth 20000 in
set_option maxHeartbeats 8000000 in
theorem apo (w:World) (hT:Tabs w) (q b g:Nat) (tv uv:Value) (l:List Tk) (hW:Wf l) (vs:List ByteArray) (i:Nat) (h:Rea w q b tv uv l vs i) (t:Tk) (ht:l[i]? = some t) (L:Nat) (_hL:L≤10000) (hL1:1≤L) (av:Value) (sn:Bool) (hA:AddV q b g w av sn) (rs:List Rat) (hR:RQ w g b rs L) (_hqb:q≠b) (_hqg:g≠q) (h1:t.kind=1) (ok:Bool) (j:Nat) (rs' : List Rat) (hv:∀ W xv,Rc q q w W→Rea W q b tv uv l vs i→IsQ (1:Rat) L xv W→Calls Tryz.prog 98 #[.pointer (some ⟨q,0,none⟩),xv,av] W fun e w'=>e=.returned (.bool ok)∧Rea w' q b tv uv l vs j∧Rc q b W w'∧RQ w' g b rs' L) :
  Calls Tryz.prog 76 #[.pointer (some ⟨q,0,none⟩),av] w fun e w'=>e=.returned (.bool ok)∧Rea w' q b tv uv l vs j∧Rc q b w w'∧RQ w' g b rs' L:=by
 have HV:=hide hv
 clear hv
 have H1:=hide h1
 clear h1
 have H:=hide h
 have HT:=hide ht
 have HTT:=hide hT
 have HA:=hide hA
 have HR:=hide hR
 have HW:=hide hW
 have hq:=aaa h.blk
 have hgl:=aaa hR.slot
 have hf0:∀ W,(Instr.field 64 (.agg #[.int .i64 t.kind,.string t.text,.int .i64 t.pl.b,.int .i64 t.pl.g,.int .i64 t.pl.l,.int .i64 t.pl.c]) 0).run Tryz.prog W=.ok (.int .i64 t.kind) W:=fun W=>ade _ _ _ _ _ _ W
 clear h ht hA hR hT hW
 go_enter Tryz.func76,Tryz.ntmps76
 go_wp2_with fail
 refine (adb w 1 (by decide) (by decide)).mono ?_
 rintro r w1 ⟨ng0,ao0,cap0,rs0,rfl,hw1,hl1,hb1⟩
 have ho1:OutW 1 2 (.agg #[.bool ng0,.slice ao0 rs0.length cap0]) w1:=⟨_,_,_,_,rfl,hw1,hl1⟩
 clear hw1 hl1
 go_wp2_with fail
 refine (ac9 w1 _ _ _ ho1.is (by omega)).mono ?_
 rintro r w2 ⟨v,rfl,ho2,hb2⟩
 replace ho2:OutQr (1:Rat) L v w2:=OutQr.fit ho2 (adu hL1)
 obtain ⟨ng1,ao1,cap1,rs1,bo1,dap1,ss1,rfl,_⟩:=id ho2
 have hbw2:=hb1.trans (hb2.mono hb1.size)
 have hbw:Below w.heap.size w (w2.alloc (.cells #[.bool ng1,.slice ao1 rs1.length cap1,.slice bo1 ss1.length dap1] 40)):=hbw2.alloc hbw2.size _
 clear ho1 hb1 hb2
 go_wp2_with fail
 refine (aa0 _ q b tv uv l vs i t (H.out.below hbw) HT.out).mono ?_
 rintro r w3 ⟨rfl,hb3⟩
 have hbx:w3.heap[w2.heap.size]? = some (.cells #[.bool ng1,.slice ao1 rs1.length cap1,.slice bo1 ss1.length dap1] 40 (0,0)):=(hb3.block _ (by simp)).trans (heap_alloc_new w2 _)
 have HBX:=hide hbx
 have HO:=hide (ho2.ru (Ru.of_below ((hAl w2 _).trans (hb3.mono (hAl w2 _).size))))
 have HB3:=hide (hbw.trans (hb3.mono hbw.size))
 have hf5:w.heap.size≤w2.heap.size:=hbw2.size
 generalize w2.heap.size=f5 at *
 unfold Tk.av
 clear hbw hbw2 hb3 hbx ho2
 rw [H1.out] at *
 obtain ⟨_,x0,x1,x2,_,_,_⟩:=aac HBX.out
 go_wp2_with fail
 refine (HV.out w3 _ (.of_below HB3.out) (H.out.below HB3.out) HO.out.is).mono ?_
 rintro e w4 ⟨rfl,r1,r2,r3⟩
 have R1:=hide r1
 have R2:=hide ((Rc.of_below HB3.out).trans r2)
 have R3' := hide r3
 clear r1 r2 r3 x0 x1 x2
 go_wp2
 refine bodyPost_ret (v:=_) (by simp [results,Tryz.results76,go_sem];try rfl) rfl ⟨rfl,R1.out,R2.out,R3'.out⟩
set_option maxRecDepth 20000 in
set_option maxHeartbeats 8000000 in
theorem asb (w:World) (hT:Tabs w) (q b g:Nat) (tv uv:Value) (l:List Tk) (hW:Wf l) (vs:List ByteArray) (i:Nat) (h:Rea w q b tv uv l vs i) (t:Tk) (ht:l[i]? = some t) (L:Nat) (_hL:L≤10000) (hL1:1≤L) (av:Value) (sn:Bool) (hA:AddV q b g w av sn) (rs:List Rat) (hR:RQ w g b rs L) (_hqb:q≠b) (_hqg:g≠q) (h1:t.kind=2) (j:Nat) (hc:∀ W,Below w.heap.size w W→Calls Tryz.prog 97 #[.pointer (some ⟨q,0,none⟩)] W fun e w'=>∃ v,e=.returned (.tuple #[v,.bool false])∧OutQr0 v∧Rea w' q b tv uv l vs j∧Rc q q W w') :
  Calls Tryz.prog 76 #[.pointer (some ⟨q,0,none⟩),av] w fun e w'=>e=.returned (.bool false)∧Rea w' q b tv uv l vs j∧Rc q b w w'∧RQ w' g b rs L:=by
 have HC:=hide hc
 clear hc
 have H1:=hide h1
 clear h1
 have H:=hide h
 have HT:=hide ht
 have HTT:=hide hT
 have HA:=hide hA
 have HR:=hide hR
 have HW:=hide hW
 have hq:=aaa h.blk
 have hgl:=aaa hR.slot
 have hf0:∀ W,(Instr.field 64 (.agg #[.int .i64 t.kind,.string t.text,.int .i64 t.pl.b,.int .i64 t.pl.g,.int .i64 t.pl.l,.int .i64 t.pl.c]) 0).run Tryz.prog W=.ok (.int .i64 t.kind) W:=fun W=>ade _ _ _ _ _ _ W
 clear h ht hA hR hT hW
 go_enter Tryz.func76,Tryz.ntmps76
 go_wp2_with fail
 refine (adb w 1 (by decide) (by decide)).mono ?_
 rintro r w1 ⟨ng0,ao0,cap0,rs0,rfl,hw1,hl1,hb1⟩
 have ho1:OutW 1 2 (.agg #[.bool ng0,.slice ao0 rs0.length cap0]) w1:=⟨_,_,_,_,rfl,hw1,hl1⟩
 clear hw1 hl1
 go_wp2_with fail
 refine (ac9 w1 _ _ _ ho1.is (by omega)).mono ?_
 rintro r w2 ⟨v,rfl,ho2,hb2⟩
 replace ho2:OutQr (1:Rat) L v w2:=OutQr.fit ho2 (adu hL1)
 obtain ⟨ng1,ao1,cap1,rs1,bo1,dap1,ss1,rfl,_⟩:=id ho2
 have hbw2:=hb1.trans (hb2.mono hb1.size)
 have hbw:Below w.heap.size w (w2.alloc (.cells #[.bool ng1,.slice ao1 rs1.length cap1,.slice bo1 ss1.length dap1] 40)):=hbw2.alloc hbw2.size _
 clear ho1 hb1 hb2
 go_wp2_with fail
 refine (aa0 _ q b tv uv l vs i t (H.out.below hbw) HT.out).mono ?_
 rintro r w3 ⟨rfl,hb3⟩
 have hbx:w3.heap[w2.heap.size]? = some (.cells #[.bool ng1,.slice ao1 rs1.length cap1,.slice bo1 ss1.length dap1] 40 (0,0)):=(hb3.block _ (by simp)).trans (heap_alloc_new w2 _)
 have HBX:=hide hbx
 have HO:=hide (ho2.ru (Ru.of_below ((hAl w2 _).trans (hb3.mono (hAl w2 _).size))))
 have HB3:=hide (hbw.trans (hb3.mono hbw.size))
 have hf5:w.heap.size≤w2.heap.size:=hbw2.size
 generalize w2.heap.size=f5 at *
 unfold Tk.av
 clear hbw hbw2 hb3 hbx ho2
 rw [H1.out] at *
 go_wp2_with fail
 refine (HC.out w3 HB3.out).mono ?_
 rintro e w4 ⟨v,rfl,rfl,r1,r2⟩
 have R1:=hide r1
 have R2:=hide ((Rc.of_below HB3.out).trans r2)
 clear r1 r2
 go_wp2
 refine bodyPost_ret (v:=_) (by simp [results,Tryz.results76,go_sem];try rfl) rfl ⟨rfl,R1.out.below (hAl _ _),R2.out.wide.trans (.of_below (hAl _ _)),(HR.out.rc R2.out _hqg (fun e=>_hqb e.symm)).below (hAl _ _)⟩
set_option maxRecDepth 20000 in
set_option maxHeartbeats 8000000 in
theorem amr (w:World) (hT:Tabs w) (q b g:Nat) (tv uv:Value) (l:List Tk) (hW:Wf l) (vs:List ByteArray) (i:Nat) (h:Rea w q b tv uv l vs i) (t:Tk) (ht:l[i]? = some t) (L:Nat) (_hL:L≤10000) (hL1:1≤L) (av:Value) (sn:Bool) (hA:AddV q b g w av sn) (rs:List Rat) (hR:RQ w g b rs L) (_hqb:q≠b) (_hqg:g≠q) (h1:t.kind=2) (j:Nat) (x r0:Rat) (hc:∀ W,Below w.heap.size w W→Calls Tryz.prog 97 #[.pointer (some ⟨q,0,none⟩)] W fun e w'=>∃ v,e=.returned (.tuple #[v,.bool true])∧OutQr x L v w'∧Rea w' q b tv uv l vs j∧Rc q q W w') (t1:Tk) (ht1:l[j]? = some t1) (hs:tsg t1 sTimes=false) (hk1:t1.kind≠1) (hr0:rs[vs.length]? = some r0) (hfx:Fit x L) (hfr:Fit (r0+sgq sn (-x)) L) :
  Calls Tryz.prog 76 #[.pointer (some ⟨q,0,none⟩),av] w fun e w'=>e=.returned (.bool true)∧Rea w' q b tv uv l vs j∧Rc q b w w'∧RQ w' g b (rs.set vs.length (r0+sgq sn (-x))) L:=by
 have HC:=hide hc
 have H1:=hide h1
 have HT1:=hide ht1
 have HS:=hide hs
 have hjl:j<l.length:=(List.getElem?_eq_some_iff.1 ht1).1
 clear hc h1 ht1 hs
 obtain ⟨f,cp,rfl,hf,hadd⟩:=ahf hA rs L vs.length r0 hr0 _hL
 have HR0:=hide hr0
 have hent:∀ args W,(callFunc f args).run Tryz.prog W=.ok (.enter f args) W:=hf.enter
 have HK1:Hid ((t1.kind != 1)=true):=bne_iff_ne.2 hk1
 have HF:=hide (And.intro hfx hfr)
 obtain ⟨au,cu,huv,_⟩:=id h.vrs
 have HUV:=hide huv
 clear huv
 clear hadd hr0 hfx hfr hk1
 have H:=hide h
 have HT:=hide ht
 have HTT:=hide hT
 have HA:=hide hA
 have HR:=hide hR
 have HW:=hide hW
 have hq:=aaa h.blk
 have hgl:=aaa hR.slot
 have hf0:∀ W,(Instr.field 64 (.agg #[.int .i64 t.kind,.string t.text,.int .i64 t.pl.b,.int .i64 t.pl.g,.int .i64 t.pl.l,.int .i64 t.pl.c]) 0).run Tryz.prog W=.ok (.int .i64 t.kind) W:=fun W=>ade _ _ _ _ _ _ W
 clear h ht hA hR hT hW
 go_enter Tryz.func76,Tryz.ntmps76
 go_wp2_with fail
 refine (adb w 1 (by decide) (by decide)).mono ?_
 rintro r w1 ⟨ng0,ao0,cap0,rs0,rfl,hw1,hl1,hb1⟩
 have ho1:OutW 1 2 (.agg #[.bool ng0,.slice ao0 rs0.length cap0]) w1:=⟨_,_,_,_,rfl,hw1,hl1⟩
 clear hw1 hl1
 go_wp2_with fail
 refine (ac9 w1 _ _ _ ho1.is (by omega)).mono ?_
 rintro r w2 ⟨v,rfl,ho2,hb2⟩
 replace ho2:OutQr (1:Rat) L v w2:=OutQr.fit ho2 (adu hL1)
 obtain ⟨ng1,ao1,cap1,rs1,bo1,dap1,ss1,rfl,_⟩:=id ho2
 have hbw2:=hb1.trans (hb2.mono hb1.size)
 have hbw:Below w.heap.size w (w2.alloc (.cells #[.bool ng1,.slice ao1 rs1.length cap1,.slice bo1 ss1.length dap1] 40)):=hbw2.alloc hbw2.size _
 clear ho1 hb1 hb2
 go_wp2_with fail
 refine (aa0 _ q b tv uv l vs i t (H.out.below hbw) HT.out).mono ?_
 rintro r w3 ⟨rfl,hb3⟩
 have hbx:w3.heap[w2.heap.size]? = some (.cells #[.bool ng1,.slice ao1 rs1.length cap1,.slice bo1 ss1.length dap1] 40 (0,0)):=(hb3.block _ (by simp)).trans (heap_alloc_new w2 _)
 have HBX:=hide hbx
 have HO:=hide (ho2.ru (Ru.of_below ((hAl w2 _).trans (hb3.mono (hAl w2 _).size))))
 have HB3:=hide (hbw.trans (hb3.mono hbw.size))
 have hf5:w.heap.size≤w2.heap.size:=hbw2.size
 generalize w2.heap.size=f5 at *
 unfold Tk.av
 clear hbw hbw2 hb3 hbx ho2
 rw [H1.out] at *
 go_wp2_with fail
 refine (HC.out w3 HB3.out).mono ?_
 rintro e w4 ⟨v,rfl,hox,r1,r2⟩
 obtain ⟨ng6,ao6,cap6,rs6,bo6,dap6,ss6,rfl,_⟩:=id hox
 have hbx4:=(r2.other _ (aaa HBX.out) (by omega) (by omega)).trans HBX.out
 have hr4:Rc q q w w4:=(Rc.of_below HB3.out).trans r2
 have hal:=hAl w4 (.cells #[.bool ng6,.slice ao6 rs6.length cap6,.slice bo6 ss6.length dap6] 40)
 have h6:=heap_alloc_new w4 (.cells #[.bool ng6,.slice ao6 rs6.length cap6,.slice bo6 ss6.length dap6] 40)
 have hf6:w.heap.size≤w4.heap.size:=hr4.size
 have hf56:f5<w4.heap.size:=aaa hbx4
 go_wp2_with fail
 refine (abd _ q b tv uv l vs j t1 (r1.below hal) HT1.out sTimes (fun h3=>HW.out.more HT1.out (by rw [h3];decide)) HW.out.len).mono ?_
 rw [HS.out]
 rintro e w5 ⟨rfl,r3,r4⟩
 have hr5:Rc q q w w5:=(hr4.trans (.of_below hal)).trans r4
 have h65:=(r4.other _ (aaa h6) (by omega) (by omega)).trans h6
 have h55:=(r4.other _ (aaa (aar (o' := .cells #[.bool ng6,.slice ao6 rs6.length cap6,.slice bo6 ss6.length dap6] 40) hbx4)) (by omega) (by omega)).trans (aar hbx4)
 have H65:=hide h65
 have H55:=hide h55
 have HOX:=hide (hox.ru ((Ru.of_below hal).trans r4.ru))
 have HR5:=hide hr5
 have R3_:=hide r3
 generalize w4.heap.size=f6 at *
 clear hox r1 r2 hbx4 hr4 hal h6 r3 r4 hr5 h65 h55
 have hf01:∀ W,(Instr.field 64 (.agg #[.int .i64 t1.kind,.string t1.text,.int .i64 t1.pl.b,.int .i64 t1.pl.g,.int .i64 t1.pl.l,.int .i64 t1.pl.c]) 0).run Tryz.prog W=.ok (.int .i64 t1.kind) W:=fun W=>ade _ _ _ _ _ _ W
 have hk1:=HK1.out
 go_wp2_with fail
 refine (aa0 w5 q b tv uv l vs j t1 R3_.out HT1.out).mono ?_
 rintro r w6 ⟨rfl,hb6⟩
 unfold Tk.av
 have R6:=hide (R3_.out.below hb6)
 have HR6:=hide (HR5.out.trans (.of_below hb6))
 have h66:=(hb6.block _ (aaa H65.out)).trans H65.out
 have HOX6:=hide (HOX.out.ru (Ru.of_below hb6))
 obtain ⟨hl6,x0,x1,x2,_,_,_⟩:=aac h66
 obtain ⟨f',cp',e',hf',hadd⟩:=ahf (HA.out.rc HR6.out.wide) rs L vs.length r0 HR0.out _hL
 obtain ⟨rfl,rfl⟩:f=f'∧cp=cp' := by simpa using e'
 have HADD:=hide hadd
 have HRQ6:=hide (HR.out.rc HR6.out _hqg (fun e=>_hqb e.symm))
 have hq6:=aaa R6.out.blk
 have k2:w6.cell? ⟨q,2,none⟩ = some (.slice au vs.length cu):=by rw [cell_of_row _ _ _ _ _ (0,0) R6.out.blk,HUV.out];rfl
 generalize hnv:vs.length=nv at *
 have HNV:=hide hnv
 clear hb6 h66 hadd e' hf' hnv
 go_wp2_with fail
 go_region_law (first | (refine aau rfl 78 #[.tmp 39] #[40] rfl asa #[.agg #[.bool ng6,.slice ao6 rs6.length cap6,.slice bo6 ss6.length dap6]] (by simp [Act.eval,Act.put]) (ari _ _ x L L (HOX6.out.ru (Ru.of_below (show Below w6.heap.size w6 _ by (repeat' first|with_reducible(first|exact Below.refl _ _|assumption|refine gdrewN ?_ _|refine Below.alloc ?_ ?_ _|refine Below.drew ?_|refine Below.setCell ?_ ?_ _)|go_size)))).is (by omega) HF.out.1) ?_;rintro e w7 ⟨v,rfl,ho7,hb7⟩;obtain ⟨ng7,ao7,cap7,rs7,bo7,dap7,ss7,rfl,_⟩:=id ho7;have HO7:=hide ho7;have hb67:Below w6.heap.size w6 w7:=(show Below w6.heap.size w6 _ by (repeat' first|with_reducible(first|exact Below.refl _ _|assumption|refine gdrewN ?_ _|refine Below.alloc ?_ ?_ _|refine Below.drew ?_|refine Below.setCell ?_ ?_ _)|go_size)).trans (hb7.mono (by simp));have HB67:=hide hb67;have k27:=(hb67.cell (p:=⟨q,2,none⟩) hq6).trans k2;clear ho7 hb7 hb67;refine ⟨_,rfl,?_⟩) | (refine ah1 rfl f (.tmp 33) #[.tmp 38,.tmp 40] #[3,40] rfl hf #[cp] (by simp [Act.eval,Act.put]) #[.int .i64 (nv:Int),.agg #[.bool ng7,.slice ao7 rs7.length cap7,.slice bo7 ss7.length dap7]] (by simp [Act.eval,Act.put]) (HADD.out w7 (-x) _ HB67.out (HRQ6.out.below HB67.out) HO7.out.is (ads HF.out.1) HF.out.2) ?_;rintro e w8 ⟨rfl,hr8,hq8⟩;have HR8:=hide hr8;have HQ8:=hide hq8;clear hr8 hq8;refine ⟨_,rfl,?_⟩))
 all_goals
  go_wp2
  refine bodyPost_ret (v:=_) (by simp [results,Tryz.results76,go_sem];try rfl) rfl ⟨rfl,(R6.out.below HB67.out).rcR HR8.out _hqb,(HR6.out.wide.trans (.of_below HB67.out)).trans HR8.out.wideR,by rw [HNV.out];exact HQ8.out⟩
set_option maxRecDepth 20000 in
set_option maxHeartbeats 8000000 in
theorem app (w:World) (hT:Tabs w) (q b g:Nat) (tv uv:Value) (l:List Tk) (hW:Wf l) (vs:List ByteArray) (i:Nat) (h:Rea w q b tv uv l vs i) (t:Tk) (ht:l[i]? = some t) (L:Nat) (_hL:L≤10000) (hL1:1≤L) (av:Value) (sn:Bool) (hA:AddV q b g w av sn) (rs:List Rat) (hR:RQ w g b rs L) (_hqb:q≠b) (_hqg:g≠q) (h1:t.kind=2) (j:Nat) (x:Rat) (hc:∀ W,Below w.heap.size w W→Calls Tryz.prog 97 #[.pointer (some ⟨q,0,none⟩)] W fun e w'=>∃ v,e=.returned (.tuple #[v,.bool true])∧OutQr x L v w'∧Rea w' q b tv uv l vs j∧Rc q q W w') (t1:Tk) (ht1:l[j]? = some t1) (hs:tsg t1 sTimes=true) (ok:Bool) (k:Nat) (rs' : List Rat) (hv:∀ W xv,Rc q q w W→Rea W q b tv uv l vs (j+1)→IsQ x L xv W→Calls Tryz.prog 98 #[.pointer (some ⟨q,0,none⟩),xv,av] W fun e w'=>e=.returned (.bool ok)∧Rea w' q b tv uv l vs k∧Rc q b W w'∧RQ w' g b rs' L) :
  Calls Tryz.prog 76 #[.pointer (some ⟨q,0,none⟩),av] w fun e w'=>e=.returned (.bool ok)∧Rea w' q b tv uv l vs k∧Rc q b w w'∧RQ w' g b rs' L:=by
 have HC:=hide hc
 have H1:=hide h1
 have HT1:=hide ht1
 have HS:=hide hs
 have hjl:j<l.length:=(List.getElem?_eq_some_iff.1 ht1).1
 clear hc h1 ht1 hs
 have HV:=hide hv
 clear hv
 have H:=hide h
 have HT:=hide ht
 have HTT:=hide hT
 have HA:=hide hA
 have HR:=hide hR
 have HW:=hide hW
 have hq:=aaa h.blk
 have hgl:=aaa hR.slot
 have hf0:∀ W,(Instr.field 64 (.agg #[.int .i64 t.kind,.string t.text,.int .i64 t.pl.b,.int .i64 t.pl.g,.int .i64 t.pl.l,.int .i64 t.pl.c]) 0).run Tryz.prog W=.ok (.int .i64 t.kind) W:=fun W=>ade _ _ _ _ _ _ W
 clear h ht hA hR hT hW
 go_enter Tryz.func76,Tryz.ntmps76
 go_wp2_with fail
 refine (adb w 1 (by decide) (by decide)).mono ?_
 rintro r w1 ⟨ng0,ao0,cap0,rs0,rfl,hw1,hl1,hb1⟩
 have ho1:OutW 1 2 (.agg #[.bool ng0,.slice ao0 rs0.length cap0]) w1:=⟨_,_,_,_,rfl,hw1,hl1⟩
 clear hw1 hl1
 go_wp2_with fail
 refine (ac9 w1 _ _ _ ho1.is (by omega)).mono ?_
 rintro r w2 ⟨v,rfl,ho2,hb2⟩
 replace ho2:OutQr (1:Rat) L v w2:=OutQr.fit ho2 (adu hL1)
 obtain ⟨ng1,ao1,cap1,rs1,bo1,dap1,ss1,rfl,_⟩:=id ho2
 have hbw2:=hb1.trans (hb2.mono hb1.size)
 have hbw:Below w.heap.size w (w2.alloc (.cells #[.bool ng1,.slice ao1 rs1.length cap1,.slice bo1 ss1.length dap1] 40)):=hbw2.alloc hbw2.size _
 clear ho1 hb1 hb2
 go_wp2_with fail
 refine (aa0 _ q b tv uv l vs i t (H.out.below hbw) HT.out).mono ?_
 rintro r w3 ⟨rfl,hb3⟩
 have hbx:w3.heap[w2.heap.size]? = some (.cells #[.bool ng1,.slice ao1 rs1.length cap1,.slice bo1 ss1.length dap1] 40 (0,0)):=(hb3.block _ (by simp)).trans (heap_alloc_new w2 _)
 have HBX:=hide hbx
 have HO:=hide (ho2.ru (Ru.of_below ((hAl w2 _).trans (hb3.mono (hAl w2 _).size))))
 have HB3:=hide (hbw.trans (hb3.mono hbw.size))
 have hf5:w.heap.size≤w2.heap.size:=hbw2.size
 generalize w2.heap.size=f5 at *
 unfold Tk.av
 clear hbw hbw2 hb3 hbx ho2
 rw [H1.out] at *
 go_wp2_with fail
 refine (HC.out w3 HB3.out).mono ?_
 rintro e w4 ⟨v,rfl,hox,r1,r2⟩
 obtain ⟨ng6,ao6,cap6,rs6,bo6,dap6,ss6,rfl,_⟩:=id hox
 have hbx4:=(r2.other _ (aaa HBX.out) (by omega) (by omega)).trans HBX.out
 have hr4:Rc q q w w4:=(Rc.of_below HB3.out).trans r2
 have hal:=hAl w4 (.cells #[.bool ng6,.slice ao6 rs6.length cap6,.slice bo6 ss6.length dap6] 40)
 have h6:=heap_alloc_new w4 (.cells #[.bool ng6,.slice ao6 rs6.length cap6,.slice bo6 ss6.length dap6] 40)
 have hf6:w.heap.size≤w4.heap.size:=hr4.size
 have hf56:f5<w4.heap.size:=aaa hbx4
 go_wp2_with fail
 refine (abd _ q b tv uv l vs j t1 (r1.below hal) HT1.out sTimes (fun h3=>HW.out.more HT1.out (by rw [h3];decide)) HW.out.len).mono ?_
 rw [HS.out]
 rintro e w5 ⟨rfl,r3,r4⟩
 have hr5:Rc q q w w5:=(hr4.trans (.of_below hal)).trans r4
 have h65:=(r4.other _ (aaa h6) (by omega) (by omega)).trans h6
 have h55:=(r4.other _ (aaa (aar (o' := .cells #[.bool ng6,.slice ao6 rs6.length cap6,.slice bo6 ss6.length dap6] 40) hbx4)) (by omega) (by omega)).trans (aar hbx4)
 have H65:=hide h65
 have H55:=hide h55
 have HOX:=hide (hox.ru ((Ru.of_below hal).trans r4.ru))
 have HR5:=hide hr5
 have R3_:=hide r3
 generalize w4.heap.size=f6 at *
 clear hox r1 r2 hbx4 hr4 hal h6 r3 r4 hr5 h65 h55
 rw [if_pos rfl] at R3_
 obtain ⟨hl5,y0,y1,y2,yf0,yf1,yf2⟩:=aac H55.out
 obtain ⟨hl6,x0,x1,x2,_,_,_⟩:=aac H65.out
 go_wp2_with fail
 obtain ⟨v1,v2⟩:=H.out.fill3 R3_.out HR5.out H55.out hf5 (.bool ng6) (.slice ao6 rs6.length cap6) (.slice bo6 ss6.length dap6)
 refine (HV.out _ _ v2 v1 (HOX.out.ru (adl H55.out _ _ _)).is).mono ?_
 rintro e w7 ⟨rfl,r1,r2,r3⟩
 have R1:=hide r1
 have R2:=hide (v2.wide.trans r2)
 have R4:=hide r3
 clear r1 r2 r3 v1 v2 x0 x1 x2 y0 y1 y2
 go_wp2
 refine bodyPost_ret (v:=_) (by simp [results,Tryz.results76,go_sem];try rfl) rfl ⟨rfl,R1.out,R2.out,R4.out⟩
set_option maxRecDepth 20000 in
set_option maxHeartbeats 8000000 in
theorem apq (w:World) (hT:Tabs w) (q b g:Nat) (tv uv:Value) (l:List Tk) (hW:Wf l) (vs:List ByteArray) (i:Nat) (h:Rea w q b tv uv l vs i) (t:Tk) (ht:l[i]? = some t) (L:Nat) (_hL:L≤10000) (hL1:1≤L) (av:Value) (sn:Bool) (hA:AddV q b g w av sn) (rs:List Rat) (hR:RQ w g b rs L) (_hqb:q≠b) (_hqg:g≠q) (h1:t.kind=2) (j:Nat) (x:Rat) (hc:∀ W,Below w.heap.size w W→Calls Tryz.prog 97 #[.pointer (some ⟨q,0,none⟩)] W fun e w'=>∃ v,e=.returned (.tuple #[v,.bool true])∧OutQr x L v w'∧Rea w' q b tv uv l vs j∧Rc q q W w') (t1:Tk) (ht1:l[j]? = some t1) (hs:tsg t1 sTimes=false) (hk1:t1.kind=1) (ok:Bool) (k:Nat) (rs' : List Rat) (hv:∀ W xv,Rc q q w W→Rea W q b tv uv l vs j→IsQ x L xv W→Calls Tryz.prog 98 #[.pointer (some ⟨q,0,none⟩),xv,av] W fun e w'=>e=.returned (.bool ok)∧Rea w' q b tv uv l vs k∧Rc q b W w'∧RQ w' g b rs' L) :
  Calls Tryz.prog 76 #[.pointer (some ⟨q,0,none⟩),av] w fun e w'=>e=.returned (.bool ok)∧Rea w' q b tv uv l vs k∧Rc q b w w'∧RQ w' g b rs' L:=by
 have HC:=hide hc
 have H1:=hide h1
 have HT1:=hide ht1
 have HS:=hide hs
 have hjl:j<l.length:=(List.getElem?_eq_some_iff.1 ht1).1
 clear hc h1 ht1 hs
 have HV:=hide hv
 have HK1:=hide hk1
 clear hv hk1
 have H:=hide h
 have HT:=hide ht
 have HTT:=hide hT
 have HA:=hide hA
 have HR:=hide hR
 have HW:=hide hW
 have hq:=aaa h.blk
 have hgl:=aaa hR.slot
 have hf0:∀ W,(Instr.field 64 (.agg #[.int .i64 t.kind,.string t.text,.int .i64 t.pl.b,.int .i64 t.pl.g,.int .i64 t.pl.l,.int .i64 t.pl.c]) 0).run Tryz.prog W=.ok (.int .i64 t.kind) W:=fun W=>ade _ _ _ _ _ _ W
 clear h ht hA hR hT hW
 go_enter Tryz.func76,Tryz.ntmps76
 go_wp2_with fail
 refine (adb w 1 (by decide) (by decide)).mono ?_
 rintro r w1 ⟨ng0,ao0,cap0,rs0,rfl,hw1,hl1,hb1⟩
 have ho1:OutW 1 2 (.agg #[.bool ng0,.slice ao0 rs0.length cap0]) w1:=⟨_,_,_,_,rfl,hw1,hl1⟩
 clear hw1 hl1
 go_wp2_with fail
 refine (ac9 w1 _ _ _ ho1.is (by omega)).mono ?_
 rintro r w2 ⟨v,rfl,ho2,hb2⟩
 replace ho2:OutQr (1:Rat) L v w2:=OutQr.fit ho2 (adu hL1)
 obtain ⟨ng1,ao1,cap1,rs1,bo1,dap1,ss1,rfl,_⟩:=id ho2
 have hbw2:=hb1.trans (hb2.mono hb1.size)
 have hbw:Below w.heap.size w (w2.alloc (.cells #[.bool ng1,.slice ao1 rs1.length cap1,.slice bo1 ss1.length dap1] 40)):=hbw2.alloc hbw2.size _
 clear ho1 hb1 hb2
 go_wp2_with fail
 refine (aa0 _ q b tv uv l vs i t (H.out.below hbw) HT.out).mono ?_
 rintro r w3 ⟨rfl,hb3⟩
 have hbx:w3.heap[w2.heap.size]? = some (.cells #[.bool ng1,.slice ao1 rs1.length cap1,.slice bo1 ss1.length dap1] 40 (0,0)):=(hb3.block _ (by simp)).trans (heap_alloc_new w2 _)
 have HBX:=hide hbx
 have HO:=hide (ho2.ru (Ru.of_below ((hAl w2 _).trans (hb3.mono (hAl w2 _).size))))
 have HB3:=hide (hbw.trans (hb3.mono hbw.size))
 have hf5:w.heap.size≤w2.heap.size:=hbw2.size
 generalize w2.heap.size=f5 at *
 unfold Tk.av
 clear hbw hbw2 hb3 hbx ho2
 rw [H1.out] at *
 go_wp2_with fail
 refine (HC.out w3 HB3.out).mono ?_
 rintro e w4 ⟨v,rfl,hox,r1,r2⟩
 obtain ⟨ng6,ao6,cap6,rs6,bo6,dap6,ss6,rfl,_⟩:=id hox
 have hbx4:=(r2.other _ (aaa HBX.out) (by omega) (by omega)).trans HBX.out
 have hr4:Rc q q w w4:=(Rc.of_below HB3.out).trans r2
 have hal:=hAl w4 (.cells #[.bool ng6,.slice ao6 rs6.length cap6,.slice bo6 ss6.length dap6] 40)
 have h6:=heap_alloc_new w4 (.cells #[.bool ng6,.slice ao6 rs6.length cap6,.slice bo6 ss6.length dap6] 40)
 have hf6:w.heap.size≤w4.heap.size:=hr4.size
 have hf56:f5<w4.heap.size:=aaa hbx4
 go_wp2_with fail
 refine (abd _ q b tv uv l vs j t1 (r1.below hal) HT1.out sTimes (fun h3=>HW.out.more HT1.out (by rw [h3];decide)) HW.out.len).mono ?_
 rw [HS.out]
 rintro e w5 ⟨rfl,r3,r4⟩
 have hr5:Rc q q w w5:=(hr4.trans (.of_below hal)).trans r4
 have h65:=(r4.other _ (aaa h6) (by omega) (by omega)).trans h6
 have h55:=(r4.other _ (aaa (aar (o' := .cells #[.bool ng6,.slice ao6 rs6.length cap6,.slice bo6 ss6.length dap6] 40) hbx4)) (by omega) (by omega)).trans (aar hbx4)
 have H65:=hide h65
 have H55:=hide h55
 have HOX:=hide (hox.ru ((Ru.of_below hal).trans r4.ru))
 have HR5:=hide hr5
 have R3_:=hide r3
 generalize w4.heap.size=f6 at *
 clear hox r1 r2 hbx4 hr4 hal h6 r3 r4 hr5 h65 h55
 rw [if_neg (by decide)] at R3_
 have hf01:∀ W,(Instr.field 64 (.agg #[.int .i64 t1.kind,.string t1.text,.int .i64 t1.pl.b,.int .i64 t1.pl.g,.int .i64 t1.pl.l,.int .i64 t1.pl.c]) 0).run Tryz.prog W=.ok (.int .i64 1) W:=fun W=>(ade _ _ _ _ _ _ W).trans (by rw [HK1.out])
 go_wp2_with fail
 refine (aa0 w5 q b tv uv l vs j t1 R3_.out HT1.out).mono ?_
 rintro r w6 ⟨rfl,hb6⟩
 unfold Tk.av
 replace R3_:=hide (R3_.out.below hb6)
 replace HR5:=hide (HR5.out.trans (.of_below hb6))
 replace H65:=hide ((hb6.block _ (aaa H65.out)).trans H65.out)
 replace H55:=hide ((hb6.block _ (aaa H55.out)).trans H55.out)
 replace HOX:=hide (HOX.out.ru (Ru.of_below hb6))
 clear hb6
 obtain ⟨hl5,y0,y1,y2,yf0,yf1,yf2⟩:=aac H55.out
 obtain ⟨hl6,x0,x1,x2,_,_,_⟩:=aac H65.out
 go_wp2_with fail
 obtain ⟨v1,v2⟩:=H.out.fill3 R3_.out HR5.out H55.out hf5 (.bool ng6) (.slice ao6 rs6.length cap6) (.slice bo6 ss6.length dap6)
 refine (HV.out _ _ v2 v1 (HOX.out.ru (adl H55.out _ _ _)).is).mono ?_
 rintro e w7 ⟨rfl,r1,r2,r3⟩
 have R1:=hide r1
 have R2:=hide (v2.wide.trans r2)
 have R4:=hide r3
 clear r1 r2 r3 v1 v2 x0 x1 x2 y0 y1 y2
 go_wp2
 refine bodyPost_ret (v:=_) (by simp [results,Tryz.results76,go_sem];try rfl) rfl ⟨rfl,R1.out,R2.out,R4.out⟩
inductive VarR (l:List Tk) (vs:List ByteArray) (L:Nat) (sn:Bool) (x:Rat) (rs:List Rat) (i:Nat):Bool→Nat→List Rat→Prop
 | no (t:Tk) (ht:l[i]? = some t) (hk:ixS t.text vs=none):VarR l vs L sn x rs i false i rs
 | yes (t:Tk) (k:Nat) (r:Rat) (ht:l[i]? = some t) (hk:ixS t.text vs=some k) (hr:rs[k]? = some r) (hx:Fit x L) (hf:Fit (r+sgq sn x) L):VarR l vs L sn x rs i true (i+1) (rs.set k (r+sgq sn x))
inductive TermR (l:List Tk) (vs:List ByteArray) (L:Nat) (sn:Bool) (rs:List Rat) (i:Nat):Bool→Nat→List Rat→Prop
 | other (t:Tk) (ht:l[i]? = some t) (h1:t.kind≠1) (h2:t.kind≠2):TermR l vs L sn rs i false i rs
 | name (t:Tk) (ht:l[i]? = some t) (h1:t.kind=1) (ok:Bool) (j:Nat) (rs' : List Rat) (hv:VarR l vs L sn 1 rs i ok j rs'):TermR l vs L sn rs i ok j rs'
 | bad (t:Tk) (ht:l[i]? = some t) (h1:t.kind=2) (j:Nat) (x:Rat) (hc:CoefR l i false j x):TermR l vs L sn rs i false j rs
 | alone (t:Tk) (ht:l[i]? = some t) (h1:t.kind=2) (j:Nat) (x:Rat) (hc:CoefR l i true j x) (hx:Fit x L) (t1:Tk) (ht1:l[j]? = some t1) (hs:tsg t1 sTimes=false) (hk1:t1.kind≠1) (r0:Rat) (hr:rs[vs.length]? = some r0) (hf:Fit (r0+sgq sn (-x)) L):TermR l vs L sn rs i true j (rs.set vs.length (r0+sgq sn (-x)))
 | star (t:Tk) (ht:l[i]? = some t) (h1:t.kind=2) (j:Nat) (x:Rat) (hc:CoefR l i true j x) (hx:Fit x L) (t1:Tk) (ht1:l[j]? = some t1) (hs:tsg t1 sTimes=true) (ok:Bool) (k:Nat) (rs' : List Rat) (hv:VarR l vs L sn x rs (j+1) ok k rs'):TermR l vs L sn rs i ok k rs'
 | next (t:Tk) (ht:l[i]? = some t) (h1:t.kind=2) (j:Nat) (x:Rat) (hc:CoefR l i true j x) (hx:Fit x L) (t1:Tk) (ht1:l[j]? = some t1) (hs:tsg t1 sTimes=false) (hk1:t1.kind=1) (ok:Bool) (k:Nat) (rs' : List Rat) (hv:VarR l vs L sn x rs j ok k rs'):TermR l vs L sn rs i ok k rs'
theorem CoefR.lt {l:List Tk} {i j:Nat} {x:Rat} (h:CoefR l i true j x):i<j:=by cases h <;> omega
theorem VarR.lt {l:List Tk} {vs:List ByteArray} {L:Nat} {sn:Bool} {x:Rat} {rs rs' : List Rat} {i j:Nat} (h:VarR l vs L sn x rs i true j rs'):i<j:=by cases h;omega
theorem TermR.lt {l:List Tk} {vs:List ByteArray} {L:Nat} {sn:Bool} {rs rs' : List Rat} {i j:Nat} (h:TermR l vs L sn rs i true j rs'):i<j:=by
 cases h with
 | name t ht h1 ok j rs' hv=>exact hv.lt
 | alone t ht h1 j x hc hx t1 ht1 hs hk1 r0 hr hf=>exact hc.lt
 | star t ht h1 j x hc hx t1 ht1 hs ok k rs' hv=>have:=hc.lt;have:=hv.lt;omega
 | next t ht h1 j x hc hx t1 ht1 hs hk1 ok k rs' hv=>have:=hc.lt;have:=hv.lt;omega
structure Env (w:World) (q b g:Nat) (tv uv:Value) (l:List Tk) (vs:List ByteArray) (L:Nat):Prop where
 tabs:Tabs w
 wf:Wf l
 nov:(⟨#[]⟩:ByteArray) ∉ vs
 hL:L≤10000
 hL1:1≤L
 qb:q≠b
 gq:g≠q
theorem af2 {w:World} {q b g:Nat} {tv uv:Value} {l:List Tk} {vs:List ByteArray} {L i j:Nat} {x:Rat} (E:Env w q b g tv uv l vs L) (h:Rea w q b tv uv l vs i) (hc:CoefR l i true j x) (hx:Fit x L) (W:World) (hb:Below w.heap.size w W) :
  Calls Tryz.prog 97 #[.pointer (some ⟨q,0,none⟩)] W fun e w'=>∃ v,e=.returned (.tuple #[v,.bool true])∧OutQr x L v w'∧Rea w' q b tv uv l vs j∧Rc q q W w' := by
 cases hc with
 | plain t t1 ht ht1 hs=>exact amp W (E.tabs.below hb) q b tv uv l E.wf vs i (h.below hb) t t1 ht ht1 hs L hx
 | over t t1 t2 ht ht1 hs ht2 hz=>exact apn W (E.tabs.below hb) q b tv uv l E.wf vs i (h.below hb) t t1 t2 ht ht1 hs ht2 hz L hx
theorem apr {w:World} {q b g:Nat} {tv uv:Value} {l:List Tk} {vs:List ByteArray} {L i j:Nat} {x:Rat} (E:Env w q b g tv uv l vs L) (h:Rea w q b tv uv l vs i) (hc:CoefR l i false j x) (W:World) (hb:Below w.heap.size w W) :
  Calls Tryz.prog 97 #[.pointer (some ⟨q,0,none⟩)] W fun e w'=>∃ v,e=.returned (.tuple #[v,.bool false])∧OutQr0 v∧Rea w' q b tv uv l vs j∧Rc q q W w' := by
 cases hc with
 | bad t t1 t2 ht ht1 hs ht2 hz=>exact ar9 W (E.tabs.below hb) q b tv uv l E.wf vs i (h.below hb) t t1 t2 ht ht1 hs ht2 hz
theorem ahh {w:World} {q b g:Nat} {tv uv:Value} {l:List Tk} {vs:List ByteArray} {L i j:Nat} {x:Rat} {sn ok:Bool} {rs rs' : List Rat} (E:Env w q b g tv uv l vs L) (hv:VarR l vs L sn x rs i ok j rs') {av:Value} (hA:AddV q b g w av sn) (hR:RQ w g b rs L) (W:World) (xv:Value) (hr:Rc q q w W) (h:Rea W q b tv uv l vs i) (hx:IsQ x L xv W) :
  Calls Tryz.prog 98 #[.pointer (some ⟨q,0,none⟩),xv,av] W fun e w'=>e=.returned (.bool ok)∧Rea w' q b tv uv l vs j∧Rc q b W w'∧RQ w' g b rs' L:=by
 have hR' := hR.rc hr E.gq (fun e=>E.qb e.symm)
 cases hv with
 | no t ht hk =>
  refine (awv W q b tv uv l vs i h t ht x L xv av hx hk).mono ?_
  rintro e w' ⟨rfl,h1,h2⟩
  exact ⟨rfl,h1,h2.wide,hR'.rc h2 E.gq (fun e=>E.qb e.symm)⟩
 | yes t k r ht hk hrk hfx hf =>
  have hj:i+1<l.length:=by
   have h1:=(List.getElem?_eq_some_iff.1 ht).1
   by_cases he:i+1=l.length
   ·have h2:=(E.wf.stop _ _ ht he).2
    rw [h2] at hk
    exact absurd (List.mem_of_getElem? (ayp hk)) E.nov
   ·omega
  exact aus W q b tv uv l vs i h t ht x L xv av hx g k rs r sn hk hj E.wf.len (hA.rc hr.wide) hR' hrk E.hL hfx hf E.qb E.gq
theorem ac2 (w:World) (q b g:Nat) (tv uv:Value) (l:List Tk) (vs:List ByteArray) (L:Nat) (E:Env w q b g tv uv l vs L) (sn ok:Bool) (rs rs' : List Rat) (i j:Nat) (ht:TermR l vs L sn rs i ok j rs') (av:Value) (hA:AddV q b g w av sn) (hR:RQ w g b rs L) (h:Rea w q b tv uv l vs i) :
  Calls Tryz.prog 76 #[.pointer (some ⟨q,0,none⟩),av] w fun e w'=>e=.returned (.bool ok)∧Rea w' q b tv uv l vs j∧Rc q b w w'∧RQ w' g b rs' L:=by
 cases ht with
 | other t ht h1 h2=>exact amq w E.tabs q b g tv uv l E.wf vs i h t ht L E.hL E.hL1 av sn hA rs hR E.qb E.gq h1 h2
 | name t ht h1 ok j rs' hv=>exact apo w E.tabs q b g tv uv l E.wf vs i h t ht L E.hL E.hL1 av sn hA rs hR E.qb E.gq h1 ok j rs' (ahh E hv hA hR)
 | bad t ht h1 j x hc=>exact asb w E.tabs q b g tv uv l E.wf vs i h t ht L E.hL E.hL1 av sn hA rs hR E.qb E.gq h1 j (apr E h hc)
 | alone t ht h1 j x hc hx t1 ht1 hs hk1 r0 hr hf=>exact amr w E.tabs q b g tv uv l E.wf vs i h t ht L E.hL E.hL1 av sn hA rs hR E.qb E.gq h1 j x r0 (af2 E h hc hx) t1 ht1 hs hk1 hr hx hf
 | star t ht h1 j x hc hx t1 ht1 hs ok k rs' hv=>exact app w E.tabs q b g tv uv l E.wf vs i h t ht L E.hL E.hL1 av sn hA rs hR E.qb E.gq h1 j x (af2 E h hc hx) t1 ht1 hs _ _ _ (ahh E hv hA hR)
 | next t ht h1 j x hc hx t1 ht1 hs hk1 ok k rs' hv=>exact apq w E.tabs q b g tv uv l E.wf vs i h t ht L E.hL E.hL1 av sn hA rs hR E.qb E.gq h1 j x (af2 E h hc hx) t1 ht1 hs hk1 _ _ _ (ahh E hv hA hR)
inductive SideL (l:List Tk) (vs:List ByteArray) (L:Nat) (sn:Bool):Bool→Nat→List Rat→Bool→Nat→List Rat→Prop
 | bad (m:Bool) (i j:Nat) (rs rs' : List Rat) (h:TermR l vs L (m != sn) rs i false j rs'):SideL l vs L sn m i rs false j rs'
 | last (m:Bool) (i j:Nat) (rs rs' : List Rat) (h:TermR l vs L (m != sn) rs i true j rs') (t:Tk) (ht:l[j]? = some t) (hp:tpm t=false):SideL l vs L sn m i rs true j rs'
 | more (m:Bool) (i j k:Nat) (rs rs' rs'' : List Rat) (ok:Bool) (h:TermR l vs L (m != sn) rs i true j rs') (t:Tk) (ht:l[j]? = some t) (hp:tpm t=true) (hr:SideL l vs L sn (tsg t sMinus) (j+1) rs' ok k rs''):SideL l vs L sn m i rs ok k rs''
def SideR (l:List Tk) (vs:List ByteArray) (L:Nat) (sn:Bool) (i:Nat) (rs:List Rat) (ok:Bool) (k:Nat) (rs' : List Rat):Prop:=∃ t,l[i]? = some t∧SideL l vs L sn (tsg t sMinus) (if tpm t then i+1 else i) rs ok k rs'
def nx (w:World) (q:Nat):Nat:=match w.cell? ⟨q,1,none⟩ with | some (.int _ z)=>z.toNat | _=>0
theorem Rea.nx {w:World} {q b:Nat} {tv uv:Value} {l:List Tk} {vs:List ByteArray} {i:Nat} (h:Rea w q b tv uv l vs i):nx w q=i:=by
 unfold Lm.nx
 rw [cell_of_row _ _ _ _ _ (0,0) h.blk]
 simp
theorem Env.rc {w w' : World} {q b g:Nat} {tv uv:Value} {l:List Tk} {vs:List ByteArray} {L i:Nat} {rs:List Rat} (E:Env w q b g tv uv l vs L) (h:Rea w q b tv uv l vs i) (hR:RQ w g b rs L) (hr:Rc q b w w'):Env w' q b g tv uv l vs L:=by
 refine ⟨E.tabs.rcs hr h.no8 ?_,E.wf,E.nov,E.hL,E.hL1,E.qb,E.gq⟩
 obtain ⟨es,e1,e2,e3⟩:=hR.row
 intro z
 rw [cell_of_row _ _ _ _ _ (0,0) e2,List.getElem?_toArray]
 cases es with
 | nil=>simp [rf3]
 | cons e es=>simp [rf3]
set_option maxRecDepth 20000 in
set_option maxHeartbeats 8000000 in
theorem ab3 (w:World) (q b g:Nat) (tv uv:Value) (l:List Tk) (vs:List ByteArray) (L:Nat) (E:Env w q b g tv uv l vs L) (sn ok:Bool) (rs rs' : List Rat) (i k:Nat) (hs:SideR l vs L sn i rs ok k rs') (av:Value) (hA:AddV q b g w av sn) (hR:RQ w g b rs L) (h:Rea w q b tv uv l vs i) :
  Calls Tryz.prog 50 #[.pointer (some ⟨q,0,none⟩),av] w fun e w'=>e=.returned (.bool ok)∧Rea w' q b tv uv l vs k∧Rc q b w w'∧RQ w' g b rs' L:=by
 obtain ⟨t,ht,hs⟩:=hs
 have K:=hide (aet w q b tv uv l vs i t h ht (fun h3=>E.wf.more ht (by rw [h3];decide)) E.wf.len)
 have HE:=hide E
 have HA:=hide hA
 have HR:=hide hR
 have H:=hide h
 have HS:=hide hs
 obtain ⟨j0,hj0⟩:∃ j0,(if tpm t=true then i+1 else i)=j0:=⟨_,rfl⟩
 rw [hj0] at K HS
 clear E hA hR h hs ht hj0
 generalize tsg t sMinus=m0 at K HS
 generalize tpm t=p0 at K
 go_enter Tryz.func50,Tryz.ntmps50
 go_wp2_with fail
 refine K.out.mono ?_
 rintro e w1 ⟨rfl,r1,r2⟩
 have H1:=hide r1
 have HC1:=hide (show Rc q b w w1 from r2.wide)
 have HQ1:=hide (HR.out.rc r2 HE.out.gq (fun e=>HE.out.qb e.symm))
 clear r1 r2 K
 go_wp2_with fail
 go_loopw [5,7] (fun mv ov wr=>Rc q b w wr∧((∃ m j rsj,mv=.bool m∧ov=.bool true∧SideL l vs L sn m j rsj ok k rs'∧Rea wr q b tv uv l vs j∧RQ wr g b rsj L)∨(∃ m,mv=.bool m∧ov=.bool false∧ok=true∧Rea wr q b tv uv l vs k∧RQ wr g b rs' L))) (fun _ ov wr=>(l.length - nx wr q)+(match ov with | .bool true=>1 | _=>0))
 case atStart=>exact ⟨HC1.out,.inl ⟨m0,j0,rs,rfl,rfl,HS.out,H1.out,HQ1.out⟩⟩
 case round =>
  obtain ⟨hrc,⟨m,j,rsj,rfl,rfl,hsl,hrea,hrq⟩ | ⟨m,rfl,rfl,rfl,hrea,hrq⟩⟩:=hrel
  ·have HC:=hide hrc
   have HSL:=hide hsl
   have HRE:=hide hrea
   have HRQ:=hide hrq
   clear hrc hsl hrea hrq
   cases m with
   | false =>
    have HEr:=hide (HE.out.rc H.out HR.out HC.out)
    have HAr:=hide (HA.out.rc HC.out)
    cases HSL.out with
    | bad _ _ j' _ _ hterm =>
     rw [show (false != sn)=sn from by cases sn <;> rfl] at hterm
     have HTM:=hide hterm
     clear hterm HSL
     have HA2:=HAr
     have HC2:=HC
     have HRE2:=HRE
     have HRQ2:=HRQ
     have HE2:=HEr
     go_wp2_with fail
     refine (ac2 wr q b g tv uv l vs L HE2.out sn false rsj rs' j k HTM.out av HA2.out HRQ2.out HRE2.out).mono ?_
     rintro e w3 ⟨rfl,r1,r2,r3⟩
     have R1:=hide r1
     have R2:=hide (HC2.out.trans r2)
     have R3' := hide r3
     clear r1 r2 r3
     go_wp2
     refine bodyPost_ret (v:=_) (by simp [results,Tryz.results50,go_sem];try rfl) rfl ⟨rfl,R1.out,R2.out,R3'.out⟩
    | last _ _ j' _ _ hterm t ht hp =>
     have hlt:=hterm.lt
     rw [show (false != sn)=sn from by cases sn <;> rfl] at hterm
     have HTM:=hide hterm
     have HT:=hide ht
     have HP:=hide hp
     clear hterm ht hp HSL
     have HA2:=HAr
     have HC2:=HC
     have HRE2:=HRE
     have HRQ2:=HRQ
     have HE2:=HEr
     go_wp2_with fail
     refine (ac2 wr q b g tv uv l vs L HE2.out sn true rsj rs' j k HTM.out av HA2.out HRQ2.out HRE2.out).mono ?_
     rintro e w3 ⟨rfl,r1,r2,r3⟩
     have K2:=aet w3 q b tv uv l vs k t r1 HT.out (fun h3=>HE.out.wf.more HT.out (by rw [h3];decide)) HE.out.wf.len
     rw [HP.out] at K2
     have K2:=hide K2
     have R2:=hide (HC2.out.trans r2)
     have R3' := hide r3
     clear r1 r2 r3
     go_wp2_with fail
     refine K2.out.mono ?_
     rintro e w4 ⟨rfl,s1,s2⟩
     have S1:=hide s1
     have S2:=hide (R2.out.trans s2.wide)
     have S3:=hide (R3'.out.rc s2 HE.out.gq (fun e=>HE.out.qb e.symm))
     clear s1 s2 K2
     go_wp2
     go_roundw
     case rel=>exact ⟨S2.out,.inr ⟨_,rfl,rfl,trivial,S1.out,S3.out⟩⟩
     case measure =>
      have e1:=S1.out.nx
      have e2:=HRE.out.nx
      have e3:=HRE.out.lt
      rw [if_neg (by decide)] at e1
      simp only [e1,e2]
      omega
    | more _ _ j' _ _ rs'' _ _ hterm t ht hp hr =>
     have hlt:=hterm.lt
     rw [show (false != sn)=sn from by cases sn <;> rfl] at hterm
     have HTM:=hide hterm
     have HT:=hide ht
     have HP:=hide hp
     have HNX:=hide hr
     clear hr
     clear hterm ht hp HSL
     have HA2:=HAr
     have HC2:=HC
     have HRE2:=HRE
     have HRQ2:=HRQ
     have HE2:=HEr
     go_wp2_with fail
     refine (ac2 wr q b g tv uv l vs L HE2.out sn true rsj rs'' j j' HTM.out av HA2.out HRQ2.out HRE2.out).mono ?_
     rintro e w3 ⟨rfl,r1,r2,r3⟩
     have K2:=aet w3 q b tv uv l vs j' t r1 HT.out (fun h3=>HE.out.wf.more HT.out (by rw [h3];decide)) HE.out.wf.len
     rw [HP.out] at K2
     have K2:=hide K2
     have R2:=hide (HC2.out.trans r2)
     have R3' := hide r3
     clear r1 r2 r3
     go_wp2_with fail
     refine K2.out.mono ?_
     rintro e w4 ⟨rfl,s1,s2⟩
     have S1:=hide s1
     have S2:=hide (R2.out.trans s2.wide)
     have S3:=hide (R3'.out.rc s2 HE.out.gq (fun e=>HE.out.qb e.symm))
     clear s1 s2 K2
     go_wp2
     go_roundw
     case rel=>exact ⟨S2.out,.inl ⟨_,_,_,rfl,rfl,HNX.out,S1.out,S3.out⟩⟩
     case measure =>
      have e1:=S1.out.nx
      have e2:=HRE.out.nx
      have e3:=HRE.out.lt
      rw [if_pos trivial] at e1
      simp only [e1,e2]
      omega
   | true =>
    have HEr:=hide (HE.out.rc H.out HR.out HC.out)
    have HAr:=hide (HA.out.rc HC.out)
    cases HSL.out with
    | bad _ _ j' _ _ hterm =>
     rw [show (true != sn)=(!sn) from by cases sn <;> rfl] at hterm
     have HTM:=hide hterm
     clear hterm HSL
     go_wp2_with fail
     refine (acn wr av q b g sn HAr.out (aaa HRE.out.blk) (aaa HRQ.out.row.choose_spec.2.1)).mono ?_
     rintro e w2 ⟨uv2,rfl,ha2,hb2⟩
     have HA2:=hide ha2
     have HC2:=hide (HC.out.trans (.of_below hb2))
     have HRE2:=hide (HRE.out.below hb2)
     have HRQ2:=hide (HRQ.out.below hb2)
     have HE2:=hide (HEr.out.rc HRE.out HRQ.out (.of_below hb2))
     clear ha2 hb2
     go_wp2_with fail
     refine (ac2 w2 q b g tv uv l vs L HE2.out (!sn) false rsj rs' j k HTM.out uv2 HA2.out HRQ2.out HRE2.out).mono ?_
     rintro e w3 ⟨rfl,r1,r2,r3⟩
     have R1:=hide r1
     have R2:=hide (HC2.out.trans r2)
     have R3' := hide r3
     clear r1 r2 r3
     go_wp2
     refine bodyPost_ret (v:=_) (by simp [results,Tryz.results50,go_sem];try rfl) rfl ⟨rfl,R1.out,R2.out,R3'.out⟩
    | last _ _ j' _ _ hterm t ht hp =>
     have hlt:=hterm.lt
     rw [show (true != sn)=(!sn) from by cases sn <;> rfl] at hterm
     have HTM:=hide hterm
     have HT:=hide ht
     have HP:=hide hp
     clear hterm ht hp HSL
     go_wp2_with fail
     refine (acn wr av q b g sn HAr.out (aaa HRE.out.blk) (aaa HRQ.out.row.choose_spec.2.1)).mono ?_
     rintro e w2 ⟨uv2,rfl,ha2,hb2⟩
     have HA2:=hide ha2
     have HC2:=hide (HC.out.trans (.of_below hb2))
     have HRE2:=hide (HRE.out.below hb2)
     have HRQ2:=hide (HRQ.out.below hb2)
     have HE2:=hide (HEr.out.rc HRE.out HRQ.out (.of_below hb2))
     clear ha2 hb2
     go_wp2_with fail
     refine (ac2 w2 q b g tv uv l vs L HE2.out (!sn) true rsj rs' j k HTM.out uv2 HA2.out HRQ2.out HRE2.out).mono ?_
     rintro e w3 ⟨rfl,r1,r2,r3⟩
     have K2:=aet w3 q b tv uv l vs k t r1 HT.out (fun h3=>HE.out.wf.more HT.out (by rw [h3];decide)) HE.out.wf.len
     rw [HP.out] at K2
     have K2:=hide K2
     have R2:=hide (HC2.out.trans r2)
     have R3' := hide r3
     clear r1 r2 r3
     go_wp2_with fail
     refine K2.out.mono ?_
     rintro e w4 ⟨rfl,s1,s2⟩
     have S1:=hide s1
     have S2:=hide (R2.out.trans s2.wide)
     have S3:=hide (R3'.out.rc s2 HE.out.gq (fun e=>HE.out.qb e.symm))
     clear s1 s2 K2
     go_wp2
     go_roundw
     case rel=>exact ⟨S2.out,.inr ⟨_,rfl,rfl,trivial,S1.out,S3.out⟩⟩
     case measure =>
      have e1:=S1.out.nx
      have e2:=HRE.out.nx
      have e3:=HRE.out.lt
      rw [if_neg (by decide)] at e1
      simp only [e1,e2]
      omega
    | more _ _ j' _ _ rs'' _ _ hterm t ht hp hr =>
     have hlt:=hterm.lt
     rw [show (true != sn)=(!sn) from by cases sn <;> rfl] at hterm
     have HTM:=hide hterm
     have HT:=hide ht
     have HP:=hide hp
     have HNX:=hide hr
     clear hr
     clear hterm ht hp HSL
     go_wp2_with fail
     refine (acn wr av q b g sn HAr.out (aaa HRE.out.blk) (aaa HRQ.out.row.choose_spec.2.1)).mono ?_
     rintro e w2 ⟨uv2,rfl,ha2,hb2⟩
     have HA2:=hide ha2
     have HC2:=hide (HC.out.trans (.of_below hb2))
     have HRE2:=hide (HRE.out.below hb2)
     have HRQ2:=hide (HRQ.out.below hb2)
     have HE2:=hide (HEr.out.rc HRE.out HRQ.out (.of_below hb2))
     clear ha2 hb2
     go_wp2_with fail
     refine (ac2 w2 q b g tv uv l vs L HE2.out (!sn) true rsj rs'' j j' HTM.out uv2 HA2.out HRQ2.out HRE2.out).mono ?_
     rintro e w3 ⟨rfl,r1,r2,r3⟩
     have K2:=aet w3 q b tv uv l vs j' t r1 HT.out (fun h3=>HE.out.wf.more HT.out (by rw [h3];decide)) HE.out.wf.len
     rw [HP.out] at K2
     have K2:=hide K2
     have R2:=hide (HC2.out.trans r2)
     have R3' := hide r3
     clear r1 r2 r3
     go_wp2_with fail
     refine K2.out.mono ?_
     rintro e w4 ⟨rfl,s1,s2⟩
     have S1:=hide s1
     have S2:=hide (R2.out.trans s2.wide)
     have S3:=hide (R3'.out.rc s2 HE.out.gq (fun e=>HE.out.qb e.symm))
     clear s1 s2 K2
     go_wp2
     go_roundw
     case rel=>exact ⟨S2.out,.inl ⟨_,_,_,rfl,rfl,HNX.out,S1.out,S3.out⟩⟩
     case measure =>
      have e1:=S1.out.nx
      have e2:=HRE.out.nx
      have e3:=HRE.out.lt
      rw [if_pos trivial] at e1
      simp only [e1,e2]
      omega
  ·have HC:=hide hrc
   have HRE:=hide hrea
   have HRQ:=hide hrq
   clear hrc hrea hrq
   go_wp2
   refine bodyPost_ret (v:=_) (by simp [results,Tryz.results50,go_sem];try rfl) rfl ⟨rfl,HRE.out,HC.out,HRQ.out⟩
inductive EqR (l:List Tk) (vs:List ByteArray) (L:Nat) (i:Nat) (rs:List Rat):Bool→Nat→List Rat→Prop
 | bad1 (k:Nat) (rs1:List Rat) (h:SideR l vs L false i rs false k rs1):EqR l vs L i rs false k rs1
 | bad2 (k:Nat) (rs1:List Rat) (t:Tk) (h:SideR l vs L false i rs true k rs1) (ht:l[k]? = some t) (hs:tsg t sEq=false):EqR l vs L i rs false k rs1
 | bad3 (k:Nat) (rs1:List Rat) (t:Tk) (h:SideR l vs L false i rs true k rs1) (ht:l[k]? = some t) (hs:tsg t sEq=true) (k2:Nat) (rs2:List Rat) (h2:SideR l vs L true (k+1) rs1 false k2 rs2):EqR l vs L i rs false k2 rs2
 | bad4 (k:Nat) (rs1:List Rat) (t:Tk) (h:SideR l vs L false i rs true k rs1) (ht:l[k]? = some t) (hs:tsg t sEq=true) (k2:Nat) (rs2:List Rat) (h2:SideR l vs L true (k+1) rs1 true k2 rs2) (t2:Tk) (ht2:l[k2]? = some t2) (hk:t2.kind≠0):EqR l vs L i rs false k2 rs2
 | good (k:Nat) (rs1:List Rat) (t:Tk) (h:SideR l vs L false i rs true k rs1) (ht:l[k]? = some t) (hs:tsg t sEq=true) (k2:Nat) (rs2:List Rat) (h2:SideR l vs L true (k+1) rs1 true k2 rs2) (t2:Tk) (ht2:l[k2]? = some t2) (hk:t2.kind=0):EqR l vs L i rs true k2 rs2
set_option maxRecDepth 20000 in
set_option maxHeartbeats 8000000 in
theorem aj1 (w:World) (q b g:Nat) (tv uv:Value) (l:List Tk) (vs:List ByteArray) (L:Nat) (E:Env w q b g tv uv l vs L) (ok:Bool) (rs rs' : List Rat) (i k:Nat) (he:EqR l vs L i rs ok k rs') (av:Value) (hA:AddV q b g w av false) (hR:RQ w g b rs L) (h:Rea w q b tv uv l vs i) :
  Calls Tryz.prog 25 #[.pointer (some ⟨q,0,none⟩),av] w fun e w'=>e=.returned (.bool ok)∧Rea w' q b tv uv l vs k∧Rc q b w w'∧RQ w' g b rs' L:=by
 have HE:=hide E
 have HA:=hide hA
 have HR:=hide hR
 have H:=hide h
 clear E hA hR h
 cases he with
 | bad1 _ _ hs1 =>
  have HS1:=hide hs1
  clear hs1
  go_enter Tryz.func25,Tryz.ntmps25
  go_wp2_with fail
  refine (ab3 w q b g tv uv l vs L HE.out false false rs rs' i k HS1.out av HA.out HR.out H.out).mono ?_
  rintro e w1 ⟨rfl,r1,r2,r3⟩
  have R1:=hide r1
  have C1:=hide r2
  have Q1:=hide r3
  clear r1 r2 r3
  go_wp2
  refine bodyPost_ret (v:=_) (by simp [results,Tryz.results25,go_sem];try rfl) rfl ⟨rfl,R1.out,C1.out,Q1.out⟩
 | bad2 _ _ t hs1 ht hsg =>
  have HT:=hide ht
  have HSG:=hide hsg
  clear ht hsg
  have HS1:=hide hs1
  clear hs1
  go_enter Tryz.func25,Tryz.ntmps25
  go_wp2_with fail
  refine (ab3 w q b g tv uv l vs L HE.out false true rs rs' i k HS1.out av HA.out HR.out H.out).mono ?_
  rintro e w1 ⟨rfl,r1,r2,r3⟩
  have R1:=hide r1
  have C1:=hide r2
  have Q1:=hide r3
  clear r1 r2 r3
  have K:=abd w1 q b tv uv l vs k t R1.out HT.out sEq (fun h3=>HE.out.wf.more HT.out (by rw [h3];decide)) HE.out.wf.len
  rw [HSG.out] at K
  unfold sEq at K
  have K:=hide K
  go_wp2_with fail
  refine K.out.mono ?_
  rintro e w2 ⟨rfl,s1,s2⟩
  have R2:=hide s1
  have C2:=hide (C1.out.trans s2.wide)
  have Q2:=hide (Q1.out.rc s2 HE.out.gq (fun e=>HE.out.qb e.symm))
  clear s1 s2 K
  go_wp2
  refine bodyPost_ret (v:=_) (by simp [results,Tryz.results25,go_sem];try rfl) rfl ⟨rfl,R2.out,C2.out,Q2.out⟩
 | bad3 k1 rs1 t hs1 ht hsg _ _ hs2 =>
  have HT:=hide ht
  have HSG:=hide hsg
  clear ht hsg
  have HS2:=hide hs2
  clear hs2
  have HS1:=hide hs1
  clear hs1
  go_enter Tryz.func25,Tryz.ntmps25
  go_wp2_with fail
  refine (ab3 w q b g tv uv l vs L HE.out false true rs rs1 i k1 HS1.out av HA.out HR.out H.out).mono ?_
  rintro e w1 ⟨rfl,r1,r2,r3⟩
  have R1:=hide r1
  have C1:=hide r2
  have Q1:=hide r3
  clear r1 r2 r3
  have K:=abd w1 q b tv uv l vs k1 t R1.out HT.out sEq (fun h3=>HE.out.wf.more HT.out (by rw [h3];decide)) HE.out.wf.len
  rw [HSG.out] at K
  unfold sEq at K
  have K:=hide K
  go_wp2_with fail
  refine K.out.mono ?_
  rintro e w2 ⟨rfl,s1,s2⟩
  have R2:=hide s1
  have C2:=hide (C1.out.trans s2.wide)
  have Q2:=hide (Q1.out.rc s2 HE.out.gq (fun e=>HE.out.qb e.symm))
  clear s1 s2 K
  rw [if_pos trivial] at R2
  have HE2:=hide (HE.out.rc H.out HR.out C2.out)
  go_wp2_with fail
  refine (acn w2 av q b g false (HA.out.rc C2.out) (aaa R2.out.blk) (aaa Q2.out.row.choose_spec.2.1)).mono ?_
  rintro e w3 ⟨u3,rfl,ha3,hb3⟩
  have HA3:=hide ha3
  have R3:=hide (R2.out.below hb3)
  have C3:=hide (C2.out.trans (.of_below hb3))
  have Q3:=hide (Q2.out.below hb3)
  have HE3:=hide (HE2.out.rc R2.out Q2.out (.of_below hb3))
  clear ha3 hb3
  go_wp2_with fail
  refine (ab3 w3 q b g tv uv l vs L HE3.out true false rs1 rs' (k1+1) k HS2.out u3 HA3.out Q3.out R3.out).mono ?_
  rintro e w4 ⟨rfl,r1,r2,r3⟩
  have R4:=hide r1
  have C4:=hide (C3.out.trans r2)
  have QE4:=hide r3
  clear r1 r2 r3
  go_wp2
  refine bodyPost_ret (v:=_) (by simp [results,Tryz.results25,go_sem];try rfl) rfl ⟨rfl,R4.out,C4.out,QE4.out⟩
 | bad4 k1 rs1 t hs1 ht hsg _ _ hs2 t2 ht2 hk =>
  have HT:=hide ht
  have HSG:=hide hsg
  clear ht hsg
  have HS2:=hide hs2
  have HT2:=hide ht2
  have HK:=hide hk
  clear hs2 ht2 hk
  have HS1:=hide hs1
  clear hs1
  go_enter Tryz.func25,Tryz.ntmps25
  go_wp2_with fail
  refine (ab3 w q b g tv uv l vs L HE.out false true rs rs1 i k1 HS1.out av HA.out HR.out H.out).mono ?_
  rintro e w1 ⟨rfl,r1,r2,r3⟩
  have R1:=hide r1
  have C1:=hide r2
  have Q1:=hide r3
  clear r1 r2 r3
  have K:=abd w1 q b tv uv l vs k1 t R1.out HT.out sEq (fun h3=>HE.out.wf.more HT.out (by rw [h3];decide)) HE.out.wf.len
  rw [HSG.out] at K
  unfold sEq at K
  have K:=hide K
  go_wp2_with fail
  refine K.out.mono ?_
  rintro e w2 ⟨rfl,s1,s2⟩
  have R2:=hide s1
  have C2:=hide (C1.out.trans s2.wide)
  have Q2:=hide (Q1.out.rc s2 HE.out.gq (fun e=>HE.out.qb e.symm))
  clear s1 s2 K
  rw [if_pos trivial] at R2
  have HE2:=hide (HE.out.rc H.out HR.out C2.out)
  go_wp2_with fail
  refine (acn w2 av q b g false (HA.out.rc C2.out) (aaa R2.out.blk) (aaa Q2.out.row.choose_spec.2.1)).mono ?_
  rintro e w3 ⟨u3,rfl,ha3,hb3⟩
  have HA3:=hide ha3
  have R3:=hide (R2.out.below hb3)
  have C3:=hide (C2.out.trans (.of_below hb3))
  have Q3:=hide (Q2.out.below hb3)
  have HE3:=hide (HE2.out.rc R2.out Q2.out (.of_below hb3))
  clear ha3 hb3
  go_wp2_with fail
  refine (ab3 w3 q b g tv uv l vs L HE3.out true true rs1 rs' (k1+1) k HS2.out u3 HA3.out Q3.out R3.out).mono ?_
  rintro e w4 ⟨rfl,r1,r2,r3⟩
  have R4:=hide r1
  have C4:=hide (C3.out.trans r2)
  have QE4:=hide r3
  clear r1 r2 r3
  have hf0:∀ W,(Instr.field 64 (.agg #[.int .i64 t2.kind,.string t2.text,.int .i64 t2.pl.b,.int .i64 t2.pl.g,.int .i64 t2.pl.l,.int .i64 t2.pl.c]) 0).run Tryz.prog W=.ok (.int .i64 t2.kind) W:=fun W=>ade _ _ _ _ _ _ W
  go_wp2_with fail
  refine (aa0 w4 q b tv uv l vs k t2 R4.out HT2.out).mono ?_
  rintro e w5 ⟨rfl,hb5⟩
  have R5:=hide (R4.out.below hb5)
  have C5:=hide (C4.out.trans (.of_below hb5))
  have Q5:=hide (QE4.out.below hb5)
  unfold Tk.av
  clear hb5
  have hk0:(t2.kind == 0)=false:=beq_eq_false_iff_ne.2 HK.out
  go_wp2
  refine bodyPost_ret (v:=_) (by simp [results,Tryz.results25,go_sem];try rfl) rfl ⟨rfl,R5.out,C5.out,Q5.out⟩
 | good k1 rs1 t hs1 ht hsg _ _ hs2 t2 ht2 hk =>
  have HT:=hide ht
  have HSG:=hide hsg
  clear ht hsg
  have HS2:=hide hs2
  have HT2:=hide ht2
  have HK:=hide hk
  clear hs2 ht2 hk
  have HS1:=hide hs1
  clear hs1
  go_enter Tryz.func25,Tryz.ntmps25
  go_wp2_with fail
  refine (ab3 w q b g tv uv l vs L HE.out false true rs rs1 i k1 HS1.out av HA.out HR.out H.out).mono ?_
  rintro e w1 ⟨rfl,r1,r2,r3⟩
  have R1:=hide r1
  have C1:=hide r2
  have Q1:=hide r3
  clear r1 r2 r3
  have K:=abd w1 q b tv uv l vs k1 t R1.out HT.out sEq (fun h3=>HE.out.wf.more HT.out (by rw [h3];decide)) HE.out.wf.len
  rw [HSG.out] at K
  unfold sEq at K
  have K:=hide K
  go_wp2_with fail
  refine K.out.mono ?_
  rintro e w2 ⟨rfl,s1,s2⟩
  have R2:=hide s1
  have C2:=hide (C1.out.trans s2.wide)
  have Q2:=hide (Q1.out.rc s2 HE.out.gq (fun e=>HE.out.qb e.symm))
  clear s1 s2 K
  rw [if_pos trivial] at R2
  have HE2:=hide (HE.out.rc H.out HR.out C2.out)
  go_wp2_with fail
  refine (acn w2 av q b g false (HA.out.rc C2.out) (aaa R2.out.blk) (aaa Q2.out.row.choose_spec.2.1)).mono ?_
  rintro e w3 ⟨u3,rfl,ha3,hb3⟩
  have HA3:=hide ha3
  have R3:=hide (R2.out.below hb3)
  have C3:=hide (C2.out.trans (.of_below hb3))
  have Q3:=hide (Q2.out.below hb3)
  have HE3:=hide (HE2.out.rc R2.out Q2.out (.of_below hb3))
  clear ha3 hb3
  go_wp2_with fail
  refine (ab3 w3 q b g tv uv l vs L HE3.out true true rs1 rs' (k1+1) k HS2.out u3 HA3.out Q3.out R3.out).mono ?_
  rintro e w4 ⟨rfl,r1,r2,r3⟩
  have R4:=hide r1
  have C4:=hide (C3.out.trans r2)
  have QE4:=hide r3
  clear r1 r2 r3
  have hf0:∀ W,(Instr.field 64 (.agg #[.int .i64 t2.kind,.string t2.text,.int .i64 t2.pl.b,.int .i64 t2.pl.g,.int .i64 t2.pl.l,.int .i64 t2.pl.c]) 0).run Tryz.prog W=.ok (.int .i64 t2.kind) W:=fun W=>ade _ _ _ _ _ _ W
  go_wp2_with fail
  refine (aa0 w4 q b tv uv l vs k t2 R4.out HT2.out).mono ?_
  rintro e w5 ⟨rfl,hb5⟩
  have R5:=hide (R4.out.below hb5)
  have C5:=hide (C4.out.trans (.of_below hb5))
  have Q5:=hide (QE4.out.below hb5)
  unfold Tk.av
  clear hb5
  have hk0:(t2.kind == 0)=true:=beq_iff_eq.2 HK.out
  go_wp2
  refine bodyPost_ret (v:=_) (by simp [results,Tryz.results25,go_sem];try rfl) rfl ⟨rfl,R5.out,C5.out,Q5.out⟩
theorem alh (p:Gl→Bool) (l:List Gl):(l.dropWhile p).length≤l.length:=by
 induction l with
 | nil=>simp
 | cons x l ih =>
  simp only [List.dropWhile_cons]
  split
  ·simp only [List.length_cons];omega
  ·exact Nat.le_refl _
theorem asc {s:ByteArray} {e:Pl} {g:Gl} {r:List Gl} {k:Int} {x:ByteArray} {t:List Gl} (h:TokR s e g r (.ok k x t)):t.length≤r.length∧k≠0:=by
 unfold TokR at h
 split at h
 ·next h2 =>
  split at h
  ·cases h
  ·injection h with h1 h3 h4
   subst h1 h4
   refine ⟨?_,by decide⟩
   rw [List.dropWhile_cons,if_pos (by simp [inC,h2])]
   exact alh _ _
 ·split at h
  ·next h2 =>
   obtain ⟨n,ds,_,_,h⟩:=h
   split at h
   ·cases h
   ·injection h with h1 h3 h4
    subst h1 h4
    refine ⟨?_,by decide⟩
    rw [List.dropWhile_cons,if_pos (by simp [inC,h2])]
    exact alh _ _
  ·split at h
   ·unfold signS at h
    split at h
    ·injection h with h1 h3 h4
     subst h1 h4
     exact ⟨Nat.le_refl _,by decide⟩
    ·split at h
     ·injection h with h1 h3 h4
      subst h1 h4
      exact ⟨Nat.le_refl _,by decide⟩
     ·split at h
      ·cases r with
       | nil=>cases h
       | cons y r =>
        simp only at h
        split at h
        ·injection h with h1 h3 h4
         subst h1 h4
         exact ⟨by simp,by decide⟩
        ·cases h
      ·injection h with h1 h3 h4
       subst h1 h4
       exact ⟨Nat.le_refl _,by decide⟩
   ·cases h
theorem aut {s:ByteArray} {e:Pl} {r:List Gl} {o:SO} (h:ScanR s e r o):∀ l,o=.ok l→l.length≤r.length+1∧0<l.length∧∀ (i:Nat) (t:Tk),l[i]? = some t→i+1=l.length→t.kind=0∧t.text=⟨#[]⟩:=by
 induction h with
 | done r h hb =>
  intro l hl
  injection hl with hl
  subst hl
  refine ⟨by simp,by simp,fun i t ht hi=>?_⟩
  have:i=0:=by simpa using hi
  subst this
  simp at ht
  subst ht
  exact ⟨rfl,rfl⟩
 | rune r h hb=>intro l hl;cases hl
 | bad r g t k h ht=>intro l hl;cases hl
 | tok r g t kind text rest o h ht hr ih =>
  intro l hl
  cases o with
  | bad k p=>cases hl
  | ok l' =>
   injection hl with hl
   subst hl
   obtain ⟨i1,i0,i2⟩:=ih l' rfl
   have h1:=(asc ht).1
   obtain ⟨j,hj,hd⟩:=aui false r
   have h2:t.length+1≤r.length:=by
    have:(g :: t).length=r.length - j:=by rw [←h,hd,List.length_drop]
    simp at this
    omega
   refine ⟨by simp only [List.length_cons];omega,by simp,fun i u hu hi=>?_⟩
   cases i with
   | zero=>simp only [List.length_cons] at hi;omega
   | succ i=>exact i2 i u (by simpa using hu) (by simp only [List.length_cons] at hi;omega)
theorem aps {s:ByteArray} {e:Pl} {gs:List Gl} {l:List Tk} (hs:s.size≤4096) (hQ:Snd s pl0 gs e) (hR:ScanR s e gs (.ok l)):Wf l∧0<l.length:=by
 obtain ⟨h1,h0,h2⟩:=aut hR l rfl
 have h3:=hQ.ends ad3 (Nat.zero_le _)
 have:pl0.b=0:=rfl
 exact ⟨⟨by omega,h2⟩,h0⟩
theorem ani {fn:Func} {a:Act} {w:World} {k k' m g:Nat} {v v' x0 x1 x2 x3:Value} (hr:fn.results = #[.tmp k,.tmp k',.cell m 32]) (h1:a.eval (.tmp k)=v) (h2:a.eval (.tmp k')=v') (h3:a.eval (.tmp m)=.pointer (some ⟨g,0,none⟩)) (hh:w.heap[g]? = some (.cells #[x0,x1,x2,x3] 32 (0,0))):(results fn a.tmps).run Tryz.prog w=.ok (.tuple #[v,v',.agg #[x0,x1,x2,x3]]) w:=by
 have e1:a.tmps[k]?.getD undef=v:=by simpa [Act.eval] using h1
 have e2:a.tmps[k']?.getD undef=v' := by simpa [Act.eval] using h2
 have e3:a.tmps[m]?.getD undef=.pointer (some ⟨g,0,none⟩):=by simpa [Act.eval] using h3
 have c0:w.cell? ⟨g,0,none⟩ = some x0:=by rw [cell_of_row _ _ _ _ _ (0,0) hh];rfl
 have c1:w.cell? ⟨g,1,none⟩ = some x1:=by rw [cell_of_row _ _ _ _ _ (0,0) hh];rfl
 have c2:w.cell? ⟨g,2,none⟩ = some x2:=by rw [cell_of_row _ _ _ _ _ (0,0) hh];rfl
 have c3:w.cell? ⟨g,3,none⟩ = some x3:=by rw [cell_of_row _ _ _ _ _ (0,0) hh];rfl
 simp [results,hr,e1,e2,e3,go_sem,c0,c1,c2,c3,asAddr]
theorem asd {W:World} {f:Nat} {x y z t:Value} {T:TypeId} (h:W.heap[f]? = some (.cells #[x,y,z,t] T (0,0))) (a b c d:Value):((((W.setCell ⟨f,0,none⟩ a).setCell ⟨f,1,none⟩ b).setCell ⟨f,2,none⟩ c).setCell ⟨f,3,none⟩ d).heap[f]? = some (.cells #[a,b,c,d] T (0,0)):=by
 have s1:=heap_setCell_same W f 0 _ _ a h
 have s2:=heap_setCell_same _ f 1 _ _ b s1
 have s3:=heap_setCell_same _ f 2 _ _ c s2
 have s4:=heap_setCell_same _ f 3 _ _ d s3
 rw [s4]
 simp
theorem azm {W:World} {f:Nat} {x y z t:Int} (h:W.heap[f]? = some (.cells #[.int .i64 x,.int .i64 y,.int .i64 z,.int .i64 t] 32 (0,0))) (a b c d:Value):Ru W ((((W.setCell ⟨f,0,none⟩ a).setCell ⟨f,1,none⟩ b).setCell ⟨f,2,none⟩ c).setCell ⟨f,3,none⟩ d):=by
 refine Ru.of_one h (by decide) ?_ (by simp [World.setCell]) (fun k _ hn=>by rw [heap_setCell_other _ ⟨f,3,none⟩ k _ hn,heap_setCell_other _ ⟨f,2,none⟩ k _ hn,heap_setCell_other _ ⟨f,1,none⟩ k _ hn,heap_setCell_other _ ⟨f,0,none⟩ k _ hn])
 intro i z
 match i with
 | 0=>simp
 | 1=>simp
 | 2=>simp
 | 3=>simp
 | i+4=>simp
theorem afe {W:World} {f:Nat} {x y z t:Value} {T:TypeId} (h:W.heap[f]? = some (.cells #[x,y,z,t] T (0,0))):f<W.heap.size∧W.cell? ⟨f,0,none⟩ = some x∧W.cell? ⟨f,1,none⟩ = some y∧W.cell? ⟨f,2,none⟩ = some z∧W.cell? ⟨f,3,none⟩ = some t∧W.frozen? ⟨f,0,none⟩ = false∧W.frozen? ⟨f,1,none⟩ = false∧W.frozen? ⟨f,2,none⟩ = false∧W.frozen? ⟨f,3,none⟩ = false:=⟨aaa h,by rw [cell_of_row _ _ _ _ _ (0,0) h];rfl,by rw [cell_of_row _ _ _ _ _ (0,0) h];rfl,by rw [cell_of_row _ _ _ _ _ (0,0) h];rfl,by rw [cell_of_row _ _ _ _ _ (0,0) h];rfl,frozen_of_row _ _ _ _ _ h,frozen_of_row _ _ _ _ _ h,frozen_of_row _ _ _ _ _ h,frozen_of_row _ _ _ _ _ h⟩
theorem auu {w:World} {g b n:Nat} {L:Nat} (hg:w.heap[g]? = some (.cells #[.slice (some ⟨b,0,none⟩) n n] 35 (0,0))) (hb:w.heap[b]? = some (.cells (rf3 (List.replicate n ⟨false,none,0,0,none,0,0⟩)).toArray 40 (0,0))) (hne:g≠b):RQ w g b (List.replicate n 0) L:=by
 refine ⟨by simpa using hg,⟨_,by simp,hb,fun i e r he hr=>?_⟩,hne⟩
 obtain rfl:=List.eq_of_mem_replicate (List.mem_of_getElem? he)
 obtain rfl:=List.eq_of_mem_replicate (List.mem_of_getElem? hr)
 exact ⟨0,0,⟨_,_,_,_,[],_,_,_,[],rfl,⟨afn w,rfl⟩,afn w,rfl,by simp,by simp⟩,Rat.divInt_zero 0⟩
set_option maxRecDepth 20000 in
set_option maxHeartbeats 8000000 in
theorem afj (w:World) (hT:Tabs w) (s:ByteArray) (hs:s.size≤4096) (v:Value) (vs:List ByteArray) (hv:Strs w v vs) (hN:NmsOk vs) (gs:List Gl) (e:Pl) (l:List Tk) (hQ:Snd s pl0 gs e) (hR:ScanR s e gs (.ok l)) (L M:Nat) (hL:L≤10000) (hL1:1≤L) (hM:M≤100000) (k:Nat) (rs:List Rat) (hE:EqR l vs L 0 (List.replicate (vs.length+1) 0) true k rs) (hrl:rs.length=vs.length+1) (hC:∀ k,k≤rs.length→((comR (rs.take k)).natAbs:Int)<pw M) (hD:∀ z ∈ clr rs,(z.natAbs:Int)<pw M) (hnov:(⟨#[]⟩:ByteArray) ∉ vs) :
  Calls Tryz.prog 10 #[.string s,v] w fun r w'=>Below w.heap.size w w'∧(((∀ z ∈ canonZ rs,(z.natAbs:Int)<pw 32)∧∃ x,r=.returned (.tuple #[x,.int .i64 0,.agg #[.int .i64 0,.int .i64 0,.int .i64 0,.int .i64 0]])∧ORow w.heap.size w' x (canonZ rs) M)∨((∃ z ∈ canonZ rs,¬ (z.natAbs:Int)<pw 32)∧r=.returned (.tuple #[.slice none 0 0,.int .i64 2,.agg #[.int .i64 0,.int .i64 0,.int .i64 0,.int .i64 0]]))):=by
 obtain ⟨av,cv,rfl,_⟩:=id hv
 have hvl:vs.length≤16:=hN.1
 have hb0:Below w.heap.size w (w.alloc (.cells #[.int .i64 0,.int .i64 0,.int .i64 0,.int .i64 0] 32)):=hAl _ _
 have K:=ajg _ (hT.below hb0) _ vs (hv.below hb0)
 rw [show nmsE vs=0 from if_pos hN] at K
 have K:=hide K
 have HT:=hide hT
 have HV:=hide hv
 have HQ:=hide hQ
 have HR:=hide hR
 have HE:=hide hE
 have HC:=hide (And.intro hC hD)
 have HRL:=hide hrl
 obtain ⟨hWf,hl0⟩:=aps hs hQ hR
 have HWf:=hide hWf
 have HNV:=hide hnov
 obtain ⟨iR,hi,hz0,hz1,hz2⟩:=info_parts infoRz
 clear hT hv hQ hR hE hC hD hrl hWf hnov hN
 go_enter Tryz.func10,Tryz.ntmps10
 go_wp2_with fail
 refine K.out.mono ?_
 rintro r w1 ⟨rfl,hb1⟩
 have hb1' := hb0.trans (hb1.mono hb0.size)
 have hf6:w1.heap[w.heap.size]? = some (.cells #[.int .i64 0,.int .i64 0,.int .i64 0,.int .i64 0] 32 (0,0)):=(hb1.block _ (by simp)).trans (heap_alloc_new w _)
 clear K hb0 hb1
 go_wp2_with fail
 refine (ah9 w1 s (HT.out.below hb1') hs).mono ?_
 rintro r w2 ⟨hb2,gs',e',o,s1,s2,s3⟩
 obtain ⟨rfl,rfl⟩:=s1.one HQ.out
 obtain rfl:=s2.one HR.out
 obtain ⟨tv,rfl,hown⟩:=s3
 have hts:Ts w2 tv l:=Ts.own hown
 have hb2' := hb1'.trans (hb2.mono hb1'.size)
 have hf62:=(hb2.block _ (aaa hf6)).trans hf6
 have hbA:=hAl w2 (.cells #[.int .i64 0,.int .i64 0,.int .i64 0,.int .i64 0] 32)
 have hb3:=hb2'.trans (hbA.mono hb2'.size)
 obtain ⟨at_,ct,rfl,_⟩:=hts.parts
 have HTS:=hide (hts.below hbA)
 have HF6:=hide (aar (o' := .cells #[.int .i64 0,.int .i64 0,.int .i64 0,.int .i64 0] 32) hf62)
 have HB3:=hide hb3
 have hlt2:w.heap.size<w2.heap.size:=aaa hf62
 have hT2:w2.ownsRow w1.heap.size 64 6 (.slice at_ l.length ct) l.length (tflat l):=hown
 have HOWN:=hide hT2
 unfold Pl.v plz
 clear hb1' hb2 hb2' hf6 hf62 s1 s2 hown hts hT2
 go_wp2_with (refine wpList_make_full _ rfl (.tmp 36) (.tmp 36) 35 rfl w.heap.size 40 iR (.agg #[.bool false,.slice none 0 0,.slice none 0 0]) 3 Tryz.underlying35 hi hz0 hz1 .i64 .i64 _ _ (vs.length+1) rfl rfl (by omega) (by omega) (by rw [hz2];omega) (by unfold maxLen;omega) HB3.out.size ?hK)
 case hK =>
  intro w4 hown hgrow
  have hb4:=(Below.refl _ _).grown hgrow (Nat.le_refl _) (by simp)
  obtain ⟨_,hmb⟩:=adp hown
  rw [aic] at hmb
  have hsz4:(w2.alloc (.cells #[.int .i64 0,.int .i64 0,.int .i64 0,.int .i64 0] 32)).heap.size=w2.heap.size+1:=by simp
  have hbl4:w2.heap.size+1<w4.heap.size:=aaa hmb
  generalize hW5:w4.alloc (.cells #[.slice (some ⟨w2.heap.size+1,0,none⟩) (vs.length+1) (vs.length+1)] 35)=w5
  have hb45:Below w4.heap.size w4 w5:=by rw [←hW5];exact hAl _ _
  have hg5:w5.heap[w4.heap.size]? = some (.cells #[.slice (some ⟨w2.heap.size+1,0,none⟩) (vs.length+1) (vs.length+1)] 35 (0,0)):=by rw [←hW5];exact heap_alloc_new _ _
  have hs5:w5.heap.size=w4.heap.size+1:=by rw [←hW5];simp
  generalize hW6:w5.alloc (.cells #[.slice at_ l.length ct,.int .i64 0,.slice av vs.length cv] 59)=w6
  have hb56:Below w5.heap.size w5 w6:=by rw [←hW6];exact hAl _ _
  have hq6:w6.heap[w4.heap.size+1]? = some (.cells #[.slice at_ l.length ct,.int .i64 ((0:Nat):Int),.slice av vs.length cv] 59 (0,0)):=by rw [←hW6,←hs5];exact heap_alloc_new _ _
  have hb46:=hb45.trans (hb56.mono hb45.size)
  have hb36:=hb4.trans (hb46.mono hb4.size)
  have hb06:Below w.heap.size w w6:=HB3.out.trans (hb36.mono HB3.out.size)
  have hRQ:RQ w6 w4.heap.size (w2.heap.size+1) (List.replicate (vs.length+1) 0) L:=by
   refine auu ((hb56.block _ (aaa hg5)).trans hg5) ((hb46.block _ (aaa hmb)).trans hmb) (by omega)
  have hsw:w.heap.size≤w2.heap.size+1:=by have:=HB3.out.size;omega
  have hRE:Rea w6 (w4.heap.size+1) (w2.heap.size+1) (.slice at_ l.length ct) (.slice av vs.length cv) l vs 0:=by
   refine ⟨hq6,HTS.out.below hb36,HV.out.below hb06,hl0,?_,?_⟩
   ·rintro _ b' off n c hv'
    have hts2:Ts w2 (.slice at_ l.length ct) l:=Ts.own HOWN.out
    obtain ⟨ao',cap',e1,_,_,_,e4⟩:=hts2
    rcases e4 with e4 | ⟨b2,off2,e4,hl2,_⟩
    ·omega
    ·rw [e4] at e1
     have e5:=hv'.symm.trans e1
     simp only [Value.slice.injEq,Option.some.injEq,Addr.mk.injEq] at e5
     omega
   ·rintro hp b' off n c hv'
    obtain ⟨ao',cap',e1,_,_,_,e4⟩:=HV.out
    rcases e4 with e4 | ⟨b2,off2,e4,hl2,_⟩
    ·omega
    ·rw [e4] at e1
     have e5:=hv'.symm.trans e1
     simp only [Value.slice.injEq,Option.some.injEq,Addr.mk.injEq] at e5
     omega
  have hEnv:Env w6 (w4.heap.size+1) (w2.heap.size+1) w4.heap.size (.slice at_ l.length ct) (.slice av vs.length cv) l vs L:=⟨HT.out.below hb06,HWf.out,HNV.out,hL,hL1,by omega,by omega⟩
  have KE:=hide (aj1 w6 _ _ _ _ _ l vs L hEnv true _ rs 0 k HE.out _ .base hRQ hRE)
  have HF66:=hide ((hb36.block _ (aaa HF6.out)).trans HF6.out)
  have HB06:=hide hb06
  have hgl:w4.heap.size<w6.heap.size:=by have:=hb56.size;omega
  have HRQ:=hide hRQ
  have HW5:=hide hW5
  have HW6:=hide hW6
  clear hW5 hW6 hRQ hRE hEnv hb36 hb06 hb46 hb45 hb56 hb4 hmb hown hgrow hg5 hq6
  go_wp2_with fail
  rw [HW5.out,HW6.out]
  refine KE.out.mono ?_
  rintro r w7 ⟨rfl,_,hrc,hrq⟩
  have hb07:Below w.heap.size w w7:=HB06.out.trans (hrc.below HB06.out.size (by omega) hsw)
  have hf67:=(hrc.other _ (aaa HF66.out) (by omega) (by omega)).trans HF66.out
  have hsl:=hrq.slot
  have HIS:=hide (hrq.row_is (by rw [HRL.out];omega))
  rw [HRL.out] at hsl HIS
  have sg0:w7.cell? ⟨w4.heap.size,0,none⟩ = some (.slice (some ⟨w2.heap.size+1,0,none⟩) (vs.length+1) (vs.length+1)):=by rw [cell_of_row _ _ _ _ _ (0,0) hsl];rfl
  have HF67:=hide hf67
  have HB07:=hide hb07
  clear hrc hrq hb07 hf67 hsl KE
  go_wp2_with fail
  refine (aje w7 _ rs L M HIS.out hL hL1 hM (by rw [HRL.out];omega) HC.out.1 HC.out.2 (by intro h;have:=HRL.out;rw [h] at this;simp at this)).mono ?_
  rintro r w8 ⟨hb8,⟨hsm,x,rfl,hor⟩ | ⟨hbig,rfl⟩⟩
  ·have hf68:=(hb8.block _ (aaa HF67.out)).trans HF67.out
   have HF68:=hide hf68
   have HB8:=hide (HB07.out.trans (hb8.mono HB07.out.size))
   obtain ⟨bv,rfl,hbv⟩:=id hor
   have HOR:=hide hor
   have HSM:=hide hsm
   have h78:=HB07.out.size
   obtain ⟨hfl,c0,c1,c2,c3,f0,f1,f2,f3⟩:=afe hf68
   clear hb8 hf68 hor hsm sg0
   go_wp2
   refine bodyPost_ret (v:=.tuple #[.slice (some ⟨bv,0,none⟩) (canonZ rs).length (canonZ rs).length,.int .i64 0,.agg #[.int .i64 0,.int .i64 0,.int .i64 0,.int .i64 0]]) (ani (g:=w.heap.size) rfl rfl rfl rfl (asd HF68.out _ _ _ _)) rfl ⟨?_,.inl ⟨HSM.out,_,rfl,?_⟩⟩
   ·exact (((HB8.out.setCell (Nat.le_refl _) _).setCell (Nat.le_refl _) _).setCell (Nat.le_refl _) _).setCell (Nat.le_refl _) _
   ·obtain ⟨bv',e1,e2,e3,e4⟩:=HOR.out
    have hbb:bv≠w.heap.size:=by have:=hbv.1;have:=aaa HF67.out;omega
    obtain rfl:bv' = bv:=by
     simp only [Value.slice.injEq,Option.some.injEq,Addr.mk.injEq] at e1
     exact e1.1.1.symm
    refine ⟨bv',rfl,by omega,(PRow.low e3 h78).ru (azm HF68.out _ _ _ _) ?_,e4⟩
    rw [heap_setCell_other _ ⟨w.heap.size,3,none⟩ _ _ hbb,heap_setCell_other _ ⟨w.heap.size,2,none⟩ _ _ hbb,heap_setCell_other _ ⟨w.heap.size,1,none⟩ _ _ hbb,heap_setCell_other _ ⟨w.heap.size,0,none⟩ _ _ hbb]
  ·have hf68:=(hb8.block _ (aaa HF67.out)).trans HF67.out
   have HF68:=hide hf68
   have HB8:=hide (HB07.out.trans (hb8.mono HB07.out.size))
   have HBG:=hide hbig
   obtain ⟨hfl,c0,c1,c2,c3,f0,f1,f2,f3⟩:=afe hf68
   clear hb8 hf68 hbig sg0
   go_wp2
   refine bodyPost_ret (v:=.tuple #[.slice none 0 0,.int .i64 2,.agg #[.int .i64 0,.int .i64 0,.int .i64 0,.int .i64 0]]) (ani (g:=w.heap.size) rfl rfl rfl rfl (asd HF68.out _ _ _ _)) rfl ⟨?_,.inr ⟨HBG.out,rfl⟩⟩
   exact (((HB8.out.setCell (Nat.le_refl _) _).setCell (Nat.le_refl _) _).setCell (Nat.le_refl _) _).setCell (Nat.le_refl _) _
noncomputable def dig (x:Int):List Int:=@Classical.epsilon (List Int) ⟨[]⟩ fun ds=>IsDec ds x
theorem af3 {ds:List Int} {x:Int} (h:IsDec ds x):ds=dig x:=ai1 h (@Classical.epsilon_spec (List Int) (fun ds=>IsDec ds x) ⟨ds,h⟩)
noncomputable def txt (z:Int):ByteArray:=if z<0 then strOfNums (45 :: dig (z.natAbs:Int)) else strOfNums (dig (z.natAbs:Int))
theorem ase {b:Bool} {x z:Int} (hx:0≤x) (h:sg b x=z):x=(z.natAbs:Int):=by
 subst h
 cases b <;> simp [sg] <;> omega
section
end
section
end
end Lm
end Go.Proofs.YtdjgifcmhafppaaGreatDoor
namespace Go.Proofs.YtdjgifcmhafppaaGreatDoor
namespace Lm
open Go Go.RowKit
open Dm (Err Fine)
theorem af4 {ds:List Int} (h:∀ c ∈ ds,0≤c∧c<256):bytesOf (strOfNums ds)=ds:=by
 rw [bytesOf,strOfNums_data,List.map_map]
 conv=>rhs;rw [←List.map_id ds]
 apply List.map_congr_left
 intro c hc
 have:=h c hc
 simp only [Function.comp_apply,id]
 have e:(UInt8.ofNat c.toNat).toNat=c.toNat:=by
  simp
  omega
 rw [e]
 omega
theorem ays (n:Nat):∃ ds,IsDec ds (n:Int):=by
 induction n using Nat.strongRecOn with
 | _ n ih =>
  by_cases h:n<10
  ·refine ⟨[48+(n:Int)],ach.2 ⟨by omega,acz⟩,by simp [dval,p10];omega,?_⟩
   by_cases h0:n=0
   ·subst h0;exact .inl ⟨rfl,rfl⟩
   ·exact .inr ⟨_,_,rfl,by omega⟩
  ·obtain ⟨ds,h1,h2,h3⟩:=ih (n / 10) (by omega)
   refine ⟨ds ++ [48+((n % 10:Nat):Int)],ae8 h1 (by omega) (by omega),by rw [afw,h2];omega,.inr ?_⟩
   rcases h3 with ⟨h3,_⟩ | ⟨c,cs,rfl,hc⟩
   ·omega
   ·exact ⟨c,cs ++ [48+((n % 10:Nat):Int)],rfl,hc⟩
theorem aco (n:Nat):IsDec (dig (n:Int)) (n:Int):=by
 obtain ⟨ds,h⟩:=ays n
 rw [←af3 h]
 exact h
theorem ajj {ds:List Int} {x:Int} {n:Nat} (h:IsDec ds x) (hx:x<p10 n) (hn:1≤n):ds.length≤n:=by
 rcases h.2.2 with ⟨_,rfl⟩ | ⟨c,cs,rfl,hc⟩
 ·simpa using hn
 ·have h1:=h.1 c (by simp)
  have h2:=h.2.1
  simp only [dval] at h2
  have h3:=(aa8 (show Dig cs from fun y hy=>h.1 y (by simp [hy]))).1
  apply Classical.byContradiction
  intro hl
  have h4:=abm (m:=n) (n:=cs.length) (by simp at hl;omega)
  have h5:1*p10 cs.length≤(c - 48)*p10 cs.length:=Int.mul_le_mul_of_nonneg_right (by omega) (by have:=abw cs.length;omega)
  omega
theorem dig8 {x:Int} {ds:List Int} (h:IsDec ds x):∀ c ∈ ds,0≤c∧c<256:=fun c hc=>by have:=h.1 c hc;omega
theorem aww {z:Int} (h:¬ z<0):bytesOf (txt z)=dig (z.natAbs:Int):=by
 rw [txt,if_neg h,af4 (dig8 (aco _))]
theorem awx {z:Int} (h:z<0):bytesOf (txt z)=45 :: dig (z.natAbs:Int):=by
 rw [txt,if_pos h,af4]
 intro c hc
 rcases List.mem_cons.1 hc with rfl | hc
 ·omega
 ·exact dig8 (aco _) c hc
end Lm
end Go.Proofs.YtdjgifcmhafppaaGreatDoor
namespace Go.Proofs.YtdjgifcmhafppaaGreatDoor
namespace Lm
open Go Go.RowKit
theorem awy:Has Tryz.prog 18:=by unfold Has;kernel_rfl
theorem ali:Has Tryz.prog 15:=by unfold Has;kernel_rfl
theorem aif {B b:Nat} {p:Value} {bs:List Value} {W W' : World} (h:Lib.BuilderAtF 84 5 B b p bs W) (hk:Below W.heap.size W W'):Lib.BuilderAtF 84 5 B b p bs W' := by
 have hlt:=h.lt
 obtain ⟨h1,v,h2,h3,h4⟩:=h
 have hg:W.grownBy W' none:=⟨hk.os,hk.tape,hk.output,hk.size,fun k h _=>hk.block k h⟩
 exact ⟨h1,v,(hk.block b hlt).trans h2,h3.kept (row:=none) hg (Classical.em _),h4⟩
theorem Bld.keep {W W' : World} {B b:Nat} {l:List UInt8} (h:Bld W B b l) (hk:Below W.heap.size W W'):Bld W' B b l:=by
 rcases h with h | h
 ·exact .inl (aif h hk)
 ·exact .inr (aif h hk)
def tpre (z:Int) (first:Bool):List UInt8:=if first then (if z<0 then [45] else []) else (if z<0 then [32,45,32] else [32,43,32])
noncomputable def tterm (z:Int) (first:Bool) (nm:List UInt8):List UInt8 :=
 if z=0 then [] else tpre z first ++ ((if z.natAbs=1 then [] else (txt (z.natAbs:Int)).data.toList ++ [42]) ++ nm)
theorem ayt {z:Int} {L:Nat} {w:World} {ng:Bool} {a:Option Addr} {n c:Nat} (h:IsW z L (.agg #[.bool ng,.slice a n c]) w):IsW (z.natAbs:Int) L (.agg #[.bool false,.slice a n c]) w:=by
 obtain ⟨ng',ao,n',cap,xs,hv,hA,hl⟩:=h
 simp only [Value.agg.injEq,Array.mk.injEq,List.cons.injEq,Value.bool.injEq,Value.slice.injEq,and_true] at hv
 obtain ⟨rfl,rfl,rfl,rfl⟩:=hv
 exact ⟨_,_,_,_,_,rfl,⟨hA.sl,ase (aab hA.sl.parts.2.2.2).1 hA.worth⟩,hl⟩
theorem cmp0 {a b:Int} (h:cmpI a b=0):a=b:=by
 unfold cmpI at h
 split at h
 ·omega
 ·split at h
  ·omega
  ·omega
theorem awz (k:Int):(k != 0)=(!decide (k=0)):=by
 by_cases h:k=0 <;> simp [h]
theorem wtextF (w:World) (z:Int) (v:Value) (L:Nat) (h:IsW z L v w) (hL:L≤1000000) :
  Calls Tryz.prog 16 #[v] w fun e w'=>e=.returned (.string (txt z))∧Below w.heap.size w w' := by
 obtain ⟨ng,ao,n,cap,zs,rfl,A,l⟩:=h
 have hx:=ase (aab A.sl.parts.2.2.2).1 A.worth
 by_cases hz:z<0
 ·refine (aqu w ng ao n cap zs A.sl (by omega) (by rw [A.worth];exact hz)).mono ?_
  rintro e w' ⟨ds,rfl,hd,hb⟩
  rw [hx] at hd
  exact ⟨by rw [txt,if_pos hz,←af3 hd],hb⟩
 ·refine (aqv w ng ao n cap zs A.sl (by omega) (by rw [A.worth];exact hz)).mono ?_
  rintro e w' ⟨ds,rfl,hd,hb⟩
  rw [hx] at hd
  exact ⟨by rw [txt,if_neg hz,←af3 hd],hb⟩
theorem ahi {z:Int} {L:Nat} (h:(z.natAbs:Int)<pw L):(txt z).size≤10*L+2:=by
 have h3:=afl L
 have h4:=abm (m:=10*L) (n:=10*L+1) (by omega)
 have h1:=ajj (aco z.natAbs) (n:=10*L+1) (by omega) (by omega)
 by_cases hz:z<0
 ·rw [←abf,awx hz,List.length_cons];omega
 ·rw [←abf,aww hz];omega
set_option maxRecDepth 20000 in
set_option maxHeartbeats 16000000 in
theorem auv (w:World) (z:Int) (L:Nat) (v:Value) (nm:ByteArray) (first:Bool) (hv:IsW z L v w) (hL:L≤100000) (hs:nm.size≤1000000) :
    Calls Tryz.prog 23 #[v,.string nm,.bool first] w fun e w'=>e=.returned (.string ⟨(tterm z first nm.data.toList).toArray⟩)∧Below w.heap.size w w' := by
  obtain ⟨ng,a,n,c,xs,rfl,_⟩:=id hv
  have hb0:=hAl w (.cells #[.bool ng,.slice a n c] 38)
  have HV:=hide hv
  have K:=hide (signF _ z _ L (hv.ru (Ru.of_below hb0)) (by omega))
  clear hv
  by_cases hz0:z=0
  · have HE:Hid (tterm z first nm.data.toList = []):=if_pos hz0
    have K:=K.out
    rw [hz0,Int.sign_zero] at K
    have K:=hide K
    clear hz0
    go_enter Tryz.func23,Tryz.ntmps23
    go_wp2_with fail
    refine K.out.mono ?_
    rintro e w1 ⟨rfl,hb1⟩
    have HB01:=hide (hb0.trans (hb1.mono hb0.size))
    clear hb0 hb1 K
    go_wp2
    refine bodyPost_ret (v:=_) (act rfl rfl) rfl ⟨by rw [HE.out];rfl,HB01.out⟩
  have HE:Hid (tterm z first nm.data.toList=tpre z first ++ ((if z.natAbs=1 then [] else (txt (z.natAbs:Int)).data.toList ++ [42]) ++ nm.data.toList)):=if_neg hz0
  obtain ⟨s,hs'⟩:∃ s,Int.sign z=s:=⟨_,rfl⟩
  have hs0:(s == 0)=false:=beq_eq_false_iff_ne.2 (fun e=>hz0 (Int.sign_eq_zero_iff_zero.1 (by omega)))
  have HSZ:Hid (s<0↔z<0):=(show _↔_ by rw [←hs'];exact Int.sign_neg_iff)
  have K:=K.out
  rw [hs'] at K
  have K:=hide K
  clear hz0 hs'
  go_enter Tryz.func23,Tryz.ntmps23
  go_wp2_with fail
  refine K.out.mono ?_
  rintro e w1 ⟨rfl,hb1⟩
  have hx:w1.heap[w.heap.size]? = some (.cells #[.bool ng,.slice a n c] 38 (0,0)):=(hb1.block _ (by simp)).trans (heap_alloc_new w _)
  obtain ⟨hxl,x0,x1,_,_⟩:=aah hx
  have hb01:=hb0.trans (hb1.mono hb0.size)
  have hB:Bld (w1.alloc (.cells #[.pointer none,.slice none 0 0] 84)) w1.heap.size w1.heap.size []:=Lib.IsBuilderF.of (Lib.fresh_isBuilder 84 5 w1)
  have hba0:=hAl w1 (.cells #[.pointer none,.slice none 0 0] 84)
  have HB:=hide hB
  have HB01:=hide hb01
  have HBA:=hide hba0
  clear hb0 hb1 hB K hx hb01 hba0
  obtain ⟨pre,hpl,hpre⟩:∃ pre,pre.length≤3∧tpre z first=pre:=⟨_,by unfold tpre;split <;> split <;> simp,rfl⟩
  rw [hpre] at HE
  have hcs:(first=true∧s<0∧pre = [45])∨(first=false∧s<0∧pre = [32,45,32])∨(first=false∧¬ s<0∧pre = [32,43,32])∨(first=true∧¬ s<0∧pre = []):=by
    rw [←hpre,HSZ.out]
    unfold tpre
    cases first <;> by_cases hz:z<0 <;> simp [hz]
  clear hpre
  have HDT:Hid ((txt (z.natAbs:Int)).size≤10*L+2):=ahi (by rw [Int.natAbs_natCast];exact ad5 HV.out)
  rcases hcs with ⟨rfl,hs1,rfl⟩ | ⟨rfl,hs1,rfl⟩ | ⟨rfl,hs1,rfl⟩ | ⟨rfl,hs1,rfl⟩
  all_goals go_wp2_with fail
  all_goals first
    | (refine (bwstr w1.heap.size w1.heap.size [] _ _ HB.out (by simp;decide) (by simp)).mono ?_
       rintro e wa ⟨rfl,hBa,hba,_⟩
       rw [List.nil_append] at hBa
       have hb1a:Below w1.heap.size w1 wa:=HBA.out.trans hba
       have y0:=(hb1a.cell (p:=⟨w.heap.size,0,none⟩) hxl).trans x0
       have y1:=(hb1a.cell (p:=⟨w.heap.size,1,none⟩) hxl).trans x1
       have hxla:w.heap.size<wa.heap.size:=Nat.lt_of_lt_of_le hxl hb1a.size
       clear hba
       go_wp2_with fail
       clear y0 y1 hxla
       generalize hf9:wa.heap.size=f9 at *)
    | (have hBa:=HB.out
       have hb1a:=HBA.out
       have hf9:(w1.alloc (.cells #[.pointer none,.slice none 0 0] 84)).heap.size=w1.heap.size+1:=by simp
       generalize w1.alloc (.cells #[.pointer none,.slice none 0 0] 84)=wa at *
       generalize w1.heap.size+1=f9 at *)
  all_goals (
    have hal2:=hAl wa (.cells #[.bool false,.slice a n c] 38)
    have hnw:=heap_alloc_new wa (.cells #[.bool false,.slice a n c] 38)
    rw [hf9] at hnw
    have hb12:=hb1a.trans (hal2.mono hb1a.size)
    have hB2:=Lib.IsBuilderF.alloc hBa (.cells #[.bool false,.slice a n c] 38)
    generalize (wa.alloc (.cells #[.bool false,.slice a n c] 38))=w2 at *
    have hb02:=HB01.out.trans (hb12.mono HB01.out.size)
    have hsz2:=hb12.size
    have hs01:=HB01.out.size
    have HM:=hide (ayt (HV.out.ru (Ru.of_below hb02)))
    have HB02:=hide hb02
    obtain ⟨hnl,u0,u1,_,_⟩:=aah hnw
    have HNW:=hide hnw
    have HB2:=hide hB2
    clear hal2 hnw hb12 hB2 hb02 x0 x1 hBa hb1a hf9 HB HBA
    go_cut [34] (fun bv wx=>bv=.bool (!decide (cmpI (z.natAbs:Int) 1=0))∧Below w2.heap.size w2 wx)
    case first =>
      go_region_law (first | (refine aau rfl 18 #[.const (.int .i64 1)] #[3] rfl awy #[.int .i64 1] (by simp [Act.eval]) (adb _ 1 (by decide) (by decide)) ?_;rintro e w3 ⟨ng3,ao3,cap3,rs3,rfl,hw3,hl3,hb3⟩;have ho3:OutW 1 2 (.agg #[.bool ng3,.slice ao3 rs3.length cap3]) w3:=⟨_,_,_,_,rfl,hw3,hl3⟩;have HO3:=hide ho3;have hb23:Below w2.heap.size w2 w3:=(show Below w2.heap.size w2 _ by (repeat' first|with_reducible(first|exact Below.refl _ _|assumption|refine gdrewN ?_ _|refine Below.alloc ?_ ?_ _|refine Below.drew ?_|refine Below.setCell ?_ ?_ _)|go_size)).trans (hb3.mono (by simp));have HB23:=hide hb23;have u03:=(hb23.cell (p:=⟨f9,0,none⟩) hnl).trans u0;have u13:=(hb23.cell (p:=⟨f9,1,none⟩) hnl).trans u1;clear ho3 hb3 hb23 hw3 hl3;refine ⟨_,rfl,?_⟩) | (refine aau rfl 15 #[.tmp 31,.tmp 32] #[38,38] rfl ali #[.agg #[.bool false,.slice a n c],.agg #[.bool ng3,.slice ao3 rs3.length cap3]] (by simp [Act.eval]) (cmpF _ (z.natAbs:Int) 1 _ _ L 2 (HM.out.ru (Ru.of_below HB23.out)) HO3.out.is (by omega) (by omega)) ?_;rintro e w4 ⟨rfl,hb4⟩;have HB24:=hide (HB23.out.trans (hb4.mono HB23.out.size));clear hb4;refine ⟨_,rfl,?_⟩))
      all_goals (
        go_wp2_with fail
        go_meet
        exact ⟨by rw [awz],HB24.out⟩)
    case rest =>
      obtain ⟨rfl,hb5⟩:=hcut
      have hB5:=Bld.keep HB2.out hb5
      have hnw5:=(hb5.block _ (aaa HNW.out)).trans HNW.out
      have HB05:=hide (HB02.out.trans (hb5.mono HB02.out.size))
      have hsz5:w1.heap.size≤wc.heap.size:=Nat.le_trans hsz2 hb5.size
      have HM5:=hide (HM.out.ru (Ru.of_below hb5))
      have hnm8:nm.data.size≤1000000:=hs
      have HBd5:=hide hB5
      clear hb5 hB5 u0 u1
      by_cases h1:z.natAbs=1
      · rw [show (!decide (cmpI (z.natAbs:Int) 1=0))=false by rw [h1];rfl]
        have HE' := HE.out
        rw [if_pos h1,List.nil_append] at HE'
        have HE' := hide HE'
        have K5:=hide (bwstr w1.heap.size w1.heap.size _ nm wc HBd5.out (by simp;omega) hsz5)
        clear hnw5 h1
        go_wp2_with fail
        refine K5.out.mono ?_
        rintro e w6 ⟨rfl,hB6,hb6,_⟩
        have HB06:=hide (HB05.out.trans (hb6.mono hs01))
        have K6:=hide (bstring w1.heap.size w1.heap.size _ w6 hB6 (Nat.le_trans hsz5 hb6.size))
        clear hB6 hb6 K5
        go_wp2_with fail
        refine K6.out.mono ?_
        rintro e w7 ⟨rfl,hb7⟩
        have HB07:=hide (HB06.out.trans (hb7.mono hs01))
        clear hb7 K6
        go_wp2
        refine bodyPost_ret (v:=_) (act rfl rfl) rfl ⟨by rw [HE'.out];rfl,HB07.out⟩
      · rw [show (!decide (cmpI (z.natAbs:Int) 1=0))=true by
          have hne:cmpI (z.natAbs:Int) 1≠0:=fun h=>h1 (by have:=cmp0 h;omega)
          simp [hne]]
        have HE' := HE.out
        rw [if_neg h1] at HE'
        have HE' := hide HE'
        obtain ⟨hnl5,v0,v1,_,_⟩:=aah hnw5
        have KT:=hide (wtextF wc _ _ L HM5.out (by omega))
        obtain ⟨sd,hsd⟩:∃ sd,txt (z.natAbs:Int)=sd:=⟨_,rfl⟩
        rw [hsd] at KT HE' HDT
        clear hnw5 h1 hsd
        go_wp2_with fail
        refine KT.out.mono ?_
        rintro e w6 ⟨rfl,hb6⟩
        have HB06:=hide (HB05.out.trans (hb6.mono HB05.out.size))
        have hds7:sd.data.size≤1000002:=by have:sd.size≤10*L+2:=HDT.out;show sd.size≤_;omega
        have hsz6:=Nat.le_trans hsz5 hb6.size
        have K6:=hide (bwstr w1.heap.size w1.heap.size _ sd w6 (Bld.keep HBd5.out hb6) (by simp only [List.length_cons,List.length_nil];show _+sd.data.size≤_;omega) hsz6)
        clear hb6 v0 v1 KT
        go_wp2_with fail
        refine K6.out.mono ?_
        rintro e w7 ⟨rfl,hB7,hb7,_⟩
        have HB07:=hide (HB06.out.trans (hb7.mono hs01))
        have hsz7:=Nat.le_trans hsz6 hb7.size
        have K7:=hide (bwstr w1.heap.size w1.heap.size _ ⟨#[42]⟩ w7 hB7 (by simp only [List.length_append,List.length_cons,List.length_nil,Array.length_toList];show _+1≤_;omega) hsz7)
        clear hB7 hb7 K6
        go_wp2_with fail
        refine K7.out.mono ?_
        rintro e w8 ⟨rfl,hB8,hb8,_⟩
        have HB08:=hide (HB07.out.trans (hb8.mono hs01))
        have hsz8:=Nat.le_trans hsz7 hb8.size
        have K8:=hide (bwstr w1.heap.size w1.heap.size _ nm w8 hB8 (by simp only [List.length_append,List.length_cons,List.length_nil,Array.length_toList];show _+nm.data.size≤_;omega) hsz8)
        clear hB8 hb8 K7
        go_wp2_with fail
        refine K8.out.mono ?_
        rintro e w9 ⟨rfl,hB9,hb9,_⟩
        have HB09:=hide (HB08.out.trans (hb9.mono hs01))
        have K9:=hide (bstring w1.heap.size w1.heap.size _ w9 hB9 (Nat.le_trans hsz8 hb9.size))
        clear hB9 hb9 K8
        go_wp2_with fail
        refine K9.out.mono ?_
        rintro e w10 ⟨rfl,hb10⟩
        have HB10:=hide (HB09.out.trans (hb10.mono hs01))
        clear hb10 K9
        go_wp2
        refine bodyPost_ret (v:=_) (act rfl rfl) rfl ⟨by rw [HE'.out];simp only [List.append_assoc,List.cons_append,List.nil_append];rfl,HB10.out⟩)
noncomputable def lefts (zs:List Int) (vs:List ByteArray):Nat→List UInt8
 | 0=>[]
 | k+1=>lefts zs vs k ++ tterm (zs.getD k 0) (decide (lefts zs vs k = [])) (vs.getD k ⟨#[]⟩).data.toList
noncomputable def prn (zs:List Int) (vs:List ByteArray):ByteArray:=⟨(if lefts zs vs vs.length = [] then [48] else lefts zs vs vs.length).toArray⟩ ++ ⟨#[32,61,32]⟩ ++ txt (zs.getD vs.length 0)
theorem ayu (x y:List UInt8):(⟨x.toArray⟩:ByteArray) ++ ⟨y.toArray⟩ = ⟨(x ++ y).toArray⟩:=by
 apply ByteArray.ext
 rw [ByteArray.data_append]
 simp
theorem anj (x:List UInt8):(⟨x.toArray⟩:ByteArray).size=x.length:=by
 show x.toArray.size = _
 simp
theorem ajk {z:Int} {L:Nat} (h:(z.natAbs:Int)<pw L) (first:Bool) (nm:List UInt8):(tterm z first nm).length≤10*L+6+nm.length:=by
 unfold tterm
 have h1:=ahi (z:=(z.natAbs:Int)) (L:=L) (by rw [Int.natAbs_natCast];exact h)
 have h2:(tpre z first).length≤3:=by unfold tpre;split <;> split <;> simp
 have h3:(txt (z.natAbs:Int)).data.toList.length=(txt (z.natAbs:Int)).size:=by rw [Array.length_toList];rfl
 split
 ·simp
 ·split
  ·simp only [List.length_append,List.length_nil];omega
  ·simp only [List.length_append,List.length_cons,List.length_nil,h3];omega
theorem ajl {s:ByteArray} (h:isNm s=true):s.size≤4096:=by
 apply Classical.byContradiction
 intro hs
 rw [ajf (by omega)] at h
 cases h
theorem ajm {zs:List Int} {vs:List ByteArray} {L:Nat} (hz:∀ z ∈ zs,(z.natAbs:Int)<pw L) (hN:NmsOk vs):∀ k,k≤vs.length→k<zs.length→(lefts zs vs k).length≤k*(10*L+4102)
 | 0,_,_=>by simp [lefts]
 | k+1,h1,h2=>by
  have ih:=ajm hz hN k (by omega) (by omega)
  have e1:zs.getD k 0=zs[k]:=by rw [List.getD_eq_getElem?_getD,List.getElem?_eq_getElem (by omega)];rfl
  have e2:vs.getD k ⟨#[]⟩ = vs[k]:=by rw [List.getD_eq_getElem?_getD,List.getElem?_eq_getElem (by omega)];rfl
  have h3:=ajk (hz zs[k] (List.getElem_mem _)) (decide (lefts zs vs k = [])) vs[k].data.toList
  have h4:=ajl (hN.2 k vs[k] (List.getElem?_eq_getElem _)).1
  have h5:vs[k].data.toList.length=vs[k].size:=by rw [Array.length_toList];rfl
  rw [lefts,e1,e2,List.length_append,Nat.add_mul]
  omega
theorem auw {w:World} {v:Value} {zs:List Int} {L:Nat} (h:IsRow w v zs L):∀ z ∈ zs,(z.natAbs:Int)<pw L:=by
 intro z hz
 obtain ⟨k,hk⟩:=List.mem_iff_getElem?.1 hz
 obtain ⟨ao,cap,rfl,_⟩:=h.parts
 obtain ⟨b,off,ng,a,m,c,_,_,_,_,hw⟩:=h.cell hk
 exact ad5 hw
set_option maxRecDepth 20000 in
set_option maxHeartbeats 8000000 in
theorem ajn (w:World) (hT:Tabs w) (rv vv:Value) (zs:List Int) (vs:List ByteArray) (L:Nat) (hr:IsRow w rv zs L) (hL:L≤100000) (hv:Strs w vv vs) (hN:NmsOk vs) (hl:zs.length=vs.length+1) :
  Calls Tryz.prog 9 #[rv,vv] w fun e w'=>e=.returned (.tuple #[.string (prn zs vs),.int .i64 0])∧Below w.heap.size w w' := by
 obtain ⟨ra,rc,rfl,_⟩:=hr.parts
 obtain ⟨va,vc,rfl,_⟩:=id hv
 have K:=ajg w hT _ _ hv
 rw [show nmsE vs=0 from if_pos hN] at K
 have hlt:=auw hr
 obtain ⟨n,hnn⟩:∃ n,vs.length=n:=⟨_,rfl⟩
 have hn16:n≤16:=by have:=hN.1;omega
 rw [hl] at hr ⊢
 rw [hnn] at K hr hv hl ⊢
 have K:=hide K
 have HR:=hide hr
 have HV:=hide hv
 have HN:=hide hN
 have HNN:=hide hnn
 have HL:=hide hl
 have HLEN:Hid (∀ k,k≤n→(lefts zs vs k).length≤k*(10*L+4102)):=(fun k hk=>ajm hlt hN k (by omega) (by omega))
 have HLT:=hide hlt
 obtain ⟨z9,hz9⟩:∃ z,zs[n]? = some z:=⟨_,List.getElem?_eq_getElem (by omega)⟩
 obtain ⟨b,off,ng9,a9,m9,c9,rfl,hbl,_,_,_⟩:=hr.cell hz9
 have HZ9:=hide hz9
 have HP:Hid (prn zs vs=⟨(if lefts zs vs n = [] then [48] else lefts zs vs n).toArray⟩ ++ ⟨#[32,61,32]⟩ ++ txt z9):=(show _ = _ by unfold prn;rw [hnn,List.getD_eq_getElem?_getD,hz9];rfl)
 have hwn:IntKind.i64.wrap ((n:Int)+1)=(n:Int)+1:=by rw [IntKind.wrap_i64];omega
 have hne:(((n+1:Nat):Int) != (n:Int)+1)=false:=by simp
 clear hT hr hv hN hnn hl hlt hz9
 go_enter Tryz.func9,Tryz.ntmps9
 go_wp2_with fail
 refine K.out.mono ?_
 rintro e w1 ⟨rfl,hb1⟩
 have HB1:=hide hb1
 clear hb1 K
 go_wp2_with fail
 go_loopw [6,7,8,22] (fun lv _ _ iv wr=>∃ k:Nat,iv=.int .i64 k∧k≤n∧lv=.string ⟨(lefts zs vs k).toArray⟩∧Below w.heap.size w wr) (fun _ _ _ iv _=>n - (intOf iv).toNat)
 case atStart=>exact ⟨0,rfl,Nat.zero_le _,rfl,HB1.out⟩
 case round =>
  obtain ⟨k,rfl,hk,rfl,hbw⟩:=hrel
  have HW:=hide hbw
  have hll:=HLEN.out k hk
  obtain ⟨sl,hsl⟩:∃ sl,(⟨(lefts zs vs k).toArray⟩:ByteArray)=sl:=⟨_,rfl⟩
  have hss:sl.size=(lefts zs vs k).length:=by rw [←hsl,anj]
  have hsb:sl.size≤16*(10*L+4102):=by rw [hss];exact Nat.le_trans hll (Nat.mul_le_mul_right _ (by omega))
  rw [hsl]
  by_cases hlt:k<n
  ·have hlt' : (k:Int)<(n:Int):=by omega
   obtain ⟨z,hz⟩:∃ z,zs[k]? = some z:=⟨_,List.getElem?_eq_getElem (by have:=HL.out;omega)⟩
   obtain ⟨x,hx⟩:∃ x,vs[k]? = some x:=⟨_,List.getElem?_eq_getElem (by have:=HNN.out;omega)⟩
   obtain ⟨b',off',ng,a,m,c,hao,_,x0,x1,hxw⟩:=(HR.out.below hbw).cell hz
   obtain ⟨rfl,rfl⟩:b=b'∧off=off' := by simpa using hao
   obtain ⟨bv,ov,rfl,hbvl,v0⟩:=(HV.out.below hbw).cell hx
   have hxs:=ajl (HN.out.2 k x hx).1
   have hkn:(k:Int)<((n+1:Nat):Int):=by omega
   obtain ⟨f,hf⟩:∃ f,decide (lefts zs vs k = [])=f:=⟨_,rfl⟩
   have hef:(sl.toList == [])=f:=by
    rw [←hf,←hsl]
    by_cases h0:lefts zs vs k = []
    ·rw [h0,ByteArray.toList_eq];rfl
    ·rw [decide_eq_false h0,beq_eq_false_iff_ne]
     intro e
     rw [ByteArray.toList_eq] at e
     exact h0 (by simpa using e)
   have K:=hide (auv wr z L _ x f hxw hL (by omega))
   have hstep:lefts zs vs (k+1)=lefts zs vs k ++ tterm z f x.data.toList:=by rw [lefts,List.getD_eq_getElem?_getD,List.getD_eq_getElem?_getD,hz,hx,hf];rfl
   have htl:=ajk (HLT.out z (List.mem_of_getElem? hz)) f x.data.toList
   have hxl:x.data.toList.length=x.size:=by rw [Array.length_toList];rfl
   generalize tterm z f x.data.toList=tt at K hstep htl
   have hadd:∀ W,(Op.stringOp .add sl ⟨tt.toArray⟩).run Tryz.prog W=.ok (.string ⟨(lefts zs vs (k+1)).toArray⟩) W:=fun W=>by
    rw [run_string_add_sum (P:=Tryz.prog) W sl ⟨tt.toArray⟩ (by rw [anj tt];omega),←hsl,ayu,hstep]
   clear hbw hxw hao hz hx hf hsl hstep htl hxl hll hss hxs
   generalize (⟨tt.toArray⟩:ByteArray)=tb at K hadd
   go_wp2_with fail
   refine K.out.mono ?_
   rintro e w2 ⟨rfl,hb2⟩
   have HB2:=hide (HW.out.trans (hb2.mono HW.out.size))
   clear hb2 K
   go_wp2
   go_roundw
   case rel=>exact ⟨k+1,by go_num,by omega,rfl,HB2.out⟩
   case measure=>simp [intOf];omega
  ·have hlt' : decide ((k:Int)<(n:Int))=false:=by simp;omega
   obtain rfl:k=n:=by omega
   obtain ⟨b',off',ng,a,m,c,hao,_,x0,x1,hxw⟩:=(HR.out.below hbw).cell HZ9.out
   obtain ⟨rfl,rfl⟩:b=b'∧off=off' := by simpa using hao
   have hts:=ahi (HLT.out z9 (List.mem_of_getElem? HZ9.out))
   have K:=hide (wtextF wr z9 _ L hxw (by omega))
   have hkn:(k:Int)<((k+1:Nat):Int):=by omega
   generalize txt z9=t9 at K HP hts
   by_cases h0:lefts zs vs k = []
   ·have HP' := HP.out
    rw [if_pos h0] at HP'
    have HP' := hide HP'
    obtain rfl:sl=⟨#[]⟩:=by rw [←hsl,h0]
    have ha1:∀ W,(Op.stringOp .add ⟨#[48]⟩ ⟨#[32,61,32]⟩).run Tryz.prog W=.ok (.string ⟨#[48,32,61,32]⟩) W:=fun W=>run_string_add_sum (P:=Tryz.prog) W _ _ (by decide)
    have ha2:∀ W,(Op.stringOp .add ⟨#[48,32,61,32]⟩ t9).run Tryz.prog W=.ok (.string (⟨#[48,32,61,32]⟩ ++ t9)) W:=fun W=>run_string_add_sum (P:=Tryz.prog) W _ _ (by show 4+_≤_;omega)
    clear hbw hxw hao h0 hsl hll hss hsb hts
    go_wp2_with fail
    refine K.out.mono ?_
    rintro e w2 ⟨rfl,hb2⟩
    have HB2:=hide (HW.out.trans (hb2.mono HW.out.size))
    clear hb2 K
    go_wp2
    refine bodyPost_ret (v:=_) (by simp [results,Tryz.results9,go_sem];try rfl) rfl ⟨by rw [HP'.out];rfl,HB2.out⟩
   ·have HP' := HP.out
    rw [if_neg h0,hsl] at HP'
    have HP' := hide HP'
    have hef:(sl.toList == [])=false:=by
     rw [←hsl,beq_eq_false_iff_ne]
     intro e
     rw [ByteArray.toList_eq] at e
     exact h0 (by simpa using e)
    have hsz3:(sl ++ ⟨#[32,61,32]⟩:ByteArray).size=sl.size+3:=by rw [ByteArray.size_append];rfl
    have ha1:∀ W,(Op.stringOp .add sl ⟨#[32,61,32]⟩).run Tryz.prog W=.ok (.string (sl ++ ⟨#[32,61,32]⟩)) W:=fun W=>run_string_add_sum (P:=Tryz.prog) W _ _ (by show _+3≤_;omega)
    have ha2:∀ W,(Op.stringOp .add (sl ++ ⟨#[32,61,32]⟩) t9).run Tryz.prog W=.ok (.string (sl ++ ⟨#[32,61,32]⟩ ++ t9)) W:=fun W=>run_string_add_sum (P:=Tryz.prog) W _ _ (by omega)
    generalize (sl ++ ⟨#[32,61,32]⟩:ByteArray)=s3 at ha1 ha2 HP'
    generalize s3 ++ t9=s4 at ha2 HP'
    clear hbw hxw hao h0 hsl hll hss hsb hts hsz3
    go_wp2_with fail
    refine K.out.mono ?_
    rintro e w2 ⟨rfl,hb2⟩
    have HB2:=hide (HW.out.trans (hb2.mono HW.out.size))
    clear hb2 K
    go_wp2
    refine bodyPost_ret (v:=_) (by simp [results,Tryz.results9,go_sem];try rfl) rfl ⟨by rw [HP'.out],HB2.out⟩
theorem ayv:IsDec [50] 2:=⟨by intro z hz;simp at hz;omega,by kernel_rfl,.inr ⟨50,[],rfl,by decide⟩⟩
theorem ayw:IsDec [51] 3:=⟨by intro z hz;simp at hz;omega,by kernel_rfl,.inr ⟨51,[],rfl,by decide⟩⟩
theorem azn:txt 2=⟨#[50]⟩:=by
 rw [txt,if_neg (by decide),show ((2:Int).natAbs:Int)=2 from rfl,←af3 ayv]
 rfl
theorem ayx:txt (-3)=⟨#[45,51]⟩:=by
 rw [txt,if_pos (by decide),show ((-3:Int).natAbs:Int)=3 from rfl,←af3 ayw]
 rfl
theorem asf:prn [1,-2,-3] [⟨#[120]⟩,⟨#[121]⟩]=⟨#[120,32,45,32,50,42,121,32,61,32,45,51]⟩:=by
 have h1:lefts [1,-2,-3] [⟨#[120]⟩,⟨#[121]⟩] 1 = [120]:=rfl
 have h2:lefts [1,-2,-3] [⟨#[120]⟩,⟨#[121]⟩] 2 = [120,32,45,32,50,42,121]:=by
  rw [lefts,h1,show tterm ([1,-2,-3].getD 1 0) (decide (([120]:List UInt8) = [])) (([⟨#[120]⟩,⟨#[121]⟩]:List ByteArray).getD 1 ⟨#[]⟩).data.toList = [32,45,32] ++ (((txt 2).data.toList ++ [42]) ++ [121]) from rfl,azn]
  rfl
 rw [prn,show ([⟨#[120]⟩,⟨#[121]⟩]:List ByteArray).length=2 from rfl,h2,show ([1,-2,-3]:List Int).getD 2 0 = -3 from rfl,ayx]
 rfl
theorem ams (w:World) (hT:Tabs w) (rv vv:Value) (L:Nat) (hr:IsRow w rv [1,-2,-3] L) (hL:L≤100000) (hv:Strs w vv [⟨#[120]⟩,⟨#[121]⟩]) (hN:NmsOk [⟨#[120]⟩,⟨#[121]⟩]) :
  Calls Tryz.prog 9 #[rv,vv] w fun e w'=>e=.returned (.tuple #[.string ⟨#[120,32,45,32,50,42,121,32,61,32,45,51]⟩,.int .i64 0])∧Below w.heap.size w w' := by
 refine (ajn w hT rv vv _ _ L hr hL hv hN rfl).mono ?_
 rintro e w' ⟨rfl,hb⟩
 exact ⟨by rw [asf],hb⟩
theorem asg (c:Nat) (s:ByteArray) (gs:List Gl) (e:Pl) (l:List Tk) (_hc:c<128) (hs:s.size≤4096) (hQ:Snd s pl0 gs e) (hR:ScanR s e gs (.ok l)) (hn:nmS s (.ok l)=true):isNm s=true:=by
 rw [←ais hs hQ hR]
 exact hn
theorem ayy:isNm ⟨#[120]⟩ = true:=by
 refine asg 120 ⟨#[120]⟩ [⟨120,⟨0,0,1,1⟩⟩] ⟨1,1,1,2⟩ [⟨1,⟨#[120]⟩,⟨0,0,1,1⟩⟩,⟨0,⟨#[]⟩,⟨1,1,1,2⟩⟩] (by decide) (by decide) ?_ ?_ (by kernel_rfl)
 ·refine abg (k:=1) (by decide) (by kernel_rfl) (by decide) ?_
  exact .stop ⟨1,1,1,2⟩ (.inl (by decide))
 ·refine ScanR.tok _ ⟨120,⟨0,0,1,1⟩⟩ [] 1 ⟨#[120]⟩ [] (.ok [⟨0,⟨#[]⟩,⟨1,1,1,2⟩⟩]) (by kernel_rfl) (afb (by kernel_rfl) (by kernel_rfl) (by decide) (by kernel_rfl)) ?_
  exact ScanR.done _ (by kernel_rfl) (by decide)
theorem ayz:isNm ⟨#[121]⟩ = true:=by
 refine asg 121 ⟨#[121]⟩ [⟨121,⟨0,0,1,1⟩⟩] ⟨1,1,1,2⟩ [⟨1,⟨#[121]⟩,⟨0,0,1,1⟩⟩,⟨0,⟨#[]⟩,⟨1,1,1,2⟩⟩] (by decide) (by decide) ?_ ?_ (by kernel_rfl)
 ·refine abg (k:=1) (by decide) (by kernel_rfl) (by decide) ?_
  exact .stop ⟨1,1,1,2⟩ (.inl (by decide))
 ·refine ScanR.tok _ ⟨121,⟨0,0,1,1⟩⟩ [] 1 ⟨#[121]⟩ [] (.ok [⟨0,⟨#[]⟩,⟨1,1,1,2⟩⟩]) (by kernel_rfl) (afb (by kernel_rfl) (by kernel_rfl) (by decide) (by kernel_rfl)) ?_
  exact ScanR.done _ (by kernel_rfl) (by decide)
theorem ash:NmsOk [⟨#[120]⟩,⟨#[121]⟩]:=by
 refine ⟨by decide,fun i x hx=>?_⟩
 match i with
 | 0=>simp at hx;subst hx;exact ⟨ayy,by simp⟩
 | 1=>simp at hx;subst hx;exact ⟨ayz,by simp⟩
 | i+2=>simp at hx
def eqs:ByteArray:=⟨#[50,120,32,61,32,52,121,32,45,32,54]⟩
def eqt:List Tk:=[⟨2,⟨#[50]⟩,⟨0,0,1,1⟩⟩,⟨1,⟨#[120]⟩,⟨1,1,1,2⟩⟩,⟨3,⟨#[61]⟩,⟨3,3,1,4⟩⟩,⟨2,⟨#[52]⟩,⟨5,5,1,6⟩⟩,⟨1,⟨#[121]⟩,⟨6,6,1,7⟩⟩,⟨3,⟨#[45]⟩,⟨8,8,1,9⟩⟩,⟨2,⟨#[54]⟩,⟨10,10,1,11⟩⟩,⟨0,⟨#[]⟩,⟨11,11,1,12⟩⟩]
theorem aw0:Snd eqs pl0 [⟨50,⟨0,0,1,1⟩⟩,⟨120,⟨1,1,1,2⟩⟩,⟨32,⟨2,2,1,3⟩⟩,⟨61,⟨3,3,1,4⟩⟩,⟨32,⟨4,4,1,5⟩⟩,⟨52,⟨5,5,1,6⟩⟩,⟨121,⟨6,6,1,7⟩⟩,⟨32,⟨7,7,1,8⟩⟩,⟨45,⟨8,8,1,9⟩⟩,⟨32,⟨9,9,1,10⟩⟩,⟨54,⟨10,10,1,11⟩⟩] ⟨11,11,1,12⟩:=by
 refine abg (p:=⟨0,0,1,1⟩) (k:=1) (by decide) (by kernel_rfl) (by decide) ?_
 refine abg (p:=⟨1,1,1,2⟩) (k:=1) (by decide) (by kernel_rfl) (by decide) ?_
 refine abg (p:=⟨2,2,1,3⟩) (k:=1) (by decide) (by kernel_rfl) (by decide) ?_
 refine abg (p:=⟨3,3,1,4⟩) (k:=1) (by decide) (by kernel_rfl) (by decide) ?_
 refine abg (p:=⟨4,4,1,5⟩) (k:=1) (by decide) (by kernel_rfl) (by decide) ?_
 refine abg (p:=⟨5,5,1,6⟩) (k:=1) (by decide) (by kernel_rfl) (by decide) ?_
 refine abg (p:=⟨6,6,1,7⟩) (k:=1) (by decide) (by kernel_rfl) (by decide) ?_
 refine abg (p:=⟨7,7,1,8⟩) (k:=1) (by decide) (by kernel_rfl) (by decide) ?_
 refine abg (p:=⟨8,8,1,9⟩) (k:=1) (by decide) (by kernel_rfl) (by decide) ?_
 refine abg (p:=⟨9,9,1,10⟩) (k:=1) (by decide) (by kernel_rfl) (by decide) ?_
 refine abg (p:=⟨10,10,1,11⟩) (k:=1) (by decide) (by kernel_rfl) (by decide) ?_
 exact .stop ⟨11,11,1,12⟩ (.inl (by decide))
theorem aux:ScanR eqs ⟨11,11,1,12⟩ [⟨50,⟨0,0,1,1⟩⟩,⟨120,⟨1,1,1,2⟩⟩,⟨32,⟨2,2,1,3⟩⟩,⟨61,⟨3,3,1,4⟩⟩,⟨32,⟨4,4,1,5⟩⟩,⟨52,⟨5,5,1,6⟩⟩,⟨121,⟨6,6,1,7⟩⟩,⟨32,⟨7,7,1,8⟩⟩,⟨45,⟨8,8,1,9⟩⟩,⟨32,⟨9,9,1,10⟩⟩,⟨54,⟨10,10,1,11⟩⟩] (.ok eqt):=by
 show ScanR eqs ⟨11,11,1,12⟩ [⟨50,⟨0,0,1,1⟩⟩,⟨120,⟨1,1,1,2⟩⟩,⟨32,⟨2,2,1,3⟩⟩,⟨61,⟨3,3,1,4⟩⟩,⟨32,⟨4,4,1,5⟩⟩,⟨52,⟨5,5,1,6⟩⟩,⟨121,⟨6,6,1,7⟩⟩,⟨32,⟨7,7,1,8⟩⟩,⟨45,⟨8,8,1,9⟩⟩,⟨32,⟨9,9,1,10⟩⟩,⟨54,⟨10,10,1,11⟩⟩] (.ok [⟨2,⟨#[50]⟩,⟨0,0,1,1⟩⟩,⟨1,⟨#[120]⟩,⟨1,1,1,2⟩⟩,⟨3,⟨#[61]⟩,⟨3,3,1,4⟩⟩,⟨2,⟨#[52]⟩,⟨5,5,1,6⟩⟩,⟨1,⟨#[121]⟩,⟨6,6,1,7⟩⟩,⟨3,⟨#[45]⟩,⟨8,8,1,9⟩⟩,⟨2,⟨#[54]⟩,⟨10,10,1,11⟩⟩,⟨0,⟨#[]⟩,⟨11,11,1,12⟩⟩])
 have hn0:TokR eqs ⟨11,11,1,12⟩ ⟨50,⟨0,0,1,1⟩⟩ [⟨120,⟨1,1,1,2⟩⟩,⟨32,⟨2,2,1,3⟩⟩,⟨61,⟨3,3,1,4⟩⟩,⟨32,⟨4,4,1,5⟩⟩,⟨52,⟨5,5,1,6⟩⟩,⟨121,⟨6,6,1,7⟩⟩,⟨32,⟨7,7,1,8⟩⟩,⟨45,⟨8,8,1,9⟩⟩,⟨32,⟨9,9,1,10⟩⟩,⟨54,⟨10,10,1,11⟩⟩] (.ok 2 ⟨#[50]⟩ [⟨120,⟨1,1,1,2⟩⟩,⟨32,⟨2,2,1,3⟩⟩,⟨61,⟨3,3,1,4⟩⟩,⟨32,⟨4,4,1,5⟩⟩,⟨52,⟨5,5,1,6⟩⟩,⟨121,⟨6,6,1,7⟩⟩,⟨32,⟨7,7,1,8⟩⟩,⟨45,⟨8,8,1,9⟩⟩,⟨32,⟨9,9,1,10⟩⟩,⟨54,⟨10,10,1,11⟩⟩]):=by
  have hv:dval (bytesOf (eqs.extract 0 1))=2:=by kernel_rfl
  have h1:IsLen (dval (bytesOf (eqs.extract 0 1))) 1:=⟨[2],⟨by intro z hz;simp at hz;omega,by kernel_rfl⟩,by rw [hv];kernel_rfl,rfl⟩
  have h2:IsDec [50] (dval (bytesOf (eqs.extract 0 1))):=⟨by intro z hz;simp at hz;omega,by rw [hv];kernel_rfl,.inr ⟨50,[],rfl,by decide⟩⟩
  exact ad6 (s:=eqs) (e:=⟨11,11,1,12⟩) (g:=⟨50,⟨0,0,1,1⟩⟩) (r:=[⟨120,⟨1,1,1,2⟩⟩,⟨32,⟨2,2,1,3⟩⟩,⟨61,⟨3,3,1,4⟩⟩,⟨32,⟨4,4,1,5⟩⟩,⟨52,⟨5,5,1,6⟩⟩,⟨121,⟨6,6,1,7⟩⟩,⟨32,⟨7,7,1,8⟩⟩,⟨45,⟨8,8,1,9⟩⟩,⟨32,⟨9,9,1,10⟩⟩,⟨54,⟨10,10,1,11⟩⟩]) (n:=1) (ds:=[50]) (by kernel_rfl) h1 h2
 refine ScanR.tok _ ⟨50,⟨0,0,1,1⟩⟩ [⟨120,⟨1,1,1,2⟩⟩,⟨32,⟨2,2,1,3⟩⟩,⟨61,⟨3,3,1,4⟩⟩,⟨32,⟨4,4,1,5⟩⟩,⟨52,⟨5,5,1,6⟩⟩,⟨121,⟨6,6,1,7⟩⟩,⟨32,⟨7,7,1,8⟩⟩,⟨45,⟨8,8,1,9⟩⟩,⟨32,⟨9,9,1,10⟩⟩,⟨54,⟨10,10,1,11⟩⟩] 2 ⟨#[50]⟩ [⟨120,⟨1,1,1,2⟩⟩,⟨32,⟨2,2,1,3⟩⟩,⟨61,⟨3,3,1,4⟩⟩,⟨32,⟨4,4,1,5⟩⟩,⟨52,⟨5,5,1,6⟩⟩,⟨121,⟨6,6,1,7⟩⟩,⟨32,⟨7,7,1,8⟩⟩,⟨45,⟨8,8,1,9⟩⟩,⟨32,⟨9,9,1,10⟩⟩,⟨54,⟨10,10,1,11⟩⟩] (.ok [⟨1,⟨#[120]⟩,⟨1,1,1,2⟩⟩,⟨3,⟨#[61]⟩,⟨3,3,1,4⟩⟩,⟨2,⟨#[52]⟩,⟨5,5,1,6⟩⟩,⟨1,⟨#[121]⟩,⟨6,6,1,7⟩⟩,⟨3,⟨#[45]⟩,⟨8,8,1,9⟩⟩,⟨2,⟨#[54]⟩,⟨10,10,1,11⟩⟩,⟨0,⟨#[]⟩,⟨11,11,1,12⟩⟩]) (by kernel_rfl) hn0 ?_
 refine ScanR.tok _ ⟨120,⟨1,1,1,2⟩⟩ [⟨32,⟨2,2,1,3⟩⟩,⟨61,⟨3,3,1,4⟩⟩,⟨32,⟨4,4,1,5⟩⟩,⟨52,⟨5,5,1,6⟩⟩,⟨121,⟨6,6,1,7⟩⟩,⟨32,⟨7,7,1,8⟩⟩,⟨45,⟨8,8,1,9⟩⟩,⟨32,⟨9,9,1,10⟩⟩,⟨54,⟨10,10,1,11⟩⟩] 1 ⟨#[120]⟩ [⟨32,⟨2,2,1,3⟩⟩,⟨61,⟨3,3,1,4⟩⟩,⟨32,⟨4,4,1,5⟩⟩,⟨52,⟨5,5,1,6⟩⟩,⟨121,⟨6,6,1,7⟩⟩,⟨32,⟨7,7,1,8⟩⟩,⟨45,⟨8,8,1,9⟩⟩,⟨32,⟨9,9,1,10⟩⟩,⟨54,⟨10,10,1,11⟩⟩] (.ok [⟨3,⟨#[61]⟩,⟨3,3,1,4⟩⟩,⟨2,⟨#[52]⟩,⟨5,5,1,6⟩⟩,⟨1,⟨#[121]⟩,⟨6,6,1,7⟩⟩,⟨3,⟨#[45]⟩,⟨8,8,1,9⟩⟩,⟨2,⟨#[54]⟩,⟨10,10,1,11⟩⟩,⟨0,⟨#[]⟩,⟨11,11,1,12⟩⟩]) (by kernel_rfl) (afb (by kernel_rfl) (by kernel_rfl) (by decide) (by kernel_rfl)) ?_
 refine ScanR.tok _ ⟨61,⟨3,3,1,4⟩⟩ [⟨32,⟨4,4,1,5⟩⟩,⟨52,⟨5,5,1,6⟩⟩,⟨121,⟨6,6,1,7⟩⟩,⟨32,⟨7,7,1,8⟩⟩,⟨45,⟨8,8,1,9⟩⟩,⟨32,⟨9,9,1,10⟩⟩,⟨54,⟨10,10,1,11⟩⟩] 3 ⟨#[61]⟩ [⟨32,⟨4,4,1,5⟩⟩,⟨52,⟨5,5,1,6⟩⟩,⟨121,⟨6,6,1,7⟩⟩,⟨32,⟨7,7,1,8⟩⟩,⟨45,⟨8,8,1,9⟩⟩,⟨32,⟨9,9,1,10⟩⟩,⟨54,⟨10,10,1,11⟩⟩] (.ok [⟨2,⟨#[52]⟩,⟨5,5,1,6⟩⟩,⟨1,⟨#[121]⟩,⟨6,6,1,7⟩⟩,⟨3,⟨#[45]⟩,⟨8,8,1,9⟩⟩,⟨2,⟨#[54]⟩,⟨10,10,1,11⟩⟩,⟨0,⟨#[]⟩,⟨11,11,1,12⟩⟩]) (by kernel_rfl) (ab2 (by kernel_rfl)) ?_
 have hn5:TokR eqs ⟨11,11,1,12⟩ ⟨52,⟨5,5,1,6⟩⟩ [⟨121,⟨6,6,1,7⟩⟩,⟨32,⟨7,7,1,8⟩⟩,⟨45,⟨8,8,1,9⟩⟩,⟨32,⟨9,9,1,10⟩⟩,⟨54,⟨10,10,1,11⟩⟩] (.ok 2 ⟨#[52]⟩ [⟨121,⟨6,6,1,7⟩⟩,⟨32,⟨7,7,1,8⟩⟩,⟨45,⟨8,8,1,9⟩⟩,⟨32,⟨9,9,1,10⟩⟩,⟨54,⟨10,10,1,11⟩⟩]):=by
  have hv:dval (bytesOf (eqs.extract 5 6))=4:=by kernel_rfl
  have h1:IsLen (dval (bytesOf (eqs.extract 5 6))) 1:=⟨[4],⟨by intro z hz;simp at hz;omega,by kernel_rfl⟩,by rw [hv];kernel_rfl,rfl⟩
  have h2:IsDec [52] (dval (bytesOf (eqs.extract 5 6))):=⟨by intro z hz;simp at hz;omega,by rw [hv];kernel_rfl,.inr ⟨52,[],rfl,by decide⟩⟩
  exact ad6 (s:=eqs) (e:=⟨11,11,1,12⟩) (g:=⟨52,⟨5,5,1,6⟩⟩) (r:=[⟨121,⟨6,6,1,7⟩⟩,⟨32,⟨7,7,1,8⟩⟩,⟨45,⟨8,8,1,9⟩⟩,⟨32,⟨9,9,1,10⟩⟩,⟨54,⟨10,10,1,11⟩⟩]) (n:=1) (ds:=[52]) (by kernel_rfl) h1 h2
 refine ScanR.tok _ ⟨52,⟨5,5,1,6⟩⟩ [⟨121,⟨6,6,1,7⟩⟩,⟨32,⟨7,7,1,8⟩⟩,⟨45,⟨8,8,1,9⟩⟩,⟨32,⟨9,9,1,10⟩⟩,⟨54,⟨10,10,1,11⟩⟩] 2 ⟨#[52]⟩ [⟨121,⟨6,6,1,7⟩⟩,⟨32,⟨7,7,1,8⟩⟩,⟨45,⟨8,8,1,9⟩⟩,⟨32,⟨9,9,1,10⟩⟩,⟨54,⟨10,10,1,11⟩⟩] (.ok [⟨1,⟨#[121]⟩,⟨6,6,1,7⟩⟩,⟨3,⟨#[45]⟩,⟨8,8,1,9⟩⟩,⟨2,⟨#[54]⟩,⟨10,10,1,11⟩⟩,⟨0,⟨#[]⟩,⟨11,11,1,12⟩⟩]) (by kernel_rfl) hn5 ?_
 refine ScanR.tok _ ⟨121,⟨6,6,1,7⟩⟩ [⟨32,⟨7,7,1,8⟩⟩,⟨45,⟨8,8,1,9⟩⟩,⟨32,⟨9,9,1,10⟩⟩,⟨54,⟨10,10,1,11⟩⟩] 1 ⟨#[121]⟩ [⟨32,⟨7,7,1,8⟩⟩,⟨45,⟨8,8,1,9⟩⟩,⟨32,⟨9,9,1,10⟩⟩,⟨54,⟨10,10,1,11⟩⟩] (.ok [⟨3,⟨#[45]⟩,⟨8,8,1,9⟩⟩,⟨2,⟨#[54]⟩,⟨10,10,1,11⟩⟩,⟨0,⟨#[]⟩,⟨11,11,1,12⟩⟩]) (by kernel_rfl) (afb (by kernel_rfl) (by kernel_rfl) (by decide) (by kernel_rfl)) ?_
 refine ScanR.tok _ ⟨45,⟨8,8,1,9⟩⟩ [⟨32,⟨9,9,1,10⟩⟩,⟨54,⟨10,10,1,11⟩⟩] 3 ⟨#[45]⟩ [⟨32,⟨9,9,1,10⟩⟩,⟨54,⟨10,10,1,11⟩⟩] (.ok [⟨2,⟨#[54]⟩,⟨10,10,1,11⟩⟩,⟨0,⟨#[]⟩,⟨11,11,1,12⟩⟩]) (by kernel_rfl) (ab2 (by kernel_rfl)) ?_
 have hn10:TokR eqs ⟨11,11,1,12⟩ ⟨54,⟨10,10,1,11⟩⟩ [] (.ok 2 ⟨#[54]⟩ []):=by
  have hv:dval (bytesOf (eqs.extract 10 11))=6:=by kernel_rfl
  have h1:IsLen (dval (bytesOf (eqs.extract 10 11))) 1:=⟨[6],⟨by intro z hz;simp at hz;omega,by kernel_rfl⟩,by rw [hv];kernel_rfl,rfl⟩
  have h2:IsDec [54] (dval (bytesOf (eqs.extract 10 11))):=⟨by intro z hz;simp at hz;omega,by rw [hv];kernel_rfl,.inr ⟨54,[],rfl,by decide⟩⟩
  exact ad6 (s:=eqs) (e:=⟨11,11,1,12⟩) (g:=⟨54,⟨10,10,1,11⟩⟩) (r:=[]) (n:=1) (ds:=[54]) (by kernel_rfl) h1 h2
 refine ScanR.tok _ ⟨54,⟨10,10,1,11⟩⟩ [] 2 ⟨#[54]⟩ [] (.ok [⟨0,⟨#[]⟩,⟨11,11,1,12⟩⟩]) (by kernel_rfl) hn10 ?_
 exact ScanR.done _ (by kernel_rfl) (by decide)
theorem z_2:zOf ⟨#[50]⟩ = 2:=by
 have h1:msplit ⟨#[50]⟩ = (false,⟨#[50]⟩):=by kernel_rfl
 have h2:Dm.Fine ⟨#[50]⟩:=⟨by decide,by decide,by intro z hz;simp [bytesOf] at hz;omega⟩
 have h3:zOf ⟨#[50]⟩ = sg false (xOf ⟨#[50]⟩):=by unfold zOf;rw [h1]
 rw [h3,(adt h2).2]
 exact (by kernel_rfl:sg false (dval (bytesOf ⟨#[50]⟩))=2)
theorem z_4:zOf ⟨#[52]⟩ = 4:=by
 have h1:msplit ⟨#[52]⟩ = (false,⟨#[52]⟩):=by kernel_rfl
 have h2:Dm.Fine ⟨#[52]⟩:=⟨by decide,by decide,by intro z hz;simp [bytesOf] at hz;omega⟩
 have h3:zOf ⟨#[52]⟩ = sg false (xOf ⟨#[52]⟩):=by unfold zOf;rw [h1]
 rw [h3,(adt h2).2]
 exact (by kernel_rfl:sg false (dval (bytesOf ⟨#[52]⟩))=4)
theorem z_6:zOf ⟨#[54]⟩ = 6:=by
 have h1:msplit ⟨#[54]⟩ = (false,⟨#[54]⟩):=by kernel_rfl
 have h2:Dm.Fine ⟨#[54]⟩:=⟨by decide,by decide,by intro z hz;simp [bytesOf] at hz;omega⟩
 have h3:zOf ⟨#[54]⟩ = sg false (xOf ⟨#[54]⟩):=by unfold zOf;rw [h1]
 rw [h3,(adt h2).2]
 exact (by kernel_rfl:sg false (dval (bytesOf ⟨#[54]⟩))=6)
theorem abt {l:List Tk} {i:Nat} {t t1:Tk} {z:Int} (h:l[i]? = some t) (h1:l[i+1]? = some t1) (hs:tsg t1 sOver=false) (hz:zOf t.text=z):CoefR l i true (i+1) (z:Int):=by
 subst hz
 exact .plain t t1 h h1 hs
def rs0:List Rat:=List.replicate 3 0
def rs1:List Rat:=rs0.set 0 (0+sgq false ((2:Int):Rat))
def rs2:List Rat:=rs1.set 1 (0+sgq true ((4:Int):Rat))
def rs3:List Rat:=rs2.set 2 (0+sgq false (-((6:Int):Rat)))
theorem aw1:EqR eqt [⟨#[120]⟩,⟨#[121]⟩] 8 0 (List.replicate 3 0) true 7 rs3:=by
 refine .good 2 rs1 ⟨3,⟨#[61]⟩,⟨3,3,1,4⟩⟩ ?_ rfl (by kernel_rfl) 7 rs3 ?_ ⟨0,⟨#[]⟩,⟨11,11,1,12⟩⟩ rfl rfl
 ·refine ⟨_,rfl,?_⟩
  refine .last _ _ 2 _ _ ?_ ⟨3,⟨#[61]⟩,⟨3,3,1,4⟩⟩ rfl (by kernel_rfl)
  exact .next _ rfl rfl 1 _ (abt rfl rfl (by kernel_rfl) z_2) (by constructor <;> decide +kernel) _ rfl (by kernel_rfl) rfl _ _ _ (.yes _ 0 0 rfl (by kernel_rfl) rfl (by constructor <;> decide +kernel) (by constructor <;> decide +kernel))
 ·refine ⟨_,rfl,?_⟩
  refine .more _ _ 5 _ _ rs2 _ _ ?_ ⟨3,⟨#[45]⟩,⟨8,8,1,9⟩⟩ rfl (by kernel_rfl) ?_
  ·exact .next _ rfl rfl 4 _ (abt rfl rfl (by kernel_rfl) z_4) (by constructor <;> decide +kernel) _ rfl (by kernel_rfl) rfl _ _ _ (.yes _ 1 0 rfl (by kernel_rfl) rfl (by constructor <;> decide +kernel) (by constructor <;> decide +kernel))
  ·refine .last _ _ 7 _ _ ?_ ⟨0,⟨#[]⟩,⟨11,11,1,12⟩⟩ rfl (by kernel_rfl)
   exact .alone _ rfl rfl 7 _ (abt rfl rfl (by kernel_rfl) z_6) (by constructor <;> decide +kernel) _ rfl (by kernel_rfl) (by decide) 0 rfl (by constructor <;> decide +kernel)
theorem alj:canonZ rs3 = [1,-2,-3]:=by kernel_rfl
def dcs (ds:List Int):List Nat:=ds.map Int.toNat
theorem aw2 {ds:List Int} (h:Dig ds):Asc (dcs ds):=fun c hc=>by
 obtain ⟨d,hd,rfl⟩:=List.mem_map.1 hc
 have:=h d hd
 omega
theorem aig {ds:List Int} {x:Int} (h:IsDec ds x):∃ c u,ds=c :: u:=by
 rcases h.2.2 with ⟨_,rfl⟩ | ⟨c,u,rfl,_⟩
 ·exact ⟨_,_,rfl⟩
 ·exact ⟨_,_,rfl⟩
theorem aw3 {ds:List Int} {x:Int} {n:Nat} (r:List Nat) (h:IsDec ds x) (hn:IsLen x n) (hl:n≤32) (hr:Stop [3] r):TokC (dcs ds ++ r) 2 (strOfNums ds) r:=by
 obtain ⟨c,u,rfl⟩:=aig h
 have hb:=amj _ (aef h.1)
 exact TokC.num c.toNat (dcs u) r n (c :: u) (ar1 h.1).1 hr (by
  rw [show c.toNat :: dcs u=(c :: u).map Int.toNat from rfl,hb,h.2.1]
  exact hn) hl (by
  rw [show c.toNat :: dcs u=(c :: u).map Int.toNat from rfl,hb,h.2.1]
  exact h)
theorem azo {ds:List Int} {x:Int} (h:IsDec ds x) (hl:ds.length≤5120):zOf (strOfNums ds)=x:=by
 have hb:=amc h.1
 obtain ⟨c,u,rfl⟩:=aig h
 have h0:((strOfNums (c :: u)).get! 0).toNat=c.toNat:=by
  have h1:=h.1 c (by simp)
  show (UInt8.ofNat c.toNat).toNat=c.toNat
  rw [UInt8.toNat_ofNat']
  omega
 have hc:=h.1 c (by simp)
 have h1:msplit (strOfNums (c :: u))=(false,strOfNums (c :: u)):=by
  unfold msplit
  rw [h0,if_neg (by omega),if_neg (by omega)]
 have h2:Dm.Fine (strOfNums (c :: u)):=⟨by rw [ah0];simp,by rw [ah0];exact hl,by rw [hb];exact h.1⟩
 unfold zOf
 rw [h1,(adt h2).2,hb,h.2.1]
 rfl
theorem ay0 (cs:List Nat):skc false (32 :: cs)=skc false cs:=by
 rw [skc,if_neg (by decide),if_pos (by decide)]
theorem ajo {ks:List Int} {c:Nat} {r:List Nat} (h:inK ks c=false):Stop ks (c :: r):=by
 intro d t e
 obtain ⟨rfl,_⟩:=List.cons.inj e
 exact h
theorem alk {ks:List Int} : Stop ks []:=by intro d t e;cases e
def hdc (X Y:List Int) (B:List Nat):List Nat:=dcs X ++ 120 :: 32 :: 45 :: 32 :: (dcs Y ++ 47 :: (dcs Y ++ 42 :: 121 :: B))
theorem aw4 {z:Int} {L:Nat} (h:(z.natAbs:Int)<pw L) (hL:1≤L):Fit (z:Rat) L:=by
 have h1:pw 1≤pw L:=aa3 hL
 have h2:(1:Int)<pw 1:=by decide
 exact ⟨by simpa using h,by simp;omega⟩
end Lm
end Go.Proofs.YtdjgifcmhafppaaGreatDoor
namespace Go.Proofs.YtdjgifcmhafppaaGreatDoor
namespace Lm
open Go Go.RowKit
theorem ay1 {p r:List Nat} {ts:List (Int × ByteArray)} (h:skc false (p ++ r)=skc false r) (hr:ScanC r ts):ScanC (p ++ r) ts:=by
 cases hr with
 | done _ h1=>exact .done _ (by rw [h];exact h1)
 | tok _ k x rest ts h1 h2=>exact .tok _ k x rest ts (by rw [h];exact h1) h2
theorem agf {r:List Nat} {ts:List (Int × ByteArray)} (hr:ScanC r ts):ScanC (32 :: r) ts:=ay1 (p:=[32]) (ay0 r) hr
theorem alm {cs r:List Nat} {k:Int} {x:ByteArray} {ts:List (Int × ByteArray)} (ht:TokC cs k x r) (hr:ScanC r ts):ScanC cs ((k,x) :: ts):=.tok cs k x r ts (by rw [ht.skc];exact ht) hr
theorem aeu {c:Nat} {r:List Nat} {ts:List (Int × ByteArray)} (hc:gcls c=5) (hn:c≠8788∧c≠8800∧c≠58∧c≠33) (hr:ScanC r ts):ScanC (c :: r) ((3,strOfNums [gfold c]) :: ts):=alm (.sign c r hc hn) hr
theorem asi:ScanC [] [(0,⟨#[]⟩)]:=.done _ rfl
structure Nd (ds:List Int) (x:Int):Prop where
 dec:IsDec ds x
 len:∃ m,IsLen x m∧m≤32
 sh:ds.length≤400
theorem Nd.z {ds:List Int} {x:Int} (h:Nd ds x):zOf (strOfNums ds)=x:=azo h.dec (by have:=h.sh;omega)
theorem aln {ds:List Int} {x:Int} (h:Nd ds x) {r:List Nat} {ts:List (Int × ByteArray)} (hs:Stop [3] r) (hr:ScanC r ts):ScanC (dcs ds ++ r) ((2,strOfNums ds) :: ts):=by
 obtain ⟨m,h1,h2⟩:=h.len
 exact alm (aw3 r h.dec h1 h2 hs) hr
theorem ank {ds:List Int} {x:Int} (h:Nd ds x):ScanC (dcs ds) [(2,strOfNums ds),(0,⟨#[]⟩)]:=by
 have:=aln h alk asi
 rwa [List.append_nil] at this
theorem st3 (c:Nat) (r:List Nat) (h:inK [3] c=false):Stop [3] (c :: r):=ajo h
theorem st2 (c:Nat) (r:List Nat) (h:inK [2,3,4] c=false):Stop [2,3,4] (c :: r):=ajo h
def tN (ds:List Int):Int × ByteArray:=(2,strOfNums ds)
def tS (c:UInt8):Int × ByteArray:=(3,⟨#[c]⟩)
def tE:Int × ByteArray:=(0,⟨#[]⟩)
variable {A B D M O P C:List Int} {a b d m o p c:Int}
theorem nd0:Nd [48] 0:=⟨⟨fun d hd=>by simp at hd;omega,by simp [dval,p10],.inl ⟨rfl,rfl⟩⟩,⟨0,⟨[],⟨fun z hz=>by simp at hz,rfl⟩,rfl,rfl⟩,by decide⟩,by decide⟩
end Lm
end Go.Proofs.YtdjgifcmhafppaaGreatDoor
namespace Go.Proofs.YtdjgifcmhafppaaGreatDoor
namespace Lm
open Go Go.RowKit
def mkt (f:Nat→Pl):Nat→List (Int × ByteArray)→List Tk
 | _,[]=>[]
 | n,t :: ts=>⟨t.1,t.2,f n⟩ :: mkt f (n+1) ts
theorem ajp {f g:Nat→Pl} : ∀ {ts:List (Int × ByteArray)} {n:Nat},(∀ i,n≤i→f i=g i)→mkt f n ts=mkt g n ts
 | [],_,_=>rfl
 | t :: ts,n,h=>by rw [mkt,mkt,h n (Nat.le_refl _),ajp (fun i hi=>h i (by omega))]
theorem asj:∀ (ts:List (Int × ByteArray)) (l:List Tk) (n:Nat),l.map kx=ts→∃ f,l=mkt f n ts
 | [],l,n,h=>⟨fun _=>pl0,by rw [List.map_eq_nil_iff] at h;rw [h];rfl⟩
 | t :: ts,[],n,h=>by cases h
 | t :: ts,u :: l,n,h=>by
  obtain ⟨h1,h2⟩:=List.cons.inj h
  obtain ⟨f,hf⟩:=asj ts l (n+1) h2
  refine ⟨fun i=>if i=n then u.pl else f i,?_⟩
  rw [mkt,if_pos rfl,←ajp (f:=f) (fun i hi=>by rw [if_neg (by omega)]),←hf,←h1]
  rfl
variable {A B D M O P C:List Int} {a b d m o p c:Int}
theorem fit0 {r:Rat} {L:Nat} (s:Bool) (h:Fit r L):Fit (0+sgq s r) L:=by rw [Rat.zero_add];exact awo s h
end Lm
end Go.Proofs.YtdjgifcmhafppaaGreatDoor
namespace Go.Proofs.YtdjgifcmhafppaaGreatDoor
namespace Lm
open Go Go.RowKit
theorem ahj {zs:List Int} : red zs=zs↔0≤dvs zs∧dvs zs≤1:=by
 constructor
 ·intro h
  by_cases ha:∀ z ∈ zs,z=0
  ·have:dvs zs=0:=by unfold dvs;rw [ajc ha];split <;> rfl
   omega
  ·obtain ⟨z,hz⟩:=Classical.not_forall.1 ha
   obtain ⟨hm,hn⟩:=Classical.not_imp.1 hz
   obtain ⟨k,hk⟩:=List.getElem?_of_mem hm
   have e:(red zs)[k]? = some (z / dvs zs):=by unfold red;simp [hk]
   rw [h,hk] at e
   have e' : z=z / dvs zs:=Option.some.inj e
   have h1:dvs zs*(z / dvs zs)=z:=Int.mul_ediv_cancel' (adr z hm)
   rw [←e'] at h1
   have h2:dvs zs=1:=Int.eq_of_mul_eq_mul_right hn (by rw [h1,Int.one_mul])
   omega
 ·rintro ⟨h1,h2⟩
  unfold red
  have h3:dvs zs=0∨dvs zs=1:=by omega
  have:∀ z ∈ zs,z / dvs zs=z:=by
   intro z hz
   rcases h3 with h3 | h3
   ·have:=adr z hz
    rw [h3] at this
    rw [h3,Int.zero_dvd.1 this]
    rfl
   ·rw [h3,Int.ediv_one]
  exact (List.map_congr_left this).trans (List.map_id' zs)
theorem aw5 {dst:Option Tmp} {ty:TypeId} {pos:String} {after:Array Edge} {guard:Option (Nat × Bool)} {a:Act} {w:World} {i:Nat} {u v:Int} (h1:a.eval (.tmp i)=.int .i64 u) :
  Does Tryz.prog { dst,op:=.binOp .leq 3 (.tmp i) (.const (.int .i64 v)) 3,type:=ty,pos,after,guard } a.eval w fun v' w'=>Below w.heap.size w w'∧Eqs (.bool (decide (u≤v))) v' w' := by
 refine ab4 (v:=.bool (decide (u≤v))) ?_ ?_ ⟨Below.refl _ _,rfl⟩
 ·rw [h1];simp [go_sem,Act.eval]
 ·rw [h1];simp [go_sem,Act.eval]
theorem anl (d:Int):0≤Int.sign d↔0≤d:=by
 rcases Int.lt_trichotomy d 0 with h | h | h
 ·rw [Int.sign_eq_neg_one_of_neg h];omega
 ·subst h;simp
 ·rw [Int.sign_eq_one_of_pos h];omega
set_option maxRecDepth 20000 in
set_option maxHeartbeats 8000000 in
set_option maxRecDepth 100000 in
theorem afk (w:World) (v:Value) (zs:List Int) (L:Nat) (h:IsRow w v zs L) (hL:L≤100000) :
  Calls Tryz.prog 13 #[v] w fun e w'=>e=.returned (.bool (decide (zs≠[]∧red zs=zs)))∧Below w.heap.size w w' := by
 obtain ⟨ao,cap,rfl,hn⟩:=h.parts
 have K:=ags w _ zs L h hL
 obtain ⟨n,hnn⟩:∃ n,zs.length=n:=⟨_,rfl⟩
 rw [hnn] at K hn ⊢
 have K:=hide K
 have HN:=hide hnn
 clear h hnn
 go_enter Tryz.func13,Tryz.ntmps13
 go_wp2_with fail
 refine K.out.mono ?_
 rintro e w1 ⟨r,rfl,ho,hb1⟩
 obtain ⟨ng,a,c,rs,rfl,_,_⟩:=id ho
 have hal:=hAl w1 (.cells #[.bool ng,.slice a rs.length c] 38)
 have hnw:=heap_alloc_new w1 (.cells #[.bool ng,.slice a rs.length c] 38)
 have HO:=hide (ho.ru (Ru.of_below hal))
 have HB:=hide (hb1.trans (hal.mono hb1.size))
 clear ho hb1 hal K
 go_upto_region 2 with fail
 generalize (w1.alloc (.cells #[.bool ng,.slice a rs.length c] 38))=w2 at *
 generalize w1.heap.size=f3 at *
 have HNW:=hide hnw
 clear hnw
 by_cases h0:n=0
 ·subst h0
  have HE:Hid (decide (zs≠[]∧red zs=zs)=false):=decide_eq_false (fun e=>e.1 (List.eq_nil_of_length_eq_zero HN.out))
  go_quiet (fail)
  go_wp2
  refine bodyPost_ret (v:=_) (act rfl rfl) rfl ⟨by rw [HE.out];rfl,gdrewN HB.out nq⟩
 have HZN:Hid (zs≠[]):=(fun e=>h0 (by rw [←HN.out,e];rfl))
 by_cases hd:0≤dvs zs
 ·have HSG:Hid (decide (0≤Int.sign (dvs zs))=true):=decide_eq_true ((anl _).2 hd)
  have HE:Hid (decide (zs≠[]∧red zs=zs)=decide (cmpI (dvs zs) 1≤0)):=by
   refine decide_eq_decide.2 ⟨fun e=>?_,fun e=>⟨HZN.out,ahj.2 ⟨hd,?_⟩⟩⟩
   ·have h2:=(ahj.1 e.2).2
    unfold cmpI
    split
    ·decide
    ·split <;> omega
   ·unfold cmpI at e
    split at e
    ·omega
    ·split at e <;> omega
  clear hd
  refine ab9 14 [6,7,8,9,10,11,12,13,14,15,16,17,18,19] [Eqs (.slice ao n cap),Eqs (.int .i64 (n:Int)),Eqs (.bool true),Eqs (.bool true),(OutW (dvs zs) L),Eqs (.int .i64 (Int.sign (dvs zs))),Eqs (.bool true),Eqs (.bool true),Eqs (.bool true),(OutW (dvs zs) L),(OutW 1 2),Eqs (.int .i64 (cmpI (dvs zs) 1)),Eqs (.bool (decide (cmpI (dvs zs) 1≤0))),Eqs (.bool (decide (cmpI (dvs zs) 1≤0)))] rfl rfl (by decide) (by kernel_rfl) (by kernel_rfl) (by decide) (by kernel_rfl) ⟨Eqs.mono _,Eqs.mono _,Eqs.mono _,Eqs.mono _,(Mono.of4 (OutW.mono4 _ _)),Eqs.mono _,Eqs.mono _,Eqs.mono _,Eqs.mono _,(Mono.of4 (OutW.mono4 _ _)),(Mono.of4 (OutW.mono4 _ _)),Eqs.mono _,Eqs.mono _,Eqs.mono _,trivial⟩ ?_ ?_
  ·exact ⟨⟨rfl,fun a_ w_ _ hB hR hD=>aav ((hR 0 rfl).trans (aax rfl))⟩,
     ⟨rfl,fun a_ w_ _ hB hR hD=>aer (show a_.eval (.tmp 6)=.slice ao n cap from hD 0 rfl)⟩,
     ⟨rfl,fun a_ w_ _ hB hR hD=>ana (show a_.eval (.tmp 7)=.int .i64 (n:Int) from hD 1 rfl) (by omega)⟩,
     ⟨rfl,fun a_ w_ _ hB hR hD=>aav (show a_.eval (.tmp 8)=.bool true from hD 2 rfl)⟩,
     ⟨rfl,fun a_ w_ _ hB hR hD=>⟨by decide,fun _=>ab8 ((hR 3 rfl).trans (aax rfl)) ((hB.block _ (aaa HNW.out)).trans HNW.out) (Mono.of4 (OutW.mono4 _ _) _ _ _ hB HO.out),fun hne=>absurd (hD 3 rfl) hne⟩⟩,
     ⟨rfl,fun a_ w_ _ hB hR hD=>⟨by decide,fun _=>am2 (OutW.is (show (OutW (dvs zs) L) (a_.eval (.tmp 10)) w_ from hD 4 rfl)) (by omega),fun hne=>absurd (hD 3 rfl) hne⟩⟩,
     ⟨rfl,fun a_ w_ _ hB hR hD=>⟨by decide,fun _=>(ang (show a_.eval (.tmp 11)=.int .i64 (Int.sign (dvs zs)) from hD 5 rfl)).mono (fun v' w' ⟨hb,e⟩=>⟨hb,by rw [Eqs,show v' = _ from e,HSG.out]⟩),fun hne=>absurd (hD 3 rfl) hne⟩⟩,
     ⟨rfl,fun a_ w_ _ hB hR hD=>ad0 (show a_.eval (.tmp 9)=.bool true from hD 3 rfl) (show a_.eval (.tmp 12)=.bool true from hD 6 rfl)⟩,
     ⟨rfl,fun a_ w_ _ hB hR hD=>aav (show a_.eval (.tmp 13)=.bool true from hD 7 rfl)⟩,
     ⟨rfl,fun a_ w_ _ hB hR hD=>⟨by decide,fun _=>ab8 ((hR 3 rfl).trans (aax rfl)) ((hB.block _ (aaa HNW.out)).trans HNW.out) (Mono.of4 (OutW.mono4 _ _) _ _ _ hB HO.out),fun hne=>absurd (hD 8 rfl) hne⟩⟩,
     ⟨rfl,fun a_ w_ _ hB hR hD=>⟨by decide,fun _=>azd (by decide) (by decide),fun hne=>absurd (hD 8 rfl) hne⟩⟩,
     ⟨rfl,fun a_ w_ _ hB hR hD=>⟨by decide,fun _=>ax2 (OutW.is (show (OutW (dvs zs) L) (a_.eval (.tmp 15)) w_ from hD 9 rfl)) (OutW.is (show (OutW 1 2) (a_.eval (.tmp 16)) w_ from hD 10 rfl)) (by omega) (by omega),fun hne=>absurd (hD 8 rfl) hne⟩⟩,
     ⟨rfl,fun a_ w_ _ hB hR hD=>⟨by decide,fun _=>aw5 (show a_.eval (.tmp 17)=.int .i64 (cmpI (dvs zs) 1) from hD 11 rfl),fun hne=>absurd (hD 8 rfl) hne⟩⟩,
     ⟨rfl,fun a_ w_ _ hB hR hD=>ad0 (show a_.eval (.tmp 14)=.bool true from hD 8 rfl) (show a_.eval (.tmp 18)=.bool (decide (cmpI (dvs zs) 1≤0)) from hD 12 rfl)⟩,
     trivial⟩
  ·intro a' w' hn' hd' hB' hR' hP'
   have e6:a'.eval (.tmp 6)=.slice ao n cap:=hP' 0 (by decide)
   have e7:a'.eval (.tmp 7)=.int .i64 (n:Int):=hP' 1 (by decide)
   have e8:a'.eval (.tmp 8)=.bool true:=hP' 2 (by decide)
   have e9:a'.eval (.tmp 9)=.bool true:=hP' 3 (by decide)
   obtain ⟨u10,e10⟩:∃ u,a'.eval (.tmp 10)=u:=⟨_,rfl⟩
   have e11:a'.eval (.tmp 11)=.int .i64 (Int.sign (dvs zs)):=hP' 5 (by decide)
   have e12:a'.eval (.tmp 12)=.bool true:=hP' 6 (by decide)
   have e13:a'.eval (.tmp 13)=.bool true:=hP' 7 (by decide)
   have e14:a'.eval (.tmp 14)=.bool true:=hP' 8 (by decide)
   obtain ⟨u15,e15⟩:∃ u,a'.eval (.tmp 15)=u:=⟨_,rfl⟩
   obtain ⟨u16,e16⟩:∃ u,a'.eval (.tmp 16)=u:=⟨_,rfl⟩
   have e17:a'.eval (.tmp 17)=.int .i64 (cmpI (dvs zs) 1):=hP' 11 (by decide)
   have e18:a'.eval (.tmp 18)=.bool (decide (cmpI (dvs zs) 1≤0)):=hP' 12 (by decide)
   have e19:a'.eval (.tmp 19)=.bool (decide (cmpI (dvs zs) 1≤0)):=hP' 13 (by decide)
   refine ac7 hn' hd' hR' (.s4 rfl <| .same rfl <| .same rfl <| .new e6 <| .new e7 <| .new e8 <| .new e9 <| .new e10 <| .new e11 <| .new e12 <| .new e13 <| .new e14 <| .new e15 <| .new e16 <| .new e17 <| .new e18 <| .new e19 <| .nil) ?_
   clear e6 e7 e8 e9 e10 e11 e12 e13 e14 e15 e16 e17 e18 e19
   have HB' := hide (HB.out.trans (hB'.mono HB.out.size))
   clear hB' hR' hP' hn' hd'
   go_wp2
   refine bodyPost_ret (v:=_) (act rfl rfl) rfl ⟨by rw [HE.out];rfl,HB'.out⟩
 ·have HSG:Hid (decide (0≤Int.sign (dvs zs))=false):=decide_eq_false (fun e=>hd ((anl _).1 e))
  have HE:Hid (decide (zs≠[]∧red zs=zs)=false):=decide_eq_false (fun e=>hd (ahj.1 e.2).1)
  clear hd
  refine ab9 14 [6,7,8,9,10,11,12,13,14,15,16,17,18,19] [Eqs (.slice ao n cap),Eqs (.int .i64 (n:Int)),Eqs (.bool true),Eqs (.bool true),(OutW (dvs zs) L),Eqs (.int .i64 (Int.sign (dvs zs))),Eqs (.bool false),Eqs (.bool false),Eqs (.bool false),(fun _ _=>True),(fun _ _=>True),(fun _ _=>True),(fun _ _=>True),Eqs ((.bool false))] rfl rfl (by decide) (by kernel_rfl) (by kernel_rfl) (by decide) (by kernel_rfl) ⟨Eqs.mono _,Eqs.mono _,Eqs.mono _,Eqs.mono _,(Mono.of4 (OutW.mono4 _ _)),Eqs.mono _,Eqs.mono _,Eqs.mono _,Eqs.mono _,(fun _ _ _ _ h=>h),(fun _ _ _ _ h=>h),(fun _ _ _ _ h=>h),(fun _ _ _ _ h=>h),Eqs.mono _,trivial⟩ ?_ ?_
  ·exact ⟨⟨rfl,fun a_ w_ _ hB hR hD=>aav ((hR 0 rfl).trans (aax rfl))⟩,
     ⟨rfl,fun a_ w_ _ hB hR hD=>aer (show a_.eval (.tmp 6)=.slice ao n cap from hD 0 rfl)⟩,
     ⟨rfl,fun a_ w_ _ hB hR hD=>ana (show a_.eval (.tmp 7)=.int .i64 (n:Int) from hD 1 rfl) (by omega)⟩,
     ⟨rfl,fun a_ w_ _ hB hR hD=>aav (show a_.eval (.tmp 8)=.bool true from hD 2 rfl)⟩,
     ⟨rfl,fun a_ w_ _ hB hR hD=>⟨by decide,fun _=>ab8 ((hR 3 rfl).trans (aax rfl)) ((hB.block _ (aaa HNW.out)).trans HNW.out) (Mono.of4 (OutW.mono4 _ _) _ _ _ hB HO.out),fun hne=>absurd (hD 3 rfl) hne⟩⟩,
     ⟨rfl,fun a_ w_ _ hB hR hD=>⟨by decide,fun _=>am2 (OutW.is (show (OutW (dvs zs) L) (a_.eval (.tmp 10)) w_ from hD 4 rfl)) (by omega),fun hne=>absurd (hD 3 rfl) hne⟩⟩,
     ⟨rfl,fun a_ w_ _ hB hR hD=>⟨by decide,fun _=>(ang (show a_.eval (.tmp 11)=.int .i64 (Int.sign (dvs zs)) from hD 5 rfl)).mono (fun v' w' ⟨hb,e⟩=>⟨hb,by rw [Eqs,show v' = _ from e,HSG.out]⟩),fun hne=>absurd (hD 3 rfl) hne⟩⟩,
     ⟨rfl,fun a_ w_ _ hB hR hD=>ad0 (show a_.eval (.tmp 9)=.bool true from hD 3 rfl) (show a_.eval (.tmp 12)=.bool false from hD 6 rfl)⟩,
     ⟨rfl,fun a_ w_ _ hB hR hD=>aav (show a_.eval (.tmp 13)=.bool false from hD 7 rfl)⟩,
     ⟨rfl,fun a_ w_ _ hB hR hD=>⟨by decide,fun hw=>absurd ((show _ = _ from hD 8 rfl).symm.trans hw) (by simp),fun _=>trivial⟩⟩,
     ⟨rfl,fun a_ w_ _ hB hR hD=>⟨by decide,fun hw=>absurd ((show _ = _ from hD 8 rfl).symm.trans hw) (by simp),fun _=>trivial⟩⟩,
     ⟨rfl,fun a_ w_ _ hB hR hD=>⟨by decide,fun hw=>absurd ((show _ = _ from hD 8 rfl).symm.trans hw) (by simp),fun _=>trivial⟩⟩,
     ⟨rfl,fun a_ w_ _ hB hR hD=>⟨by decide,fun hw=>absurd ((show _ = _ from hD 8 rfl).symm.trans hw) (by simp),fun _=>trivial⟩⟩,
     ⟨rfl,fun a_ w_ _ hB hR hD=>ad0 (show a_.eval (.tmp 14)=.bool false from hD 8 rfl) rfl⟩,
     trivial⟩
  ·intro a' w' hn' hd' hB' hR' hP'
   have e6:a'.eval (.tmp 6)=.slice ao n cap:=hP' 0 (by decide)
   have e7:a'.eval (.tmp 7)=.int .i64 (n:Int):=hP' 1 (by decide)
   have e8:a'.eval (.tmp 8)=.bool true:=hP' 2 (by decide)
   have e9:a'.eval (.tmp 9)=.bool true:=hP' 3 (by decide)
   obtain ⟨u10,e10⟩:∃ u,a'.eval (.tmp 10)=u:=⟨_,rfl⟩
   have e11:a'.eval (.tmp 11)=.int .i64 (Int.sign (dvs zs)):=hP' 5 (by decide)
   have e12:a'.eval (.tmp 12)=.bool false:=hP' 6 (by decide)
   have e13:a'.eval (.tmp 13)=.bool false:=hP' 7 (by decide)
   have e14:a'.eval (.tmp 14)=.bool false:=hP' 8 (by decide)
   obtain ⟨u15,e15⟩:∃ u,a'.eval (.tmp 15)=u:=⟨_,rfl⟩
   obtain ⟨u16,e16⟩:∃ u,a'.eval (.tmp 16)=u:=⟨_,rfl⟩
   obtain ⟨u17,e17⟩:∃ u,a'.eval (.tmp 17)=u:=⟨_,rfl⟩
   obtain ⟨u18,e18⟩:∃ u,a'.eval (.tmp 18)=u:=⟨_,rfl⟩
   have e19:a'.eval (.tmp 19)=(.bool false):=hP' 13 (by decide)
   refine ac7 hn' hd' hR' (.s4 rfl <| .same rfl <| .same rfl <| .new e6 <| .new e7 <| .new e8 <| .new e9 <| .new e10 <| .new e11 <| .new e12 <| .new e13 <| .new e14 <| .new e15 <| .new e16 <| .new e17 <| .new e18 <| .new e19 <| .nil) ?_
   clear e6 e7 e8 e9 e10 e11 e12 e13 e14 e15 e16 e17 e18 e19
   have HB' := hide (HB.out.trans (hB'.mono HB.out.size))
   clear hB' hR' hP' hn' hd'
   go_wp2
   refine bodyPost_ret (v:=_) (act rfl rfl) rfl ⟨by rw [HE.out];rfl,HB'.out⟩
structure QE where
 r:RE
 zs:List Int
 ys:List Int
def QE.p (e:QE):Int:=sg e.r.ng (val e.zs)
def QE.q (e:QE):Int:=val e.ys
def QE.w (e:QE):Rat:=Rat.divInt e.p e.q
structure Rq (w:World) (v:Value) (es:List QE):Prop where
 ce:Ce w v 3 es.length (rf3 (es.map QE.r))
 s1:∀ e ∈ es,Sl w (.slice e.r.a e.r.m e.r.c) e.zs
 s2:∀ e ∈ es,Sl w (.slice e.r.d e.r.k e.r.e) e.ys
theorem Rq.isq {w:World} {v:Value} {es:List QE} (h:Rq w v es) {L:Nat} (hl:∀ e ∈ es,e.zs.length≤L∧e.ys.length≤L):IsQrow w v (es.map QE.w) L:=by
 refine ⟨es.map QE.r,by simpa using h.ce,by simp,fun k e r he hr=>?_⟩
 simp only [List.getElem?_map,Option.map_eq_some_iff] at he hr
 obtain ⟨x,hx,rfl⟩:=he
 obtain ⟨y,hy,rfl⟩:=hr
 obtain rfl:x=y:=by rw [hx] at hy;exact Option.some.inj hy
 have hm:=List.mem_of_getElem? hx
 exact ⟨x.p,x.q,⟨_,_,_,_,x.zs,_,_,_,x.ys,rfl,⟨h.s1 x hm,rfl⟩,h.s2 x hm,rfl,(hl x hm).1,(hl x hm).2⟩,rfl⟩
def OwR (K:Nat) (ng:Bool) (zs ys:List Int):Says:=fun v w=>∃ ao cap bo dap,v=.agg #[.bool ng,.slice ao zs.length cap,.slice bo ys.length dap]∧Ow K w (.slice ao zs.length cap) zs∧Ow K w (.slice bo ys.length dap) ys
section
end
theorem apu (es fs:List RE):rf3 (es ++ fs)=rf3 es ++ rf3 fs:=by
 induction es with
 | nil=>rfl
 | cons e es ih=>simp [rf3,ih]
structure RqO (B:Nat) (w:World) (v:Value) (es:List QE):Prop where
 own:w.ownsRow B 40 3 v es.length (rf3 (es.map QE.r))
 o1:∀ e ∈ es,Ow B w (.slice e.r.a e.r.m e.r.c) e.zs
 o2:∀ e ∈ es,Ow B w (.slice e.r.d e.r.k e.r.e) e.ys
theorem RqO.below {B:Nat} {w w' : World} {v:Value} {es:List QE} (h:RqO B w v es) (hb:Below w.heap.size w w'):RqO B w' v es :=
 ⟨h.own.kept (row:=none) ⟨hb.os,hb.tape,hb.output,hb.size,fun k hk _=>hb.block k hk⟩ (by cases hv:v.ownBlock <;> simp),fun e he=>(h.o1 e he).below hb,fun e he=>(h.o2 e he).below hb⟩
theorem RqO.rq {B:Nat} {w:World} {v:Value} {es:List QE} (h:RqO B w v es):Rq w v es:=⟨Ce.own h.own,fun e he=>(h.o1 e he).sl,fun e he=>(h.o2 e he).sl⟩
theorem aw6 (B:Nat) (w:World):RqO B w (.slice none 0 0) []:=⟨World.ownsRow_nil w B _ 3,fun e he=>(by cases he),fun e he=>(by cases he)⟩
theorem Ow.grownq {B:Nat} {w w' : World} {v:Value} {zs:List Int} {row:Option Nat} {cur:Nat→Array Value} (h:Ow B w v zs) (hg:w.grownBy w' row) (hr:∀ k,row=some k→w.heap[k]? = some (.cells (cur k) 40 (0,0))):Ow B w' v zs:=by
 obtain ⟨ao,cap,rfl,h1,h2,h3,h4⟩:=h
 refine ⟨ao,cap,rfl,h1,h2,h3,?_⟩
 rcases h4 with h4 | ⟨g,off,c,rfl,hB,hh,h5,h6⟩
 ·exact .inl h4
 ·refine .inr ⟨g,off,c,rfl,hB,(hg.block g (aaa hh) (fun e=>?_)).trans hh,h5,h6⟩
  have:=hr g e.symm
  rw [hh] at this
  injection this with this
  injection this with _ this
  exact absurd this (by decide)
theorem aw7 {dst:Option Tmp} {ty:TypeId} {pos:String} {after:Array Edge} {guard:Option (Nat × Bool)} {a:Act} {w:World} {i j:Nat} {B g:Nat} {v:Value} {es:List QE} {x:RE} {zs ys:List Int} (h1:a.eval (.tmp i)=v) (h2:a.eval (.tmp j)=.slice (some ⟨g,0,none⟩) 1 1) (R:RqO B w v es) (O:w.heap[g]? = some (.cells #[.bool x.ng,.slice x.a x.m x.c,.slice x.d x.k x.e] 40 (0,0))) (S1:Ow B w (.slice x.a x.m x.c) zs) (S2:Ow B w (.slice x.d x.k x.e) ys) (hn:es.length≤1000000) (hB:B≤w.heap.size) :
  Does Tryz.prog { dst,op:=.call { callee:=.builtin .append,args:=#[.tmp i,.tmp j],argTypes:=#[35,35] },type:=ty,pos,after,guard } a.eval w fun v' w'=>RqO B w' v' (es ++ [⟨x,zs,ys⟩])∧Below B w w' := by
 obtain ⟨i0,hi,hz0,hz1,hz2⟩:=info_parts infoRz
 have hfl:rf3 ((es ++ ([⟨x,zs,ys⟩]:List QE)).map QE.r)=rf3 (es.map QE.r) ++ [.bool x.ng,.slice x.a x.m x.c,.slice x.d x.k x.e]:=by rw [List.map_append,apu];rfl
 obtain ⟨v',w',hr,ho,hgr,_⟩:=run_append_own (P:=Tryz.prog) w B 35 ty 40 i0 _ 3 56 Tryz.underlying35 hi hz0 hz1 hz2 rfl (by decide) v es.length (rf3 (es.map QE.r)) R.own ⟨g,0,none⟩ 1 1 [.bool x.ng,.slice x.a x.m x.c,.slice x.d x.k x.e] rfl (fun k u hu=>by
  have hc:∀ k,w.cell? ⟨g,k,none⟩ = #[Value.bool x.ng,.slice x.a x.m x.c,.slice x.d x.k x.e][k]? := fun k=>cell_of_row w g k _ _ (0,0) O
  have ha:(⟨g,0,none⟩:Addr).add k=⟨g,k,none⟩:=by unfold Addr.add;split <;> simp_all
  rw [ha,hc]
  simpa using hu) (by simp [Value.oneCell']) (by simp [maxLen];omega) (by omega) hB
 have e:(execOp a.eval { dst,op:=.call { callee:=.builtin .append,args:=#[.tmp i,.tmp j],argTypes:=#[35,35] },type:=ty,pos,after,guard }).run Tryz.prog w=.ok (.value v') w' := by
  simp only [execOp,resolve,invoke,builtin,Sem.run_bind,Sem.run_pure,Result.andThen_ok,List.map_toArray,List.map_cons,List.map_nil,h1,h2,hr]
 refine ⟨?_⟩
 unfold Turns
 rw [e]
 have hrow:∃ cur:Nat→Array Value,∀ k,v.ownBlock=some k→w.heap[k]? = some (.cells (cur k) 40 (0,0)):=by
  rcases R.own.2 with ⟨rfl,_⟩ | ⟨g',cap,cur,rfl,_,hh,_⟩
  ·exact ⟨fun _=>#[],fun k hk=>by simp [Value.ownBlock] at hk⟩
  ·refine ⟨fun _=>cur,fun k hk=>?_⟩
   simp only [Value.ownBlock,Option.some.injEq] at hk
   subst hk
   exact hh
 obtain ⟨cur,hcur⟩:=hrow
 refine ⟨⟨by rw [hfl,List.length_append];exact ho,fun e he=>?_,fun e he=>?_⟩,⟨hgr.os,hgr.tape,hgr.output,hgr.size,fun k hk=>hgr.block k (by omega) (fun e=>?_)⟩⟩
 ·rcases List.mem_append.1 he with he | he
  ·exact (R.o1 e he).grownq hgr hcur
  ·obtain rfl:=List.mem_singleton.1 he
   exact S1.grownq hgr hcur
 ·rcases List.mem_append.1 he with he | he
  ·exact (R.o2 e he).grownq hgr hcur
  ·obtain rfl:=List.mem_singleton.1 he
   exact S2.grownq hgr hcur
 ·have:=R.own.lt k e.symm
  omega
theorem den_pos (r:Rat):(0:Int)<(r.den:Int):=by have:=r.den_pos;omega
theorem alo (rs:List Rat):0<comR rs:=by
 have key:∀ (l:List Rat) (c:Int),0<c→0<l.foldl (fun c r=>c*((r.den:Int) / ((Int.gcd c r.den:Nat):Int))) c:=by
  intro l
  induction l with
  | nil=>exact fun c h=>h
  | cons x l ih =>
   intro c hc
   refine ih _ (Int.mul_pos hc ?_)
   have h1:=den_pos x
   have h2:((Int.gcd c x.den:Nat):Int) ∣ (x.den:Int):=Int.gcd_dvd_right ..
   have h3:(0:Int)<((Int.gcd c x.den:Nat):Int):=by
    have:=Int.gcd_pos_of_ne_zero_left (x.den:Int) (show c≠0 by omega)
    omega
   exact Int.ediv_pos_of_pos_of_dvd h1 (by omega) h2
 exact key rs 1 (by decide)
section
end
theorem aw8 {rs:List Rat} : ∀ r ∈ rs,(r.den:Int) ∣ comR rs:=by
 have up:∀ (l:List Rat) (c:Int),c ∣ l.foldl (fun c r=>c*((r.den:Int) / ((Int.gcd c r.den:Nat):Int))) c:=by
  intro l
  induction l with
  | nil=>intro c;exact Int.dvd_refl c
  | cons x l ih=>intro c;exact Int.dvd_trans (Int.dvd_mul_right c _) (ih _)
 have key:∀ (l:List Rat) (c:Int),∀ r ∈ l,(r.den:Int) ∣ l.foldl (fun c r=>c*((r.den:Int) / ((Int.gcd c r.den:Nat):Int))) c:=by
  intro l
  induction l with
  | nil=>intro c r hr;cases hr
  | cons x l ih =>
   intro c r hr
   rcases List.mem_cons.1 hr with rfl | hr
   ·refine Int.dvd_trans ?_ (up l _)
    obtain ⟨a,ha⟩:((Int.gcd c r.den:Nat):Int) ∣ c:=Int.gcd_dvd_left ..
    have hg:((Int.gcd c r.den:Nat):Int) ∣ (r.den:Int):=Int.gcd_dvd_right ..
    refine ⟨a,?_⟩
    show c*((r.den:Int) / ((Int.gcd c r.den:Nat):Int))=r.den*a
    have h1:=Int.mul_ediv_cancel' hg
    generalize (r.den:Int) / ((Int.gcd c r.den:Nat):Int)=t at *
    generalize ((Int.gcd c r.den:Nat):Int)=g at *
    rw [←h1,ha]
    ac_rfl
   ·exact ih _ r hr
 exact key rs 1
theorem anm (r:Rat):((r.den:Nat):Rat)*r=(r.num:Rat):=by
 have h0:(((r.den:Nat):Int):Rat)≠0:=by
  intro e
  have:=r.den_pos
  have:=Rat.intCast_eq_zero_iff.1 e
  omega
 have h1:(r.num:Rat) / (((r.den:Nat):Int):Rat)=r:=(Rat.divInt_eq_div _ _).symm.trans (Rat.num_divInt_den r)
 have h2:=Rat.div_mul_cancel (a:=(r.num:Rat)) h0
 rw [h1,Rat.mul_comm] at h2
 exact h2
theorem ann (rs:List Rat) {r:Rat} (hr:r ∈ rs):((r.num*(comR rs / r.den):Int):Rat)=(comR rs:Rat)*r:=by
 obtain ⟨m,hm⟩:=aw8 r hr
 have hd:=den_pos r
 rw [hm,Int.mul_ediv_cancel_left m (by omega)]
 have h:=anm r
 rw [Rat.intCast_mul,Rat.intCast_mul,←h]
 show (r.den:Rat)*r*(m:Rat)=((r.den:Int):Rat)*(m:Rat)*r
 rw [show (((r.den:Nat):Int):Rat)=((r.den:Nat):Rat) from rfl]
 grind
theorem amt (q:Rat) (hq:q≠0) (rs:List Rat):canonZ (rs.map (q*·))=canonZ rs:=by
 have hn:q.num≠0:=fun h=>hq (Rat.num_eq_zero.1 h)
 have c1:=alo rs
 have c2:=alo (rs.map (q*·))
 have hd:=den_pos q
 unfold canonZ
 rw [←ajd ((q.den:Int)*comR rs) (fun e=>by rcases Int.mul_eq_zero.1 e with e | e <;> omega) (clr (rs.map (q*·))),←ajd (comR (rs.map (q*·))*q.num) (fun e=>by rcases Int.mul_eq_zero.1 e with e | e;omega;exact hn e) (clr rs)]
 congr 1
 unfold clr
 rw [List.map_map,List.map_map,List.map_map]
 refine List.map_congr_left fun r hr=>?_
 have h1:=ann rs hr
 have h2:=ann (rs.map (q*·)) (r:=q*r) (List.mem_map.2 ⟨r,hr,rfl⟩)
 show (q.den:Int)*comR rs*((q*r).num*(comR (rs.map (q*·)) / (q*r).den))=comR (rs.map (q*·))*q.num*(r.num*(comR rs / r.den))
 generalize r.num*(comR rs / r.den)=a at *
 generalize (q*r).num*(comR (rs.map (q*·)) / (q*r).den)=b at *
 generalize comR (rs.map (q*·))=C at *
 generalize comR rs=D at *
 have h:=anm q
 refine Rat.intCast_inj.1 ?_
 rw [Rat.intCast_mul,Rat.intCast_mul,Rat.intCast_mul,Rat.intCast_mul,h1,h2,←h]
 show ((q.den:Nat):Rat)*(D:Rat)*((C:Rat)*(q*r))=(C:Rat)*(((q.den:Nat):Rat)*q)*((D:Rat)*r)
 grind
end Lm
end Go.Proofs.YtdjgifcmhafppaaGreatDoor
namespace Go.Proofs.YtdjgifcmhafppaaGreatDoor
namespace Lm
open Go Go.RowKit
variable {a b d c m o p:Int}
theorem auy {w:World} (hT:Tabs w) {v:Value} {vs:List ByteArray} (hv:Strs w v vs) (hN:NmsOk vs) (hnov:(⟨#[]⟩:ByteArray) ∉ vs) {cs:List Nat} (hcs:∀ x ∈ cs,Cod x) (hl:(encs cs).length≤4096) {ts:List (Int × ByteArray)} (hS:ScanC cs ts) (L M:Nat) (hL:L≤10000) (hL1:1≤L) (hM:M≤100000) {k:Nat} {rs:List Rat} (hE:∀ f,EqR (mkt f 0 ts) vs L 0 (List.replicate (vs.length+1) 0) true k rs) (hrl:rs.length=vs.length+1) (hC:∀ k,k≤rs.length→((comR (rs.take k)).natAbs:Int)<pw M) (hD:∀ z ∈ clr rs,(z.natAbs:Int)<pw M) (hZ:∀ z ∈ canonZ rs,(z.natAbs:Int)<pw 32) :
  Calls Tryz.prog 10 #[.string (bts (encs cs)),v] w fun r w'=>Below w.heap.size w w'∧∃ x,r=.returned (.tuple #[x,.int .i64 0,.agg #[.int .i64 0,.int .i64 0,.int .i64 0,.int .i64 0]])∧ORow w.heap.size w' x (canonZ rs) M:=by
 have hd:(bts (encs cs)).data.toList=encs cs:=by simp [bts]
 have hz:(bts (encs cs)).size=(encs cs).length:=by simp [bts,ByteArray.size]
 have hQ:=ak5 (bts (encs cs)) cs hcs [] [] pl0 rfl (by rw [hd];simp) (.inl rfl)
 obtain ⟨l,hR,hl2⟩:=anc (bts (encs cs)) cs ts hS [] pl0 rfl (by rw [hd];rfl)
 obtain ⟨f,rfl⟩:=asj ts l 0 hl2
 refine (afj w hT _ (by omega) v vs hv hN _ _ _ hQ hR L M hL hL1 hM k rs (hE f) hrl hC hD hnov).mono ?_
 rintro r w' ⟨hb,⟨_,h⟩ | ⟨⟨z,h1,h2⟩,_⟩⟩
 ·exact ⟨hb,h⟩
 ·exact absurd (hZ z h1) h2
end Lm
end Go.Proofs.YtdjgifcmhafppaaGreatDoor
namespace Go.Proofs.YtdjgifcmhafppaaGreatDoor
namespace Lm
open Go Go.RowKit
structure TuK (A B D M O P C:List Int) (a b d c:Int):Prop where
 hA:Nd A a
 hB:Nd B b
 hD:Nd D d
 hM:Nd M (a*c)
 hO:Nd O (b*c)
 hP:Nd P (d*c)
 hC:Nd C c
 c0:1≤c
 c1:c≤1000
 xa:(a.natAbs:Int)<pw 32
 xb:(b.natAbs:Int)<pw 32
 xd:(d.natAbs:Int)<pw 32
variable {A B D M O P C:List Int} {a b d c:Int} (K:TuK A B D M O P C a b d c)
theorem aff {c:Nat} (h:c<128∨c=183∨c=215∨c=8722):Cod c:=by unfold Cod;omega
include K
end Lm
end Go.Proofs.YtdjgifcmhafppaaGreatDoor
namespace Go.Proofs.YtdjgifcmhafppaaGreatDoor
namespace Lm
open Go Go.RowKit
theorem apv (n:Nat):∃ m,IsLen (n:Int) m:=by
 have key:∀ n:Nat,∃ zs,Limb zs∧val zs=(n:Int):=by
  intro n
  induction n using Nat.strongRecOn with
  | _ n ih =>
   by_cases h:n=0
   ·exact ⟨[],aaf,by simp [val,h]⟩
   ·obtain ⟨zs,hl,hv⟩:=ih (n / 4294967296) (Nat.div_lt_self (by omega) (by omega))
    refine ⟨((n % 4294967296:Nat):Int) :: zs,fun z hz=>?_,?_⟩
    ·rcases List.mem_cons.1 hz with rfl | hz
     ·omega
     ·exact hl z hz
    ·simp only [val,hv]
     omega
 obtain ⟨zs,hl,hv⟩:=key n
 exact ⟨_,_,aaz hl,by rw [aad,hv],rfl⟩
theorem auz {x:Int} {m:Nat} (h:IsLen x m):(m≤32↔x<pw 32):=by
 obtain ⟨rs,hc,hv,rfl⟩:=h
 constructor
 ·intro hl
  have h1:=(aab hc.1).2
  have h2:=aa3 hl
  omega
 ·exact fun hx=>aaw hc (by omega)
def nmB:List Nat→Bool
 | []=>false
 | c :: u=>decide (gcls c=2) && (c :: u).all (fun d=>inK [2,3,4] d && decide (d≤1114111∧(d<55296∨57343<d))) && decide ((c :: u).length≤16)
theorem alp {cs:List Nat} (h:nmB cs=true):cs≠[]:=by rintro rfl;cases h
theorem ait {cs r:List Nat} {ts:List (Int × ByteArray)} (h:nmB cs=true) (hs:Stop [2,3,4] r) (hr:ScanC r ts):ScanC (cs ++ r) ((1,bts (encs cs)) :: ts):=by
 match cs,h with
 | c :: u,h =>
  simp only [nmB,Bool.and_eq_true,decide_eq_true_eq,List.all_eq_true] at h
  exact alm (.name c u r h.1.1 (fun d hd=>(h.1.2 d hd).1) hs h.2) hr
theorem ano {cs:List Nat} (h:nmB cs=true):∀ d ∈ cs,Cod d:=by
 match cs,h with
 | c :: u,h =>
  simp only [nmB,Bool.and_eq_true,decide_eq_true_eq,List.all_eq_true] at h
  exact fun d hd=>(h.1.2 d hd).2
theorem agh {z:Int} (h:(z.natAbs:Int)<pw 32):Nd (dig (z.natAbs:Int)) (z.natAbs:Int):=by
 obtain ⟨m,hm⟩:=apv z.natAbs
 have h1:pw 32<p10 309:=by decide +kernel
 exact ⟨aco _,⟨m,hm,(auz hm).2 h⟩,Nat.le_trans (ajj (aco _) (n:=309) (by omega) (by decide)) (by decide)⟩
noncomputable def numC (z:Int):List Nat:=if z.natAbs=1 then [] else dcs (dig (z.natAbs:Int)) ++ [42]
def tpC (z:Int) (first:Bool):List Nat:=if first then (if z<0 then [45] else []) else (if z<0 then [32,45,32] else [32,43,32])
noncomputable def ttC (z:Int) (first:Bool) (nc:List Nat):List Nat:=if z=0 then [] else tpC z first ++ (numC z ++ nc)
theorem aw9 (n:Nat):(txt (n:Int)).data.toList=encs (dcs (dig (n:Int))):=by
 rw [txt,if_neg (by omega),show (((n:Int).natAbs:Nat):Int)=(n:Int) by omega,ahe _ (aef (aco n).1)]
 rfl
theorem ask (z:Int) (first:Bool) (nc:List Nat):tterm z first (encs nc)=encs (ttC z first nc):=by
 unfold tterm ttC
 by_cases hz:z=0
 ·rw [if_pos hz,if_pos hz];rfl
 ·rw [if_neg hz,if_neg hz,aa1,aa1]
  congr 1
  ·unfold tpre tpC
   cases first <;> by_cases h:z<0 <;> simp [h] <;> rfl
  ·congr 1
   unfold numC
   by_cases h1:z.natAbs=1
   ·rw [if_pos h1,if_pos h1];rfl
   ·rw [if_neg h1,if_neg h1,aa1,aw9];rfl
noncomputable def leftC:Bool→List (Int × List Nat)→List Nat
 | _,[]=>[]
 | b,p :: ps=>if p.1=0 then leftC b ps else ttC p.1 b p.2 ++ leftC false ps
theorem asl {z:Int} {b:Bool} {nc:List Nat} (hz:z≠0) (hn:nc≠[]):ttC z b nc≠[]:=by
 rw [ttC,if_neg hz]
 intro e
 simp at e
 exact hn e.2.2
theorem afg (p:Int × List Nat):∀ (ps:List (Int × List Nat)) (b:Bool),(∀ q ∈ ps,q.2≠[])→leftC b (ps ++ [p])=leftC b ps ++ ttC p.1 (b && decide (leftC b ps = [])) p.2
 | [],b,_=>by
  by_cases h:p.1=0
  ·simp [leftC,h,ttC]
  ·simp [leftC,h]
 | q :: ps,b,hq=>by
  rw [List.cons_append,leftC,leftC]
  by_cases h:q.1=0
  ·rw [if_pos h,if_pos h,afg p ps b (fun x hx=>hq x (by simp [hx]))]
  ·rw [if_neg h,if_neg h,afg p ps false (fun x hx=>hq x (by simp [hx])),Bool.false_and,List.append_assoc]
   have hne:¬ (ttC q.1 b q.2 ++ leftC false ps = []):=fun e=>asl h (hq q (by simp)) (List.append_eq_nil_iff.1 e).1
   rw [decide_eq_false hne,Bool.and_false]
theorem ajq {zs:List Int} {ncs:List (List Nat)} (hn:∀ c ∈ ncs,c≠[]):∀ k,k≤zs.length→k≤ncs.length→lefts zs (ncs.map (fun c=>bts (encs c))) k=encs (leftC true ((zs.zip ncs).take k))
 | 0,_,_=>by simp [lefts,leftC,encs]
 | k+1,h1,h2=>by
  have hz:(zs.zip ncs)[k]? = some (zs[k],ncs[k]):=by rw [List.getElem?_eq_getElem (by rw [List.length_zip];omega),List.getElem_zip]
  rw [lefts,ajq hn k (by omega) (by omega),List.take_add_one,hz,Option.toList_some,afg _ _ _ (fun q hq=>?_),aa1]
  ·congr 1
   rw [List.getD_eq_getElem?_getD,List.getElem?_eq_getElem (by omega),List.getD_eq_getElem?_getD,List.getElem?_map,List.getElem?_eq_getElem (by omega)]
   rw [←ask,Bool.true_and]
   show tterm zs[k] _ (bts (encs ncs[k])).data.toList = _
   rw [show (bts (encs ncs[k])).data.toList=encs ncs[k] by simp [bts]]
   congr 1
   rw [decide_eq_decide]
   exact ⟨afc,fun e=>by rw [e];rfl⟩
  ·exact hn _ (List.of_mem_zip (List.mem_of_mem_take hq)).2
noncomputable def ttT (z:Int) (nc:List Nat):List (Int × ByteArray):=(if z.natAbs=1 then [] else [tN (dig (z.natAbs:Int)),tS 42]) ++ [(1,bts (encs nc))]
def tpT (z:Int) (first:Bool):List (Int × ByteArray):=if first then (if z<0 then [tS 45] else []) else (if z<0 then [tS 45] else [tS 43])
noncomputable def leftT:Bool→List (Int × List Nat)→List (Int × ByteArray)
 | _,[]=>[]
 | b,p :: ps=>if p.1=0 then leftT b ps else tpT p.1 b ++ (ttT p.1 p.2 ++ leftT false ps)
theorem anp:∀ (ps:List (Int × List Nat)) (b:Bool),(∀ q ∈ ps,q.2≠[])→(leftC b ps = []↔leftT b ps = [])
 | [],_,_=>by simp [leftC,leftT]
 | q :: ps,b,hq=>by
  rw [leftC,leftT]
  by_cases h:q.1=0
  ·rw [if_pos h,if_pos h];exact anp ps b (fun x hx=>hq x (by simp [hx]))
  ·rw [if_neg h,if_neg h]
   constructor
   ·intro e;exact absurd (List.append_eq_nil_iff.1 e).1 (asl h (hq q (by simp)))
   ·intro e;simp [ttT] at e
structure PsOk (ps:List (Int × List Nat)):Prop where
 nm:∀ q ∈ ps,nmB q.2=true
 sh:∀ q ∈ ps,(q.1.natAbs:Int)<pw 32
theorem PsOk.tail {q:Int × List Nat} {ps:List (Int × List Nat)} (h:PsOk (q :: ps)):PsOk ps:=⟨fun x hx=>h.nm x (by simp [hx]),fun x hx=>h.sh x (by simp [hx])⟩
theorem ajr {r:List Nat} (hs:Stop [2,3,4] r):∀ ps,Stop [2,3,4] (leftC false ps ++ r)
 | []=>hs
 | q :: ps=>by
  rw [leftC]
  by_cases h:q.1=0
  ·rw [if_pos h];exact ajr hs ps
  ·rw [if_neg h,ttC,if_neg h,tpC]
   by_cases h0:q.1<0
   ·simp only [h0,if_true,Bool.false_eq_true,if_false,List.cons_append];exact st2 32 _ (by decide)
   ·simp only [h0,Bool.false_eq_true,if_false,List.cons_append];exact st2 32 _ (by decide)
theorem asm {z:Int} {nc r:List Nat} {ts:List (Int × ByteArray)} (hz:(z.natAbs:Int)<pw 32) (hn:nmB nc=true) (hs:Stop [2,3,4] r) (hr:ScanC r ts):ScanC (numC z ++ nc ++ r) (ttT z nc ++ ts):=by
 unfold numC ttT
 by_cases h1:z.natAbs=1
 ·rw [if_pos h1,if_pos h1];exact ait hn hs hr
 ·rw [if_neg h1,if_neg h1]
  simp only [List.append_assoc,List.cons_append,List.nil_append]
  exact aln (agh hz) (st3 42 _ (by decide)) <| aeu (c:=42) (by decide) (by decide) <| ait hn hs hr
theorem ajs {r:List Nat} {ts:List (Int × ByteArray)} (hs:Stop [2,3,4] r) (hr:ScanC r ts):∀ (ps:List (Int × List Nat)) (b:Bool),PsOk ps→ScanC (leftC b ps ++ r) (leftT b ps ++ ts)
 | [],_,_=>hr
 | q :: ps,b,hp=>by
  have ih:=ajs hs hr ps
  rw [leftC,leftT]
  by_cases h:q.1=0
  ·rw [if_pos h,if_pos h];exact ih b hp.tail
  ·rw [if_neg h,if_neg h,ttC,if_neg h]
   have key:ScanC (numC q.1 ++ q.2 ++ (leftC false ps ++ r)) (ttT q.1 q.2 ++ (leftT false ps ++ ts)):=asm (hp.sh q (by simp)) (hp.nm q (by simp)) (ajr hs ps) (ih false hp.tail)
   simp only [List.append_assoc] at key ⊢
   unfold tpC tpT
   cases b
   ·by_cases h0:q.1<0
    ·simp only [h0,if_true,Bool.false_eq_true,if_false,List.cons_append,List.nil_append]
     exact agf <| aeu (c:=45) (by decide) (by decide) <| agf key
    ·simp only [h0,Bool.false_eq_true,if_false,List.cons_append,List.nil_append]
     exact agf <| aeu (c:=43) (by decide) (by decide) <| agf key
   ·by_cases h0:q.1<0
    ·simp only [h0,if_true,List.cons_append,List.nil_append]
     exact aeu (c:=45) (by decide) (by decide) key
    ·simp only [h0,if_true,if_false,List.nil_append]
     exact key
noncomputable def dC (d:Int):List Nat:=(if d<0 then [45] else []) ++ dcs (dig (d.natAbs:Int))
noncomputable def rowC (ps:List (Int × List Nat)) (d:Int):List Nat:=(if leftC true ps = [] then [48] else leftC true ps) ++ 32 :: 61 :: 32 :: dC d
noncomputable def dT (d:Int):List (Int × ByteArray):=(if d<0 then [tS 45] else []) ++ [tN (dig (d.natAbs:Int))]
open Classical in
noncomputable def rowT (ps:List (Int × List Nat)) (d:Int):List (Int × ByteArray):=(if leftT true ps = [] then [tN [48]] else leftT true ps) ++ tS 61 :: (dT d ++ [tE])
theorem axa (d:Int):txt d=bts (encs (dC d)):=by
 unfold txt dC
 by_cases h:d<0
 ·rw [if_pos h,if_pos h,ahe _ (fun x hx=>by
   rcases List.mem_cons.1 hx with rfl | hx
   ·omega
   ·exact aef (aco _).1 x hx)]
  rfl
 ·rw [if_neg h,if_neg h,ahe _ (aef (aco _).1)]
  rfl
theorem axb {zs:List Int} {ncs:List (List Nat)} {d:Int} (hl:zs.length=ncs.length) (hn:∀ c ∈ ncs,c≠[]):prn (zs ++ [d]) (ncs.map (fun c=>bts (encs c)))=bts (encs (rowC (zs.zip ncs) d)):=by
 have h1:=ajq (zs:=zs ++ [d]) hn ncs.length (by simp;omega) (Nat.le_refl _)
 have h2:((zs ++ [d]).zip ncs).take ncs.length=zs.zip ncs:=by
  rw [List.take_of_length_le (by simp;omega)]
  have:=List.zip_append (l₁:=zs) (r₁:=[d]) (l₂:=ncs) (r₂:=[]) hl
  simpa using this
 rw [h2] at h1
 unfold prn rowC
 rw [List.length_map,h1,List.getD_eq_getElem?_getD,←hl,List.getElem?_append_right (Nat.le_refl _),Nat.sub_self,List.getElem?_cons_zero,Option.getD_some,axa,show (⟨#[32,61,32]⟩:ByteArray)=bts (encs [32,61,32]) from rfl]
 rw [aa1,show 32 :: 61 :: 32 :: dC d = [32,61,32] ++ dC d from rfl,aa1]
 show bts _ ++ bts _ ++ bts _ = _
 simp only [apg]
 congr 1
 rw [List.append_assoc]
 congr 1
 by_cases h0:leftC true (zs.zip ncs) = []
 ·rw [if_pos (by rw [h0];rfl),if_pos h0];rfl
 ·rw [if_neg (fun e=>h0 (afc e)),if_neg h0]
theorem au0 {ps:List (Int × List Nat)} {d:Int} (hp:PsOk ps) (hd:(d.natAbs:Int)<pw 32):ScanC (rowC ps d) (rowT ps d):=by
 have hD:ScanC (32 :: 61 :: 32 :: dC d) (tS 61 :: (dT d ++ [tE])):=by
  refine agf <| aeu (c:=61) (by decide) (by decide) <| agf ?_
  unfold dC dT
  by_cases h:d<0
  ·rw [if_pos h,if_pos h];exact aeu (c:=45) (by decide) (by decide) (ank (agh hd))
  ·rw [if_neg h,if_neg h];exact ank (agh hd)
 unfold rowC rowT
 have hi:=anp ps true (fun q hq=>alp (hp.nm q hq))
 by_cases h0:leftC true ps = []
 ·rw [if_pos h0,if_pos (hi.1 h0)]
  exact aln nd0 (st3 32 _ (by decide)) hD
 ·rw [if_neg h0,if_neg (fun e=>h0 (hi.2 e))]
  exact ajs (st2 32 _ (by decide)) hD ps true hp
end Lm
end Go.Proofs.YtdjgifcmhafppaaGreatDoor
namespace Go.Proofs.YtdjgifcmhafppaaGreatDoor
namespace Lm
open Go Go.RowKit
theorem asn (f:Nat→Pl):∀ (ts:List (Int × ByteArray)) (n i:Nat),(mkt f n ts)[i]? = (ts[i]?).map (fun t=>⟨t.1,t.2,f (n+i)⟩)
 | [],_,_=>by simp [mkt]
 | t :: ts,n,0=>by simp [mkt]
 | t :: ts,n,i+1=>by
  rw [mkt,List.getElem?_cons_succ,List.getElem?_cons_succ,asn f ts (n+1) i,show n+1+i=n+(i+1) by omega]
theorem aa6 {f:Nat→Pl} {T:List (Int × ByteArray)} {i:Nat} {ts:List (Int × ByteArray)} (h:T.drop i=ts) (j:Nat) {t:Int × ByteArray} (ht:ts[j]? = some t):(mkt f 0 T)[i+j]? = some ⟨t.1,t.2,f (i+j)⟩:=by
 rw [asn,←List.getElem?_drop,h,ht,Nat.zero_add]
 rfl
theorem abr {T a b:List (Int × ByteArray)} {i:Nat} (h:T.drop i=a ++ b):T.drop (i+a.length)=b:=by
 rw [←List.drop_drop,h,List.drop_left]
theorem aj2 {z:Int} (m:Bool) (h:m=decide (z<0)):(0:Rat)+sgq m ((z.natAbs:Int):Rat)=(z:Rat):=by
 subst h
 rw [Rat.zero_add]
 unfold sgq
 by_cases h:z<0
 ·rw [decide_eq_true h,if_pos rfl,show ((z.natAbs:Nat):Int) = -z by omega,Rat.intCast_neg,Rat.neg_neg]
 ·rw [decide_eq_false h,if_neg (by decide),show ((z.natAbs:Nat):Int)=z by omega]
theorem anq {z:Int} (h:(z.natAbs:Int)<pw 32):Fit (((z.natAbs:Int)):Rat) 80:=by
 have h1:pw 32<pw 80:=by decide +kernel
 exact aw4 (by rw [Int.natAbs_natCast];omega) (by decide)
variable {f:Nat→Pl} {T:List (Int × ByteArray)} {vs:List ByteArray}
theorem aiu {sn:Bool} {rs:List Rat} {i k:Nat} {z:Int} {nc:List Nat} {rest:List (Int × ByteArray)} (hd:T.drop i=ttT z nc ++ rest) (hk:ixS (bts (encs nc)) vs=some k) (hz:(z.natAbs:Int)<pw 32) (hr:rs[k]? = some 0) :
  TermR (mkt f 0 T) vs 80 sn rs i true (i+(ttT z nc).length) (rs.set k (0+sgq sn ((z.natAbs:Int):Rat))):=by
 have hf:=anq hz
 unfold ttT at hd ⊢
 by_cases h1:z.natAbs=1
 ·rw [if_pos h1] at hd ⊢
  have h0:=aa6 (f:=f) hd 0 rfl
  rw [Nat.add_zero] at h0
  rw [show ((z.natAbs:Int):Rat)=1 by rw [h1];rfl] at hf ⊢
  exact .name _ h0 rfl true (i+1) _ (.yes _ k 0 h0 hk hr hf (fit0 sn hf))
 ·rw [if_neg h1] at hd ⊢
  have h0:=aa6 (f:=f) hd 0 rfl
  have h2:=aa6 (f:=f) hd 1 rfl
  have h3:=aa6 (f:=f) hd 2 rfl
  rw [Nat.add_zero] at h0
  exact .star _ h0 rfl (i+1) _ (abt h0 h2 rfl (agh hz).z) hf _ h2 rfl true (i+3) _ (.yes _ k 0 h3 hk hr hf (fit0 sn hf))
def Side2 (l:List Tk) (vs:List ByteArray) (j:Nat) (rs:List Rat) (k:Nat) (rs' : List Rat):Prop:=∃ t,l[j]? = some t∧((tpm t=false∧k=j∧rs' = rs)∨(tpm t=true∧SideL l vs 80 false (tsg t sMinus) (j+1) rs true k rs'))
theorem agi {l:List Tk} {m:Bool} {i j k:Nat} {rs rs1 rs' : List Rat} (h:TermR l vs 80 m rs i true j rs1) (h2:Side2 l vs j rs1 k rs'):SideL l vs 80 false m i rs true k rs' := by
 have hm:(m != false)=m:=by cases m <;> rfl
 obtain ⟨t,ht,⟨hp,rfl,rfl⟩ | ⟨hp,hs⟩⟩:=h2
 ·exact .last m i k rs rs' (by rw [hm];exact h) t ht hp
 ·exact .more m i j k rs rs1 rs' true (by rw [hm];exact h) t ht hp hs
def fill:List Rat→Nat→List (Int × List Nat)→List Rat
 | rs,_,[]=>rs
 | rs,k,p :: ps=>fill (rs.set k (p.1:Rat)) (k+1) ps
theorem acy {rs:List Rat} {k:Nat} (h:rs[k]? = some 0):rs.set k ((0:Int):Rat)=rs:=by
 apply List.ext_getElem?
 intro i
 rw [List.getElem?_set]
 split
 ·next e=>subst e;rw [h];split <;> simp_all
 ·rfl
structure Fits3 (vs:List ByteArray) (ps:List (Int × List Nat)) (k:Nat) (rs:List Rat):Prop where
 ix:∀ n p,ps[n]? = some p→ixS (bts (encs p.2)) vs=some (k+n)
 ze:∀ n,n<ps.length→rs[k+n]? = some 0
theorem Fits3.here {p:Int × List Nat} {ps:List (Int × List Nat)} {k:Nat} {rs:List Rat} (h:Fits3 vs (p :: ps) k rs):ixS (bts (encs p.2)) vs=some k∧rs[k]? = some 0:=⟨h.ix 0 p rfl,h.ze 0 (by simp)⟩
theorem Fits3.tail {p:Int × List Nat} {ps:List (Int × List Nat)} {k:Nat} {rs:List Rat} (h:Fits3 vs (p :: ps) k rs) (x:Rat):Fits3 vs ps (k+1) (rs.set k x):=by
 refine ⟨fun n q hq=>?_,fun n hn=>?_⟩
 ·have:=h.ix (n+1) q (by simpa using hq)
  rw [this];congr 1;omega
 ·have:=h.ze (n+1) (by simp;omega)
  rw [List.getElem?_set_ne (by omega),←this];congr 1;omega
theorem agj {rest:List (Int × ByteArray)} : ∀ (ps:List (Int × List Nat)) (k j:Nat) (rs:List Rat),PsOk ps→Fits3 vs ps k rs→T.drop j=leftT false ps ++ tS 61 :: rest→Side2 (mkt f 0 T) vs j rs (j+(leftT false ps).length) (fill rs k ps)
 | [],k,j,rs,_,_,hd=>by
  have h0:=aa6 (f:=f) hd 0 rfl
  exact ⟨_,h0,.inl ⟨rfl,rfl,rfl⟩⟩
 | p :: ps,k,j,rs,hp,hF,hd=>by
  rw [leftT] at hd ⊢
  rw [fill]
  obtain ⟨hi,hz⟩:=hF.here
  by_cases h:p.1=0
  ·rw [if_pos h] at hd ⊢
   have hF' := hF.tail ((0:Int):Rat)
   rw [acy hz] at hF'
   have ih:=agj ps (k+1) j rs hp.tail hF' hd
   rw [h,acy hz]
   exact ih
  ·rw [if_neg h] at hd ⊢
   have key:∀ s:UInt8,tpT p.1 false = [tS s]→tpm ⟨3,⟨#[s]⟩,f j⟩ = true→tsg ⟨3,⟨#[s]⟩,f j⟩ sMinus=decide (p.1<0)→Side2 (mkt f 0 T) vs j rs (j+(tpT p.1 false ++ (ttT p.1 p.2 ++ leftT false ps)).length) (fill (rs.set k (p.1:Rat)) (k+1) ps):=by
    intro s e1 e2 e3
    rw [e1] at hd ⊢
    rw [List.append_assoc] at hd
    have h0:=aa6 (f:=f) hd 0 rfl
    have h1:=abr hd
    rw [List.append_assoc] at h1
    have h2:=abr h1
    have ht:=aiu (f:=f) (sn:=decide (p.1<0)) h1 hi (hp.sh p (by simp)) hz
    rw [aj2 _ rfl] at ht
    have ih:=agj ps (k+1) _ _ hp.tail (hF.tail (p.1:Rat)) h2
    refine ⟨_,h0,.inr ⟨e2,?_⟩⟩
    show SideL _ vs 80 false (tsg ⟨3,⟨#[s]⟩,f j⟩ sMinus) (j+1) rs true _ _
    rw [e3]
    have:=agi ht ih
    rw [show j+([tS s] ++ (ttT p.1 p.2 ++ leftT false ps)).length=j+[tS s].length+(ttT p.1 p.2).length+(leftT false ps).length by simp;omega]
    exact this
   by_cases h0:p.1<0
   ·exact key 45 (by simp [tpT,h0]) rfl (by rw [decide_eq_true h0];rfl)
   ·exact key 43 (by simp [tpT,h0]) rfl (by rw [decide_eq_false h0];rfl)
theorem alq {rest:List (Int × ByteArray)} : ∀ (ps:List (Int × List Nat)) (k j:Nat) (rs:List Rat),PsOk ps→Fits3 vs ps k rs→leftT true ps≠[]→T.drop j=leftT true ps ++ tS 61 :: rest→SideR (mkt f 0 T) vs 80 false j rs true (j+(leftT true ps).length) (fill rs k ps)
 | [],k,j,rs,_,_,hne,_=>absurd rfl hne
 | p :: ps,k,j,rs,hp,hF,hne,hd=>by
  rw [leftT] at hne hd ⊢
  rw [fill]
  obtain ⟨hi,hz⟩:=hF.here
  by_cases h:p.1=0
  ·rw [if_pos h] at hne hd ⊢
   have hF' := hF.tail ((0:Int):Rat)
   rw [acy hz] at hF'
   have ih:=alq ps (k+1) j rs hp.tail hF' hne hd
   rw [h,acy hz]
   exact ih
  ·rw [if_neg h] at hd ⊢
   by_cases h0:p.1<0
   ·rw [show tpT p.1 true = [tS 45] by simp [tpT,h0]] at hd ⊢
    rw [List.append_assoc] at hd
    have h00:=aa6 (f:=f) hd 0 rfl
    have h1:=abr hd
    rw [List.append_assoc] at h1
    have h2:=abr h1
    have ht:=aiu (f:=f) (sn:=true) h1 hi (hp.sh p (by simp)) hz
    rw [aj2 true (by rw [decide_eq_true h0])] at ht
    have ih:=agj (f:=f) ps (k+1) _ _ hp.tail (hF.tail (p.1:Rat)) h2
    refine ⟨_,h00,?_⟩
    have:=agi ht ih
    rw [show j+([tS 45] ++ (ttT p.1 p.2 ++ leftT false ps)).length=j+[tS 45].length+(ttT p.1 p.2).length+(leftT false ps).length by simp;omega]
    exact this
   ·rw [show tpT p.1 true = [] by simp [tpT,h0]] at hd ⊢
    rw [List.nil_append,List.append_assoc] at hd
    have h2:=abr hd
    have ht:=aiu (f:=f) (sn:=false) hd hi (hp.sh p (by simp)) hz
    rw [aj2 false (by rw [decide_eq_false h0])] at ht
    have ih:=agj (f:=f) ps (k+1) _ _ hp.tail (hF.tail (p.1:Rat)) h2
    have:=agi ht ih
    rw [show j+(([]:List (Int × ByteArray)) ++ (ttT p.1 p.2 ++ leftT false ps)).length=j+(ttT p.1 p.2).length+(leftT false ps).length by simp;omega]
    have h00:∃ t,(mkt f 0 T)[j]? = some t∧tpm t=false∧tsg t sMinus=false:=by
     unfold ttT at hd
     by_cases h1:p.1.natAbs=1
     ·rw [if_pos h1] at hd
      exact ⟨_,aa6 (f:=f) hd 0 rfl,rfl,rfl⟩
     ·rw [if_neg h1] at hd
      exact ⟨_,aa6 (f:=f) hd 0 rfl,rfl,rfl⟩
    obtain ⟨t,e1,e2,e3⟩:=h00
    refine ⟨t,e1,?_⟩
    rw [e2,e3]
    exact this
theorem axc {j:Nat} {rs:List Rat} {rest:List (Int × ByteArray)} (hd:T.drop j=tN [48] :: tS 61 :: rest) (hr:rs[vs.length]? = some 0):SideR (mkt f 0 T) vs 80 false j rs true (j+1) rs:=by
 have h0:=aa6 (f:=f) hd 0 rfl
 have h1:=aa6 (f:=f) hd 1 rfl
 rw [Nat.add_zero] at h0
 have f0:Fit (((0:Int)):Rat) 80:=by constructor <;> decide +kernel
 have ht:TermR (mkt f 0 T) vs 80 false rs j true (j+1) (rs.set vs.length (0+sgq false (-((0:Int):Rat)))) :=
  .alone _ h0 rfl (j+1) _ (abt h0 h1 rfl nd0.z) f0 _ h1 rfl (by simp [tS]) 0 hr (fit0 false (ads f0))
 rw [show (0:Rat)+sgq false (-((0:Int):Rat))=((0:Int):Rat) by decide +kernel,acy hr] at ht
 exact ⟨_,h0,agi ht ⟨_,h1,.inl ⟨rfl,rfl,rfl⟩⟩⟩
theorem au1 {j:Nat} {rs:List Rat} {d:Int} (hd:T.drop j=dT d ++ [tE]) (hs:(d.natAbs:Int)<pw 32) (hr:rs[vs.length]? = some 0):SideR (mkt f 0 T) vs 80 true j rs true (j+(dT d).length) (rs.set vs.length (d:Rat))∧(mkt f 0 T)[j+(dT d).length]? = some ⟨0,⟨#[]⟩,f (j+(dT d).length)⟩:=by
 have hf:=anq hs
 have h9:=aa6 (f:=f) (abr hd) 0 rfl
 refine ⟨?_,h9⟩
 unfold dT at hd ⊢
 have hq:∀ m:Bool,m=decide (d<0)→(0:Rat)+sgq (m != true) (-((d.natAbs:Int):Rat))=(d:Rat):=by
  intro m hm
  rw [←aj2 m hm]
  congr 1
  cases m <;> simp [sgq]
 by_cases h0:d<0
 ·rw [if_pos h0] at hd ⊢
  have k0:=aa6 (f:=f) hd 0 rfl
  have k1:=aa6 (f:=f) hd 1 rfl
  have k2:=aa6 (f:=f) hd 2 rfl
  have ht:TermR (mkt f 0 T) vs 80 (true != true) rs (j+1) true (j+2) (rs.set vs.length (0+sgq (true != true) (-((d.natAbs:Int):Rat)))) :=
   .alone _ k1 rfl (j+2) _ (abt k1 k2 rfl (agh hs).z) hf _ k2 rfl (by simp [tE]) 0 hr (fit0 _ (ads hf))
  rw [hq true (by rw [decide_eq_true h0])] at ht
  exact ⟨_,k0,.last true (j+1) (j+2) _ _ ht _ k2 rfl⟩
 ·rw [if_neg h0] at hd ⊢
  have k0:=aa6 (f:=f) hd 0 rfl
  have k1:=aa6 (f:=f) hd 1 rfl
  rw [Nat.add_zero] at k0
  have ht:TermR (mkt f 0 T) vs 80 (false != true) rs j true (j+1) (rs.set vs.length (0+sgq (false != true) (-((d.natAbs:Int):Rat)))) :=
   .alone _ k0 rfl (j+1) _ (abt k0 k1 rfl (agh hs).z) hf _ k1 rfl (by simp [tE]) 0 hr (fit0 _ (ads hf))
  rw [hq false (by rw [decide_eq_false h0])] at ht
  exact ⟨_,k0,.last false j (j+1) _ _ ht _ k1 rfl⟩
theorem ahk:∀ (ps:List (Int × List Nat)) (k:Nat) (rs:List Rat) (i:Nat),k+ps.length≤rs.length→(fill rs k ps)[i]? = if k≤i∧i<k+ps.length then (ps[i - k]?).map (fun p=>(p.1:Rat)) else rs[i]?
 | [],k,rs,i,_=>by rw [fill,if_neg (by simp)]
 | p :: ps,k,rs,i,h=>by
  rw [fill,ahk ps (k+1) _ i (by simp at h ⊢;omega)]
  simp only [List.length_cons] at h ⊢
  by_cases h1:k=i
  ·subst h1
   rw [if_neg (by omega),if_pos (by omega),Nat.sub_self,List.getElem?_set_self (by omega)]
   rfl
  ·rw [List.getElem?_set_ne h1]
   by_cases h2:k+1≤i∧i<k+1+ps.length
   ·rw [if_pos h2,if_pos (by omega),show i - k=(i - (k+1))+1 by omega,List.getElem?_cons_succ]
   ·rw [if_neg h2,if_neg (by omega)]
theorem ay2 {ps:List (Int × List Nat)} {d:Int} (f:Nat→Pl) (hp:PsOk ps) (hd:(d.natAbs:Int)<pw 32) (hl:ps.length=vs.length) (hi:∀ n p,ps[n]? = some p→ixS (bts (encs p.2)) vs=some n) :
  EqR (mkt f 0 (rowT ps d)) vs 80 0 (List.replicate (vs.length+1) 0) true ((rowT ps d).length - 1) ((ps.map Prod.fst ++ [d]).map (fun z:Int=>(z:Rat))):=by
 have hF:Fits3 vs ps 0 (List.replicate (vs.length+1) 0):=⟨fun n p h=>by rw [hi n p h,Nat.zero_add],fun n hn=>by rw [List.getElem?_replicate,if_pos (by omega)]⟩
 have hlast:(fill (List.replicate (vs.length+1) 0) 0 ps)[vs.length]? = some 0:=by
  rw [ahk _ _ _ _ (by simp;omega),if_neg (by omega),List.getElem?_replicate,if_pos (by omega)]
 have hrow:(fill (List.replicate (vs.length+1) 0) 0 ps).set vs.length (d:Rat)=(ps.map Prod.fst ++ [d]).map (fun z:Int=>(z:Rat)):=by
  apply List.ext_getElem?
  intro i
  rw [List.getElem?_set]
  by_cases h:vs.length=i
  ·subst h
   have:(fill (List.replicate (vs.length+1) 0) 0 ps).length > vs.length:=by
    have:=(List.getElem?_eq_some_iff.1 hlast).1
    exact this
   rw [if_pos rfl,if_pos this,List.map_append,List.getElem?_append_right (by simp [hl]),List.length_map,List.length_map,hl,Nat.sub_self]
   rfl
  ·rw [if_neg h,ahk _ _ _ _ (by simp;omega),List.map_append]
   by_cases h2:i<ps.length
   ·rw [if_pos (by omega),List.getElem?_append_left (by simpa using h2),Nat.sub_zero]
    simp [Function.comp_def]
   ·rw [if_neg (by omega),List.getElem?_replicate,if_neg (by omega),List.getElem?_append_right (by simp;omega)]
    simp
    omega
 have tail:∀ (k:Nat) (rs1:List Rat),SideR (mkt f 0 (rowT ps d)) vs 80 false 0 (List.replicate (vs.length+1) 0) true k rs1→rs1[vs.length]? = some 0→(rowT ps d).drop k=tS 61 :: (dT d ++ [tE])→EqR (mkt f 0 (rowT ps d)) vs 80 0 (List.replicate (vs.length+1) 0) true ((rowT ps d).length - 1) (rs1.set vs.length (d:Rat)):=by
  intro k rs1 hS hr hT
  have h0:=aa6 (f:=f) hT 0 rfl
  have h1:(rowT ps d).drop (k+1)=dT d ++ [tE]:=abr (a:=[tS 61]) hT
  obtain ⟨h2,h3⟩:=au1 (f:=f) h1 hd hr
  have hlen:(rowT ps d).length - 1=k+1+(dT d).length:=by
   have:=congrArg List.length hT
   rw [List.length_drop] at this
   simp at this
   omega
  rw [hlen]
  exact .good k rs1 _ hS h0 rfl _ _ h2 _ h3 rfl
 rw [←hrow]
 by_cases hne:leftT true ps = []
 ·have hT:(rowT ps d).drop 0=tN [48] :: tS 61 :: (dT d ++ [tE]):=by rw [List.drop_zero,rowT,if_pos hne];rfl
  have hz:fill (List.replicate (vs.length+1) 0) 0 ps=List.replicate (vs.length+1) 0:=by
   have key:∀ (ps:List (Int × List Nat)) (k:Nat) (rs:List Rat),leftT true ps = []→Fits3 vs ps k rs→fill rs k ps=rs:=by
    intro ps
    induction ps with
    | nil=>intro k rs _ _;rfl
    | cons p ps ih =>
     intro k rs h1 h2
     rw [leftT] at h1
     by_cases h:p.1=0
     ·rw [if_pos h] at h1
      have h3:=h2.tail ((0:Int):Rat)
      rw [acy h2.here.2] at h3
      rw [fill,h,acy h2.here.2]
      exact ih _ _ h1 h3
     ·rw [if_neg h] at h1
      simp [ttT] at h1
   exact key ps 0 _ hne hF
  have hS:=axc (f:=f) (vs:=vs) (rs:=List.replicate (vs.length+1) 0) hT (by rw [List.getElem?_replicate,if_pos (by omega)])
  rw [hz]
  rw [hz] at hlast
  exact tail _ _ hS hlast (abr (a:=[tN [48]]) hT)
 ·have hT:(rowT ps d).drop 0=leftT true ps ++ tS 61 :: (dT d ++ [tE]):=by rw [List.drop_zero,rowT,if_neg hne]
  have hS:=alq (f:=f) ps 0 0 _ hp hF hne hT
  exact tail _ _ hS hlast (abr hT)
end Lm
end Go.Proofs.YtdjgifcmhafppaaGreatDoor
namespace Go.Proofs.YtdjgifcmhafppaaGreatDoor
namespace Lm
open Go Go.RowKit
set_option maxRecDepth 20000 in
set_option maxHeartbeats 4000000 in
theorem apw (w:World) (v:Value) (zs:List Int) (L:Nat) (h:IsRow w v zs L) (hL:L≤400000) (hl:zs.length≤1000000) :
  Calls Tryz.prog 7 #[v] w fun e w'=>Below w.heap.size w w'∧(((∀ z ∈ zs,(z.natAbs:Int)<pw 32)∧e=.returned (.bool true))∨((∃ z ∈ zs,¬ (z.natAbs:Int)<pw 32)∧e=.returned (.bool false))):=by
 obtain ⟨ao,cap,rfl,_⟩:=h.parts
 have HI:=hide h
 clear h
 generalize hn:zs.length=n at *
 have HN:=hide hn
 clear hn
 go_enter Tryz.func7,Tryz.ntmps7
 go_wp2_with fail
 go_loopw [3] (fun iv wr=>∃ (k:Nat),iv=.int .i64 k∧k≤n∧Below w.heap.size w wr∧∀ (j:Nat) (z:Int),j<k→zs[j]? = some z→(z.natAbs:Int)<pw 32) (fun iv _=>n - (intOf iv).toNat)
 case atStart=>exact ⟨0,rfl,Nat.zero_le _,Below.refl _ _,fun j z hj=>by omega⟩
 case round =>
  obtain ⟨k,rfl,hk,hbw,hall⟩:=hrel
  have HW:=hide hbw
  have HALL:=hide hall
  by_cases hlt:k<n
  ·obtain ⟨z,hz⟩:∃ z,zs[k]? = some z:=⟨_,List.getElem?_eq_getElem (by have:=HN.out;omega)⟩
   obtain ⟨b,off,ngx,ax,mx,cx,rfl,hbl,x0,x1,hx⟩:=(HI.out.below hbw).cell hz
   have HX:=hide hx
   have HZ:=hide hz
   have hlt' : (k:Int)<(n:Int):=by omega
   clear hbw hall hx hz
   go_wp2_with fail
   refine (limbsF _ z L _ HX.out (by omega)).mono ?_
   rintro e w3 ⟨m,rfl,hm,hb3⟩
   have HM:=hide hm
   have HB3:=hide (HW.out.trans (hb3.mono HW.out.size))
   by_cases hbig:m≤32
   ·have hb' : decide ((32:Int)<(m:Int))=false:=by simp;omega
    clear hm hb3 x0 x1
    go_wp2
    go_roundw
    case rel =>
     refine ⟨k+1,by go_num,by omega,HB3.out,fun j y hj hy=>?_⟩
     by_cases hjk:j=k
     ·subst hjk
      obtain rfl:z=y:=Option.some.inj (HZ.out.symm.trans hy)
      exact HM.out.1 hbig
     ·exact HALL.out j y (by omega) hy
    case measure=>simp [intOf];omega
   ·have hb' : (32:Int)<(m:Int):=by omega
    have HBG:Hid (¬ (z.natAbs:Int)<pw 32):=(show ¬ (z.natAbs:Int)<pw 32 from fun h=>hbig (hm.2 h))
    clear hm hb3 x0 x1
    go_wp2
    refine bodyPost_ret (v:=_) (by simp [results,Tryz.results7,go_sem];try rfl) rfl ⟨HB3.out,.inr ⟨⟨z,List.mem_of_getElem? HZ.out,HBG.out⟩,rfl⟩⟩
  ·have hlt' : decide ((k:Int)<(n:Int))=false:=by simp;omega
   clear hbw hall
   go_wp2
   refine bodyPost_ret (v:=_) (by simp [results,Tryz.results7,go_sem];try rfl) rfl ⟨HW.out,.inl ⟨fun z hz=>?_,rfl⟩⟩
   obtain ⟨j,hj⟩:=List.getElem?_of_mem hz
   exact HALL.out j z (by have:=(List.getElem?_eq_some_iff.1 hj).1;have:=HN.out;omega) hj
def nm16:List (List Nat):=[[120],[121],[122,8321],[945],[108,111,110,103,95,110,97,109,101],[66,55],[1076],[112,8242],[120,176],[121,176],[113],[114],[115],[116],[117],[118]]
theorem aiv:∀ c ∈ nm16,nmB c=true:=by decide +kernel
def nmv (n:Nat):List ByteArray:=(nm16.take n).map (fun c=>bts (encs c))
theorem adw {n:Nat} (h:n≤16):(nmv n).length=n:=by simp [nmv,nm16];omega
theorem apx {cs:List Nat} (h:nmB cs=true):isNm (bts (encs cs))=true:=by
 have hd:(bts (encs cs)).data.toList=encs cs:=by simp [bts]
 have hsz:(bts (encs cs)).size≤64:=by
  have h1:(bts (encs cs)).size=(encs cs).length:=by simp [bts,ByteArray.size]
  have h2:∀ l:List Nat,(encs l).length≤4*l.length:=by
   intro l
   induction l with
   | nil=>simp [encs]
   | cons c l ih=>rw [encs,List.length_append,List.length_cons];have:=(ag9 c).2;omega
  have h3:cs.length≤16:=by
   match cs,h with
   | c :: u,h =>
    simp only [nmB,Bool.and_eq_true,decide_eq_true_eq] at h
    exact h.2
  have:=h2 cs
  omega
 have hS:ScanC cs [(1,bts (encs cs)),(0,⟨#[]⟩)]:=by
  have:=ait h alk asi
  rwa [List.append_nil] at this
 have hQ:=ak5 (bts (encs cs)) cs (ano h) [] [] pl0 rfl (by rw [hd];simp) (.inl rfl)
 obtain ⟨l,hR,hl⟩:=anc (bts (encs cs)) cs _ hS [] pl0 rfl (by rw [hd];rfl)
 rw [←ais (by omega) hQ hR]
 match l,hl with
 | t :: l,hl =>
  simp only [List.map_cons,List.cons.injEq,Prod.mk.injEq] at hl
  simp [nmS,hl.1.1,hl.1.2]
theorem aih {n i:Nat} {x:ByteArray} (h:(nmv n)[i]? = some x):∃ c,nm16[i]? = some c∧x=bts (encs c)∧i<n:=by
 simp only [nmv,List.getElem?_map,Option.map_eq_some_iff,List.getElem?_take] at h
 obtain ⟨c,h1,rfl⟩:=h
 by_cases hi:i<n
 ·rw [if_pos hi] at h1
  exact ⟨c,h1,rfl,hi⟩
 ·rw [if_neg hi] at h1;cases h1
theorem apy:(nm16.map (fun c=>bts (encs c))).Nodup:=by decide +kernel
theorem alr {n:Nat} (h:n≤16):NmsOk (nmv n):=by
 refine ⟨by rw [adw h];exact h,fun i x hx=>?_⟩
 obtain ⟨c,h1,rfl,h2⟩:=aih hx
 refine ⟨apx (aiv c (List.mem_of_getElem? h1)),fun hm=>?_⟩
 obtain ⟨j,hj⟩:=List.mem_iff_getElem?.1 hm
 rw [List.getElem?_take] at hj
 by_cases hji:j<i
 ·rw [if_pos hji] at hj
  obtain ⟨c',h1',e,_⟩:=aih hj
  have hn:=apy
  obtain ⟨hi1,hi2⟩:=List.getElem?_eq_some_iff.1 h1
  obtain ⟨hj1,hj2⟩:=List.getElem?_eq_some_iff.1 h1'
  have:j=i:=(List.getElem_inj (xs:=nm16.map (fun c=>bts (encs c))) (i:=j) (j:=i) (h₀:=by simpa using hj1) (h₁:=by simpa using hi1) hn).1 (by simp [hi2,hj2,e])
  omega
 ·rw [if_neg hji] at hj;cases hj
theorem ay3 {n i:Nat} {c:List Nat} (hn:n≤16) (hi:i<n) (h:nm16[i]? = some c):ixS (bts (encs c)) (nmv n)=some i:=by
 have h1:(nmv n)[i]? = some (bts (encs c)):=by simp [nmv,hi,h]
 exact alg ((alr hn).2 i _ h1).2 h1
theorem axd {n:Nat} : (⟨#[]⟩:ByteArray) ∉ nmv n:=by
 intro h
 obtain ⟨i,hi⟩:=List.mem_iff_getElem?.1 h
 obtain ⟨c,h1,e,_⟩:=aih hi
 have h2:=alp (aiv c (List.mem_of_getElem? h1))
 have h3:encs c = []:=by
  have:(bts (encs c)).data.toList = []:=by rw [←e]
  simpa [bts] using this
 exact h2 (afc h3)
set_option maxRecDepth 100000 in
set_option maxRecDepth 20000 in
set_option maxHeartbeats 4000000 in
theorem apz (w:World) (n:Nat) (hn:n≤16) :
  Calls Tryz.prog 8 #[.int .i64 (n:Int)] w fun e w'=>∃ v,e=.returned v∧Strs w' v (nmv n)∧Below w.heap.size w w' := by
 go_enter Tryz.func8,Tryz.ntmps8
 go_upto_region 2 with fail
 have hh:=heap_alloc_new w (.cells #[.string ⟨#[120]⟩,.string ⟨#[121]⟩,.string ⟨#[122,226,130,129]⟩,.string ⟨#[206,177]⟩,.string ⟨#[108,111,110,103,95,110,97,109,101]⟩,.string ⟨#[66,55]⟩,.string ⟨#[208,180]⟩,.string ⟨#[112,226,128,178]⟩,.string ⟨#[120,194,176]⟩,.string ⟨#[121,194,176]⟩,.string ⟨#[113]⟩,.string ⟨#[114]⟩,.string ⟨#[115]⟩,.string ⟨#[116]⟩,.string ⟨#[117]⟩,.string ⟨#[118]⟩] 9)
 have hb:=hAl w (.cells #[.string ⟨#[120]⟩,.string ⟨#[121]⟩,.string ⟨#[122,226,130,129]⟩,.string ⟨#[206,177]⟩,.string ⟨#[108,111,110,103,95,110,97,109,101]⟩,.string ⟨#[66,55]⟩,.string ⟨#[208,180]⟩,.string ⟨#[112,226,128,178]⟩,.string ⟨#[120,194,176]⟩,.string ⟨#[121,194,176]⟩,.string ⟨#[113]⟩,.string ⟨#[114]⟩,.string ⟨#[115]⟩,.string ⟨#[116]⟩,.string ⟨#[117]⟩,.string ⟨#[118]⟩] 9)
 generalize w.alloc (.cells #[.string ⟨#[120]⟩,.string ⟨#[121]⟩,.string ⟨#[122,226,130,129]⟩,.string ⟨#[206,177]⟩,.string ⟨#[108,111,110,103,95,110,97,109,101]⟩,.string ⟨#[66,55]⟩,.string ⟨#[208,180]⟩,.string ⟨#[112,226,128,178]⟩,.string ⟨#[120,194,176]⟩,.string ⟨#[121,194,176]⟩,.string ⟨#[113]⟩,.string ⟨#[114]⟩,.string ⟨#[115]⟩,.string ⟨#[116]⟩,.string ⟨#[117]⟩,.string ⟨#[118]⟩] 9)=w1 at *
 have HS:Hid (Strs w1 (.slice (some ⟨w.heap.size,0,none⟩) n 16) (nmv n)):=by
  refine (show Ce _ _ _ _ _ from ⟨_,16,by rw [adw hn],by rw [adw hn];exact hn,by decide,by simp,.inr ⟨w.heap.size,0,rfl,aaa hh,fun j u hu=>?_⟩⟩)
  rw [Nat.zero_add,cell_of_row _ _ _ _ _ (0,0) hh]
  rw [List.getElem?_map,Option.map_eq_some_iff] at hu
  obtain ⟨x,hx,rfl⟩:=hu
  obtain ⟨c,hc,rfl,_⟩:=aih hx
  have hj:=(List.getElem?_eq_some_iff.1 hc).1
  have key:∀ j<16,#[Value.string ⟨#[120]⟩,.string ⟨#[121]⟩,.string ⟨#[122,226,130,129]⟩,.string ⟨#[206,177]⟩,.string ⟨#[108,111,110,103,95,110,97,109,101]⟩,.string ⟨#[66,55]⟩,.string ⟨#[208,180]⟩,.string ⟨#[112,226,128,178]⟩,.string ⟨#[120,194,176]⟩,.string ⟨#[121,194,176]⟩,.string ⟨#[113]⟩,.string ⟨#[114]⟩,.string ⟨#[115]⟩,.string ⟨#[116]⟩,.string ⟨#[117]⟩,.string ⟨#[118]⟩][j]? = (nm16[j]?).map (fun c=>Value.string (bts (encs c))):=by
   intro j hj
   match j,hj with
   | 0,_=>rfl
   | 1,_=>rfl
   | 2,_=>rfl
   | 3,_=>rfl
   | 4,_=>rfl
   | 5,_=>rfl
   | 6,_=>rfl
   | 7,_=>rfl
   | 8,_=>rfl
   | 9,_=>rfl
   | 10,_=>rfl
   | 11,_=>rfl
   | 12,_=>rfl
   | 13,_=>rfl
   | 14,_=>rfl
   | 15,_=>rfl
   | j+16,h=>exact absurd h (by omega)
  rw [key j hj,hc]
  rfl
 have HB:=hide hb
 have hn' : (n:Int)≤16:=by omega
 clear hh hb
 go_wp2
 refine bodyPost_ret (v:=_) (by simp [results,Tryz.results8,go_sem];try rfl) rfl ⟨_,rfl,HS.out,HB.out⟩
theorem aiw (zs:List Int):comR (zs.map (fun z:Int=>(z:Rat)))=1:=by
 unfold comR
 induction zs with
 | nil=>rfl
 | cons z zs ih =>
  rw [List.map_cons,List.foldl_cons]
  rw [show (1:Int)*(((z:Rat).den:Int) / ((Int.gcd 1 (z:Rat).den:Nat):Int))=1 by simp]
  exact ih
theorem aix (zs:List Int):clr (zs.map (fun z:Int=>(z:Rat)))=zs:=by
 unfold clr
 rw [aiw,List.map_map]
 conv=>rhs;rw [←List.map_id zs]
 apply List.map_congr_left
 intro z _
 simp
theorem adg (zs:List Int):canonZ (zs.map (fun z:Int=>(z:Rat)))=red zs:=by rw [canonZ,aix]
theorem axe (zs:List Int):red (red zs)=red zs:=by
 by_cases h0:dvs zs=0
 ·have hz:∀ z ∈ zs,z=0:=fun z hz=>by have:=adr z hz;rw [h0] at this;exact Int.zero_dvd.1 this
  have:red zs=zs:=by
   unfold red
   conv=>rhs;rw [←List.map_id zs]
   apply List.map_congr_left
   intro z h
   rw [hz z h];simp
  rw [this,this]
 ·have hd:((dvs zs:Int):Rat)≠0:=fun e=>h0 (Rat.intCast_eq_zero_iff.1 e)
  have hq:(1:Rat) / ((dvs zs:Int):Rat)≠0:=fun e=>by
   have:=Rat.div_mul_cancel (a:=(1:Rat)) hd
   rw [e,Rat.zero_mul] at this
   exact absurd this (by decide)
  have h1:=amt _ hq (zs.map (fun z:Int=>(z:Rat)))
  rw [adg] at h1
  have h3:(red zs).map (fun z:Int=>(z:Rat))=(zs.map (fun z:Int=>(z:Rat))).map (fun x=>1 / ((dvs zs:Int):Rat)*x):=by
   unfold red
   rw [List.map_map,List.map_map]
   apply List.map_congr_left
   intro z hz
   obtain ⟨q,e⟩:=adr z hz
   have h4:z / dvs zs=q:=by
    conv=>lhs;rw [e]
    exact Int.mul_ediv_cancel_left q h0
   show ((z / dvs zs:Int):Rat)=1 / ((dvs zs:Int):Rat)*(z:Rat)
   rw [h4]
   conv=>rhs;rw [e]
   rw [Rat.intCast_mul,Rat.div_def,Rat.one_mul,←Rat.mul_assoc,Rat.inv_mul_cancel _ hd,Rat.one_mul]
  rw [←adg (red zs),h3,h1]
theorem axf {w:World} (hT:Tabs w) {v:Value} {zs:List Int} {d:Int} (hn:zs.length≤16) (hv:Strs w v (nmv zs.length)) (hz:∀ z ∈ zs ++ [d],(z.natAbs:Int)<pw 32) (hl:(prn (zs ++ [d]) (nmv zs.length)).size≤4096) :
  Calls Tryz.prog 10 #[.string (prn (zs ++ [d]) (nmv zs.length)),v] w fun r w'=>Below w.heap.size w w'∧∃ x,r=.returned (.tuple #[x,.int .i64 0,.agg #[.int .i64 0,.int .i64 0,.int .i64 0,.int .i64 0]])∧ORow w.heap.size w' x (red (zs ++ [d])) 80:=by
 have hnl:zs.length=(nm16.take zs.length).length:=by simp [nm16];omega
 have hok:∀ c ∈ nm16.take zs.length,nmB c=true:=fun c hc=>aiv c (List.mem_of_mem_take hc)
 have hne:∀ c ∈ nm16.take zs.length,c≠[]:=fun c hc=>alp (hok c hc)
 have hpr:prn (zs ++ [d]) (nmv zs.length)=bts (encs (rowC (zs.zip (nm16.take zs.length)) d)):=axb hnl hne
 have hP:PsOk (zs.zip (nm16.take zs.length)):=⟨fun q hq=>hok _ (List.of_mem_zip hq).2,fun q hq=>hz _ (by simp [(List.of_mem_zip hq).1])⟩
 have hd:(d.natAbs:Int)<pw 32:=hz d (by simp)
 have hfst:(zs.zip (nm16.take zs.length)).map Prod.fst=zs:=List.map_fst_zip (by omega)
 have hlen:(zs.zip (nm16.take zs.length)).length=(nmv zs.length).length:=by rw [List.length_zip,adw hn];omega
 have hix:∀ n p,(zs.zip (nm16.take zs.length))[n]? = some p→ixS (bts (encs p.2)) (nmv zs.length)=some n:=by
  intro n p h
  obtain ⟨h1,h2⟩:=List.getElem?_eq_some_iff.1 h
  have h3:n<zs.length:=by rw [List.length_zip] at h1;omega
  rw [List.getElem_zip] at h2
  have h4:nm16[n]? = some p.2:=by
   rw [←h2,List.getElem_take]
   exact List.getElem?_eq_getElem _
  exact ay3 hn h3 h4
 have p1:(1:Int)<pw 80:=by decide +kernel
 have p32:pw 32<pw 80:=by decide +kernel
 rw [hpr] at hl ⊢
 have hcod:∀ x ∈ rowC (zs.zip (nm16.take zs.length)) d,Cod x:=by
  have hdc:∀ z:Int,∀ x ∈ dcs (dig (z.natAbs:Int)),Cod x:=fun z=>(aw2 (aco _).1).cod
  have hL:∀ (ps:List (Int × List Nat)) (b:Bool),(∀ q ∈ ps,nmB q.2=true)→∀ x ∈ leftC b ps,Cod x:=by
   intro ps
   induction ps with
   | nil=>intro b _ x hx;simp [leftC] at hx
   | cons q ps ih =>
    intro b hq x hx
    rw [leftC] at hx
    by_cases h0:q.1=0
    ·rw [if_pos h0] at hx;exact ih b (fun y hy=>hq y (by simp [hy])) x hx
    ·rw [if_neg h0,ttC,if_neg h0,List.mem_append,List.mem_append,List.mem_append] at hx
     rcases hx with (hx | hx | hx) | hx
     ·unfold tpC at hx
      cases b <;> by_cases h1:q.1<0 <;> simp [h1] at hx <;> exact aff (by omega)
     ·unfold numC at hx
      split at hx
      ·simp at hx
      ·rw [List.mem_append] at hx
       rcases hx with hx | hx
       ·exact hdc _ x hx
       ·exact aff (by simp at hx;omega)
     ·exact ano (hq q (by simp)) x hx
     ·exact ih false (fun y hy=>hq y (by simp [hy])) x hx
  intro x hx
  unfold rowC dC at hx
  rw [List.mem_append] at hx
  rcases hx with hx | hx
  ·split at hx
   ·exact aff (by simp at hx;omega)
   ·exact hL _ true hP.nm x hx
  ·simp only [List.mem_cons,List.mem_append] at hx
   rcases hx with hx | hx | hx | hx | hx
   ·exact aff (by omega)
   ·exact aff (by omega)
   ·exact aff (by omega)
   ·split at hx
    ·exact aff (by simp at hx;omega)
    ·simp at hx
   ·exact hdc _ x hx
 have hE:∃ k,∀ f,EqR (mkt f 0 (rowT (zs.zip (nm16.take zs.length)) d)) (nmv zs.length) 80 0 (List.replicate ((nmv zs.length).length+1) 0) true k ((zs ++ [d]).map (fun z:Int=>(z:Rat))):=by
  have h:=fun f=>ay2 f hP hd hlen hix
  rw [hfst] at h
  exact ⟨_,h⟩
 obtain ⟨k,hE⟩:=hE
 rw [←adg]
 refine auy hT hv (alr hn) axd hcod (by simpa [bts,ByteArray.size] using hl) (au0 hP hd) 80 80 (by decide) (by decide) (by decide) hE (by rw [List.length_map,adw hn];simp) (fun k _=>?_) ?_ ?_
 ·rw [←List.map_take,aiw];exact p1
 ·rw [aix];intro z h;have:=hz z h;omega
 ·rw [adg];exact arl hz (by omega)
set_option maxRecDepth 20000 in
set_option maxHeartbeats 4000000 in
set_option maxRecDepth 100000 in
theorem ay4 (w:World) (z:Int) (L:Nat) (v:Value) (h:IsW z L v w) (hL:L≤100000) :
  Calls Tryz.prog 11 #[v] w fun e w'=>∃ r ng zs ys,e=.returned r∧OwR w.heap.size ng zs ys r w'∧sg ng (val zs)=z∧val ys=1∧zs.length≤L∧ys.length≤2∧Below w.heap.size w w' := by
 obtain ⟨nx,ax,mx,cx,xs,rfl,Ax,Lx⟩:=h
 obtain ⟨w0,e0,hx,hz,hb⟩:=boxz w (.cells #[.bool nx,.slice ax mx cx] 38)
 obtain ⟨_,x0,x1,_,_⟩:=aah hx
 have E0:=hide e0
 have K1:=hide (av5 w0 nx ax mx cx xs (Ax.sl.below hb) (by omega))
 have HZ:=hide hz
 have HB:=hide hb
 have HA:=hide Ax.worth
 have HL:=hide Lx
 clear e0 hx hz hb Ax Lx
 go_enter Tryz.func11,Tryz.ntmps11
 go_upto_region 1 with fail
 rw [E0.out]
 go_wp2_with fail
 refine K1.out.mono ?_
 rintro e w1 ⟨n1,a1,c1,r1,rfl,G1,l1,o1,hb1⟩
 have K2:=hide (ab0 w1 1 (by omega) (by omega))
 have HB1:=hide (HB.out.trans (hb1.mono HB.out.size))
 have HZ1:=hide ((hb1.block _ (aaa HZ.out)).trans HZ.out)
 have HG:=hide (And.intro G1 (And.intro l1 (o1.ow.mono HB.out.size)))
 clear G1 l1 o1 hb1 K1 HB HZ
 go_wp2_with fail
 refine K2.out.mono ?_
 rintro e w9 ⟨v,rfl,I,hb9⟩
 obtain ⟨r2,O2',G2,v2⟩:=I
 have O2:Ow w1.heap.size w9 v r2:=O2'
 clear O2'
 obtain ⟨a2,c2,hv2,_⟩:=id O2
 subst hv2
 have HB9:=hide (HB1.out.trans (hb9.mono HB1.out.size))
 have hz:=(hb9.block _ (aaa HZ1.out)).trans HZ1.out
 obtain ⟨_,t0,t1,t2,u0,u1,u2⟩:=aac hz
 obtain ⟨e1,e2⟩:=akx n1 a1 r1.length c1 a2 r2.length c2 (Nat.le_succ w.heap.size) hz HB9.out
 have E:=hide (And.intro e1 e2)
 have HR:=hide (adl hz (.bool n1) (.slice a1 r1.length c1) (.slice a2 r2.length c2))
 have L2:r2.length≤2:=aaw G2 (by rw [v2];decide)
 have HO:=hide (And.intro (HG.out.2.2.below hb9) (And.intro (O2.mono HB1.out.size) (And.intro v2 L2)))
 have hw:sg n1 (val r1)=z:=(Wh.worth HG.out.1).trans HA.out
 clear hz K2 hb9 O2 G2 v2 e1 e2 L2
 go_wp2
 exact bodyPost_ret (v:=.agg #[.bool n1,.slice a1 r1.length c1,.slice a2 r2.length c2]) (acb (g:=w.heap.size+1) rfl rfl E.out.2) rfl ⟨_,n1,r1,r2,rfl,⟨_,_,_,_,rfl,HO.out.1.ru HR.out,HO.out.2.1.ru HR.out⟩,hw,HO.out.2.2.1,by have:=HG.out.2.1;have:=HL.out;omega,HO.out.2.2.2,E.out.1⟩
theorem als (w:World) (x y:ByteArray) (e:TypeId):Strs (w.alloc (.cells #[.string x,.string y] e)) (.slice (some ⟨w.heap.size,0,none⟩) 2 2) [x,y]:=by
 refine ⟨_,2,rfl,Nat.le_refl _,by decide,rfl,.inr ⟨w.heap.size,0,rfl,by simp,fun j u hu=>?_⟩⟩
 have hh:=heap_alloc_new w (.cells #[.string x,.string y] e)
 rw [Nat.zero_add,cell_of_row _ _ _ _ _ (0,0) hh]
 match j with
 | 0=>simpa using hu
 | 1=>simpa using hu
 | j+2=>simp at hu
theorem aiy (w:World) (hT:Tabs w) (v:Value) (hv:Strs w v [⟨#[120]⟩,⟨#[121]⟩]) :
  Calls Tryz.prog 10 #[.string ⟨#[50,120,32,61,32,52,121,32,45,32,54]⟩,v] w fun r w'=>Below w.heap.size w w'∧∃ x,r=.returned (.tuple #[x,.int .i64 0,.agg #[.int .i64 0,.int .i64 0,.int .i64 0,.int .i64 0]])∧CanRow w' x [1,-2,-3] 16:=by
 refine (afj w hT eqs (by decide) v _ hv ash _ _ eqt aw0 aux 8 16 (by decide) (by decide) (by decide) 7 rs3 aw1 rfl ?_ ?_ (by simp)).mono ?_
 ·intro k hk
  have hk' : k≤3:=hk
  match k,hk' with
  | 0,_=>decide +kernel
  | 1,_=>decide +kernel
  | 2,_=>decide +kernel
  | 3,_=>decide +kernel
 ·have h:clr rs3 = [2,-4,-6]:=by kernel_rfl
  rw [h]
  intro z hz
  simp at hz
  rcases hz with rfl | rfl | rfl <;> decide +kernel
 ·rintro r w' ⟨hb,⟨_,x,rfl,hO⟩ | ⟨⟨z,hz,hbig⟩,_⟩⟩
  ·rw [alj] at hO
   exact ⟨hb,x,rfl,hO.can⟩
  ·rw [alj] at hz
   simp at hz
   rcases hz with rfl | rfl | rfl <;> exact absurd (by decide +kernel) hbig
theorem aii (w:World) (a b c:Int) (e:TypeId):Nums (w.alloc (.cells #[.int .i64 a,.int .i64 b,.int .i64 c] e)) (.slice (some ⟨w.heap.size,0,none⟩) 3 3) [a,b,c]:=ahb w [a,b,c] (by simp) e
set_option maxRecDepth 20000 in
set_option maxHeartbeats 8000000 in
theorem ay5 (w:World) (hT:Tabs w) :
  Calls Tryz.prog 5 #[] w fun r w'=>r=.returned (.bool true)∧Below w.heap.size w w' := by
 have hb0:=hAl w (.cells #[.string ⟨#[120]⟩,.string ⟨#[121]⟩] 9)
 have K:=hide (aiy _ (hT.below hb0) _ (als w ⟨#[120]⟩ ⟨#[121]⟩ 9))
 have HT:=hide hT
 clear hT
 go_enter Tryz.func5,Tryz.ntmps5
 go_wp2_with fail
 refine K.out.mono ?_
 rintro r w1 ⟨hb1,x,rfl,hcx⟩
 obtain ⟨ax,cx,hvx,_⟩:=hcx.is.parts
 subst hvx
 have hbA:=hAl w1 (.cells #[.int .i64 0,.int .i64 0,.int .i64 0,.int .i64 0] 32)
 have hb1' := hb0.trans (hb1.mono hb0.size)
 have hb2:=hb1'.trans (hbA.mono hb1'.size)
 have HB2:=hide hb2
 have HCX:=hide (hcx.below hbA)
 clear hb0 hb1 hb1' hcx K hbA
 go_wp2_with fail
 generalize hW2:w1.alloc (.cells #[.int .i64 0,.int .i64 0,.int .i64 0,.int .i64 0] 32)=w2 at *
 have hs2:w2.heap.size=w1.heap.size+1:=by rw [←hW2];simp
 rw [←hs2]
 have hz3:∀ z ∈ ([1,-2,-3]:List Int),-9223372036854775808≤z∧z≤9223372036854775807:=by intro z hz;simp at hz;rcases hz with rfl | rfl | rfl <;> decide
 have HZ3:=hide hz3
 have hbn2:=hAl w2 (.cells #[.int .i64 1,.int .i64 (-2),.int .i64 (-3)] 3)
 refine (am9 _ _ [1,-2,-3] (aii w2 1 (-2) (-3) 3) hz3 (by decide)).mono ?_
 rintro e w3 ⟨r3,rfl,hr3,hb3⟩
 obtain ⟨a3,c3,hv3,_⟩:=hr3.is.parts
 subst hv3
 have hb23:=hbn2.trans (hb3.mono hbn2.size)
 have HB3:=hide (HB2.out.trans (hb23.mono HB2.out.size))
 have HCX3:=hide (HCX.out.below hb23)
 have hbs:=hAl w3 (.cells #[.string ⟨#[120]⟩,.string ⟨#[121]⟩] 9)
 have K4:=hide (ams _ ((HT.out.below HB3.out).below hbs) _ _ 2 (hr3.is.below hbs) (by decide) (als w3 ⟨#[120]⟩ ⟨#[121]⟩ 9) ash)
 have HBS:=hide hbs
 clear hb3 hb23 hbn2 hr3 hbs hz3 hW2 hs2
 go_wp2_with fail
 refine K4.out.mono ?_
 rintro e w4 ⟨rfl,hb4⟩
 have hb34:=HBS.out.trans (hb4.mono HBS.out.size)
 have HB4:=hide (HB3.out.trans (hb34.mono HB3.out.size))
 have HCX4:=hide (HCX3.out.below hb34)
 have hbn4:=hAl w4 (.cells #[.int .i64 1,.int .i64 (-2),.int .i64 (-3)] 3)
 have K5:=hide (am9 _ _ [1,-2,-3] (aii w4 1 (-2) (-3) 3) HZ3.out (by decide))
 have HBN4:=hide hbn4
 clear hb4 hb34 hbn4 K4
 go_wp2_with fail
 refine K5.out.mono ?_
 rintro e w5 ⟨r5,rfl,hr5,hb5⟩
 obtain ⟨a5,c5,hv5,_⟩:=hr5.is.parts
 subst hv5
 have hb45:=HBN4.out.trans (hb5.mono HBN4.out.size)
 have HB5:=hide (HB4.out.trans (hb45.mono HB4.out.size))
 have K6:=hide (agt w5 _ _ [1,-2,-3] 16 2 (HCX4.out.below hb45) hr5)
 have hst:((⟨#[120,32,45,32,50,42,121,32,61,32,45,51]⟩:ByteArray).toList == [120,32,45,32,50,42,121,32,61,32,45,51])=true:=by rw [ByteArray.toList_eq];decide
 clear hb5 hb45 hr5 K5
 go_wp2_with fail
 refine K6.out.mono ?_
 rintro e w6 ⟨rfl,hb6⟩
 have HB6:=hide (HB5.out.trans (hb6.mono HB5.out.size))
 clear hb6 K6
 go_wp2
 refine bodyPost_ret (v:=_) (by simp [results,Tryz.results5,go_sem];try rfl) rfl ⟨rfl,HB6.out⟩
theorem Rw.isrow {w:World} {v:Value} {es:List WE} (h:Rw w v es) {L:Nat} (hl:lenW es≤L):IsRow w v (es.map WE.z) L:=by
 refine ⟨es,h,rfl,fun e he=>?_⟩
 have h1:=atr he
 have h2:=(h.sl e he).parts.1
 omega
theorem ay6 {w:World} {z:Int} {vx vy:Value} {L M:Nat} (hx:IsW z L vx w) (hy:IsW z M vy w) (hL:L≤400000) (hM:M≤400000):Calls Tryz.prog 15 #[vx,vy] w fun e w'=>e=.returned (.int .i64 0)∧Below w.heap.size w w' := by
 have:=cmpF w z z vx vy L M hx hy hL hM
 rwa [acm rfl] at this
theorem axg {l:List Int} (h:l≠[]):∃ zs d,l=zs ++ [d]∧l.length=zs.length+1:=⟨l.dropLast,l.getLast h,(List.dropLast_concat_getLast h).symm,by rw [List.length_dropLast];have:=List.length_pos_iff.2 h;omega⟩
set_option maxRecDepth 20000 in
set_option maxHeartbeats 16000000 in
theorem aso (w:World) (hT:Tabs w) (ax:Option Addr) (mx cx:Nat) (xs:List WE) (Rx:Rw w (.slice ax mx cx) xs) (hx:∀ e ∈ xs,e.m≤35184372088832) :
  Calls Tryz.prog 3 #[.slice ax mx cx] w fun e w'=>e=.returned (.bool true)∧Below w.heap.size w w' := by
 have K1:=hide (ay5 w hT)
 have HX:=hide Rx
 have HTB:=hide hT
 have hmx:mx=xs.length:=by
  obtain ⟨⟨ao',cap',hv,_⟩,_⟩:=id Rx
  simp only [Value.slice.injEq] at hv
  exact hv.2.1
 obtain ⟨sx,hsx⟩:∃ sx:Int,IntKind.i64.wrap (lenW xs:Int)=sx:=⟨_,rfl⟩
 have HE:=hide hx
 have HSx:=hide hsx
 have HMX:=hide hmx
 clear Rx hT hsx hmx hx
 go_enter Tryz.func3,Tryz.ntmps3
 go_wp2_with fail
 refine K1.out.mono ?_
 rintro e w1 ⟨rfl,hb1⟩
 have K2:=at5 w1 _ _ _ _ (HX.out.below hb1) HE.out
 rw [HSx.out] at K2
 have K2:=hide K2
 have HB1:=hide hb1
 clear hb1 K1
 go_wp2_with fail
 refine K2.out.mono ?_
 rintro e w2 ⟨rfl,hb2⟩
 have HB2:=hide (HB1.out.trans (hb2.mono HB1.out.size))
 clear hb2 K2 HB1
 by_cases hlong:1500<sx
 ·have hl' : decide (1500<sx)=true:=by simpa using hlong
  go_wp2
  refine bodyPost_ret (v:=_) (by simp [results,Tryz.results3,go_sem];try rfl) rfl ⟨rfl,HB2.out⟩
 have hl' : decide (1500<sx)=false:=by simpa using hlong
 by_cases h0:mx=0
 ·have h0' : ((mx:Int) == 0)=true:=by simp;omega
  clear HMX
  go_wp2
  refine bodyPost_ret (v:=_) (by simp [results,Tryz.results3,go_sem];try rfl) rfl ⟨rfl,HB2.out⟩
 have h0' : ((mx:Int) == 0)=false:=by simp;omega
 by_cases h17:17<mx
 ·have h17' : decide ((17:Int)<(mx:Int))=true:=by simp;omega
  clear HMX
  go_wp2
  refine bodyPost_ret (v:=_) (by simp [results,Tryz.results3,go_sem];try rfl) rfl ⟨rfl,HB2.out⟩
 have h17' : decide ((17:Int)<(mx:Int))=false:=by simp;omega
 have HLG:Hid (lenW xs≤1500):=(show lenW xs≤1500 by
  have h1:=anb HE.out
  have h2:=HSx.out
  have h3:xs.length*(1+35184372088832)≤17*(1+35184372088832):=Nat.mul_le_mul_right _ (by have:=HMX.out;omega)
  rw [awk (by omega) (by omega)] at h2
  omega)
 clear hlong
 have HI:=hide ((HX.out.below HB2.out).isrow (L:=1500) HLG.out)
 obtain ⟨zs,d,hzs,hlz⟩:=axg (l:=xs.map WE.z) (by
  intro e
  have:=congrArg List.length e
  rw [List.length_map,←HMX.out] at this
  exact h0 (by simpa using this))
 rw [hzs] at HI hlz
 obtain ⟨n,hn⟩:∃ n,zs.length=n:=⟨_,rfl⟩
 have hmn:mx=n+1:=by rw [HMX.out,←List.length_map (f:=WE.z),hzs];simp [hn]
 have hn16:n≤16:=by omega
 have HMN:=hide hmn
 have HZN:=hide hn
 have K3:=hide (apw w2 _ _ 1500 HI.out (by decide) (by rw [List.length_append,hn];simp;omega))
 clear HE HMX HLG HSx hzs hlz hn HX hmn
 go_wp2_with fail
 refine K3.out.mono ?_
 rintro e w3 ⟨hb3,⟨hall,rfl⟩ | ⟨_,rfl⟩⟩
 rotate_left
 ·have HB3:=hide (HB2.out.trans (hb3.mono HB2.out.size))
  clear hb3
  go_wp2
  refine bodyPost_ret (v:=_) (by simp [results,Tryz.results3,go_sem];try rfl) rfl ⟨rfl,HB3.out⟩
 have HI3:=hide (HI.out.below hb3)
 have HB3:=hide (HB2.out.trans (hb3.mono HB2.out.size))
 have HALL:=hide hall
 clear hb3 hall K3 HI HB2
 have hw1:IntKind.i64.wrap ((mx:Int) - 1)=(n:Int):=by rw [IntKind.wrap_i64];have:=HMN.out;omega
 have K4:=hide (apz w3 n hn16)
 go_wp2_with fail
 refine K4.out.mono ?_
 rintro e w4 ⟨v4,rfl,hv4,hb4⟩
 obtain ⟨av4,cv4,rfl,_⟩:=id hv4
 have HV4:=hide hv4
 have HI4:=hide (HI3.out.below hb4)
 have HB4:=hide (HB3.out.trans (hb4.mono HB3.out.size))
 have K5:=hide (ajn w4 (HTB.out.below HB4.out) _ _ _ _ 1500 HI4.out (by decide) hv4 (alr hn16) (by rw [List.length_append,adw hn16,HZN.out];rfl))
 clear hb4 K4 hv4 HI3 HB3 hw1
 go_wp2_with fail
 refine K5.out.mono ?_
 rintro e w5 ⟨rfl,hb5⟩
 have HV5:=hide (HV4.out.below hb5)
 have HI5:=hide (HI4.out.below hb5)
 have HB5:=hide (HB4.out.trans (hb5.mono HB4.out.size))
 obtain ⟨s5,hs5⟩:∃ s,prn (zs ++ [d]) (nmv n)=s:=⟨_,rfl⟩
 rw [hs5]
 have HS5:=hide hs5
 clear hb5 K5 hs5 HV4 HI4 HB4
 by_cases hbig:4096<s5.size
 ·have hb' : decide ((4096:Int)<(s5.size:Int))=true:=by simp;omega
  go_wp2
  refine bodyPost_ret (v:=_) (by simp [results,Tryz.results3,go_sem];try rfl) rfl ⟨rfl,HB5.out⟩
 have hb' : decide ((4096:Int)<(s5.size:Int))=false:=by simp;omega
 have K6:=axf (d:=d) (zs:=zs) (HTB.out.below HB5.out) (by rw [HZN.out];exact hn16) (by rw [HZN.out];exact HV5.out) HALL.out (by rw [HZN.out,HS5.out];omega)
 rw [HZN.out,HS5.out] at K6
 have K6:=hide K6
 go_wp2_with fail
 refine K6.out.mono ?_
 rintro e w6 ⟨hb6,x6,rfl,ho6⟩
 obtain ⟨ao6,cap6,rfl,_⟩:=ho6.is.parts
 have HO6:=hide ho6
 have HI6:=hide (HI5.out.below hb6)
 have HB6:=hide (HB5.out.trans (hb6.mono HB5.out.size))
 clear hb6 K6 ho6 HI5 HB5 HV5 HS5 hb' hbig
 go_upto_region 12 with fail
 have hbP:=hAl w6 (.cells #[.int .i64 0,.int .i64 0,.int .i64 0,.int .i64 0] 32)
 have hnP:=heap_alloc_new w6 (.cells #[.int .i64 0,.int .i64 0,.int .i64 0,.int .i64 0] 32)
 generalize w6.alloc (.cells #[.int .i64 0,.int .i64 0,.int .i64 0,.int .i64 0] 32)=w7 at *
 have HO7:=hide (HO6.out.below hbP)
 have HI7:=hide (HI6.out.below hbP)
 have HB7:=hide (HB6.out.trans (hbP.mono HB6.out.size))
 have HP7:=hide hnP
 clear hbP hnP HO6 HI6 HB6
 go_wp2_with fail
 go_loopw [9,10] (fun ov iv wr=>∃ (k:Nat) (es:List QE),iv=.int .i64 k∧k≤mx∧Below w7.heap.size w7 wr∧RqO w7.heap.size wr ov es∧es.map QE.w=((zs ++ [d]).take k).map (fun z:Int=>(z:Rat))∧∀ e ∈ es,e.zs.length≤1502∧e.ys.length≤1502) (fun _ iv _=>mx - (intOf iv).toNat)
 case atStart=>exact ⟨0,[],rfl,Nat.zero_le _,Below.refl _ _,aw6 _ _,rfl,fun e he=>by cases he⟩
 case round =>
  obtain ⟨k,es,rfl,hk,hbw,ho,hs,hes⟩:=hrel
  obtain ⟨aov,capv,hov,_⟩:=Ce.own ho.own
  subst hov
  have HO:=hide ho
  have HS:=hide hs
  have HES:=hide hes
  have HW:=hide hbw
  by_cases hlt:k<mx
  ·have hlt' : (k:Int)<(mx:Int):=by omega
   obtain ⟨z,hz⟩:∃ z,(zs ++ [d])[k]? = some z:=⟨_,List.getElem?_eq_getElem (by have:=HMN.out;rw [List.length_append,HZN.out];simp;omega)⟩
   obtain ⟨bx,ox,ng,a,m,c,rfl,hlx,x0,x1,hxw⟩:=(HI7.out.below hbw).cell hz
   have hel:es.length≤1000000:=by
    have:=congrArg List.length hs
    simp only [List.length_map,List.length_take] at this
    omega
   have K1:=hide (ay4 wr z 1500 _ hxw (by decide))
   have HZ:=hide hz
   clear hbw ho hs hes hz hxw
   go_wp2_with fail
   refine K1.out.mono ?_
   rintro e w8 ⟨r8,ng8,z8,y8,rfl,⟨ao8,cap8,bo8,dap8,rfl,hw1,hw2⟩,hv1,hv2,hl1,hl2,hb8⟩
   have hA:=hAl w8 (.cells #[.bool ng8,.slice ao8 z8.length cap8,.slice bo8 y8.length dap8] 40)
   have hb8' := hb8.trans (hA.mono hb8.size)
   have hR2:=HO.out.below hb8'
   have hO2:=heap_alloc_new w8 (.cells #[.bool ng8,.slice ao8 z8.length cap8,.slice bo8 y8.length dap8] 40)
   have hS1:Ow w7.heap.size _ (.slice ao8 z8.length cap8) z8:=(hw1.mono HW.out.size).below hA
   have hS2:Ow w7.heap.size _ (.slice bo8 y8.length dap8) y8:=(hw2.mono HW.out.size).below hA
   have hsz:w7.heap.size≤(w8.alloc (.cells #[.bool ng8,.slice ao8 z8.length cap8,.slice bo8 y8.length dap8] 40)).heap.size:=Nat.le_trans HW.out.size hb8'.size
   have HQ:Hid (QE.w ⟨⟨ng8,ao8,z8.length,cap8,bo8,y8.length,dap8⟩,z8,y8⟩ = (z:Rat)):=(show Rat.divInt (sg ng8 (val z8)) (val y8)=(z:Rat) by rw [hv1,hv2];have h:=Rat.num_divInt_den (z:Rat);simpa using h)
   have HLL:=hide (And.intro hl1 hl2)
   clear x0 x1 hlx hv1 hv2 hl1 hl2 K1
   go_wp2_with (at_builtin;refine agu rfl (aw7 (i:=64) (j:=70) (x:=⟨ng8,ao8,z8.length,cap8,bo8,y8.length,dap8⟩) rfl rfl hR2 hO2 hS1 hS2 hel hsz) ?_)
   intro v9 w9 hR3 hb3
   obtain ⟨aov3,capv3,hov3,_⟩:=Ce.own hR3.own
   subst hov3
   have HR3:=hide hR3
   have HB3:=hide ((HW.out.trans (hb8'.mono HW.out.size)).trans hb3)
   clear hR3 hb3 hR2 hO2 hS1 hS2 hsz hA hb8 hb8' hw1 hw2
   go_wp2
   go_roundw
   case rel =>
    refine ⟨k+1,_,by go_num,by omega,HB3.out,HR3.out,?_,?_⟩
    ·rw [List.map_append,HS.out,List.take_add_one,HZ.out,List.map_append]
     simp [HQ.out]
    ·intro e he
     rcases List.mem_append.1 he with he | he
     ·exact HES.out e he
     ·obtain rfl:=List.mem_singleton.1 he
      exact ⟨by have:=HLL.out.1;show z8.length≤_;omega,by have:=HLL.out.2;show y8.length≤_;omega⟩
   case measure=>simp [intOf];omega
  ·have hlt' : decide ((k:Int)<(mx:Int))=false:=by simp;omega
   have hkn:k=mx:=by omega
   have HQ8:=(ho.rq.isq hes)
   rw [hs,List.take_of_length_le (by have:=HMN.out;rw [List.length_append,HZN.out];simp;omega)] at HQ8
   have hp80:pw 32<pw 80:=by decide +kernel
   have p1:(1:Int)<pw 80:=by decide +kernel
   have K8:=aje wr _ _ 1502 80 HQ8 (by decide) (by decide) (by decide) (by have:=HMN.out;rw [List.length_map,List.length_append,HZN.out];simp;omega) (fun j _=>by rw [←List.map_take,aiw];exact p1) (fun z hz=>by rw [aix] at hz;have:=HALL.out z hz;omega) (by simp)
   rw [adg] at K8
   have K8:=hide K8
   clear hbw ho hs hes HQ8 hp80 p1 HO HS HES
   go_wp2_with fail
   refine K8.out.mono ?_
   rintro e w8 ⟨hb8,⟨_,r8,rfl,ho8⟩ | ⟨⟨z9,hz9,hz9'⟩,_⟩⟩
   rotate_left
   ·exact absurd (arl HALL.out (by decide +kernel) z9 hz9) (Int.not_lt.2 hz9')
   obtain ⟨ao8,cap8,rfl,_⟩:=ho8.is.parts
   have hb78:=HW.out.trans (hb8.mono HW.out.size)
   have hp8:=(hb78.block _ (aaa HP7.out)).trans HP7.out
   obtain ⟨_,q0,q1,q2,q3,_⟩:=afe hp8
   have K9:=afk w8 _ _ 80 (HO7.out.below hb78).is (by decide)
   rw [axe,decide_eq_true (show red (zs ++ [d])≠[]∧red (zs ++ [d])=red (zs ++ [d]) from ⟨by simp [red],rfl⟩)] at K9
   have K9:=hide K9
   have HO8:=hide ho8.can
   have HB8:=hide hb78
   clear hb8 K8 ho8 hb78 hp8 HW
   go_wp2_with fail
   refine K9.out.mono ?_
   rintro e w9 ⟨rfl,hb9⟩
   have hb79:=HB8.out.trans (hb9.mono HB8.out.size)
   have K10:=hide (agt w9 _ _ _ 80 80 (HO7.out.below hb79).can (HO8.out.below hb9))
   have HB9:=hide hb79
   clear hb9 hb79 K9 HO8 HB8 q0 q1 q2 q3
   go_wp2_with fail
   refine K10.out.mono ?_
   rintro e w10 ⟨rfl,hb10⟩
   have hb710:=HB9.out.trans (hb10.mono HB9.out.size)
   have K11:=hide (afk w10 _ _ 1500 (HI7.out.below hb710) (by decide))
   have HB10:=hide hb710
   clear hb10 hb710 K10 HB9
   go_wp2_with fail
   refine K11.out.mono ?_
   rintro e w11 ⟨rfl,hb11⟩
   have hb711:=HB10.out.trans (hb11.mono HB10.out.size)
   have HF:=hide (HB7.out.trans (hb711.mono HB7.out.size))
   have HB11:=hide hb711
   by_cases hcan:(zs ++ [d])≠[]∧red (zs ++ [d])=zs ++ [d]
   ·rw [decide_eq_true hcan]
    have HC:=hide hcan.2
    have HO11:=HO7.out.below hb711
    rw [hcan.2] at HO11
    have HO11:=hide HO11.is
    have HI11:=hide (HI7.out.below hb711)
    clear hcan hb11 hb711 K11
    go_wp2_with fail
    go_loopw [13] (fun iv wr=>∃ (k:Nat),iv=.int .i64 k∧k≤mx∧Below w11.heap.size w11 wr) (fun iv _=>mx - (intOf iv).toNat)
    case atStart=>exact ⟨0,rfl,Nat.zero_le _,Below.refl _ _⟩
    case round =>
     obtain ⟨j,rfl,hj,hbw⟩:=hrel
     have HW:=hide hbw
     by_cases hlt2:j<mx
     ·have hlt2' : (j:Int)<(mx:Int):=by omega
      obtain ⟨z,hz⟩:∃ z,(zs ++ [d])[j]? = some z:=⟨_,List.getElem?_eq_getElem (by have:=HMN.out;rw [List.length_append,HZN.out];simp;omega)⟩
      obtain ⟨bx,ox,ng,a,m,c,rfl,hlx,x0,x1,hxw⟩:=(HI11.out.below hbw).cell hz
      obtain ⟨by',oy,ngy,ay,my,cy,rfl,hly,y0,y1,hyw⟩:=(HO11.out.below hbw).cell hz
      have HXW:=hide hxw
      have HYW:=hide hyw
      have hjl:(j:Int)<((red (zs ++ [d])).length:Int):=by
       have:=HMN.out
       simp only [red,List.length_map,List.length_append,HZN.out]
       simp
       omega
      clear hbw hxw hyw hz
      go_upto_region 24 with fail
      go_cut [116] (fun cv wx=>cv=.bool false∧Below wr.heap.size wr wx)
      case first =>
       go_region_law (first | (refine aau rfl 15 #[.tmp 110,.tmp 114] #[38,38] rfl ali #[.agg #[.bool ng,.slice a m c],.agg #[.bool ngy,.slice ay my cy]] (by simp [Act.eval]) (ay6 (IsW.ru HXW.out (Ru.of_below (show Below wr.heap.size wr _ by (repeat' first|with_reducible(first|exact Below.refl _ _|assumption|refine gdrewN ?_ _|refine Below.alloc ?_ ?_ _|refine Below.drew ?_|refine Below.setCell ?_ ?_ _)|go_size)))) (IsW.ru HYW.out (Ru.of_below (show Below wr.heap.size wr _ by (repeat' first|with_reducible(first|exact Below.refl _ _|assumption|refine gdrewN ?_ _|refine Below.alloc ?_ ?_ _|refine Below.drew ?_|refine Below.setCell ?_ ?_ _)|go_size)))) (by omega) (by omega)) ?_;rintro e w12 ⟨rfl,hb12⟩;have HB12:=hide ((show Below wr.heap.size wr _ by (repeat' first|with_reducible(first|exact Below.refl _ _|assumption|refine gdrewN ?_ _|refine Below.alloc ?_ ?_ _|refine Below.drew ?_|refine Below.setCell ?_ ?_ _)|go_size)).trans (hb12.mono (by simp)));clear hb12;refine ⟨_,rfl,?_⟩))
       all_goals (
        go_wp2_with fail
        go_meet
        exact ⟨rfl,HB12.out⟩)
      case rest =>
       obtain ⟨rfl,hb12⟩:=hcut
       have HB12:=hide (HW.out.trans (hb12.mono HW.out.size))
       clear hb12
       go_wp2
       go_roundw
       case rel=>exact ⟨j+1,by go_num,by omega,HB12.out⟩
       case measure=>simp [intOf];omega
     ·have hlt2' : decide ((j:Int)<(mx:Int))=false:=by simp;omega
      clear hbw
      go_wp2
      refine bodyPost_ret (v:=_) (by simp [results,Tryz.results3,go_sem];try rfl) rfl ⟨rfl,HF.out.trans (HW.out.mono HF.out.size)⟩
   ·rw [decide_eq_false hcan]
    clear hcan hb11 hb711 K11
    go_wp2
    refine bodyPost_ret (v:=_) (by simp [results,Tryz.results3,go_sem];try rfl) rfl ⟨rfl,HF.out⟩
end Lm
end Go.Proofs.YtdjgifcmhafppaaGreatDoor
namespace Go.Proofs.YtdjgifcmhafppaaGreatDoor
namespace affineBackLaw
open Go.ChangeShapes Go.WideShapes Go.ChangeAt Go.RowKit
open Go.ChangeMaps (open_string shut_string)
theorem own:ownKnob Tryz.prog.godebug=none:=by kernel_rfl
theorem laidOut:laidOutB Tryz.prog=true:=by kernel_rfl
noncomputable def laidWorld (os:Os):World :=
 let w0:=World.holding Tryz.prog os ⟨#[],#[],[]⟩
 let put (h:Array Obj) (g:Nat) (cs:Array Value):Array Obj:=h.modify g fun
  | .cells _ t frozen=>.cells cs t frozen
  | o=>o
 let h1:=put w0.heap (Tryz.lays197_ren.g 3) (Lib.firstTab.map fun z=>Value.int .u8 z).toArray
 let h2:=put h1 (Tryz.lays197_ren.g 4) ((List.range 16).flatMap fun i=>[Value.int .u8 (Lib.accLo i),Value.int .u8 (Lib.accHi i)]).toArray
 { w0 with heap:=h2 }
theorem laid_met (os:Os):laidMet Tryz.prog Rows.affineBackRow.laid ((laidWorld os).forCall (fun _ _=>0) ⟨#[],#[.slice none 0 0],[]⟩).memory :=
 laidMet_of_run' 8 (by kernel_rfl) (by kernel_rfl)
theorem tabs {W:World} (h:laidMet Tryz.prog Rows.affineBackRow.laid W):Lm.Tabs W :=
 utf8Tabs_of_reads (ρ:=Tryz.lays197_ren) { Tryz.lays197 with } ⟨by kernel_rfl,by kernel_rfl,by kernel_rfl,by kernel_rfl,by kernel_rfl,by kernel_rfl,by kernel_rfl⟩
  (Lib.laidMet.reads h (show ("unicode/utf8.first", Lib.firstData) ∈ Rows.affineBackRow.laid from by
   rw [show Lib.firstData=Rows.laid_unicode_utf8_first from by kernel_rfl]
   exact .tail _ (.head _)))
  (Lib.laidMet.reads h (show ("unicode/utf8.acceptRanges", Lib.acceptData) ∈ Rows.affineBackRow.laid from by
   rw [show Lib.acceptData=Rows.laid_unicode_utf8_acceptRanges from by kernel_rfl]
   exact .head _))
theorem reads (os:Os) {H:Type} (enc:TypeId × Value→H):∃ places,DataW.whole enc Tryz.prog ((laidWorld os).forCall (fun _ _=>0) ⟨#[],#[.slice none 0 0],[]⟩).memory Tryz.f3.params.toList Rows.affineBackSpec.vars false (#[.slice none 0 0]:Array Value).toList 8=some ([.nil],[],places) :=
 ⟨[],by kernel_rfl⟩
set_option linter.unusedVariables false in
set_option maxRecDepth 100000 in
theorem lifted (os:Os) (started:os.Started) (H:Type) (enc:TypeId × Value→H) (F:Stop.Interp) :
  ReturnsInHanded {} Tryz.checked os 3 .any ((OpenSpec.ofChange Rows.affineBackSpec).preRow enc Tryz.prog Tryz.f3 Rows.affineBackRow.domain false Rows.affineBackRow.laid) (((OpenSpec.ofChange Rows.affineBackSpec).at F).post enc Tryz.prog Tryz.f3 false true false false):=by
 obtain ⟨places,hx⟩:=reads os enc
 refine returnsInHanded_of_row (C:=Tryz.checked) (s:=(OpenSpec.ofChange Rows.affineBackSpec)) own started (by kernel_rfl) Tryz.func3
  (witness_row_at (enc:=enc) (C:=Tryz.checked) false (laidWorld os) #[.slice none 0 0] rfl (by kernel_rfl) (by kernel_rfl) (by kernel_rfl)
   (OpenSpec.preRow_of_cond 8 hx (by kernel_rfl) (fun k hk=>by cases hk) (by kernel_rfl) (laid_met os))) ?_
 intro W base args ds gs before hval0 hW hcnd0 hcond hsz0 hL hj2 hj3
 have hTabs:Lm.Tabs W:=tabs hL
 have hval:∀ (j:Nat) t v,Tryz.f3.params[j]? = some t→args[j]? = some v→Value.okWide Tryz.prog W .any base t v:=hval0
 have hW' := hW
 obtain ⟨p,q,hA0,hV,rfl,hfz,hnd⟩:=hW
 have hA:DataW.TrodAll enc Tryz.prog W 0 (fun _=>true) true Tryz.f3.params.toList args.toList ds p:=hA0
 have hsz:(DataW.weightsEach Tryz.prog (Tryz.f3.params.toList ++ Rows.affineBackSpec.plain.varTypes Tryz.prog) (ds ++ gs)).all (·≤reachBytes)=true:=hsz0
 rw [Tryz.params3] at hA hval hsz
 obtain ⟨v0,vs0,d0,ds0,p0,q0,hargs,rfl,rfl,h0,r0⟩:=trodAll_cons hA
 obtain ⟨rfl,rfl,rfl⟩:=trodAll_nil r0
 obtain rfl:args = #[v0]:=by cases args;simp_all
 obtain ⟨rfl,rfl⟩:=trodVars_none hV
 obtain ⟨a0,len0,cap0,rfl⟩:=okWide_slice Tryz.underlying22 (hval 0 22 v0 rfl rfl)
 have k0:=h0
 have lt0:∀ x ∈ p0,x.block<W.heap.size:=by obtain ⟨m,hm⟩:=k0;exact DataW.trod_lt m _ _ _ hm
 obtain ⟨z0,w0,b0⟩:∃ es,Lm.Rw W (.slice a0 len0 cap0) es∧∀ e ∈ es,e.m≤35184372088832:=by
  obtain ⟨fuel,hf⟩:=h0
  refine Lm.aok (x:=(d0,p0)) (by simpa [Value.cells] using hf) (fun k hk=>?_)
  have:=List.all_eq_true.1 hsz k (DataW.weights_mem_each (j:=0) (t:=22) (d:=d0) rfl rfl k hk)
  simpa using this
 clear hA0 hval0
 refine (Lm.aso W hTabs a0 len0 cap0 z0 w0 b0).mono fun e W' ⟨he,bel⟩=>?_
 subst he
 exact ⟨_,rfl,_,_,_,[],_,[],hW',trodAll_mk1 (shut_bool Tryz.underlying4 _),(trodAll_cons_mk (Below.trod laidOut (by kernel_rfl) (of_decide_eq_true (by kernel_rfl)) k0 bel lt0) trodAll_mk0),rfl,bel.frame _,fun h=>by cases h⟩
theorem said:Rows.AffineBackSaid :=
 OpenClaim.holds_of_cond 3 Tryz.f3 rfl rfl rfl rfl rfl rfl rfl ⟨rfl,rfl,rfl,rfl,rfl⟩ rfl rfl rfl rfl rfl (by kernel_rfl) Tryz.func3 (by kernel_rfl)
  (of_decide_eq_true (by kernel_rfl)) (by unfold Func.isWrapper;first | (rw [if_pos (by decide +kernel)];kernel_rfl) | (rw [if_neg (by decide +kernel)];exact ⟨rfl,rfl⟩))
  (fun os started H enc _ F=>by rw [OpenClaim.pre_eq_preRow];exact lifted os started H enc F)
theorem plain (f : FuncId) (fn : Func) (hf : Tryz.pinned.checked.prog.funcNamed "rafter/rafterlaw05.AffineBack" = some f) (hfn : Tryz.pinned.checked.prog.funcs[f]? = some fn) :
  false=Tryz.pinned.checked.prog.looks []∧∀ (j:Nat) t,fn.params[j]? = some t→Tryz.pinned.checked.prog.wantsStandIn t=false:=by
 obtain rfl : f = 3 := Option.some.inj ((show Tryz.prog.funcNamed "rafter/rafterlaw05.AffineBack" = some 3 by kernel_rfl).symm.trans hf) |>.symm
 obtain rfl:fn=Tryz.f3:=(Option.some.inj (Tryz.func3.symm.trans hfn)).symm
 refine ⟨by kernel_rfl,fun j t ht=>?_⟩
 rw [Tryz.params3] at ht
 have hm:=Array.mem_of_getElem? ht
 simp at hm
 subst hm
 exact (show Tryz.prog.wantsStandIn 22=false by kernel_rfl)
theorem card:Rows.AffineBackCardSaid :=
 Claim7.holds_tied_plain_at .later [] _ _ _ _ said (fun _ h=>by cases h) (by kernel_rfl) (fun _ h=>by cases h) affineBack_row_tie rfl ⟨rfl,rfl⟩ (by kernel_rfl) rfl plain (by kernel_rfl)
end affineBackLaw
theorem affineBack_card:Rows.AffineBackCardSaid:=affineBackLaw.card
#print axioms affineBack_card
end Go.Proofs.YtdjgifcmhafppaaGreatDoor
