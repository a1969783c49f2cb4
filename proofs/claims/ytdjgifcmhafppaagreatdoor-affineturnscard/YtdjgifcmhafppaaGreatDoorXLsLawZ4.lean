/-
  What the text behind the last one leans on, part 4.
-/
import Derived.Deep.DeepCutAuto
import Derived.Test.YtdjgifcmhafppaaGreatDoorXLsLawZ3
namespace Go.Proofs.YtdjgifcmhafppaaGreatDoor
namespace Lm
open Go Go.RowKit
set_option maxRecDepth 20000 in
set_option maxHeartbeats 2000000 in
theorem acz (w:World) (hT:Tabs w) (q b:Nat) (tv uv:Value) (l:List Tk) (vs:List ByteArray) (i:Nat) (t:Tk) (h:Rea w q b tv uv l vs i) (ht:l[i]? = some t) :
  Calls Tryz.prog 108 #[.pointer (some ⟨q,0,none⟩)] w fun e w'=>∃ v,e=.returned v∧OutW (zOf t.text) 6000 v w'∧Below w.heap.size w w' := by
 have hb0:Below w.heap.size w (w.alloc (.cells #[.bool false,.slice none 0 0] 38)):=hAl _ _
 have K:=hide (aa5 _ q b tv uv l vs i t (h.below hb0) ht)
 have HT:=hide hT
 clear h ht hT
 unfold Tk.av at K
 have hf1:∀ W,(Instr.field 64 (.agg #[.int .i64 t.kind,.string t.text,.int .i64 t.pl.b,.int .i64 t.pl.g,.int .i64 t.pl.l,.int .i64 t.pl.c]) 1).run Tryz.prog W=.ok (.string t.text) W:=fun W=>aoq _ _ _ _ _ _ W
 go_enter Tryz.func108,Tryz.ntmps108
 go_wp2_with fail
 refine K.out.mono ?_
 rintro r w1 ⟨rfl,hb⟩
 have HB:=hide (hb0.trans (hb.mono hb0.size))
 have hf:w1.heap[w.heap.size]? = some (.cells #[.bool false,.slice none 0 0] 38 (0,0)):=(hb.block _ (by simp)).trans (heap_alloc_new w _)
 have HF:=hide hf
 clear hb K hb0 hf
 go_wp2_with fail
 refine (auc w1 t.text (HT.out.below HB.out)).mono ?_
 rintro r w2 ⟨v,rfl,⟨x,y,rfl,ho,rfl⟩,hb2⟩
 obtain ⟨ng,ao,cap,rs,rfl,ho'⟩:=id ho
 have HO:=hide ho
 have HB2:=hide (HB.out.trans (hb2.mono HB.out.size))
 have hf:=(hb2.block _ (aaa HF.out)).trans HF.out
 have HF2:=hide hf
 generalize hfz:w.heap.size=f at *
 obtain ⟨hfl,c0,c1,fr0,fr1⟩:f<w2.heap.size∧w2.cell? ⟨f,0,none⟩ = some (.bool false)∧w2.cell? ⟨f,1,none⟩ = some (.slice none 0 0)∧w2.frozen? ⟨f,0,none⟩ = false∧w2.frozen? ⟨f,1,none⟩ = false:=⟨aaa hf,by rw [cell_of_row _ _ _ _ _ (0,0) hf];rfl,by rw [cell_of_row _ _ _ _ _ (0,0) hf];rfl,frozen_of_row _ _ _ _ _ hf,frozen_of_row _ _ _ _ _ hf⟩
 clear ho ho' hb2 HF hf
 go_wp2
 refine bodyPost_ret (v:=.agg #[.bool ng,.slice ao rs.length cap]) (acv (g:=f) rfl rfl (lvw2 (aav (ab6 HF2.out _ _)))) rfl ⟨_,rfl,HO.out.ru ((aci HF2.out _ _).trans (Ru.of_below (hAl _ _))),?_⟩
 rw [hfz]
 have HBx:=HB2.out
 (repeat' first|with_reducible(first|exact Below.refl _ _|assumption|refine gdrewN ?_ _|refine Below.alloc ?_ ?_ _|refine Below.drew ?_|refine Below.setCell ?_ ?_ _)|go_size)
def sMinus:ByteArray:=⟨#[45]⟩
def sPlus:ByteArray:=⟨#[43]⟩
def sOver:ByteArray:=⟨#[47]⟩
def sTimes:ByteArray:=⟨#[42]⟩
def sEq:ByteArray:=⟨#[61]⟩
def tpm (t:Tk):Bool:=tsg t sMinus || tsg t sPlus
set_option maxRecDepth 20000 in
set_option maxHeartbeats 2000000 in
theorem ae1 (w:World) (q b:Nat) (tv uv:Value) (l:List Tk) (vs:List ByteArray) (i:Nat) (t:Tk) (h:Rea w q b tv uv l vs i) (ht:l[i]? = some t) (hj:t.kind=3→i+1<l.length) (hl:l.length≤100000) :
  Calls Tryz.prog 75 #[.pointer (some ⟨q,0,none⟩)] w fun e w'=>e=.returned (.tuple #[.bool (tsg t sMinus),.bool (tpm t)])∧Rea w' q b tv uv l vs (if tpm t then i+1 else i)∧Rc q q w w' := by
 have K:=hide (abn w q b tv uv l vs i t h ht sMinus hj hl)
 have HT:=hide ht
 have HJ:=hide (And.intro hj hl)
 clear h ht hj hl
 cases hm:tsg t sMinus with
 | true =>
  have e1:tpm t=true:=by rw [tpm,hm];rfl
  rw [hm] at K
  rw [e1]
  clear e1 hm
  unfold sMinus at K
  go_enter Tryz.func75,Tryz.ntmps75
  go_wp2_with fail
  refine K.out.mono ?_
  rintro r w1 ⟨rfl,h1,h2⟩
  have H1:=hide h1
  have H2:=hide h2
  clear h1 h2 K
  go_wp2
  refine bodyPost_ret (v:=_) (by simp [results,Tryz.results75,go_sem];try rfl) rfl ⟨rfl,H1.out,H2.out⟩
 | false =>
  have e1:tpm t=tsg t sPlus:=by rw [tpm,hm];rfl
  rw [hm] at K
  rw [e1]
  clear e1 hm
  unfold sMinus at K
  obtain ⟨bp,hbp⟩:∃ bp,tsg t sPlus=bp:=⟨_,rfl⟩
  obtain ⟨j,hjj⟩:∃ j,(if bp=true then i+1 else i)=j:=⟨_,rfl⟩
  rw [hbp,hjj]
  have HBP:=hide hbp
  have HJJ:=hide hjj
  clear hbp hjj
  go_enter Tryz.func75,Tryz.ntmps75
  go_wp2_with fail
  refine K.out.mono ?_
  rintro r w1 ⟨rfl,h1,h2⟩
  have K2:=hide (abn w1 q b tv uv l vs i t h1 HT.out sPlus HJ.out.1 HJ.out.2)
  have H2:=hide h2
  clear h1 h2 K
  rw [HBP.out,HJJ.out] at K2
  unfold sPlus at K2
  go_wp2_with fail
  refine K2.out.mono ?_
  rintro r w2 ⟨rfl,h1,h2⟩
  have H1:=hide h1
  have H3:=hide (H2.out.trans h2)
  clear h1 h2 K2
  go_wp2
  refine bodyPost_ret (v:=_) (by simp [results,Tryz.results75,go_sem];try rfl) rfl ⟨rfl,H1.out,H3.out⟩
inductive CoefR (l:List Tk) (i:Nat):Bool→Nat→Rat→Prop
 | plain (t t1:Tk) (h:l[i]? = some t) (h1:l[i+1]? = some t1) (hs:tsg t1 sOver=false):CoefR l i true (i+1) (zOf t.text:Int)
 | over (t t1 t2:Tk) (h:l[i]? = some t) (h1:l[i+1]? = some t1) (hs:tsg t1 sOver=true) (h2:l[i+2]? = some t2) (hz:zOf t2.text≠0):CoefR l i true (i+3) (Rat.divInt (zOf t.text) (zOf t2.text))
 | bad (t t1 t2:Tk) (h:l[i]? = some t) (h1:l[i+1]? = some t1) (hs:tsg t1 sOver=true) (h2:l[i+2]? = some t2) (hz:zOf t2.text=0):CoefR l i false (i+2) 0
structure Wf (l:List Tk):Prop where
 len:l.length≤100000
 stop:∀ (i:Nat) (t:Tk),l[i]? = some t→i+1=l.length→t.kind=0∧t.text=⟨#[]⟩
theorem Wf.more {l:List Tk} (h:Wf l) {i:Nat} {t:Tk} (ht:l[i]? = some t) (hk:t.kind≠0):i+1<l.length:=by
 have:=(List.getElem?_eq_some_iff.1 ht).1
 by_cases he:i+1=l.length
 ·exact absurd (h.stop i t ht he).1 hk
 ·omega
theorem agn {w:World} {q b:Nat} {tv uv:Value} {l:List Tk} {vs:List ByteArray} {i:Nat} {u:Value} (h:Rea w q b tv uv l vs i):Ru w (w.setCell ⟨q,1,none⟩ u):=by
 refine Ru.of_one h.blk (by decide) ?_ (by simp [World.setCell]) (fun k _ hn=>heap_setCell_other w ⟨q,1,none⟩ k _ hn)
 obtain ⟨ao,ct,rfl,_⟩:=h.tks.parts
 obtain ⟨ao',ct',rfl,_⟩:=h.vrs
 intro k z
 match k with
 | 0=>simp
 | 1=>simp
 | 2=>simp
 | k+3=>simp
theorem Rea.fill3 {w w3:World} {q b:Nat} {tv uv:Value} {l:List Tk} {vs:List ByteArray} {i j f:Nat} {ng:Bool} {a d:Option Addr} {n c k e:Nat} (H:Rea w q b tv uv l vs i) (HR:Rea w3 q b tv uv l vs j) (HC:Rc q q w w3) (hf:w3.heap[f]? = some (.cells #[.bool ng,.slice a n c,.slice d k e] 40 (0,0))) (hfw:w.heap.size≤f) (u v x:Value):Rea (((w3.setCell ⟨f,0,none⟩ u).setCell ⟨f,1,none⟩ v).setCell ⟨f,2,none⟩ x) q b tv uv l vs j∧Rc q q w (((w3.setCell ⟨f,0,none⟩ u).setCell ⟨f,1,none⟩ v).setCell ⟨f,2,none⟩ x):=by
 have hq:=aaa H.blk
 have ho:∀ k,k≠f→(((w3.setCell ⟨f,0,none⟩ u).setCell ⟨f,1,none⟩ v).setCell ⟨f,2,none⟩ x).heap[k]? = w3.heap[k]? := fun k hn=>by rw [heap_setCell_other _ ⟨f,2,none⟩ k _ hn,heap_setCell_other _ ⟨f,1,none⟩ k _ hn,heap_setCell_other _ ⟨f,0,none⟩ k _ hn]
 have hrc:Rc q q w (((w3.setCell ⟨f,0,none⟩ u).setCell ⟨f,1,none⟩ v).setCell ⟨f,2,none⟩ x):=⟨HC.os,HC.tape,HC.output,by simpa [World.setCell] using HC.size,fun k hk h1 h2=>(ho k (by omega)).trans (HC.other k hk h1 h2),HC.ru.trans (aek hf u v x)⟩
 exact ⟨H.rc hrc.wide ((ho q (by omega)).trans HR.blk) HR.lt,hrc⟩
theorem Tabs.rcs {w w' : World} {q b:Nat} (hT:Tabs w) (hr:Rc q b w w') (hq:∀ z,w.cell? ⟨q,0,none⟩≠some (.int .u8 z)) (hb:∀ z,w.cell? ⟨b,0,none⟩≠some (.int .u8 z)):Tabs w' := by
 obtain ⟨h1,h2⟩:=hT
 have keep:∀ g c z,(∃ z0,w.cell? ⟨g,0,none⟩ = some (.int .u8 z0))→w.cell? ⟨g,c,none⟩ = some (.int .u8 z)→w'.cell? ⟨g,c,none⟩ = some (.int .u8 z):=by
  rintro g c z ⟨z0,e0⟩ e
  have n1:g≠q:=by rintro rfl;exact hq _ e0
  have n2:g≠b:=by rintro rfl;exact hb _ e0
  rw [World.cell?_of_block (w:=w) (hr.other g (aaq e) n1 n2)]
  exact e
 refine ⟨fun c hc=>keep _ _ _ ⟨_,h1 0 (by decide)⟩ (h1 c hc),fun i hi=>⟨keep _ _ _ ⟨_,(h2 0 (by decide)).1⟩ (h2 i hi).1,keep _ _ _ ⟨_,(h2 0 (by decide)).1⟩ (h2 i hi).2⟩⟩
theorem Rea.no8 {w:World} {q b:Nat} {tv uv:Value} {l:List Tk} {vs:List ByteArray} {i:Nat} (h:Rea w q b tv uv l vs i) (z:Int):w.cell? ⟨q,0,none⟩≠some (.int .u8 z):=by
 rw [cell_of_row _ _ _ _ _ (0,0) h.blk]
 obtain ⟨ao,ct,rfl,_⟩:=h.tks.parts
 simp
theorem Tabs.rc {w w' : World} {q b:Nat} {tv uv:Value} {l:List Tk} {vs:List ByteArray} {i:Nat} (hT:Tabs w) (h:Rea w q b tv uv l vs i) (hr:Rc q q w w'):Tabs w' := hT.rcs hr h.no8 h.no8
set_option maxRecDepth 20000 in
set_option maxHeartbeats 4000000 in
theorem amd (w:World) (hT:Tabs w) (q b:Nat) (tv uv:Value) (l:List Tk) (hW:Wf l) (vs:List ByteArray) (i:Nat) (h:Rea w q b tv uv l vs i) (t t1:Tk) (ht:l[i]? = some t) (ht1:l[i+1]? = some t1) (hs:tsg t1 sOver=false) (N:Nat) (hz:Fit (zOf t.text:Int) N) :
  Calls Tryz.prog 97 #[.pointer (some ⟨q,0,none⟩)] w fun e w'=>∃ v,e=.returned (.tuple #[v,.bool true])∧OutQr (zOf t.text:Int) N v w'∧Rea w' q b tv uv l vs (i+1)∧Rc q q w w' := by
 have hj:i+1<l.length:=(List.getElem?_eq_some_iff.1 ht1).1
 have HJ:=hide hj
 have hi:i≤100000:=by have:=hW.len;omega
 have hq:=aaa h.blk
 have hb0:Below w.heap.size w (w.alloc (.cells #[.bool false,.slice none 0 0,.slice none 0 0] 40)):=hAl _ _
 have K:=hide (acz _ (hT.below hb0) q b tv uv l vs i t (h.below hb0) ht)
 have H:=hide h
 have HT1:=hide ht1
 have HS:=hide hs
 have HW:=hide hW
 have HZ:=hide hz
 clear h ht ht1 hs hT hW hj hz
 go_enter Tryz.func97,Tryz.ntmps97
 go_wp2_with fail
 refine K.out.mono ?_
 rintro r w1 ⟨v,rfl,ho,hb1⟩
 obtain ⟨ng,ao,cap,rs,rfl,_⟩:=id ho
 have HO:=hide ho
 have HB:=hide (hb0.trans (hb1.mono hb0.size))
 have hf:w1.heap[w.heap.size]? = some (.cells #[.bool false,.slice none 0 0,.slice none 0 0] 40 (0,0)):=(hb1.block _ (by simp)).trans (heap_alloc_new w _)
 have HF:=hide hf
 have hqb:=(HB.out.block q hq).trans H.out.blk
 have k1:w1.cell? ⟨q,1,none⟩ = some (.int .i64 i):=by rw [cell_of_row _ _ _ _ _ (0,0) hqb];rfl
 have kf:w1.frozen? ⟨q,1,none⟩ = false:=frozen_of_row w1 q 1 _ _ hqb
 have hq1:q<w1.heap.size:=aaa hqb
 clear ho hb1 K hb0 hf hqb
 go_wp2_with fail
 obtain ⟨n1,n2⟩:=H.out.next (.of_below HB.out) (HB.out.block q hq) HJ.out
 have hmm:(w1.setCell ⟨q,1,none⟩ (.int .i64 ((i:Int)+1))).heap.size=w1.heap.size:=by simp [World.setCell]
 have hf2:((w1.setCell ⟨q,1,none⟩ (.int .i64 ((i:Int)+1))).alloc (.cells #[.bool ng,.slice ao rs.length cap] 38)).heap[w.heap.size]? = some (.cells #[.bool false,.slice none 0 0,.slice none 0 0] 40 (0,0)):=aav ((heap_setCell_other w1 ⟨q,1,none⟩ _ _ (by show w.heap.size≠q;omega)).trans HF.out)
 have hm2:((w1.setCell ⟨q,1,none⟩ (.int .i64 ((i:Int)+1))).alloc (.cells #[.bool ng,.slice ao rs.length cap] 38)).heap[w1.heap.size]? = some (.cells #[.bool ng,.slice ao rs.length cap] 38 (0,0)):=by rw [←hmm];exact heap_alloc_new _ _
 have hu2:Ru w1 ((w1.setCell ⟨q,1,none⟩ (.int .i64 ((i:Int)+1))).alloc (.cells #[.bool ng,.slice ao rs.length cap] 38)):=(agn (H.out.below HB.out)).trans (Ru.of_below (hAl _ _))
 have K:=abn _ q b tv uv l vs (i+1) t1 (n1.below (hAl _ (.cells #[.bool ng,.slice ao rs.length cap] 38))) HT1.out sOver (fun h3=>HW.out.more HT1.out (by rw [h3];decide)) HW.out.len
 rw [HS.out] at K
 refine K.mono ?_
 rintro r w2 ⟨rfl,hR2,hC2⟩
 have HR2:=hide hR2
 have HC2:=hide ((n2.trans (.of_below (hAl _ _))).trans hC2)
 have HO2:=hide (HO.out.ru (hu2.trans hC2.ru))
 have hf3:=(hC2.other _ (aaa hf2) (by omega) (by omega)).trans hf2
 have hm3:=(hC2.other _ (aaa hm2) (by omega) (by omega)).trans hm2
 have HF3:=hide hf3
 obtain ⟨_,m0,m1,_,_⟩:=aah hm3
 have HM3:=hide hm3
 clear hR2 hC2 hf2 hm2 hu2 K n1 n2 hmm hm3 hf3 k1 kf
 go_wp2_with fail
 refine (adl w2 _ _ _ HO2.out.is (by omega)).mono ?_
 rintro r w3 ⟨v,rfl,ho3,hb3⟩
 replace ho3:=ho3.fit HZ.out
 obtain ⟨ng1,ao1,cap1,rs1,bo1,dap1,ss1,rfl,_⟩:=id ho3
 have HO3:=hide ho3
 have hf4:=(hb3.block _ (aaa HF3.out)).trans HF3.out
 have HF4:=hide hf4
 obtain ⟨hfl,c0,c1,c2,fr0,fr1,fr2⟩:=aac hf4
 have HR4:=hide (HR2.out.below hb3)
 have HC4:=hide (HC2.out.trans (.of_below hb3))
 clear ho3 hb3 hf4
 go_wp2
 obtain ⟨x1,x2⟩:=H.out.fill3 HR4.out HC4.out HF4.out (Nat.le_refl _) (.bool ng1) (.slice ao1 rs1.length cap1) (.slice bo1 ss1.length dap1)
 exact bodyPost_ret (v:=.tuple #[.agg #[.bool ng1,.slice ao1 rs1.length cap1,.slice bo1 ss1.length dap1],.bool true]) (ad7 (g:=w.heap.size) rfl rfl (lvr3 (aex HF4.out _ _ _)) rfl) rfl ⟨_,rfl,HO3.out.ru (aek HF4.out _ _ _),x1,x2⟩
theorem ag0:Has Tryz.prog 108:=by unfold Has;kernel_rfl
theorem awb (w:World) (x y:Value) (z u:Int) (L M:Nat) (hx:IsW z L x w) (hy:IsW u M y w) (hL:L+M≤100000) (hu:u≠0) (N:Nat) (hf:Fit (Rat.divInt z u) N) :
  Calls Tryz.prog 109 #[x,y] w fun e w'=>Below w.heap.size w w'∧∃ v,e=.returned (.tuple #[v,.int .i64 0])∧OutQr (Rat.divInt z u) N v w' := by
 refine (aus w x y z u L M hx hy hL).mono ?_
 rintro e w' ⟨hb,⟨_,v,rfl,ho⟩ | ⟨h0,_⟩⟩
 ·exact ⟨hb,v,rfl,ho.fit hf⟩
 ·exact absurd h0 hu
theorem axy (w:World) (x y:Value) (z u:Int) (L M:Nat) (hx:IsW z L x w) (hy:IsW u M y w) (hL:L+M≤100000) (hu:u=0) :
  Calls Tryz.prog 109 #[x,y] w fun e w'=>Below w.heap.size w w'∧e=.returned (.tuple #[.agg #[.bool false,.slice none 0 0,.slice none 0 0],.int .i64 20]):=by
 refine (aus w x y z u L M hx hy hL).mono ?_
 rintro e w' ⟨hb,⟨h0,_⟩ | ⟨_,rfl⟩⟩
 ·exact absurd hu h0
 ·exact ⟨hb,rfl⟩
theorem awc:zOf ⟨#[]⟩ = 0:=by
 have h1:msplit ⟨#[]⟩ = (false,⟨#[]⟩):=by kernel_rfl
 have h2:¬ Dm.Fine ⟨#[]⟩:=by
  rintro ⟨h,_⟩
  exact absurd h (by decide)
 rw [zOf,h1,xOf,if_neg h2]
 rfl
def OutQr0 (v:Value):Prop:=v=.agg #[.bool false,.slice none 0 0,.slice none 0 0]
set_option maxRecDepth 20000 in
set_option maxHeartbeats 4000000 in
theorem aox (w:World) (hT:Tabs w) (q b:Nat) (tv uv:Value) (l:List Tk) (hW:Wf l) (vs:List ByteArray) (i:Nat) (h:Rea w q b tv uv l vs i) (t t1 t2:Tk) (ht:l[i]? = some t) (ht1:l[i+1]? = some t1) (hs:tsg t1 sOver=true) (ht2:l[i+2]? = some t2) (hnz:zOf t2.text≠0) (N:Nat) (hz:Fit (Rat.divInt (zOf t.text) (zOf t2.text)) N) :
  Calls Tryz.prog 97 #[.pointer (some ⟨q,0,none⟩)] w fun e w'=>∃ v,e=.returned (.tuple #[v,.bool true])∧OutQr (Rat.divInt (zOf t.text) (zOf t2.text)) N v w'∧Rea w' q b tv uv l vs (i+3)∧Rc q q w w' := by
 have HT2:=hide ht2
 have HTT:=hide hT
 have HNZ:=hide hnz
 have hj:i+1<l.length:=(List.getElem?_eq_some_iff.1 ht1).1
 have HJ:=hide hj
 have hj3:i+2+1<l.length:=by
  have h1:=(List.getElem?_eq_some_iff.1 ht2).1
  by_cases he:i+2+1=l.length
  ·have h2:=(hW.stop _ _ ht2 he).2
   rw [h2] at hnz
   exact absurd awc hnz
  ·omega
 have HJ3:=hide hj3
 clear hj3
 have hi:i≤100000:=by have:=hW.len;omega
 have hq:=aaa h.blk
 have hb0:Below w.heap.size w (w.alloc (.cells #[.bool false,.slice none 0 0,.slice none 0 0] 40)):=hAl _ _
 have K:=hide (acz _ (hT.below hb0) q b tv uv l vs i t (h.below hb0) ht)
 have H:=hide h
 have HT1:=hide ht1
 have HS:=hide hs
 have HW:=hide hW
 have HZ:=hide hz
 clear h ht ht1 ht2 hs hT hW hj hz hnz
 go_enter Tryz.func97,Tryz.ntmps97
 go_wp2_with fail
 refine K.out.mono ?_
 rintro r w1 ⟨v,rfl,ho,hb1⟩
 obtain ⟨ng,ao,cap,rs,rfl,_⟩:=id ho
 have HO:=hide ho
 have HB:=hide (hb0.trans (hb1.mono hb0.size))
 have hf:w1.heap[w.heap.size]? = some (.cells #[.bool false,.slice none 0 0,.slice none 0 0] 40 (0,0)):=(hb1.block _ (by simp)).trans (heap_alloc_new w _)
 have HF:=hide hf
 have hqb:=(HB.out.block q hq).trans H.out.blk
 have k1:w1.cell? ⟨q,1,none⟩ = some (.int .i64 i):=by rw [cell_of_row _ _ _ _ _ (0,0) hqb];rfl
 have kf:w1.frozen? ⟨q,1,none⟩ = false:=frozen_of_row w1 q 1 _ _ hqb
 have hq1:q<w1.heap.size:=aaa hqb
 clear ho hb1 K hb0 hf hqb
 go_wp2_with fail
 obtain ⟨n1,n2⟩:=H.out.next (.of_below HB.out) (HB.out.block q hq) HJ.out
 have hmm:(w1.setCell ⟨q,1,none⟩ (.int .i64 ((i:Int)+1))).heap.size=w1.heap.size:=by simp [World.setCell]
 have hf2:((w1.setCell ⟨q,1,none⟩ (.int .i64 ((i:Int)+1))).alloc (.cells #[.bool ng,.slice ao rs.length cap] 38)).heap[w.heap.size]? = some (.cells #[.bool false,.slice none 0 0,.slice none 0 0] 40 (0,0)):=aav ((heap_setCell_other w1 ⟨q,1,none⟩ _ _ (by show w.heap.size≠q;omega)).trans HF.out)
 have hm2:((w1.setCell ⟨q,1,none⟩ (.int .i64 ((i:Int)+1))).alloc (.cells #[.bool ng,.slice ao rs.length cap] 38)).heap[w1.heap.size]? = some (.cells #[.bool ng,.slice ao rs.length cap] 38 (0,0)):=by rw [←hmm];exact heap_alloc_new _ _
 have hu2:Ru w1 ((w1.setCell ⟨q,1,none⟩ (.int .i64 ((i:Int)+1))).alloc (.cells #[.bool ng,.slice ao rs.length cap] 38)):=(agn (H.out.below HB.out)).trans (Ru.of_below (hAl _ _))
 have K:=abn _ q b tv uv l vs (i+1) t1 (n1.below (hAl _ (.cells #[.bool ng,.slice ao rs.length cap] 38))) HT1.out sOver (fun h3=>HW.out.more HT1.out (by rw [h3];decide)) HW.out.len
 rw [HS.out] at K
 refine K.mono ?_
 rintro r w2 ⟨rfl,hR2,hC2⟩
 have HR2:=hide hR2
 have HC2:=hide ((n2.trans (.of_below (hAl _ _))).trans hC2)
 have HO2:=hide (HO.out.ru (hu2.trans hC2.ru))
 have hf3:=(hC2.other _ (aaa hf2) (by omega) (by omega)).trans hf2
 have hm3:=(hC2.other _ (aaa hm2) (by omega) (by omega)).trans hm2
 have HF3:=hide hf3
 obtain ⟨_,m0,m1,_,_⟩:=aah hm3
 have HM3:=hide hm3
 clear hR2 hC2 hf2 hm2 hu2 K n1 n2 hmm hm3 hf3 k1 kf
 rw [if_pos rfl] at HR2
 have HTw:=hide (HTT.out.rc H.out HC2.out)
 go_wp2_with fail
 go_cut [5,6] (fun pv ev wx=>∃ p ng4 ao4 m4 c4 bo4 k4 d4,pv=.pointer (some ⟨p,0,none⟩)∧ev=.int .i64 0∧wx.heap[p]? = some (.cells #[.bool ng4,.slice ao4 m4 c4,.slice bo4 k4 d4] 40 (0,0))∧OutQr (Rat.divInt (zOf t.text) (zOf t2.text)) N (.agg #[.bool ng4,.slice ao4 m4 c4,.slice bo4 k4 d4]) wx∧Below w2.heap.size w2 wx∧w2.heap.size≤p)
 case first =>
  go_region_law (first | (refine aam rfl 108 #[.tmp 23] #[57] rfl ag0 #[.pointer (some ⟨q,0,none⟩)] (by simp [Act.eval,Act.put]) (acz _ (HTw.out.below (show Below w2.heap.size w2 _ by (repeat' first|with_reducible(first|exact Below.refl _ _|assumption|refine gdrewN ?_ _|refine Below.alloc ?_ ?_ _|refine Below.drew ?_|refine Below.setCell ?_ ?_ _)|go_size))) q b tv uv l vs (i+2) t2 (HR2.out.below (show Below w2.heap.size w2 _ by (repeat' first|with_reducible(first|exact Below.refl _ _|assumption|refine gdrewN ?_ _|refine Below.alloc ?_ ?_ _|refine Below.drew ?_|refine Below.setCell ?_ ?_ _)|go_size))) HT2.out) ?_;rintro e w3 ⟨v,rfl,ho3,hb3⟩;obtain ⟨ng3,ao3,cap3,rs3,rfl,_⟩:=id ho3;have HO3:=hide ho3;have hb23:Below w2.heap.size w2 w3:=(show Below w2.heap.size w2 _ by (repeat' first|with_reducible(first|exact Below.refl _ _|assumption|refine gdrewN ?_ _|refine Below.alloc ?_ ?_ _|refine Below.drew ?_|refine Below.setCell ?_ ?_ _)|go_size)).trans (hb3.mono (by simp));have HB23:=hide hb23;have hm3:=(hb23.block _ (aaa HM3.out)).trans HM3.out;have hm3:=aah hm3;obtain ⟨_,m03,m13,_,_⟩:=hm3;first | (have hz3:w3.heap[w2.heap.size]? = some (.cells #[.bool false,.slice none 0 0,.slice none 0 0] 40 (0,0)):=(hb3.block _ (by simp)).trans (heap_alloc_new w2 _);have hz3' := aac hz3;have HZ3:=hide hz3;clear hz3;obtain ⟨_,z30,z31,z32,y30,y31,y32⟩:=hz3') | skip;clear ho3 hb3 hb23;refine ⟨_,rfl,?_⟩) | (refine aam rfl 109 #[.tmp 22,.tmp 24] #[38,38] rfl amt #[.agg #[.bool ng,.slice ao rs.length cap],.agg #[.bool ng3,.slice ao3 rs3.length cap3]] (by simp [Act.eval]) (awb _ _ _ _ _ 6000 6000 (HO2.out.ru (Ru.of_below (HB23.out.trans ((show Below w3.heap.size w3 _ by (repeat' first|with_reducible(first|exact Below.refl _ _|assumption|refine gdrewN ?_ _|refine Below.alloc ?_ ?_ _|refine Below.drew ?_|refine Below.setCell ?_ ?_ _)|go_size)).mono HB23.out.size)))).is (HO3.out.ru (Ru.of_below (show Below w3.heap.size w3 _ by (repeat' first|with_reducible(first|exact Below.refl _ _|assumption|refine gdrewN ?_ _|refine Below.alloc ?_ ?_ _|refine Below.drew ?_|refine Below.setCell ?_ ?_ _)|go_size)))).is (by omega) HNZ.out N HZ.out) ?_;rintro e w4 ⟨hb4,v,rfl,ho4⟩;obtain ⟨ng4,ao4,cap4,rs4,bo4,dap4,ss4,rfl,_⟩:=id ho4;have HO4:=hide ho4;clear ho4;have hb24:Below w2.heap.size w2 w4:=(show Below w2.heap.size w2 _ from (HB23.out.trans ((show Below w3.heap.size w3 _ by (repeat' first|with_reducible(first|exact Below.refl _ _|assumption|refine gdrewN ?_ _|refine Below.alloc ?_ ?_ _|refine Below.drew ?_|refine Below.setCell ?_ ?_ _)|go_size)).mono HB23.out.size))).trans (hb4.mono (by first | exact HB23.out.size | exact Nat.le_trans HB23.out.size (Nat.le_of_lt (by simp))));have HB24:=hide hb24;have hq4:=hb24.block q (aaa HR2.out.blk);have hq4:=hq4.trans HR2.out.blk;have q41:w4.cell? ⟨q,1,none⟩ = some (.int .i64 ((i+2:Nat):Int)):=(by rw [cell_of_row _ _ _ _ _ (0,0) hq4];rfl);have q4f:w4.frozen? ⟨q,1,none⟩ = false:=frozen_of_row w4 q 1 _ _ hq4;have hf4:=(hb24.block _ (aaa HF3.out)).trans HF3.out;have HF4:=hide hf4;have hf4:=aac hf4;obtain ⟨hfl,c0,c1,c2,fr0,fr1,fr2⟩:=hf4;first | (have hz4:=(hb4.block _ (aaa HZ3.out)).trans HZ3.out;have hz4' := aac hz4;have HZ4:=hide hz4;clear hz4;obtain ⟨_,z40,z41,z42,y40,y41,y42⟩:=hz4') | (have hz4:w4.heap[w3.heap.size]? = some (.cells #[.bool false,.slice none 0 0,.slice none 0 0] 40 (0,0)):=(hb4.block _ (by simp)).trans (heap_alloc_new w3 _);have hz4' := aac hz4;have HZ4:=hide hz4;clear hz4;obtain ⟨_,z40,z41,z42,y40,y41,y42⟩:=hz4') | skip;clear hb4 hb24 hq4;refine ⟨_,rfl,?_⟩))
  all_goals (
   go_wp2_with fail
   go_meet
   have hb24:=HB24.out
   have hb23:=HB23.out
   first
   | exact ⟨_,_,_,_,_,_,_,_,rfl,rfl,aex HZ4.out _ _ _,HO4.out.ru (aek HZ4.out _ _ _),((hb24.setCell (by first | exact Nat.le_refl _ | exact hb23.size) _).setCell (by first | exact Nat.le_refl _ | exact hb23.size) _).setCell (by first | exact Nat.le_refl _ | exact hb23.size) _,by first | exact Nat.le_refl _ | exact hb23.size⟩
   | exact ⟨_,_,_,_,_,_,_,_,rfl,rfl,heap_alloc_new w4 _,HO4.out.ru (Ru.of_below (hAl _ _)),hb24.alloc hb24.size _,hb24.size⟩)
 case rest =>
  obtain ⟨p,ng4,ao4,m4,c4,bo4,k4,d4,rfl,rfl,hp,ho4,hb,hpl⟩:=hcut
  have HO4:=hide ho4
  have hq2:=aaa HR2.out.blk
  have hq4:=(hb.block q hq2).trans HR2.out.blk
  have q41:wc.cell? ⟨q,1,none⟩ = some (.int .i64 ((i+2:Nat):Int)):=by rw [cell_of_row _ _ _ _ _ (0,0) hq4];rfl
  rw [show ((i+2:Nat):Int)=(i:Int)+2 from by omega] at q41
  have q4f:wc.frozen? ⟨q,1,none⟩ = false:=frozen_of_row wc q 1 _ _ hq4
  have hf4:=(hb.block _ (aaa HF3.out)).trans HF3.out
  have HF4:=hide hf4
  obtain ⟨hfl,c0,c1,c2,fr0,fr1,fr2⟩:=aac hf4
  obtain ⟨hpl2,p0,p1,p2,_,_,_⟩:=aac hp
  have HB4:=hide hb
  have hpq:p≠q:=by omega
  have hfp:=aaa HF3.out
  have hpf:p≠w.heap.size:=by omega
  clear ho4 hb hq4 hf4 hp m0 m1
  go_wp2
  obtain ⟨n1,n2⟩:=HR2.out.next (.of_below HB4.out) (HB4.out.block q hq2) HJ3.out
  rw [show ((i+2:Nat):Int)=(i:Int)+2 from by omega] at n1 n2
  have hfq:(wc.setCell ⟨q,1,none⟩ (.int .i64 ((i:Int)+2+1))).heap[w.heap.size]? = some (.cells #[.bool false,.slice none 0 0,.slice none 0 0] 40 (0,0)):=(heap_setCell_other wc ⟨q,1,none⟩ _ _ (by show w.heap.size≠q;omega)).trans HF4.out
  obtain ⟨x1,x2⟩:=H.out.fill3 n1 (HC2.out.trans n2) hfq (Nat.le_refl _) (.bool ng4) (.slice ao4 m4 c4) (.slice bo4 k4 d4)
  exact bodyPost_ret (v:=.tuple #[.agg #[.bool ng4,.slice ao4 m4 c4,.slice bo4 k4 d4],.bool true]) (ad7 (g:=w.heap.size) rfl rfl (lvr3 (aex hfq _ _ _)) rfl) rfl ⟨_,rfl,HO4.out.ru ((agn (HR2.out.below HB4.out)).trans (aek hfq _ _ _)),x1,x2⟩
set_option maxRecDepth 20000 in
set_option maxHeartbeats 4000000 in
theorem art (w:World) (hT:Tabs w) (q b:Nat) (tv uv:Value) (l:List Tk) (hW:Wf l) (vs:List ByteArray) (i:Nat) (h:Rea w q b tv uv l vs i) (t t1 t2:Tk) (ht:l[i]? = some t) (ht1:l[i+1]? = some t1) (hs:tsg t1 sOver=true) (ht2:l[i+2]? = some t2) (hnz:zOf t2.text=0) :
  Calls Tryz.prog 97 #[.pointer (some ⟨q,0,none⟩)] w fun e w'=>∃ v,e=.returned (.tuple #[v,.bool false])∧OutQr0 v∧Rea w' q b tv uv l vs (i+2)∧Rc q q w w' := by
 have HT2:=hide ht2
 have HTT:=hide hT
 have HNZ:=hide hnz
 have hj:i+1<l.length:=(List.getElem?_eq_some_iff.1 ht1).1
 have HJ:=hide hj
 have hi:i≤100000:=by have:=hW.len;omega
 have hq:=aaa h.blk
 have hb0:Below w.heap.size w (w.alloc (.cells #[.bool false,.slice none 0 0,.slice none 0 0] 40)):=hAl _ _
 have K:=hide (acz _ (hT.below hb0) q b tv uv l vs i t (h.below hb0) ht)
 have H:=hide h
 have HT1:=hide ht1
 have HS:=hide hs
 have HW:=hide hW
 clear h ht ht1 ht2 hs hT hW hj hnz
 go_enter Tryz.func97,Tryz.ntmps97
 go_wp2_with fail
 refine K.out.mono ?_
 rintro r w1 ⟨v,rfl,ho,hb1⟩
 obtain ⟨ng,ao,cap,rs,rfl,_⟩:=id ho
 have HO:=hide ho
 have HB:=hide (hb0.trans (hb1.mono hb0.size))
 have hf:w1.heap[w.heap.size]? = some (.cells #[.bool false,.slice none 0 0,.slice none 0 0] 40 (0,0)):=(hb1.block _ (by simp)).trans (heap_alloc_new w _)
 have HF:=hide hf
 have hqb:=(HB.out.block q hq).trans H.out.blk
 have k1:w1.cell? ⟨q,1,none⟩ = some (.int .i64 i):=by rw [cell_of_row _ _ _ _ _ (0,0) hqb];rfl
 have kf:w1.frozen? ⟨q,1,none⟩ = false:=frozen_of_row w1 q 1 _ _ hqb
 have hq1:q<w1.heap.size:=aaa hqb
 clear ho hb1 K hb0 hf hqb
 go_wp2_with fail
 obtain ⟨n1,n2⟩:=H.out.next (.of_below HB.out) (HB.out.block q hq) HJ.out
 have hmm:(w1.setCell ⟨q,1,none⟩ (.int .i64 ((i:Int)+1))).heap.size=w1.heap.size:=by simp [World.setCell]
 have hf2:((w1.setCell ⟨q,1,none⟩ (.int .i64 ((i:Int)+1))).alloc (.cells #[.bool ng,.slice ao rs.length cap] 38)).heap[w.heap.size]? = some (.cells #[.bool false,.slice none 0 0,.slice none 0 0] 40 (0,0)):=aav ((heap_setCell_other w1 ⟨q,1,none⟩ _ _ (by show w.heap.size≠q;omega)).trans HF.out)
 have hm2:((w1.setCell ⟨q,1,none⟩ (.int .i64 ((i:Int)+1))).alloc (.cells #[.bool ng,.slice ao rs.length cap] 38)).heap[w1.heap.size]? = some (.cells #[.bool ng,.slice ao rs.length cap] 38 (0,0)):=by rw [←hmm];exact heap_alloc_new _ _
 have hu2:Ru w1 ((w1.setCell ⟨q,1,none⟩ (.int .i64 ((i:Int)+1))).alloc (.cells #[.bool ng,.slice ao rs.length cap] 38)):=(agn (H.out.below HB.out)).trans (Ru.of_below (hAl _ _))
 have K:=abn _ q b tv uv l vs (i+1) t1 (n1.below (hAl _ (.cells #[.bool ng,.slice ao rs.length cap] 38))) HT1.out sOver (fun h3=>HW.out.more HT1.out (by rw [h3];decide)) HW.out.len
 rw [HS.out] at K
 refine K.mono ?_
 rintro r w2 ⟨rfl,hR2,hC2⟩
 have HR2:=hide hR2
 have HC2:=hide ((n2.trans (.of_below (hAl _ _))).trans hC2)
 have HO2:=hide (HO.out.ru (hu2.trans hC2.ru))
 have hf3:=(hC2.other _ (aaa hf2) (by omega) (by omega)).trans hf2
 have hm3:=(hC2.other _ (aaa hm2) (by omega) (by omega)).trans hm2
 have HF3:=hide hf3
 obtain ⟨_,m0,m1,_,_⟩:=aah hm3
 have HM3:=hide hm3
 clear hR2 hC2 hf2 hm2 hu2 K n1 n2 hmm hm3 hf3 k1 kf
 rw [if_pos rfl] at HR2
 have HTw:=hide (HTT.out.rc H.out HC2.out)
 go_wp2_with fail
 go_cut [6] (fun ev wx=>ev=.int .i64 20∧Below w2.heap.size w2 wx)
 case first =>
  go_region_law (first | (refine aam rfl 108 #[.tmp 23] #[57] rfl ag0 #[.pointer (some ⟨q,0,none⟩)] (by simp [Act.eval,Act.put]) (acz _ (HTw.out.below (show Below w2.heap.size w2 _ by (repeat' first|with_reducible(first|exact Below.refl _ _|assumption|refine gdrewN ?_ _|refine Below.alloc ?_ ?_ _|refine Below.drew ?_|refine Below.setCell ?_ ?_ _)|go_size))) q b tv uv l vs (i+2) t2 (HR2.out.below (show Below w2.heap.size w2 _ by (repeat' first|with_reducible(first|exact Below.refl _ _|assumption|refine gdrewN ?_ _|refine Below.alloc ?_ ?_ _|refine Below.drew ?_|refine Below.setCell ?_ ?_ _)|go_size))) HT2.out) ?_;rintro e w3 ⟨v,rfl,ho3,hb3⟩;obtain ⟨ng3,ao3,cap3,rs3,rfl,_⟩:=id ho3;have HO3:=hide ho3;have hb23:Below w2.heap.size w2 w3:=(show Below w2.heap.size w2 _ by (repeat' first|with_reducible(first|exact Below.refl _ _|assumption|refine gdrewN ?_ _|refine Below.alloc ?_ ?_ _|refine Below.drew ?_|refine Below.setCell ?_ ?_ _)|go_size)).trans (hb3.mono (by simp));have HB23:=hide hb23;have hm3:=(hb23.block _ (aaa HM3.out)).trans HM3.out;have hm3:=aah hm3;obtain ⟨_,m03,m13,_,_⟩:=hm3;first | (have hz3:w3.heap[w2.heap.size]? = some (.cells #[.bool false,.slice none 0 0,.slice none 0 0] 40 (0,0)):=(hb3.block _ (by simp)).trans (heap_alloc_new w2 _);have hz3' := aac hz3;have HZ3:=hide hz3;clear hz3;obtain ⟨_,z30,z31,z32,y30,y31,y32⟩:=hz3') | skip;clear ho3 hb3 hb23;refine ⟨_,rfl,?_⟩) | (refine aam rfl 109 #[.tmp 22,.tmp 24] #[38,38] rfl amt #[.agg #[.bool ng,.slice ao rs.length cap],.agg #[.bool ng3,.slice ao3 rs3.length cap3]] (by simp [Act.eval]) (axy _ _ _ _ _ 6000 6000 (HO2.out.ru (Ru.of_below (HB23.out.trans ((show Below w3.heap.size w3 _ by (repeat' first|with_reducible(first|exact Below.refl _ _|assumption|refine gdrewN ?_ _|refine Below.alloc ?_ ?_ _|refine Below.drew ?_|refine Below.setCell ?_ ?_ _)|go_size)).mono HB23.out.size)))).is (HO3.out.ru (Ru.of_below (show Below w3.heap.size w3 _ by (repeat' first|with_reducible(first|exact Below.refl _ _|assumption|refine gdrewN ?_ _|refine Below.alloc ?_ ?_ _|refine Below.drew ?_|refine Below.setCell ?_ ?_ _)|go_size)))).is (by omega) HNZ.out) ?_;rintro e w4 ⟨hb4,rfl⟩;have hb24:Below w2.heap.size w2 w4:=(show Below w2.heap.size w2 _ from (HB23.out.trans ((show Below w3.heap.size w3 _ by (repeat' first|with_reducible(first|exact Below.refl _ _|assumption|refine gdrewN ?_ _|refine Below.alloc ?_ ?_ _|refine Below.drew ?_|refine Below.setCell ?_ ?_ _)|go_size)).mono HB23.out.size))).trans (hb4.mono (by first | exact HB23.out.size | exact Nat.le_trans HB23.out.size (Nat.le_of_lt (by simp))));have HB24:=hide hb24;have hq4:=hb24.block q (aaa HR2.out.blk);have hq4:=hq4.trans HR2.out.blk;have q41:w4.cell? ⟨q,1,none⟩ = some (.int .i64 ((i+2:Nat):Int)):=(by rw [cell_of_row _ _ _ _ _ (0,0) hq4];rfl);have q4f:w4.frozen? ⟨q,1,none⟩ = false:=frozen_of_row w4 q 1 _ _ hq4;have hf4:=(hb24.block _ (aaa HF3.out)).trans HF3.out;have HF4:=hide hf4;have hf4:=aac hf4;obtain ⟨hfl,c0,c1,c2,fr0,fr1,fr2⟩:=hf4;first | (have hz4:=(hb4.block _ (aaa HZ3.out)).trans HZ3.out;have hz4' := aac hz4;have HZ4:=hide hz4;clear hz4;obtain ⟨_,z40,z41,z42,y40,y41,y42⟩:=hz4') | (have hz4:w4.heap[w3.heap.size]? = some (.cells #[.bool false,.slice none 0 0,.slice none 0 0] 40 (0,0)):=(hb4.block _ (by simp)).trans (heap_alloc_new w3 _);have hz4' := aac hz4;have HZ4:=hide hz4;clear hz4;obtain ⟨_,z40,z41,z42,y40,y41,y42⟩:=hz4') | skip;clear hb4 hb24 hq4;refine ⟨_,rfl,?_⟩))
  all_goals (
   go_wp2_with fail
   go_meet
   have hb24:=HB24.out
   have hb23:=HB23.out
   first
   | exact ⟨rfl,((hb24.setCell (by first | exact Nat.le_refl _ | exact hb23.size) _).setCell (by first | exact Nat.le_refl _ | exact hb23.size) _).setCell (by first | exact Nat.le_refl _ | exact hb23.size) _⟩
   | exact ⟨rfl,hb24.alloc hb24.size _⟩)
 case rest =>
  obtain ⟨rfl,hb⟩:=hcut
  have hf4:=(hb.block _ (aaa HF3.out)).trans HF3.out
  have HF4:=hide hf4
  obtain ⟨hfl,c0,c1,c2,fr0,fr1,fr2⟩:=aac hf4
  have HB4:=hide hb
  clear hb hf4 m0 m1
  go_wp2
  obtain ⟨x1,x2⟩:=H.out.fill3 (HR2.out.below HB4.out) (HC2.out.trans (.of_below HB4.out)) HF4.out (Nat.le_refl _) (.bool false) (.slice none 0 0) (.slice none 0 0)
  exact bodyPost_ret (v:=.tuple #[.agg #[.bool false,.slice none 0 0,.slice none 0 0],.bool false]) (ad7 (g:=w.heap.size) rfl rfl (lvr3 (aex HF4.out _ _ _)) rfl) rfl ⟨_,rfl,rfl,x1,x2⟩
theorem aie:Has Tryz.prog 28:=by unfold Has;kernel_rfl
theorem aif:Has Tryz.prog 67:=by unfold Has;kernel_rfl
set_option maxRecDepth 20000 in
set_option maxHeartbeats 4000000 in
theorem awd (w:World) (q b:Nat) (tv uv:Value) (l:List Tk) (vs:List ByteArray) (i:Nat) (h:Rea w q b tv uv l vs i) (t:Tk) (ht:l[i]? = some t) (x:Rat) (L:Nat) (xv av:Value) (hx:IsQ x L xv w) (hk:ixS t.text vs=none) :
  Calls Tryz.prog 98 #[.pointer (some ⟨q,0,none⟩),xv,av] w fun e w'=>e=.returned (.bool false)∧Rea w' q b tv uv l vs i∧Rc q q w w' := by
 obtain ⟨ng,ao,n,cap,xs,bo,m,dap,ys,p,d,rfl,_⟩:=hx.open
 obtain ⟨au,cu,rfl,_⟩:=h.vrs
 have H:=hide h
 have HT:=hide ht
 have HK:=hide hk
 have hq:=aaa h.blk
 have k2:w.cell? ⟨q,2,none⟩ = some (.slice au vs.length cu):=by rw [cell_of_row _ _ _ _ _ (0,0) h.blk];rfl
 have hf1:∀ W,(Instr.field 64 (.agg #[.int .i64 t.kind,.string t.text,.int .i64 t.pl.b,.int .i64 t.pl.g,.int .i64 t.pl.l,.int .i64 t.pl.c]) 1).run Tryz.prog W=.ok (.string t.text) W:=fun W=>aoq _ _ _ _ _ _ W
 clear h ht hx hk
 generalize vs.length=nv at *
 go_enter Tryz.func98,Tryz.ntmps98
 go_wp2_with fail
 go_cut [7] (fun ev wx=>ev=.int .i64 (-1)∧Below w.heap.size w wx)
 case first =>
  go_region_law (first | (refine aam rfl 28 #[.tmp 12] #[57] rfl aie #[.pointer (some ⟨q,0,none⟩)] (by simp [Act.eval,Act.put]) (aa5 _ q b tv (.slice au nv cu) l vs i t (H.out.below (show Below w.heap.size w _ by (repeat' first|with_reducible(first|exact Below.refl _ _|assumption|refine gdrewN ?_ _|refine Below.alloc ?_ ?_ _|refine Below.drew ?_|refine Below.setCell ?_ ?_ _)|go_size))) HT.out) ?_;rintro e w1 ⟨rfl,hb1⟩;have hbw:Below w.heap.size w w1:=(show Below w.heap.size w _ by (repeat' first|with_reducible(first|exact Below.refl _ _|assumption|refine gdrewN ?_ _|refine Below.alloc ?_ ?_ _|refine Below.drew ?_|refine Below.setCell ?_ ?_ _)|go_size)).trans (hb1.mono (by simp));have HB1:=hide hbw;have k21:=(hbw.cell (p:=⟨q,2,none⟩) hq).trans k2;unfold Tk.av;clear hb1 hbw;refine ⟨_,rfl,?_⟩) | (refine aam rfl 67 #[.tmp 11,.tmp 14] #[26,9] rfl aif #[.slice au nv cu,.string t.text] (by simp [Act.eval,Act.put]) (afj _ _ _ _ vs t.text (H.out.below HB1.out).vrs) ?_;rintro e w2 ⟨rfl,rfl⟩;rw [HK.out];unfold ixV;refine ⟨_,rfl,?_⟩))
  all_goals (
   go_wp2_with fail
   go_meet
   exact ⟨rfl,HB1.out⟩)
 case rest =>
  obtain ⟨rfl,hb⟩:=hcut
  have HB:=hide hb
  clear hb
  go_wp2
  refine bodyPost_ret (v:=_) (by simp [results,Tryz.results98,go_sem];try rfl) rfl ⟨rfl,H.out.below HB.out,.of_below HB.out⟩
set_option maxRecDepth 20000 in
set_option maxHeartbeats 4000000 in
theorem aud (w:World) (q b:Nat) (tv uv:Value) (l:List Tk) (vs:List ByteArray) (i:Nat) (h:Rea w q b tv uv l vs i) (t:Tk) (ht:l[i]? = some t) (x:Rat) (L:Nat) (xv av:Value) (hx:IsQ x L xv w) (g k:Nat) (rs:List Rat) (r:Rat) (sn:Bool) (hk:ixS t.text vs=some k) (hj:i+1<l.length) (hl:l.length≤100000) (hA:AddV q b g w av sn) (hR:RQ w g b rs L) (hr:rs[k]? = some r) (hL:L≤10000) (hfx:Fit x L) (hfr:Fit (r+sgq sn x) L) (hqb:q≠b) (hqg:g≠q) :
  Calls Tryz.prog 98 #[.pointer (some ⟨q,0,none⟩),xv,av] w fun e w'=>e=.returned (.bool true)∧Rea w' q b tv uv l vs (i+1)∧Rc q b w w'∧RQ w' g b (rs.set k (r+sgq sn x)) L:=by
 have HX:=hide hx
 obtain ⟨f,cp,rfl,hf,hadd⟩:=ahh hA rs L k r hr hL
 have HADD:=hide hadd
 have HR:=hide hR
 have HF:=hide (And.intro hfx hfr)
 have HJ:=hide hj
 have hi:i≤100000:=by omega
 have hent:∀ args W,(callFunc f args).run Tryz.prog W=.ok (.enter f args) W:=hf.enter
 clear hadd hA hR hr hfx hfr hj hl
 obtain ⟨ng,ao,n,cap,xs,bo,m,dap,ys,p,d,rfl,_⟩:=hx.open
 obtain ⟨au,cu,rfl,_⟩:=h.vrs
 have H:=hide h
 have HT:=hide ht
 have HK:=hide hk
 have hq:=aaa h.blk
 have k2:w.cell? ⟨q,2,none⟩ = some (.slice au vs.length cu):=by rw [cell_of_row _ _ _ _ _ (0,0) h.blk];rfl
 have hf1:∀ W,(Instr.field 64 (.agg #[.int .i64 t.kind,.string t.text,.int .i64 t.pl.b,.int .i64 t.pl.g,.int .i64 t.pl.l,.int .i64 t.pl.c]) 1).run Tryz.prog W=.ok (.string t.text) W:=fun W=>aoq _ _ _ _ _ _ W
 clear h ht hx hk
 generalize vs.length=nv at *
 go_enter Tryz.func98,Tryz.ntmps98
 go_wp2_with fail
 go_cut [7] (fun ev wx=>ev=.int .i64 (k:Int)∧Below w.heap.size w wx∧wx.heap[w.heap.size]? = some (.cells #[.bool ng,.slice ao n cap,.slice bo m dap] 40 (0,0)))
 case first =>
  go_region_law (first | (refine aam rfl 28 #[.tmp 12] #[57] rfl aie #[.pointer (some ⟨q,0,none⟩)] (by simp [Act.eval,Act.put]) (aa5 _ q b tv (.slice au nv cu) l vs i t (H.out.below (show Below w.heap.size w _ by (repeat' first|with_reducible(first|exact Below.refl _ _|assumption|refine gdrewN ?_ _|refine Below.alloc ?_ ?_ _|refine Below.drew ?_|refine Below.setCell ?_ ?_ _)|go_size))) HT.out) ?_;rintro e w1 ⟨rfl,hb1⟩;have hbw:Below w.heap.size w w1:=(show Below w.heap.size w _ by (repeat' first|with_reducible(first|exact Below.refl _ _|assumption|refine gdrewN ?_ _|refine Below.alloc ?_ ?_ _|refine Below.drew ?_|refine Below.setCell ?_ ?_ _)|go_size)).trans (hb1.mono (by simp));have HB1:=hide hbw;have k21:=(hbw.cell (p:=⟨q,2,none⟩) hq).trans k2;have hbx:w1.heap[w.heap.size]? = some (.cells #[.bool ng,.slice ao n cap,.slice bo m dap] 40 (0,0)):=(hb1.block _ (by simp)).trans (heap_alloc_new w _);have HBX:=hide hbx;clear hbx;unfold Tk.av;clear hb1 hbw;refine ⟨_,rfl,?_⟩) | (refine aam rfl 67 #[.tmp 11,.tmp 14] #[26,9] rfl aif #[.slice au nv cu,.string t.text] (by simp [Act.eval,Act.put]) (afj _ _ _ _ vs t.text (H.out.below HB1.out).vrs) ?_;rintro e w2 ⟨rfl,rfl⟩;rw [HK.out];unfold ixV;refine ⟨_,rfl,?_⟩))
  all_goals (
   go_wp2_with fail
   go_meet
   exact ⟨rfl,HB1.out,HBX.out⟩)
 case rest =>
  obtain ⟨rfl,hb,hbx⟩:=hcut
  obtain ⟨_,x0,x1,x2,_,_,_⟩:=aac hbx
  have HB:=hide hb
  have hkk:decide ((k:Int)<0)=false:=by simp
  clear hb hbx
  go_wp2_with fail
  refine (HADD.out wc x _ HB.out (HR.out.below HB.out) (HX.out.ru (Ru.of_below HB.out)) HF.out.1 HF.out.2).mono ?_
  rintro e w2 ⟨rfl,hrc,hrq⟩
  have hqw:=(hrc.other q (Nat.lt_of_lt_of_le hq HB.out.size) hqb hqb).trans (HB.out.block q hq)
  have hrc' : Rc q b w w2:=(Rc.of_below HB.out).trans hrc.wideR
  have h2:Rea w2 q b tv (.slice au nv cu) l vs i:=H.out.rc hrc' (hqw.trans H.out.blk) H.out.lt
  have HRC:=hide hrc'
  have HRQ:=hide hrq
  have k1:w2.cell? ⟨q,1,none⟩ = some (.int .i64 i):=by rw [cell_of_row _ _ _ _ _ (0,0) h2.blk];rfl
  have kf:w2.frozen? ⟨q,1,none⟩ = false:=frozen_of_row w2 q 1 _ _ h2.blk
  have hq2:=aaa h2.blk
  have H2:=hide h2
  clear hqw hrc hrc' hrq h2 x0 x1 x2
  go_wp2
  obtain ⟨n1,n2⟩:=H2.out.next (Rc.refl _ _ _) rfl HJ.out
  have hbq:b≠q:=fun e=>hqb e.symm
  refine bodyPost_ret (v:=_) (by simp [results,Tryz.results98,go_sem];try rfl) rfl ⟨rfl,n1,HRC.out.trans n2.wide,HRQ.out.rc n2 hqg hbq⟩
theorem aru:Has Tryz.prog 78:=by unfold Has;kernel_rfl
theorem abk {L:Nat} (h:1≤L):Fit (1:Rat) L:=by
 have h1:pw 1≤pw L:=aa8 h
 have h2:(1:Int)<pw 1:=by decide
 exact ⟨by show (1:Int)<_;omega,by show (1:Int)<_;omega⟩
set_option maxRecDepth 20000 in
set_option maxHeartbeats 8000000 in
theorem ame (w:World) (hT:Tabs w) (q b g:Nat) (tv uv:Value) (l:List Tk) (hW:Wf l) (vs:List ByteArray) (i:Nat) (h:Rea w q b tv uv l vs i) (t:Tk) (ht:l[i]? = some t) (L:Nat) (_hL:L≤10000) (hL1:1≤L) (av:Value) (sn:Bool) (hA:AddV q b g w av sn) (rs:List Rat) (hR:RQ w g b rs L) (_hqb:q≠b) (_hqg:g≠q) (h1:t.kind≠1) (h2:t.kind≠2) :
  Calls Tryz.prog 76 #[.pointer (some ⟨q,0,none⟩),av] w fun e w'=>e=.returned (.bool false)∧Rea w' q b tv uv l vs i∧Rc q b w w'∧RQ w' g b rs L:=by
 have e1:(t.kind == 1)=false:=beq_eq_false_iff_ne.2 h1
 have e2:(t.kind == 2)=false:=beq_eq_false_iff_ne.2 h2
 clear h1 h2
 have H:=hide h
 have HT:=hide ht
 have HTT:=hide hT
 have HA:=hide hA
 have HR:=hide hR
 have HW:=hide hW
 have hq:=aaa h.blk
 have hgl:=aaa hR.slot
 have hf0:∀ W,(Instr.field 64 (.agg #[.int .i64 t.kind,.string t.text,.int .i64 t.pl.b,.int .i64 t.pl.g,.int .i64 t.pl.l,.int .i64 t.pl.c]) 0).run Tryz.prog W=.ok (.int .i64 t.kind) W:=fun W=>adq _ _ _ _ _ _ W
 clear h ht hA hR hT hW
 go_enter Tryz.func76,Tryz.ntmps76
 go_wp2_with fail
 refine (acu w 1 (by decide) (by decide)).mono ?_
 rintro r w1 ⟨ng0,ao0,cap0,rs0,rfl,hw1,hl1,hb1⟩
 have ho1:OutW 1 2 (.agg #[.bool ng0,.slice ao0 rs0.length cap0]) w1:=⟨_,_,_,_,rfl,hw1,hl1⟩
 clear hw1 hl1
 go_wp2_with fail
 refine (adl w1 _ _ _ ho1.is (by omega)).mono ?_
 rintro r w2 ⟨v,rfl,ho2,hb2⟩
 replace ho2:OutQr (1:Rat) L v w2:=OutQr.fit ho2 (abk hL1)
 obtain ⟨ng1,ao1,cap1,rs1,bo1,dap1,ss1,rfl,_⟩:=id ho2
 have hbw2:=hb1.trans (hb2.mono hb1.size)
 have hbw:Below w.heap.size w (w2.alloc (.cells #[.bool ng1,.slice ao1 rs1.length cap1,.slice bo1 ss1.length dap1] 40)):=hbw2.alloc hbw2.size _
 clear ho1 hb1 hb2
 go_wp2_with fail
 refine (aa5 _ q b tv uv l vs i t (H.out.below hbw) HT.out).mono ?_
 rintro r w3 ⟨rfl,hb3⟩
 have hbx:w3.heap[w2.heap.size]? = some (.cells #[.bool ng1,.slice ao1 rs1.length cap1,.slice bo1 ss1.length dap1] 40 (0,0)):=(hb3.block _ (by simp)).trans (heap_alloc_new w2 _)
 have HBX:=hide hbx
 have HO:=hide (ho2.ru (Ru.of_below ((hAl w2 _).trans (hb3.mono (hAl w2 _).size))))
 have HB3:=hide (hbw.trans (hb3.mono hbw.size))
 have hf5:w.heap.size≤w2.heap.size:=hbw2.size
 generalize w2.heap.size=f5 at *
 unfold Tk.av
 clear hbw hbw2 hb3 hbx ho2
 go_wp2
 refine bodyPost_ret (v:=_) (by simp [results,Tryz.results76,go_sem];try rfl) rfl ⟨rfl,H.out.below HB3.out,.of_below HB3.out,HR.out.below HB3.out⟩
set_option maxRecDepth 20000 in
set_option maxHeartbeats 8000000 in
theorem aoy (w:World) (hT:Tabs w) (q b g:Nat) (tv uv:Value) (l:List Tk) (hW:Wf l) (vs:List ByteArray) (i:Nat) (h:Rea w q b tv uv l vs i) (t:Tk) (ht:l[i]? = some t) (L:Nat) (_hL:L≤10000) (hL1:1≤L) (av:Value) (sn:Bool) (hA:AddV q b g w av sn) (rs:List Rat) (hR:RQ w g b rs L) (_hqb:q≠b) (_hqg:g≠q) (h1:t.kind=1) (ok:Bool) (j:Nat) (rs' : List Rat) (hv:∀ W xv,Rc q q w W→Rea W q b tv uv l vs i→IsQ (1:Rat) L xv W→Calls Tryz.prog 98 #[.pointer (some ⟨q,0,none⟩),xv,av] W fun e w'=>e=.returned (.bool ok)∧Rea w' q b tv uv l vs j∧Rc q b W w'∧RQ w' g b rs' L) :
  Calls Tryz.prog 76 #[.pointer (some ⟨q,0,none⟩),av] w fun e w'=>e=.returned (.bool ok)∧Rea w' q b tv uv l vs j∧Rc q b w w'∧RQ w' g b rs' L:=by
 have HV:=hide hv
 clear hv
 have H1:=hide h1
 clear h1
 have H:=hide h
 have HT:=hide ht
 have HTT:=hide hT
 have HA:=hide hA
 have HR:=hide hR
 have HW:=hide hW
 have hq:=aaa h.blk
 have hgl:=aaa hR.slot
 have hf0:∀ W,(Instr.field 64 (.agg #[.int .i64 t.kind,.string t.text,.int .i64 t.pl.b,.int .i64 t.pl.g,.int .i64 t.pl.l,.int .i64 t.pl.c]) 0).run Tryz.prog W=.ok (.int .i64 t.kind) W:=fun W=>adq _ _ _ _ _ _ W
 clear h ht hA hR hT hW
 go_enter Tryz.func76,Tryz.ntmps76
 go_wp2_with fail
 refine (acu w 1 (by decide) (by decide)).mono ?_
 rintro r w1 ⟨ng0,ao0,cap0,rs0,rfl,hw1,hl1,hb1⟩
 have ho1:OutW 1 2 (.agg #[.bool ng0,.slice ao0 rs0.length cap0]) w1:=⟨_,_,_,_,rfl,hw1,hl1⟩
 clear hw1 hl1
 go_wp2_with fail
 refine (adl w1 _ _ _ ho1.is (by omega)).mono ?_
 rintro r w2 ⟨v,rfl,ho2,hb2⟩
 replace ho2:OutQr (1:Rat) L v w2:=OutQr.fit ho2 (abk hL1)
 obtain ⟨ng1,ao1,cap1,rs1,bo1,dap1,ss1,rfl,_⟩:=id ho2
 have hbw2:=hb1.trans (hb2.mono hb1.size)
 have hbw:Below w.heap.size w (w2.alloc (.cells #[.bool ng1,.slice ao1 rs1.length cap1,.slice bo1 ss1.length dap1] 40)):=hbw2.alloc hbw2.size _
 clear ho1 hb1 hb2
 go_wp2_with fail
 refine (aa5 _ q b tv uv l vs i t (H.out.below hbw) HT.out).mono ?_
 rintro r w3 ⟨rfl,hb3⟩
 have hbx:w3.heap[w2.heap.size]? = some (.cells #[.bool ng1,.slice ao1 rs1.length cap1,.slice bo1 ss1.length dap1] 40 (0,0)):=(hb3.block _ (by simp)).trans (heap_alloc_new w2 _)
 have HBX:=hide hbx
 have HO:=hide (ho2.ru (Ru.of_below ((hAl w2 _).trans (hb3.mono (hAl w2 _).size))))
 have HB3:=hide (hbw.trans (hb3.mono hbw.size))
 have hf5:w.heap.size≤w2.heap.size:=hbw2.size
 generalize w2.heap.size=f5 at *
 unfold Tk.av
 clear hbw hbw2 hb3 hbx ho2
 rw [H1.out] at *
 obtain ⟨_,x0,x1,x2,_,_,_⟩:=aac HBX.out
 go_wp2_with fail
 refine (HV.out w3 _ (.of_below HB3.out) (H.out.below HB3.out) HO.out.is).mono ?_
 rintro e w4 ⟨rfl,r1,r2,r3⟩
 have R1:=hide r1
 have R2:=hide ((Rc.of_below HB3.out).trans r2)
 have R3' := hide r3
 clear r1 r2 r3 x0 x1 x2
 go_wp2
 refine bodyPost_ret (v:=_) (by simp [results,Tryz.results76,go_sem];try rfl) rfl ⟨rfl,R1.out,R2.out,R3'.out⟩
set_option maxRecDepth 20000 in
set_option maxHeartbeats 8000000 in
theorem arv (w:World) (hT:Tabs w) (q b g:Nat) (tv uv:Value) (l:List Tk) (hW:Wf l) (vs:List ByteArray) (i:Nat) (h:Rea w q b tv uv l vs i) (t:Tk) (ht:l[i]? = some t) (L:Nat) (_hL:L≤10000) (hL1:1≤L) (av:Value) (sn:Bool) (hA:AddV q b g w av sn) (rs:List Rat) (hR:RQ w g b rs L) (_hqb:q≠b) (_hqg:g≠q) (h1:t.kind=2) (j:Nat) (hc:∀ W,Below w.heap.size w W→Calls Tryz.prog 97 #[.pointer (some ⟨q,0,none⟩)] W fun e w'=>∃ v,e=.returned (.tuple #[v,.bool false])∧OutQr0 v∧Rea w' q b tv uv l vs j∧Rc q q W w') :
  Calls Tryz.prog 76 #[.pointer (some ⟨q,0,none⟩),av] w fun e w'=>e=.returned (.bool false)∧Rea w' q b tv uv l vs j∧Rc q b w w'∧RQ w' g b rs L:=by
 have HC:=hide hc
 clear hc
 have H1:=hide h1
 clear h1
 have H:=hide h
 have HT:=hide ht
 have HTT:=hide hT
 have HA:=hide hA
 have HR:=hide hR
 have HW:=hide hW
 have hq:=aaa h.blk
 have hgl:=aaa hR.slot
 have hf0:∀ W,(Instr.field 64 (.agg #[.int .i64 t.kind,.string t.text,.int .i64 t.pl.b,.int .i64 t.pl.g,.int .i64 t.pl.l,.int .i64 t.pl.c]) 0).run Tryz.prog W=.ok (.int .i64 t.kind) W:=fun W=>adq _ _ _ _ _ _ W
 clear h ht hA hR hT hW
 go_enter Tryz.func76,Tryz.ntmps76
 go_wp2_with fail
 refine (acu w 1 (by decide) (by decide)).mono ?_
 rintro r w1 ⟨ng0,ao0,cap0,rs0,rfl,hw1,hl1,hb1⟩
 have ho1:OutW 1 2 (.agg #[.bool ng0,.slice ao0 rs0.length cap0]) w1:=⟨_,_,_,_,rfl,hw1,hl1⟩
 clear hw1 hl1
 go_wp2_with fail
 refine (adl w1 _ _ _ ho1.is (by omega)).mono ?_
 rintro r w2 ⟨v,rfl,ho2,hb2⟩
 replace ho2:OutQr (1:Rat) L v w2:=OutQr.fit ho2 (abk hL1)
 obtain ⟨ng1,ao1,cap1,rs1,bo1,dap1,ss1,rfl,_⟩:=id ho2
 have hbw2:=hb1.trans (hb2.mono hb1.size)
 have hbw:Below w.heap.size w (w2.alloc (.cells #[.bool ng1,.slice ao1 rs1.length cap1,.slice bo1 ss1.length dap1] 40)):=hbw2.alloc hbw2.size _
 clear ho1 hb1 hb2
 go_wp2_with fail
 refine (aa5 _ q b tv uv l vs i t (H.out.below hbw) HT.out).mono ?_
 rintro r w3 ⟨rfl,hb3⟩
 have hbx:w3.heap[w2.heap.size]? = some (.cells #[.bool ng1,.slice ao1 rs1.length cap1,.slice bo1 ss1.length dap1] 40 (0,0)):=(hb3.block _ (by simp)).trans (heap_alloc_new w2 _)
 have HBX:=hide hbx
 have HO:=hide (ho2.ru (Ru.of_below ((hAl w2 _).trans (hb3.mono (hAl w2 _).size))))
 have HB3:=hide (hbw.trans (hb3.mono hbw.size))
 have hf5:w.heap.size≤w2.heap.size:=hbw2.size
 generalize w2.heap.size=f5 at *
 unfold Tk.av
 clear hbw hbw2 hb3 hbx ho2
 rw [H1.out] at *
 go_wp2_with fail
 refine (HC.out w3 HB3.out).mono ?_
 rintro e w4 ⟨v,rfl,rfl,r1,r2⟩
 have R1:=hide r1
 have R2:=hide ((Rc.of_below HB3.out).trans r2)
 clear r1 r2
 go_wp2
 refine bodyPost_ret (v:=_) (by simp [results,Tryz.results76,go_sem];try rfl) rfl ⟨rfl,R1.out.below (hAl _ _),R2.out.wide.trans (.of_below (hAl _ _)),(HR.out.rc R2.out _hqg (fun e=>_hqb e.symm)).below (hAl _ _)⟩
set_option maxRecDepth 20000 in
set_option maxHeartbeats 8000000 in
theorem amf (w:World) (hT:Tabs w) (q b g:Nat) (tv uv:Value) (l:List Tk) (hW:Wf l) (vs:List ByteArray) (i:Nat) (h:Rea w q b tv uv l vs i) (t:Tk) (ht:l[i]? = some t) (L:Nat) (_hL:L≤10000) (hL1:1≤L) (av:Value) (sn:Bool) (hA:AddV q b g w av sn) (rs:List Rat) (hR:RQ w g b rs L) (_hqb:q≠b) (_hqg:g≠q) (h1:t.kind=2) (j:Nat) (x r0:Rat) (hc:∀ W,Below w.heap.size w W→Calls Tryz.prog 97 #[.pointer (some ⟨q,0,none⟩)] W fun e w'=>∃ v,e=.returned (.tuple #[v,.bool true])∧OutQr x L v w'∧Rea w' q b tv uv l vs j∧Rc q q W w') (t1:Tk) (ht1:l[j]? = some t1) (hs:tsg t1 sTimes=false) (hk1:t1.kind≠1) (hr0:rs[vs.length]? = some r0) (hfx:Fit x L) (hfr:Fit (r0+sgq sn (-x)) L) :
  Calls Tryz.prog 76 #[.pointer (some ⟨q,0,none⟩),av] w fun e w'=>e=.returned (.bool true)∧Rea w' q b tv uv l vs j∧Rc q b w w'∧RQ w' g b (rs.set vs.length (r0+sgq sn (-x))) L:=by
 have HC:=hide hc
 have H1:=hide h1
 have HT1:=hide ht1
 have HS:=hide hs
 have hjl:j<l.length:=(List.getElem?_eq_some_iff.1 ht1).1
 clear hc h1 ht1 hs
 obtain ⟨f,cp,rfl,hf,hadd⟩:=ahh hA rs L vs.length r0 hr0 _hL
 have HR0:=hide hr0
 have hent:∀ args W,(callFunc f args).run Tryz.prog W=.ok (.enter f args) W:=hf.enter
 have HK1:Hid ((t1.kind != 1)=true):=bne_iff_ne.2 hk1
 have HF:=hide (And.intro hfx hfr)
 obtain ⟨au,cu,huv,_⟩:=id h.vrs
 have HUV:=hide huv
 clear huv
 clear hadd hr0 hfx hfr hk1
 have H:=hide h
 have HT:=hide ht
 have HTT:=hide hT
 have HA:=hide hA
 have HR:=hide hR
 have HW:=hide hW
 have hq:=aaa h.blk
 have hgl:=aaa hR.slot
 have hf0:∀ W,(Instr.field 64 (.agg #[.int .i64 t.kind,.string t.text,.int .i64 t.pl.b,.int .i64 t.pl.g,.int .i64 t.pl.l,.int .i64 t.pl.c]) 0).run Tryz.prog W=.ok (.int .i64 t.kind) W:=fun W=>adq _ _ _ _ _ _ W
 clear h ht hA hR hT hW
 go_enter Tryz.func76,Tryz.ntmps76
 go_wp2_with fail
 refine (acu w 1 (by decide) (by decide)).mono ?_
 rintro r w1 ⟨ng0,ao0,cap0,rs0,rfl,hw1,hl1,hb1⟩
 have ho1:OutW 1 2 (.agg #[.bool ng0,.slice ao0 rs0.length cap0]) w1:=⟨_,_,_,_,rfl,hw1,hl1⟩
 clear hw1 hl1
 go_wp2_with fail
 refine (adl w1 _ _ _ ho1.is (by omega)).mono ?_
 rintro r w2 ⟨v,rfl,ho2,hb2⟩
 replace ho2:OutQr (1:Rat) L v w2:=OutQr.fit ho2 (abk hL1)
 obtain ⟨ng1,ao1,cap1,rs1,bo1,dap1,ss1,rfl,_⟩:=id ho2
 have hbw2:=hb1.trans (hb2.mono hb1.size)
 have hbw:Below w.heap.size w (w2.alloc (.cells #[.bool ng1,.slice ao1 rs1.length cap1,.slice bo1 ss1.length dap1] 40)):=hbw2.alloc hbw2.size _
 clear ho1 hb1 hb2
 go_wp2_with fail
 refine (aa5 _ q b tv uv l vs i t (H.out.below hbw) HT.out).mono ?_
 rintro r w3 ⟨rfl,hb3⟩
 have hbx:w3.heap[w2.heap.size]? = some (.cells #[.bool ng1,.slice ao1 rs1.length cap1,.slice bo1 ss1.length dap1] 40 (0,0)):=(hb3.block _ (by simp)).trans (heap_alloc_new w2 _)
 have HBX:=hide hbx
 have HO:=hide (ho2.ru (Ru.of_below ((hAl w2 _).trans (hb3.mono (hAl w2 _).size))))
 have HB3:=hide (hbw.trans (hb3.mono hbw.size))
 have hf5:w.heap.size≤w2.heap.size:=hbw2.size
 generalize w2.heap.size=f5 at *
 unfold Tk.av
 clear hbw hbw2 hb3 hbx ho2
 rw [H1.out] at *
 go_wp2_with fail
 refine (HC.out w3 HB3.out).mono ?_
 rintro e w4 ⟨v,rfl,hox,r1,r2⟩
 obtain ⟨ng6,ao6,cap6,rs6,bo6,dap6,ss6,rfl,_⟩:=id hox
 have hbx4:=(r2.other _ (aaa HBX.out) (by omega) (by omega)).trans HBX.out
 have hr4:Rc q q w w4:=(Rc.of_below HB3.out).trans r2
 have hal:=hAl w4 (.cells #[.bool ng6,.slice ao6 rs6.length cap6,.slice bo6 ss6.length dap6] 40)
 have h6:=heap_alloc_new w4 (.cells #[.bool ng6,.slice ao6 rs6.length cap6,.slice bo6 ss6.length dap6] 40)
 have hf6:w.heap.size≤w4.heap.size:=hr4.size
 have hf56:f5<w4.heap.size:=aaa hbx4
 go_wp2_with fail
 refine (abn _ q b tv uv l vs j t1 (r1.below hal) HT1.out sTimes (fun h3=>HW.out.more HT1.out (by rw [h3];decide)) HW.out.len).mono ?_
 rw [HS.out]
 rintro e w5 ⟨rfl,r3,r4⟩
 have hr5:Rc q q w w5:=(hr4.trans (.of_below hal)).trans r4
 have h65:=(r4.other _ (aaa h6) (by omega) (by omega)).trans h6
 have h55:=(r4.other _ (aaa (aav (o' := .cells #[.bool ng6,.slice ao6 rs6.length cap6,.slice bo6 ss6.length dap6] 40) hbx4)) (by omega) (by omega)).trans (aav hbx4)
 have H65:=hide h65
 have H55:=hide h55
 have HOX:=hide (hox.ru ((Ru.of_below hal).trans r4.ru))
 have HR5:=hide hr5
 have R3_:=hide r3
 generalize w4.heap.size=f6 at *
 clear hox r1 r2 hbx4 hr4 hal h6 r3 r4 hr5 h65 h55
 have hf01:∀ W,(Instr.field 64 (.agg #[.int .i64 t1.kind,.string t1.text,.int .i64 t1.pl.b,.int .i64 t1.pl.g,.int .i64 t1.pl.l,.int .i64 t1.pl.c]) 0).run Tryz.prog W=.ok (.int .i64 t1.kind) W:=fun W=>adq _ _ _ _ _ _ W
 have hk1:=HK1.out
 go_wp2_with fail
 refine (aa5 w5 q b tv uv l vs j t1 R3_.out HT1.out).mono ?_
 rintro r w6 ⟨rfl,hb6⟩
 unfold Tk.av
 have R6:=hide (R3_.out.below hb6)
 have HR6:=hide (HR5.out.trans (.of_below hb6))
 have h66:=(hb6.block _ (aaa H65.out)).trans H65.out
 have HOX6:=hide (HOX.out.ru (Ru.of_below hb6))
 obtain ⟨hl6,x0,x1,x2,_,_,_⟩:=aac h66
 obtain ⟨f',cp',e',hf',hadd⟩:=ahh (HA.out.rc HR6.out.wide) rs L vs.length r0 HR0.out _hL
 obtain ⟨rfl,rfl⟩:f=f'∧cp=cp' := by simpa using e'
 have HADD:=hide hadd
 have HRQ6:=hide (HR.out.rc HR6.out _hqg (fun e=>_hqb e.symm))
 have hq6:=aaa R6.out.blk
 have k2:w6.cell? ⟨q,2,none⟩ = some (.slice au vs.length cu):=by rw [cell_of_row _ _ _ _ _ (0,0) R6.out.blk,HUV.out];rfl
 generalize hnv:vs.length=nv at *
 have HNV:=hide hnv
 clear hb6 h66 hadd e' hf' hnv
 go_wp2_with fail
 go_region_law (first | (refine aam rfl 78 #[.tmp 39] #[40] rfl aru #[.agg #[.bool ng6,.slice ao6 rs6.length cap6,.slice bo6 ss6.length dap6]] (by simp [Act.eval,Act.put]) (aq0 _ _ x L L (HOX6.out.ru (Ru.of_below (show Below w6.heap.size w6 _ by (repeat' first|with_reducible(first|exact Below.refl _ _|assumption|refine gdrewN ?_ _|refine Below.alloc ?_ ?_ _|refine Below.drew ?_|refine Below.setCell ?_ ?_ _)|go_size)))).is (by omega) HF.out.1) ?_;rintro e w7 ⟨v,rfl,ho7,hb7⟩;obtain ⟨ng7,ao7,cap7,rs7,bo7,dap7,ss7,rfl,_⟩:=id ho7;have HO7:=hide ho7;have hb67:Below w6.heap.size w6 w7:=(show Below w6.heap.size w6 _ by (repeat' first|with_reducible(first|exact Below.refl _ _|assumption|refine gdrewN ?_ _|refine Below.alloc ?_ ?_ _|refine Below.drew ?_|refine Below.setCell ?_ ?_ _)|go_size)).trans (hb7.mono (by simp));have HB67:=hide hb67;have k27:=(hb67.cell (p:=⟨q,2,none⟩) hq6).trans k2;clear ho7 hb7 hb67;refine ⟨_,rfl,?_⟩) | (refine ah2 rfl f (.tmp 33) #[.tmp 38,.tmp 40] #[3,40] rfl hf #[cp] (by simp [Act.eval,Act.put]) #[.int .i64 (nv:Int),.agg #[.bool ng7,.slice ao7 rs7.length cap7,.slice bo7 ss7.length dap7]] (by simp [Act.eval,Act.put]) (HADD.out w7 (-x) _ HB67.out (HRQ6.out.below HB67.out) HO7.out.is (ab7 HF.out.1) HF.out.2) ?_;rintro e w8 ⟨rfl,hr8,hq8⟩;have HR8:=hide hr8;have HQ8:=hide hq8;clear hr8 hq8;refine ⟨_,rfl,?_⟩))
 all_goals
  go_wp2
  refine bodyPost_ret (v:=_) (by simp [results,Tryz.results76,go_sem];try rfl) rfl ⟨rfl,(R6.out.below HB67.out).rcR HR8.out _hqb,(HR6.out.wide.trans (.of_below HB67.out)).trans HR8.out.wideR,by rw [HNV.out];exact HQ8.out⟩
set_option maxRecDepth 20000 in
set_option maxHeartbeats 8000000 in
theorem aoz (w:World) (hT:Tabs w) (q b g:Nat) (tv uv:Value) (l:List Tk) (hW:Wf l) (vs:List ByteArray) (i:Nat) (h:Rea w q b tv uv l vs i) (t:Tk) (ht:l[i]? = some t) (L:Nat) (_hL:L≤10000) (hL1:1≤L) (av:Value) (sn:Bool) (hA:AddV q b g w av sn) (rs:List Rat) (hR:RQ w g b rs L) (_hqb:q≠b) (_hqg:g≠q) (h1:t.kind=2) (j:Nat) (x:Rat) (hc:∀ W,Below w.heap.size w W→Calls Tryz.prog 97 #[.pointer (some ⟨q,0,none⟩)] W fun e w'=>∃ v,e=.returned (.tuple #[v,.bool true])∧OutQr x L v w'∧Rea w' q b tv uv l vs j∧Rc q q W w') (t1:Tk) (ht1:l[j]? = some t1) (hs:tsg t1 sTimes=true) (ok:Bool) (k:Nat) (rs' : List Rat) (hv:∀ W xv,Rc q q w W→Rea W q b tv uv l vs (j+1)→IsQ x L xv W→Calls Tryz.prog 98 #[.pointer (some ⟨q,0,none⟩),xv,av] W fun e w'=>e=.returned (.bool ok)∧Rea w' q b tv uv l vs k∧Rc q b W w'∧RQ w' g b rs' L) :
  Calls Tryz.prog 76 #[.pointer (some ⟨q,0,none⟩),av] w fun e w'=>e=.returned (.bool ok)∧Rea w' q b tv uv l vs k∧Rc q b w w'∧RQ w' g b rs' L:=by
 have HC:=hide hc
 have H1:=hide h1
 have HT1:=hide ht1
 have HS:=hide hs
 have hjl:j<l.length:=(List.getElem?_eq_some_iff.1 ht1).1
 clear hc h1 ht1 hs
 have HV:=hide hv
 clear hv
 have H:=hide h
 have HT:=hide ht
 have HTT:=hide hT
 have HA:=hide hA
 have HR:=hide hR
 have HW:=hide hW
 have hq:=aaa h.blk
 have hgl:=aaa hR.slot
 have hf0:∀ W,(Instr.field 64 (.agg #[.int .i64 t.kind,.string t.text,.int .i64 t.pl.b,.int .i64 t.pl.g,.int .i64 t.pl.l,.int .i64 t.pl.c]) 0).run Tryz.prog W=.ok (.int .i64 t.kind) W:=fun W=>adq _ _ _ _ _ _ W
 clear h ht hA hR hT hW
 go_enter Tryz.func76,Tryz.ntmps76
 go_wp2_with fail
 refine (acu w 1 (by decide) (by decide)).mono ?_
 rintro r w1 ⟨ng0,ao0,cap0,rs0,rfl,hw1,hl1,hb1⟩
 have ho1:OutW 1 2 (.agg #[.bool ng0,.slice ao0 rs0.length cap0]) w1:=⟨_,_,_,_,rfl,hw1,hl1⟩
 clear hw1 hl1
 go_wp2_with fail
 refine (adl w1 _ _ _ ho1.is (by omega)).mono ?_
 rintro r w2 ⟨v,rfl,ho2,hb2⟩
 replace ho2:OutQr (1:Rat) L v w2:=OutQr.fit ho2 (abk hL1)
 obtain ⟨ng1,ao1,cap1,rs1,bo1,dap1,ss1,rfl,_⟩:=id ho2
 have hbw2:=hb1.trans (hb2.mono hb1.size)
 have hbw:Below w.heap.size w (w2.alloc (.cells #[.bool ng1,.slice ao1 rs1.length cap1,.slice bo1 ss1.length dap1] 40)):=hbw2.alloc hbw2.size _
 clear ho1 hb1 hb2
 go_wp2_with fail
 refine (aa5 _ q b tv uv l vs i t (H.out.below hbw) HT.out).mono ?_
 rintro r w3 ⟨rfl,hb3⟩
 have hbx:w3.heap[w2.heap.size]? = some (.cells #[.bool ng1,.slice ao1 rs1.length cap1,.slice bo1 ss1.length dap1] 40 (0,0)):=(hb3.block _ (by simp)).trans (heap_alloc_new w2 _)
 have HBX:=hide hbx
 have HO:=hide (ho2.ru (Ru.of_below ((hAl w2 _).trans (hb3.mono (hAl w2 _).size))))
 have HB3:=hide (hbw.trans (hb3.mono hbw.size))
 have hf5:w.heap.size≤w2.heap.size:=hbw2.size
 generalize w2.heap.size=f5 at *
 unfold Tk.av
 clear hbw hbw2 hb3 hbx ho2
 rw [H1.out] at *
 go_wp2_with fail
 refine (HC.out w3 HB3.out).mono ?_
 rintro e w4 ⟨v,rfl,hox,r1,r2⟩
 obtain ⟨ng6,ao6,cap6,rs6,bo6,dap6,ss6,rfl,_⟩:=id hox
 have hbx4:=(r2.other _ (aaa HBX.out) (by omega) (by omega)).trans HBX.out
 have hr4:Rc q q w w4:=(Rc.of_below HB3.out).trans r2
 have hal:=hAl w4 (.cells #[.bool ng6,.slice ao6 rs6.length cap6,.slice bo6 ss6.length dap6] 40)
 have h6:=heap_alloc_new w4 (.cells #[.bool ng6,.slice ao6 rs6.length cap6,.slice bo6 ss6.length dap6] 40)
 have hf6:w.heap.size≤w4.heap.size:=hr4.size
 have hf56:f5<w4.heap.size:=aaa hbx4
 go_wp2_with fail
 refine (abn _ q b tv uv l vs j t1 (r1.below hal) HT1.out sTimes (fun h3=>HW.out.more HT1.out (by rw [h3];decide)) HW.out.len).mono ?_
 rw [HS.out]
 rintro e w5 ⟨rfl,r3,r4⟩
 have hr5:Rc q q w w5:=(hr4.trans (.of_below hal)).trans r4
 have h65:=(r4.other _ (aaa h6) (by omega) (by omega)).trans h6
 have h55:=(r4.other _ (aaa (aav (o' := .cells #[.bool ng6,.slice ao6 rs6.length cap6,.slice bo6 ss6.length dap6] 40) hbx4)) (by omega) (by omega)).trans (aav hbx4)
 have H65:=hide h65
 have H55:=hide h55
 have HOX:=hide (hox.ru ((Ru.of_below hal).trans r4.ru))
 have HR5:=hide hr5
 have R3_:=hide r3
 generalize w4.heap.size=f6 at *
 clear hox r1 r2 hbx4 hr4 hal h6 r3 r4 hr5 h65 h55
 rw [if_pos rfl] at R3_
 obtain ⟨hl5,y0,y1,y2,yf0,yf1,yf2⟩:=aac H55.out
 obtain ⟨hl6,x0,x1,x2,_,_,_⟩:=aac H65.out
 go_wp2_with fail
 obtain ⟨v1,v2⟩:=H.out.fill3 R3_.out HR5.out H55.out hf5 (.bool ng6) (.slice ao6 rs6.length cap6) (.slice bo6 ss6.length dap6)
 refine (HV.out _ _ v2 v1 (HOX.out.ru (aek H55.out _ _ _)).is).mono ?_
 rintro e w7 ⟨rfl,r1,r2,r3⟩
 have R1:=hide r1
 have R2:=hide (v2.wide.trans r2)
 have R4:=hide r3
 clear r1 r2 r3 v1 v2 x0 x1 x2 y0 y1 y2
 go_wp2
 refine bodyPost_ret (v:=_) (by simp [results,Tryz.results76,go_sem];try rfl) rfl ⟨rfl,R1.out,R2.out,R4.out⟩
set_option maxRecDepth 20000 in
set_option maxHeartbeats 8000000 in
theorem ao5 (w:World) (hT:Tabs w) (q b g:Nat) (tv uv:Value) (l:List Tk) (hW:Wf l) (vs:List ByteArray) (i:Nat) (h:Rea w q b tv uv l vs i) (t:Tk) (ht:l[i]? = some t) (L:Nat) (_hL:L≤10000) (hL1:1≤L) (av:Value) (sn:Bool) (hA:AddV q b g w av sn) (rs:List Rat) (hR:RQ w g b rs L) (_hqb:q≠b) (_hqg:g≠q) (h1:t.kind=2) (j:Nat) (x:Rat) (hc:∀ W,Below w.heap.size w W→Calls Tryz.prog 97 #[.pointer (some ⟨q,0,none⟩)] W fun e w'=>∃ v,e=.returned (.tuple #[v,.bool true])∧OutQr x L v w'∧Rea w' q b tv uv l vs j∧Rc q q W w') (t1:Tk) (ht1:l[j]? = some t1) (hs:tsg t1 sTimes=false) (hk1:t1.kind=1) (ok:Bool) (k:Nat) (rs' : List Rat) (hv:∀ W xv,Rc q q w W→Rea W q b tv uv l vs j→IsQ x L xv W→Calls Tryz.prog 98 #[.pointer (some ⟨q,0,none⟩),xv,av] W fun e w'=>e=.returned (.bool ok)∧Rea w' q b tv uv l vs k∧Rc q b W w'∧RQ w' g b rs' L) :
  Calls Tryz.prog 76 #[.pointer (some ⟨q,0,none⟩),av] w fun e w'=>e=.returned (.bool ok)∧Rea w' q b tv uv l vs k∧Rc q b w w'∧RQ w' g b rs' L:=by
 have HC:=hide hc
 have H1:=hide h1
 have HT1:=hide ht1
 have HS:=hide hs
 have hjl:j<l.length:=(List.getElem?_eq_some_iff.1 ht1).1
 clear hc h1 ht1 hs
 have HV:=hide hv
 have HK1:=hide hk1
 clear hv hk1
 have H:=hide h
 have HT:=hide ht
 have HTT:=hide hT
 have HA:=hide hA
 have HR:=hide hR
 have HW:=hide hW
 have hq:=aaa h.blk
 have hgl:=aaa hR.slot
 have hf0:∀ W,(Instr.field 64 (.agg #[.int .i64 t.kind,.string t.text,.int .i64 t.pl.b,.int .i64 t.pl.g,.int .i64 t.pl.l,.int .i64 t.pl.c]) 0).run Tryz.prog W=.ok (.int .i64 t.kind) W:=fun W=>adq _ _ _ _ _ _ W
 clear h ht hA hR hT hW
 go_enter Tryz.func76,Tryz.ntmps76
 go_wp2_with fail
 refine (acu w 1 (by decide) (by decide)).mono ?_
 rintro r w1 ⟨ng0,ao0,cap0,rs0,rfl,hw1,hl1,hb1⟩
 have ho1:OutW 1 2 (.agg #[.bool ng0,.slice ao0 rs0.length cap0]) w1:=⟨_,_,_,_,rfl,hw1,hl1⟩
 clear hw1 hl1
 go_wp2_with fail
 refine (adl w1 _ _ _ ho1.is (by omega)).mono ?_
 rintro r w2 ⟨v,rfl,ho2,hb2⟩
 replace ho2:OutQr (1:Rat) L v w2:=OutQr.fit ho2 (abk hL1)
 obtain ⟨ng1,ao1,cap1,rs1,bo1,dap1,ss1,rfl,_⟩:=id ho2
 have hbw2:=hb1.trans (hb2.mono hb1.size)
 have hbw:Below w.heap.size w (w2.alloc (.cells #[.bool ng1,.slice ao1 rs1.length cap1,.slice bo1 ss1.length dap1] 40)):=hbw2.alloc hbw2.size _
 clear ho1 hb1 hb2
 go_wp2_with fail
 refine (aa5 _ q b tv uv l vs i t (H.out.below hbw) HT.out).mono ?_
 rintro r w3 ⟨rfl,hb3⟩
 have hbx:w3.heap[w2.heap.size]? = some (.cells #[.bool ng1,.slice ao1 rs1.length cap1,.slice bo1 ss1.length dap1] 40 (0,0)):=(hb3.block _ (by simp)).trans (heap_alloc_new w2 _)
 have HBX:=hide hbx
 have HO:=hide (ho2.ru (Ru.of_below ((hAl w2 _).trans (hb3.mono (hAl w2 _).size))))
 have HB3:=hide (hbw.trans (hb3.mono hbw.size))
 have hf5:w.heap.size≤w2.heap.size:=hbw2.size
 generalize w2.heap.size=f5 at *
 unfold Tk.av
 clear hbw hbw2 hb3 hbx ho2
 rw [H1.out] at *
 go_wp2_with fail
 refine (HC.out w3 HB3.out).mono ?_
 rintro e w4 ⟨v,rfl,hox,r1,r2⟩
 obtain ⟨ng6,ao6,cap6,rs6,bo6,dap6,ss6,rfl,_⟩:=id hox
 have hbx4:=(r2.other _ (aaa HBX.out) (by omega) (by omega)).trans HBX.out
 have hr4:Rc q q w w4:=(Rc.of_below HB3.out).trans r2
 have hal:=hAl w4 (.cells #[.bool ng6,.slice ao6 rs6.length cap6,.slice bo6 ss6.length dap6] 40)
 have h6:=heap_alloc_new w4 (.cells #[.bool ng6,.slice ao6 rs6.length cap6,.slice bo6 ss6.length dap6] 40)
 have hf6:w.heap.size≤w4.heap.size:=hr4.size
 have hf56:f5<w4.heap.size:=aaa hbx4
 go_wp2_with fail
 refine (abn _ q b tv uv l vs j t1 (r1.below hal) HT1.out sTimes (fun h3=>HW.out.more HT1.out (by rw [h3];decide)) HW.out.len).mono ?_
 rw [HS.out]
 rintro e w5 ⟨rfl,r3,r4⟩
 have hr5:Rc q q w w5:=(hr4.trans (.of_below hal)).trans r4
 have h65:=(r4.other _ (aaa h6) (by omega) (by omega)).trans h6
 have h55:=(r4.other _ (aaa (aav (o' := .cells #[.bool ng6,.slice ao6 rs6.length cap6,.slice bo6 ss6.length dap6] 40) hbx4)) (by omega) (by omega)).trans (aav hbx4)
 have H65:=hide h65
 have H55:=hide h55
 have HOX:=hide (hox.ru ((Ru.of_below hal).trans r4.ru))
 have HR5:=hide hr5
 have R3_:=hide r3
 generalize w4.heap.size=f6 at *
 clear hox r1 r2 hbx4 hr4 hal h6 r3 r4 hr5 h65 h55
 rw [if_neg (by decide)] at R3_
 have hf01:∀ W,(Instr.field 64 (.agg #[.int .i64 t1.kind,.string t1.text,.int .i64 t1.pl.b,.int .i64 t1.pl.g,.int .i64 t1.pl.l,.int .i64 t1.pl.c]) 0).run Tryz.prog W=.ok (.int .i64 1) W:=fun W=>(adq _ _ _ _ _ _ W).trans (by rw [HK1.out])
 go_wp2_with fail
 refine (aa5 w5 q b tv uv l vs j t1 R3_.out HT1.out).mono ?_
 rintro r w6 ⟨rfl,hb6⟩
 unfold Tk.av
 replace R3_:=hide (R3_.out.below hb6)
 replace HR5:=hide (HR5.out.trans (.of_below hb6))
 replace H65:=hide ((hb6.block _ (aaa H65.out)).trans H65.out)
 replace H55:=hide ((hb6.block _ (aaa H55.out)).trans H55.out)
 replace HOX:=hide (HOX.out.ru (Ru.of_below hb6))
 clear hb6
 obtain ⟨hl5,y0,y1,y2,yf0,yf1,yf2⟩:=aac H55.out
 obtain ⟨hl6,x0,x1,x2,_,_,_⟩:=aac H65.out
 go_wp2_with fail
 obtain ⟨v1,v2⟩:=H.out.fill3 R3_.out HR5.out H55.out hf5 (.bool ng6) (.slice ao6 rs6.length cap6) (.slice bo6 ss6.length dap6)
 refine (HV.out _ _ v2 v1 (HOX.out.ru (aek H55.out _ _ _)).is).mono ?_
 rintro e w7 ⟨rfl,r1,r2,r3⟩
 have R1:=hide r1
 have R2:=hide (v2.wide.trans r2)
 have R4:=hide r3
 clear r1 r2 r3 v1 v2 x0 x1 x2 y0 y1 y2
 go_wp2
 refine bodyPost_ret (v:=_) (by simp [results,Tryz.results76,go_sem];try rfl) rfl ⟨rfl,R1.out,R2.out,R4.out⟩
inductive VarR (l:List Tk) (vs:List ByteArray) (L:Nat) (sn:Bool) (x:Rat) (rs:List Rat) (i:Nat):Bool→Nat→List Rat→Prop
 | no (t:Tk) (ht:l[i]? = some t) (hk:ixS t.text vs=none):VarR l vs L sn x rs i false i rs
 | yes (t:Tk) (k:Nat) (r:Rat) (ht:l[i]? = some t) (hk:ixS t.text vs=some k) (hr:rs[k]? = some r) (hx:Fit x L) (hf:Fit (r+sgq sn x) L):VarR l vs L sn x rs i true (i+1) (rs.set k (r+sgq sn x))
inductive TermR (l:List Tk) (vs:List ByteArray) (L:Nat) (sn:Bool) (rs:List Rat) (i:Nat):Bool→Nat→List Rat→Prop
 | other (t:Tk) (ht:l[i]? = some t) (h1:t.kind≠1) (h2:t.kind≠2):TermR l vs L sn rs i false i rs
 | name (t:Tk) (ht:l[i]? = some t) (h1:t.kind=1) (ok:Bool) (j:Nat) (rs' : List Rat) (hv:VarR l vs L sn 1 rs i ok j rs'):TermR l vs L sn rs i ok j rs'
 | bad (t:Tk) (ht:l[i]? = some t) (h1:t.kind=2) (j:Nat) (x:Rat) (hc:CoefR l i false j x):TermR l vs L sn rs i false j rs
 | alone (t:Tk) (ht:l[i]? = some t) (h1:t.kind=2) (j:Nat) (x:Rat) (hc:CoefR l i true j x) (hx:Fit x L) (t1:Tk) (ht1:l[j]? = some t1) (hs:tsg t1 sTimes=false) (hk1:t1.kind≠1) (r0:Rat) (hr:rs[vs.length]? = some r0) (hf:Fit (r0+sgq sn (-x)) L):TermR l vs L sn rs i true j (rs.set vs.length (r0+sgq sn (-x)))
 | star (t:Tk) (ht:l[i]? = some t) (h1:t.kind=2) (j:Nat) (x:Rat) (hc:CoefR l i true j x) (hx:Fit x L) (t1:Tk) (ht1:l[j]? = some t1) (hs:tsg t1 sTimes=true) (ok:Bool) (k:Nat) (rs' : List Rat) (hv:VarR l vs L sn x rs (j+1) ok k rs'):TermR l vs L sn rs i ok k rs'
 | next (t:Tk) (ht:l[i]? = some t) (h1:t.kind=2) (j:Nat) (x:Rat) (hc:CoefR l i true j x) (hx:Fit x L) (t1:Tk) (ht1:l[j]? = some t1) (hs:tsg t1 sTimes=false) (hk1:t1.kind=1) (ok:Bool) (k:Nat) (rs' : List Rat) (hv:VarR l vs L sn x rs j ok k rs'):TermR l vs L sn rs i ok k rs'
theorem CoefR.lt {l:List Tk} {i j:Nat} {x:Rat} (h:CoefR l i true j x):i<j:=by cases h <;> omega
theorem VarR.lt {l:List Tk} {vs:List ByteArray} {L:Nat} {sn:Bool} {x:Rat} {rs rs' : List Rat} {i j:Nat} (h:VarR l vs L sn x rs i true j rs'):i<j:=by cases h;omega
theorem TermR.lt {l:List Tk} {vs:List ByteArray} {L:Nat} {sn:Bool} {rs rs' : List Rat} {i j:Nat} (h:TermR l vs L sn rs i true j rs'):i<j:=by
 cases h with
 | name t ht h1 ok j rs' hv=>exact hv.lt
 | alone t ht h1 j x hc hx t1 ht1 hs hk1 r0 hr hf=>exact hc.lt
 | star t ht h1 j x hc hx t1 ht1 hs ok k rs' hv=>have:=hc.lt;have:=hv.lt;omega
 | next t ht h1 j x hc hx t1 ht1 hs hk1 ok k rs' hv=>have:=hc.lt;have:=hv.lt;omega
structure Env (w:World) (q b g:Nat) (tv uv:Value) (l:List Tk) (vs:List ByteArray) (L:Nat):Prop where
 tabs:Tabs w
 wf:Wf l
 nov:(⟨#[]⟩:ByteArray) ∉ vs
 hL:L≤10000
 hL1:1≤L
 qb:q≠b
 gq:g≠q
theorem af8 {w:World} {q b g:Nat} {tv uv:Value} {l:List Tk} {vs:List ByteArray} {L i j:Nat} {x:Rat} (E:Env w q b g tv uv l vs L) (h:Rea w q b tv uv l vs i) (hc:CoefR l i true j x) (hx:Fit x L) (W:World) (hb:Below w.heap.size w W) :
  Calls Tryz.prog 97 #[.pointer (some ⟨q,0,none⟩)] W fun e w'=>∃ v,e=.returned (.tuple #[v,.bool true])∧OutQr x L v w'∧Rea w' q b tv uv l vs j∧Rc q q W w' := by
 cases hc with
 | plain t t1 ht ht1 hs=>exact amd W (E.tabs.below hb) q b tv uv l E.wf vs i (h.below hb) t t1 ht ht1 hs L hx
 | over t t1 t2 ht ht1 hs ht2 hz=>exact aox W (E.tabs.below hb) q b tv uv l E.wf vs i (h.below hb) t t1 t2 ht ht1 hs ht2 hz L hx
theorem ao9 {w:World} {q b g:Nat} {tv uv:Value} {l:List Tk} {vs:List ByteArray} {L i j:Nat} {x:Rat} (E:Env w q b g tv uv l vs L) (h:Rea w q b tv uv l vs i) (hc:CoefR l i false j x) (W:World) (hb:Below w.heap.size w W) :
  Calls Tryz.prog 97 #[.pointer (some ⟨q,0,none⟩)] W fun e w'=>∃ v,e=.returned (.tuple #[v,.bool false])∧OutQr0 v∧Rea w' q b tv uv l vs j∧Rc q q W w' := by
 cases hc with
 | bad t t1 t2 ht ht1 hs ht2 hz=>exact art W (E.tabs.below hb) q b tv uv l E.wf vs i (h.below hb) t t1 t2 ht ht1 hs ht2 hz
theorem ahj {w:World} {q b g:Nat} {tv uv:Value} {l:List Tk} {vs:List ByteArray} {L i j:Nat} {x:Rat} {sn ok:Bool} {rs rs' : List Rat} (E:Env w q b g tv uv l vs L) (hv:VarR l vs L sn x rs i ok j rs') {av:Value} (hA:AddV q b g w av sn) (hR:RQ w g b rs L) (W:World) (xv:Value) (hr:Rc q q w W) (h:Rea W q b tv uv l vs i) (hx:IsQ x L xv W) :
  Calls Tryz.prog 98 #[.pointer (some ⟨q,0,none⟩),xv,av] W fun e w'=>e=.returned (.bool ok)∧Rea w' q b tv uv l vs j∧Rc q b W w'∧RQ w' g b rs' L:=by
 have hR' := hR.rc hr E.gq (fun e=>E.qb e.symm)
 cases hv with
 | no t ht hk =>
  refine (awd W q b tv uv l vs i h t ht x L xv av hx hk).mono ?_
  rintro e w' ⟨rfl,h1,h2⟩
  exact ⟨rfl,h1,h2.wide,hR'.rc h2 E.gq (fun e=>E.qb e.symm)⟩
 | yes t k r ht hk hrk hfx hf =>
  have hj:i+1<l.length:=by
   have h1:=(List.getElem?_eq_some_iff.1 ht).1
   by_cases he:i+1=l.length
   ·have h2:=(E.wf.stop _ _ ht he).2
    rw [h2] at hk
    exact absurd (List.mem_of_getElem? (axw hk)) E.nov
   ·omega
  exact aud W q b tv uv l vs i h t ht x L xv av hx g k rs r sn hk hj E.wf.len (hA.rc hr.wide) hR' hrk E.hL hfx hf E.qb E.gq
theorem ada (w:World) (q b g:Nat) (tv uv:Value) (l:List Tk) (vs:List ByteArray) (L:Nat) (E:Env w q b g tv uv l vs L) (sn ok:Bool) (rs rs' : List Rat) (i j:Nat) (ht:TermR l vs L sn rs i ok j rs') (av:Value) (hA:AddV q b g w av sn) (hR:RQ w g b rs L) (h:Rea w q b tv uv l vs i) :
  Calls Tryz.prog 76 #[.pointer (some ⟨q,0,none⟩),av] w fun e w'=>e=.returned (.bool ok)∧Rea w' q b tv uv l vs j∧Rc q b w w'∧RQ w' g b rs' L:=by
 cases ht with
 | other t ht h1 h2=>exact ame w E.tabs q b g tv uv l E.wf vs i h t ht L E.hL E.hL1 av sn hA rs hR E.qb E.gq h1 h2
 | name t ht h1 ok j rs' hv=>exact aoy w E.tabs q b g tv uv l E.wf vs i h t ht L E.hL E.hL1 av sn hA rs hR E.qb E.gq h1 ok j rs' (ahj E hv hA hR)
 | bad t ht h1 j x hc=>exact arv w E.tabs q b g tv uv l E.wf vs i h t ht L E.hL E.hL1 av sn hA rs hR E.qb E.gq h1 j (ao9 E h hc)
 | alone t ht h1 j x hc hx t1 ht1 hs hk1 r0 hr hf=>exact amf w E.tabs q b g tv uv l E.wf vs i h t ht L E.hL E.hL1 av sn hA rs hR E.qb E.gq h1 j x r0 (af8 E h hc hx) t1 ht1 hs hk1 hr hx hf
 | star t ht h1 j x hc hx t1 ht1 hs ok k rs' hv=>exact aoz w E.tabs q b g tv uv l E.wf vs i h t ht L E.hL E.hL1 av sn hA rs hR E.qb E.gq h1 j x (af8 E h hc hx) t1 ht1 hs _ _ _ (ahj E hv hA hR)
 | next t ht h1 j x hc hx t1 ht1 hs hk1 ok k rs' hv=>exact ao5 w E.tabs q b g tv uv l E.wf vs i h t ht L E.hL E.hL1 av sn hA rs hR E.qb E.gq h1 j x (af8 E h hc hx) t1 ht1 hs hk1 _ _ _ (ahj E hv hA hR)
inductive SideL (l:List Tk) (vs:List ByteArray) (L:Nat) (sn:Bool):Bool→Nat→List Rat→Bool→Nat→List Rat→Prop
 | bad (m:Bool) (i j:Nat) (rs rs' : List Rat) (h:TermR l vs L (m != sn) rs i false j rs'):SideL l vs L sn m i rs false j rs'
 | last (m:Bool) (i j:Nat) (rs rs' : List Rat) (h:TermR l vs L (m != sn) rs i true j rs') (t:Tk) (ht:l[j]? = some t) (hp:tpm t=false):SideL l vs L sn m i rs true j rs'
 | more (m:Bool) (i j k:Nat) (rs rs' rs'' : List Rat) (ok:Bool) (h:TermR l vs L (m != sn) rs i true j rs') (t:Tk) (ht:l[j]? = some t) (hp:tpm t=true) (hr:SideL l vs L sn (tsg t sMinus) (j+1) rs' ok k rs''):SideL l vs L sn m i rs ok k rs''
def SideR (l:List Tk) (vs:List ByteArray) (L:Nat) (sn:Bool) (i:Nat) (rs:List Rat) (ok:Bool) (k:Nat) (rs' : List Rat):Prop:=∃ t,l[i]? = some t∧SideL l vs L sn (tsg t sMinus) (if tpm t then i+1 else i) rs ok k rs'
def nx (w:World) (q:Nat):Nat:=match w.cell? ⟨q,1,none⟩ with | some (.int _ z)=>z.toNat | _=>0
theorem Rea.nx {w:World} {q b:Nat} {tv uv:Value} {l:List Tk} {vs:List ByteArray} {i:Nat} (h:Rea w q b tv uv l vs i):nx w q=i:=by
 unfold Lm.nx
 rw [cell_of_row _ _ _ _ _ (0,0) h.blk]
 simp
theorem Env.rc {w w' : World} {q b g:Nat} {tv uv:Value} {l:List Tk} {vs:List ByteArray} {L i:Nat} {rs:List Rat} (E:Env w q b g tv uv l vs L) (h:Rea w q b tv uv l vs i) (hR:RQ w g b rs L) (hr:Rc q b w w'):Env w' q b g tv uv l vs L:=by
 refine ⟨E.tabs.rcs hr h.no8 ?_,E.wf,E.nov,E.hL,E.hL1,E.qb,E.gq⟩
 obtain ⟨es,e1,e2,e3⟩:=hR.row
 intro z
 rw [cell_of_row _ _ _ _ _ (0,0) e2,List.getElem?_toArray]
 cases es with
 | nil=>simp [rf3]
 | cons e es=>simp [rf3]
set_option maxRecDepth 20000 in
set_option maxHeartbeats 8000000 in
theorem acb (w:World) (q b g:Nat) (tv uv:Value) (l:List Tk) (vs:List ByteArray) (L:Nat) (E:Env w q b g tv uv l vs L) (sn ok:Bool) (rs rs' : List Rat) (i k:Nat) (hs:SideR l vs L sn i rs ok k rs') (av:Value) (hA:AddV q b g w av sn) (hR:RQ w g b rs L) (h:Rea w q b tv uv l vs i) :
  Calls Tryz.prog 50 #[.pointer (some ⟨q,0,none⟩),av] w fun e w'=>e=.returned (.bool ok)∧Rea w' q b tv uv l vs k∧Rc q b w w'∧RQ w' g b rs' L:=by
 obtain ⟨t,ht,hs⟩:=hs
 have K:=hide (ae1 w q b tv uv l vs i t h ht (fun h3=>E.wf.more ht (by rw [h3];decide)) E.wf.len)
 have HE:=hide E
 have HA:=hide hA
 have HR:=hide hR
 have H:=hide h
 have HS:=hide hs
 obtain ⟨j0,hj0⟩:∃ j0,(if tpm t=true then i+1 else i)=j0:=⟨_,rfl⟩
 rw [hj0] at K HS
 clear E hA hR h hs ht hj0
 generalize tsg t sMinus=m0 at K HS
 generalize tpm t=p0 at K
 go_enter Tryz.func50,Tryz.ntmps50
 go_wp2_with fail
 refine K.out.mono ?_
 rintro e w1 ⟨rfl,r1,r2⟩
 have H1:=hide r1
 have HC1:=hide (show Rc q b w w1 from r2.wide)
 have HQ1:=hide (HR.out.rc r2 HE.out.gq (fun e=>HE.out.qb e.symm))
 clear r1 r2 K
 go_wp2_with fail
 go_loopw [5,7] (fun mv ov wr=>Rc q b w wr∧((∃ m j rsj,mv=.bool m∧ov=.bool true∧SideL l vs L sn m j rsj ok k rs'∧Rea wr q b tv uv l vs j∧RQ wr g b rsj L)∨(∃ m,mv=.bool m∧ov=.bool false∧ok=true∧Rea wr q b tv uv l vs k∧RQ wr g b rs' L))) (fun _ ov wr=>(l.length - nx wr q)+(match ov with | .bool true=>1 | _=>0))
 case atStart=>exact ⟨HC1.out,.inl ⟨m0,j0,rs,rfl,rfl,HS.out,H1.out,HQ1.out⟩⟩
 case round =>
  obtain ⟨hrc,⟨m,j,rsj,rfl,rfl,hsl,hrea,hrq⟩ | ⟨m,rfl,rfl,rfl,hrea,hrq⟩⟩:=hrel
  ·have HC:=hide hrc
   have HSL:=hide hsl
   have HRE:=hide hrea
   have HRQ:=hide hrq
   clear hrc hsl hrea hrq
   cases m with
   | false =>
    have HEr:=hide (HE.out.rc H.out HR.out HC.out)
    have HAr:=hide (HA.out.rc HC.out)
    cases HSL.out with
    | bad _ _ j' _ _ hterm =>
     rw [show (false != sn)=sn from by cases sn <;> rfl] at hterm
     have HTM:=hide hterm
     clear hterm HSL
     have HA2:=HAr
     have HC2:=HC
     have HRE2:=HRE
     have HRQ2:=HRQ
     have HE2:=HEr
     go_wp2_with fail
     refine (ada wr q b g tv uv l vs L HE2.out sn false rsj rs' j k HTM.out av HA2.out HRQ2.out HRE2.out).mono ?_
     rintro e w3 ⟨rfl,r1,r2,r3⟩
     have R1:=hide r1
     have R2:=hide (HC2.out.trans r2)
     have R3' := hide r3
     clear r1 r2 r3
     go_wp2
     refine bodyPost_ret (v:=_) (by simp [results,Tryz.results50,go_sem];try rfl) rfl ⟨rfl,R1.out,R2.out,R3'.out⟩
    | last _ _ j' _ _ hterm t ht hp =>
     have hlt:=hterm.lt
     rw [show (false != sn)=sn from by cases sn <;> rfl] at hterm
     have HTM:=hide hterm
     have HT:=hide ht
     have HP:=hide hp
     clear hterm ht hp HSL
     have HA2:=HAr
     have HC2:=HC
     have HRE2:=HRE
     have HRQ2:=HRQ
     have HE2:=HEr
     go_wp2_with fail
     refine (ada wr q b g tv uv l vs L HE2.out sn true rsj rs' j k HTM.out av HA2.out HRQ2.out HRE2.out).mono ?_
     rintro e w3 ⟨rfl,r1,r2,r3⟩
     have K2:=ae1 w3 q b tv uv l vs k t r1 HT.out (fun h3=>HE.out.wf.more HT.out (by rw [h3];decide)) HE.out.wf.len
     rw [HP.out] at K2
     have K2:=hide K2
     have R2:=hide (HC2.out.trans r2)
     have R3' := hide r3
     clear r1 r2 r3
     go_wp2_with fail
     refine K2.out.mono ?_
     rintro e w4 ⟨rfl,s1,s2⟩
     have S1:=hide s1
     have S2:=hide (R2.out.trans s2.wide)
     have S3:=hide (R3'.out.rc s2 HE.out.gq (fun e=>HE.out.qb e.symm))
     clear s1 s2 K2
     go_wp2
     go_roundw
     case rel=>exact ⟨S2.out,.inr ⟨_,rfl,rfl,trivial,S1.out,S3.out⟩⟩
     case measure =>
      have e1:=S1.out.nx
      have e2:=HRE.out.nx
      have e3:=HRE.out.lt
      rw [if_neg (by decide)] at e1
      simp only [e1,e2]
      omega
    | more _ _ j' _ _ rs'' _ _ hterm t ht hp hr =>
     have hlt:=hterm.lt
     rw [show (false != sn)=sn from by cases sn <;> rfl] at hterm
     have HTM:=hide hterm
     have HT:=hide ht
     have HP:=hide hp
     have HNX:=hide hr
     clear hr
     clear hterm ht hp HSL
     have HA2:=HAr
     have HC2:=HC
     have HRE2:=HRE
     have HRQ2:=HRQ
     have HE2:=HEr
     go_wp2_with fail
     refine (ada wr q b g tv uv l vs L HE2.out sn true rsj rs'' j j' HTM.out av HA2.out HRQ2.out HRE2.out).mono ?_
     rintro e w3 ⟨rfl,r1,r2,r3⟩
     have K2:=ae1 w3 q b tv uv l vs j' t r1 HT.out (fun h3=>HE.out.wf.more HT.out (by rw [h3];decide)) HE.out.wf.len
     rw [HP.out] at K2
     have K2:=hide K2
     have R2:=hide (HC2.out.trans r2)
     have R3' := hide r3
     clear r1 r2 r3
     go_wp2_with fail
     refine K2.out.mono ?_
     rintro e w4 ⟨rfl,s1,s2⟩
     have S1:=hide s1
     have S2:=hide (R2.out.trans s2.wide)
     have S3:=hide (R3'.out.rc s2 HE.out.gq (fun e=>HE.out.qb e.symm))
     clear s1 s2 K2
     go_wp2
     go_roundw
     case rel=>exact ⟨S2.out,.inl ⟨_,_,_,rfl,rfl,HNX.out,S1.out,S3.out⟩⟩
     case measure =>
      have e1:=S1.out.nx
      have e2:=HRE.out.nx
      have e3:=HRE.out.lt
      rw [if_pos trivial] at e1
      simp only [e1,e2]
      omega
   | true =>
    have HEr:=hide (HE.out.rc H.out HR.out HC.out)
    have HAr:=hide (HA.out.rc HC.out)
    cases HSL.out with
    | bad _ _ j' _ _ hterm =>
     rw [show (true != sn)=(!sn) from by cases sn <;> rfl] at hterm
     have HTM:=hide hterm
     clear hterm HSL
     go_wp2_with fail
     refine (acw wr av q b g sn HAr.out (aaa HRE.out.blk) (aaa HRQ.out.row.choose_spec.2.1)).mono ?_
     rintro e w2 ⟨uv2,rfl,ha2,hb2⟩
     have HA2:=hide ha2
     have HC2:=hide (HC.out.trans (.of_below hb2))
     have HRE2:=hide (HRE.out.below hb2)
     have HRQ2:=hide (HRQ.out.below hb2)
     have HE2:=hide (HEr.out.rc HRE.out HRQ.out (.of_below hb2))
     clear ha2 hb2
     go_wp2_with fail
     refine (ada w2 q b g tv uv l vs L HE2.out (!sn) false rsj rs' j k HTM.out uv2 HA2.out HRQ2.out HRE2.out).mono ?_
     rintro e w3 ⟨rfl,r1,r2,r3⟩
     have R1:=hide r1
     have R2:=hide (HC2.out.trans r2)
     have R3' := hide r3
     clear r1 r2 r3
     go_wp2
     refine bodyPost_ret (v:=_) (by simp [results,Tryz.results50,go_sem];try rfl) rfl ⟨rfl,R1.out,R2.out,R3'.out⟩
    | last _ _ j' _ _ hterm t ht hp =>
     have hlt:=hterm.lt
     rw [show (true != sn)=(!sn) from by cases sn <;> rfl] at hterm
     have HTM:=hide hterm
     have HT:=hide ht
     have HP:=hide hp
     clear hterm ht hp HSL
     go_wp2_with fail
     refine (acw wr av q b g sn HAr.out (aaa HRE.out.blk) (aaa HRQ.out.row.choose_spec.2.1)).mono ?_
     rintro e w2 ⟨uv2,rfl,ha2,hb2⟩
     have HA2:=hide ha2
     have HC2:=hide (HC.out.trans (.of_below hb2))
     have HRE2:=hide (HRE.out.below hb2)
     have HRQ2:=hide (HRQ.out.below hb2)
     have HE2:=hide (HEr.out.rc HRE.out HRQ.out (.of_below hb2))
     clear ha2 hb2
     go_wp2_with fail
     refine (ada w2 q b g tv uv l vs L HE2.out (!sn) true rsj rs' j k HTM.out uv2 HA2.out HRQ2.out HRE2.out).mono ?_
     rintro e w3 ⟨rfl,r1,r2,r3⟩
     have K2:=ae1 w3 q b tv uv l vs k t r1 HT.out (fun h3=>HE.out.wf.more HT.out (by rw [h3];decide)) HE.out.wf.len
     rw [HP.out] at K2
     have K2:=hide K2
     have R2:=hide (HC2.out.trans r2)
     have R3' := hide r3
     clear r1 r2 r3
     go_wp2_with fail
     refine K2.out.mono ?_
     rintro e w4 ⟨rfl,s1,s2⟩
     have S1:=hide s1
     have S2:=hide (R2.out.trans s2.wide)
     have S3:=hide (R3'.out.rc s2 HE.out.gq (fun e=>HE.out.qb e.symm))
     clear s1 s2 K2
     go_wp2
     go_roundw
     case rel=>exact ⟨S2.out,.inr ⟨_,rfl,rfl,trivial,S1.out,S3.out⟩⟩
     case measure =>
      have e1:=S1.out.nx
      have e2:=HRE.out.nx
      have e3:=HRE.out.lt
      rw [if_neg (by decide)] at e1
      simp only [e1,e2]
      omega
    | more _ _ j' _ _ rs'' _ _ hterm t ht hp hr =>
     have hlt:=hterm.lt
     rw [show (true != sn)=(!sn) from by cases sn <;> rfl] at hterm
     have HTM:=hide hterm
     have HT:=hide ht
     have HP:=hide hp
     have HNX:=hide hr
     clear hr
     clear hterm ht hp HSL
     go_wp2_with fail
     refine (acw wr av q b g sn HAr.out (aaa HRE.out.blk) (aaa HRQ.out.row.choose_spec.2.1)).mono ?_
     rintro e w2 ⟨uv2,rfl,ha2,hb2⟩
     have HA2:=hide ha2
     have HC2:=hide (HC.out.trans (.of_below hb2))
     have HRE2:=hide (HRE.out.below hb2)
     have HRQ2:=hide (HRQ.out.below hb2)
     have HE2:=hide (HEr.out.rc HRE.out HRQ.out (.of_below hb2))
     clear ha2 hb2
     go_wp2_with fail
     refine (ada w2 q b g tv uv l vs L HE2.out (!sn) true rsj rs'' j j' HTM.out uv2 HA2.out HRQ2.out HRE2.out).mono ?_
     rintro e w3 ⟨rfl,r1,r2,r3⟩
     have K2:=ae1 w3 q b tv uv l vs j' t r1 HT.out (fun h3=>HE.out.wf.more HT.out (by rw [h3];decide)) HE.out.wf.len
     rw [HP.out] at K2
     have K2:=hide K2
     have R2:=hide (HC2.out.trans r2)
     have R3' := hide r3
     clear r1 r2 r3
     go_wp2_with fail
     refine K2.out.mono ?_
     rintro e w4 ⟨rfl,s1,s2⟩
     have S1:=hide s1
     have S2:=hide (R2.out.trans s2.wide)
     have S3:=hide (R3'.out.rc s2 HE.out.gq (fun e=>HE.out.qb e.symm))
     clear s1 s2 K2
     go_wp2
     go_roundw
     case rel=>exact ⟨S2.out,.inl ⟨_,_,_,rfl,rfl,HNX.out,S1.out,S3.out⟩⟩
     case measure =>
      have e1:=S1.out.nx
      have e2:=HRE.out.nx
      have e3:=HRE.out.lt
      rw [if_pos trivial] at e1
      simp only [e1,e2]
      omega
  ·have HC:=hide hrc
   have HRE:=hide hrea
   have HRQ:=hide hrq
   clear hrc hrea hrq
   go_wp2
   refine bodyPost_ret (v:=_) (by simp [results,Tryz.results50,go_sem];try rfl) rfl ⟨rfl,HRE.out,HC.out,HRQ.out⟩
inductive EqR (l:List Tk) (vs:List ByteArray) (L:Nat) (i:Nat) (rs:List Rat):Bool→Nat→List Rat→Prop
 | bad1 (k:Nat) (rs1:List Rat) (h:SideR l vs L false i rs false k rs1):EqR l vs L i rs false k rs1
 | bad2 (k:Nat) (rs1:List Rat) (t:Tk) (h:SideR l vs L false i rs true k rs1) (ht:l[k]? = some t) (hs:tsg t sEq=false):EqR l vs L i rs false k rs1
 | bad3 (k:Nat) (rs1:List Rat) (t:Tk) (h:SideR l vs L false i rs true k rs1) (ht:l[k]? = some t) (hs:tsg t sEq=true) (k2:Nat) (rs2:List Rat) (h2:SideR l vs L true (k+1) rs1 false k2 rs2):EqR l vs L i rs false k2 rs2
 | bad4 (k:Nat) (rs1:List Rat) (t:Tk) (h:SideR l vs L false i rs true k rs1) (ht:l[k]? = some t) (hs:tsg t sEq=true) (k2:Nat) (rs2:List Rat) (h2:SideR l vs L true (k+1) rs1 true k2 rs2) (t2:Tk) (ht2:l[k2]? = some t2) (hk:t2.kind≠0):EqR l vs L i rs false k2 rs2
 | good (k:Nat) (rs1:List Rat) (t:Tk) (h:SideR l vs L false i rs true k rs1) (ht:l[k]? = some t) (hs:tsg t sEq=true) (k2:Nat) (rs2:List Rat) (h2:SideR l vs L true (k+1) rs1 true k2 rs2) (t2:Tk) (ht2:l[k2]? = some t2) (hk:t2.kind=0):EqR l vs L i rs true k2 rs2
set_option maxRecDepth 20000 in
set_option maxHeartbeats 8000000 in
theorem ajv (w:World) (q b g:Nat) (tv uv:Value) (l:List Tk) (vs:List ByteArray) (L:Nat) (E:Env w q b g tv uv l vs L) (ok:Bool) (rs rs' : List Rat) (i k:Nat) (he:EqR l vs L i rs ok k rs') (av:Value) (hA:AddV q b g w av false) (hR:RQ w g b rs L) (h:Rea w q b tv uv l vs i) :
  Calls Tryz.prog 25 #[.pointer (some ⟨q,0,none⟩),av] w fun e w'=>e=.returned (.bool ok)∧Rea w' q b tv uv l vs k∧Rc q b w w'∧RQ w' g b rs' L:=by
 have HE:=hide E
 have HA:=hide hA
 have HR:=hide hR
 have H:=hide h
 clear E hA hR h
 cases he with
 | bad1 _ _ hs1 =>
  have HS1:=hide hs1
  clear hs1
  go_enter Tryz.func25,Tryz.ntmps25
  go_wp2_with fail
  refine (acb w q b g tv uv l vs L HE.out false false rs rs' i k HS1.out av HA.out HR.out H.out).mono ?_
  rintro e w1 ⟨rfl,r1,r2,r3⟩
  have R1:=hide r1
  have C1:=hide r2
  have Q1:=hide r3
  clear r1 r2 r3
  go_wp2
  refine bodyPost_ret (v:=_) (by simp [results,Tryz.results25,go_sem];try rfl) rfl ⟨rfl,R1.out,C1.out,Q1.out⟩
 | bad2 _ _ t hs1 ht hsg =>
  have HT:=hide ht
  have HSG:=hide hsg
  clear ht hsg
  have HS1:=hide hs1
  clear hs1
  go_enter Tryz.func25,Tryz.ntmps25
  go_wp2_with fail
  refine (acb w q b g tv uv l vs L HE.out false true rs rs' i k HS1.out av HA.out HR.out H.out).mono ?_
  rintro e w1 ⟨rfl,r1,r2,r3⟩
  have R1:=hide r1
  have C1:=hide r2
  have Q1:=hide r3
  clear r1 r2 r3
  have K:=abn w1 q b tv uv l vs k t R1.out HT.out sEq (fun h3=>HE.out.wf.more HT.out (by rw [h3];decide)) HE.out.wf.len
  rw [HSG.out] at K
  unfold sEq at K
  have K:=hide K
  go_wp2_with fail
  refine K.out.mono ?_
  rintro e w2 ⟨rfl,s1,s2⟩
  have R2:=hide s1
  have C2:=hide (C1.out.trans s2.wide)
  have Q2:=hide (Q1.out.rc s2 HE.out.gq (fun e=>HE.out.qb e.symm))
  clear s1 s2 K
  go_wp2
  refine bodyPost_ret (v:=_) (by simp [results,Tryz.results25,go_sem];try rfl) rfl ⟨rfl,R2.out,C2.out,Q2.out⟩
 | bad3 k1 rs1 t hs1 ht hsg _ _ hs2 =>
  have HT:=hide ht
  have HSG:=hide hsg
  clear ht hsg
  have HS2:=hide hs2
  clear hs2
  have HS1:=hide hs1
  clear hs1
  go_enter Tryz.func25,Tryz.ntmps25
  go_wp2_with fail
  refine (acb w q b g tv uv l vs L HE.out false true rs rs1 i k1 HS1.out av HA.out HR.out H.out).mono ?_
  rintro e w1 ⟨rfl,r1,r2,r3⟩
  have R1:=hide r1
  have C1:=hide r2
  have Q1:=hide r3
  clear r1 r2 r3
  have K:=abn w1 q b tv uv l vs k1 t R1.out HT.out sEq (fun h3=>HE.out.wf.more HT.out (by rw [h3];decide)) HE.out.wf.len
  rw [HSG.out] at K
  unfold sEq at K
  have K:=hide K
  go_wp2_with fail
  refine K.out.mono ?_
  rintro e w2 ⟨rfl,s1,s2⟩
  have R2:=hide s1
  have C2:=hide (C1.out.trans s2.wide)
  have Q2:=hide (Q1.out.rc s2 HE.out.gq (fun e=>HE.out.qb e.symm))
  clear s1 s2 K
  rw [if_pos trivial] at R2
  have HE2:=hide (HE.out.rc H.out HR.out C2.out)
  go_wp2_with fail
  refine (acw w2 av q b g false (HA.out.rc C2.out) (aaa R2.out.blk) (aaa Q2.out.row.choose_spec.2.1)).mono ?_
  rintro e w3 ⟨u3,rfl,ha3,hb3⟩
  have HA3:=hide ha3
  have R3:=hide (R2.out.below hb3)
  have C3:=hide (C2.out.trans (.of_below hb3))
  have Q3:=hide (Q2.out.below hb3)
  have HE3:=hide (HE2.out.rc R2.out Q2.out (.of_below hb3))
  clear ha3 hb3
  go_wp2_with fail
  refine (acb w3 q b g tv uv l vs L HE3.out true false rs1 rs' (k1+1) k HS2.out u3 HA3.out Q3.out R3.out).mono ?_
  rintro e w4 ⟨rfl,r1,r2,r3⟩
  have R4:=hide r1
  have C4:=hide (C3.out.trans r2)
  have QE4:=hide r3
  clear r1 r2 r3
  go_wp2
  refine bodyPost_ret (v:=_) (by simp [results,Tryz.results25,go_sem];try rfl) rfl ⟨rfl,R4.out,C4.out,QE4.out⟩
 | bad4 k1 rs1 t hs1 ht hsg _ _ hs2 t2 ht2 hk =>
  have HT:=hide ht
  have HSG:=hide hsg
  clear ht hsg
  have HS2:=hide hs2
  have HT2:=hide ht2
  have HK:=hide hk
  clear hs2 ht2 hk
  have HS1:=hide hs1
  clear hs1
  go_enter Tryz.func25,Tryz.ntmps25
  go_wp2_with fail
  refine (acb w q b g tv uv l vs L HE.out false true rs rs1 i k1 HS1.out av HA.out HR.out H.out).mono ?_
  rintro e w1 ⟨rfl,r1,r2,r3⟩
  have R1:=hide r1
  have C1:=hide r2
  have Q1:=hide r3
  clear r1 r2 r3
  have K:=abn w1 q b tv uv l vs k1 t R1.out HT.out sEq (fun h3=>HE.out.wf.more HT.out (by rw [h3];decide)) HE.out.wf.len
  rw [HSG.out] at K
  unfold sEq at K
  have K:=hide K
  go_wp2_with fail
  refine K.out.mono ?_
  rintro e w2 ⟨rfl,s1,s2⟩
  have R2:=hide s1
  have C2:=hide (C1.out.trans s2.wide)
  have Q2:=hide (Q1.out.rc s2 HE.out.gq (fun e=>HE.out.qb e.symm))
  clear s1 s2 K
  rw [if_pos trivial] at R2
  have HE2:=hide (HE.out.rc H.out HR.out C2.out)
  go_wp2_with fail
  refine (acw w2 av q b g false (HA.out.rc C2.out) (aaa R2.out.blk) (aaa Q2.out.row.choose_spec.2.1)).mono ?_
  rintro e w3 ⟨u3,rfl,ha3,hb3⟩
  have HA3:=hide ha3
  have R3:=hide (R2.out.below hb3)
  have C3:=hide (C2.out.trans (.of_below hb3))
  have Q3:=hide (Q2.out.below hb3)
  have HE3:=hide (HE2.out.rc R2.out Q2.out (.of_below hb3))
  clear ha3 hb3
  go_wp2_with fail
  refine (acb w3 q b g tv uv l vs L HE3.out true true rs1 rs' (k1+1) k HS2.out u3 HA3.out Q3.out R3.out).mono ?_
  rintro e w4 ⟨rfl,r1,r2,r3⟩
  have R4:=hide r1
  have C4:=hide (C3.out.trans r2)
  have QE4:=hide r3
  clear r1 r2 r3
  have hf0:∀ W,(Instr.field 64 (.agg #[.int .i64 t2.kind,.string t2.text,.int .i64 t2.pl.b,.int .i64 t2.pl.g,.int .i64 t2.pl.l,.int .i64 t2.pl.c]) 0).run Tryz.prog W=.ok (.int .i64 t2.kind) W:=fun W=>adq _ _ _ _ _ _ W
  go_wp2_with fail
  refine (aa5 w4 q b tv uv l vs k t2 R4.out HT2.out).mono ?_
  rintro e w5 ⟨rfl,hb5⟩
  have R5:=hide (R4.out.below hb5)
  have C5:=hide (C4.out.trans (.of_below hb5))
  have Q5:=hide (QE4.out.below hb5)
  unfold Tk.av
  clear hb5
  have hk0:(t2.kind == 0)=false:=beq_eq_false_iff_ne.2 HK.out
  go_wp2
  refine bodyPost_ret (v:=_) (by simp [results,Tryz.results25,go_sem];try rfl) rfl ⟨rfl,R5.out,C5.out,Q5.out⟩
 | good k1 rs1 t hs1 ht hsg _ _ hs2 t2 ht2 hk =>
  have HT:=hide ht
  have HSG:=hide hsg
  clear ht hsg
  have HS2:=hide hs2
  have HT2:=hide ht2
  have HK:=hide hk
  clear hs2 ht2 hk
  have HS1:=hide hs1
  clear hs1
  go_enter Tryz.func25,Tryz.ntmps25
  go_wp2_with fail
  refine (acb w q b g tv uv l vs L HE.out false true rs rs1 i k1 HS1.out av HA.out HR.out H.out).mono ?_
  rintro e w1 ⟨rfl,r1,r2,r3⟩
  have R1:=hide r1
  have C1:=hide r2
  have Q1:=hide r3
  clear r1 r2 r3
  have K:=abn w1 q b tv uv l vs k1 t R1.out HT.out sEq (fun h3=>HE.out.wf.more HT.out (by rw [h3];decide)) HE.out.wf.len
  rw [HSG.out] at K
  unfold sEq at K
  have K:=hide K
  go_wp2_with fail
  refine K.out.mono ?_
  rintro e w2 ⟨rfl,s1,s2⟩
  have R2:=hide s1
  have C2:=hide (C1.out.trans s2.wide)
  have Q2:=hide (Q1.out.rc s2 HE.out.gq (fun e=>HE.out.qb e.symm))
  clear s1 s2 K
  rw [if_pos trivial] at R2
  have HE2:=hide (HE.out.rc H.out HR.out C2.out)
  go_wp2_with fail
  refine (acw w2 av q b g false (HA.out.rc C2.out) (aaa R2.out.blk) (aaa Q2.out.row.choose_spec.2.1)).mono ?_
  rintro e w3 ⟨u3,rfl,ha3,hb3⟩
  have HA3:=hide ha3
  have R3:=hide (R2.out.below hb3)
  have C3:=hide (C2.out.trans (.of_below hb3))
  have Q3:=hide (Q2.out.below hb3)
  have HE3:=hide (HE2.out.rc R2.out Q2.out (.of_below hb3))
  clear ha3 hb3
  go_wp2_with fail
  refine (acb w3 q b g tv uv l vs L HE3.out true true rs1 rs' (k1+1) k HS2.out u3 HA3.out Q3.out R3.out).mono ?_
  rintro e w4 ⟨rfl,r1,r2,r3⟩
  have R4:=hide r1
  have C4:=hide (C3.out.trans r2)
  have QE4:=hide r3
  clear r1 r2 r3
  have hf0:∀ W,(Instr.field 64 (.agg #[.int .i64 t2.kind,.string t2.text,.int .i64 t2.pl.b,.int .i64 t2.pl.g,.int .i64 t2.pl.l,.int .i64 t2.pl.c]) 0).run Tryz.prog W=.ok (.int .i64 t2.kind) W:=fun W=>adq _ _ _ _ _ _ W
  go_wp2_with fail
  refine (aa5 w4 q b tv uv l vs k t2 R4.out HT2.out).mono ?_
  rintro e w5 ⟨rfl,hb5⟩
  have R5:=hide (R4.out.below hb5)
  have C5:=hide (C4.out.trans (.of_below hb5))
  have Q5:=hide (QE4.out.below hb5)
  unfold Tk.av
  clear hb5
  have hk0:(t2.kind == 0)=true:=beq_iff_eq.2 HK.out
  go_wp2
  refine bodyPost_ret (v:=_) (by simp [results,Tryz.results25,go_sem];try rfl) rfl ⟨rfl,R5.out,C5.out,Q5.out⟩
theorem ak9 (p:Gl→Bool) (l:List Gl):(l.dropWhile p).length≤l.length:=by
 induction l with
 | nil=>simp
 | cons x l ih =>
  simp only [List.dropWhile_cons]
  split
  ·simp only [List.length_cons];omega
  ·exact Nat.le_refl _
theorem arw {s:ByteArray} {e:Pl} {g:Gl} {r:List Gl} {k:Int} {x:ByteArray} {t:List Gl} (h:TokR s e g r (.ok k x t)):t.length≤r.length∧k≠0:=by
 unfold TokR at h
 split at h
 ·next h2 =>
  split at h
  ·cases h
  ·injection h with h1 h3 h4
   subst h1 h4
   refine ⟨?_,by decide⟩
   rw [List.dropWhile_cons,if_pos (by simp [inC,h2])]
   exact ak9 _ _
 ·split at h
  ·next h2 =>
   obtain ⟨n,ds,_,_,h⟩:=h
   split at h
   ·cases h
   ·injection h with h1 h3 h4
    subst h1 h4
    refine ⟨?_,by decide⟩
    rw [List.dropWhile_cons,if_pos (by simp [inC,h2])]
    exact ak9 _ _
  ·split at h
   ·unfold signS at h
    split at h
    ·injection h with h1 h3 h4
     subst h1 h4
     exact ⟨Nat.le_refl _,by decide⟩
    ·split at h
     ·injection h with h1 h3 h4
      subst h1 h4
      exact ⟨Nat.le_refl _,by decide⟩
     ·split at h
      ·cases r with
       | nil=>cases h
       | cons y r =>
        simp only at h
        split at h
        ·injection h with h1 h3 h4
         subst h1 h4
         exact ⟨by simp,by decide⟩
        ·cases h
      ·injection h with h1 h3 h4
       subst h1 h4
       exact ⟨Nat.le_refl _,by decide⟩
   ·cases h
theorem aue {s:ByteArray} {e:Pl} {r:List Gl} {o:SO} (h:ScanR s e r o):∀ l,o=.ok l→l.length≤r.length+1∧0<l.length∧∀ (i:Nat) (t:Tk),l[i]? = some t→i+1=l.length→t.kind=0∧t.text=⟨#[]⟩:=by
 induction h with
 | done r h hb =>
  intro l hl
  injection hl with hl
  subst hl
  refine ⟨by simp,by simp,fun i t ht hi=>?_⟩
  have:i=0:=by simpa using hi
  subst this
  simp at ht
  subst ht
  exact ⟨rfl,rfl⟩
 | rune r h hb=>intro l hl;cases hl
 | bad r g t k h ht=>intro l hl;cases hl
 | tok r g t kind text rest o h ht hr ih =>
  intro l hl
  cases o with
  | bad k p=>cases hl
  | ok l' =>
   injection hl with hl
   subst hl
   obtain ⟨i1,i0,i2⟩:=ih l' rfl
   have h1:=(arw ht).1
   obtain ⟨j,hj,hd⟩:=at1 false r
   have h2:t.length+1≤r.length:=by
    have:(g :: t).length=r.length - j:=by rw [←h,hd,List.length_drop]
    simp at this
    omega
   refine ⟨by simp only [List.length_cons];omega,by simp,fun i u hu hi=>?_⟩
   cases i with
   | zero=>simp only [List.length_cons] at hi;omega
   | succ i=>exact i2 i u (by simpa using hu) (by simp only [List.length_cons] at hi;omega)
theorem apa {s:ByteArray} {e:Pl} {gs:List Gl} {l:List Tk} (hs:s.size≤4096) (hQ:Snd s pl0 gs e) (hR:ScanR s e gs (.ok l)):Wf l∧0<l.length:=by
 obtain ⟨h1,h0,h2⟩:=aue hR l rfl
 have h3:=hQ.ends ad9 (Nat.zero_le _)
 have:pl0.b=0:=rfl
 exact ⟨⟨by omega,h2⟩,h0⟩
theorem am3 {fn:Func} {a:Act} {w:World} {k k' m g:Nat} {v v' x0 x1 x2 x3:Value} (hr:fn.results = #[.tmp k,.tmp k',.cell m 32]) (h1:a.eval (.tmp k)=v) (h2:a.eval (.tmp k')=v') (h3:a.eval (.tmp m)=.pointer (some ⟨g,0,none⟩)) (hh:w.heap[g]? = some (.cells #[x0,x1,x2,x3] 32 (0,0))):(results fn a.tmps).run Tryz.prog w=.ok (.tuple #[v,v',.agg #[x0,x1,x2,x3]]) w:=by
 have e1:a.tmps[k]?.getD undef=v:=by simpa [Act.eval] using h1
 have e2:a.tmps[k']?.getD undef=v' := by simpa [Act.eval] using h2
 have e3:a.tmps[m]?.getD undef=.pointer (some ⟨g,0,none⟩):=by simpa [Act.eval] using h3
 have c0:w.cell? ⟨g,0,none⟩ = some x0:=by rw [cell_of_row _ _ _ _ _ (0,0) hh];rfl
 have c1:w.cell? ⟨g,1,none⟩ = some x1:=by rw [cell_of_row _ _ _ _ _ (0,0) hh];rfl
 have c2:w.cell? ⟨g,2,none⟩ = some x2:=by rw [cell_of_row _ _ _ _ _ (0,0) hh];rfl
 have c3:w.cell? ⟨g,3,none⟩ = some x3:=by rw [cell_of_row _ _ _ _ _ (0,0) hh];rfl
 simp [results,hr,e1,e2,e3,go_sem,c0,c1,c2,c3,asAddr]
theorem arx {W:World} {f:Nat} {x y z t:Value} {T:TypeId} (h:W.heap[f]? = some (.cells #[x,y,z,t] T (0,0))) (a b c d:Value):((((W.setCell ⟨f,0,none⟩ a).setCell ⟨f,1,none⟩ b).setCell ⟨f,2,none⟩ c).setCell ⟨f,3,none⟩ d).heap[f]? = some (.cells #[a,b,c,d] T (0,0)):=by
 have s1:=heap_setCell_same W f 0 _ _ a h
 have s2:=heap_setCell_same _ f 1 _ _ b s1
 have s3:=heap_setCell_same _ f 2 _ _ c s2
 have s4:=heap_setCell_same _ f 3 _ _ d s3
 rw [s4]
 simp
theorem ayp {W:World} {f:Nat} {x y z t:Int} (h:W.heap[f]? = some (.cells #[.int .i64 x,.int .i64 y,.int .i64 z,.int .i64 t] 32 (0,0))) (a b c d:Value):Ru W ((((W.setCell ⟨f,0,none⟩ a).setCell ⟨f,1,none⟩ b).setCell ⟨f,2,none⟩ c).setCell ⟨f,3,none⟩ d):=by
 refine Ru.of_one h (by decide) ?_ (by simp [World.setCell]) (fun k _ hn=>by rw [heap_setCell_other _ ⟨f,3,none⟩ k _ hn,heap_setCell_other _ ⟨f,2,none⟩ k _ hn,heap_setCell_other _ ⟨f,1,none⟩ k _ hn,heap_setCell_other _ ⟨f,0,none⟩ k _ hn])
 intro i z
 match i with
 | 0=>simp
 | 1=>simp
 | 2=>simp
 | 3=>simp
 | i+4=>simp
theorem aig {W:World} {f:Nat} {x y z t:Value} {T:TypeId} (h:W.heap[f]? = some (.cells #[x,y,z,t] T (0,0))):f<W.heap.size∧W.cell? ⟨f,0,none⟩ = some x∧W.cell? ⟨f,1,none⟩ = some y∧W.cell? ⟨f,2,none⟩ = some z∧W.cell? ⟨f,3,none⟩ = some t∧W.frozen? ⟨f,0,none⟩ = false∧W.frozen? ⟨f,1,none⟩ = false∧W.frozen? ⟨f,2,none⟩ = false∧W.frozen? ⟨f,3,none⟩ = false:=⟨aaa h,by rw [cell_of_row _ _ _ _ _ (0,0) h];rfl,by rw [cell_of_row _ _ _ _ _ (0,0) h];rfl,by rw [cell_of_row _ _ _ _ _ (0,0) h];rfl,by rw [cell_of_row _ _ _ _ _ (0,0) h];rfl,frozen_of_row _ _ _ _ _ h,frozen_of_row _ _ _ _ _ h,frozen_of_row _ _ _ _ _ h,frozen_of_row _ _ _ _ _ h⟩
theorem auf {w:World} {g b n:Nat} {L:Nat} (hg:w.heap[g]? = some (.cells #[.slice (some ⟨b,0,none⟩) n n] 35 (0,0))) (hb:w.heap[b]? = some (.cells (rf3 (List.replicate n ⟨false,none,0,0,none,0,0⟩)).toArray 40 (0,0))) (hne:g≠b):RQ w g b (List.replicate n 0) L:=by
 refine ⟨by simpa using hg,⟨_,by simp,hb,fun i e r he hr=>?_⟩,hne⟩
 obtain rfl:=List.eq_of_mem_replicate (List.mem_of_getElem? he)
 obtain rfl:=List.eq_of_mem_replicate (List.mem_of_getElem? hr)
 exact ⟨0,0,⟨_,_,_,_,[],_,_,_,[],rfl,⟨aft w,rfl⟩,aft w,rfl,by simp,by simp⟩,Rat.divInt_zero 0⟩
set_option maxRecDepth 20000 in
set_option maxHeartbeats 8000000 in
theorem afq (w:World) (hT:Tabs w) (s:ByteArray) (hs:s.size≤4096) (v:Value) (vs:List ByteArray) (hv:Strs w v vs) (hN:NmsOk vs) (gs:List Gl) (e:Pl) (l:List Tk) (hQ:Snd s pl0 gs e) (hR:ScanR s e gs (.ok l)) (L M:Nat) (hL:L≤10000) (hL1:1≤L) (hM:M≤100000) (k:Nat) (rs:List Rat) (hE:EqR l vs L 0 (List.replicate (vs.length+1) 0) true k rs) (hrl:rs.length=vs.length+1) (hC:∀ k,k≤rs.length→((comR (rs.take k)).natAbs:Int)<pw M) (hD:∀ z ∈ clr rs,(z.natAbs:Int)<pw M) (hnov:(⟨#[]⟩:ByteArray) ∉ vs) :
  Calls Tryz.prog 10 #[.string s,v] w fun r w'=>Below w.heap.size w w'∧(((∀ z ∈ canonZ rs,(z.natAbs:Int)<pw 32)∧∃ x,r=.returned (.tuple #[x,.int .i64 0,.agg #[.int .i64 0,.int .i64 0,.int .i64 0,.int .i64 0]])∧ORow w.heap.size w' x (canonZ rs) M)∨((∃ z ∈ canonZ rs,¬ (z.natAbs:Int)<pw 32)∧r=.returned (.tuple #[.slice none 0 0,.int .i64 2,.agg #[.int .i64 0,.int .i64 0,.int .i64 0,.int .i64 0]]))):=by
 obtain ⟨av,cv,rfl,_⟩:=id hv
 have hvl:vs.length≤16:=hN.1
 have hb0:Below w.heap.size w (w.alloc (.cells #[.int .i64 0,.int .i64 0,.int .i64 0,.int .i64 0] 32)):=hAl _ _
 have K:=ajd _ (hT.below hb0) _ vs (hv.below hb0)
 rw [show nmsE vs=0 from if_pos hN] at K
 have K:=hide K
 have HT:=hide hT
 have HV:=hide hv
 have HQ:=hide hQ
 have HR:=hide hR
 have HE:=hide hE
 have HC:=hide (And.intro hC hD)
 have HRL:=hide hrl
 obtain ⟨hWf,hl0⟩:=apa hs hQ hR
 have HWf:=hide hWf
 have HNV:=hide hnov
 obtain ⟨iR,hi,hz0,hz1,hz2⟩:=info_parts infoRz
 clear hT hv hQ hR hE hC hD hrl hWf hnov hN
 go_enter Tryz.func10,Tryz.ntmps10
 go_wp2_with fail
 refine K.out.mono ?_
 rintro r w1 ⟨rfl,hb1⟩
 have hb1' := hb0.trans (hb1.mono hb0.size)
 have hf6:w1.heap[w.heap.size]? = some (.cells #[.int .i64 0,.int .i64 0,.int .i64 0,.int .i64 0] 32 (0,0)):=(hb1.block _ (by simp)).trans (heap_alloc_new w _)
 clear K hb0 hb1
 go_wp2_with fail
 refine (aia w1 s (HT.out.below hb1') hs).mono ?_
 rintro r w2 ⟨hb2,gs',e',o,s1,s2,s3⟩
 obtain ⟨rfl,rfl⟩:=s1.one HQ.out
 obtain rfl:=s2.one HR.out
 obtain ⟨tv,rfl,hown⟩:=s3
 have hts:Ts w2 tv l:=Ts.own hown
 have hb2' := hb1'.trans (hb2.mono hb1'.size)
 have hf62:=(hb2.block _ (aaa hf6)).trans hf6
 have hbA:=hAl w2 (.cells #[.int .i64 0,.int .i64 0,.int .i64 0,.int .i64 0] 32)
 have hb3:=hb2'.trans (hbA.mono hb2'.size)
 obtain ⟨at_,ct,rfl,_⟩:=hts.parts
 have HTS:=hide (hts.below hbA)
 have HF6:=hide (aav (o' := .cells #[.int .i64 0,.int .i64 0,.int .i64 0,.int .i64 0] 32) hf62)
 have HB3:=hide hb3
 have hlt2:w.heap.size<w2.heap.size:=aaa hf62
 have hT2:w2.ownsRow w1.heap.size 64 6 (.slice at_ l.length ct) l.length (tflat l):=hown
 have HOWN:=hide hT2
 unfold Pl.v plz
 clear hb1' hb2 hb2' hf6 hf62 s1 s2 hown hts hT2
 go_wp2_with (refine wpList_make_full _ rfl (.tmp 36) (.tmp 36) 35 rfl w.heap.size 40 iR (.agg #[.bool false,.slice none 0 0,.slice none 0 0]) 3 Tryz.underlying35 hi hz0 hz1 .i64 .i64 _ _ (vs.length+1) rfl rfl (by omega) (by omega) (by rw [hz2];omega) (by unfold maxLen;omega) HB3.out.size ?hK)
 case hK =>
  intro w4 hown hgrow
  have hb4:=(Below.refl _ _).grown hgrow (Nat.le_refl _) (by simp)
  obtain ⟨_,hmb⟩:=ad1 hown
  rw [aid] at hmb
  have hsz4:(w2.alloc (.cells #[.int .i64 0,.int .i64 0,.int .i64 0,.int .i64 0] 32)).heap.size=w2.heap.size+1:=by simp
  have hbl4:w2.heap.size+1<w4.heap.size:=aaa hmb
  generalize hW5:w4.alloc (.cells #[.slice (some ⟨w2.heap.size+1,0,none⟩) (vs.length+1) (vs.length+1)] 35)=w5
  have hb45:Below w4.heap.size w4 w5:=by rw [←hW5];exact hAl _ _
  have hg5:w5.heap[w4.heap.size]? = some (.cells #[.slice (some ⟨w2.heap.size+1,0,none⟩) (vs.length+1) (vs.length+1)] 35 (0,0)):=by rw [←hW5];exact heap_alloc_new _ _
  have hs5:w5.heap.size=w4.heap.size+1:=by rw [←hW5];simp
  generalize hW6:w5.alloc (.cells #[.slice at_ l.length ct,.int .i64 0,.slice av vs.length cv] 59)=w6
  have hb56:Below w5.heap.size w5 w6:=by rw [←hW6];exact hAl _ _
  have hq6:w6.heap[w4.heap.size+1]? = some (.cells #[.slice at_ l.length ct,.int .i64 ((0:Nat):Int),.slice av vs.length cv] 59 (0,0)):=by rw [←hW6,←hs5];exact heap_alloc_new _ _
  have hb46:=hb45.trans (hb56.mono hb45.size)
  have hb36:=hb4.trans (hb46.mono hb4.size)
  have hb06:Below w.heap.size w w6:=HB3.out.trans (hb36.mono HB3.out.size)
  have hRQ:RQ w6 w4.heap.size (w2.heap.size+1) (List.replicate (vs.length+1) 0) L:=by
   refine auf ((hb56.block _ (aaa hg5)).trans hg5) ((hb46.block _ (aaa hmb)).trans hmb) (by omega)
  have hsw:w.heap.size≤w2.heap.size+1:=by have:=HB3.out.size;omega
  have hRE:Rea w6 (w4.heap.size+1) (w2.heap.size+1) (.slice at_ l.length ct) (.slice av vs.length cv) l vs 0:=by
   refine ⟨hq6,HTS.out.below hb36,HV.out.below hb06,hl0,?_,?_⟩
   ·rintro _ b' off n c hv'
    have hts2:Ts w2 (.slice at_ l.length ct) l:=Ts.own HOWN.out
    obtain ⟨ao',cap',e1,_,_,_,e4⟩:=hts2
    rcases e4 with e4 | ⟨b2,off2,e4,hl2,_⟩
    ·omega
    ·rw [e4] at e1
     have e5:=hv'.symm.trans e1
     simp only [Value.slice.injEq,Option.some.injEq,Addr.mk.injEq] at e5
     omega
   ·rintro hp b' off n c hv'
    obtain ⟨ao',cap',e1,_,_,_,e4⟩:=HV.out
    rcases e4 with e4 | ⟨b2,off2,e4,hl2,_⟩
    ·omega
    ·rw [e4] at e1
     have e5:=hv'.symm.trans e1
     simp only [Value.slice.injEq,Option.some.injEq,Addr.mk.injEq] at e5
     omega
  have hEnv:Env w6 (w4.heap.size+1) (w2.heap.size+1) w4.heap.size (.slice at_ l.length ct) (.slice av vs.length cv) l vs L:=⟨HT.out.below hb06,HWf.out,HNV.out,hL,hL1,by omega,by omega⟩
  have KE:=hide (ajv w6 _ _ _ _ _ l vs L hEnv true _ rs 0 k HE.out _ .base hRQ hRE)
  have HF66:=hide ((hb36.block _ (aaa HF6.out)).trans HF6.out)
  have HB06:=hide hb06
  have hgl:w4.heap.size<w6.heap.size:=by have:=hb56.size;omega
  have HRQ:=hide hRQ
  have HW5:=hide hW5
  have HW6:=hide hW6
  clear hW5 hW6 hRQ hRE hEnv hb36 hb06 hb46 hb45 hb56 hb4 hmb hown hgrow hg5 hq6
  go_wp2_with fail
  rw [HW5.out,HW6.out]
  refine KE.out.mono ?_
  rintro r w7 ⟨rfl,_,hrc,hrq⟩
  have hb07:Below w.heap.size w w7:=HB06.out.trans (hrc.below HB06.out.size (by omega) hsw)
  have hf67:=(hrc.other _ (aaa HF66.out) (by omega) (by omega)).trans HF66.out
  have hsl:=hrq.slot
  have HIS:=hide (hrq.row_is (by rw [HRL.out];omega))
  rw [HRL.out] at hsl HIS
  have sg0:w7.cell? ⟨w4.heap.size,0,none⟩ = some (.slice (some ⟨w2.heap.size+1,0,none⟩) (vs.length+1) (vs.length+1)):=by rw [cell_of_row _ _ _ _ _ (0,0) hsl];rfl
  have HF67:=hide hf67
  have HB07:=hide hb07
  clear hrc hrq hb07 hf67 hsl KE
  go_wp2_with fail
  refine (arn w7 _ rs L M HIS.out hL hL1 hM (by rw [HRL.out];omega) HC.out.1 HC.out.2 (by intro h;have:=HRL.out;rw [h] at this;simp at this)).mono ?_
  rintro r w8 ⟨hb8,⟨hsm,x,rfl,hor⟩ | ⟨hbig,rfl⟩⟩
  ·have hf68:=(hb8.block _ (aaa HF67.out)).trans HF67.out
   have HF68:=hide hf68
   have HB8:=hide (HB07.out.trans (hb8.mono HB07.out.size))
   obtain ⟨bv,rfl,hbv⟩:=id hor
   have HOR:=hide hor
   have HSM:=hide hsm
   have h78:=HB07.out.size
   obtain ⟨hfl,c0,c1,c2,c3,f0,f1,f2,f3⟩:=aig hf68
   clear hb8 hf68 hor hsm sg0
   go_wp2
   refine bodyPost_ret (v:=.tuple #[.slice (some ⟨bv,0,none⟩) (canonZ rs).length (canonZ rs).length,.int .i64 0,.agg #[.int .i64 0,.int .i64 0,.int .i64 0,.int .i64 0]]) (am3 (g:=w.heap.size) rfl rfl rfl rfl (arx HF68.out _ _ _ _)) rfl ⟨?_,.inl ⟨HSM.out,_,rfl,?_⟩⟩
   ·exact (((HB8.out.setCell (Nat.le_refl _) _).setCell (Nat.le_refl _) _).setCell (Nat.le_refl _) _).setCell (Nat.le_refl _) _
   ·obtain ⟨bv',e1,e2,e3,e4⟩:=HOR.out
    have hbb:bv≠w.heap.size:=by have:=hbv.1;have:=aaa HF67.out;omega
    obtain rfl:bv' = bv:=by
     simp only [Value.slice.injEq,Option.some.injEq,Addr.mk.injEq] at e1
     exact e1.1.1.symm
    refine ⟨bv',rfl,by omega,(PRow.low e3 h78).ru (ayp HF68.out _ _ _ _) ?_,e4⟩
    rw [heap_setCell_other _ ⟨w.heap.size,3,none⟩ _ _ hbb,heap_setCell_other _ ⟨w.heap.size,2,none⟩ _ _ hbb,heap_setCell_other _ ⟨w.heap.size,1,none⟩ _ _ hbb,heap_setCell_other _ ⟨w.heap.size,0,none⟩ _ _ hbb]
  ·have hf68:=(hb8.block _ (aaa HF67.out)).trans HF67.out
   have HF68:=hide hf68
   have HB8:=hide (HB07.out.trans (hb8.mono HB07.out.size))
   have HBG:=hide hbig
   obtain ⟨hfl,c0,c1,c2,c3,f0,f1,f2,f3⟩:=aig hf68
   clear hb8 hf68 hbig sg0
   go_wp2
   refine bodyPost_ret (v:=.tuple #[.slice none 0 0,.int .i64 2,.agg #[.int .i64 0,.int .i64 0,.int .i64 0,.int .i64 0]]) (am3 (g:=w.heap.size) rfl rfl rfl rfl (arx HF68.out _ _ _ _)) rfl ⟨?_,.inr ⟨HBG.out,rfl⟩⟩
   exact (((HB8.out.setCell (Nat.le_refl _) _).setCell (Nat.le_refl _) _).setCell (Nat.le_refl _) _).setCell (Nat.le_refl _) _
noncomputable def dig (x:Int):List Int:=@Classical.epsilon (List Int) ⟨[]⟩ fun ds=>IsDec ds x
theorem af9 {ds:List Int} {x:Int} (h:IsDec ds x):ds=dig x:=ai0 h (@Classical.epsilon_spec (List Int) (fun ds=>IsDec ds x) ⟨ds,h⟩)
noncomputable def txt (z:Int):ByteArray:=if z<0 then strOfNums (45 :: dig (z.natAbs:Int)) else strOfNums (dig (z.natAbs:Int))
theorem ary {b:Bool} {x z:Int} (hx:0≤x) (h:sg b x=z):x=(z.natAbs:Int):=by
 subst h
 cases b <;> simp [sg] <;> omega
section
end
section
end
end Lm
end Go.Proofs.YtdjgifcmhafppaaGreatDoor
namespace Go.Proofs.YtdjgifcmhafppaaGreatDoor
namespace Lm
open Go Go.RowKit
open Dm (Err Fine)
theorem aga {ds:List Int} (h:∀ c ∈ ds,0≤c∧c<256):bytesOf (strOfNums ds)=ds:=by
 rw [bytesOf,strOfNums_data,List.map_map]
 conv=>rhs;rw [←List.map_id ds]
 apply List.map_congr_left
 intro c hc
 have:=h c hc
 simp only [Function.comp_apply,id]
 have e:(UInt8.ofNat c.toNat).toNat=c.toNat:=by
  simp
  omega
 rw [e]
 omega
theorem axz (n:Nat):∃ ds,IsDec ds (n:Int):=by
 induction n using Nat.strongRecOn with
 | _ n ih =>
  by_cases h:n<10
  ·refine ⟨[48+(n:Int)],acp.2 ⟨by omega,ac7⟩,by simp [dval,p10];omega,?_⟩
   by_cases h0:n=0
   ·subst h0;exact .inl ⟨rfl,rfl⟩
   ·exact .inr ⟨_,_,rfl,by omega⟩
  ·obtain ⟨ds,h1,h2,h3⟩:=ih (n / 10) (by omega)
   refine ⟨ds ++ [48+((n % 10:Nat):Int)],afg h1 (by omega) (by omega),by rw [af1,h2];omega,.inr ?_⟩
   rcases h3 with ⟨h3,_⟩ | ⟨c,cs,rfl,hc⟩
   ·omega
   ·exact ⟨c,cs ++ [48+((n % 10:Nat):Int)],rfl,hc⟩
theorem adm (n:Nat):IsDec (dig (n:Int)) (n:Int):=by
 obtain ⟨ds,h⟩:=axz n
 rw [←af9 h]
 exact h
theorem ajg {ds:List Int} {x:Int} {n:Nat} (h:IsDec ds x) (hx:x<p10 n) (hn:1≤n):ds.length≤n:=by
 rcases h.2.2 with ⟨_,rfl⟩ | ⟨c,cs,rfl,hc⟩
 ·simpa using hn
 ·have h1:=h.1 c (by simp)
  have h2:=h.2.1
  simp only [dval] at h2
  have h3:=(abb (show Dig cs from fun y hy=>h.1 y (by simp [hy]))).1
  apply Classical.byContradiction
  intro hl
  have h4:=abt (m:=n) (n:=cs.length) (by simp at hl;omega)
  have h5:1*p10 cs.length≤(c - 48)*p10 cs.length:=Int.mul_le_mul_of_nonneg_right (by omega) (by have:=ab4 cs.length;omega)
  omega
theorem dig8 {x:Int} {ds:List Int} (h:IsDec ds x):∀ c ∈ ds,0≤c∧c<256:=fun c hc=>by have:=h.1 c hc;omega
theorem awe {z:Int} (h:¬ z<0):bytesOf (txt z)=dig (z.natAbs:Int):=by
 rw [txt,if_neg h,aga (dig8 (adm _))]
theorem awf {z:Int} (h:z<0):bytesOf (txt z)=45 :: dig (z.natAbs:Int):=by
 rw [txt,if_pos h,aga]
 intro c hc
 rcases List.mem_cons.1 hc with rfl | hc
 ·omega
 ·exact dig8 (adm _) c hc
end Lm
end Go.Proofs.YtdjgifcmhafppaaGreatDoor
namespace Go.Proofs.YtdjgifcmhafppaaGreatDoor
namespace Lm
open Go Go.RowKit
theorem ago:Has Tryz.prog 18:=by unfold Has;kernel_rfl
theorem aug:Has Tryz.prog 15:=by unfold Has;kernel_rfl
theorem aih {B b:Nat} {p:Value} {bs:List Value} {W W' : World} (h:Lib.BuilderAtF 84 5 B b p bs W) (hk:Below W.heap.size W W'):Lib.BuilderAtF 84 5 B b p bs W' := by
 have hlt:=h.lt
 obtain ⟨h1,v,h2,h3,h4⟩:=h
 have hg:W.grownBy W' none:=⟨hk.os,hk.tape,hk.output,hk.size,fun k h _=>hk.block k h⟩
 exact ⟨h1,v,(hk.block b hlt).trans h2,h3.kept (row:=none) hg (Classical.em _),h4⟩
theorem Bld.keep {W W' : World} {B b:Nat} {l:List UInt8} (h:Bld W B b l) (hk:Below W.heap.size W W'):Bld W' B b l:=by
 rcases h with h | h
 ·exact .inl (aih h hk)
 ·exact .inr (aih h hk)
def tpre (z:Int) (first:Bool):List UInt8:=if first then (if z<0 then [45] else []) else (if z<0 then [32,45,32] else [32,43,32])
noncomputable def tterm (z:Int) (first:Bool) (nm:List UInt8):List UInt8 :=
 if z=0 then [] else tpre z first ++ ((if z.natAbs=1 then [] else (txt (z.natAbs:Int)).data.toList ++ [42]) ++ nm)
theorem ax0 {z:Int} {L:Nat} {w:World} {ng:Bool} {a:Option Addr} {n c:Nat} (h:IsW z L (.agg #[.bool ng,.slice a n c]) w):IsW (z.natAbs:Int) L (.agg #[.bool false,.slice a n c]) w:=by
 obtain ⟨ng',ao,n',cap,xs,hv,hA,hl⟩:=h
 simp only [Value.agg.injEq,Array.mk.injEq,List.cons.injEq,Value.bool.injEq,Value.slice.injEq,and_true] at hv
 obtain ⟨rfl,rfl,rfl,rfl⟩:=hv
 exact ⟨_,_,_,_,_,rfl,⟨hA.sl,ary (aab hA.sl.parts.2.2.2).1 hA.worth⟩,hl⟩
theorem cmp0 {a b:Int} (h:cmpI a b=0):a=b:=by
 unfold cmpI at h
 split at h
 ·omega
 ·split at h
  ·omega
  ·omega
theorem awg (k:Int):(k != 0)=(!decide (k=0)):=by
 by_cases h:k=0 <;> simp [h]
theorem wtextF (w:World) (z:Int) (v:Value) (L:Nat) (h:IsW z L v w) (hL:L≤1000000) :
  Calls Tryz.prog 16 #[v] w fun e w'=>e=.returned (.string (txt z))∧Below w.heap.size w w' := by
 obtain ⟨ng,ao,n,cap,zs,rfl,A,l⟩:=h
 have hx:=ary (aab A.sl.parts.2.2.2).1 A.worth
 by_cases hz:z<0
 ·refine (aqc w ng ao n cap zs A.sl (by omega) (by rw [A.worth];exact hz)).mono ?_
  rintro e w' ⟨ds,rfl,hd,hb⟩
  rw [hx] at hd
  exact ⟨by rw [txt,if_pos hz,←af9 hd],hb⟩
 ·refine (aqd w ng ao n cap zs A.sl (by omega) (by rw [A.worth];exact hz)).mono ?_
  rintro e w' ⟨ds,rfl,hd,hb⟩
  rw [hx] at hd
  exact ⟨by rw [txt,if_neg hz,←af9 hd],hb⟩
theorem ahk {z:Int} {L:Nat} (h:(z.natAbs:Int)<pw L):(txt z).size≤10*L+2:=by
 have h3:=afr L
 have h4:=abt (m:=10*L) (n:=10*L+1) (by omega)
 have h1:=ajg (adm z.natAbs) (n:=10*L+1) (by omega) (by omega)
 by_cases hz:z<0
 ·rw [←abp,awf hz,List.length_cons];omega
 ·rw [←abp,awe hz];omega
set_option maxRecDepth 20000 in
set_option maxHeartbeats 16000000 in
theorem auh (w:World) (z:Int) (L:Nat) (v:Value) (nm:ByteArray) (first:Bool) (hv:IsW z L v w) (hL:L≤100000) (hs:nm.size≤1000000) :
    Calls Tryz.prog 23 #[v,.string nm,.bool first] w fun e w'=>e=.returned (.string ⟨(tterm z first nm.data.toList).toArray⟩)∧Below w.heap.size w w' := by
  obtain ⟨ng,a,n,c,xs,rfl,_⟩:=id hv
  have hb0:=hAl w (.cells #[.bool ng,.slice a n c] 38)
  have HV:=hide hv
  have K:=hide (signF _ z _ L (hv.ru (Ru.of_below hb0)) (by omega))
  clear hv
  by_cases hz0:z=0
  · have HE:Hid (tterm z first nm.data.toList = []):=if_pos hz0
    have K:=K.out
    rw [hz0,Int.sign_zero] at K
    have K:=hide K
    clear hz0
    go_enter Tryz.func23,Tryz.ntmps23
    go_wp2_with fail
    refine K.out.mono ?_
    rintro e w1 ⟨rfl,hb1⟩
    have HB01:=hide (hb0.trans (hb1.mono hb0.size))
    clear hb0 hb1 K
    go_wp2
    refine bodyPost_ret (v:=_) (adx rfl rfl) rfl ⟨by rw [HE.out];rfl,HB01.out⟩
  have HE:Hid (tterm z first nm.data.toList=tpre z first ++ ((if z.natAbs=1 then [] else (txt (z.natAbs:Int)).data.toList ++ [42]) ++ nm.data.toList)):=if_neg hz0
  obtain ⟨s,hs'⟩:∃ s,Int.sign z=s:=⟨_,rfl⟩
  have hs0:(s == 0)=false:=beq_eq_false_iff_ne.2 (fun e=>hz0 (Int.sign_eq_zero_iff_zero.1 (by omega)))
  have HSZ:Hid (s<0↔z<0):=(show _↔_ by rw [←hs'];exact Int.sign_neg_iff)
  have K:=K.out
  rw [hs'] at K
  have K:=hide K
  clear hz0 hs'
  go_enter Tryz.func23,Tryz.ntmps23
  go_wp2_with fail
  refine K.out.mono ?_
  rintro e w1 ⟨rfl,hb1⟩
  have hx:w1.heap[w.heap.size]? = some (.cells #[.bool ng,.slice a n c] 38 (0,0)):=(hb1.block _ (by simp)).trans (heap_alloc_new w _)
  obtain ⟨hxl,x0,x1,_,_⟩:=aah hx
  have hb01:=hb0.trans (hb1.mono hb0.size)
  have hB:Bld (w1.alloc (.cells #[.pointer none,.slice none 0 0] 84)) w1.heap.size w1.heap.size []:=Lib.IsBuilderF.of (Lib.fresh_isBuilder 84 5 w1)
  have hba0:=hAl w1 (.cells #[.pointer none,.slice none 0 0] 84)
  have HB:=hide hB
  have HB01:=hide hb01
  have HBA:=hide hba0
  clear hb0 hb1 hB K hx hb01 hba0
  obtain ⟨pre,hpl,hpre⟩:∃ pre,pre.length≤3∧tpre z first=pre:=⟨_,by unfold tpre;split <;> split <;> simp,rfl⟩
  rw [hpre] at HE
  have hcs:(first=true∧s<0∧pre = [45])∨(first=false∧s<0∧pre = [32,45,32])∨(first=false∧¬ s<0∧pre = [32,43,32])∨(first=true∧¬ s<0∧pre = []):=by
    rw [←hpre,HSZ.out]
    unfold tpre
    cases first <;> by_cases hz:z<0 <;> simp [hz]
  clear hpre
  have HDT:Hid ((txt (z.natAbs:Int)).size≤10*L+2):=ahk (by rw [Int.natAbs_natCast];exact aeb HV.out)
  rcases hcs with ⟨rfl,hs1,rfl⟩ | ⟨rfl,hs1,rfl⟩ | ⟨rfl,hs1,rfl⟩ | ⟨rfl,hs1,rfl⟩
  all_goals go_wp2_with fail
  all_goals first
    | (refine (bwstr w1.heap.size w1.heap.size [] _ _ HB.out (by simp;decide) (by simp)).mono ?_
       rintro e wa ⟨rfl,hBa,hba,_⟩
       rw [List.nil_append] at hBa
       have hb1a:Below w1.heap.size w1 wa:=HBA.out.trans hba
       have y0:=(hb1a.cell (p:=⟨w.heap.size,0,none⟩) hxl).trans x0
       have y1:=(hb1a.cell (p:=⟨w.heap.size,1,none⟩) hxl).trans x1
       have hxla:w.heap.size<wa.heap.size:=Nat.lt_of_lt_of_le hxl hb1a.size
       clear hba
       go_wp2_with fail
       clear y0 y1 hxla
       generalize hf9:wa.heap.size=f9 at *)
    | (have hBa:=HB.out
       have hb1a:=HBA.out
       have hf9:(w1.alloc (.cells #[.pointer none,.slice none 0 0] 84)).heap.size=w1.heap.size+1:=by simp
       generalize w1.alloc (.cells #[.pointer none,.slice none 0 0] 84)=wa at *
       generalize w1.heap.size+1=f9 at *)
  all_goals (
    have hal2:=hAl wa (.cells #[.bool false,.slice a n c] 38)
    have hnw:=heap_alloc_new wa (.cells #[.bool false,.slice a n c] 38)
    rw [hf9] at hnw
    have hb12:=hb1a.trans (hal2.mono hb1a.size)
    have hB2:=Lib.IsBuilderF.alloc hBa (.cells #[.bool false,.slice a n c] 38)
    generalize (wa.alloc (.cells #[.bool false,.slice a n c] 38))=w2 at *
    have hb02:=HB01.out.trans (hb12.mono HB01.out.size)
    have hsz2:=hb12.size
    have hs01:=HB01.out.size
    have HM:=hide (ax0 (HV.out.ru (Ru.of_below hb02)))
    have HB02:=hide hb02
    obtain ⟨hnl,u0,u1,_,_⟩:=aah hnw
    have HNW:=hide hnw
    have HB2:=hide hB2
    clear hal2 hnw hb12 hB2 hb02 x0 x1 hBa hb1a hf9 HB HBA
    go_cut [34] (fun bv wx=>bv=.bool (!decide (cmpI (z.natAbs:Int) 1=0))∧Below w2.heap.size w2 wx)
    case first =>
      go_region_law (first | (refine aam rfl 18 #[.const (.int .i64 1)] #[3] rfl ago #[.int .i64 1] (by simp [Act.eval]) (acu _ 1 (by decide) (by decide)) ?_;rintro e w3 ⟨ng3,ao3,cap3,rs3,rfl,hw3,hl3,hb3⟩;have ho3:OutW 1 2 (.agg #[.bool ng3,.slice ao3 rs3.length cap3]) w3:=⟨_,_,_,_,rfl,hw3,hl3⟩;have HO3:=hide ho3;have hb23:Below w2.heap.size w2 w3:=(show Below w2.heap.size w2 _ by (repeat' first|with_reducible(first|exact Below.refl _ _|assumption|refine gdrewN ?_ _|refine Below.alloc ?_ ?_ _|refine Below.drew ?_|refine Below.setCell ?_ ?_ _)|go_size)).trans (hb3.mono (by simp));have HB23:=hide hb23;have u03:=(hb23.cell (p:=⟨f9,0,none⟩) hnl).trans u0;have u13:=(hb23.cell (p:=⟨f9,1,none⟩) hnl).trans u1;clear ho3 hb3 hb23 hw3 hl3;refine ⟨_,rfl,?_⟩) | (refine aam rfl 15 #[.tmp 31,.tmp 32] #[38,38] rfl aug #[.agg #[.bool false,.slice a n c],.agg #[.bool ng3,.slice ao3 rs3.length cap3]] (by simp [Act.eval]) (cmpF _ (z.natAbs:Int) 1 _ _ L 2 (HM.out.ru (Ru.of_below HB23.out)) HO3.out.is (by omega) (by omega)) ?_;rintro e w4 ⟨rfl,hb4⟩;have HB24:=hide (HB23.out.trans (hb4.mono HB23.out.size));clear hb4;refine ⟨_,rfl,?_⟩))
      all_goals (
        go_wp2_with fail
        go_meet
        exact ⟨by rw [awg],HB24.out⟩)
    case rest =>
      obtain ⟨rfl,hb5⟩:=hcut
      have hB5:=Bld.keep HB2.out hb5
      have hnw5:=(hb5.block _ (aaa HNW.out)).trans HNW.out
      have HB05:=hide (HB02.out.trans (hb5.mono HB02.out.size))
      have hsz5:w1.heap.size≤wc.heap.size:=Nat.le_trans hsz2 hb5.size
      have HM5:=hide (HM.out.ru (Ru.of_below hb5))
      have hnm8:nm.data.size≤1000000:=hs
      have HBd5:=hide hB5
      clear hb5 hB5 u0 u1
      by_cases h1:z.natAbs=1
      · rw [show (!decide (cmpI (z.natAbs:Int) 1=0))=false by rw [h1];rfl]
        have HE' := HE.out
        rw [if_pos h1,List.nil_append] at HE'
        have HE' := hide HE'
        have K5:=hide (bwstr w1.heap.size w1.heap.size _ nm wc HBd5.out (by simp;omega) hsz5)
        clear hnw5 h1
        go_wp2_with fail
        refine K5.out.mono ?_
        rintro e w6 ⟨rfl,hB6,hb6,_⟩
        have HB06:=hide (HB05.out.trans (hb6.mono hs01))
        have K6:=hide (bstring w1.heap.size w1.heap.size _ w6 hB6 (Nat.le_trans hsz5 hb6.size))
        clear hB6 hb6 K5
        go_wp2_with fail
        refine K6.out.mono ?_
        rintro e w7 ⟨rfl,hb7⟩
        have HB07:=hide (HB06.out.trans (hb7.mono hs01))
        clear hb7 K6
        go_wp2
        refine bodyPost_ret (v:=_) (adx rfl rfl) rfl ⟨by rw [HE'.out];rfl,HB07.out⟩
      · rw [show (!decide (cmpI (z.natAbs:Int) 1=0))=true by
          have hne:cmpI (z.natAbs:Int) 1≠0:=fun h=>h1 (by have:=cmp0 h;omega)
          simp [hne]]
        have HE' := HE.out
        rw [if_neg h1] at HE'
        have HE' := hide HE'
        obtain ⟨hnl5,v0,v1,_,_⟩:=aah hnw5
        have KT:=hide (wtextF wc _ _ L HM5.out (by omega))
        obtain ⟨sd,hsd⟩:∃ sd,txt (z.natAbs:Int)=sd:=⟨_,rfl⟩
        rw [hsd] at KT HE' HDT
        clear hnw5 h1 hsd
        go_wp2_with fail
        refine KT.out.mono ?_
        rintro e w6 ⟨rfl,hb6⟩
        have HB06:=hide (HB05.out.trans (hb6.mono HB05.out.size))
        have hds7:sd.data.size≤1000002:=by have:sd.size≤10*L+2:=HDT.out;show sd.size≤_;omega
        have hsz6:=Nat.le_trans hsz5 hb6.size
        have K6:=hide (bwstr w1.heap.size w1.heap.size _ sd w6 (Bld.keep HBd5.out hb6) (by simp only [List.length_cons,List.length_nil];show _+sd.data.size≤_;omega) hsz6)
        clear hb6 v0 v1 KT
        go_wp2_with fail
        refine K6.out.mono ?_
        rintro e w7 ⟨rfl,hB7,hb7,_⟩
        have HB07:=hide (HB06.out.trans (hb7.mono hs01))
        have hsz7:=Nat.le_trans hsz6 hb7.size
        have K7:=hide (bwstr w1.heap.size w1.heap.size _ ⟨#[42]⟩ w7 hB7 (by simp only [List.length_append,List.length_cons,List.length_nil,Array.length_toList];show _+1≤_;omega) hsz7)
        clear hB7 hb7 K6
        go_wp2_with fail
        refine K7.out.mono ?_
        rintro e w8 ⟨rfl,hB8,hb8,_⟩
        have HB08:=hide (HB07.out.trans (hb8.mono hs01))
        have hsz8:=Nat.le_trans hsz7 hb8.size
        have K8:=hide (bwstr w1.heap.size w1.heap.size _ nm w8 hB8 (by simp only [List.length_append,List.length_cons,List.length_nil,Array.length_toList];show _+nm.data.size≤_;omega) hsz8)
        clear hB8 hb8 K7
        go_wp2_with fail
        refine K8.out.mono ?_
        rintro e w9 ⟨rfl,hB9,hb9,_⟩
        have HB09:=hide (HB08.out.trans (hb9.mono hs01))
        have K9:=hide (bstring w1.heap.size w1.heap.size _ w9 hB9 (Nat.le_trans hsz8 hb9.size))
        clear hB9 hb9 K8
        go_wp2_with fail
        refine K9.out.mono ?_
        rintro e w10 ⟨rfl,hb10⟩
        have HB10:=hide (HB09.out.trans (hb10.mono hs01))
        clear hb10 K9
        go_wp2
        refine bodyPost_ret (v:=_) (adx rfl rfl) rfl ⟨by rw [HE'.out];simp only [List.append_assoc,List.cons_append,List.nil_append];rfl,HB10.out⟩)
noncomputable def lefts (zs:List Int) (vs:List ByteArray):Nat→List UInt8
 | 0=>[]
 | k+1=>lefts zs vs k ++ tterm (zs.getD k 0) (decide (lefts zs vs k = [])) (vs.getD k ⟨#[]⟩).data.toList
noncomputable def prn (zs:List Int) (vs:List ByteArray):ByteArray:=⟨(if lefts zs vs vs.length = [] then [48] else lefts zs vs vs.length).toArray⟩ ++ ⟨#[32,61,32]⟩ ++ txt (zs.getD vs.length 0)
theorem ax1 (x y:List UInt8):(⟨x.toArray⟩:ByteArray) ++ ⟨y.toArray⟩ = ⟨(x ++ y).toArray⟩:=by
 apply ByteArray.ext
 rw [ByteArray.data_append]
 simp
theorem am4 (x:List UInt8):(⟨x.toArray⟩:ByteArray).size=x.length:=by
 show x.toArray.size = _
 simp
theorem ajh {z:Int} {L:Nat} (h:(z.natAbs:Int)<pw L) (first:Bool) (nm:List UInt8):(tterm z first nm).length≤10*L+6+nm.length:=by
 unfold tterm
 have h1:=ahk (z:=(z.natAbs:Int)) (L:=L) (by rw [Int.natAbs_natCast];exact h)
 have h2:(tpre z first).length≤3:=by unfold tpre;split <;> split <;> simp
 have h3:(txt (z.natAbs:Int)).data.toList.length=(txt (z.natAbs:Int)).size:=by rw [Array.length_toList];rfl
 split
 ·simp
 ·split
  ·simp only [List.length_append,List.length_nil];omega
  ·simp only [List.length_append,List.length_cons,List.length_nil,h3];omega
theorem aji {s:ByteArray} (h:isNm s=true):s.size≤4096:=by
 apply Classical.byContradiction
 intro hs
 rw [ajc (by omega)] at h
 cases h
theorem ajj {zs:List Int} {vs:List ByteArray} {L:Nat} (hz:∀ z ∈ zs,(z.natAbs:Int)<pw L) (hN:NmsOk vs):∀ k,k≤vs.length→k<zs.length→(lefts zs vs k).length≤k*(10*L+4102)
 | 0,_,_=>by simp [lefts]
 | k+1,h1,h2=>by
  have ih:=ajj hz hN k (by omega) (by omega)
  have e1:zs.getD k 0=zs[k]:=by rw [List.getD_eq_getElem?_getD,List.getElem?_eq_getElem (by omega)];rfl
  have e2:vs.getD k ⟨#[]⟩ = vs[k]:=by rw [List.getD_eq_getElem?_getD,List.getElem?_eq_getElem (by omega)];rfl
  have h3:=ajh (hz zs[k] (List.getElem_mem _)) (decide (lefts zs vs k = [])) vs[k].data.toList
  have h4:=aji (hN.2 k vs[k] (List.getElem?_eq_getElem _)).1
  have h5:vs[k].data.toList.length=vs[k].size:=by rw [Array.length_toList];rfl
  rw [lefts,e1,e2,List.length_append,Nat.add_mul]
  omega
theorem aui {w:World} {v:Value} {zs:List Int} {L:Nat} (h:IsRow w v zs L):∀ z ∈ zs,(z.natAbs:Int)<pw L:=by
 intro z hz
 obtain ⟨k,hk⟩:=List.mem_iff_getElem?.1 hz
 obtain ⟨ao,cap,rfl,_⟩:=h.parts
 obtain ⟨b,off,ng,a,m,c,_,_,_,_,hw⟩:=h.cell hk
 exact aeb hw
set_option maxRecDepth 20000 in
set_option maxHeartbeats 8000000 in
theorem arz (w:World) (hT:Tabs w) (rv vv:Value) (zs:List Int) (vs:List ByteArray) (L:Nat) (hr:IsRow w rv zs L) (hL:L≤100000) (hv:Strs w vv vs) (hN:NmsOk vs) (hl:zs.length=vs.length+1) :
  Calls Tryz.prog 9 #[rv,vv] w fun e w'=>e=.returned (.tuple #[.string (prn zs vs),.int .i64 0])∧Below w.heap.size w w' := by
 obtain ⟨ra,rc,rfl,_⟩:=hr.parts
 obtain ⟨va,vc,rfl,_⟩:=id hv
 have K:=ajd w hT _ _ hv
 rw [show nmsE vs=0 from if_pos hN] at K
 have hlt:=aui hr
 obtain ⟨n,hnn⟩:∃ n,vs.length=n:=⟨_,rfl⟩
 have hn16:n≤16:=by have:=hN.1;omega
 rw [hl] at hr ⊢
 rw [hnn] at K hr hv hl ⊢
 have K:=hide K
 have HR:=hide hr
 have HV:=hide hv
 have HN:=hide hN
 have HNN:=hide hnn
 have HL:=hide hl
 have HLEN:Hid (∀ k,k≤n→(lefts zs vs k).length≤k*(10*L+4102)):=(fun k hk=>ajj hlt hN k (by omega) (by omega))
 have HLT:=hide hlt
 obtain ⟨z9,hz9⟩:∃ z,zs[n]? = some z:=⟨_,List.getElem?_eq_getElem (by omega)⟩
 obtain ⟨b,off,ng9,a9,m9,c9,rfl,hbl,_,_,_⟩:=hr.cell hz9
 have HZ9:=hide hz9
 have HP:Hid (prn zs vs=⟨(if lefts zs vs n = [] then [48] else lefts zs vs n).toArray⟩ ++ ⟨#[32,61,32]⟩ ++ txt z9):=(show _ = _ by unfold prn;rw [hnn,List.getD_eq_getElem?_getD,hz9];rfl)
 have hwn:IntKind.i64.wrap ((n:Int)+1)=(n:Int)+1:=by rw [IntKind.wrap_i64];omega
 have hne:(((n+1:Nat):Int) != (n:Int)+1)=false:=by simp
 clear hT hr hv hN hnn hl hlt hz9
 go_enter Tryz.func9,Tryz.ntmps9
 go_wp2_with fail
 refine K.out.mono ?_
 rintro e w1 ⟨rfl,hb1⟩
 have HB1:=hide hb1
 clear hb1 K
 go_wp2_with fail
 go_loopw [6,7,8,22] (fun lv _ _ iv wr=>∃ k:Nat,iv=.int .i64 k∧k≤n∧lv=.string ⟨(lefts zs vs k).toArray⟩∧Below w.heap.size w wr) (fun _ _ _ iv _=>n - (intOf iv).toNat)
 case atStart=>exact ⟨0,rfl,Nat.zero_le _,rfl,HB1.out⟩
 case round =>
  obtain ⟨k,rfl,hk,rfl,hbw⟩:=hrel
  have HW:=hide hbw
  have hll:=HLEN.out k hk
  obtain ⟨sl,hsl⟩:∃ sl,(⟨(lefts zs vs k).toArray⟩:ByteArray)=sl:=⟨_,rfl⟩
  have hss:sl.size=(lefts zs vs k).length:=by rw [←hsl,am4]
  have hsb:sl.size≤16*(10*L+4102):=by rw [hss];exact Nat.le_trans hll (Nat.mul_le_mul_right _ (by omega))
  rw [hsl]
  by_cases hlt:k<n
  ·have hlt' : (k:Int)<(n:Int):=by omega
   obtain ⟨z,hz⟩:∃ z,zs[k]? = some z:=⟨_,List.getElem?_eq_getElem (by have:=HL.out;omega)⟩
   obtain ⟨x,hx⟩:∃ x,vs[k]? = some x:=⟨_,List.getElem?_eq_getElem (by have:=HNN.out;omega)⟩
   obtain ⟨b',off',ng,a,m,c,hao,_,x0,x1,hxw⟩:=(HR.out.below hbw).cell hz
   obtain ⟨rfl,rfl⟩:b=b'∧off=off' := by simpa using hao
   obtain ⟨bv,ov,rfl,hbvl,v0⟩:=(HV.out.below hbw).cell hx
   have hxs:=aji (HN.out.2 k x hx).1
   have hkn:(k:Int)<((n+1:Nat):Int):=by omega
   obtain ⟨f,hf⟩:∃ f,decide (lefts zs vs k = [])=f:=⟨_,rfl⟩
   have hef:(sl.toList == [])=f:=by
    rw [←hf,←hsl]
    by_cases h0:lefts zs vs k = []
    ·rw [h0,ByteArray.toList_eq];rfl
    ·rw [decide_eq_false h0,beq_eq_false_iff_ne]
     intro e
     rw [ByteArray.toList_eq] at e
     exact h0 (by simpa using e)
   have K:=hide (auh wr z L _ x f hxw hL (by omega))
   have hstep:lefts zs vs (k+1)=lefts zs vs k ++ tterm z f x.data.toList:=by rw [lefts,List.getD_eq_getElem?_getD,List.getD_eq_getElem?_getD,hz,hx,hf];rfl
   have htl:=ajh (HLT.out z (List.mem_of_getElem? hz)) f x.data.toList
   have hxl:x.data.toList.length=x.size:=by rw [Array.length_toList];rfl
   generalize tterm z f x.data.toList=tt at K hstep htl
   have hadd:∀ W,(Op.stringOp .add sl ⟨tt.toArray⟩).run Tryz.prog W=.ok (.string ⟨(lefts zs vs (k+1)).toArray⟩) W:=fun W=>by
    rw [run_string_add_sum (P:=Tryz.prog) W sl ⟨tt.toArray⟩ (by rw [am4 tt];omega),←hsl,ax1,hstep]
   clear hbw hxw hao hz hx hf hsl hstep htl hxl hll hss hxs
   generalize (⟨tt.toArray⟩:ByteArray)=tb at K hadd
   go_wp2_with fail
   refine K.out.mono ?_
   rintro e w2 ⟨rfl,hb2⟩
   have HB2:=hide (HW.out.trans (hb2.mono HW.out.size))
   clear hb2 K
   go_wp2
   go_roundw
   case rel=>exact ⟨k+1,by go_num,by omega,rfl,HB2.out⟩
   case measure=>simp [intOf];omega
  ·have hlt' : decide ((k:Int)<(n:Int))=false:=by simp;omega
   obtain rfl:k=n:=by omega
   obtain ⟨b',off',ng,a,m,c,hao,_,x0,x1,hxw⟩:=(HR.out.below hbw).cell HZ9.out
   obtain ⟨rfl,rfl⟩:b=b'∧off=off' := by simpa using hao
   have hts:=ahk (HLT.out z9 (List.mem_of_getElem? HZ9.out))
   have K:=hide (wtextF wr z9 _ L hxw (by omega))
   have hkn:(k:Int)<((k+1:Nat):Int):=by omega
   generalize txt z9=t9 at K HP hts
   by_cases h0:lefts zs vs k = []
   ·have HP' := HP.out
    rw [if_pos h0] at HP'
    have HP' := hide HP'
    obtain rfl:sl=⟨#[]⟩:=by rw [←hsl,h0]
    have ha1:∀ W,(Op.stringOp .add ⟨#[48]⟩ ⟨#[32,61,32]⟩).run Tryz.prog W=.ok (.string ⟨#[48,32,61,32]⟩) W:=fun W=>run_string_add_sum (P:=Tryz.prog) W _ _ (by decide)
    have ha2:∀ W,(Op.stringOp .add ⟨#[48,32,61,32]⟩ t9).run Tryz.prog W=.ok (.string (⟨#[48,32,61,32]⟩ ++ t9)) W:=fun W=>run_string_add_sum (P:=Tryz.prog) W _ _ (by show 4+_≤_;omega)
    clear hbw hxw hao h0 hsl hll hss hsb hts
    go_wp2_with fail
    refine K.out.mono ?_
    rintro e w2 ⟨rfl,hb2⟩
    have HB2:=hide (HW.out.trans (hb2.mono HW.out.size))
    clear hb2 K
    go_wp2
    refine bodyPost_ret (v:=_) (by simp [results,Tryz.results9,go_sem];try rfl) rfl ⟨by rw [HP'.out];rfl,HB2.out⟩
   ·have HP' := HP.out
    rw [if_neg h0,hsl] at HP'
    have HP' := hide HP'
    have hef:(sl.toList == [])=false:=by
     rw [←hsl,beq_eq_false_iff_ne]
     intro e
     rw [ByteArray.toList_eq] at e
     exact h0 (by simpa using e)
    have hsz3:(sl ++ ⟨#[32,61,32]⟩:ByteArray).size=sl.size+3:=by rw [ByteArray.size_append];rfl
    have ha1:∀ W,(Op.stringOp .add sl ⟨#[32,61,32]⟩).run Tryz.prog W=.ok (.string (sl ++ ⟨#[32,61,32]⟩)) W:=fun W=>run_string_add_sum (P:=Tryz.prog) W _ _ (by show _+3≤_;omega)
    have ha2:∀ W,(Op.stringOp .add (sl ++ ⟨#[32,61,32]⟩) t9).run Tryz.prog W=.ok (.string (sl ++ ⟨#[32,61,32]⟩ ++ t9)) W:=fun W=>run_string_add_sum (P:=Tryz.prog) W _ _ (by omega)
    generalize (sl ++ ⟨#[32,61,32]⟩:ByteArray)=s3 at ha1 ha2 HP'
    generalize s3 ++ t9=s4 at ha2 HP'
    clear hbw hxw hao h0 hsl hll hss hsb hts hsz3
    go_wp2_with fail
    refine K.out.mono ?_
    rintro e w2 ⟨rfl,hb2⟩
    have HB2:=hide (HW.out.trans (hb2.mono HW.out.size))
    clear hb2 K
    go_wp2
    refine bodyPost_ret (v:=_) (by simp [results,Tryz.results9,go_sem];try rfl) rfl ⟨by rw [HP'.out],HB2.out⟩
theorem ax2:IsDec [50] 2:=⟨by intro z hz;simp at hz;omega,by kernel_rfl,.inr ⟨50,[],rfl,by decide⟩⟩
theorem ax3:IsDec [51] 3:=⟨by intro z hz;simp at hz;omega,by kernel_rfl,.inr ⟨51,[],rfl,by decide⟩⟩
theorem ayq:txt 2=⟨#[50]⟩:=by
 rw [txt,if_neg (by decide),show ((2:Int).natAbs:Int)=2 from rfl,←af9 ax2]
 rfl
theorem ax4:txt (-3)=⟨#[45,51]⟩:=by
 rw [txt,if_pos (by decide),show ((-3:Int).natAbs:Int)=3 from rfl,←af9 ax3]
 rfl
theorem ar0:prn [1,-2,-3] [⟨#[120]⟩,⟨#[121]⟩]=⟨#[120,32,45,32,50,42,121,32,61,32,45,51]⟩:=by
 have h1:lefts [1,-2,-3] [⟨#[120]⟩,⟨#[121]⟩] 1 = [120]:=rfl
 have h2:lefts [1,-2,-3] [⟨#[120]⟩,⟨#[121]⟩] 2 = [120,32,45,32,50,42,121]:=by
  rw [lefts,h1,show tterm ([1,-2,-3].getD 1 0) (decide (([120]:List UInt8) = [])) (([⟨#[120]⟩,⟨#[121]⟩]:List ByteArray).getD 1 ⟨#[]⟩).data.toList = [32,45,32] ++ (((txt 2).data.toList ++ [42]) ++ [121]) from rfl,ayq]
  rfl
 rw [prn,show ([⟨#[120]⟩,⟨#[121]⟩]:List ByteArray).length=2 from rfl,h2,show ([1,-2,-3]:List Int).getD 2 0 = -3 from rfl,ax4]
 rfl
theorem amg (w:World) (hT:Tabs w) (rv vv:Value) (L:Nat) (hr:IsRow w rv [1,-2,-3] L) (hL:L≤100000) (hv:Strs w vv [⟨#[120]⟩,⟨#[121]⟩]) (hN:NmsOk [⟨#[120]⟩,⟨#[121]⟩]) :
  Calls Tryz.prog 9 #[rv,vv] w fun e w'=>e=.returned (.tuple #[.string ⟨#[120,32,45,32,50,42,121,32,61,32,45,51]⟩,.int .i64 0])∧Below w.heap.size w w' := by
 refine (arz w hT rv vv _ _ L hr hL hv hN rfl).mono ?_
 rintro e w' ⟨rfl,hb⟩
 exact ⟨by rw [ar0],hb⟩
theorem ala (c:Nat) (s:ByteArray) (gs:List Gl) (e:Pl) (l:List Tk) (_hc:c<128) (hs:s.size≤4096) (hQ:Snd s pl0 gs e) (hR:ScanR s e gs (.ok l)) (hn:nmS s (.ok l)=true):isNm s=true:=by
 rw [←am1 hs hQ hR]
 exact hn
theorem ar1:isNm ⟨#[120]⟩ = true:=by
 refine ala 120 ⟨#[120]⟩ [⟨120,⟨0,0,1,1⟩⟩] ⟨1,1,1,2⟩ [⟨1,⟨#[120]⟩,⟨0,0,1,1⟩⟩,⟨0,⟨#[]⟩,⟨1,1,1,2⟩⟩] (by decide) (by decide) ?_ ?_ (by kernel_rfl)
 ·refine abi (k:=1) (by decide) (by kernel_rfl) (by decide) ?_
  exact .stop ⟨1,1,1,2⟩ (.inl (by decide))
 ·refine ScanR.tok _ ⟨120,⟨0,0,1,1⟩⟩ [] 1 ⟨#[120]⟩ [] (.ok [⟨0,⟨#[]⟩,⟨1,1,1,2⟩⟩]) (by kernel_rfl) (aee (by kernel_rfl) (by kernel_rfl) (by decide) (by kernel_rfl)) ?_
  exact ScanR.done _ (by kernel_rfl) (by decide)
theorem ar2:isNm ⟨#[121]⟩ = true:=by
 refine ala 121 ⟨#[121]⟩ [⟨121,⟨0,0,1,1⟩⟩] ⟨1,1,1,2⟩ [⟨1,⟨#[121]⟩,⟨0,0,1,1⟩⟩,⟨0,⟨#[]⟩,⟨1,1,1,2⟩⟩] (by decide) (by decide) ?_ ?_ (by kernel_rfl)
 ·refine abi (k:=1) (by decide) (by kernel_rfl) (by decide) ?_
  exact .stop ⟨1,1,1,2⟩ (.inl (by decide))
 ·refine ScanR.tok _ ⟨121,⟨0,0,1,1⟩⟩ [] 1 ⟨#[121]⟩ [] (.ok [⟨0,⟨#[]⟩,⟨1,1,1,2⟩⟩]) (by kernel_rfl) (aee (by kernel_rfl) (by kernel_rfl) (by decide) (by kernel_rfl)) ?_
  exact ScanR.done _ (by kernel_rfl) (by decide)
theorem ar3:NmsOk [⟨#[120]⟩,⟨#[121]⟩]:=by
 refine ⟨by decide,fun i x hx=>?_⟩
 match i with
 | 0=>simp at hx;subst hx;exact ⟨ar1,by simp⟩
 | 1=>simp at hx;subst hx;exact ⟨ar2,by simp⟩
 | i+2=>simp at hx
def eqs:ByteArray:=⟨#[50,120,32,61,32,52,121,32,45,32,54]⟩
def eqt:List Tk:=[⟨2,⟨#[50]⟩,⟨0,0,1,1⟩⟩,⟨1,⟨#[120]⟩,⟨1,1,1,2⟩⟩,⟨3,⟨#[61]⟩,⟨3,3,1,4⟩⟩,⟨2,⟨#[52]⟩,⟨5,5,1,6⟩⟩,⟨1,⟨#[121]⟩,⟨6,6,1,7⟩⟩,⟨3,⟨#[45]⟩,⟨8,8,1,9⟩⟩,⟨2,⟨#[54]⟩,⟨10,10,1,11⟩⟩,⟨0,⟨#[]⟩,⟨11,11,1,12⟩⟩]
theorem awh:Snd eqs pl0 [⟨50,⟨0,0,1,1⟩⟩,⟨120,⟨1,1,1,2⟩⟩,⟨32,⟨2,2,1,3⟩⟩,⟨61,⟨3,3,1,4⟩⟩,⟨32,⟨4,4,1,5⟩⟩,⟨52,⟨5,5,1,6⟩⟩,⟨121,⟨6,6,1,7⟩⟩,⟨32,⟨7,7,1,8⟩⟩,⟨45,⟨8,8,1,9⟩⟩,⟨32,⟨9,9,1,10⟩⟩,⟨54,⟨10,10,1,11⟩⟩] ⟨11,11,1,12⟩:=by
 refine abi (p:=⟨0,0,1,1⟩) (k:=1) (by decide) (by kernel_rfl) (by decide) ?_
 refine abi (p:=⟨1,1,1,2⟩) (k:=1) (by decide) (by kernel_rfl) (by decide) ?_
 refine abi (p:=⟨2,2,1,3⟩) (k:=1) (by decide) (by kernel_rfl) (by decide) ?_
 refine abi (p:=⟨3,3,1,4⟩) (k:=1) (by decide) (by kernel_rfl) (by decide) ?_
 refine abi (p:=⟨4,4,1,5⟩) (k:=1) (by decide) (by kernel_rfl) (by decide) ?_
 refine abi (p:=⟨5,5,1,6⟩) (k:=1) (by decide) (by kernel_rfl) (by decide) ?_
 refine abi (p:=⟨6,6,1,7⟩) (k:=1) (by decide) (by kernel_rfl) (by decide) ?_
 refine abi (p:=⟨7,7,1,8⟩) (k:=1) (by decide) (by kernel_rfl) (by decide) ?_
 refine abi (p:=⟨8,8,1,9⟩) (k:=1) (by decide) (by kernel_rfl) (by decide) ?_
 refine abi (p:=⟨9,9,1,10⟩) (k:=1) (by decide) (by kernel_rfl) (by decide) ?_
 refine abi (p:=⟨10,10,1,11⟩) (k:=1) (by decide) (by kernel_rfl) (by decide) ?_
 exact .stop ⟨11,11,1,12⟩ (.inl (by decide))
theorem auj:ScanR eqs ⟨11,11,1,12⟩ [⟨50,⟨0,0,1,1⟩⟩,⟨120,⟨1,1,1,2⟩⟩,⟨32,⟨2,2,1,3⟩⟩,⟨61,⟨3,3,1,4⟩⟩,⟨32,⟨4,4,1,5⟩⟩,⟨52,⟨5,5,1,6⟩⟩,⟨121,⟨6,6,1,7⟩⟩,⟨32,⟨7,7,1,8⟩⟩,⟨45,⟨8,8,1,9⟩⟩,⟨32,⟨9,9,1,10⟩⟩,⟨54,⟨10,10,1,11⟩⟩] (.ok eqt):=by
 show ScanR eqs ⟨11,11,1,12⟩ [⟨50,⟨0,0,1,1⟩⟩,⟨120,⟨1,1,1,2⟩⟩,⟨32,⟨2,2,1,3⟩⟩,⟨61,⟨3,3,1,4⟩⟩,⟨32,⟨4,4,1,5⟩⟩,⟨52,⟨5,5,1,6⟩⟩,⟨121,⟨6,6,1,7⟩⟩,⟨32,⟨7,7,1,8⟩⟩,⟨45,⟨8,8,1,9⟩⟩,⟨32,⟨9,9,1,10⟩⟩,⟨54,⟨10,10,1,11⟩⟩] (.ok [⟨2,⟨#[50]⟩,⟨0,0,1,1⟩⟩,⟨1,⟨#[120]⟩,⟨1,1,1,2⟩⟩,⟨3,⟨#[61]⟩,⟨3,3,1,4⟩⟩,⟨2,⟨#[52]⟩,⟨5,5,1,6⟩⟩,⟨1,⟨#[121]⟩,⟨6,6,1,7⟩⟩,⟨3,⟨#[45]⟩,⟨8,8,1,9⟩⟩,⟨2,⟨#[54]⟩,⟨10,10,1,11⟩⟩,⟨0,⟨#[]⟩,⟨11,11,1,12⟩⟩])
 have hn0:TokR eqs ⟨11,11,1,12⟩ ⟨50,⟨0,0,1,1⟩⟩ [⟨120,⟨1,1,1,2⟩⟩,⟨32,⟨2,2,1,3⟩⟩,⟨61,⟨3,3,1,4⟩⟩,⟨32,⟨4,4,1,5⟩⟩,⟨52,⟨5,5,1,6⟩⟩,⟨121,⟨6,6,1,7⟩⟩,⟨32,⟨7,7,1,8⟩⟩,⟨45,⟨8,8,1,9⟩⟩,⟨32,⟨9,9,1,10⟩⟩,⟨54,⟨10,10,1,11⟩⟩] (.ok 2 ⟨#[50]⟩ [⟨120,⟨1,1,1,2⟩⟩,⟨32,⟨2,2,1,3⟩⟩,⟨61,⟨3,3,1,4⟩⟩,⟨32,⟨4,4,1,5⟩⟩,⟨52,⟨5,5,1,6⟩⟩,⟨121,⟨6,6,1,7⟩⟩,⟨32,⟨7,7,1,8⟩⟩,⟨45,⟨8,8,1,9⟩⟩,⟨32,⟨9,9,1,10⟩⟩,⟨54,⟨10,10,1,11⟩⟩]):=by
  have hv:dval (bytesOf (eqs.extract 0 1))=2:=by kernel_rfl
  have h1:IsLen (dval (bytesOf (eqs.extract 0 1))) 1:=⟨[2],⟨by intro z hz;simp at hz;omega,by kernel_rfl⟩,by rw [hv];kernel_rfl,rfl⟩
  have h2:IsDec [50] (dval (bytesOf (eqs.extract 0 1))):=⟨by intro z hz;simp at hz;omega,by rw [hv];kernel_rfl,.inr ⟨50,[],rfl,by decide⟩⟩
  exact aec (s:=eqs) (e:=⟨11,11,1,12⟩) (g:=⟨50,⟨0,0,1,1⟩⟩) (r:=[⟨120,⟨1,1,1,2⟩⟩,⟨32,⟨2,2,1,3⟩⟩,⟨61,⟨3,3,1,4⟩⟩,⟨32,⟨4,4,1,5⟩⟩,⟨52,⟨5,5,1,6⟩⟩,⟨121,⟨6,6,1,7⟩⟩,⟨32,⟨7,7,1,8⟩⟩,⟨45,⟨8,8,1,9⟩⟩,⟨32,⟨9,9,1,10⟩⟩,⟨54,⟨10,10,1,11⟩⟩]) (n:=1) (ds:=[50]) (by kernel_rfl) h1 h2
 refine ScanR.tok _ ⟨50,⟨0,0,1,1⟩⟩ [⟨120,⟨1,1,1,2⟩⟩,⟨32,⟨2,2,1,3⟩⟩,⟨61,⟨3,3,1,4⟩⟩,⟨32,⟨4,4,1,5⟩⟩,⟨52,⟨5,5,1,6⟩⟩,⟨121,⟨6,6,1,7⟩⟩,⟨32,⟨7,7,1,8⟩⟩,⟨45,⟨8,8,1,9⟩⟩,⟨32,⟨9,9,1,10⟩⟩,⟨54,⟨10,10,1,11⟩⟩] 2 ⟨#[50]⟩ [⟨120,⟨1,1,1,2⟩⟩,⟨32,⟨2,2,1,3⟩⟩,⟨61,⟨3,3,1,4⟩⟩,⟨32,⟨4,4,1,5⟩⟩,⟨52,⟨5,5,1,6⟩⟩,⟨121,⟨6,6,1,7⟩⟩,⟨32,⟨7,7,1,8⟩⟩,⟨45,⟨8,8,1,9⟩⟩,⟨32,⟨9,9,1,10⟩⟩,⟨54,⟨10,10,1,11⟩⟩] (.ok [⟨1,⟨#[120]⟩,⟨1,1,1,2⟩⟩,⟨3,⟨#[61]⟩,⟨3,3,1,4⟩⟩,⟨2,⟨#[52]⟩,⟨5,5,1,6⟩⟩,⟨1,⟨#[121]⟩,⟨6,6,1,7⟩⟩,⟨3,⟨#[45]⟩,⟨8,8,1,9⟩⟩,⟨2,⟨#[54]⟩,⟨10,10,1,11⟩⟩,⟨0,⟨#[]⟩,⟨11,11,1,12⟩⟩]) (by kernel_rfl) hn0 ?_
 refine ScanR.tok _ ⟨120,⟨1,1,1,2⟩⟩ [⟨32,⟨2,2,1,3⟩⟩,⟨61,⟨3,3,1,4⟩⟩,⟨32,⟨4,4,1,5⟩⟩,⟨52,⟨5,5,1,6⟩⟩,⟨121,⟨6,6,1,7⟩⟩,⟨32,⟨7,7,1,8⟩⟩,⟨45,⟨8,8,1,9⟩⟩,⟨32,⟨9,9,1,10⟩⟩,⟨54,⟨10,10,1,11⟩⟩] 1 ⟨#[120]⟩ [⟨32,⟨2,2,1,3⟩⟩,⟨61,⟨3,3,1,4⟩⟩,⟨32,⟨4,4,1,5⟩⟩,⟨52,⟨5,5,1,6⟩⟩,⟨121,⟨6,6,1,7⟩⟩,⟨32,⟨7,7,1,8⟩⟩,⟨45,⟨8,8,1,9⟩⟩,⟨32,⟨9,9,1,10⟩⟩,⟨54,⟨10,10,1,11⟩⟩] (.ok [⟨3,⟨#[61]⟩,⟨3,3,1,4⟩⟩,⟨2,⟨#[52]⟩,⟨5,5,1,6⟩⟩,⟨1,⟨#[121]⟩,⟨6,6,1,7⟩⟩,⟨3,⟨#[45]⟩,⟨8,8,1,9⟩⟩,⟨2,⟨#[54]⟩,⟨10,10,1,11⟩⟩,⟨0,⟨#[]⟩,⟨11,11,1,12⟩⟩]) (by kernel_rfl) (aee (by kernel_rfl) (by kernel_rfl) (by decide) (by kernel_rfl)) ?_
 refine ScanR.tok _ ⟨61,⟨3,3,1,4⟩⟩ [⟨32,⟨4,4,1,5⟩⟩,⟨52,⟨5,5,1,6⟩⟩,⟨121,⟨6,6,1,7⟩⟩,⟨32,⟨7,7,1,8⟩⟩,⟨45,⟨8,8,1,9⟩⟩,⟨32,⟨9,9,1,10⟩⟩,⟨54,⟨10,10,1,11⟩⟩] 3 ⟨#[61]⟩ [⟨32,⟨4,4,1,5⟩⟩,⟨52,⟨5,5,1,6⟩⟩,⟨121,⟨6,6,1,7⟩⟩,⟨32,⟨7,7,1,8⟩⟩,⟨45,⟨8,8,1,9⟩⟩,⟨32,⟨9,9,1,10⟩⟩,⟨54,⟨10,10,1,11⟩⟩] (.ok [⟨2,⟨#[52]⟩,⟨5,5,1,6⟩⟩,⟨1,⟨#[121]⟩,⟨6,6,1,7⟩⟩,⟨3,⟨#[45]⟩,⟨8,8,1,9⟩⟩,⟨2,⟨#[54]⟩,⟨10,10,1,11⟩⟩,⟨0,⟨#[]⟩,⟨11,11,1,12⟩⟩]) (by kernel_rfl) (aca (by kernel_rfl)) ?_
 have hn5:TokR eqs ⟨11,11,1,12⟩ ⟨52,⟨5,5,1,6⟩⟩ [⟨121,⟨6,6,1,7⟩⟩,⟨32,⟨7,7,1,8⟩⟩,⟨45,⟨8,8,1,9⟩⟩,⟨32,⟨9,9,1,10⟩⟩,⟨54,⟨10,10,1,11⟩⟩] (.ok 2 ⟨#[52]⟩ [⟨121,⟨6,6,1,7⟩⟩,⟨32,⟨7,7,1,8⟩⟩,⟨45,⟨8,8,1,9⟩⟩,⟨32,⟨9,9,1,10⟩⟩,⟨54,⟨10,10,1,11⟩⟩]):=by
  have hv:dval (bytesOf (eqs.extract 5 6))=4:=by kernel_rfl
  have h1:IsLen (dval (bytesOf (eqs.extract 5 6))) 1:=⟨[4],⟨by intro z hz;simp at hz;omega,by kernel_rfl⟩,by rw [hv];kernel_rfl,rfl⟩
  have h2:IsDec [52] (dval (bytesOf (eqs.extract 5 6))):=⟨by intro z hz;simp at hz;omega,by rw [hv];kernel_rfl,.inr ⟨52,[],rfl,by decide⟩⟩
  exact aec (s:=eqs) (e:=⟨11,11,1,12⟩) (g:=⟨52,⟨5,5,1,6⟩⟩) (r:=[⟨121,⟨6,6,1,7⟩⟩,⟨32,⟨7,7,1,8⟩⟩,⟨45,⟨8,8,1,9⟩⟩,⟨32,⟨9,9,1,10⟩⟩,⟨54,⟨10,10,1,11⟩⟩]) (n:=1) (ds:=[52]) (by kernel_rfl) h1 h2
 refine ScanR.tok _ ⟨52,⟨5,5,1,6⟩⟩ [⟨121,⟨6,6,1,7⟩⟩,⟨32,⟨7,7,1,8⟩⟩,⟨45,⟨8,8,1,9⟩⟩,⟨32,⟨9,9,1,10⟩⟩,⟨54,⟨10,10,1,11⟩⟩] 2 ⟨#[52]⟩ [⟨121,⟨6,6,1,7⟩⟩,⟨32,⟨7,7,1,8⟩⟩,⟨45,⟨8,8,1,9⟩⟩,⟨32,⟨9,9,1,10⟩⟩,⟨54,⟨10,10,1,11⟩⟩] (.ok [⟨1,⟨#[121]⟩,⟨6,6,1,7⟩⟩,⟨3,⟨#[45]⟩,⟨8,8,1,9⟩⟩,⟨2,⟨#[54]⟩,⟨10,10,1,11⟩⟩,⟨0,⟨#[]⟩,⟨11,11,1,12⟩⟩]) (by kernel_rfl) hn5 ?_
 refine ScanR.tok _ ⟨121,⟨6,6,1,7⟩⟩ [⟨32,⟨7,7,1,8⟩⟩,⟨45,⟨8,8,1,9⟩⟩,⟨32,⟨9,9,1,10⟩⟩,⟨54,⟨10,10,1,11⟩⟩] 1 ⟨#[121]⟩ [⟨32,⟨7,7,1,8⟩⟩,⟨45,⟨8,8,1,9⟩⟩,⟨32,⟨9,9,1,10⟩⟩,⟨54,⟨10,10,1,11⟩⟩] (.ok [⟨3,⟨#[45]⟩,⟨8,8,1,9⟩⟩,⟨2,⟨#[54]⟩,⟨10,10,1,11⟩⟩,⟨0,⟨#[]⟩,⟨11,11,1,12⟩⟩]) (by kernel_rfl) (aee (by kernel_rfl) (by kernel_rfl) (by decide) (by kernel_rfl)) ?_
 refine ScanR.tok _ ⟨45,⟨8,8,1,9⟩⟩ [⟨32,⟨9,9,1,10⟩⟩,⟨54,⟨10,10,1,11⟩⟩] 3 ⟨#[45]⟩ [⟨32,⟨9,9,1,10⟩⟩,⟨54,⟨10,10,1,11⟩⟩] (.ok [⟨2,⟨#[54]⟩,⟨10,10,1,11⟩⟩,⟨0,⟨#[]⟩,⟨11,11,1,12⟩⟩]) (by kernel_rfl) (aca (by kernel_rfl)) ?_
 have hn10:TokR eqs ⟨11,11,1,12⟩ ⟨54,⟨10,10,1,11⟩⟩ [] (.ok 2 ⟨#[54]⟩ []):=by
  have hv:dval (bytesOf (eqs.extract 10 11))=6:=by kernel_rfl
  have h1:IsLen (dval (bytesOf (eqs.extract 10 11))) 1:=⟨[6],⟨by intro z hz;simp at hz;omega,by kernel_rfl⟩,by rw [hv];kernel_rfl,rfl⟩
  have h2:IsDec [54] (dval (bytesOf (eqs.extract 10 11))):=⟨by intro z hz;simp at hz;omega,by rw [hv];kernel_rfl,.inr ⟨54,[],rfl,by decide⟩⟩
  exact aec (s:=eqs) (e:=⟨11,11,1,12⟩) (g:=⟨54,⟨10,10,1,11⟩⟩) (r:=[]) (n:=1) (ds:=[54]) (by kernel_rfl) h1 h2
 refine ScanR.tok _ ⟨54,⟨10,10,1,11⟩⟩ [] 2 ⟨#[54]⟩ [] (.ok [⟨0,⟨#[]⟩,⟨11,11,1,12⟩⟩]) (by kernel_rfl) hn10 ?_
 exact ScanR.done _ (by kernel_rfl) (by decide)
theorem z_2:zOf ⟨#[50]⟩ = 2:=by
 have h1:msplit ⟨#[50]⟩ = (false,⟨#[50]⟩):=by kernel_rfl
 have h2:Dm.Fine ⟨#[50]⟩:=⟨by decide,by decide,by intro z hz;simp [bytesOf] at hz;omega⟩
 have h3:zOf ⟨#[50]⟩ = sg false (xOf ⟨#[50]⟩):=by unfold zOf;rw [h1]
 rw [h3,(ad3 h2).2]
 exact (by kernel_rfl:sg false (dval (bytesOf ⟨#[50]⟩))=2)
theorem z_4:zOf ⟨#[52]⟩ = 4:=by
 have h1:msplit ⟨#[52]⟩ = (false,⟨#[52]⟩):=by kernel_rfl
 have h2:Dm.Fine ⟨#[52]⟩:=⟨by decide,by decide,by intro z hz;simp [bytesOf] at hz;omega⟩
 have h3:zOf ⟨#[52]⟩ = sg false (xOf ⟨#[52]⟩):=by unfold zOf;rw [h1]
 rw [h3,(ad3 h2).2]
 exact (by kernel_rfl:sg false (dval (bytesOf ⟨#[52]⟩))=4)
theorem z_6:zOf ⟨#[54]⟩ = 6:=by
 have h1:msplit ⟨#[54]⟩ = (false,⟨#[54]⟩):=by kernel_rfl
 have h2:Dm.Fine ⟨#[54]⟩:=⟨by decide,by decide,by intro z hz;simp [bytesOf] at hz;omega⟩
 have h3:zOf ⟨#[54]⟩ = sg false (xOf ⟨#[54]⟩):=by unfold zOf;rw [h1]
 rw [h3,(ad3 h2).2]
 exact (by kernel_rfl:sg false (dval (bytesOf ⟨#[54]⟩))=6)
theorem aaj {l:List Tk} {i:Nat} {t t1:Tk} {z:Int} (h:l[i]? = some t) (h1:l[i+1]? = some t1) (hs:tsg t1 sOver=false) (hz:zOf t.text=z):CoefR l i true (i+1) (z:Int):=by
 subst hz
 exact .plain t t1 h h1 hs
def rs0:List Rat:=List.replicate 3 0
def rs1:List Rat:=rs0.set 0 (0+sgq false ((2:Int):Rat))
def rs2:List Rat:=rs1.set 1 (0+sgq true ((4:Int):Rat))
def rs3:List Rat:=rs2.set 2 (0+sgq false (-((6:Int):Rat)))
theorem awi:EqR eqt [⟨#[120]⟩,⟨#[121]⟩] 8 0 (List.replicate 3 0) true 7 rs3:=by
 refine .good 2 rs1 ⟨3,⟨#[61]⟩,⟨3,3,1,4⟩⟩ ?_ rfl (by kernel_rfl) 7 rs3 ?_ ⟨0,⟨#[]⟩,⟨11,11,1,12⟩⟩ rfl rfl
 ·refine ⟨_,rfl,?_⟩
  refine .last _ _ 2 _ _ ?_ ⟨3,⟨#[61]⟩,⟨3,3,1,4⟩⟩ rfl (by kernel_rfl)
  exact .next _ rfl rfl 1 _ (aaj rfl rfl (by kernel_rfl) z_2) (by constructor <;> decide +kernel) _ rfl (by kernel_rfl) rfl _ _ _ (.yes _ 0 0 rfl (by kernel_rfl) rfl (by constructor <;> decide +kernel) (by constructor <;> decide +kernel))
 ·refine ⟨_,rfl,?_⟩
  refine .more _ _ 5 _ _ rs2 _ _ ?_ ⟨3,⟨#[45]⟩,⟨8,8,1,9⟩⟩ rfl (by kernel_rfl) ?_
  ·exact .next _ rfl rfl 4 _ (aaj rfl rfl (by kernel_rfl) z_4) (by constructor <;> decide +kernel) _ rfl (by kernel_rfl) rfl _ _ _ (.yes _ 1 0 rfl (by kernel_rfl) rfl (by constructor <;> decide +kernel) (by constructor <;> decide +kernel))
  ·refine .last _ _ 7 _ _ ?_ ⟨0,⟨#[]⟩,⟨11,11,1,12⟩⟩ rfl (by kernel_rfl)
   exact .alone _ rfl rfl 7 _ (aaj rfl rfl (by kernel_rfl) z_6) (by constructor <;> decide +kernel) _ rfl (by kernel_rfl) (by decide) 0 rfl (by constructor <;> decide +kernel)
theorem alb:canonZ rs3 = [1,-2,-3]:=by kernel_rfl
def dcs (ds:List Int):List Nat:=ds.map Int.toNat
theorem am5 {ds:List Int} (h:Dig ds):Asc (dcs ds):=fun c hc=>by
 obtain ⟨d,hd,rfl⟩:=List.mem_map.1 hc
 have:=h d hd
 omega
theorem afk {ds:List Int} {x:Int} (h:IsDec ds x):∃ c u,ds=c :: u:=by
 rcases h.2.2 with ⟨_,rfl⟩ | ⟨c,u,rfl,_⟩
 ·exact ⟨_,_,rfl⟩
 ·exact ⟨_,_,rfl⟩
theorem awj {ds:List Int} {x:Int} {n:Nat} (r:List Nat) (h:IsDec ds x) (hn:IsLen x n) (hl:n≤32) (hr:Stop [3] r):TokC (dcs ds ++ r) 2 (strOfNums ds) r:=by
 obtain ⟨c,u,rfl⟩:=afk h
 have hb:=al7 _ (af5 h.1)
 exact TokC.num c.toNat (dcs u) r n (c :: u) (ark h.1).1 hr (by
  rw [show c.toNat :: dcs u=(c :: u).map Int.toNat from rfl,hb,h.2.1]
  exact hn) hl (by
  rw [show c.toNat :: dcs u=(c :: u).map Int.toNat from rfl,hb,h.2.1]
  exact h)
theorem ayr {ds:List Int} {x:Int} (h:IsDec ds x) (hl:ds.length≤5120):zOf (strOfNums ds)=x:=by
 have hb:=aly h.1
 obtain ⟨c,u,rfl⟩:=afk h
 have h0:((strOfNums (c :: u)).get! 0).toNat=c.toNat:=by
  have h1:=h.1 c (by simp)
  show (UInt8.ofNat c.toNat).toNat=c.toNat
  rw [UInt8.toNat_ofNat']
  omega
 have hc:=h.1 c (by simp)
 have h1:msplit (strOfNums (c :: u))=(false,strOfNums (c :: u)):=by
  unfold msplit
  rw [h0,if_neg (by omega),if_neg (by omega)]
 have h2:Dm.Fine (strOfNums (c :: u)):=⟨by rw [adg];simp,by rw [adg];exact hl,by rw [hb];exact h.1⟩
 unfold zOf
 rw [h1,(ad3 h2).2,hb,h.2.1]
 rfl
theorem ax5 (cs:List Nat):skc false (32 :: cs)=skc false cs:=by
 rw [skc,if_neg (by decide),if_pos (by decide)]
theorem ajk {ks:List Int} {c:Nat} {r:List Nat} (h:inK ks c=false):Stop ks (c :: r):=by
 intro d t e
 obtain ⟨rfl,_⟩:=List.cons.inj e
 exact h
theorem afl {ks:List Int} : Stop ks []:=by intro d t e;cases e
theorem am6 (c:Int) (h:49≤c∧c≤57):IsDec [c] (c - 48)∧IsLen (c - 48) 1:=by
 refine ⟨⟨fun d hd=>by simp at hd;omega,by simp [dval,p10],.inr ⟨c,[],rfl,by omega⟩⟩,[c - 48],?_,by simp [val],rfl⟩
 exact ⟨fun z hz=>by simp at hz;omega,by simp [tl];omega⟩
theorem awk {z:Int} {L:Nat} (h:(z.natAbs:Int)<pw L) (hL:1≤L):Fit (z:Rat) L:=by
 have h1:pw 1≤pw L:=aa8 hL
 have h2:(1:Int)<pw 1:=by decide
 exact ⟨by simpa using h,by simp;omega⟩
end Lm
end Go.Proofs.YtdjgifcmhafppaaGreatDoor
namespace Go.Proofs.YtdjgifcmhafppaaGreatDoor
namespace Lm
open Go Go.RowKit
theorem ar4 {p r:List Nat} {ts:List (Int × ByteArray)} (h:skc false (p ++ r)=skc false r) (hr:ScanC r ts):ScanC (p ++ r) ts:=by
 cases hr with
 | done _ h1=>exact .done _ (by rw [h];exact h1)
 | tok _ k x rest ts h1 h2=>exact .tok _ k x rest ts (by rw [h];exact h1) h2
theorem aas {r:List Nat} {ts:List (Int × ByteArray)} (hr:ScanC r ts):ScanC (32 :: r) ts:=ar4 (p:=[32]) (ax5 r) hr
theorem alc {cs r:List Nat} {k:Int} {x:ByteArray} {ts:List (Int × ByteArray)} (ht:TokC cs k x r) (hr:ScanC r ts):ScanC cs ((k,x) :: ts):=.tok cs k x r ts (by rw [ht.skc];exact ht) hr
theorem aar {c:Nat} {r:List Nat} {ts:List (Int × ByteArray)} (hc:gcls c=5) (hn:c≠8788∧c≠8800∧c≠58∧c≠33) (hr:ScanC r ts):ScanC (c :: r) ((3,strOfNums [gfold c]) :: ts):=alc (.sign c r hc hn) hr
theorem abc {c:Nat} {r:List Nat} {ts:List (Int × ByteArray)} (hc:gcls c=2) (hs:Stop [2,3,4] r) (hr:ScanC r ts):ScanC (c :: r) ((1,bts (encs [c])) :: ts):=alc (.name c [] r hc (by intro d hd;simp at hd;subst hd;simp [inK,hc]) hs (by simp)) hr
theorem aii:ScanC [] [(0,⟨#[]⟩)]:=.done _ rfl
structure Nd (ds:List Int) (x:Int):Prop where
 dec:IsDec ds x
 len:∃ m,IsLen x m∧m≤32
 sh:ds.length≤400
theorem Nd.z {ds:List Int} {x:Int} (h:Nd ds x):zOf (strOfNums ds)=x:=ayr h.dec (by have:=h.sh;omega)
theorem aa6 {ds:List Int} {x:Int} (h:Nd ds x) {r:List Nat} {ts:List (Int × ByteArray)} (hs:Stop [3] r) (hr:ScanC r ts):ScanC (dcs ds ++ r) ((2,strOfNums ds) :: ts):=by
 obtain ⟨m,h1,h2⟩:=h.len
 exact alc (awj r h.dec h1 h2 hs) hr
theorem agp {ds:List Int} {x:Int} (h:Nd ds x):ScanC (dcs ds) [(2,strOfNums ds),(0,⟨#[]⟩)]:=by
 have:=aa6 h afl aii
 rwa [List.append_nil] at this
theorem st3 (c:Nat) (r:List Nat) (h:inK [3] c=false):Stop [3] (c :: r):=ajk h
theorem st2 (c:Nat) (r:List Nat) (h:inK [2,3,4] c=false):Stop [2,3,4] (c :: r):=ajk h
def tN (ds:List Int):Int × ByteArray:=(2,strOfNums ds)
def tS (c:UInt8):Int × ByteArray:=(3,⟨#[c]⟩)
def tV (c:UInt8):Int × ByteArray:=(1,⟨#[c]⟩)
def tE:Int × ByteArray:=(0,⟨#[]⟩)
variable {A B D M O P C:List Int} {a b d m o p c:Int}
def cs0 (A B D:List Int):List Nat:=dcs A ++ 42 :: 120 :: 32 :: 45 :: 32 :: (dcs B ++ 42 :: 121 :: 32 :: 43 :: 32 :: 122 :: 32 :: 61 :: 32 :: dcs D)
theorem sc0 (hA:Nd A a) (hB:Nd B b) (hD:Nd D d):ScanC (cs0 A B D) [tN A,tS 42,tV 120,tS 45,tN B,tS 42,tV 121,tS 43,tV 122,tS 61,tN D,tE] :=
 aa6 hA (st3 42 _ (by decide)) <| aar (c:=42) (by decide) (by decide) <| abc (c:=120) (by decide) (st2 32 _ (by decide)) <| aas <| aar (c:=45) (by decide) (by decide) <| aas <| aa6 hB (st3 42 _ (by decide)) <| aar (c:=42) (by decide) (by decide) <| abc (c:=121) (by decide) (st2 32 _ (by decide)) <| aas <| aar (c:=43) (by decide) (by decide) <| aas <| abc (c:=122) (by decide) (st2 32 _ (by decide)) <| aas <| aar (c:=61) (by decide) (by decide) <| aas <| agp hD
def cs1 (A B D:List Int):List Nat:=dcs D ++ 61 :: (dcs A ++ 120 :: 45 :: (dcs B ++ [121,43,122]))
theorem sc1 (hA:Nd A a) (hB:Nd B b) (hD:Nd D d):ScanC (cs1 A B D) [tN D,tS 61,tN A,tV 120,tS 45,tN B,tV 121,tS 43,tV 122,tE] :=
 aa6 hD (st3 61 _ (by decide)) <| aar (c:=61) (by decide) (by decide) <| aa6 hA (st3 120 _ (by decide)) <| abc (c:=120) (by decide) (st2 45 _ (by decide)) <| aar (c:=45) (by decide) (by decide) <| aa6 hB (st3 121 _ (by decide)) <| abc (c:=121) (by decide) (st2 43 _ (by decide)) <| aar (c:=43) (by decide) (by decide) <| abc (c:=122) (by decide) afl aii
def cs2 (M O C P:List Int):List Nat:=dcs M ++ 120 :: 32 :: 45 :: 32 :: (dcs O ++ 183 :: 121 :: 32 :: 43 :: 32 :: (dcs C ++ 32 :: 215 :: 32 :: 122 :: 32 :: 61 :: 32 :: dcs P))
theorem sc2 (hM:Nd M m) (hO:Nd O o) (hC:Nd C c) (hP:Nd P p):ScanC (cs2 M O C P) [tN M,tV 120,tS 45,tN O,tS 42,tV 121,tS 43,tN C,tS 42,tV 122,tS 61,tN P,tE] :=
 aa6 hM (st3 120 _ (by decide)) <| abc (c:=120) (by decide) (st2 32 _ (by decide)) <| aas <| aar (c:=45) (by decide) (by decide) <| aas <| aa6 hO (st3 183 _ (by decide)) <| aar (c:=183) (by decide) (by decide) <| abc (c:=121) (by decide) (st2 32 _ (by decide)) <| aas <| aar (c:=43) (by decide) (by decide) <| aas <| aa6 hC (st3 32 _ (by decide)) <| aas <| aar (c:=215) (by decide) (by decide) <| aas <| abc (c:=122) (by decide) (st2 32 _ (by decide)) <| aas <| aar (c:=61) (by decide) (by decide) <| aas <| agp hP
def cs3 (A B D:List Int):List Nat:=[35,32,102,105,114,115,116,10,32] ++ (dcs A ++ 32 :: 120 :: 32 :: 8722 :: 32 :: (dcs B ++ 32 :: 121 :: 32 :: 61 :: 32 :: (dcs D ++ [32,45,32,122])))
theorem auk (r:List Nat):skc false ([35,32,102,105,114,115,116,10,32] ++ r)=skc false r:=by
 kernel_rfl
theorem sc3 (hA:Nd A a) (hB:Nd B b) (hD:Nd D d):ScanC (cs3 A B D) [tN A,tV 120,tS 45,tN B,tV 121,tS 61,tN D,tS 45,tV 122,tE] :=
 ar4 (auk _) <| aa6 hA (st3 32 _ (by decide)) <| aas <| abc (c:=120) (by decide) (st2 32 _ (by decide)) <| aas <| aar (c:=8722) (by decide) (by decide) <| aas <| aa6 hB (st3 32 _ (by decide)) <| aas <| abc (c:=121) (by decide) (st2 32 _ (by decide)) <| aas <| aar (c:=61) (by decide) (by decide) <| aas <| aa6 hD (st3 32 _ (by decide)) <| aas <| aar (c:=45) (by decide) (by decide) <| aas <| abc (c:=122) (by decide) afl aii
def cs4 (A B D:List Int):List Nat:=45 :: (dcs A ++ 120 :: 32 :: 43 :: 32 :: (dcs B ++ 121 :: 32 :: 45 :: 32 :: 122 :: 32 :: 43 :: 32 :: (dcs D ++ 32 :: 61 :: 32 :: dcs [48])))
theorem nd0:Nd [48] 0:=⟨⟨fun d hd=>by simp at hd;omega,by simp [dval,p10],.inl ⟨rfl,rfl⟩⟩,⟨0,⟨[],⟨fun z hz=>by simp at hz,rfl⟩,rfl,rfl⟩,by decide⟩,by decide⟩
theorem nd1:Nd [49] 1:=⟨(am6 49 (by decide)).1,⟨1,(am6 49 (by decide)).2,by decide⟩,by decide⟩
theorem sc4 (hA:Nd A a) (hB:Nd B b) (hD:Nd D d):ScanC (cs4 A B D) [tS 45,tN A,tV 120,tS 43,tN B,tV 121,tS 45,tV 122,tS 43,tN D,tS 61,tN [48],tE] :=
 aar (c:=45) (by decide) (by decide) <| aa6 hA (st3 120 _ (by decide)) <| abc (c:=120) (by decide) (st2 32 _ (by decide)) <| aas <| aar (c:=43) (by decide) (by decide) <| aas <| aa6 hB (st3 121 _ (by decide)) <| abc (c:=121) (by decide) (st2 32 _ (by decide)) <| aas <| aar (c:=45) (by decide) (by decide) <| aas <| abc (c:=122) (by decide) (st2 32 _ (by decide)) <| aas <| aar (c:=43) (by decide) (by decide) <| aas <| aa6 hD (st3 32 _ (by decide)) <| aas <| aar (c:=61) (by decide) (by decide) <| aas <| agp nd0
def cs5 (A B C D:List Int):List Nat:=dcs A ++ 47 :: (dcs C ++ 120 :: 32 :: 45 :: 32 :: (dcs B ++ 47 :: (dcs C ++ 42 :: 121 :: 32 :: 43 :: 32 :: (dcs [49] ++ 47 :: (dcs C ++ 122 :: 32 :: 61 :: 32 :: (dcs D ++ 47 :: dcs C))))))
theorem sc5 (hA:Nd A a) (hB:Nd B b) (hC:Nd C c) (hD:Nd D d):ScanC (cs5 A B C D) [tN A,tS 47,tN C,tV 120,tS 45,tN B,tS 47,tN C,tS 42,tV 121,tS 43,tN [49],tS 47,tN C,tV 122,tS 61,tN D,tS 47,tN C,tE] :=
 aa6 hA (st3 47 _ (by decide)) <| aar (c:=47) (by decide) (by decide) <| aa6 hC (st3 120 _ (by decide)) <| abc (c:=120) (by decide) (st2 32 _ (by decide)) <| aas <| aar (c:=45) (by decide) (by decide) <| aas <| aa6 hB (st3 47 _ (by decide)) <| aar (c:=47) (by decide) (by decide) <| aa6 hC (st3 42 _ (by decide)) <| aar (c:=42) (by decide) (by decide) <| abc (c:=121) (by decide) (st2 32 _ (by decide)) <| aas <| aar (c:=43) (by decide) (by decide) <| aas <| aa6 nd1 (st3 47 _ (by decide)) <| aar (c:=47) (by decide) (by decide) <| aa6 hC (st3 122 _ (by decide)) <| abc (c:=122) (by decide) (st2 32 _ (by decide)) <| aas <| aar (c:=61) (by decide) (by decide) <| aas <| aa6 hD (st3 47 _ (by decide)) <| aar (c:=47) (by decide) (by decide) <| agp hC
def cs6 (A B D:List Int):List Nat:=122 :: 32 :: 43 :: 32 :: (dcs A ++ 42 :: 120 :: 32 :: 61 :: 32 :: 43 :: (dcs D ++ 32 :: 43 :: 32 :: (dcs B ++ [42,121])))
theorem sc6 (hA:Nd A a) (hB:Nd B b) (hD:Nd D d):ScanC (cs6 A B D) [tV 122,tS 43,tN A,tS 42,tV 120,tS 61,tS 43,tN D,tS 43,tN B,tS 42,tV 121,tE] :=
 abc (c:=122) (by decide) (st2 32 _ (by decide)) <| aas <| aar (c:=43) (by decide) (by decide) <| aas <| aa6 hA (st3 42 _ (by decide)) <| aar (c:=42) (by decide) (by decide) <| abc (c:=120) (by decide) (st2 32 _ (by decide)) <| aas <| aar (c:=61) (by decide) (by decide) <| aas <| aar (c:=43) (by decide) (by decide) <| aa6 hD (st3 32 _ (by decide)) <| aas <| aar (c:=43) (by decide) (by decide) <| aas <| aa6 hB (st3 42 _ (by decide)) <| aar (c:=42) (by decide) (by decide) <| abc (c:=121) (by decide) afl aii
end Lm
end Go.Proofs.YtdjgifcmhafppaaGreatDoor
namespace Go.Proofs.YtdjgifcmhafppaaGreatDoor
namespace Lm
open Go Go.RowKit
def mkt (f:Nat→Pl):Nat→List (Int × ByteArray)→List Tk
 | _,[]=>[]
 | n,t :: ts=>⟨t.1,t.2,f n⟩ :: mkt f (n+1) ts
theorem ajl {f g:Nat→Pl} : ∀ {ts:List (Int × ByteArray)} {n:Nat},(∀ i,n≤i→f i=g i)→mkt f n ts=mkt g n ts
 | [],_,_=>rfl
 | t :: ts,n,h=>by rw [mkt,mkt,h n (Nat.le_refl _),ajl (fun i hi=>h i (by omega))]
theorem ar5:∀ (ts:List (Int × ByteArray)) (l:List Tk) (n:Nat),l.map kx=ts→∃ f,l=mkt f n ts
 | [],l,n,h=>⟨fun _=>pl0,by rw [List.map_eq_nil_iff] at h;rw [h];rfl⟩
 | t :: ts,[],n,h=>by cases h
 | t :: ts,u :: l,n,h=>by
  obtain ⟨h1,h2⟩:=List.cons.inj h
  obtain ⟨f,hf⟩:=ar5 ts l (n+1) h2
  refine ⟨fun i=>if i=n then u.pl else f i,?_⟩
  rw [mkt,if_pos rfl,←ajl (f:=f) (fun i hi=>by rw [if_neg (by omega)]),←hf,←h1]
  rfl
def vxyz:List ByteArray:=[⟨#[120]⟩,⟨#[121]⟩,⟨#[122]⟩]
variable {A B D M O P C:List Int} {a b d m o p c:Int}
theorem fit0 {r:Rat} {L:Nat} (s:Bool) (h:Fit r L):Fit (0+sgq s r) L:=by rw [Rat.zero_add];exact av6 s h
theorem aeo {l:List Tk} {i:Nat} {t t1 t2:Tk} {x y:Int} (h:l[i]? = some t) (h1:l[i+1]? = some t1) (hs:tsg t1 sOver=true) (h2:l[i+2]? = some t2) (hx:zOf t.text=x) (hy:zOf t2.text=y) (h0:y≠0):CoefR l i true (i+3) (Rat.divInt x y):=by
 subst hx hy
 exact .over t t1 t2 h h1 hs h2 h0
def rT0 (a:Int) (b:Int) (d:Int):List Rat:=(((((List.replicate 4 (0:Rat)).set 0 (0+sgq false (a:Rat))).set 1 (0+sgq true (b:Rat))).set 2 (0+sgq false 1)).set 3 (0+sgq true (-(d:Rat))))
theorem eq0 (f:Nat→Pl) (hA:Nd A a) (hB:Nd B b) (hD:Nd D d) (fa:Fit (a:Rat) 80) (fb:Fit (b:Rat) 80) (fd:Fit (d:Rat) 80):EqR (mkt f 0 [tN A,tS 42,tV 120,tS 45,tN B,tS 42,tV 121,tS 43,tV 122,tS 61,tN D,tE]) vxyz 80 0 (List.replicate 4 0) true 11 (rT0 a b d):=by
 refine .good 9 ((((List.replicate 4 (0:Rat)).set 0 (0+sgq false (a:Rat))).set 1 (0+sgq true (b:Rat))).set 2 (0+sgq false 1)) ⟨3,⟨#[61]⟩,f 9⟩ ⟨⟨2,strOfNums A,f 0⟩,rfl,?_⟩ rfl (by kernel_rfl) 11 _ ⟨⟨2,strOfNums D,f 10⟩,rfl,?_⟩ ⟨0,⟨#[]⟩,f 11⟩ rfl rfl
 ·rw [show tsg (⟨2,strOfNums A,f 0⟩:Tk) sMinus=false by kernel_rfl,show tpm (⟨2,strOfNums A,f 0⟩:Tk)=false by kernel_rfl]
  refine .more false 0 3 9 _ _ _ true (.star _ rfl rfl 1 _ (aaj rfl rfl (by kernel_rfl) hA.z) fa _ rfl (by kernel_rfl) true 3 _ (.yes _ 0 0 rfl (by kernel_rfl) rfl fa (fit0 false fa))) ⟨3,⟨#[45]⟩,f 3⟩ rfl (by kernel_rfl) ?_
  rw [show tsg (⟨3,⟨#[45]⟩,f 3⟩:Tk) sMinus=true by kernel_rfl]
  refine .more true 4 7 9 _ _ _ true (.star _ rfl rfl 5 _ (aaj rfl rfl (by kernel_rfl) hB.z) fb _ rfl (by kernel_rfl) true 7 _ (.yes _ 1 0 rfl (by kernel_rfl) rfl fb (fit0 true fb))) ⟨3,⟨#[43]⟩,f 7⟩ rfl (by kernel_rfl) ?_
  rw [show tsg (⟨3,⟨#[43]⟩,f 7⟩:Tk) sMinus=false by kernel_rfl]
  exact .last false 8 9 _ _ (.name _ rfl rfl true 9 _ (.yes _ 2 0 rfl (by kernel_rfl) rfl (abk (by decide)) (fit0 false (abk (by decide))))) ⟨3,⟨#[61]⟩,f 9⟩ rfl (by kernel_rfl)
 ·rw [show tsg (⟨2,strOfNums D,f 10⟩:Tk) sMinus=false by kernel_rfl,show tpm (⟨2,strOfNums D,f 10⟩:Tk)=false by kernel_rfl]
  exact .last false 10 11 _ _ (.alone _ rfl rfl 11 _ (aaj rfl rfl (by kernel_rfl) hD.z) fd _ rfl (by kernel_rfl) (by simp [tE]) 0 rfl (fit0 true (ab7 fd))) ⟨0,⟨#[]⟩,f 11⟩ rfl (by kernel_rfl)
def rT1 (a:Int) (b:Int) (d:Int):List Rat:=(((((List.replicate 4 (0:Rat)).set 3 (0+sgq false (-(d:Rat)))).set 0 (0+sgq true (a:Rat))).set 1 (0+sgq false (b:Rat))).set 2 (0+sgq true 1))
theorem eq1 (f:Nat→Pl) (hA:Nd A a) (hB:Nd B b) (hD:Nd D d) (fd:Fit (d:Rat) 80) (fa:Fit (a:Rat) 80) (fb:Fit (b:Rat) 80):EqR (mkt f 0 [tN D,tS 61,tN A,tV 120,tS 45,tN B,tV 121,tS 43,tV 122,tE]) vxyz 80 0 (List.replicate 4 0) true 9 (rT1 a b d):=by
 refine .good 1 ((List.replicate 4 (0:Rat)).set 3 (0+sgq false (-(d:Rat)))) ⟨3,⟨#[61]⟩,f 1⟩ ⟨⟨2,strOfNums D,f 0⟩,rfl,?_⟩ rfl (by kernel_rfl) 9 _ ⟨⟨2,strOfNums A,f 2⟩,rfl,?_⟩ ⟨0,⟨#[]⟩,f 9⟩ rfl rfl
 ·rw [show tsg (⟨2,strOfNums D,f 0⟩:Tk) sMinus=false by kernel_rfl,show tpm (⟨2,strOfNums D,f 0⟩:Tk)=false by kernel_rfl]
  exact .last false 0 1 _ _ (.alone _ rfl rfl 1 _ (aaj rfl rfl (by kernel_rfl) hD.z) fd _ rfl (by kernel_rfl) (by simp [tS]) 0 rfl (fit0 false (ab7 fd))) ⟨3,⟨#[61]⟩,f 1⟩ rfl (by kernel_rfl)
 ·rw [show tsg (⟨2,strOfNums A,f 2⟩:Tk) sMinus=false by kernel_rfl,show tpm (⟨2,strOfNums A,f 2⟩:Tk)=false by kernel_rfl]
  refine .more false 2 4 9 _ _ _ true (.next _ rfl rfl 3 _ (aaj rfl rfl (by kernel_rfl) hA.z) fa _ rfl (by kernel_rfl) rfl true 4 _ (.yes _ 0 0 rfl (by kernel_rfl) rfl fa (fit0 true fa))) ⟨3,⟨#[45]⟩,f 4⟩ rfl (by kernel_rfl) ?_
  rw [show tsg (⟨3,⟨#[45]⟩,f 4⟩:Tk) sMinus=true by kernel_rfl]
  refine .more true 5 7 9 _ _ _ true (.next _ rfl rfl 6 _ (aaj rfl rfl (by kernel_rfl) hB.z) fb _ rfl (by kernel_rfl) rfl true 7 _ (.yes _ 1 0 rfl (by kernel_rfl) rfl fb (fit0 false fb))) ⟨3,⟨#[43]⟩,f 7⟩ rfl (by kernel_rfl) ?_
  rw [show tsg (⟨3,⟨#[43]⟩,f 7⟩:Tk) sMinus=false by kernel_rfl]
  exact .last false 8 9 _ _ (.name _ rfl rfl true 9 _ (.yes _ 2 0 rfl (by kernel_rfl) rfl (abk (by decide)) (fit0 true (abk (by decide))))) ⟨0,⟨#[]⟩,f 9⟩ rfl (by kernel_rfl)
def rT2 (c:Int) (m:Int) (o:Int) (p:Int):List Rat:=(((((List.replicate 4 (0:Rat)).set 0 (0+sgq false (m:Rat))).set 1 (0+sgq true (o:Rat))).set 2 (0+sgq false (c:Rat))).set 3 (0+sgq true (-(p:Rat))))
theorem eq2 (f:Nat→Pl) (hC:Nd C c) (hM:Nd M m) (hO:Nd O o) (hP:Nd P p) (fm:Fit (m:Rat) 80) (fo:Fit (o:Rat) 80) (fc:Fit (c:Rat) 80) (fp:Fit (p:Rat) 80):EqR (mkt f 0 [tN M,tV 120,tS 45,tN O,tS 42,tV 121,tS 43,tN C,tS 42,tV 122,tS 61,tN P,tE]) vxyz 80 0 (List.replicate 4 0) true 12 (rT2 c m o p):=by
 refine .good 10 ((((List.replicate 4 (0:Rat)).set 0 (0+sgq false (m:Rat))).set 1 (0+sgq true (o:Rat))).set 2 (0+sgq false (c:Rat))) ⟨3,⟨#[61]⟩,f 10⟩ ⟨⟨2,strOfNums M,f 0⟩,rfl,?_⟩ rfl (by kernel_rfl) 12 _ ⟨⟨2,strOfNums P,f 11⟩,rfl,?_⟩ ⟨0,⟨#[]⟩,f 12⟩ rfl rfl
 ·rw [show tsg (⟨2,strOfNums M,f 0⟩:Tk) sMinus=false by kernel_rfl,show tpm (⟨2,strOfNums M,f 0⟩:Tk)=false by kernel_rfl]
  refine .more false 0 2 10 _ _ _ true (.next _ rfl rfl 1 _ (aaj rfl rfl (by kernel_rfl) hM.z) fm _ rfl (by kernel_rfl) rfl true 2 _ (.yes _ 0 0 rfl (by kernel_rfl) rfl fm (fit0 false fm))) ⟨3,⟨#[45]⟩,f 2⟩ rfl (by kernel_rfl) ?_
  rw [show tsg (⟨3,⟨#[45]⟩,f 2⟩:Tk) sMinus=true by kernel_rfl]
  refine .more true 3 6 10 _ _ _ true (.star _ rfl rfl 4 _ (aaj rfl rfl (by kernel_rfl) hO.z) fo _ rfl (by kernel_rfl) true 6 _ (.yes _ 1 0 rfl (by kernel_rfl) rfl fo (fit0 true fo))) ⟨3,⟨#[43]⟩,f 6⟩ rfl (by kernel_rfl) ?_
  rw [show tsg (⟨3,⟨#[43]⟩,f 6⟩:Tk) sMinus=false by kernel_rfl]
  exact .last false 7 10 _ _ (.star _ rfl rfl 8 _ (aaj rfl rfl (by kernel_rfl) hC.z) fc _ rfl (by kernel_rfl) true 10 _ (.yes _ 2 0 rfl (by kernel_rfl) rfl fc (fit0 false fc))) ⟨3,⟨#[61]⟩,f 10⟩ rfl (by kernel_rfl)
 ·rw [show tsg (⟨2,strOfNums P,f 11⟩:Tk) sMinus=false by kernel_rfl,show tpm (⟨2,strOfNums P,f 11⟩:Tk)=false by kernel_rfl]
  exact .last false 11 12 _ _ (.alone _ rfl rfl 12 _ (aaj rfl rfl (by kernel_rfl) hP.z) fp _ rfl (by kernel_rfl) (by simp [tE]) 0 rfl (fit0 true (ab7 fp))) ⟨0,⟨#[]⟩,f 12⟩ rfl (by kernel_rfl)
def rT3 (a:Int) (b:Int) (d:Int):List Rat:=(((((List.replicate 4 (0:Rat)).set 0 (0+sgq false (a:Rat))).set 1 (0+sgq true (b:Rat))).set 3 (0+sgq true (-(d:Rat)))).set 2 (0+sgq false 1))
theorem eq3 (f:Nat→Pl) (hA:Nd A a) (hB:Nd B b) (hD:Nd D d) (fa:Fit (a:Rat) 80) (fb:Fit (b:Rat) 80) (fd:Fit (d:Rat) 80):EqR (mkt f 0 [tN A,tV 120,tS 45,tN B,tV 121,tS 61,tN D,tS 45,tV 122,tE]) vxyz 80 0 (List.replicate 4 0) true 9 (rT3 a b d):=by
 refine .good 5 (((List.replicate 4 (0:Rat)).set 0 (0+sgq false (a:Rat))).set 1 (0+sgq true (b:Rat))) ⟨3,⟨#[61]⟩,f 5⟩ ⟨⟨2,strOfNums A,f 0⟩,rfl,?_⟩ rfl (by kernel_rfl) 9 _ ⟨⟨2,strOfNums D,f 6⟩,rfl,?_⟩ ⟨0,⟨#[]⟩,f 9⟩ rfl rfl
 ·rw [show tsg (⟨2,strOfNums A,f 0⟩:Tk) sMinus=false by kernel_rfl,show tpm (⟨2,strOfNums A,f 0⟩:Tk)=false by kernel_rfl]
  refine .more false 0 2 5 _ _ _ true (.next _ rfl rfl 1 _ (aaj rfl rfl (by kernel_rfl) hA.z) fa _ rfl (by kernel_rfl) rfl true 2 _ (.yes _ 0 0 rfl (by kernel_rfl) rfl fa (fit0 false fa))) ⟨3,⟨#[45]⟩,f 2⟩ rfl (by kernel_rfl) ?_
  rw [show tsg (⟨3,⟨#[45]⟩,f 2⟩:Tk) sMinus=true by kernel_rfl]
  exact .last true 3 5 _ _ (.next _ rfl rfl 4 _ (aaj rfl rfl (by kernel_rfl) hB.z) fb _ rfl (by kernel_rfl) rfl true 5 _ (.yes _ 1 0 rfl (by kernel_rfl) rfl fb (fit0 true fb))) ⟨3,⟨#[61]⟩,f 5⟩ rfl (by kernel_rfl)
 ·rw [show tsg (⟨2,strOfNums D,f 6⟩:Tk) sMinus=false by kernel_rfl,show tpm (⟨2,strOfNums D,f 6⟩:Tk)=false by kernel_rfl]
  refine .more false 6 7 9 _ _ _ true (.alone _ rfl rfl 7 _ (aaj rfl rfl (by kernel_rfl) hD.z) fd _ rfl (by kernel_rfl) (by simp [tS]) 0 rfl (fit0 true (ab7 fd))) ⟨3,⟨#[45]⟩,f 7⟩ rfl (by kernel_rfl) ?_
  rw [show tsg (⟨3,⟨#[45]⟩,f 7⟩:Tk) sMinus=true by kernel_rfl]
  exact .last true 8 9 _ _ (.name _ rfl rfl true 9 _ (.yes _ 2 0 rfl (by kernel_rfl) rfl (abk (by decide)) (fit0 false (abk (by decide))))) ⟨0,⟨#[]⟩,f 9⟩ rfl (by kernel_rfl)
def rT4 (a:Int) (b:Int) (d:Int):List Rat:=((((((List.replicate 4 (0:Rat)).set 0 (0+sgq true (a:Rat))).set 1 (0+sgq false (b:Rat))).set 2 (0+sgq true 1)).set 3 (0+sgq false (-(d:Rat)))).set 3 ((0+sgq false (-(d:Rat)))+sgq true (-((0:Int):Rat))))
theorem eq4 (f:Nat→Pl) (hA:Nd A a) (hB:Nd B b) (hD:Nd D d) (fa:Fit (a:Rat) 80) (fb:Fit (b:Rat) 80) (fd:Fit (d:Rat) 80):EqR (mkt f 0 [tS 45,tN A,tV 120,tS 43,tN B,tV 121,tS 45,tV 122,tS 43,tN D,tS 61,tN [48],tE]) vxyz 80 0 (List.replicate 4 0) true 12 (rT4 a b d):=by
 have f0:Fit (((0:Int)):Rat) 80:=by constructor <;> decide +kernel
 refine .good 10 (((((List.replicate 4 (0:Rat)).set 0 (0+sgq true (a:Rat))).set 1 (0+sgq false (b:Rat))).set 2 (0+sgq true 1)).set 3 (0+sgq false (-(d:Rat)))) ⟨3,⟨#[61]⟩,f 10⟩ ⟨⟨3,⟨#[45]⟩,f 0⟩,rfl,?_⟩ rfl (by kernel_rfl) 12 _ ⟨⟨2,strOfNums [48],f 11⟩,rfl,?_⟩ ⟨0,⟨#[]⟩,f 12⟩ rfl rfl
 ·rw [show tsg (⟨3,⟨#[45]⟩,f 0⟩:Tk) sMinus=true by kernel_rfl,show tpm (⟨3,⟨#[45]⟩,f 0⟩:Tk)=true by kernel_rfl]
  rw [if_pos rfl]
  refine .more true 1 3 10 _ _ _ true (.next _ rfl rfl 2 _ (aaj rfl rfl (by kernel_rfl) hA.z) fa _ rfl (by kernel_rfl) rfl true 3 _ (.yes _ 0 0 rfl (by kernel_rfl) rfl fa (fit0 true fa))) ⟨3,⟨#[43]⟩,f 3⟩ rfl (by kernel_rfl) ?_
  rw [show tsg (⟨3,⟨#[43]⟩,f 3⟩:Tk) sMinus=false by kernel_rfl]
  refine .more false 4 6 10 _ _ _ true (.next _ rfl rfl 5 _ (aaj rfl rfl (by kernel_rfl) hB.z) fb _ rfl (by kernel_rfl) rfl true 6 _ (.yes _ 1 0 rfl (by kernel_rfl) rfl fb (fit0 false fb))) ⟨3,⟨#[45]⟩,f 6⟩ rfl (by kernel_rfl) ?_
  rw [show tsg (⟨3,⟨#[45]⟩,f 6⟩:Tk) sMinus=true by kernel_rfl]
  refine .more true 7 8 10 _ _ _ true (.name _ rfl rfl true 8 _ (.yes _ 2 0 rfl (by kernel_rfl) rfl (abk (by decide)) (fit0 true (abk (by decide))))) ⟨3,⟨#[43]⟩,f 8⟩ rfl (by kernel_rfl) ?_
  rw [show tsg (⟨3,⟨#[43]⟩,f 8⟩:Tk) sMinus=false by kernel_rfl]
  exact .last false 9 10 _ _ (.alone _ rfl rfl 10 _ (aaj rfl rfl (by kernel_rfl) hD.z) fd _ rfl (by kernel_rfl) (by simp [tS]) 0 rfl (fit0 false (ab7 fd))) ⟨3,⟨#[61]⟩,f 10⟩ rfl (by kernel_rfl)
 ·rw [show tsg (⟨2,strOfNums [48],f 11⟩:Tk) sMinus=false by kernel_rfl,show tpm (⟨2,strOfNums [48],f 11⟩:Tk)=false by kernel_rfl]
  exact .last false 11 12 _ _ (.alone _ rfl rfl 12 _ (aaj rfl rfl (by kernel_rfl) nd0.z) f0 _ rfl (by kernel_rfl) (by simp [tE]) (0+sgq false (-(d:Rat))) rfl (by show Fit (0+sgq false (-(d:Rat))+sgq true (-((0:Int):Rat))) 80;rw [show sgq true (-((0:Int):Rat))=0 by decide +kernel,Rat.add_zero];exact fit0 false (ab7 fd))) ⟨0,⟨#[]⟩,f 12⟩ rfl (by kernel_rfl)
def rT5 (a:Int) (b:Int) (c:Int) (d:Int):List Rat:=(((((List.replicate 4 (0:Rat)).set 0 (0+sgq false (Rat.divInt a c))).set 1 (0+sgq true (Rat.divInt b c))).set 2 (0+sgq false (Rat.divInt 1 c))).set 3 (0+sgq true (-(Rat.divInt d c))))
theorem eq5 (f:Nat→Pl) (hA:Nd A a) (hB:Nd B b) (hC:Nd C c) (hD:Nd D d) (hc:c≠0) (ga:Fit (Rat.divInt a c) 80) (gb:Fit (Rat.divInt b c) 80) (g1:Fit (Rat.divInt 1 c) 80) (gd:Fit (Rat.divInt d c) 80):EqR (mkt f 0 [tN A,tS 47,tN C,tV 120,tS 45,tN B,tS 47,tN C,tS 42,tV 121,tS 43,tN [49],tS 47,tN C,tV 122,tS 61,tN D,tS 47,tN C,tE]) vxyz 80 0 (List.replicate 4 0) true 19 (rT5 a b c d):=by
 refine .good 15 ((((List.replicate 4 (0:Rat)).set 0 (0+sgq false (Rat.divInt a c))).set 1 (0+sgq true (Rat.divInt b c))).set 2 (0+sgq false (Rat.divInt 1 c))) ⟨3,⟨#[61]⟩,f 15⟩ ⟨⟨2,strOfNums A,f 0⟩,rfl,?_⟩ rfl (by kernel_rfl) 19 _ ⟨⟨2,strOfNums D,f 16⟩,rfl,?_⟩ ⟨0,⟨#[]⟩,f 19⟩ rfl rfl
 ·rw [show tsg (⟨2,strOfNums A,f 0⟩:Tk) sMinus=false by kernel_rfl,show tpm (⟨2,strOfNums A,f 0⟩:Tk)=false by kernel_rfl]
  refine .more false 0 4 15 _ _ _ true (.next _ rfl rfl 3 _ (aeo rfl rfl (by kernel_rfl) rfl hA.z hC.z hc) ga _ rfl (by kernel_rfl) rfl true 4 _ (.yes _ 0 0 rfl (by kernel_rfl) rfl ga (fit0 false ga))) ⟨3,⟨#[45]⟩,f 4⟩ rfl (by kernel_rfl) ?_
  rw [show tsg (⟨3,⟨#[45]⟩,f 4⟩:Tk) sMinus=true by kernel_rfl]
  refine .more true 5 10 15 _ _ _ true (.star _ rfl rfl 8 _ (aeo rfl rfl (by kernel_rfl) rfl hB.z hC.z hc) gb _ rfl (by kernel_rfl) true 10 _ (.yes _ 1 0 rfl (by kernel_rfl) rfl gb (fit0 true gb))) ⟨3,⟨#[43]⟩,f 10⟩ rfl (by kernel_rfl) ?_
  rw [show tsg (⟨3,⟨#[43]⟩,f 10⟩:Tk) sMinus=false by kernel_rfl]
  exact .last false 11 15 _ _ (.next _ rfl rfl 14 _ (aeo rfl rfl (by kernel_rfl) rfl nd1.z hC.z hc) g1 _ rfl (by kernel_rfl) rfl true 15 _ (.yes _ 2 0 rfl (by kernel_rfl) rfl g1 (fit0 false g1))) ⟨3,⟨#[61]⟩,f 15⟩ rfl (by kernel_rfl)
 ·rw [show tsg (⟨2,strOfNums D,f 16⟩:Tk) sMinus=false by kernel_rfl,show tpm (⟨2,strOfNums D,f 16⟩:Tk)=false by kernel_rfl]
  exact .last false 16 19 _ _ (.alone _ rfl rfl 19 _ (aeo rfl rfl (by kernel_rfl) rfl hD.z hC.z hc) gd _ rfl (by kernel_rfl) (by simp [tE]) 0 rfl (fit0 true (ab7 gd))) ⟨0,⟨#[]⟩,f 19⟩ rfl (by kernel_rfl)
def rT6 (a:Int) (b:Int) (d:Int):List Rat:=(((((List.replicate 4 (0:Rat)).set 2 (0+sgq false 1)).set 0 (0+sgq false (a:Rat))).set 3 (0+sgq true (-(d:Rat)))).set 1 (0+sgq true (b:Rat)))
theorem eq6 (f:Nat→Pl) (hA:Nd A a) (hB:Nd B b) (hD:Nd D d) (fa:Fit (a:Rat) 80) (fd:Fit (d:Rat) 80) (fb:Fit (b:Rat) 80):EqR (mkt f 0 [tV 122,tS 43,tN A,tS 42,tV 120,tS 61,tS 43,tN D,tS 43,tN B,tS 42,tV 121,tE]) vxyz 80 0 (List.replicate 4 0) true 12 (rT6 a b d):=by
 refine .good 5 (((List.replicate 4 (0:Rat)).set 2 (0+sgq false 1)).set 0 (0+sgq false (a:Rat))) ⟨3,⟨#[61]⟩,f 5⟩ ⟨⟨1,⟨#[122]⟩,f 0⟩,rfl,?_⟩ rfl (by kernel_rfl) 12 _ ⟨⟨3,⟨#[43]⟩,f 6⟩,rfl,?_⟩ ⟨0,⟨#[]⟩,f 12⟩ rfl rfl
 ·rw [show tsg (⟨1,⟨#[122]⟩,f 0⟩:Tk) sMinus=false by kernel_rfl,show tpm (⟨1,⟨#[122]⟩,f 0⟩:Tk)=false by kernel_rfl]
  refine .more false 0 1 5 _ _ _ true (.name _ rfl rfl true 1 _ (.yes _ 2 0 rfl (by kernel_rfl) rfl (abk (by decide)) (fit0 false (abk (by decide))))) ⟨3,⟨#[43]⟩,f 1⟩ rfl (by kernel_rfl) ?_
  rw [show tsg (⟨3,⟨#[43]⟩,f 1⟩:Tk) sMinus=false by kernel_rfl]
  exact .last false 2 5 _ _ (.star _ rfl rfl 3 _ (aaj rfl rfl (by kernel_rfl) hA.z) fa _ rfl (by kernel_rfl) true 5 _ (.yes _ 0 0 rfl (by kernel_rfl) rfl fa (fit0 false fa))) ⟨3,⟨#[61]⟩,f 5⟩ rfl (by kernel_rfl)
 ·rw [show tsg (⟨3,⟨#[43]⟩,f 6⟩:Tk) sMinus=false by kernel_rfl,show tpm (⟨3,⟨#[43]⟩,f 6⟩:Tk)=true by kernel_rfl]
  rw [if_pos rfl]
  refine .more false 7 8 12 _ _ _ true (.alone _ rfl rfl 8 _ (aaj rfl rfl (by kernel_rfl) hD.z) fd _ rfl (by kernel_rfl) (by simp [tS]) 0 rfl (fit0 true (ab7 fd))) ⟨3,⟨#[43]⟩,f 8⟩ rfl (by kernel_rfl) ?_
  rw [show tsg (⟨3,⟨#[43]⟩,f 8⟩:Tk) sMinus=false by kernel_rfl]
  exact .last false 9 12 _ _ (.star _ rfl rfl 10 _ (aaj rfl rfl (by kernel_rfl) hB.z) fb _ rfl (by kernel_rfl) true 12 _ (.yes _ 1 0 rfl (by kernel_rfl) rfl fb (fit0 true fb))) ⟨0,⟨#[]⟩,f 12⟩ rfl (by kernel_rfl)
end Lm
end Go.Proofs.YtdjgifcmhafppaaGreatDoor
namespace Go.Proofs.YtdjgifcmhafppaaGreatDoor
namespace Lm
open Go Go.RowKit
theorem den_pos (r:Rat):(0:Int)<(r.den:Int):=by have:=r.den_pos;omega
theorem afm (rs:List Rat):0<comR rs:=by
 have key:∀ (l:List Rat) (c:Int),0<c→0<l.foldl (fun c r=>c*((r.den:Int) / ((Int.gcd c r.den:Nat):Int))) c:=by
  intro l
  induction l with
  | nil=>exact fun c h=>h
  | cons x l ih =>
   intro c hc
   refine ih _ (Int.mul_pos hc ?_)
   have h1:=den_pos x
   have h2:((Int.gcd c x.den:Nat):Int) ∣ (x.den:Int):=Int.gcd_dvd_right ..
   have h3:(0:Int)<((Int.gcd c x.den:Nat):Int):=by
    have:=Int.gcd_pos_of_ne_zero_left (x.den:Int) (show c≠0 by omega)
    omega
   exact Int.ediv_pos_of_pos_of_dvd h1 (by omega) h2
 exact key rs 1 (by decide)
section
end
theorem awl {rs:List Rat} : ∀ r ∈ rs,(r.den:Int) ∣ comR rs:=by
 have up:∀ (l:List Rat) (c:Int),c ∣ l.foldl (fun c r=>c*((r.den:Int) / ((Int.gcd c r.den:Nat):Int))) c:=by
  intro l
  induction l with
  | nil=>intro c;exact Int.dvd_refl c
  | cons x l ih=>intro c;exact Int.dvd_trans (Int.dvd_mul_right c _) (ih _)
 have key:∀ (l:List Rat) (c:Int),∀ r ∈ l,(r.den:Int) ∣ l.foldl (fun c r=>c*((r.den:Int) / ((Int.gcd c r.den:Nat):Int))) c:=by
  intro l
  induction l with
  | nil=>intro c r hr;cases hr
  | cons x l ih =>
   intro c r hr
   rcases List.mem_cons.1 hr with rfl | hr
   ·refine Int.dvd_trans ?_ (up l _)
    obtain ⟨a,ha⟩:((Int.gcd c r.den:Nat):Int) ∣ c:=Int.gcd_dvd_left ..
    have hg:((Int.gcd c r.den:Nat):Int) ∣ (r.den:Int):=Int.gcd_dvd_right ..
    refine ⟨a,?_⟩
    show c*((r.den:Int) / ((Int.gcd c r.den:Nat):Int))=r.den*a
    have h1:=Int.mul_ediv_cancel' hg
    generalize (r.den:Int) / ((Int.gcd c r.den:Nat):Int)=t at *
    generalize ((Int.gcd c r.den:Nat):Int)=g at *
    rw [←h1,ha]
    ac_rfl
   ·exact ih _ r hr
 exact key rs 1
theorem am7 (r:Rat):((r.den:Nat):Rat)*r=(r.num:Rat):=by
 have h0:(((r.den:Nat):Int):Rat)≠0:=by
  intro e
  have:=r.den_pos
  have:=Rat.intCast_eq_zero_iff.1 e
  omega
 have h1:(r.num:Rat) / (((r.den:Nat):Int):Rat)=r:=(Rat.divInt_eq_div _ _).symm.trans (Rat.num_divInt_den r)
 have h2:=Rat.div_mul_cancel (a:=(r.num:Rat)) h0
 rw [h1,Rat.mul_comm] at h2
 exact h2
theorem am8 (rs:List Rat) {r:Rat} (hr:r ∈ rs):((r.num*(comR rs / r.den):Int):Rat)=(comR rs:Rat)*r:=by
 obtain ⟨m,hm⟩:=awl r hr
 have hd:=den_pos r
 rw [hm,Int.mul_ediv_cancel_left m (by omega)]
 have h:=am7 r
 rw [Rat.intCast_mul,Rat.intCast_mul,←h]
 show (r.den:Rat)*r*(m:Rat)=((r.den:Int):Rat)*(m:Rat)*r
 rw [show (((r.den:Nat):Int):Rat)=((r.den:Nat):Rat) from rfl]
 grind
theorem amh (q:Rat) (hq:q≠0) (rs:List Rat):canonZ (rs.map (q*·))=canonZ rs:=by
 have hn:q.num≠0:=fun h=>hq (Rat.num_eq_zero.1 h)
 have c1:=afm rs
 have c2:=afm (rs.map (q*·))
 have hd:=den_pos q
 unfold canonZ
 rw [←ajb ((q.den:Int)*comR rs) (fun e=>by rcases Int.mul_eq_zero.1 e with e | e <;> omega) (clr (rs.map (q*·))),←ajb (comR (rs.map (q*·))*q.num) (fun e=>by rcases Int.mul_eq_zero.1 e with e | e;omega;exact hn e) (clr rs)]
 congr 1
 unfold clr
 rw [List.map_map,List.map_map,List.map_map]
 refine List.map_congr_left fun r hr=>?_
 have h1:=am8 rs hr
 have h2:=am8 (rs.map (q*·)) (r:=q*r) (List.mem_map.2 ⟨r,hr,rfl⟩)
 show (q.den:Int)*comR rs*((q*r).num*(comR (rs.map (q*·)) / (q*r).den))=comR (rs.map (q*·))*q.num*(r.num*(comR rs / r.den))
 generalize r.num*(comR rs / r.den)=a at *
 generalize (q*r).num*(comR (rs.map (q*·)) / (q*r).den)=b at *
 generalize comR (rs.map (q*·))=C at *
 generalize comR rs=D at *
 have h:=am7 q
 refine Rat.intCast_inj.1 ?_
 rw [Rat.intCast_mul,Rat.intCast_mul,Rat.intCast_mul,Rat.intCast_mul,h1,h2,←h]
 show ((q.den:Nat):Rat)*(D:Rat)*((C:Rat)*(q*r))=(C:Rat)*(((q.den:Nat):Rat)*q)*((D:Rat)*r)
 grind
end Lm
end Go.Proofs.YtdjgifcmhafppaaGreatDoor
namespace Go.Proofs.YtdjgifcmhafppaaGreatDoor
namespace Lm
open Go Go.RowKit
def base4 (a b d:Int):List Rat:=[(a:Rat),-(b:Rat),1,(d:Rat)]
variable {a b d c m o p:Int}
theorem row0:rT0 a b d=base4 a b d:=by simp [rT0,base4,sgq,List.replicate,Rat.zero_add]
theorem row1:rT1 a b d=(base4 a b d).map ((-1)*·):=by
 simp [rT1,base4,sgq,List.replicate,Rat.zero_add]
 grind
theorem row2 (hm:m=a*c) (ho:o=b*c) (hp:p=d*c):rT2 c m o p=(base4 a b d).map ((c:Rat)*·):=by
 subst hm ho hp
 simp [rT2,base4,sgq,List.replicate,Rat.zero_add,Rat.intCast_mul]
 grind
theorem row3:rT3 a b d=base4 a b d:=by simp [rT3,base4,sgq,List.replicate,Rat.zero_add]
theorem row4:rT4 a b d=(base4 a b d).map ((-1)*·):=by
 simp [rT4,base4,sgq,List.replicate,Rat.zero_add]
 grind
theorem row5:rT5 a b c d=(base4 a b d).map (Rat.divInt 1 c*·):=by
 have h:∀ x:Int,Rat.divInt x c=Rat.divInt 1 c*(x:Rat):=by
  intro x
  rw [Rat.divInt_eq_div,Rat.divInt_eq_div,Rat.div_def,Rat.div_def]
  grind
 simp only [rT5,base4,List.replicate,List.set,sgq,h a,h b,h d]
 simp [Rat.zero_add]
 grind
theorem row6:rT6 a b d=base4 a b d:=by simp [rT6,base4,sgq,List.replicate,Rat.zero_add]
theorem aul {w:World} (hT:Tabs w) {v:Value} {vs:List ByteArray} (hv:Strs w v vs) (hN:NmsOk vs) (hnov:(⟨#[]⟩:ByteArray) ∉ vs) {cs:List Nat} (hcs:∀ x ∈ cs,Cod x) (hl:(encs cs).length≤4096) {ts:List (Int × ByteArray)} (hS:ScanC cs ts) (L M:Nat) (hL:L≤10000) (hL1:1≤L) (hM:M≤100000) {k:Nat} {rs:List Rat} (hE:∀ f,EqR (mkt f 0 ts) vs L 0 (List.replicate (vs.length+1) 0) true k rs) (hrl:rs.length=vs.length+1) (hC:∀ k,k≤rs.length→((comR (rs.take k)).natAbs:Int)<pw M) (hD:∀ z ∈ clr rs,(z.natAbs:Int)<pw M) (hZ:∀ z ∈ canonZ rs,(z.natAbs:Int)<pw 32) :
  Calls Tryz.prog 10 #[.string (bts (encs cs)),v] w fun r w'=>Below w.heap.size w w'∧∃ x,r=.returned (.tuple #[x,.int .i64 0,.agg #[.int .i64 0,.int .i64 0,.int .i64 0,.int .i64 0]])∧ORow w.heap.size w' x (canonZ rs) M:=by
 have hd:(bts (encs cs)).data.toList=encs cs:=by simp [bts]
 have hz:(bts (encs cs)).size=(encs cs).length:=by simp [bts,ByteArray.size]
 have hQ:=atj (bts (encs cs)) cs hcs [] [] pl0 rfl (by rw [hd];simp) (.inl rfl)
 obtain ⟨l,hR,hl2⟩:=av3 (bts (encs cs)) cs ts hS [] pl0 rfl (by rw [hd];rfl)
 obtain ⟨f,rfl⟩:=ar5 ts l 0 hl2
 refine (afq w hT _ (by omega) v vs hv hN _ _ _ hQ hR L M hL hL1 hM k rs (hE f) hrl hC hD hnov).mono ?_
 rintro r w' ⟨hb,⟨_,h⟩ | ⟨⟨z,h1,h2⟩,_⟩⟩
 ·exact ⟨hb,h⟩
 ·exact absurd (hZ z h1) h2
end Lm
end Go.Proofs.YtdjgifcmhafppaaGreatDoor
namespace Go.Proofs.YtdjgifcmhafppaaGreatDoor
namespace Lm
open Go Go.RowKit
theorem awm {rs:List Rat} (h:∀ r ∈ rs,r.den≤1000):comR rs≤1000 ^ rs.length:=by
 have key:∀ (l:List Rat) (c:Int),0<c→(∀ r ∈ l,r.den≤1000)→l.foldl (fun c r=>c*((r.den:Int) / ((Int.gcd c r.den:Nat):Int))) c≤c*1000 ^ l.length:=by
  intro l
  induction l with
  | nil=>intro c _ _;simp
  | cons x l ih =>
   intro c hc hl
   have h1:=den_pos x
   have hx:=hl x (by simp)
   have hg:(0:Int)<((Int.gcd c x.den:Nat):Int):=by
    have:=Int.gcd_pos_of_ne_zero_left (x.den:Int) (show c≠0 by omega)
    omega
   have h2:((Int.gcd c x.den:Nat):Int) ∣ (x.den:Int):=Int.gcd_dvd_right ..
   have h3:(0:Int)<(x.den:Int) / ((Int.gcd c x.den:Nat):Int):=Int.ediv_pos_of_pos_of_dvd h1 (by omega) h2
   have h4:(x.den:Int) / ((Int.gcd c x.den:Nat):Int)≤1000:=Int.le_trans (Int.ediv_le_self _ (by omega)) (by omega)
   rw [List.foldl_cons]
   refine Int.le_trans (ih _ (Int.mul_pos hc h3) (fun r hr=>hl r (by simp [hr]))) ?_
   rw [List.length_cons,Int.pow_succ,Int.mul_assoc]
   refine Int.mul_le_mul_of_nonneg_left ?_ (by omega)
   rw [Int.mul_comm (1000 ^ l.length) 1000]
   exact Int.mul_le_mul_of_nonneg_right h4 (Int.le_of_lt (Int.pow_pos (by decide)))
 have:=key rs 1 (by decide) h
 rwa [Int.one_mul] at this
theorem ajm {rs:List Rat} (h:∀ r ∈ rs,r.den≤1000) (hl:rs.length≤4) (k:Nat):((comR (rs.take k)).natAbs:Int)≤1000000000000:=by
 have h1:=awm (rs:=rs.take k) (fun r hr=>h r (List.mem_of_mem_take hr))
 have h2:=afm (rs.take k)
 have h3:(rs.take k).length≤4:=by rw [List.length_take];omega
 have h4:(1000:Int) ^ (rs.take k).length≤1000000000000:=by
  have h5:∀ n:Nat,n<5→(1000:Int) ^ n≤1000000000000:=by decide
  exact h5 _ (by omega)
 omega
theorem ar6 {rs:List Rat} (h:∀ r ∈ rs,r.den≤1000∧(r.num.natAbs:Int)<pw 40) (hl:rs.length≤4):∀ z ∈ clr rs,(z.natAbs:Int)<pw 80:=by
 intro z hz
 obtain ⟨r,hr,rfl⟩:=List.mem_map.1 hz
 have h1:=ajm (fun r hr=>(h r hr).1) hl rs.length
 rw [List.take_length] at h1
 have h2:=afm rs
 have h3:comR rs / r.den≤comR rs:=Int.ediv_le_self _ (by omega)
 have h4:0≤comR rs / r.den:=Int.ediv_nonneg (by omega) (by have:=den_pos r;omega)
 rw [Int.natAbs_mul,Int.natCast_mul,show ((comR rs / r.den).natAbs:Int)=comR rs / r.den by omega]
 have h5:(r.num.natAbs:Int)*(comR rs / r.den)≤(r.num.natAbs:Int)*1000000000000:=Int.mul_le_mul_of_nonneg_left (by omega) (by omega)
 have h6:=(h r hr).2
 have h7:pw 40*1000000000000<pw 80:=by decide +kernel
 omega
theorem apb {x c:Int} (hc:0<c):(Rat.divInt x c).den≤c.natAbs∧(Rat.divInt x c).num.natAbs≤x.natAbs:=by
 constructor
 ·rw [Rat.den_divInt,if_neg (by omega)]
  exact Nat.div_le_self _ _
 ·rw [Rat.num_divInt,Int.sign_eq_one_of_pos hc,Int.one_mul]
  obtain ⟨q,hq⟩:((Int.gcd c x:Nat):Int) ∣ x:=Int.gcd_dvd_right ..
  have hg:0<Int.gcd c x:=Int.gcd_pos_of_ne_zero_left x (by omega)
  generalize Int.gcd c x=g at *
  have h1:x / (g:Int)=q:=by rw [hq];exact Int.mul_ediv_cancel_left q (by omega)
  rw [h1,hq,Int.natAbs_mul]
  exact Nat.le_mul_of_pos_left _ (by omega)
theorem adb {x c:Int} (hc:0<c) (hc1:c≤1000) (hx:(x.natAbs:Int)<pw 33):Fit (Rat.divInt x c) 80∧(Rat.divInt x c).den≤1000∧((Rat.divInt x c).num.natAbs:Int)<pw 40:=by
 obtain ⟨h1,h2⟩:=apb (x:=x) hc
 have h3:pw 33<pw 40:=by decide +kernel
 have h4:pw 33<pw 80:=by decide +kernel
 have h5:(1000:Int)<pw 80:=by decide +kernel
 exact ⟨⟨by omega,by omega⟩,by omega,by omega⟩
theorem aum (a b d:Int):clr (base4 a b d) = [a,-b,1,d]:=by
 have h:comR (base4 a b d)=1:=by simp [comR,base4]
 unfold clr
 rw [h]
 simp [base4]
theorem apc {a b d:Int} {N:Int} (ha:(a.natAbs:Int)<N) (hb:(b.natAbs:Int)<N) (hd:(d.natAbs:Int)<N) (h1:1<N):∀ z ∈ canonZ (base4 a b d),(z.natAbs:Int)<N:=by
 intro z hz
 unfold canonZ red at hz
 rw [aum] at hz
 obtain ⟨x,hx,rfl⟩:=List.mem_map.1 hz
 obtain ⟨q,hq⟩:=air x hx
 have h2:dvs [a,-b,1,d] ∣ 1:=air 1 (by simp)
 have h3:dvs [a,-b,1,d]≠0:=fun e=>by rw [e] at h2;have:=Int.zero_dvd.1 h2;omega
 have h4:x / dvs [a,-b,1,d]=q:=by
  conv=>lhs;rw [hq]
  exact Int.mul_ediv_cancel_left q h3
 rw [h4]
 have h5:q.natAbs≤x.natAbs:=by
  rw [hq,Int.natAbs_mul]
  exact Nat.le_mul_of_pos_left _ (by omega)
 have h6:(x.natAbs:Int)<N:=by
  simp at hx
  rcases hx with rfl | rfl | rfl | rfl
  ·exact ha
  ·rw [Int.natAbs_neg];exact hb
  ·simpa using h1
  ·exact hd
 omega
end Lm
end Go.Proofs.YtdjgifcmhafppaaGreatDoor
namespace Go.Proofs.YtdjgifcmhafppaaGreatDoor
namespace Lm
open Go Go.RowKit
theorem ac5 (cs:List Nat):(encs cs).length≤cs.length+3*cs.countP (fun c=>decide (128≤c)):=by
 induction cs with
 | nil=>simp [encs]
 | cons c cs ih =>
  rw [encs,List.length_append,List.length_cons,List.countP_cons]
  by_cases h:128≤c
  ·have h4:(encL c).length≤4:=by unfold encL;(repeat' split) <;> simp
   rw [if_pos (by simpa using h)]
   omega
  ·have h1:(encL c).length=1:=by unfold encL;rw [if_pos (by omega)];rfl
   omega
theorem aay {ds:List Int} {x:Int} (h:Nd ds x):(dcs ds).countP (fun c=>decide (128≤c))=0:=by
 rw [List.countP_eq_zero]
 intro c hc
 have:=am5 h.dec.1 c hc
 simp
 omega
theorem aaz {ds:List Int} {x:Int} (h:Nd ds x):(dcs ds).length≤400:=by rw [dcs,List.length_map];exact h.sh
theorem aa0 {ds:List Int} {x:Int} (h:Nd ds x):∀ c ∈ dcs ds,Cod c:=(am5 h.dec.1).cod
structure TuK (A B D M O P C:List Int) (a b d c:Int):Prop where
 hA:Nd A a
 hB:Nd B b
 hD:Nd D d
 hM:Nd M (a*c)
 hO:Nd O (b*c)
 hP:Nd P (d*c)
 hC:Nd C c
 c0:1≤c
 c1:c≤1000
 xa:(a.natAbs:Int)<pw 32
 xb:(b.natAbs:Int)<pw 32
 xd:(d.natAbs:Int)<pw 32
variable {A B D M O P C:List Int} {a b d c:Int} (K:TuK A B D M O P C a b d c)
theorem ax6:isNm ⟨#[122]⟩ = true:=by
 refine ala 122 ⟨#[122]⟩ [⟨122,⟨0,0,1,1⟩⟩] ⟨1,1,1,2⟩ [⟨1,⟨#[122]⟩,⟨0,0,1,1⟩⟩,⟨0,⟨#[]⟩,⟨1,1,1,2⟩⟩] (by decide) (by decide) ?_ ?_ (by kernel_rfl)
 ·refine abi (k:=1) (by decide) (by kernel_rfl) (by decide) ?_
  exact .stop ⟨1,1,1,2⟩ (.inl (by decide))
 ·refine ScanR.tok _ ⟨122,⟨0,0,1,1⟩⟩ [] 1 ⟨#[122]⟩ [] (.ok [⟨0,⟨#[]⟩,⟨1,1,1,2⟩⟩]) (by kernel_rfl) (aee (by kernel_rfl) (by kernel_rfl) (by decide) (by kernel_rfl)) ?_
  exact ScanR.done _ (by kernel_rfl) (by decide)
theorem awn:NmsOk vxyz:=by
 refine ⟨by decide,fun i x hx=>?_⟩
 match i with
 | 0=>simp [vxyz] at hx;subst hx;exact ⟨ar1,by simp⟩
 | 1=>simp [vxyz] at hx;subst hx;exact ⟨ar2,by simp [vxyz]⟩
 | 2=>simp [vxyz] at hx;subst hx;exact ⟨ax6,by simp [vxyz]⟩
 | i+3=>simp [vxyz] at hx
def Sm (r:Rat):Prop:=r.den≤1000∧(r.num.natAbs:Int)<pw 40
theorem Sm.neg {r:Rat} (h:Sm r):Sm (-r):=⟨by rw [Rat.neg_den];exact h.1,by rw [Rat.neg_num,Int.natAbs_neg];exact h.2⟩
theorem Sm.sg {r:Rat} (h:Sm r) (s:Bool):Sm (0+sgq s r):=by
 rw [Rat.zero_add]
 cases s with
 | false=>exact h
 | true=>exact h.neg
theorem abj {x:Int} (h:(x.natAbs:Int)<pw 33):Sm (x:Rat):=by
 have h3:pw 33<pw 40:=by decide +kernel
 exact ⟨by simp,by simp;omega⟩
theorem ack:dcs [48] = [48]:=rfl
theorem acl:dcs [49] = [49]:=rfl
theorem ax7 {c:Int} (h:0<c):Rat.divInt 1 c≠0:=by
 intro e
 have h0:(c:Rat)≠0:=fun e=>by have:=Rat.intCast_eq_zero_iff.1 e;omega
 have h1:=Rat.div_mul_cancel (a:=((1:Int):Rat)) h0
 rw [←Rat.divInt_eq_div,e,Rat.zero_mul] at h1
 exact absurd h1 (by decide)
theorem agb:Sm 1:=⟨by decide,by decide +kernel⟩
theorem abu {x:Int} (h:(x.natAbs:Int)<pw 33):Fit (x:Rat) 80:=by
 have h4:pw 33<pw 80:=by decide +kernel
 exact awk (by omega) (by decide)
theorem afn {c:Nat} (h:c<128∨c=183∨c=215∨c=8722):Cod c:=by unfold Cod;omega
include K
theorem TuK.big {x:Int} (h:(x.natAbs:Int)<pw 32):((x*c).natAbs:Int)<pw 33:=by
 have h0:=K.c0;have h1:=K.c1
 rw [Int.natAbs_mul,Int.natCast_mul,show (c.natAbs:Int)=c by omega]
 have h2:(x.natAbs:Int)*c≤(x.natAbs:Int)*1000:=Int.mul_le_mul_of_nonneg_left h1 (by omega)
 have h3:pw 32*1000<pw 33:=by decide +kernel
 omega
theorem TuK.eqT {w:World} (hT:Tabs w) {v:Value} (hv:Strs w v vxyz) {cs:List Nat} (hcs:∀ x ∈ cs,Cod x) (hl:(encs cs).length≤4096) {ts:List (Int × ByteArray)} (hS:ScanC cs ts) {k:Nat} {rs:List Rat} (hE:∀ f,EqR (mkt f 0 ts) vxyz 80 0 (List.replicate 4 0) true k rs) {q:Rat} (hq:q≠0) (hr:rs=(base4 a b d).map (q*·)) (hb:∀ r ∈ rs,r.den≤1000∧(r.num.natAbs:Int)<pw 40) :
  Calls Tryz.prog 10 #[.string (bts (encs cs)),v] w fun r w'=>Below w.heap.size w w'∧∃ x,r=.returned (.tuple #[x,.int .i64 0,.agg #[.int .i64 0,.int .i64 0,.int .i64 0,.int .i64 0]])∧ORow w.heap.size w' x (canonZ (base4 a b d)) 80:=by
 have hlen:rs.length=4:=by rw [hr,List.length_map];rfl
 have hz:canonZ rs=canonZ (base4 a b d):=by rw [hr];exact amh q hq _
 rw [←hz]
 have p80:(1000000000000:Int)<pw 80:=by decide +kernel
 refine aul hT hv awn (by simp [vxyz]) hcs hl hS 80 80 (by decide) (by decide) (by decide) hE hlen (fun k _=>?_) (ar6 hb (by omega)) ?_
 ·have:=ajm (fun r hr=>(hb r hr).1) (by omega) k
  omega
 ·rw [hz]
  exact apc K.xa K.xb K.xd (by decide +kernel)
theorem TuK.wide {x:Int} (h:(x.natAbs:Int)<pw 32):(x.natAbs:Int)<pw 33:=by
 have h3:pw 32<pw 33:=by decide +kernel
 have:=K.c0
 omega
set_option linter.unusedSimpArgs false in
theorem TuK.t0 {w:World} (hT:Tabs w) {v:Value} (hv:Strs w v vxyz):Calls Tryz.prog 10 #[.string (bts (encs (cs0 A B D))),v] w fun r w'=>Below w.heap.size w w'∧∃ x,r=.returned (.tuple #[x,.int .i64 0,.agg #[.int .i64 0,.int .i64 0,.int .i64 0,.int .i64 0]])∧ORow w.heap.size w' x (canonZ (base4 a b d)) 80:=by
 have k0:0<c:=by have:=K.c0;omega
 refine K.eqT hT hv ?_ ?_ (sc0 K.hA K.hB K.hD) (fun f=>eq0 f K.hA K.hB K.hD (abu (K.wide K.xa)) (abu (K.wide K.xb)) (abu (K.wide K.xd))) (q:=1) (by decide) (by rw [row0];simp [base4]) ?_
 ·intro x hx
  simp only [cs0,ack,acl,List.mem_append,List.mem_cons,List.not_mem_nil,or_false] at hx
  repeat' (rcases hx with hx | hx)
  all_goals first | exact aa0 K.hA x hx | exact aa0 K.hB x hx | exact aa0 K.hD x hx | exact afn (by omega)
 ·have h:=ac5 (cs0 A B D)
  generalize (encs (cs0 A B D)).length=e at h ⊢
  simp only [cs0,ack,acl,List.countP_append,List.countP_cons,List.countP_nil,List.length_append,List.length_cons,List.length_nil,aay K.hA,aay K.hB,aay K.hD] at h
  have:=aaz K.hA;have:=aaz K.hB;have:=aaz K.hD
  simp at h
  omega
 ·intro r hr
  simp only [rT0,List.replicate,List.set,List.mem_cons,List.not_mem_nil,or_false] at hr
  rcases hr with rfl | rfl | rfl | rfl
  ·exact (abj (K.wide K.xa)).sg _
  ·exact (abj (K.wide K.xb)).sg _
  ·exact agb.sg _
  ·exact (abj (K.wide K.xd)).neg.sg _
set_option linter.unusedSimpArgs false in
theorem TuK.t1 {w:World} (hT:Tabs w) {v:Value} (hv:Strs w v vxyz):Calls Tryz.prog 10 #[.string (bts (encs (cs1 A B D))),v] w fun r w'=>Below w.heap.size w w'∧∃ x,r=.returned (.tuple #[x,.int .i64 0,.agg #[.int .i64 0,.int .i64 0,.int .i64 0,.int .i64 0]])∧ORow w.heap.size w' x (canonZ (base4 a b d)) 80:=by
 have k0:0<c:=by have:=K.c0;omega
 refine K.eqT hT hv ?_ ?_ (sc1 K.hA K.hB K.hD) (fun f=>eq1 f K.hA K.hB K.hD (abu (K.wide K.xd)) (abu (K.wide K.xa)) (abu (K.wide K.xb))) (q:=-1) (by decide) row1 ?_
 ·intro x hx
  simp only [cs1,ack,acl,List.mem_append,List.mem_cons,List.not_mem_nil,or_false] at hx
  repeat' (rcases hx with hx | hx)
  all_goals first | exact aa0 K.hA x hx | exact aa0 K.hB x hx | exact aa0 K.hD x hx | exact afn (by omega)
 ·have h:=ac5 (cs1 A B D)
  generalize (encs (cs1 A B D)).length=e at h ⊢
  simp only [cs1,ack,acl,List.countP_append,List.countP_cons,List.countP_nil,List.length_append,List.length_cons,List.length_nil,aay K.hA,aay K.hB,aay K.hD] at h
  have:=aaz K.hA;have:=aaz K.hB;have:=aaz K.hD
  simp at h
  omega
 ·intro r hr
  simp only [rT1,List.replicate,List.set,List.mem_cons,List.not_mem_nil,or_false] at hr
  rcases hr with rfl | rfl | rfl | rfl
  ·exact (abj (K.wide K.xa)).sg _
  ·exact (abj (K.wide K.xb)).sg _
  ·exact agb.sg _
  ·exact (abj (K.wide K.xd)).neg.sg _
set_option linter.unusedSimpArgs false in
theorem TuK.t2 {w:World} (hT:Tabs w) {v:Value} (hv:Strs w v vxyz):Calls Tryz.prog 10 #[.string (bts (encs (cs2 M O C P))),v] w fun r w'=>Below w.heap.size w w'∧∃ x,r=.returned (.tuple #[x,.int .i64 0,.agg #[.int .i64 0,.int .i64 0,.int .i64 0,.int .i64 0]])∧ORow w.heap.size w' x (canonZ (base4 a b d)) 80:=by
 have k0:0<c:=by have:=K.c0;omega
 have k33:(c.natAbs:Int)<pw 33:=by
  have h3:(1000:Int)<pw 33:=by decide +kernel
  have:=K.c1
  omega
 refine K.eqT hT hv ?_ ?_ (sc2 K.hM K.hO K.hC K.hP) (fun f=>eq2 f K.hC K.hM K.hO K.hP (abu (K.big K.xa)) (abu (K.big K.xb)) (abu k33) (abu (K.big K.xd))) (q:=(c:Rat)) (fun e=>by have:=Rat.intCast_eq_zero_iff.1 e;omega) (row2 rfl rfl rfl) ?_
 ·intro x hx
  simp only [cs2,ack,acl,List.mem_append,List.mem_cons,List.not_mem_nil,or_false] at hx
  repeat' (rcases hx with hx | hx)
  all_goals first | exact aa0 K.hM x hx | exact aa0 K.hO x hx | exact aa0 K.hC x hx | exact aa0 K.hP x hx | exact afn (by omega)
 ·have h:=ac5 (cs2 M O C P)
  generalize (encs (cs2 M O C P)).length=e at h ⊢
  simp only [cs2,ack,acl,List.countP_append,List.countP_cons,List.countP_nil,List.length_append,List.length_cons,List.length_nil,aay K.hM,aay K.hO,aay K.hC,aay K.hP] at h
  have:=aaz K.hM;have:=aaz K.hO;have:=aaz K.hC;have:=aaz K.hP
  simp at h
  omega
 ·intro r hr
  simp only [rT2,List.replicate,List.set,List.mem_cons,List.not_mem_nil,or_false] at hr
  rcases hr with rfl | rfl | rfl | rfl
  ·exact (abj (K.big K.xa)).sg _
  ·exact (abj (K.big K.xb)).sg _
  ·exact (abj k33).sg _
  ·exact (abj (K.big K.xd)).neg.sg _
set_option linter.unusedSimpArgs false in
theorem TuK.t3 {w:World} (hT:Tabs w) {v:Value} (hv:Strs w v vxyz):Calls Tryz.prog 10 #[.string (bts (encs (cs3 A B D))),v] w fun r w'=>Below w.heap.size w w'∧∃ x,r=.returned (.tuple #[x,.int .i64 0,.agg #[.int .i64 0,.int .i64 0,.int .i64 0,.int .i64 0]])∧ORow w.heap.size w' x (canonZ (base4 a b d)) 80:=by
 have k0:0<c:=by have:=K.c0;omega
 refine K.eqT hT hv ?_ ?_ (sc3 K.hA K.hB K.hD) (fun f=>eq3 f K.hA K.hB K.hD (abu (K.wide K.xa)) (abu (K.wide K.xb)) (abu (K.wide K.xd))) (q:=1) (by decide) (by rw [row3];simp [base4]) ?_
 ·intro x hx
  simp only [cs3,ack,acl,List.mem_append,List.mem_cons,List.not_mem_nil,or_false] at hx
  repeat' (rcases hx with hx | hx)
  all_goals first | exact aa0 K.hA x hx | exact aa0 K.hB x hx | exact aa0 K.hD x hx | exact afn (by omega)
 ·have h:=ac5 (cs3 A B D)
  generalize (encs (cs3 A B D)).length=e at h ⊢
  simp only [cs3,ack,acl,List.countP_append,List.countP_cons,List.countP_nil,List.length_append,List.length_cons,List.length_nil,aay K.hA,aay K.hB,aay K.hD] at h
  have:=aaz K.hA;have:=aaz K.hB;have:=aaz K.hD
  simp at h
  omega
 ·intro r hr
  simp only [rT3,List.replicate,List.set,List.mem_cons,List.not_mem_nil,or_false] at hr
  rcases hr with rfl | rfl | rfl | rfl
  ·exact (abj (K.wide K.xa)).sg _
  ·exact (abj (K.wide K.xb)).sg _
  ·exact agb.sg _
  ·exact (abj (K.wide K.xd)).neg.sg _
set_option linter.unusedSimpArgs false in
theorem TuK.t4 {w:World} (hT:Tabs w) {v:Value} (hv:Strs w v vxyz):Calls Tryz.prog 10 #[.string (bts (encs (cs4 A B D))),v] w fun r w'=>Below w.heap.size w w'∧∃ x,r=.returned (.tuple #[x,.int .i64 0,.agg #[.int .i64 0,.int .i64 0,.int .i64 0,.int .i64 0]])∧ORow w.heap.size w' x (canonZ (base4 a b d)) 80:=by
 have k0:0<c:=by have:=K.c0;omega
 refine K.eqT hT hv ?_ ?_ (sc4 K.hA K.hB K.hD) (fun f=>eq4 f K.hA K.hB K.hD (abu (K.wide K.xa)) (abu (K.wide K.xb)) (abu (K.wide K.xd))) (q:=-1) (by decide) row4 ?_
 ·intro x hx
  simp only [cs4,ack,acl,List.mem_append,List.mem_cons,List.not_mem_nil,or_false] at hx
  repeat' (rcases hx with hx | hx)
  all_goals first | exact aa0 K.hA x hx | exact aa0 K.hB x hx | exact aa0 K.hD x hx | exact afn (by omega)
 ·have h:=ac5 (cs4 A B D)
  generalize (encs (cs4 A B D)).length=e at h ⊢
  simp only [cs4,ack,acl,List.countP_append,List.countP_cons,List.countP_nil,List.length_append,List.length_cons,List.length_nil,aay K.hA,aay K.hB,aay K.hD] at h
  have:=aaz K.hA;have:=aaz K.hB;have:=aaz K.hD
  simp at h
  omega
 ·intro r hr
  simp only [rT4,List.replicate,List.set,List.mem_cons,List.not_mem_nil,or_false] at hr
  rcases hr with rfl | rfl | rfl | rfl
  ·exact (abj (K.wide K.xa)).sg _
  ·exact (abj (K.wide K.xb)).sg _
  ·exact agb.sg _
  ·exact (by rw [show sgq true (-((0:Int):Rat))=0 by decide +kernel,Rat.add_zero];exact (abj (K.wide K.xd)).neg.sg _)
set_option linter.unusedSimpArgs false in
theorem TuK.t5 {w:World} (hT:Tabs w) {v:Value} (hv:Strs w v vxyz):Calls Tryz.prog 10 #[.string (bts (encs (cs5 A B C D))),v] w fun r w'=>Below w.heap.size w w'∧∃ x,r=.returned (.tuple #[x,.int .i64 0,.agg #[.int .i64 0,.int .i64 0,.int .i64 0,.int .i64 0]])∧ORow w.heap.size w' x (canonZ (base4 a b d)) 80:=by
 have k0:0<c:=by have:=K.c0;omega
 refine K.eqT hT hv ?_ ?_ (sc5 K.hA K.hB K.hC K.hD) (fun f=>eq5 f K.hA K.hB K.hC K.hD (by have:=K.c0;omega) (adb k0 K.c1 (K.wide K.xa)).1 (adb k0 K.c1 (K.wide K.xb)).1 (adb k0 K.c1 (by decide +kernel)).1 (adb k0 K.c1 (K.wide K.xd)).1) (q:=Rat.divInt 1 c) (ax7 k0) row5 ?_
 ·intro x hx
  simp only [cs5,ack,acl,List.mem_append,List.mem_cons,List.not_mem_nil,or_false] at hx
  repeat' (rcases hx with hx | hx)
  all_goals first | exact aa0 K.hA x hx | exact aa0 K.hB x hx | exact aa0 K.hC x hx | exact aa0 K.hD x hx | exact afn (by omega)
 ·have h:=ac5 (cs5 A B C D)
  generalize (encs (cs5 A B C D)).length=e at h ⊢
  simp only [cs5,ack,acl,List.countP_append,List.countP_cons,List.countP_nil,List.length_append,List.length_cons,List.length_nil,aay K.hA,aay K.hB,aay K.hC,aay K.hD] at h
  have:=aaz K.hA;have:=aaz K.hB;have:=aaz K.hC;have:=aaz K.hD
  simp at h
  omega
 ·intro r hr
  simp only [rT5,List.replicate,List.set,List.mem_cons,List.not_mem_nil,or_false] at hr
  rcases hr with rfl | rfl | rfl | rfl
  ·exact Sm.sg (adb k0 K.c1 (K.wide K.xa)).2 _
  ·exact Sm.sg (adb k0 K.c1 (K.wide K.xb)).2 _
  ·exact Sm.sg (adb k0 K.c1 (by decide +kernel)).2 _
  ·exact Sm.sg (Sm.neg (adb k0 K.c1 (K.wide K.xd)).2) _
set_option linter.unusedSimpArgs false in
theorem TuK.t6 {w:World} (hT:Tabs w) {v:Value} (hv:Strs w v vxyz):Calls Tryz.prog 10 #[.string (bts (encs (cs6 A B D))),v] w fun r w'=>Below w.heap.size w w'∧∃ x,r=.returned (.tuple #[x,.int .i64 0,.agg #[.int .i64 0,.int .i64 0,.int .i64 0,.int .i64 0]])∧ORow w.heap.size w' x (canonZ (base4 a b d)) 80:=by
 have k0:0<c:=by have:=K.c0;omega
 refine K.eqT hT hv ?_ ?_ (sc6 K.hA K.hB K.hD) (fun f=>eq6 f K.hA K.hB K.hD (abu (K.wide K.xa)) (abu (K.wide K.xd)) (abu (K.wide K.xb))) (q:=1) (by decide) (by rw [row6];simp [base4]) ?_
 ·intro x hx
  simp only [cs6,ack,acl,List.mem_append,List.mem_cons,List.not_mem_nil,or_false] at hx
  repeat' (rcases hx with hx | hx)
  all_goals first | exact aa0 K.hA x hx | exact aa0 K.hB x hx | exact aa0 K.hD x hx | exact afn (by omega)
 ·have h:=ac5 (cs6 A B D)
  generalize (encs (cs6 A B D)).length=e at h ⊢
  simp only [cs6,ack,acl,List.countP_append,List.countP_cons,List.countP_nil,List.length_append,List.length_cons,List.length_nil,aay K.hA,aay K.hB,aay K.hD] at h
  have:=aaz K.hA;have:=aaz K.hB;have:=aaz K.hD
  simp at h
  omega
 ·intro r hr
  simp only [rT6,List.replicate,List.set,List.mem_cons,List.not_mem_nil,or_false] at hr
  rcases hr with rfl | rfl | rfl | rfl
  ·exact (abj (K.wide K.xa)).sg _
  ·exact (abj (K.wide K.xb)).sg _
  ·exact agb.sg _
  ·exact (abj (K.wide K.xd)).neg.sg _
end Lm
end Go.Proofs.YtdjgifcmhafppaaGreatDoor
namespace Go.Proofs.YtdjgifcmhafppaaGreatDoor
namespace Lm
open Go Go.RowKit
theorem agc (z:Int):0<(txt z).size∧∀ h:0<(txt z).size,(((txt z)[0]'h).toNat:Int)=45↔z<0:=by
 have key:∀ (c:Int) (l:List Int),0≤c→c<256→0<(strOfNums (c :: l)).size∧∀ h:0<(strOfNums (c :: l)).size,(((strOfNums (c :: l))[0]'h).toNat:Int)=c:=by
  intro c l h0 h1
  refine ⟨by rw [adg];simp,fun h=>?_⟩
  show ((UInt8.ofNat c.toNat).toNat:Int)=c
  rw [UInt8.toNat_ofNat']
  omega
 by_cases hz:z<0
 ·have e:txt z=strOfNums (45 :: dig (z.natAbs:Int)):=by rw [txt,if_pos hz]
  rw [e]
  obtain ⟨k1,k2⟩:=key 45 (dig (z.natAbs:Int)) (by decide) (by decide)
  exact ⟨k1,fun h=>by rw [k2 h];simp [hz]⟩
 ·have hd:=adm z.natAbs
  obtain ⟨c,u,hc⟩:=afk hd
  have hcd:=hd.1 c (by rw [hc];simp)
  have e:txt z=strOfNums (c :: u):=by rw [txt,if_neg hz,hc]
  rw [e]
  obtain ⟨k1,k2⟩:=key c u (by omega) (by omega)
  exact ⟨k1,fun h=>by rw [k2 h];constructor <;> intro _ <;> omega⟩
theorem awo {l:List Int} (h:l.length=4):∃ z0 z1 z2 z3,l = [z0,z1,z2,z3]:=by
 match l,h with
 | [e0,e1,e2,e3],_=>exact ⟨_,_,_,_,rfl⟩
theorem apd (n:Nat):∃ m,IsLen (n:Int) m:=by
 have key:∀ n:Nat,∃ zs,Limb zs∧val zs=(n:Int):=by
  intro n
  induction n using Nat.strongRecOn with
  | _ n ih =>
   by_cases h:n=0
   ·exact ⟨[],aaf,by simp [val,h]⟩
   ·obtain ⟨zs,hl,hv⟩:=ih (n / 4294967296) (Nat.div_lt_self (by omega) (by omega))
    refine ⟨((n % 4294967296:Nat):Int) :: zs,fun z hz=>?_,?_⟩
    ·rcases List.mem_cons.1 hz with rfl | hz
     ·omega
     ·exact hl z hz
    ·simp only [val,hv]
     omega
 obtain ⟨zs,hl,hv⟩:=key n
 exact ⟨_,_,aa4 hl,by rw [aad,hv],rfl⟩
theorem aun {x:Int} {m:Nat} (h:IsLen x m):(m≤32↔x<pw 32):=by
 obtain ⟨rs,hc,hv,rfl⟩:=h
 constructor
 ·intro hl
  have h1:=(aab hc.1).2
  have h2:=aa8 hl
  omega
 ·exact fun hx=>aa3 hc (by omega)
theorem ays {z:Int} (h:(z.natAbs:Int)<pw 32):Nd (dig (z.natAbs:Int)) (z.natAbs:Int):=by
 obtain ⟨m,hm⟩:=apd z.natAbs
 have h1:pw 32<p10 309:=by decide +kernel
 exact ⟨adm _,⟨m,hm,(aun hm).2 h⟩,Nat.le_trans (ajg (adm _) (n:=309) (by omega) (by decide)) (by decide)⟩
open Classical in
theorem ald (w:World) (x y:ByteArray) (e:TypeId):Strs (w.alloc (.cells #[.string x,.string y] e)) (.slice (some ⟨w.heap.size,0,none⟩) 2 2) [x,y]:=by
 refine ⟨_,2,rfl,Nat.le_refl _,by decide,rfl,.inr ⟨w.heap.size,0,rfl,by simp,fun j u hu=>?_⟩⟩
 have hh:=heap_alloc_new w (.cells #[.string x,.string y] e)
 rw [Nat.zero_add,cell_of_row _ _ _ _ _ (0,0) hh]
 match j with
 | 0=>simpa using hu
 | 1=>simpa using hu
 | j+2=>simp at hu
theorem aiw (w:World) (hT:Tabs w) (v:Value) (hv:Strs w v [⟨#[120]⟩,⟨#[121]⟩]) :
  Calls Tryz.prog 10 #[.string ⟨#[50,120,32,61,32,52,121,32,45,32,54]⟩,v] w fun r w'=>Below w.heap.size w w'∧∃ x,r=.returned (.tuple #[x,.int .i64 0,.agg #[.int .i64 0,.int .i64 0,.int .i64 0,.int .i64 0]])∧CanRow w' x [1,-2,-3] 16:=by
 refine (afq w hT eqs (by decide) v _ hv ar3 _ _ eqt awh auj 8 16 (by decide) (by decide) (by decide) 7 rs3 awi rfl ?_ ?_ (by simp)).mono ?_
 ·intro k hk
  have hk' : k≤3:=hk
  match k,hk' with
  | 0,_=>decide +kernel
  | 1,_=>decide +kernel
  | 2,_=>decide +kernel
  | 3,_=>decide +kernel
 ·have h:clr rs3 = [2,-4,-6]:=by kernel_rfl
  rw [h]
  intro z hz
  simp at hz
  rcases hz with rfl | rfl | rfl <;> decide +kernel
 ·rintro r w' ⟨hb,⟨_,x,rfl,hO⟩ | ⟨⟨z,hz,hbig⟩,_⟩⟩
  ·rw [alb] at hO
   exact ⟨hb,x,rfl,hO.can⟩
  ·rw [alb] at hz
   simp at hz
   rcases hz with rfl | rfl | rfl <;> exact absurd (by decide +kernel) hbig
theorem aij (w:World) (a b c:Int) (e:TypeId):Nums (w.alloc (.cells #[.int .i64 a,.int .i64 b,.int .i64 c] e)) (.slice (some ⟨w.heap.size,0,none⟩) 3 3) [a,b,c]:=ahe w [a,b,c] (by simp) e
set_option maxRecDepth 20000 in
set_option maxHeartbeats 8000000 in
theorem ax8 (w:World) (hT:Tabs w) :
  Calls Tryz.prog 5 #[] w fun r w'=>r=.returned (.bool true)∧Below w.heap.size w w' := by
 have hb0:=hAl w (.cells #[.string ⟨#[120]⟩,.string ⟨#[121]⟩] 9)
 have K:=hide (aiw _ (hT.below hb0) _ (ald w ⟨#[120]⟩ ⟨#[121]⟩ 9))
 have HT:=hide hT
 clear hT
 go_enter Tryz.func5,Tryz.ntmps5
 go_wp2_with fail
 refine K.out.mono ?_
 rintro r w1 ⟨hb1,x,rfl,hcx⟩
 obtain ⟨ax,cx,hvx,_⟩:=hcx.is.parts
 subst hvx
 have hbA:=hAl w1 (.cells #[.int .i64 0,.int .i64 0,.int .i64 0,.int .i64 0] 32)
 have hb1' := hb0.trans (hb1.mono hb0.size)
 have hb2:=hb1'.trans (hbA.mono hb1'.size)
 have HB2:=hide hb2
 have HCX:=hide (hcx.below hbA)
 clear hb0 hb1 hb1' hcx K hbA
 go_wp2_with fail
 generalize hW2:w1.alloc (.cells #[.int .i64 0,.int .i64 0,.int .i64 0,.int .i64 0] 32)=w2 at *
 have hs2:w2.heap.size=w1.heap.size+1:=by rw [←hW2];simp
 rw [←hs2]
 have hz3:∀ z ∈ ([1,-2,-3]:List Int),-9223372036854775808≤z∧z≤9223372036854775807:=by intro z hz;simp at hz;rcases hz with rfl | rfl | rfl <;> decide
 have HZ3:=hide hz3
 have hbn2:=hAl w2 (.cells #[.int .i64 1,.int .i64 (-2),.int .i64 (-3)] 3)
 refine (amx _ _ [1,-2,-3] (aij w2 1 (-2) (-3) 3) hz3 (by decide)).mono ?_
 rintro e w3 ⟨r3,rfl,hr3,hb3⟩
 obtain ⟨a3,c3,hv3,_⟩:=hr3.is.parts
 subst hv3
 have hb23:=hbn2.trans (hb3.mono hbn2.size)
 have HB3:=hide (HB2.out.trans (hb23.mono HB2.out.size))
 have HCX3:=hide (HCX.out.below hb23)
 have hbs:=hAl w3 (.cells #[.string ⟨#[120]⟩,.string ⟨#[121]⟩] 9)
 have K4:=hide (amg _ ((HT.out.below HB3.out).below hbs) _ _ 2 (hr3.is.below hbs) (by decide) (ald w3 ⟨#[120]⟩ ⟨#[121]⟩ 9) ar3)
 have HBS:=hide hbs
 clear hb3 hb23 hbn2 hr3 hbs hz3 hW2 hs2
 go_wp2_with fail
 refine K4.out.mono ?_
 rintro e w4 ⟨rfl,hb4⟩
 have hb34:=HBS.out.trans (hb4.mono HBS.out.size)
 have HB4:=hide (HB3.out.trans (hb34.mono HB3.out.size))
 have HCX4:=hide (HCX3.out.below hb34)
 have hbn4:=hAl w4 (.cells #[.int .i64 1,.int .i64 (-2),.int .i64 (-3)] 3)
 have K5:=hide (amx _ _ [1,-2,-3] (aij w4 1 (-2) (-3) 3) HZ3.out (by decide))
 have HBN4:=hide hbn4
 clear hb4 hb34 hbn4 K4
 go_wp2_with fail
 refine K5.out.mono ?_
 rintro e w5 ⟨r5,rfl,hr5,hb5⟩
 obtain ⟨a5,c5,hv5,_⟩:=hr5.is.parts
 subst hv5
 have hb45:=HBN4.out.trans (hb5.mono HBN4.out.size)
 have HB5:=hide (HB4.out.trans (hb45.mono HB4.out.size))
 have K6:=hide (agy w5 _ _ [1,-2,-3] 16 2 (HCX4.out.below hb45) hr5)
 have hst:((⟨#[120,32,45,32,50,42,121,32,61,32,45,51]⟩:ByteArray).toList == [120,32,45,32,50,42,121,32,61,32,45,51])=true:=by rw [ByteArray.toList_eq];decide
 clear hb5 hb45 hr5 K5
 go_wp2_with fail
 refine K6.out.mono ?_
 rintro e w6 ⟨rfl,hb6⟩
 have HB6:=hide (HB5.out.trans (hb6.mono HB5.out.size))
 clear hb6 K6
 go_wp2
 refine bodyPost_ret (v:=_) (by simp [results,Tryz.results5,go_sem];try rfl) rfl ⟨rfl,HB6.out⟩
theorem ape (w:World) (x y z:ByteArray) (e:TypeId):Strs (w.alloc (.cells #[.string x,.string y,.string z] e)) (.slice (some ⟨w.heap.size,0,none⟩) 3 3) [x,y,z]:=by
 refine ⟨_,3,rfl,Nat.le_refl _,by decide,rfl,.inr ⟨w.heap.size,0,rfl,by simp,fun j u hu=>?_⟩⟩
 have hh:=heap_alloc_new w (.cells #[.string x,.string y,.string z] e)
 rw [Nat.zero_add,cell_of_row _ _ _ _ _ (0,0) hh]
 match j with
 | 0=>simpa using hu
 | 1=>simpa using hu
 | 2=>simpa using hu
 | j+3=>simp at hu
structure Tx (s:ByteArray) (ds:List Int) (x:Int):Prop where
 n:Nd ds x
 e:s=bts (encs (dcs ds))
theorem Tx.z {s:ByteArray} {ds:List Int} {x:Int} (h:Tx s ds x):s.size≤400:=by
 rw [h.e,dcs,←ak4 ds (af5 h.n.dec.1),adg]
 exact h.n.sh
theorem aik {z:Int} {s:ByteArray} (h0:¬ z<0) (h:(z.natAbs:Int)<pw 32) (e:txt z=s):Tx s (dig z) z:=by
 have h1:=ays h
 have h2:((z.natAbs:Nat):Int)=z:=by omega
 rw [h2] at h1
 refine ⟨h1,?_⟩
 rw [←e,txt,if_neg h0,h2,ak4 _ (af5 h1.dec.1)]
 rfl
theorem ahl {z:Int} {s:ByteArray} (h0:¬ z<0) (hs:s.size≤300) (e:txt z=s):Tx s (dig z) z:=by
 refine aik h0 ?_ e
 have h1:p10 300<pw 32:=by decide +kernel
 have hd:=adm z.natAbs
 have h2:((z.natAbs:Nat):Int)=z:=by omega
 rw [←e,txt,if_neg h0,adg] at hs
 have h3:=(abb hd.1).2
 rw [hd.2.1] at h3
 have h4:p10 (dig (z.natAbs:Int)).length≤p10 300:=abt hs
 omega
structure TuQ (s0 s1 s3 sM sO sP sC:ByteArray) (A B D M O P C:List Int) (x y z c' : Int):Prop where
 k:TuK A B D M O P C x y z c'
 a:s0=bts (encs (dcs A))
 b:s1=bts (encs (dcs B))
 d:s3=bts (encs (dcs D))
 m:sM=bts (encs (dcs M))
 o:sO=bts (encs (dcs O))
 p:sP=bts (encs (dcs P))
 c:sC=bts (encs (dcs C))
 za:s0.size≤400
 zb:s1.size≤400
 zd:s3.size≤400
 zm:sM.size≤400
 zo:sO.size≤400
 zp:sP.size≤400
 zc:sC.size≤400
structure TuH (s0 s1 s3 sM sO sP:ByteArray) (x y z:Int) (B:Nat):Prop where
 b:B<1000
 a0:Tx s0 (dig x) x
 a1:Tx s1 (dig y) y
 a3:Tx s3 (dig z) z
 m0:Tx sM (dig (x*(1+(B:Int)))) (x*(1+(B:Int)))
 m1:Tx sO (dig (y*(1+(B:Int)))) (y*(1+(B:Int)))
 m3:Tx sP (dig (z*(1+(B:Int)))) (z*(1+(B:Int)))
 x0:(x.natAbs:Int)<pw 32
 x1:(y.natAbs:Int)<pw 32
 x3:(z.natAbs:Int)<pw 32
theorem ami {s0 s1 s3 sM sO sP:ByteArray} {z0 z1 z2 z3:Int} {B:Nat} (hb:txt z0=s0∧txt z1=s1∧txt z3=s3∧txt (z0*(1+(B:Int)))=sM∧txt (z1*(1+(B:Int)))=sO∧txt (z3*(1+(B:Int)))=sP) (hall:∀ z ∈ [z0,z1,z2,z3],(z.natAbs:Int)<pw 32) (g0:¬ z0<0) (g1:¬ z1<0) (g3:¬ z3<0) (hB:B<1000) (q0:sM.size≤300) (q1:sO.size≤300) (q3:sP.size≤300):TuH s0 s1 s3 sM sO sP z0 z1 z3 B:=by
 obtain ⟨h0,h1,h3,k0,k1,k3⟩:=hb
 have a0:=hall z0 (by simp)
 have a1:=hall z1 (by simp)
 have a3:=hall z3 (by simp)
 have key:∀ z:Int,¬ z<0→¬ z*(1+(B:Int))<0:=fun z hz h=>by
  have:=Int.mul_nonneg (a:=z) (b:=1+(B:Int)) (by omega) (by omega)
  omega
 exact ⟨hB,aik g0 a0 h0,aik g1 a1 h1,aik g3 a3 h3,ahl (key _ g0) q0 k0,ahl (key _ g1) q1 k1,ahl (key _ g3) q3 k3,a0,a1,a3⟩
theorem ajw {s0 s1 s3 sM sO sP sC:ByteArray} {z0 z1 z3:Int} {B:Nat} (h:TuH s0 s1 s3 sM sO sP z0 z1 z3 B) (hc:txt (1+(B:Int))=sC):∃ A B9 D M O P C,Hid (TuQ s0 s1 s3 sM sO sP sC A B9 D M O P C z0 z1 z3 (1+(B:Int))):=by
 have hb:=h.b
 have h1:(1001:Int)<pw 32:=by decide +kernel
 have hC:=aik (z:=1+(B:Int)) (by omega) (by omega) hc
 exact ⟨_,_,_,_,_,_,_,hide ⟨⟨h.a0.n,h.a1.n,h.a3.n,h.m0.n,h.m1.n,h.m3.n,hC.n,by omega,by omega,h.x0,h.x1,h.x3⟩,h.a0.e,h.a1.e,h.a3.e,h.m0.e,h.m1.e,h.m3.e,hC.e,h.a0.z,h.a1.z,h.a3.z,h.m0.z,h.m1.z,h.m3.z,hC.z⟩⟩
set_option maxRecDepth 20000 in
set_option maxHeartbeats 4000000 in
theorem apf (w:World) (v:Value) (zs:List Int) (L:Nat) (h:IsRow w v zs L) (hL:L≤400000) (hl:zs.length≤1000000) :
  Calls Tryz.prog 7 #[v] w fun e w'=>Below w.heap.size w w'∧(((∀ z ∈ zs,(z.natAbs:Int)<pw 32)∧e=.returned (.bool true))∨((∃ z ∈ zs,¬ (z.natAbs:Int)<pw 32)∧e=.returned (.bool false))):=by
 obtain ⟨ao,cap,rfl,_⟩:=h.parts
 have HI:=hide h
 clear h
 generalize hn:zs.length=n at *
 have HN:=hide hn
 clear hn
 go_enter Tryz.func7,Tryz.ntmps7
 go_wp2_with fail
 go_loopw [3] (fun iv wr=>∃ (k:Nat),iv=.int .i64 k∧k≤n∧Below w.heap.size w wr∧∀ (j:Nat) (z:Int),j<k→zs[j]? = some z→(z.natAbs:Int)<pw 32) (fun iv _=>n - (intOf iv).toNat)
 case atStart=>exact ⟨0,rfl,Nat.zero_le _,Below.refl _ _,fun j z hj=>by omega⟩
 case round =>
  obtain ⟨k,rfl,hk,hbw,hall⟩:=hrel
  have HW:=hide hbw
  have HALL:=hide hall
  by_cases hlt:k<n
  ·obtain ⟨z,hz⟩:∃ z,zs[k]? = some z:=⟨_,List.getElem?_eq_getElem (by have:=HN.out;omega)⟩
   obtain ⟨b,off,ngx,ax,mx,cx,rfl,hbl,x0,x1,hx⟩:=(HI.out.below hbw).cell hz
   have HX:=hide hx
   have HZ:=hide hz
   have hlt' : (k:Int)<(n:Int):=by omega
   clear hbw hall hx hz
   go_wp2_with fail
   refine (limbsF _ z L _ HX.out (by omega)).mono ?_
   rintro e w3 ⟨m,rfl,hm,hb3⟩
   have HM:=hide hm
   have HB3:=hide (HW.out.trans (hb3.mono HW.out.size))
   by_cases hbig:m≤32
   ·have hb' : decide ((32:Int)<(m:Int))=false:=by simp;omega
    clear hm hb3 x0 x1
    go_wp2
    go_roundw
    case rel =>
     refine ⟨k+1,by go_num,by omega,HB3.out,fun j y hj hy=>?_⟩
     by_cases hjk:j=k
     ·subst hjk
      obtain rfl:z=y:=Option.some.inj (HZ.out.symm.trans hy)
      exact HM.out.1 hbig
     ·exact HALL.out j y (by omega) hy
    case measure=>simp [intOf];omega
   ·have hb' : (32:Int)<(m:Int):=by omega
    have HBG:Hid (¬ (z.natAbs:Int)<pw 32):=(show ¬ (z.natAbs:Int)<pw 32 from fun h=>hbig (hm.2 h))
    clear hm hb3 x0 x1
    go_wp2
    refine bodyPost_ret (v:=_) (by simp [results,Tryz.results7,go_sem];try rfl) rfl ⟨HB3.out,.inr ⟨⟨z,List.mem_of_getElem? HZ.out,HBG.out⟩,rfl⟩⟩
  ·have hlt' : decide ((k:Int)<(n:Int))=false:=by simp;omega
   clear hbw hall
   go_wp2
   refine bodyPost_ret (v:=_) (by simp [results,Tryz.results7,go_sem];try rfl) rfl ⟨HW.out,.inl ⟨fun z hz=>?_,rfl⟩⟩
   obtain ⟨j,hj⟩:=List.getElem?_of_mem hz
   exact HALL.out j z (by have:=(List.getElem?_eq_some_iff.1 hj).1;have:=HN.out;omega) hj
theorem Rw.isrow {w:World} {v:Value} {es:List WE} (h:Rw w v es) {L:Nat} (hl:lenW es≤L):IsRow w v (es.map WE.z) L:=by
 refine ⟨es,h,rfl,fun e he=>?_⟩
 have h1:=as7 he
 have h2:=(h.sl e he).parts.1
 omega
theorem aix:Has Tryz.prog 16:=by unfold Has;kernel_rfl
set_option linter.unusedSimpArgs false in
set_option maxRecDepth 20000 in
set_option maxHeartbeats 16000000 in
theorem apg (w:World) (hT:Tabs w) (ax:Option Addr) (mx cx:Nat) (xs:List WE) (kk:Int) (Rx:Rw w (.slice ax mx cx) xs) (hx:∀ e ∈ xs,e.m≤35184372088832) :
  Calls Tryz.prog 4 #[.slice ax mx cx,.int .i64 kk] w fun e w'=>e=.returned (.bool true)∧Below w.heap.size w w' := by
 have K1:=hide (ax8 w hT)
 have HX:=hide Rx
 have HTB:=hide hT
 have hmx:mx=xs.length:=by
  obtain ⟨⟨ao',cap',hv,_⟩,_⟩:=id Rx
  simp only [Value.slice.injEq] at hv
  exact hv.2.1
 obtain ⟨B,hB,hB1⟩:∃ B:Nat,(bits .and .i64 kk 4611686018427387903).tmod 1000=(B:Int)∧B<1000:=axp kk 1000 (by decide)
 obtain ⟨sx,hsx⟩:∃ sx:Int,IntKind.i64.wrap (lenW xs:Int)=sx:=⟨_,rfl⟩
 have HE:=hide hx
 have HSx:=hide hsx
 have HMX:=hide hmx
 clear Rx hT hsx hmx hx
 go_enter Tryz.func4,Tryz.ntmps4
 go_wp2_with fail
 refine K1.out.mono ?_
 rintro e w1 ⟨rfl,hb1⟩
 have K2:=atn w1 _ _ _ _ (HX.out.below hb1) HE.out
 rw [HSx.out] at K2
 have K2:=hide K2
 have HB1:=hide hb1
 clear hb1 K1
 go_wp2_with fail
 refine K2.out.mono ?_
 rintro e w2 ⟨rfl,hb2⟩
 have HB2:=hide (HB1.out.trans (hb2.mono HB1.out.size))
 clear hb2 K2 HB1
 by_cases hlong:1500<sx
 ·have hl' : decide (1500<sx)=true:=by simpa using hlong
  go_wp2
  refine bodyPost_ret (v:=_) (by simp [results,Tryz.results4,go_sem];try rfl) rfl ⟨rfl,HB2.out⟩
 ·have hl' : decide (1500<sx)=false:=by simpa using hlong
  by_cases h4:mx=4
  ·have HLG:Hid (lenW xs≤1500):=(show lenW xs≤1500 by
    have h1:=amy HE.out
    have h2:=HSx.out
    have h3:xs.length*(1+35184372088832)≤4*(1+35184372088832):=Nat.mul_le_mul_right _ (by have:=HMX.out;omega)
    rw [av1 (by omega) (by omega)] at h2
    omega)
   clear hlong
   have HI:=hide ((HX.out.below HB2.out).isrow (L:=1500) HLG.out)
   obtain ⟨z0,z1,z2,z3,hzs⟩:∃ z0 z1 z2 z3,xs.map WE.z = [z0,z1,z2,z3]:=awo (by rw [List.length_map,←HMX.out,h4])
   subst h4
   rw [hzs] at HI
   have h4' : (((4:Nat):Int) != 4)=false:=by decide
   have K3:=hide (apf w2 _ _ 1500 HI.out (by decide) (by simp))
   clear h4' HMX HLG HSx HE
   go_wp2_with fail
   refine K3.out.mono ?_
   rintro e w3 ⟨hb3,⟨hall,rfl⟩ | ⟨_,rfl⟩⟩
   ·have HI3:=hide (HI.out.below hb3)
    have HB3:=hide (HB2.out.trans (hb3.mono HB2.out.size))
    have HALL:=hide hall
    obtain ⟨b0,off,n0,a0,m0,c0,rfl,hbl,x0,x0',q0⟩:=HI3.out.cell (k:=0) (z:=z0) rfl
    obtain ⟨b1,off1,n1,a1,m1,c1,e1,_,x1,x1',q1⟩:=HI3.out.cell (k:=1) (z:=z1) rfl
    obtain ⟨b2,off2,n3,a3,m3,c3,e2,_,x3,x3',q3⟩:=HI3.out.cell (k:=3) (z:=z3) rfl
    obtain ⟨rfl,rfl⟩:b0=b1∧off=off1:=by simpa using e1
    obtain ⟨rfl,rfl⟩:b0=b2∧off=off2:=by simpa using e2
    clear e1 e2 hb3 hall K3 HI HB2
    simp only [Nat.zero_mul,Nat.add_zero,Nat.one_mul,Nat.reduceMul,Nat.add_assoc,Nat.reduceAdd] at x0 x0' x1 x1' x3 x3'
    have K4:=hide (wtextF w3 z0 _ 1500 q0 (by decide))
    go_wp2_with fail
    refine K4.out.mono ?_
    rintro e w4 ⟨rfl,hb4⟩
    have y1:=(hb4.cell (p:=⟨b0,off+2,none⟩) hbl).trans x1
    have y1' := (hb4.cell (p:=⟨b0,off+3,none⟩) hbl).trans x1'
    have K5:=hide (wtextF w4 z1 _ 1500 (IsW.ru q1 (Ru.of_below hb4)) (by decide))
    have hbl4:b0<w4.heap.size:=Nat.lt_of_lt_of_le hbl hb4.size
    obtain ⟨s0,hs0⟩:∃ s,txt z0=s:=⟨_,rfl⟩
    rw [hs0]
    clear K4 x0 x0' x1 x1'
    go_wp2_with fail
    refine K5.out.mono ?_
    rintro e w5 ⟨rfl,hb5⟩
    have hb35:=hb4.trans (hb5.mono hb4.size)
    have y3:=(hb35.cell (p:=⟨b0,off+6,none⟩) hbl).trans x3
    have y3' := (hb35.cell (p:=⟨b0,off+7,none⟩) hbl).trans x3'
    have K6:=hide (wtextF w5 z3 _ 1500 (IsW.ru q3 (Ru.of_below hb35)) (by decide))
    have hbl5:b0<w5.heap.size:=Nat.lt_of_lt_of_le hbl hb35.size
    obtain ⟨s1,hs1⟩:∃ s,txt z1=s:=⟨_,rfl⟩
    rw [hs1]
    clear K5 x3 x3' y1 y1' hb4 hb5
    go_wp2_with fail
    refine K6.out.mono ?_
    rintro e w6 ⟨rfl,hb6⟩
    have hb36:=hb35.trans (hb6.mono hb35.size)
    obtain ⟨s3,hs3⟩:∃ s,txt z3=s:=⟨_,rfl⟩
    rw [hs3]
    have HB6:=hide (HB3.out.trans (hb36.mono HB3.out.size))
    have hsz6:=hb36.size
    have HI6:=hide (HI3.out.below hb36)
    have HH:=hide (And.intro hs0 (And.intro hs1 hs3))
    clear K6 y3 y3' hb35 hb6 hb36 q0 q1 q3 HI3 HB3 hbl4 hbl5 hs0 hs1 hs3
    obtain ⟨p0,f0⟩:0<s0.size∧∀ h:0<s0.size,((s0[0]'h).toNat:Int)=45↔z0<0:=by rw [←HH.out.1];exact agc z0
    obtain ⟨p1,f1⟩:0<s1.size∧∀ h:0<s1.size,((s1[0]'h).toNat:Int)=45↔z1<0:=by rw [←HH.out.2.1];exact agc z1
    obtain ⟨p3,f3⟩:0<s3.size∧∀ h:0<s3.size,((s3[0]'h).toNat:Int)=45↔z3<0:=by rw [←HH.out.2.2];exact agc z3
    replace f0:=f0 p0
    replace f1:=f1 p1
    replace f3:=f3 p3
    by_cases g0:z0<0
    ·rw [eq_true g0,iff_true] at f0
     have e0:(((s0[0]'p0).toNat:Int) == 45)=true:=by rw [f0];rfl
     clear f1 f3
     go_wp2
     refine bodyPost_ret (v:=_) (by simp [results,Tryz.results4,go_sem];try rfl) rfl ⟨rfl,HB6.out⟩
    rw [eq_false g0,iff_false] at f0
    have e0:(((s0[0]'p0).toNat:Int) == 45)=false:=by rw [beq_eq_false_iff_ne];exact f0
    by_cases g1:z1<0
    ·rw [eq_true g1,iff_true] at f1
     have e1:(((s1[0]'p1).toNat:Int) == 45)=true:=by rw [f1];rfl
     clear f3
     go_wp2
     refine bodyPost_ret (v:=_) (by simp [results,Tryz.results4,go_sem];try rfl) rfl ⟨rfl,HB6.out⟩
    rw [eq_false g1,iff_false] at f1
    have e1:(((s1[0]'p1).toNat:Int) == 45)=false:=by rw [beq_eq_false_iff_ne];exact f1
    by_cases g3:z3<0
    ·rw [eq_true g3,iff_true] at f3
     have e3:(((s3[0]'p3).toNat:Int) == 45)=true:=by rw [f3];rfl
     go_wp2
     refine bodyPost_ret (v:=_) (by simp [results,Tryz.results4,go_sem];try rfl) rfl ⟨rfl,HB6.out⟩
    rw [eq_false g3,iff_false] at f3
    have e3:(((s3[0]'p3).toNat:Int) == 45)=false:=by rw [beq_eq_false_iff_ne];exact f3
    go_upto_region 13 with fail
    have hbl6:b0<w6.heap.size:=Nat.lt_of_lt_of_le hbl hsz6
    have HBL:=hide hbl6
    clear f0 f1 f3 e0 e1 e3
    go_cut [9] (fun cv wx=>cv=.string (txt (z0*(1+(B:Int))))∧Below w6.heap.size w6 wx)
    case first =>
     obtain ⟨b7,off7,n7,a7,m7,c7,e7,_,x7,x7',q7⟩:=HI6.out.cell (k:=0) (z:=z0) rfl
     obtain ⟨rfl,rfl⟩:b0=b7∧off=off7:=by simpa using e7
     simp only [Nat.zero_mul,Nat.add_zero,Nat.one_mul,Nat.reduceMul,Nat.add_assoc,Nat.reduceAdd] at x7 x7'
     have Q7:=hide q7
     clear e7 q7
     go_region_law (first | (refine aam rfl 18 #[.tmp 67] #[3] rfl ago #[.int .i64 (1+(B:Int))] (by simp [Act.eval,Act.put]) (acu _ (1+(B:Int)) (by omega) (by omega)) ?_;rintro e w8 ⟨ng8,ao8,cap8,rs8,rfl,hw8,hl8,hb8⟩;have HO8:=hide (show OutW (1+(B:Int)) 2 (.agg #[.bool ng8,.slice ao8 rs8.length cap8]) w8 from ⟨_,_,_,_,rfl,hw8,hl8⟩);have hb68:Below w6.heap.size w6 w8:=(show Below w6.heap.size w6 _ by (repeat' first|with_reducible(first|exact Below.refl _ _|assumption|refine gdrewN ?_ _|refine Below.alloc ?_ ?_ _|refine Below.drew ?_|refine Below.setCell ?_ ?_ _)|go_size)).trans (hb8.mono (by simp));have HB68:=hide hb68;have x8:=(hb68.cell (p:=⟨b0,off,none⟩) HBL.out).trans x7;have x8' := (hb68.cell (p:=⟨b0,off+1,none⟩) HBL.out).trans x7';clear hb8 hb68 hw8 hl8;refine ⟨_,rfl,?_⟩) | (refine aam rfl 17 #[.tmp 66,.tmp 68] #[38,38] rfl aef #[.agg #[.bool n7,.slice a7 m7 c7],.agg #[.bool ng8,.slice ao8 rs8.length cap8]] (by simp [Act.eval,Act.put]) (mulF _ z0 (1+(B:Int)) _ _ 1500 2 (IsW.ru Q7.out (Ru.of_below HB68.out)) HO8.out.is (by omega) (by omega)) ?_;rintro e w9 ⟨v9,rfl,h9,hb9⟩;have HB69:=hide (HB68.out.trans (hb9.mono HB68.out.size));have H9:=hide h9;clear hb9 h9;refine ⟨_,rfl,?_⟩) | (refine aam rfl 16 #[.tmp 69] #[38] rfl aix #[v9] (by simp [Act.eval,Act.put]) (wtextF _ _ _ _ H9.out.is (by omega)) ?_;rintro e w10 ⟨rfl,hb10⟩;have HB610:=hide (HB69.out.trans (hb10.mono HB69.out.size));clear hb10;refine ⟨_,rfl,?_⟩))
     all_goals (
      go_wp2_with fail
      go_meet
      exact ⟨rfl,HB610.out⟩)
    case rest =>
     obtain ⟨rfl,hb7⟩:=hcut
     obtain ⟨wv7,rfl⟩:∃ x,x=wc:=⟨_,rfl⟩
     obtain ⟨sM,hsM⟩:∃ s,txt (z0*(1+(B:Int)))=s:=⟨_,rfl⟩
     rw [hsM]
     have HI7:=hide (HI6.out.below hb7)
     have HB7:=hide (HB6.out.trans (hb7.mono HB6.out.size))
     have hbl7:b0<wv7.heap.size:=Nat.lt_of_lt_of_le HBL.out hb7.size
     have HBL:=hide hbl7
     have HM:=hide hsM
     clear hb7 hbl7 hsM hbl6 HI6 HB6 hsz6 hbl
     go_upto_region 14 with fail
     go_cut [10] (fun cv wx=>cv=.string (txt (z1*(1+(B:Int))))∧Below wv7.heap.size wv7 wx)
     case first =>
      obtain ⟨b7,off7,n7,a7,m7,c7,e7,_,x7,x7',q7⟩:=HI7.out.cell (k:=1) (z:=z1) rfl
      obtain ⟨rfl,rfl⟩:b0=b7∧off=off7:=by simpa using e7
      simp only [Nat.zero_mul,Nat.add_zero,Nat.one_mul,Nat.reduceMul,Nat.add_assoc,Nat.reduceAdd] at x7 x7'
      have Q7:=hide q7
      clear e7 q7
      go_region_law (first | (refine aam rfl 18 #[.tmp 74] #[3] rfl ago #[.int .i64 (1+(B:Int))] (by simp [Act.eval,Act.put]) (acu _ (1+(B:Int)) (by omega) (by omega)) ?_;rintro e w8 ⟨ng8,ao8,cap8,rs8,rfl,hw8,hl8,hb8⟩;have HO8:=hide (show OutW (1+(B:Int)) 2 (.agg #[.bool ng8,.slice ao8 rs8.length cap8]) w8 from ⟨_,_,_,_,rfl,hw8,hl8⟩);have hb68:Below wv7.heap.size wv7 w8:=(show Below wv7.heap.size wv7 _ by (repeat' first|with_reducible(first|exact Below.refl _ _|assumption|refine gdrewN ?_ _|refine Below.alloc ?_ ?_ _|refine Below.drew ?_|refine Below.setCell ?_ ?_ _)|go_size)).trans (hb8.mono (by simp));have HB68:=hide hb68;have x8:=(hb68.cell (p:=⟨b0,off+2,none⟩) HBL.out).trans x7;have x8' := (hb68.cell (p:=⟨b0,off+3,none⟩) HBL.out).trans x7';clear hb8 hb68 hw8 hl8;refine ⟨_,rfl,?_⟩) | (refine aam rfl 17 #[.tmp 73,.tmp 75] #[38,38] rfl aef #[.agg #[.bool n7,.slice a7 m7 c7],.agg #[.bool ng8,.slice ao8 rs8.length cap8]] (by simp [Act.eval,Act.put]) (mulF _ z1 (1+(B:Int)) _ _ 1500 2 (IsW.ru Q7.out (Ru.of_below HB68.out)) HO8.out.is (by omega) (by omega)) ?_;rintro e w9 ⟨v9,rfl,h9,hb9⟩;have HB69:=hide (HB68.out.trans (hb9.mono HB68.out.size));have H9:=hide h9;clear hb9 h9;refine ⟨_,rfl,?_⟩) | (refine aam rfl 16 #[.tmp 76] #[38] rfl aix #[v9] (by simp [Act.eval,Act.put]) (wtextF _ _ _ _ H9.out.is (by omega)) ?_;rintro e w10 ⟨rfl,hb10⟩;have HB610:=hide (HB69.out.trans (hb10.mono HB69.out.size));clear hb10;refine ⟨_,rfl,?_⟩))
      all_goals (
       go_wp2_with fail
       go_meet
       exact ⟨rfl,HB610.out⟩)
     case rest =>
      obtain ⟨rfl,hb8⟩:=hcut
      obtain ⟨wv8,rfl⟩:∃ x,x=wc:=⟨_,rfl⟩
      obtain ⟨sO,hsO⟩:∃ s,txt (z1*(1+(B:Int)))=s:=⟨_,rfl⟩
      rw [hsO]
      have HI8:=hide (HI7.out.below hb8)
      have HB8:=hide (HB7.out.trans (hb8.mono HB7.out.size))
      have hbl8:b0<wv8.heap.size:=Nat.lt_of_lt_of_le HBL.out hb8.size
      have HBL:=hide hbl8
      have HO:=hide hsO
      clear hb8 hbl8 hsO HI7 HB7
      go_upto_region 15 with fail
      go_cut [11] (fun cv wx=>cv=.string (txt (z3*(1+(B:Int))))∧Below wv8.heap.size wv8 wx)
      case first =>
       obtain ⟨b7,off7,n7,a7,m7,c7,e7,_,x7,x7',q7⟩:=HI8.out.cell (k:=3) (z:=z3) rfl
       obtain ⟨rfl,rfl⟩:b0=b7∧off=off7:=by simpa using e7
       simp only [Nat.zero_mul,Nat.add_zero,Nat.one_mul,Nat.reduceMul,Nat.add_assoc,Nat.reduceAdd] at x7 x7'
       have Q7:=hide q7
       clear e7 q7
       go_region_law (first | (refine aam rfl 18 #[.tmp 81] #[3] rfl ago #[.int .i64 (1+(B:Int))] (by simp [Act.eval,Act.put]) (acu _ (1+(B:Int)) (by omega) (by omega)) ?_;rintro e w8 ⟨ng8,ao8,cap8,rs8,rfl,hw8,hl8,hb8⟩;have HO8:=hide (show OutW (1+(B:Int)) 2 (.agg #[.bool ng8,.slice ao8 rs8.length cap8]) w8 from ⟨_,_,_,_,rfl,hw8,hl8⟩);have hb68:Below wv8.heap.size wv8 w8:=(show Below wv8.heap.size wv8 _ by (repeat' first|with_reducible(first|exact Below.refl _ _|assumption|refine gdrewN ?_ _|refine Below.alloc ?_ ?_ _|refine Below.drew ?_|refine Below.setCell ?_ ?_ _)|go_size)).trans (hb8.mono (by simp));have HB68:=hide hb68;have x8:=(hb68.cell (p:=⟨b0,off+6,none⟩) HBL.out).trans x7;have x8' := (hb68.cell (p:=⟨b0,off+7,none⟩) HBL.out).trans x7';clear hb8 hb68 hw8 hl8;refine ⟨_,rfl,?_⟩) | (refine aam rfl 17 #[.tmp 80,.tmp 82] #[38,38] rfl aef #[.agg #[.bool n7,.slice a7 m7 c7],.agg #[.bool ng8,.slice ao8 rs8.length cap8]] (by simp [Act.eval,Act.put]) (mulF _ z3 (1+(B:Int)) _ _ 1500 2 (IsW.ru Q7.out (Ru.of_below HB68.out)) HO8.out.is (by omega) (by omega)) ?_;rintro e w9 ⟨v9,rfl,h9,hb9⟩;have HB69:=hide (HB68.out.trans (hb9.mono HB68.out.size));have H9:=hide h9;clear hb9 h9;refine ⟨_,rfl,?_⟩) | (refine aam rfl 16 #[.tmp 83] #[38] rfl aix #[v9] (by simp [Act.eval,Act.put]) (wtextF _ _ _ _ H9.out.is (by omega)) ?_;rintro e w10 ⟨rfl,hb10⟩;have HB610:=hide (HB69.out.trans (hb10.mono HB69.out.size));clear hb10;refine ⟨_,rfl,?_⟩))
       all_goals (
        go_wp2_with fail
        go_meet
        exact ⟨rfl,HB610.out⟩)
      case rest =>
       obtain ⟨rfl,hb9⟩:=hcut
       obtain ⟨wv9,rfl⟩:∃ x,x=wc:=⟨_,rfl⟩
       obtain ⟨sP,hsP⟩:∃ s,txt (z3*(1+(B:Int)))=s:=⟨_,rfl⟩
       rw [hsP]
       have HB9:=hide (HB8.out.trans (hb9.mono HB8.out.size))
       have HP:=hide hsP
       clear hb9 hsP HI8 HB8 HBL
       have RETT:Hid (Below w.heap.size w wv9):=HB9.out
       by_cases q0:300<sM.size
       ·have l0:decide ((300:Int)<(sM.size:Int))=true:=by simp;omega
        go_wp2
        refine bodyPost_ret (v:=_) (by simp [results,Tryz.results4,go_sem];try rfl) rfl ⟨rfl,RETT.out⟩
       replace q0:sM.size≤300:=by omega
       have l0:decide ((300:Int)<(sM.size:Int))=false:=by simp;omega
       by_cases q1:300<sO.size
       ·have l1:decide ((300:Int)<(sO.size:Int))=true:=by simp;omega
        go_wp2
        refine bodyPost_ret (v:=_) (by simp [results,Tryz.results4,go_sem];try rfl) rfl ⟨rfl,RETT.out⟩
       replace q1:sO.size≤300:=by omega
       have l1:decide ((300:Int)<(sO.size:Int))=false:=by simp;omega
       by_cases q3:300<sP.size
       ·have l3:decide ((300:Int)<(sP.size:Int))=true:=by simp;omega
        go_wp2
        refine bodyPost_ret (v:=_) (by simp [results,Tryz.results4,go_sem];try rfl) rfl ⟨rfl,RETT.out⟩
       replace q3:sP.size≤300:=by omega
       have l3:decide ((300:Int)<(sP.size:Int))=false:=by simp;omega
       have HQ0:=hide (ami (hb:=⟨HH.out.1,HH.out.2.1,HH.out.2.2,HM.out,HO.out,HP.out⟩) HALL.out (by omega) (by omega) (by omega) hB1 q0 q1 q3)
       go_upto_region 18 with fail
       clear l0 l1 l3 HM HO HP HALL RETT
       go_wp2_with fail
       refine (acu wv9 (1+(B:Int)) (by omega) (by omega)).mono ?_
       rintro e w10 ⟨ng10,ao10,cap10,rs10,rfl,hw10,hl10,hb10⟩
       have K11:=hide (wtextF w10 (1+(B:Int)) _ 2 (OutW.is ⟨ng10,ao10,cap10,rs10,rfl,hw10,hl10⟩) (by decide))
       have HB10:=hide (HB9.out.trans (hb10.mono HB9.out.size))
       clear hb10 hw10 hl10 HB9
       go_wp2_with fail
       refine K11.out.mono ?_
       rintro e w11 ⟨rfl,hb11⟩
       obtain ⟨sC,hsC⟩:∃ s,txt (1+(B:Int))=s:=⟨_,rfl⟩
       rw [hsC]
       have HB11:=hide (HB10.out.trans (hb11.mono HB10.out.size))
       clear hb11 K11 HB10
       obtain ⟨A,B9,D,M,O,P,C,HQ⟩:∃ A B9 D M O P C,Hid (TuQ s0 s1 s3 sM sO sP sC A B9 D M O P C z0 z1 z3 (1+(B:Int))):=ajw HQ0.out hsC
       have za:=HQ.out.za;have zb:=HQ.out.zb;have zd:=HQ.out.zd;have zm:=HQ.out.zm;have zo:=HQ.out.zo;have zp:=HQ.out.zp;have zc:=HQ.out.zc
       clear hsC HQ0 HH q0 q1 q3 p0 p1 p3
       go_upto_region 20 with fail
       have hbA:=hAl w11 (.cells #[.string ⟨#[120]⟩,.string ⟨#[121]⟩,.string ⟨#[122]⟩] 9)
       have hS12:=ape w11 ⟨#[120]⟩ ⟨#[121]⟩ ⟨#[122]⟩ 9
       have hs12:(w11.alloc (.cells #[.string ⟨#[120]⟩,.string ⟨#[121]⟩,.string ⟨#[122]⟩] 9)).heap.size=w11.heap.size+1:=by simp
       generalize w11.alloc (.cells #[.string ⟨#[120]⟩,.string ⟨#[121]⟩,.string ⟨#[122]⟩] 9)=w12 at *
       have HB12:=hide (HB11.out.trans (hbA.mono HB11.out.size))
       have HV12:=hide hS12
       have HS12:=hide hs12
       clear hbA hS12 hs12 HB11
       obtain ⟨uh0,ue0⟩:∃ h:ByteArray,(s0:ByteArray) ++ ⟨#[42,120,32,45,32]⟩ = h:=⟨_,rfl⟩
       have uz0:uh0.size≤800:=by rw [←ue0,ByteArray.size_append];show _+5≤_;omega
       have uc0:∀ W,(Op.stringOp .add s0 ⟨#[42,120,32,45,32]⟩).run Tryz.prog W=.ok (.string uh0) W:=fun W=>by rw [←ue0];exact run_string_add_sum (P:=Tryz.prog) W _ _ (by rw [←ByteArray.size_append,ue0];omega)
       obtain ⟨uh1,ue1⟩:∃ h:ByteArray,(uh0:ByteArray) ++ s1=h:=⟨_,rfl⟩
       have uz1:uh1.size≤1200:=by rw [←ue1,ByteArray.size_append];skip;omega
       have uc1:∀ W,(Op.stringOp .add uh0 s1).run Tryz.prog W=.ok (.string uh1) W:=fun W=>by rw [←ue1];exact run_string_add_sum (P:=Tryz.prog) W _ _ (by rw [←ByteArray.size_append,ue1];omega)
       obtain ⟨uh2,ue2⟩:∃ h:ByteArray,(uh1:ByteArray) ++ ⟨#[42,121,32,43,32,122,32,61,32]⟩ = h:=⟨_,rfl⟩
       have uz2:uh2.size≤1600:=by rw [←ue2,ByteArray.size_append];show _+9≤_;omega
       have uc2:∀ W,(Op.stringOp .add uh1 ⟨#[42,121,32,43,32,122,32,61,32]⟩).run Tryz.prog W=.ok (.string uh2) W:=fun W=>by rw [←ue2];exact run_string_add_sum (P:=Tryz.prog) W _ _ (by rw [←ByteArray.size_append,ue2];omega)
       obtain ⟨uh3,ue3⟩:∃ h:ByteArray,(uh2:ByteArray) ++ s3=h:=⟨_,rfl⟩
       have uz3:uh3.size≤2000:=by rw [←ue3,ByteArray.size_append];skip;omega
       have uc3:∀ W,(Op.stringOp .add uh2 s3).run Tryz.prog W=.ok (.string uh3) W:=fun W=>by rw [←ue3];exact run_string_add_sum (P:=Tryz.prog) W _ _ (by rw [←ByteArray.size_append,ue3];omega)
       have ut:uh3=bts (encs (cs0 A B9 D)):=by
        rw [←ue3,←ue2,←ue1,←ue0]
        simp only [HQ.out.a,HQ.out.b,HQ.out.d,show (⟨#[42,120,32,45,32]⟩:ByteArray)=bts (encs [42,120,32,45,32]) from rfl,show (⟨#[42,121,32,43,32,122,32,61,32]⟩:ByteArray)=bts (encs [42,121,32,43,32,122,32,61,32]) from rfl,acf,←aa1]
        simp [cs0,dcs]
       have KE:=hide (HQ.out.k.t0 (HTB.out.below HB12.out) HV12.out)
       rw [←ut] at KE
       clear ue0 ue1 ue2 ue3 uz0 uz1 uz2 uz3 ut
       go_wp2_with fail
       refine KE.out.mono ?_
       rintro e w13 ⟨hb13,x13,rfl,ho13⟩
       obtain ⟨ao13,cap13,rfl,_⟩:=ho13.is.parts
       have HO13:=hide ho13.can
       have HB13:=hide (HB12.out.trans (hb13.mono HB12.out.size))
       have HV13:=hide (HV12.out.below hb13)
       clear hb13 KE ho13 uc0 uc1 uc2 uc3 HB12 HV12
       go_upto_region 21 with fail
       have hbP:=hAl w13 (.cells #[.int .i64 0,.int .i64 0,.int .i64 0,.int .i64 0] 32)
       generalize w13.alloc (.cells #[.int .i64 0,.int .i64 0,.int .i64 0,.int .i64 0] 32)=w14 at *
       have HO14:=hide (HO13.out.below hbP)
       have HB14:=hide (HB13.out.trans (hbP.mono HB13.out.size))
       have HV14:=hide (HV13.out.below hbP)
       clear hbP HO13 HB13 HV13
       obtain ⟨t0h0,t0e0⟩:∃ h:ByteArray,(s3:ByteArray) ++ ⟨#[61]⟩ = h:=⟨_,rfl⟩
       have t0z0:t0h0.size≤800:=by rw [←t0e0,ByteArray.size_append];show _+1≤_;omega
       have t0c0:∀ W,(Op.stringOp .add s3 ⟨#[61]⟩).run Tryz.prog W=.ok (.string t0h0) W:=fun W=>by rw [←t0e0];exact run_string_add_sum (P:=Tryz.prog) W _ _ (by rw [←ByteArray.size_append,t0e0];omega)
       obtain ⟨t0h1,t0e1⟩:∃ h:ByteArray,(t0h0:ByteArray) ++ s0=h:=⟨_,rfl⟩
       have t0z1:t0h1.size≤1200:=by rw [←t0e1,ByteArray.size_append];skip;omega
       have t0c1:∀ W,(Op.stringOp .add t0h0 s0).run Tryz.prog W=.ok (.string t0h1) W:=fun W=>by rw [←t0e1];exact run_string_add_sum (P:=Tryz.prog) W _ _ (by rw [←ByteArray.size_append,t0e1];omega)
       obtain ⟨t0h2,t0e2⟩:∃ h:ByteArray,(t0h1:ByteArray) ++ ⟨#[120,45]⟩ = h:=⟨_,rfl⟩
       have t0z2:t0h2.size≤1600:=by rw [←t0e2,ByteArray.size_append];show _+2≤_;omega
       have t0c2:∀ W,(Op.stringOp .add t0h1 ⟨#[120,45]⟩).run Tryz.prog W=.ok (.string t0h2) W:=fun W=>by rw [←t0e2];exact run_string_add_sum (P:=Tryz.prog) W _ _ (by rw [←ByteArray.size_append,t0e2];omega)
       obtain ⟨t0h3,t0e3⟩:∃ h:ByteArray,(t0h2:ByteArray) ++ s1=h:=⟨_,rfl⟩
       have t0z3:t0h3.size≤2000:=by rw [←t0e3,ByteArray.size_append];skip;omega
       have t0c3:∀ W,(Op.stringOp .add t0h2 s1).run Tryz.prog W=.ok (.string t0h3) W:=fun W=>by rw [←t0e3];exact run_string_add_sum (P:=Tryz.prog) W _ _ (by rw [←ByteArray.size_append,t0e3];omega)
       obtain ⟨t0h4,t0e4⟩:∃ h:ByteArray,(t0h3:ByteArray) ++ ⟨#[121,43,122]⟩ = h:=⟨_,rfl⟩
       have t0z4:t0h4.size≤2400:=by rw [←t0e4,ByteArray.size_append];show _+3≤_;omega
       have t0c4:∀ W,(Op.stringOp .add t0h3 ⟨#[121,43,122]⟩).run Tryz.prog W=.ok (.string t0h4) W:=fun W=>by rw [←t0e4];exact run_string_add_sum (P:=Tryz.prog) W _ _ (by rw [←ByteArray.size_append,t0e4];omega)
       have t0t:t0h4=bts (encs (cs1 A B9 D)):=by
        rw [←t0e4,←t0e3,←t0e2,←t0e1,←t0e0]
        simp only [HQ.out.d,HQ.out.a,HQ.out.b,show (⟨#[61]⟩:ByteArray)=bts (encs [61]) from rfl,show (⟨#[120,45]⟩:ByteArray)=bts (encs [120,45]) from rfl,show (⟨#[121,43,122]⟩:ByteArray)=bts (encs [121,43,122]) from rfl,acf,←aa1]
        simp [cs1,dcs]
       clear t0e0 t0e1 t0e2 t0e3 t0e4 t0z0 t0z1 t0z2 t0z3 t0z4
       obtain ⟨t1h0,t1e0⟩:∃ h:ByteArray,(sM:ByteArray) ++ ⟨#[120,32,45,32]⟩ = h:=⟨_,rfl⟩
       have t1z0:t1h0.size≤800:=by rw [←t1e0,ByteArray.size_append];show _+4≤_;omega
       have t1c0:∀ W,(Op.stringOp .add sM ⟨#[120,32,45,32]⟩).run Tryz.prog W=.ok (.string t1h0) W:=fun W=>by rw [←t1e0];exact run_string_add_sum (P:=Tryz.prog) W _ _ (by rw [←ByteArray.size_append,t1e0];omega)
       obtain ⟨t1h1,t1e1⟩:∃ h:ByteArray,(t1h0:ByteArray) ++ sO=h:=⟨_,rfl⟩
       have t1z1:t1h1.size≤1200:=by rw [←t1e1,ByteArray.size_append];skip;omega
       have t1c1:∀ W,(Op.stringOp .add t1h0 sO).run Tryz.prog W=.ok (.string t1h1) W:=fun W=>by rw [←t1e1];exact run_string_add_sum (P:=Tryz.prog) W _ _ (by rw [←ByteArray.size_append,t1e1];omega)
       obtain ⟨t1h2,t1e2⟩:∃ h:ByteArray,(t1h1:ByteArray) ++ ⟨#[194,183,121,32,43,32]⟩ = h:=⟨_,rfl⟩
       have t1z2:t1h2.size≤1600:=by rw [←t1e2,ByteArray.size_append];show _+6≤_;omega
       have t1c2:∀ W,(Op.stringOp .add t1h1 ⟨#[194,183,121,32,43,32]⟩).run Tryz.prog W=.ok (.string t1h2) W:=fun W=>by rw [←t1e2];exact run_string_add_sum (P:=Tryz.prog) W _ _ (by rw [←ByteArray.size_append,t1e2];omega)
       obtain ⟨t1h3,t1e3⟩:∃ h:ByteArray,(t1h2:ByteArray) ++ sC=h:=⟨_,rfl⟩
       have t1z3:t1h3.size≤2000:=by rw [←t1e3,ByteArray.size_append];skip;omega
       have t1c3:∀ W,(Op.stringOp .add t1h2 sC).run Tryz.prog W=.ok (.string t1h3) W:=fun W=>by rw [←t1e3];exact run_string_add_sum (P:=Tryz.prog) W _ _ (by rw [←ByteArray.size_append,t1e3];omega)
       obtain ⟨t1h4,t1e4⟩:∃ h:ByteArray,(t1h3:ByteArray) ++ ⟨#[32,195,151,32,122,32,61,32]⟩ = h:=⟨_,rfl⟩
       have t1z4:t1h4.size≤2400:=by rw [←t1e4,ByteArray.size_append];show _+8≤_;omega
       have t1c4:∀ W,(Op.stringOp .add t1h3 ⟨#[32,195,151,32,122,32,61,32]⟩).run Tryz.prog W=.ok (.string t1h4) W:=fun W=>by rw [←t1e4];exact run_string_add_sum (P:=Tryz.prog) W _ _ (by rw [←ByteArray.size_append,t1e4];omega)
       obtain ⟨t1h5,t1e5⟩:∃ h:ByteArray,(t1h4:ByteArray) ++ sP=h:=⟨_,rfl⟩
       have t1z5:t1h5.size≤2800:=by rw [←t1e5,ByteArray.size_append];skip;omega
       have t1c5:∀ W,(Op.stringOp .add t1h4 sP).run Tryz.prog W=.ok (.string t1h5) W:=fun W=>by rw [←t1e5];exact run_string_add_sum (P:=Tryz.prog) W _ _ (by rw [←ByteArray.size_append,t1e5];omega)
       have t1t:t1h5=bts (encs (cs2 M O C P)):=by
        rw [←t1e5,←t1e4,←t1e3,←t1e2,←t1e1,←t1e0]
        simp only [HQ.out.m,HQ.out.o,HQ.out.c,HQ.out.p,show (⟨#[120,32,45,32]⟩:ByteArray)=bts (encs [120,32,45,32]) from rfl,show (⟨#[194,183,121,32,43,32]⟩:ByteArray)=bts (encs [183,121,32,43,32]) from rfl,show (⟨#[32,195,151,32,122,32,61,32]⟩:ByteArray)=bts (encs [32,215,32,122,32,61,32]) from rfl,acf,←aa1]
        simp [cs2,dcs]
       clear t1e0 t1e1 t1e2 t1e3 t1e4 t1e5 t1z0 t1z1 t1z2 t1z3 t1z4 t1z5
       obtain ⟨t2h0,t2e0⟩:∃ h:ByteArray,(⟨#[35,32,102,105,114,115,116,10,32]⟩:ByteArray) ++ s0=h:=⟨_,rfl⟩
       have t2z0:t2h0.size≤800:=by rw [←t2e0,ByteArray.size_append];show 9+_≤_;omega
       have t2c0:∀ W,(Op.stringOp .add ⟨#[35,32,102,105,114,115,116,10,32]⟩ s0).run Tryz.prog W=.ok (.string t2h0) W:=fun W=>by rw [←t2e0];exact run_string_add_sum (P:=Tryz.prog) W _ _ (by rw [←ByteArray.size_append,t2e0];omega)
       obtain ⟨t2h1,t2e1⟩:∃ h:ByteArray,(t2h0:ByteArray) ++ ⟨#[32,120,32,226,136,146,32]⟩ = h:=⟨_,rfl⟩
       have t2z1:t2h1.size≤1200:=by rw [←t2e1,ByteArray.size_append];show _+7≤_;omega
       have t2c1:∀ W,(Op.stringOp .add t2h0 ⟨#[32,120,32,226,136,146,32]⟩).run Tryz.prog W=.ok (.string t2h1) W:=fun W=>by rw [←t2e1];exact run_string_add_sum (P:=Tryz.prog) W _ _ (by rw [←ByteArray.size_append,t2e1];omega)
       obtain ⟨t2h2,t2e2⟩:∃ h:ByteArray,(t2h1:ByteArray) ++ s1=h:=⟨_,rfl⟩
       have t2z2:t2h2.size≤1600:=by rw [←t2e2,ByteArray.size_append];skip;omega
       have t2c2:∀ W,(Op.stringOp .add t2h1 s1).run Tryz.prog W=.ok (.string t2h2) W:=fun W=>by rw [←t2e2];exact run_string_add_sum (P:=Tryz.prog) W _ _ (by rw [←ByteArray.size_append,t2e2];omega)
       obtain ⟨t2h3,t2e3⟩:∃ h:ByteArray,(t2h2:ByteArray) ++ ⟨#[32,121,32,61,32]⟩ = h:=⟨_,rfl⟩
       have t2z3:t2h3.size≤2000:=by rw [←t2e3,ByteArray.size_append];show _+5≤_;omega
       have t2c3:∀ W,(Op.stringOp .add t2h2 ⟨#[32,121,32,61,32]⟩).run Tryz.prog W=.ok (.string t2h3) W:=fun W=>by rw [←t2e3];exact run_string_add_sum (P:=Tryz.prog) W _ _ (by rw [←ByteArray.size_append,t2e3];omega)
       obtain ⟨t2h4,t2e4⟩:∃ h:ByteArray,(t2h3:ByteArray) ++ s3=h:=⟨_,rfl⟩
       have t2z4:t2h4.size≤2400:=by rw [←t2e4,ByteArray.size_append];skip;omega
       have t2c4:∀ W,(Op.stringOp .add t2h3 s3).run Tryz.prog W=.ok (.string t2h4) W:=fun W=>by rw [←t2e4];exact run_string_add_sum (P:=Tryz.prog) W _ _ (by rw [←ByteArray.size_append,t2e4];omega)
       obtain ⟨t2h5,t2e5⟩:∃ h:ByteArray,(t2h4:ByteArray) ++ ⟨#[32,45,32,122]⟩ = h:=⟨_,rfl⟩
       have t2z5:t2h5.size≤2800:=by rw [←t2e5,ByteArray.size_append];show _+4≤_;omega
       have t2c5:∀ W,(Op.stringOp .add t2h4 ⟨#[32,45,32,122]⟩).run Tryz.prog W=.ok (.string t2h5) W:=fun W=>by rw [←t2e5];exact run_string_add_sum (P:=Tryz.prog) W _ _ (by rw [←ByteArray.size_append,t2e5];omega)
       have t2t:t2h5=bts (encs (cs3 A B9 D)):=by
        rw [←t2e5,←t2e4,←t2e3,←t2e2,←t2e1,←t2e0]
        simp only [HQ.out.a,HQ.out.b,HQ.out.d,show (⟨#[35,32,102,105,114,115,116,10,32]⟩:ByteArray)=bts (encs [35,32,102,105,114,115,116,10,32]) from rfl,show (⟨#[32,120,32,226,136,146,32]⟩:ByteArray)=bts (encs [32,120,32,8722,32]) from rfl,show (⟨#[32,121,32,61,32]⟩:ByteArray)=bts (encs [32,121,32,61,32]) from rfl,show (⟨#[32,45,32,122]⟩:ByteArray)=bts (encs [32,45,32,122]) from rfl,acf,←aa1]
        simp [cs3,dcs]
       clear t2e0 t2e1 t2e2 t2e3 t2e4 t2e5 t2z0 t2z1 t2z2 t2z3 t2z4 t2z5
       obtain ⟨t3h0,t3e0⟩:∃ h:ByteArray,(⟨#[45]⟩:ByteArray) ++ s0=h:=⟨_,rfl⟩
       have t3z0:t3h0.size≤800:=by rw [←t3e0,ByteArray.size_append];show 1+_≤_;omega
       have t3c0:∀ W,(Op.stringOp .add ⟨#[45]⟩ s0).run Tryz.prog W=.ok (.string t3h0) W:=fun W=>by rw [←t3e0];exact run_string_add_sum (P:=Tryz.prog) W _ _ (by rw [←ByteArray.size_append,t3e0];omega)
       obtain ⟨t3h1,t3e1⟩:∃ h:ByteArray,(t3h0:ByteArray) ++ ⟨#[120,32,43,32]⟩ = h:=⟨_,rfl⟩
       have t3z1:t3h1.size≤1200:=by rw [←t3e1,ByteArray.size_append];show _+4≤_;omega
       have t3c1:∀ W,(Op.stringOp .add t3h0 ⟨#[120,32,43,32]⟩).run Tryz.prog W=.ok (.string t3h1) W:=fun W=>by rw [←t3e1];exact run_string_add_sum (P:=Tryz.prog) W _ _ (by rw [←ByteArray.size_append,t3e1];omega)
       obtain ⟨t3h2,t3e2⟩:∃ h:ByteArray,(t3h1:ByteArray) ++ s1=h:=⟨_,rfl⟩
       have t3z2:t3h2.size≤1600:=by rw [←t3e2,ByteArray.size_append];skip;omega
       have t3c2:∀ W,(Op.stringOp .add t3h1 s1).run Tryz.prog W=.ok (.string t3h2) W:=fun W=>by rw [←t3e2];exact run_string_add_sum (P:=Tryz.prog) W _ _ (by rw [←ByteArray.size_append,t3e2];omega)
       obtain ⟨t3h3,t3e3⟩:∃ h:ByteArray,(t3h2:ByteArray) ++ ⟨#[121,32,45,32,122,32,43,32]⟩ = h:=⟨_,rfl⟩
       have t3z3:t3h3.size≤2000:=by rw [←t3e3,ByteArray.size_append];show _+8≤_;omega
       have t3c3:∀ W,(Op.stringOp .add t3h2 ⟨#[121,32,45,32,122,32,43,32]⟩).run Tryz.prog W=.ok (.string t3h3) W:=fun W=>by rw [←t3e3];exact run_string_add_sum (P:=Tryz.prog) W _ _ (by rw [←ByteArray.size_append,t3e3];omega)
       obtain ⟨t3h4,t3e4⟩:∃ h:ByteArray,(t3h3:ByteArray) ++ s3=h:=⟨_,rfl⟩
       have t3z4:t3h4.size≤2400:=by rw [←t3e4,ByteArray.size_append];skip;omega
       have t3c4:∀ W,(Op.stringOp .add t3h3 s3).run Tryz.prog W=.ok (.string t3h4) W:=fun W=>by rw [←t3e4];exact run_string_add_sum (P:=Tryz.prog) W _ _ (by rw [←ByteArray.size_append,t3e4];omega)
       obtain ⟨t3h5,t3e5⟩:∃ h:ByteArray,(t3h4:ByteArray) ++ ⟨#[32,61,32,48]⟩ = h:=⟨_,rfl⟩
       have t3z5:t3h5.size≤2800:=by rw [←t3e5,ByteArray.size_append];show _+4≤_;omega
       have t3c5:∀ W,(Op.stringOp .add t3h4 ⟨#[32,61,32,48]⟩).run Tryz.prog W=.ok (.string t3h5) W:=fun W=>by rw [←t3e5];exact run_string_add_sum (P:=Tryz.prog) W _ _ (by rw [←ByteArray.size_append,t3e5];omega)
       have t3t:t3h5=bts (encs (cs4 A B9 D)):=by
        rw [←t3e5,←t3e4,←t3e3,←t3e2,←t3e1,←t3e0]
        simp only [HQ.out.a,HQ.out.b,HQ.out.d,show (⟨#[45]⟩:ByteArray)=bts (encs [45]) from rfl,show (⟨#[120,32,43,32]⟩:ByteArray)=bts (encs [120,32,43,32]) from rfl,show (⟨#[121,32,45,32,122,32,43,32]⟩:ByteArray)=bts (encs [121,32,45,32,122,32,43,32]) from rfl,show (⟨#[32,61,32,48]⟩:ByteArray)=bts (encs [32,61,32,48]) from rfl,acf,←aa1]
        simp [cs4,dcs]
       clear t3e0 t3e1 t3e2 t3e3 t3e4 t3e5 t3z0 t3z1 t3z2 t3z3 t3z4 t3z5
       obtain ⟨t4h0,t4e0⟩:∃ h:ByteArray,(s0:ByteArray) ++ ⟨#[47]⟩ = h:=⟨_,rfl⟩
       have t4z0:t4h0.size≤800:=by rw [←t4e0,ByteArray.size_append];show _+1≤_;omega
       have t4c0:∀ W,(Op.stringOp .add s0 ⟨#[47]⟩).run Tryz.prog W=.ok (.string t4h0) W:=fun W=>by rw [←t4e0];exact run_string_add_sum (P:=Tryz.prog) W _ _ (by rw [←ByteArray.size_append,t4e0];omega)
       obtain ⟨t4h1,t4e1⟩:∃ h:ByteArray,(t4h0:ByteArray) ++ sC=h:=⟨_,rfl⟩
       have t4z1:t4h1.size≤1200:=by rw [←t4e1,ByteArray.size_append];skip;omega
       have t4c1:∀ W,(Op.stringOp .add t4h0 sC).run Tryz.prog W=.ok (.string t4h1) W:=fun W=>by rw [←t4e1];exact run_string_add_sum (P:=Tryz.prog) W _ _ (by rw [←ByteArray.size_append,t4e1];omega)
       obtain ⟨t4h2,t4e2⟩:∃ h:ByteArray,(t4h1:ByteArray) ++ ⟨#[120,32,45,32]⟩ = h:=⟨_,rfl⟩
       have t4z2:t4h2.size≤1600:=by rw [←t4e2,ByteArray.size_append];show _+4≤_;omega
       have t4c2:∀ W,(Op.stringOp .add t4h1 ⟨#[120,32,45,32]⟩).run Tryz.prog W=.ok (.string t4h2) W:=fun W=>by rw [←t4e2];exact run_string_add_sum (P:=Tryz.prog) W _ _ (by rw [←ByteArray.size_append,t4e2];omega)
       obtain ⟨t4h3,t4e3⟩:∃ h:ByteArray,(t4h2:ByteArray) ++ s1=h:=⟨_,rfl⟩
       have t4z3:t4h3.size≤2000:=by rw [←t4e3,ByteArray.size_append];skip;omega
       have t4c3:∀ W,(Op.stringOp .add t4h2 s1).run Tryz.prog W=.ok (.string t4h3) W:=fun W=>by rw [←t4e3];exact run_string_add_sum (P:=Tryz.prog) W _ _ (by rw [←ByteArray.size_append,t4e3];omega)
       obtain ⟨t4h4,t4e4⟩:∃ h:ByteArray,(t4h3:ByteArray) ++ ⟨#[47]⟩ = h:=⟨_,rfl⟩
       have t4z4:t4h4.size≤2400:=by rw [←t4e4,ByteArray.size_append];show _+1≤_;omega
       have t4c4:∀ W,(Op.stringOp .add t4h3 ⟨#[47]⟩).run Tryz.prog W=.ok (.string t4h4) W:=fun W=>by rw [←t4e4];exact run_string_add_sum (P:=Tryz.prog) W _ _ (by rw [←ByteArray.size_append,t4e4];omega)
       obtain ⟨t4h5,t4e5⟩:∃ h:ByteArray,(t4h4:ByteArray) ++ sC=h:=⟨_,rfl⟩
       have t4z5:t4h5.size≤2800:=by rw [←t4e5,ByteArray.size_append];skip;omega
       have t4c5:∀ W,(Op.stringOp .add t4h4 sC).run Tryz.prog W=.ok (.string t4h5) W:=fun W=>by rw [←t4e5];exact run_string_add_sum (P:=Tryz.prog) W _ _ (by rw [←ByteArray.size_append,t4e5];omega)
       obtain ⟨t4h6,t4e6⟩:∃ h:ByteArray,(t4h5:ByteArray) ++ ⟨#[42,121,32,43,32,49,47]⟩ = h:=⟨_,rfl⟩
       have t4z6:t4h6.size≤3200:=by rw [←t4e6,ByteArray.size_append];show _+7≤_;omega
       have t4c6:∀ W,(Op.stringOp .add t4h5 ⟨#[42,121,32,43,32,49,47]⟩).run Tryz.prog W=.ok (.string t4h6) W:=fun W=>by rw [←t4e6];exact run_string_add_sum (P:=Tryz.prog) W _ _ (by rw [←ByteArray.size_append,t4e6];omega)
       obtain ⟨t4h7,t4e7⟩:∃ h:ByteArray,(t4h6:ByteArray) ++ sC=h:=⟨_,rfl⟩
       have t4z7:t4h7.size≤3600:=by rw [←t4e7,ByteArray.size_append];skip;omega
       have t4c7:∀ W,(Op.stringOp .add t4h6 sC).run Tryz.prog W=.ok (.string t4h7) W:=fun W=>by rw [←t4e7];exact run_string_add_sum (P:=Tryz.prog) W _ _ (by rw [←ByteArray.size_append,t4e7];omega)
       obtain ⟨t4h8,t4e8⟩:∃ h:ByteArray,(t4h7:ByteArray) ++ ⟨#[122,32,61,32]⟩ = h:=⟨_,rfl⟩
       have t4z8:t4h8.size≤4000:=by rw [←t4e8,ByteArray.size_append];show _+4≤_;omega
       have t4c8:∀ W,(Op.stringOp .add t4h7 ⟨#[122,32,61,32]⟩).run Tryz.prog W=.ok (.string t4h8) W:=fun W=>by rw [←t4e8];exact run_string_add_sum (P:=Tryz.prog) W _ _ (by rw [←ByteArray.size_append,t4e8];omega)
       obtain ⟨t4h9,t4e9⟩:∃ h:ByteArray,(t4h8:ByteArray) ++ s3=h:=⟨_,rfl⟩
       have t4z9:t4h9.size≤4400:=by rw [←t4e9,ByteArray.size_append];skip;omega
       have t4c9:∀ W,(Op.stringOp .add t4h8 s3).run Tryz.prog W=.ok (.string t4h9) W:=fun W=>by rw [←t4e9];exact run_string_add_sum (P:=Tryz.prog) W _ _ (by rw [←ByteArray.size_append,t4e9];omega)
       obtain ⟨t4h10,t4e10⟩:∃ h:ByteArray,(t4h9:ByteArray) ++ ⟨#[47]⟩ = h:=⟨_,rfl⟩
       have t4z10:t4h10.size≤4800:=by rw [←t4e10,ByteArray.size_append];show _+1≤_;omega
       have t4c10:∀ W,(Op.stringOp .add t4h9 ⟨#[47]⟩).run Tryz.prog W=.ok (.string t4h10) W:=fun W=>by rw [←t4e10];exact run_string_add_sum (P:=Tryz.prog) W _ _ (by rw [←ByteArray.size_append,t4e10];omega)
       obtain ⟨t4h11,t4e11⟩:∃ h:ByteArray,(t4h10:ByteArray) ++ sC=h:=⟨_,rfl⟩
       have t4z11:t4h11.size≤5200:=by rw [←t4e11,ByteArray.size_append];skip;omega
       have t4c11:∀ W,(Op.stringOp .add t4h10 sC).run Tryz.prog W=.ok (.string t4h11) W:=fun W=>by rw [←t4e11];exact run_string_add_sum (P:=Tryz.prog) W _ _ (by rw [←ByteArray.size_append,t4e11];omega)
       have t4t:t4h11=bts (encs (cs5 A B9 C D)):=by
        rw [←t4e11,←t4e10,←t4e9,←t4e8,←t4e7,←t4e6,←t4e5,←t4e4,←t4e3,←t4e2,←t4e1,←t4e0]
        simp only [HQ.out.a,HQ.out.c,HQ.out.b,HQ.out.d,show (⟨#[47]⟩:ByteArray)=bts (encs [47]) from rfl,show (⟨#[120,32,45,32]⟩:ByteArray)=bts (encs [120,32,45,32]) from rfl,show (⟨#[42,121,32,43,32,49,47]⟩:ByteArray)=bts (encs [42,121,32,43,32,49,47]) from rfl,show (⟨#[122,32,61,32]⟩:ByteArray)=bts (encs [122,32,61,32]) from rfl,acf,←aa1]
        simp [cs5,dcs]
       clear t4e0 t4e1 t4e2 t4e3 t4e4 t4e5 t4e6 t4e7 t4e8 t4e9 t4e10 t4e11 t4z0 t4z1 t4z2 t4z3 t4z4 t4z5 t4z6 t4z7 t4z8 t4z9 t4z10 t4z11
       obtain ⟨t5h0,t5e0⟩:∃ h:ByteArray,(⟨#[122,32,43,32]⟩:ByteArray) ++ s0=h:=⟨_,rfl⟩
       have t5z0:t5h0.size≤800:=by rw [←t5e0,ByteArray.size_append];show 4+_≤_;omega
       have t5c0:∀ W,(Op.stringOp .add ⟨#[122,32,43,32]⟩ s0).run Tryz.prog W=.ok (.string t5h0) W:=fun W=>by rw [←t5e0];exact run_string_add_sum (P:=Tryz.prog) W _ _ (by rw [←ByteArray.size_append,t5e0];omega)
       obtain ⟨t5h1,t5e1⟩:∃ h:ByteArray,(t5h0:ByteArray) ++ ⟨#[42,120,32,61,32,43]⟩ = h:=⟨_,rfl⟩
       have t5z1:t5h1.size≤1200:=by rw [←t5e1,ByteArray.size_append];show _+6≤_;omega
       have t5c1:∀ W,(Op.stringOp .add t5h0 ⟨#[42,120,32,61,32,43]⟩).run Tryz.prog W=.ok (.string t5h1) W:=fun W=>by rw [←t5e1];exact run_string_add_sum (P:=Tryz.prog) W _ _ (by rw [←ByteArray.size_append,t5e1];omega)
       obtain ⟨t5h2,t5e2⟩:∃ h:ByteArray,(t5h1:ByteArray) ++ s3=h:=⟨_,rfl⟩
       have t5z2:t5h2.size≤1600:=by rw [←t5e2,ByteArray.size_append];skip;omega
       have t5c2:∀ W,(Op.stringOp .add t5h1 s3).run Tryz.prog W=.ok (.string t5h2) W:=fun W=>by rw [←t5e2];exact run_string_add_sum (P:=Tryz.prog) W _ _ (by rw [←ByteArray.size_append,t5e2];omega)
       obtain ⟨t5h3,t5e3⟩:∃ h:ByteArray,(t5h2:ByteArray) ++ ⟨#[32,43,32]⟩ = h:=⟨_,rfl⟩
       have t5z3:t5h3.size≤2000:=by rw [←t5e3,ByteArray.size_append];show _+3≤_;omega
       have t5c3:∀ W,(Op.stringOp .add t5h2 ⟨#[32,43,32]⟩).run Tryz.prog W=.ok (.string t5h3) W:=fun W=>by rw [←t5e3];exact run_string_add_sum (P:=Tryz.prog) W _ _ (by rw [←ByteArray.size_append,t5e3];omega)
       obtain ⟨t5h4,t5e4⟩:∃ h:ByteArray,(t5h3:ByteArray) ++ s1=h:=⟨_,rfl⟩
       have t5z4:t5h4.size≤2400:=by rw [←t5e4,ByteArray.size_append];skip;omega
       have t5c4:∀ W,(Op.stringOp .add t5h3 s1).run Tryz.prog W=.ok (.string t5h4) W:=fun W=>by rw [←t5e4];exact run_string_add_sum (P:=Tryz.prog) W _ _ (by rw [←ByteArray.size_append,t5e4];omega)
       obtain ⟨t5h5,t5e5⟩:∃ h:ByteArray,(t5h4:ByteArray) ++ ⟨#[42,121]⟩ = h:=⟨_,rfl⟩
       have t5z5:t5h5.size≤2800:=by rw [←t5e5,ByteArray.size_append];show _+2≤_;omega
       have t5c5:∀ W,(Op.stringOp .add t5h4 ⟨#[42,121]⟩).run Tryz.prog W=.ok (.string t5h5) W:=fun W=>by rw [←t5e5];exact run_string_add_sum (P:=Tryz.prog) W _ _ (by rw [←ByteArray.size_append,t5e5];omega)
       have t5t:t5h5=bts (encs (cs6 A B9 D)):=by
        rw [←t5e5,←t5e4,←t5e3,←t5e2,←t5e1,←t5e0]
        simp only [HQ.out.a,HQ.out.d,HQ.out.b,show (⟨#[122,32,43,32]⟩:ByteArray)=bts (encs [122,32,43,32]) from rfl,show (⟨#[42,120,32,61,32,43]⟩:ByteArray)=bts (encs [42,120,32,61,32,43]) from rfl,show (⟨#[32,43,32]⟩:ByteArray)=bts (encs [32,43,32]) from rfl,show (⟨#[42,121]⟩:ByteArray)=bts (encs [42,121]) from rfl,acf,←aa1]
        simp [cs6,dcs]
       clear t5e0 t5e1 t5e2 t5e3 t5e4 t5e5 t5z0 t5z1 t5z2 t5z3 t5z4 t5z5
       have HX:Hid (∀ k<6,∃ t:ByteArray,(∀ h:k<([.string t0h4,.string t1h5,.string t2h5,.string t3h5,.string t4h11,.string t5h5]:List Value).length,([.string t0h4,.string t1h5,.string t2h5,.string t3h5,.string t4h11,.string t5h5]:List Value)[k]=.string t)∧∀ (W:World) (v:Value),Tabs W→Strs W v vxyz→Calls Tryz.prog 10 #[.string t,v] W fun r w'=>Below W.heap.size W w'∧∃ x,r=.returned (.tuple #[x,.int .i64 0,.agg #[.int .i64 0,.int .i64 0,.int .i64 0,.int .i64 0]])∧ORow W.heap.size w' x (canonZ (base4 z0 z1 z3)) 80):=by
        refine (show ∀ k<6,_ from ?_)
        intro k hk
        match k,hk with
        | 0,_=>exact ⟨t0h4,fun _=>rfl,fun W v h1 h2=>by rw [t0t];exact HQ.out.k.t1 h1 h2⟩
        | 1,_=>exact ⟨t1h5,fun _=>rfl,fun W v h1 h2=>by rw [t1t];exact HQ.out.k.t2 h1 h2⟩
        | 2,_=>exact ⟨t2h5,fun _=>rfl,fun W v h1 h2=>by rw [t2t];exact HQ.out.k.t3 h1 h2⟩
        | 3,_=>exact ⟨t3h5,fun _=>rfl,fun W v h1 h2=>by rw [t3t];exact HQ.out.k.t4 h1 h2⟩
        | 4,_=>exact ⟨t4h11,fun _=>rfl,fun W v h1 h2=>by rw [t4t];exact HQ.out.k.t5 h1 h2⟩
        | 5,_=>exact ⟨t5h5,fun _=>rfl,fun W v h1 h2=>by rw [t5t];exact HQ.out.k.t6 h1 h2⟩
       clear t0t t1t t2t t3t t4t t5t HQ za zb zd zm zo zp zc
       go_wp2_with fail
       go_loopw [17,18,19,20,21] (fun iv _ _ _ _ wr=>∃ (k:Nat),iv=.int .i64 k∧k≤6∧Below w14.heap.size w14 wr) (fun iv _ _ _ _ _=>6 - (intOf iv).toNat)
       case atStart=>exact ⟨0,rfl,Nat.zero_le _,Below.refl _ _⟩
       case round =>
        obtain ⟨k,rfl,hk,hbw⟩:=hrel
        have HW:=hide hbw
        by_cases hlt:k<6
        ·have hlt' : (k:Int)<6:=by omega
         obtain ⟨tk,htk,hEq⟩:=HX.out k hlt
         have HEQ:=hide hEq
         clear hEq
         go_upto_region 25 with fail
         have hbq:=hAl wr (.cells #[.string t0h4,.string t1h5,.string t2h5,.string t3h5,.string t4h11,.string t5h5] 9)
         generalize wr.alloc (.cells #[.string t0h4,.string t1h5,.string t2h5,.string t3h5,.string t4h11,.string t5h5] 9)=wq at *
         have hbq2:=hbw.trans (hbq.mono hbw.size)
         have KE:=hide (HEQ.out wq _ (HTB.out.below (HB14.out.trans (hbq2.mono HB14.out.size))) (HV14.out.below hbq2))
         have HBQ:=hide hbq2
         clear hbq hbq2 hbw HW htk t0c0 t0c1 t0c2 t0c3 t0c4 t1c0 t1c1 t1c2 t1c3 t1c4 t1c5 t2c0 t2c1 t2c2 t2c3 t2c4 t2c5 t3c0 t3c1 t3c2 t3c3 t3c4 t3c5 t4c0 t4c1 t4c2 t4c3 t4c4 t4c5 t4c6 t4c7 t4c8 t4c9 t4c10 t4c11 t5c0 t5c1 t5c2 t5c3 t5c4 t5c5 HEQ
         go_wp2_with fail
         refine KE.out.mono ?_
         rintro e wp ⟨hbp,x15,rfl,ho15⟩
         obtain ⟨ao15,cap15,rfl,_⟩:=ho15.is.parts
         have hbp2:=HBQ.out.trans (hbp.mono HBQ.out.size)
         have HO15:=hide ho15.can
         clear hbp KE ho15 HBQ
         go_upto_region 26 with fail
         have hbz:=hAl wp (.cells #[.int .i64 0,.int .i64 0,.int .i64 0,.int .i64 0] 32)
         generalize wp.alloc (.cells #[.int .i64 0,.int .i64 0,.int .i64 0,.int .i64 0] 32)=wz at *
         have hbz2:=hbp2.trans (hbz.mono hbp2.size)
         have KS:=hide (agy wz _ _ _ 80 80 (HO14.out.below hbz2) (HO15.out.below hbz))
         have HBZ:=hide hbz2
         clear hbz hbp2 hbz2 HO15
         go_wp2_with fail
         refine KS.out.mono ?_
         rintro e ws ⟨rfl,hbs⟩
         have HBS:=hide (HBZ.out.trans (hbs.mono HBZ.out.size))
         clear hbs KS HBZ
         go_wp2
         go_roundw
         case rel=>exact ⟨k+1,by go_num,by omega,HBS.out⟩
         case measure=>simp [intOf];omega
        ·have hlt' : decide ((k:Int)<6)=false:=by simp;omega
         have HF:=hide (HB14.out.trans (hbw.mono HB14.out.size))
         clear hbw
         go_wp2
         refine bodyPost_ret (v:=_) (by simp [results,Tryz.results4,go_sem];try rfl) rfl ⟨rfl,HF.out⟩
   ·have HB3:=hide (HB2.out.trans (hb3.mono HB2.out.size))
    clear hb3
    go_wp2
    refine bodyPost_ret (v:=_) (by simp [results,Tryz.results4,go_sem];try rfl) rfl ⟨rfl,HB3.out⟩
  ·have h4' : ((mx:Int) != 4)=true:=by simp;omega
   go_wp2
   refine bodyPost_ret (v:=_) (by simp [results,Tryz.results4,go_sem];try rfl) rfl ⟨rfl,HB2.out⟩
end Lm
end Go.Proofs.YtdjgifcmhafppaaGreatDoor
