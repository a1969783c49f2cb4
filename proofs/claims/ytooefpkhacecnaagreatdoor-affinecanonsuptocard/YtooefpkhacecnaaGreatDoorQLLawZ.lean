/-
  The given statement on AffineCanons, for every input of bulk at most 1048576: the call answers true, and each argument reads behind it as it read before; and its card. Its condition: the two tables of unicode/utf8 are laid as the row lists them; the card ties that to the program's text. Beside it: The reader of equations: an equation. What the tokens of a text are like. The program's Equation. Texts of whole numbers: whole.Text, the document's Text. A whole number's text, read again. No walk is here. A term as a text: any factor, any name. The text of any row: the program's Print. The text of one row: what every program answers that is one. What every program answers that is one: package affine. What every program answers that is one: package affine, the walk. Canon, the program's and the document's, of any row of fractions: both answer one row and one error. AffineCanons, the walk. AffineCanons, the walk. A row of fractions that is handed in: what it reads as.
-/
import Derived.Test.YtooefpkhacecnaaGreatDoorRows
import Derived.Test.YtooefpkhacecnaaGreatDoorCards
import Derived.Test.YtooefpkhacecnaaGreatDoorTie
import Derived.ProofKit
import Derived.OpenShut
import Derived.ShutString
import Derived.ChangeOld
import Derived.SizedLaws
import Derived.Lib.SmallJoins
import Derived.Lib.LaidU8
import Derived.Lib.LaidIn
import Derived.Deep.DeepHandedRow
import Derived.SliceStrings
import Derived.JoinedCond
import Derived.Test.YtooefpkhacecnaaGreatDoorQLLawZ5
set_option maxRecDepth 20000
set_option maxHeartbeats 40000000
namespace Go.Proofs.YtooefpkhacecnaaGreatDoor
namespace Lm
open Go Go.RowKit
inductive EqR (l:List Tk) (vs:List ByteArray) (L:Nat) (i:Nat) (rs:List Rat):Bool->Nat->List Rat->Prop
 |bad1 (k:Nat) (rs1:List Rat) (h:SideR l vs L false i rs false k rs1):EqR l vs L i rs false k rs1
 |bad2 (k:Nat) (rs1:List Rat) (t:Tk) (h:SideR l vs L false i rs true k rs1) (ht:l[k]? = some t) (hs:tsg t sEq=false):EqR l vs L i rs false k rs1
 |bad3 (k:Nat) (rs1:List Rat) (t:Tk) (h:SideR l vs L false i rs true k rs1) (ht:l[k]? = some t) (hs:tsg t sEq=true) (k2:Nat) (rs2:List Rat) (h2:SideR l vs L true (k+1) rs1 false k2 rs2):EqR l vs L i rs false k2 rs2
 |bad4 (k:Nat) (rs1:List Rat) (t:Tk) (h:SideR l vs L false i rs true k rs1) (ht:l[k]? = some t) (hs:tsg t sEq=true) (k2:Nat) (rs2:List Rat) (h2:SideR l vs L true (k+1) rs1 true k2 rs2) (t2:Tk) (ht2:l[k2]? = some t2) (hk:t2.kind≠0):EqR l vs L i rs false k2 rs2
 |good (k:Nat) (rs1:List Rat) (t:Tk) (h:SideR l vs L false i rs true k rs1) (ht:l[k]? = some t) (hs:tsg t sEq=true) (k2:Nat) (rs2:List Rat) (h2:SideR l vs L true (k+1) rs1 true k2 rs2) (t2:Tk) (ht2:l[k2]? = some t2) (hk:t2.kind=0):EqR l vs L i rs true k2 rs2
theorem ale(w:World)(q b g:Nat)(tv uv:Value)(l:List Tk)(vs:List ByteArray)(L:Nat)(E:Env w q b g tv uv l vs L)(ok:Bool)(rs rs':List Rat)(i k:Nat)(he:EqR l vs L i rs ok k rs')(av:Value)(hA:AddV q b g w av false)(hR:RQ w g b rs L)(h:Rea w q b tv uv l vs i):
  Calls Tryz.prog 62 #[.pointer (some ⟨q,0,none⟩),av] w fun e w'=>e=.returned (.bool ok)/\Rea w' q b tv uv l vs k/\Rc q b w w'/\RQ w' g b rs' L:=by
 have HE:=hide E;have HA:=hide hA;have HR:=hide hR;have H:=hide h;clear E hA hR h;cases he with
 |bad1 _ _ hs1=>
  have HS1:=hide hs1;clear hs1;go_enter Tryz.func62,Tryz.ntmps62
  go_wp2_with fail
  refine(acn w q b g tv uv l vs L HE.out false false rs rs' i k HS1.out av HA.out HR.out H.out).mono ?_;rintro e w1 ⟨rfl,r1,r2,r3⟩;have R1:=hide r1;have C1:=hide r2;have Q1:=hide r3;clear r1 r2 r3;go_wp2;refine bodyPost_ret (v:=_) (by simp[results,Tryz.results62,go_sem];try rfl) rfl ⟨rfl,R1.out,C1.out,Q1.out⟩
 |bad2 _ _ t hs1 ht hsg=>
  have HT:=hide ht;have HSG:=hide hsg;clear ht hsg;have HS1:=hide hs1;clear hs1;go_enter Tryz.func62,Tryz.ntmps62
  go_wp2_with fail
  refine(acn w q b g tv uv l vs L HE.out false true rs rs' i k HS1.out av HA.out HR.out H.out).mono ?_;rintro e w1 ⟨rfl,r1,r2,r3⟩;have R1:=hide r1;have C1:=hide r2;have Q1:=hide r3;clear r1 r2 r3;have K:=abv w1 q b tv uv l vs k t R1.out HT.out sEq (fun h3=>HE.out.wf.more HT.out (by rw[h3];decide)) HE.out.wf.len;rw[HSG.out]at K;unfold sEq at K;have K:=hide K;go_wp2_with fail
  refine K.out.mono ?_;rintro e w2 ⟨rfl,s1,s2⟩;have R2:=hide s1;have C2:=hide (C1.out.trans s2.wide);have Q2:=hide (Q1.out.rc s2 HE.out.gq (fun e=>HE.out.qb e.symm));clear s1 s2 K;go_wp2;refine bodyPost_ret (v:=_) (by simp[results,Tryz.results62,go_sem];try rfl) rfl ⟨rfl,R2.out,C2.out,Q2.out⟩
 |bad3 k1 rs1 t hs1 ht hsg _ _ hs2=>
  have HT:=hide ht;have HSG:=hide hsg;clear ht hsg;have HS2:=hide hs2;clear hs2;have HS1:=hide hs1;clear hs1;go_enter Tryz.func62,Tryz.ntmps62
  go_wp2_with fail
  refine(acn w q b g tv uv l vs L HE.out false true rs rs1 i k1 HS1.out av HA.out HR.out H.out).mono ?_;rintro e w1 ⟨rfl,r1,r2,r3⟩;have R1:=hide r1;have C1:=hide r2;have Q1:=hide r3;clear r1 r2 r3;have K:=abv w1 q b tv uv l vs k1 t R1.out HT.out sEq (fun h3=>HE.out.wf.more HT.out (by rw[h3];decide)) HE.out.wf.len;rw[HSG.out]at K;unfold sEq at K;have K:=hide K;go_wp2_with fail
  refine K.out.mono ?_;rintro e w2 ⟨rfl,s1,s2⟩;have R2:=hide s1;have C2:=hide (C1.out.trans s2.wide);have Q2:=hide (Q1.out.rc s2 HE.out.gq (fun e=>HE.out.qb e.symm));clear s1 s2 K;rw[if_pos trivial]at R2;have HE2:=hide (HE.out.rc H.out HR.out C2.out);go_wp2_with fail
  refine(ac6 w2 av q b g false (HA.out.rc C2.out) (aaa R2.out.blk) (aaa Q2.out.row.choose_spec.2.1)).mono ?_;rintro e w3 ⟨u3,rfl,ha3,hb3⟩;have HA3:=hide ha3;have R3:=hide (R2.out.below hb3);have C3:=hide (C2.out.trans (.of_below hb3));have Q3:=hide (Q2.out.below hb3);have HE3:=hide (HE2.out.rc R2.out Q2.out (.of_below hb3));clear ha3 hb3;go_wp2_with fail
  refine(acn w3 q b g tv uv l vs L HE3.out true false rs1 rs' (k1+1) k HS2.out u3 HA3.out Q3.out R3.out).mono ?_;rintro e w4 ⟨rfl,r1,r2,r3⟩;have R4:=hide r1;have C4:=hide (C3.out.trans r2);have QE4:=hide r3;clear r1 r2 r3;go_wp2;refine bodyPost_ret (v:=_) (by simp[results,Tryz.results62,go_sem];try rfl) rfl ⟨rfl,R4.out,C4.out,QE4.out⟩
 |bad4 k1 rs1 t hs1 ht hsg _ _ hs2 t2 ht2 hk=>
  have HT:=hide ht;have HSG:=hide hsg;clear ht hsg;have HS2:=hide hs2;have HT2:=hide ht2;have HK:=hide hk;clear hs2 ht2 hk;have HS1:=hide hs1;clear hs1;go_enter Tryz.func62,Tryz.ntmps62
  go_wp2_with fail
  refine(acn w q b g tv uv l vs L HE.out false true rs rs1 i k1 HS1.out av HA.out HR.out H.out).mono ?_;rintro e w1 ⟨rfl,r1,r2,r3⟩;have R1:=hide r1;have C1:=hide r2;have Q1:=hide r3;clear r1 r2 r3;have K:=abv w1 q b tv uv l vs k1 t R1.out HT.out sEq (fun h3=>HE.out.wf.more HT.out (by rw[h3];decide)) HE.out.wf.len;rw[HSG.out]at K;unfold sEq at K;have K:=hide K;go_wp2_with fail
  refine K.out.mono ?_;rintro e w2 ⟨rfl,s1,s2⟩;have R2:=hide s1;have C2:=hide (C1.out.trans s2.wide);have Q2:=hide (Q1.out.rc s2 HE.out.gq (fun e=>HE.out.qb e.symm));clear s1 s2 K;rw[if_pos trivial]at R2;have HE2:=hide (HE.out.rc H.out HR.out C2.out);go_wp2_with fail
  refine(ac6 w2 av q b g false (HA.out.rc C2.out) (aaa R2.out.blk) (aaa Q2.out.row.choose_spec.2.1)).mono ?_;rintro e w3 ⟨u3,rfl,ha3,hb3⟩;have HA3:=hide ha3;have R3:=hide (R2.out.below hb3);have C3:=hide (C2.out.trans (.of_below hb3));have Q3:=hide (Q2.out.below hb3);have HE3:=hide (HE2.out.rc R2.out Q2.out (.of_below hb3));clear ha3 hb3;go_wp2_with fail
  refine(acn w3 q b g tv uv l vs L HE3.out true true rs1 rs' (k1+1) k HS2.out u3 HA3.out Q3.out R3.out).mono ?_;rintro e w4 ⟨rfl,r1,r2,r3⟩;have R4:=hide r1;have C4:=hide (C3.out.trans r2);have QE4:=hide r3;clear r1 r2 r3;have hf0:∀W,(Instr.field 109 (.agg #[.int .i64 t2.kind,.string t2.text,.int .i64 t2.pl.b,.int .i64 t2.pl.g,.int .i64 t2.pl.l,.int .i64 t2.pl.c]) 0).run Tryz.prog W=.ok (.int .i64 t2.kind) W:=fun W=>ad0 _ _ _ _ _ _ W
  go_wp2_with fail
  refine(abf w4 q b tv uv l vs k t2 R4.out HT2.out).mono ?_;rintro e w5 ⟨rfl,hb5⟩;have R5:=hide (R4.out.below hb5);have C5:=hide (C4.out.trans (.of_below hb5));have Q5:=hide (QE4.out.below hb5);unfold Tk.av;clear hb5;have hk0:(t2.kind==0)=false:=beq_eq_false_iff_ne.2 HK.out;go_wp2;refine bodyPost_ret (v:=_) (by simp[results,Tryz.results62,go_sem];try rfl) rfl ⟨rfl,R5.out,C5.out,Q5.out⟩
 |good k1 rs1 t hs1 ht hsg _ _ hs2 t2 ht2 hk=>
  have HT:=hide ht;have HSG:=hide hsg;clear ht hsg;have HS2:=hide hs2;have HT2:=hide ht2;have HK:=hide hk;clear hs2 ht2 hk;have HS1:=hide hs1;clear hs1;go_enter Tryz.func62,Tryz.ntmps62
  go_wp2_with fail
  refine(acn w q b g tv uv l vs L HE.out false true rs rs1 i k1 HS1.out av HA.out HR.out H.out).mono ?_;rintro e w1 ⟨rfl,r1,r2,r3⟩;have R1:=hide r1;have C1:=hide r2;have Q1:=hide r3;clear r1 r2 r3;have K:=abv w1 q b tv uv l vs k1 t R1.out HT.out sEq (fun h3=>HE.out.wf.more HT.out (by rw[h3];decide)) HE.out.wf.len;rw[HSG.out]at K;unfold sEq at K;have K:=hide K;go_wp2_with fail
  refine K.out.mono ?_;rintro e w2 ⟨rfl,s1,s2⟩;have R2:=hide s1;have C2:=hide (C1.out.trans s2.wide);have Q2:=hide (Q1.out.rc s2 HE.out.gq (fun e=>HE.out.qb e.symm));clear s1 s2 K;rw[if_pos trivial]at R2;have HE2:=hide (HE.out.rc H.out HR.out C2.out);go_wp2_with fail
  refine(ac6 w2 av q b g false (HA.out.rc C2.out) (aaa R2.out.blk) (aaa Q2.out.row.choose_spec.2.1)).mono ?_;rintro e w3 ⟨u3,rfl,ha3,hb3⟩;have HA3:=hide ha3;have R3:=hide (R2.out.below hb3);have C3:=hide (C2.out.trans (.of_below hb3));have Q3:=hide (Q2.out.below hb3);have HE3:=hide (HE2.out.rc R2.out Q2.out (.of_below hb3));clear ha3 hb3;go_wp2_with fail
  refine(acn w3 q b g tv uv l vs L HE3.out true true rs1 rs' (k1+1) k HS2.out u3 HA3.out Q3.out R3.out).mono ?_;rintro e w4 ⟨rfl,r1,r2,r3⟩;have R4:=hide r1;have C4:=hide (C3.out.trans r2);have QE4:=hide r3;clear r1 r2 r3;have hf0:∀W,(Instr.field 109 (.agg #[.int .i64 t2.kind,.string t2.text,.int .i64 t2.pl.b,.int .i64 t2.pl.g,.int .i64 t2.pl.l,.int .i64 t2.pl.c]) 0).run Tryz.prog W=.ok (.int .i64 t2.kind) W:=fun W=>ad0 _ _ _ _ _ _ W
  go_wp2_with fail
  refine(abf w4 q b tv uv l vs k t2 R4.out HT2.out).mono ?_;rintro e w5 ⟨rfl,hb5⟩;have R5:=hide (R4.out.below hb5);have C5:=hide (C4.out.trans (.of_below hb5));have Q5:=hide (QE4.out.below hb5);unfold Tk.av;clear hb5;have hk0:(t2.kind==0)=true:=beq_iff_eq.2 HK.out;go_wp2;refine bodyPost_ret (v:=_) (by simp[results,Tryz.results62,go_sem];try rfl) rfl ⟨rfl,R5.out,C5.out,Q5.out⟩
theorem am7(p:Gl->Bool)(l:List Gl):(l.dropWhile p).length<=l.length:=by
 induction l with
 |nil=>simp
 |cons x l ih=>
  simp only[List.dropWhile_cons];split
  ·simp only[List.length_cons];omega
  ·exact Nat.le_refl _
theorem au0{s:ByteArray}{e:Pl}{g:Gl}{r:List Gl}{k:Int}{x:ByteArray}{t:List Gl}(h:TokR s e g r (.ok k x t)):t.length<=r.length/\k≠0:=by
 unfold TokR at h;split at h
 ·next h2=>
  split at h
  ·cases h
  ·injection h with h1 h3 h4;subst h1 h4;refine⟨?_,by decide⟩;rw[List.dropWhile_cons,if_pos (by simp[inC,h2])];exact am7 _ _
 ·split at h
  ·next h2=>
   obtain⟨n,ds,_,_,h⟩:=h;split at h
   ·cases h
   ·injection h with h1 h3 h4;subst h1 h4;refine⟨?_,by decide⟩;rw[List.dropWhile_cons,if_pos (by simp[inC,h2])];exact am7 _ _
  ·split at h
   ·unfold signS at h;split at h
    ·injection h with h1 h3 h4;subst h1 h4;exact⟨Nat.le_refl _,by decide⟩
    ·split at h
     ·injection h with h1 h3 h4;subst h1 h4;exact⟨Nat.le_refl _,by decide⟩
     ·split at h
      ·cases r with
       |nil=>cases h
       |cons y r=>
        simp only at h;split at h
        ·injection h with h1 h3 h4;subst h1 h4;exact⟨by simp,by decide⟩
        ·cases h
      ·injection h with h1 h3 h4;subst h1 h4;exact⟨Nat.le_refl _,by decide⟩
   ·cases h
theorem axw{s:ByteArray}{e:Pl}{r:List Gl}{o:SO}(h:ScanR s e r o):∀l,o=.ok l->l.length<=r.length+1/\0<l.length/\∀(i:Nat) (t:Tk),l[i]? = some t->i+1=l.length->t.kind=0/\t.text=⟨#[]⟩:=by
 induction h with
 |done r h hb=>
  intro l hl;injection hl with hl;subst hl;refine⟨by simp,by simp,fun i t ht hi=>?_⟩;have:i=0:=by simpa using hi
  subst this;simp at ht;subst ht;exact⟨rfl,rfl⟩
 |rune r h hb=>intro l hl;cases hl
 |bad r g t k h ht=>intro l hl;cases hl
 |tok r g t kind text rest o h ht hr ih=>
  intro l hl;cases o with
  |bad k p=>cases hl
  |ok l'=>
   injection hl with hl;subst hl;obtain⟨i1,i0,i2⟩:=ih l' rfl;have h1:=(au0 ht).1;obtain⟨j,hj,hd⟩:=axn false r;have h2:t.length+1<=r.length:=by
    have:(g::t).length=r.length-j:=by rw[<-h,hd,List.length_drop]
    simp at this;omega
   refine⟨by simp only[List.length_cons];omega,by simp,fun i u hu hi=>?_⟩;cases i with
   |zero=>simp only[List.length_cons]at hi;omega
   |succ i=>exact i2 i u (by simpa using hu) (by simp only[List.length_cons]at hi;omega)
theorem arx{s:ByteArray}{e:Pl}{gs:List Gl}{l:List Tk}(hs:s.size<=4096)(hQ:Snd s pl0 gs e)(hR:ScanR s e gs (.ok l)):Wf l/\0<l.length:=by
 obtain⟨h1,h0,h2⟩:=axw hR l rfl;have h3:=hQ.ends aex (Nat.zero_le _);have:pl0.b=0:=rfl;exact⟨⟨by omega,h2⟩,h0⟩
theorem apo{fn:Func}{a:Act}{w:World}{k k' m g:Nat}{v v' x0 x1 x2 x3:Value}(hr:fn.results = #[.tmp k,.tmp k',.cell m 56])(h1:a.eval (.tmp k)=v)(h2:a.eval (.tmp k')=v')(h3:a.eval (.tmp m)=.pointer (some ⟨g,0,none⟩))(hh:w.heap[g]? = some (.cells #[x0,x1,x2,x3] 56 (0,0))):(results fn a.tmps).run Tryz.prog w=.ok (.tuple #[v,v',.agg #[x0,x1,x2,x3]]) w:=by
 have e1:a.tmps[k]?.getD undef=v:=by simpa[Act.eval]using h1
 have e2:a.tmps[k']?.getD undef=v':=by simpa[Act.eval]using h2
 have e3:a.tmps[m]?.getD undef=.pointer (some ⟨g,0,none⟩):=by simpa[Act.eval]using h3
 have c0:w.cell? ⟨g,0,none⟩=some x0:=by rw[cell_of_row _ _ _ _ _ (0,0) hh];rfl
 have c1:w.cell? ⟨g,1,none⟩=some x1:=by rw[cell_of_row _ _ _ _ _ (0,0) hh];rfl
 have c2:w.cell? ⟨g,2,none⟩=some x2:=by rw[cell_of_row _ _ _ _ _ (0,0) hh];rfl
 have c3:w.cell? ⟨g,3,none⟩=some x3:=by rw[cell_of_row _ _ _ _ _ (0,0) hh];rfl
 simp[results,hr,e1,e2,e3,go_sem,c0,c1,c2,c3,asAddr]
theorem au1{W:World}{f:Nat}{x y z t:Value}{T:TypeId}(h:W.heap[f]? = some (.cells #[x,y,z,t] T (0,0)))(a b c d:Value):((((W.setCell ⟨f,0,none⟩ a).setCell ⟨f,1,none⟩ b).setCell ⟨f,2,none⟩ c).setCell ⟨f,3,none⟩ d).heap[f]? = some (.cells #[a,b,c,d] T (0,0)):=by
 have s1:=heap_setCell_same W f 0 _ _ a h;have s2:=heap_setCell_same _ f 1 _ _ b s1;have s3:=heap_setCell_same _ f 2 _ _ c s2;have s4:=heap_setCell_same _ f 3 _ _ d s3;rw[s4];simp
theorem a28{W:World}{f:Nat}{x y z t:Int}(h:W.heap[f]? = some (.cells #[.int .i64 x,.int .i64 y,.int .i64 z,.int .i64 t] 56 (0,0)))(a b c d:Value):Ru W ((((W.setCell ⟨f,0,none⟩ a).setCell ⟨f,1,none⟩ b).setCell ⟨f,2,none⟩ c).setCell ⟨f,3,none⟩ d):=by
 refine Ru.of_one h (by decide) ?_ (by simp[World.setCell]) (fun k _ hn=>by rw[heap_setCell_other _ ⟨f,3,none⟩ k _ hn,heap_setCell_other _ ⟨f,2,none⟩ k _ hn,heap_setCell_other _ ⟨f,1,none⟩ k _ hn,heap_setCell_other _ ⟨f,0,none⟩ k _ hn]);intro i z
 match i with
 |0=>simp
 |1=>simp
 |2=>simp
 |3=>simp
 |i+4=>simp
theorem ajj{W:World}{f:Nat}{x y z t:Value}{T:TypeId}(h:W.heap[f]? = some (.cells #[x,y,z,t] T (0,0))):f<W.heap.size/\W.cell? ⟨f,0,none⟩=some x/\W.cell? ⟨f,1,none⟩=some y/\W.cell? ⟨f,2,none⟩=some z/\W.cell? ⟨f,3,none⟩=some t/\W.frozen? ⟨f,0,none⟩=false/\W.frozen? ⟨f,1,none⟩=false/\W.frozen? ⟨f,2,none⟩=false/\W.frozen? ⟨f,3,none⟩=false:=⟨aaa h,by rw[cell_of_row _ _ _ _ _ (0,0) h];rfl,by rw[cell_of_row _ _ _ _ _ (0,0) h];rfl,by rw[cell_of_row _ _ _ _ _ (0,0) h];rfl,by rw[cell_of_row _ _ _ _ _ (0,0) h];rfl,frozen_of_row _ _ _ _ _ h,frozen_of_row _ _ _ _ _ h,frozen_of_row _ _ _ _ _ h,frozen_of_row _ _ _ _ _ h⟩
theorem axx{w:World}{g b n:Nat}{L:Nat}(hg:w.heap[g]? = some (.cells #[.slice (some ⟨b,0,none⟩) n n] 34 (0,0)))(hb:w.heap[b]? = some (.cells (rf3 (List.replicate n ⟨false,none,0,0,none,0,0⟩)).toArray 62 (0,0)))(hne:g≠b):RQ w g b (List.replicate n 0) L:=by
 refine⟨by simpa using hg,⟨_,by simp,hb,fun i e r he hr=>?_⟩,hne⟩;obtain rfl:=List.eq_of_mem_replicate (List.mem_of_getElem? he);obtain rfl:=List.eq_of_mem_replicate (List.mem_of_getElem? hr);exact⟨0,0,⟨_,_,_,_,[],_,_,_,[],rfl,⟨ace w,rfl⟩,ace w,rfl,by simp,by simp⟩,Rat.divInt_zero 0⟩
theorem alf(w:World)(hT:Tabs w)(s:ByteArray)(hs:s.size<=4096)(v:Value)(vs:List ByteArray)(hv:Strs w v vs)(hN:NmsOk vs)(gs:List Gl)(e:Pl)(l:List Tk)(hQ:Snd s pl0 gs e)(hR:ScanR s e gs (.ok l))(L M:Nat)(hL:L<=10000)(hL1:1<=L)(hM:M<=100000)(k:Nat)(rs:List Rat)(hE:EqR l vs L 0 (List.replicate (vs.length+1) 0) true k rs)(hrl:rs.length=vs.length+1)(hC:∀k,k<=rs.length->((comR (rs.take k)).natAbs:Int)<pw M)(hD:∀z∈clr rs,(z.natAbs:Int)<pw M)(hnov:(⟨#[]⟩:ByteArray)∉vs):
  Calls Tryz.prog 30 #[.string s,v] w fun r w'=>Below w.heap.size w w'/\(((∀z∈canonZ rs,(z.natAbs:Int)<pw 32)/\∃x,r=.returned (.tuple #[x,.int .i64 0,.agg #[.int .i64 0,.int .i64 0,.int .i64 0,.int .i64 0]])/\ORow w.heap.size w' x (canonZ rs) M)\/((∃z∈canonZ rs,¬(z.natAbs:Int)<pw 32)/\r=.returned (.tuple #[.slice none 0 0,.int .i64 2,.agg #[.int .i64 0,.int .i64 0,.int .i64 0,.int .i64 0]]))):=by
 obtain⟨av,cv,rfl,_⟩:=id hv;have hvl:vs.length<=16:=hN.1;have hb0:Below w.heap.size w (w.alloc (.cells #[.int .i64 0,.int .i64 0,.int .i64 0,.int .i64 0] 56)):=hAl _ _;have K:=ak0 _ (hT.below hb0) _ vs (hv.below hb0);rw[show nmsE vs=0 from if_pos hN]at K;have K:=hide K;have HT:=hide hT;have HV:=hide hv;have HQ:=hide hQ;have HR:=hide hR;have HE:=hide hE;have HC:=hide (And.intro hC hD);have HRL:=hide hrl;obtain⟨hWf,hl0⟩:=arx hs hQ hR;have HWf:=hide hWf;have HNV:=hide hnov;obtain⟨iR,hi,hz0,hz1,hz2⟩:=info_parts infoRz;clear hT hv hQ hR hE hC hD hrl hWf hnov hN;go_enter Tryz.func30,Tryz.ntmps30
 go_wp2_with fail
 refine K.out.mono ?_;rintro r w1 ⟨rfl,hb1⟩;have hb1':=hb0.trans (hb1.mono hb0.size);have hf6:w1.heap[w.heap.size]? = some (.cells #[.int .i64 0,.int .i64 0,.int .i64 0,.int .i64 0] 56 (0,0)):=(hb1.block _ (by simp)).trans (heap_alloc_new w _);clear K hb0 hb1;go_wp2_with fail
 refine(aje w1 s (HT.out.below hb1') hs).mono ?_;rintro r w2 ⟨hb2,gs',e',o,s1,s2,s3⟩;obtain⟨rfl,rfl⟩:=s1.one HQ.out;obtain rfl:=s2.one HR.out;obtain⟨tv,rfl,hown⟩:=s3;have hts:Ts w2 tv l:=Ts.own hown;have hb2':=hb1'.trans (hb2.mono hb1'.size);have hf62:=(hb2.block _ (aaa hf6)).trans hf6;have hbA:=hAl w2 (.cells #[.int .i64 0,.int .i64 0,.int .i64 0,.int .i64 0] 56);have hb3:=hb2'.trans (hbA.mono hb2'.size);obtain⟨at_,ct,rfl,_⟩:=hts.parts;have HTS:=hide (hts.below hbA);have HF6:=hide (aa2 (o':=.cells #[.int .i64 0,.int .i64 0,.int .i64 0,.int .i64 0] 56) hf62);have HB3:=hide hb3;have hlt2:w.heap.size<w2.heap.size:=aaa hf62;have hT2:w2.ownsRow w1.heap.size 109 6 (.slice at_ l.length ct) l.length (tflat l):=hown;have HOWN:=hide hT2;unfold Pl.v plz;clear hb1' hb2 hb2' hf6 hf62 s1 s2 hown hts hT2;go_wp2_with (refine wpList_make_full _ rfl (.tmp 36) (.tmp 36) 34 rfl w.heap.size 62 iR (.agg #[.bool false,.slice none 0 0,.slice none 0 0]) 3 Tryz.underlying34 hi hz0 hz1 .i64 .i64 _ _ (vs.length+1) rfl rfl (by omega) (by omega) (by rw[hz2];omega) (by unfold maxLen;omega) HB3.out.size ?hK)
 case hK=>
  intro w4 hown hgrow;have hb4:=(Below.refl _ _).grown hgrow (Nat.le_refl _) (by simp);obtain⟨_,hmb⟩:=ads hown;rw[ajf]at hmb;have hsz4:(w2.alloc (.cells #[.int .i64 0,.int .i64 0,.int .i64 0,.int .i64 0] 56)).heap.size=w2.heap.size+1:=by simp
  have hbl4:w2.heap.size+1<w4.heap.size:=aaa hmb;generalize hW5:w4.alloc (.cells #[.slice (some ⟨w2.heap.size+1,0,none⟩) (vs.length+1) (vs.length+1)] 34)=w5;have hb45:Below w4.heap.size w4 w5:=by rw[<-hW5];exact hAl _ _
  have hg5:w5.heap[w4.heap.size]? = some (.cells #[.slice (some ⟨w2.heap.size+1,0,none⟩) (vs.length+1) (vs.length+1)] 34 (0,0)):=by rw[<-hW5];exact heap_alloc_new _ _
  have hs5:w5.heap.size=w4.heap.size+1:=by rw[<-hW5];simp
  generalize hW6:w5.alloc (.cells #[.slice at_ l.length ct,.int .i64 0,.slice av vs.length cv] 104)=w6;have hb56:Below w5.heap.size w5 w6:=by rw[<-hW6];exact hAl _ _
  have hq6:w6.heap[w4.heap.size+1]? = some (.cells #[.slice at_ l.length ct,.int .i64 ((0:Nat):Int),.slice av vs.length cv] 104 (0,0)):=by rw[<-hW6,<-hs5];exact heap_alloc_new _ _
  have hb46:=hb45.trans (hb56.mono hb45.size);have hb36:=hb4.trans (hb46.mono hb4.size);have hb06:Below w.heap.size w w6:=HB3.out.trans (hb36.mono HB3.out.size);have hRQ:RQ w6 w4.heap.size (w2.heap.size+1) (List.replicate (vs.length+1) 0) L:=by
   refine axx ((hb56.block _ (aaa hg5)).trans hg5) ((hb46.block _ (aaa hmb)).trans hmb) (by omega)
  have hsw:w.heap.size<=w2.heap.size+1:=by have:=HB3.out.size;omega
  have hRE:Rea w6 (w4.heap.size+1) (w2.heap.size+1) (.slice at_ l.length ct) (.slice av vs.length cv) l vs 0:=by
   refine⟨hq6,HTS.out.below hb36,HV.out.below hb06,hl0,?_,?_⟩
   ·rintro _ b' off n c hv';have hts2:Ts w2 (.slice at_ l.length ct) l:=Ts.own HOWN.out;obtain⟨ao',cap',e1,_,_,_,e4⟩:=hts2;rcases e4 with e4|⟨b2,off2,e4,hl2,_⟩
    ·omega
    ·rw[e4]at e1;have e5:=hv'.symm.trans e1;simp only[Value.slice.injEq,Option.some.injEq,Addr.mk.injEq]at e5;omega
   ·rintro hp b' off n c hv';obtain⟨ao',cap',e1,_,_,_,e4⟩:=HV.out;rcases e4 with e4|⟨b2,off2,e4,hl2,_⟩
    ·omega
    ·rw[e4]at e1;have e5:=hv'.symm.trans e1;simp only[Value.slice.injEq,Option.some.injEq,Addr.mk.injEq]at e5;omega
  have hEnv:Env w6 (w4.heap.size+1) (w2.heap.size+1) w4.heap.size (.slice at_ l.length ct) (.slice av vs.length cv) l vs L:=⟨HT.out.below hb06,HWf.out,HNV.out,hL,hL1,by omega,by omega⟩;have KE:=hide (ale w6 _ _ _ _ _ l vs L hEnv true _ rs 0 k HE.out _ .base hRQ hRE);have HF66:=hide ((hb36.block _ (aaa HF6.out)).trans HF6.out);have HB06:=hide hb06;have hgl:w4.heap.size<w6.heap.size:=by have:=hb56.size;omega
  have HRQ:=hide hRQ;have HW5:=hide hW5;have HW6:=hide hW6;clear hW5 hW6 hRQ hRE hEnv hb36 hb06 hb46 hb45 hb56 hb4 hmb hown hgrow hg5 hq6;go_wp2_with fail
  rw[HW5.out,HW6.out];refine KE.out.mono ?_;rintro r w7 ⟨rfl,_,hrc,hrq⟩;have hb07:Below w.heap.size w w7:=HB06.out.trans (hrc.below HB06.out.size (by omega) hsw);have hf67:=(hrc.other _ (aaa HF66.out) (by omega) (by omega)).trans HF66.out;have hsl:=hrq.slot;have HIS:=hide (hrq.row_is (by rw[HRL.out];omega));rw[HRL.out]at hsl HIS;have sg0:w7.cell? ⟨w4.heap.size,0,none⟩=some (.slice (some ⟨w2.heap.size+1,0,none⟩) (vs.length+1) (vs.length+1)):=by rw[cell_of_row _ _ _ _ _ (0,0) hsl];rfl
  have HF67:=hide hf67;have HB07:=hide hb07;clear hrc hrq hb07 hf67 hsl KE;go_wp2_with fail
  refine(akw w7 _ rs L M HIS.out hL hL1 hM (by rw[HRL.out];omega) HC.out.1 HC.out.2 (by intro h;have:=HRL.out;rw[h]at this;simp at this)).mono ?_;rintro r w8 ⟨hb8,⟨hsm,x,rfl,hor⟩|⟨hbig,rfl⟩⟩
  ·have hf68:=(hb8.block _ (aaa HF67.out)).trans HF67.out;have HF68:=hide hf68;have HB8:=hide (HB07.out.trans (hb8.mono HB07.out.size));obtain⟨bv,rfl,hbv⟩:=id hor;have HOR:=hide hor;have HSM:=hide hsm;have h78:=HB07.out.size;obtain⟨hfl,c0,c1,c2,c3,f0,f1,f2,f3⟩:=ajj hf68;clear hb8 hf68 hor hsm sg0;go_wp2;refine bodyPost_ret (v:=.tuple #[.slice (some ⟨bv,0,none⟩) (canonZ rs).length (canonZ rs).length,.int .i64 0,.agg #[.int .i64 0,.int .i64 0,.int .i64 0,.int .i64 0]]) (apo (g:=w.heap.size) rfl rfl rfl rfl (au1 HF68.out _ _ _ _)) rfl ⟨?_,.inl ⟨HSM.out,_,rfl,?_⟩⟩
   ·exact(((HB8.out.setCell (Nat.le_refl _) _).setCell (Nat.le_refl _) _).setCell (Nat.le_refl _) _).setCell (Nat.le_refl _) _
   ·obtain⟨bv',e1,e2,e3,e4⟩:=HOR.out;have hbb:bv≠w.heap.size:=by have:=hbv.1;have:=aaa HF67.out;omega
    obtain rfl:bv'=bv:=by
     simp only[Value.slice.injEq,Option.some.injEq,Addr.mk.injEq]at e1;exact e1.1.1.symm
    refine⟨bv',rfl,by omega,(PRow.low e3 h78).ru (a28 HF68.out _ _ _ _) ?_,e4⟩;rw[heap_setCell_other _ ⟨w.heap.size,3,none⟩ _ _ hbb,heap_setCell_other _ ⟨w.heap.size,2,none⟩ _ _ hbb,heap_setCell_other _ ⟨w.heap.size,1,none⟩ _ _ hbb,heap_setCell_other _ ⟨w.heap.size,0,none⟩ _ _ hbb]
  ·have hf68:=(hb8.block _ (aaa HF67.out)).trans HF67.out;have HF68:=hide hf68;have HB8:=hide (HB07.out.trans (hb8.mono HB07.out.size));have HBG:=hide hbig;obtain⟨hfl,c0,c1,c2,c3,f0,f1,f2,f3⟩:=ajj hf68;clear hb8 hf68 hbig sg0;go_wp2;refine bodyPost_ret (v:=.tuple #[.slice none 0 0,.int .i64 2,.agg #[.int .i64 0,.int .i64 0,.int .i64 0,.int .i64 0]]) (apo (g:=w.heap.size) rfl rfl rfl rfl (au1 HF68.out _ _ _ _)) rfl ⟨?_,.inr ⟨HBG.out,rfl⟩⟩;exact(((HB8.out.setCell (Nat.le_refl _) _).setCell (Nat.le_refl _) _).setCell (Nat.le_refl _) _).setCell (Nat.le_refl _) _
noncomputable def dig(x:Int):List Int:=@Classical.epsilon (List Int) ⟨[]⟩ fun ds=>IsDec ds x
theorem ag3{ds:List Int}{x:Int}(h:IsDec ds x):ds=dig x:=aj8 h (@Classical.epsilon_spec (List Int) (fun ds=>IsDec ds x) ⟨ds,h⟩)
noncomputable def txt(z:Int):ByteArray:=if z<0 then strOfNums (45::dig (z.natAbs:Int))else strOfNums (dig (z.natAbs:Int))
theorem au2{b:Bool}{x z:Int}(hx:0<=x)(h:sg b x=z):x=(z.natAbs:Int):=by
 subst h;cases b <;> simp[sg] <;> omega
section
end
section
end
end Lm
namespace Lm
open Go Go.RowKit
open Dm (Err Fine)
theorem ag4{ds:List Int}(h:∀c∈ds,0<=c/\c<256):bytesOf (strOfNums ds)=ds:=by
 rw[bytesOf,strOfNums_data,List.map_map];conv=>rhs;rw[<-List.map_id ds]
 apply List.map_congr_left;intro c hc;have:=h c hc;simp only[Function.comp_apply,id];have e:(UInt8.ofNat c.toNat).toNat=c.toNat:=by
  simp;omega
 rw[e];omega
theorem a2e(n:Nat):∃ds,IsDec ds (n:Int):=by
 induction n using Nat.strongRecOn with
 |_ n ih=>
  by_cases h:n<10
  ·refine⟨[48+(n:Int)],ac2.2 ⟨by omega,adk⟩,by simp[dval,p10];omega,?_⟩;by_cases h0:n=0
   ·subst h0;exact .inl ⟨rfl,rfl⟩
   ·exact .inr ⟨_,_,rfl,by omega⟩
  ·obtain⟨ds,h1,h2,h3⟩:=ih (n/10) (by omega);refine⟨ds ++ [48+((n%10:Nat):Int)],af4 h1 (by omega) (by omega),by rw[agr,h2];omega,.inr ?_⟩;rcases h3 with⟨h3,_⟩|⟨c,cs,rfl,hc⟩
   ·omega
   ·exact⟨c,cs ++ [48+((n%10:Nat):Int)],rfl,hc⟩
theorem aj5(n:Nat):IsDec (dig (n:Int)) (n:Int):=by
 obtain⟨ds,h⟩:=a2e n;rw[<-ag3 h];exact h
theorem au3{ds:List Int}{x:Int}{n:Nat}(h:IsDec ds x)(hx:x<p10 n)(hn:1<=n):ds.length<=n:=by
 rcases h.2.2 with⟨_,rfl⟩|⟨c,cs,rfl,hc⟩
 ·simpa using hn
 ·have h1:=h.1 c (by simp);have h2:=h.2.1;simp only[dval]at h2;have h3:=(abt (show Dig cs from fun y hy=>h.1 y (by simp[hy]))).1;apply Classical.byContradiction;intro hl;have h4:=ab5 (m:=n) (n:=cs.length) (by simp at hl;omega);have h5:1*p10 cs.length<=(c-48)*p10 cs.length:=Int.mul_le_mul_of_nonneg_right (by omega) (by have:=acj cs.length;omega);omega
theorem dig8{x:Int}{ds:List Int}(h:IsDec ds x):∀c∈ds,0<=c/\c<256:=fun c hc=>by have:=h.1 c hc;omega
theorem a0o{z:Int}(h:¬z<0):bytesOf (txt z)=dig (z.natAbs:Int):=by
 rw[txt,if_neg h,ag4 (dig8 (aj5 _))]
theorem a0p{z:Int}(h:z<0):bytesOf (txt z)=45::dig (z.natAbs:Int):=by
 rw[txt,if_pos h,ag4];intro c hc;rcases List.mem_cons.1 hc with rfl|hc
 ·omega
 ·exact dig8 (aj5 _) c hc
end Lm
namespace Lm
open Go Go.RowKit
theorem a0q:Has Tryz.prog 35:=by unfold Has;kernel_rfl
theorem axy:Has Tryz.prog 32:=by unfold Has;kernel_rfl
theorem ajk{B b:Nat}{p:Value}{bs:List Value}{W W':World}(h:Lib.BuilderAtF 137 5 B b p bs W)(hk:Below W.heap.size W W'):Lib.BuilderAtF 137 5 B b p bs W':=by
 have hlt:=h.lt;obtain⟨h1,v,h2,h3,h4⟩:=h;have hg:W.grownBy W' none:=⟨hk.os,hk.tape,hk.output,hk.size,fun k h _=>hk.block k h⟩;exact⟨h1,v,(hk.block b hlt).trans h2,h3.kept (row:=none) hg (Classical.em _),h4⟩
theorem Bld.keep{W W':World}{B b:Nat}{l:List UInt8}(h:Bld W B b l)(hk:Below W.heap.size W W'):Bld W' B b l:=by
 rcases h with h|h
 ·exact .inl (ajk h hk)
 ·exact .inr (ajk h hk)
def tpre(z:Int)(first:Bool):List UInt8:=if first then(if z<0 then [45]else []) else(if z<0 then [32,45,32]else [32,43,32])
noncomputable def tterm(z:Int)(first:Bool)(nm:List UInt8):List UInt8:=
 if z=0 then []else tpre z first++((if z.natAbs=1 then [] else(txt (z.natAbs:Int)).data.toList ++ [42])++nm)
theorem a2f{z:Int}{L:Nat}{w:World}{ng:Bool}{a:Option Addr}{n c:Nat}(h:IsW z L (.agg #[.bool ng,.slice a n c]) w):IsW (z.natAbs:Int) L (.agg #[.bool false,.slice a n c]) w:=by
 obtain⟨ng',ao,n',cap,xs,hv,hA,hl⟩:=h;simp only[Value.agg.injEq,Array.mk.injEq,List.cons.injEq,Value.bool.injEq,Value.slice.injEq,and_true]at hv;obtain⟨rfl,rfl,rfl,rfl⟩:=hv;exact⟨_,_,_,_,_,rfl,⟨hA.sl,au2 (aab hA.sl.parts.2.2.2).1 hA.worth⟩,hl⟩
theorem cmp0{a b:Int}(h:cmpI a b=0):a=b:=by
 unfold cmpI at h;split at h
 ·omega
 ·split at h
  ·omega
  ·omega
theorem a0r(k:Int):(k != 0)=(!decide (k=0)):=by
 by_cases h:k=0 <;> simp[h]
theorem wtextF(w:World)(z:Int)(v:Value)(L:Nat)(h:IsW z L v w)(hL:L<=1000000):
  Calls Tryz.prog 33 #[v] w fun e w'=>e=.returned (.string (txt z))/\Below w.heap.size w w':=by
 obtain⟨ng,ao,n,cap,zs,rfl,A,l⟩:=h;have hx:=au2 (aab A.sl.parts.2.2.2).1 A.worth;by_cases hz:z<0
 ·refine(asp w ng ao n cap zs A.sl (by omega) (by rw[A.worth];exact hz)).mono ?_;rintro e w' ⟨ds,rfl,hd,hb⟩;rw[hx]at hd;exact⟨by rw[txt,if_pos hz,<-ag3 hd],hb⟩
 ·refine(asq w ng ao n cap zs A.sl (by omega) (by rw[A.worth];exact hz)).mono ?_;rintro e w' ⟨ds,rfl,hd,hb⟩;rw[hx]at hd;exact⟨by rw[txt,if_neg hz,<-ag3 hd],hb⟩
theorem aim{z:Int}{L:Nat}(h:(z.natAbs:Int)<pw L):(txt z).size<=10*L+2:=by
 have h3:=agd L;have h4:=ab5 (m:=10*L) (n:=10*L+1) (by omega);have h1:=au3 (aj5 z.natAbs) (n:=10*L+1) (by omega) (by omega);by_cases hz:z<0
 ·rw[<-aby,a0p hz,List.length_cons];omega
 ·rw[<-aby,a0o hz];omega
theorem axz(w:World)(z:Int)(L:Nat)(v:Value)(nm:ByteArray)(first:Bool)(hv:IsW z L v w)(hL:L<=100000)(hs:nm.size<=1000000):
    Calls Tryz.prog 59 #[v,.string nm,.bool first] w fun e w'=>e=.returned (.string ⟨(tterm z first nm.data.toList).toArray⟩)/\Below w.heap.size w w':=by
  obtain⟨ng,a,n,c,xs,rfl,_⟩:=id hv;have hb0:=hAl w (.cells #[.bool ng,.slice a n c] 60);have HV:=hide hv;have K:=hide (signF _ z _ L (hv.ru (Ru.of_below hb0)) (by omega));clear hv;by_cases hz0:z=0
  · have HE:Hid (tterm z first nm.data.toList = []):=if_pos hz0
    have K:=K.out;rw[hz0,Int.sign_zero]at K;have K:=hide K;clear hz0;go_enter Tryz.func59,Tryz.ntmps59
    go_wp2_with fail
    refine K.out.mono ?_;rintro e w1 ⟨rfl,hb1⟩;have HB01:=hide (hb0.trans (hb1.mono hb0.size));clear hb0 hb1 K;go_wp2;refine bodyPost_ret (v:=_) (ab9 rfl rfl) rfl ⟨by rw[HE.out];rfl,HB01.out⟩
  have HE:Hid (tterm z first nm.data.toList=tpre z first++((if z.natAbs=1 then [] else(txt (z.natAbs:Int)).data.toList ++ [42])++nm.data.toList)):=if_neg hz0;obtain⟨s,hs'⟩:∃s,Int.sign z=s:=⟨_,rfl⟩;have hs0:(s==0)=false:=beq_eq_false_iff_ne.2 (fun e=>hz0 (Int.sign_eq_zero_iff_zero.1 (by omega)));have HSZ:Hid (s<0↔z<0):=(show _↔_ by rw[<-hs'];exact Int.sign_neg_iff);have K:=K.out;rw[hs']at K;have K:=hide K;clear hz0 hs';go_enter Tryz.func59,Tryz.ntmps59
  go_wp2_with fail
  refine K.out.mono ?_;rintro e w1 ⟨rfl,hb1⟩;have hx:w1.heap[w.heap.size]? = some (.cells #[.bool ng,.slice a n c] 60 (0,0)):=(hb1.block _ (by simp)).trans (heap_alloc_new w _);obtain⟨hxl,x0,x1,_,_⟩:=aam hx;have hb01:=hb0.trans (hb1.mono hb0.size);have hB:Bld (w1.alloc (.cells #[.pointer none,.slice none 0 0] 137)) w1.heap.size w1.heap.size []:=Lib.IsBuilderF.of (Lib.fresh_isBuilder 137 5 w1);have hba0:=hAl w1 (.cells #[.pointer none,.slice none 0 0] 137);have HB:=hide hB;have HB01:=hide hb01;have HBA:=hide hba0;clear hb0 hb1 hB K hx hb01 hba0;obtain⟨pre,hpl,hpre⟩:∃pre,pre.length<=3/\tpre z first=pre:=⟨_,by unfold tpre;split <;> split <;> simp,rfl⟩;rw[hpre]at HE;have hcs:(first=true/\s<0/\pre = [45])\/(first=false/\s<0/\pre = [32,45,32])\/(first=false/\¬s<0/\pre = [32,43,32])\/(first=true/\¬s<0/\pre = []):=by
    rw[<-hpre,HSZ.out];unfold tpre;cases first <;> by_cases hz:z<0 <;> simp[hz]
  clear hpre;have HDT:Hid ((txt (z.natAbs:Int)).size<=10*L+2):=aim (by rw[Int.natAbs_natCast];exact ae0 HV.out);rcases hcs with⟨rfl,hs1,rfl⟩|⟨rfl,hs1,rfl⟩|⟨rfl,hs1,rfl⟩|⟨rfl,hs1,rfl⟩;all_goals go_wp2_with fail
  all_goals first
    | (refine(bwstr w1.heap.size w1.heap.size [] _ _ HB.out (by simp;decide) (by simp)).mono ?_
       rintro e wa ⟨rfl,hBa,hba,_⟩;rw[List.nil_append]at hBa;have hb1a:Below w1.heap.size w1 wa:=HBA.out.trans hba;have y0:=(hb1a.cell (p:=⟨w.heap.size,0,none⟩) hxl).trans x0;have y1:=(hb1a.cell (p:=⟨w.heap.size,1,none⟩) hxl).trans x1;have hxla:w.heap.size<wa.heap.size:=Nat.lt_of_lt_of_le hxl hb1a.size;clear hba;go_wp2_with fail
       clear y0 y1 hxla
       generalize hf9:wa.heap.size=f9 at *)
    | (have hBa:=HB.out
       have hb1a:=HBA.out;have hf9:(w1.alloc (.cells #[.pointer none,.slice none 0 0] 137)).heap.size=w1.heap.size+1:=by simp
       generalize w1.alloc (.cells #[.pointer none,.slice none 0 0] 137)=wa at *
       generalize w1.heap.size+1=f9 at *)
  all_goals (
    have hal2:=hAl wa (.cells #[.bool false,.slice a n c] 60);have hnw:=heap_alloc_new wa (.cells #[.bool false,.slice a n c] 60);rw[hf9]at hnw;have hb12:=hb1a.trans (hal2.mono hb1a.size);have hB2:=Lib.IsBuilderF.alloc hBa (.cells #[.bool false,.slice a n c] 60);generalize (wa.alloc (.cells #[.bool false,.slice a n c] 60))=w2 at *
    have hb02:=HB01.out.trans (hb12.mono HB01.out.size);have hsz2:=hb12.size;have hs01:=HB01.out.size;have HM:=hide (a2f (HV.out.ru (Ru.of_below hb02)));have HB02:=hide hb02;obtain⟨hnl,u0,u1,_,_⟩:=aam hnw;have HNW:=hide hnw;have HB2:=hide hB2;clear hal2 hnw hb12 hB2 hb02 x0 x1 hBa hb1a hf9 HB HBA;go_cut [34] (fun bv wx=>bv=.bool (!decide (cmpI (z.natAbs:Int) 1=0))/\Below w2.heap.size w2 wx)
    case first=>
      go_region_law (first|(refine aa9 rfl 35 #[.const (.int .i64 1)] #[3] rfl a0q #[.int .i64 1] (by simp[Act.eval]) (aed _ 1 (by decide) (by decide)) ?_;rintro e w3 ⟨ng3,ao3,cap3,rs3,rfl,hw3,hl3,hb3⟩;have ho3:OutW 1 2 (.agg #[.bool ng3,.slice ao3 rs3.length cap3]) w3:=⟨_,_,_,_,rfl,hw3,hl3⟩;have HO3:=hide ho3;have hb23:Below w2.heap.size w2 w3:=(show Below w2.heap.size w2 _ by(repeat' first|with_reducible(first|exact Below.refl _ _|assumption|refine gdrewN ?_ _|refine Below.alloc ?_ ?_ _|refine Below.drew ?_|refine Below.setCell ?_ ?_ _)|go_size)).trans (hb3.mono (by simp));have HB23:=hide hb23;have u03:=(hb23.cell (p:=⟨f9,0,none⟩) hnl).trans u0;have u13:=(hb23.cell (p:=⟨f9,1,none⟩) hnl).trans u1;clear ho3 hb3 hb23 hw3 hl3;refine⟨_,rfl,?_⟩)|(refine aa9 rfl 32 #[.tmp 31,.tmp 32] #[60,60] rfl axy #[.agg #[.bool false,.slice a n c],.agg #[.bool ng3,.slice ao3 rs3.length cap3]] (by simp[Act.eval]) (cmpF _ (z.natAbs:Int) 1 _ _ L 2 (HM.out.ru (Ru.of_below HB23.out)) HO3.out.is (by omega) (by omega)) ?_;rintro e w4 ⟨rfl,hb4⟩;have HB24:=hide (HB23.out.trans (hb4.mono HB23.out.size));clear hb4;refine⟨_,rfl,?_⟩))
      all_goals (
        go_wp2_with fail
        go_meet
        exact⟨by rw[a0r],HB24.out⟩)
    case rest=>
      obtain⟨rfl,hb5⟩:=hcut;have hB5:=Bld.keep HB2.out hb5;have hnw5:=(hb5.block _ (aaa HNW.out)).trans HNW.out;have HB05:=hide (HB02.out.trans (hb5.mono HB02.out.size));have hsz5:w1.heap.size<=wc.heap.size:=Nat.le_trans hsz2 hb5.size;have HM5:=hide (HM.out.ru (Ru.of_below hb5));have hnm8:nm.data.size<=1000000:=hs;have HBd5:=hide hB5;clear hb5 hB5 u0 u1;by_cases h1:z.natAbs=1
      · rw[show(!decide (cmpI (z.natAbs:Int) 1=0))=false by rw[h1];rfl]
        have HE':=HE.out;rw[if_pos h1,List.nil_append]at HE';have HE':=hide HE';have K5:=hide (bwstr w1.heap.size w1.heap.size _ nm wc HBd5.out (by simp;omega) hsz5);clear hnw5 h1;go_wp2_with fail
        refine K5.out.mono ?_;rintro e w6 ⟨rfl,hB6,hb6,_⟩;have HB06:=hide (HB05.out.trans (hb6.mono hs01));have K6:=hide (bstring w1.heap.size w1.heap.size _ w6 hB6 (Nat.le_trans hsz5 hb6.size));clear hB6 hb6 K5;go_wp2_with fail
        refine K6.out.mono ?_;rintro e w7 ⟨rfl,hb7⟩;have HB07:=hide (HB06.out.trans (hb7.mono hs01));clear hb7 K6;go_wp2;refine bodyPost_ret (v:=_) (ab9 rfl rfl) rfl ⟨by rw[HE'.out];rfl,HB07.out⟩
      · rw[show(!decide (cmpI (z.natAbs:Int) 1=0))=true by
          have hne:cmpI (z.natAbs:Int) 1≠0:=fun h=>h1 (by have:=cmp0 h;omega)
          simp[hne]]
        have HE':=HE.out;rw[if_neg h1]at HE';have HE':=hide HE';obtain⟨hnl5,v0,v1,_,_⟩:=aam hnw5;have KT:=hide (wtextF wc _ _ L HM5.out (by omega));obtain⟨sd,hsd⟩:∃sd,txt (z.natAbs:Int)=sd:=⟨_,rfl⟩;rw[hsd]at KT HE' HDT;clear hnw5 h1 hsd;go_wp2_with fail
        refine KT.out.mono ?_;rintro e w6 ⟨rfl,hb6⟩;have HB06:=hide (HB05.out.trans (hb6.mono HB05.out.size));have hds7:sd.data.size<=1000002:=by have:sd.size<=10*L+2:=HDT.out;show sd.size<=_;omega
        have hsz6:=Nat.le_trans hsz5 hb6.size;have K6:=hide (bwstr w1.heap.size w1.heap.size _ sd w6 (Bld.keep HBd5.out hb6) (by simp only[List.length_cons,List.length_nil];show _+sd.data.size<=_;omega) hsz6);clear hb6 v0 v1 KT;go_wp2_with fail
        refine K6.out.mono ?_;rintro e w7 ⟨rfl,hB7,hb7,_⟩;have HB07:=hide (HB06.out.trans (hb7.mono hs01));have hsz7:=Nat.le_trans hsz6 hb7.size;have K7:=hide (bwstr w1.heap.size w1.heap.size _ ⟨#[42]⟩ w7 hB7 (by simp only[List.length_append,List.length_cons,List.length_nil,Array.length_toList];show _+1<=_;omega) hsz7);clear hB7 hb7 K6;go_wp2_with fail
        refine K7.out.mono ?_;rintro e w8 ⟨rfl,hB8,hb8,_⟩;have HB08:=hide (HB07.out.trans (hb8.mono hs01));have hsz8:=Nat.le_trans hsz7 hb8.size;have K8:=hide (bwstr w1.heap.size w1.heap.size _ nm w8 hB8 (by simp only[List.length_append,List.length_cons,List.length_nil,Array.length_toList];show _+nm.data.size<=_;omega) hsz8);clear hB8 hb8 K7;go_wp2_with fail
        refine K8.out.mono ?_;rintro e w9 ⟨rfl,hB9,hb9,_⟩;have HB09:=hide (HB08.out.trans (hb9.mono hs01));have K9:=hide (bstring w1.heap.size w1.heap.size _ w9 hB9 (Nat.le_trans hsz8 hb9.size));clear hB9 hb9 K8;go_wp2_with fail
        refine K9.out.mono ?_;rintro e w10 ⟨rfl,hb10⟩;have HB10:=hide (HB09.out.trans (hb10.mono hs01));clear hb10 K9;go_wp2
        refine bodyPost_ret (v:=_) (ab9 rfl rfl) rfl ⟨by rw[HE'.out];simp only[List.append_assoc,List.cons_append,List.nil_append];rfl,HB10.out⟩)
noncomputable def lefts(zs:List Int)(vs:List ByteArray):Nat->List UInt8
 |0=>[]
 |k+1=>lefts zs vs k++tterm (zs.getD k 0) (decide (lefts zs vs k = [])) (vs.getD k ⟨#[]⟩).data.toList
noncomputable def prn(zs:List Int)(vs:List ByteArray):ByteArray:=⟨(if lefts zs vs vs.length = []then [48]else lefts zs vs vs.length).toArray⟩++⟨#[32,61,32]⟩++txt (zs.getD vs.length 0)
theorem a2g(x y:List UInt8):(⟨x.toArray⟩:ByteArray)++⟨y.toArray⟩=⟨(x++y).toArray⟩:=by
 apply ByteArray.ext;rw[ByteArray.data_append];simp
theorem app(x:List UInt8):(⟨x.toArray⟩:ByteArray).size=x.length:=by
 show x.toArray.size=_;simp
theorem ak3{z:Int}{L:Nat}(h:(z.natAbs:Int)<pw L)(first:Bool)(nm:List UInt8):(tterm z first nm).length<=10*L+6+nm.length:=by
 unfold tterm;have h1:=aim (z:=(z.natAbs:Int)) (L:=L) (by rw[Int.natAbs_natCast];exact h);have h2:(tpre z first).length<=3:=by unfold tpre;split <;> split <;> simp
 have h3:(txt (z.natAbs:Int)).data.toList.length=(txt (z.natAbs:Int)).size:=by rw[Array.length_toList];rfl
 split
 ·simp
 ·split
  ·simp only[List.length_append,List.length_nil];omega
  ·simp only[List.length_append,List.length_cons,List.length_nil,h3];omega
theorem ak4{s:ByteArray}(h:isNm s=true):s.size<=4096:=by
 apply Classical.byContradiction;intro hs;rw[akz (by omega)]at h;cases h
theorem ak5{zs:List Int}{vs:List ByteArray}{L:Nat}(hz:∀z∈zs,(z.natAbs:Int)<pw L)(hN:NmsOk vs):∀k,k<=vs.length->k<zs.length->(lefts zs vs k).length<=k*(10*L+4102)
 |0,_,_=>by simp[lefts]
 |k+1,h1,h2=>by
  have ih:=ak5 hz hN k (by omega) (by omega);have e1:zs.getD k 0=zs[k]:=by rw[List.getD_eq_getElem?_getD,List.getElem?_eq_getElem (by omega)];rfl
  have e2:vs.getD k ⟨#[]⟩=vs[k]:=by rw[List.getD_eq_getElem?_getD,List.getElem?_eq_getElem (by omega)];rfl
  have h3:=ak3 (hz zs[k] (List.getElem_mem _)) (decide (lefts zs vs k = [])) vs[k].data.toList;have h4:=ak4 (hN.2 k vs[k] (List.getElem?_eq_getElem _)).1;have h5:vs[k].data.toList.length=vs[k].size:=by rw[Array.length_toList];rfl
  rw[lefts,e1,e2,List.length_append,Nat.add_mul];omega
theorem ax0{w:World}{v:Value}{zs:List Int}{L:Nat}(h:IsRow w v zs L):∀z∈zs,(z.natAbs:Int)<pw L:=by
 intro z hz;obtain⟨k,hk⟩:=List.mem_iff_getElem?.1 hz;obtain⟨ao,cap,rfl,_⟩:=h.parts;obtain⟨b,off,ng,a,m,c,_,_,_,_,hw⟩:=h.cell hk;exact ae0 hw
theorem au4(w:World)(hT:Tabs w)(rv vv:Value)(zs:List Int)(vs:List ByteArray)(L:Nat)(hr:IsRow w rv zs L)(hL:L<=100000)(hv:Strs w vv vs)(hN:NmsOk vs)(hl:zs.length=vs.length+1):
  Calls Tryz.prog 26 #[rv,vv] w fun e w'=>e=.returned (.tuple #[.string (prn zs vs),.int .i64 0])/\Below w.heap.size w w':=by
 obtain⟨ra,rc,rfl,_⟩:=hr.parts;obtain⟨va,vc,rfl,_⟩:=id hv;have K:=ak0 w hT _ _ hv;rw[show nmsE vs=0 from if_pos hN]at K;have hlt:=ax0 hr;obtain⟨n,hnn⟩:∃n,vs.length=n:=⟨_,rfl⟩;have hn16:n<=16:=by have:=hN.1;omega
 rw[hl]at hr ⊢;rw[hnn]at K hr hv hl ⊢;have K:=hide K;have HR:=hide hr;have HV:=hide hv;have HN:=hide hN;have HNN:=hide hnn;have HL:=hide hl;have HLEN:Hid (∀k,k<=n->(lefts zs vs k).length<=k*(10*L+4102)):=(fun k hk=>ak5 hlt hN k (by omega) (by omega));have HLT:=hide hlt;obtain⟨z9,hz9⟩:∃z,zs[n]? = some z:=⟨_,List.getElem?_eq_getElem (by omega)⟩;obtain⟨b,off,ng9,a9,m9,c9,rfl,hbl,_,_,_⟩:=hr.cell hz9;have HZ9:=hide hz9;have HP:Hid (prn zs vs=⟨(if lefts zs vs n = []then [48]else lefts zs vs n).toArray⟩++⟨#[32,61,32]⟩++txt z9):=(show _=_ by unfold prn;rw[hnn,List.getD_eq_getElem?_getD,hz9];rfl);have hwn:IntKind.i64.wrap ((n:Int)+1)=(n:Int)+1:=by rw[IntKind.wrap_i64];omega
 have hne:(((n+1:Nat):Int) != (n:Int)+1)=false:=by simp
 clear hT hr hv hN hnn hl hlt hz9;go_enter Tryz.func26,Tryz.ntmps26
 go_wp2_with fail
 refine K.out.mono ?_;rintro e w1 ⟨rfl,hb1⟩;have HB1:=hide hb1;clear hb1 K;go_wp2_with fail
 go_loopw [6,7,8,22] (fun lv _ _ iv wr=>∃k:Nat,iv=.int .i64 k/\k<=n/\lv=.string ⟨(lefts zs vs k).toArray⟩/\Below w.heap.size w wr) (fun _ _ _ iv _=>n-(intOf iv).toNat)
 case atStart=>exact⟨0,rfl,Nat.zero_le _,rfl,HB1.out⟩
 case round=>
  obtain⟨k,rfl,hk,rfl,hbw⟩:=hrel;have HW:=hide hbw;have hll:=HLEN.out k hk;obtain⟨sl,hsl⟩:∃sl,(⟨(lefts zs vs k).toArray⟩:ByteArray)=sl:=⟨_,rfl⟩;have hss:sl.size=(lefts zs vs k).length:=by rw[<-hsl,app]
  have hsb:sl.size<=16*(10*L+4102):=by rw[hss];exact Nat.le_trans hll (Nat.mul_le_mul_right _ (by omega))
  rw[hsl];by_cases hlt:k<n
  ·have hlt':(k:Int)<(n:Int):=by omega
   obtain⟨z,hz⟩:∃z,zs[k]? = some z:=⟨_,List.getElem?_eq_getElem (by have:=HL.out;omega)⟩;obtain⟨x,hx⟩:∃x,vs[k]? = some x:=⟨_,List.getElem?_eq_getElem (by have:=HNN.out;omega)⟩;obtain⟨b',off',ng,a,m,c,hao,_,x0,x1,hxw⟩:=(HR.out.below hbw).cell hz;obtain⟨rfl,rfl⟩:b=b'/\off=off':=by simpa using hao
   obtain⟨bv,ov,rfl,hbvl,v0⟩:=(HV.out.below hbw).cell hx;have hxs:=ak4 (HN.out.2 k x hx).1;have hkn:(k:Int)<((n+1:Nat):Int):=by omega
   obtain⟨f,hf⟩:∃f,decide (lefts zs vs k = [])=f:=⟨_,rfl⟩;have hef:(sl.toList == [])=f:=by
    rw[<-hf,<-hsl];by_cases h0:lefts zs vs k = []
    ·rw[h0,ByteArray.toList_eq];rfl
    ·rw[decide_eq_false h0,beq_eq_false_iff_ne];intro e;rw[ByteArray.toList_eq]at e;exact h0 (by simpa using e)
   have K:=hide (axz wr z L _ x f hxw hL (by omega));have hstep:lefts zs vs (k+1)=lefts zs vs k++tterm z f x.data.toList:=by rw[lefts,List.getD_eq_getElem?_getD,List.getD_eq_getElem?_getD,hz,hx,hf];rfl
   have htl:=ak3 (HLT.out z (List.mem_of_getElem? hz)) f x.data.toList;have hxl:x.data.toList.length=x.size:=by rw[Array.length_toList];rfl
   generalize tterm z f x.data.toList=tt at K hstep htl;have hadd:∀W,(Op.stringOp .add sl ⟨tt.toArray⟩).run Tryz.prog W=.ok (.string ⟨(lefts zs vs (k+1)).toArray⟩) W:=fun W=>by
    rw[run_string_add_sum (P:=Tryz.prog) W sl ⟨tt.toArray⟩ (by rw[app tt];omega),<-hsl,a2g,hstep]
   clear hbw hxw hao hz hx hf hsl hstep htl hxl hll hss hxs;generalize (⟨tt.toArray⟩:ByteArray)=tb at K hadd;go_wp2_with fail
   refine K.out.mono ?_;rintro e w2 ⟨rfl,hb2⟩;have HB2:=hide (HW.out.trans (hb2.mono HW.out.size));clear hb2 K;go_wp2;go_roundw
   case rel=>exact⟨k+1,by go_num,by omega,rfl,HB2.out⟩
   case measure=>simp[intOf];omega
  ·have hlt':decide ((k:Int)<(n:Int))=false:=by simp;omega
   obtain rfl:k=n:=by omega
   obtain⟨b',off',ng,a,m,c,hao,_,x0,x1,hxw⟩:=(HR.out.below hbw).cell HZ9.out;obtain⟨rfl,rfl⟩:b=b'/\off=off':=by simpa using hao
   have hts:=aim (HLT.out z9 (List.mem_of_getElem? HZ9.out));have K:=hide (wtextF wr z9 _ L hxw (by omega));have hkn:(k:Int)<((k+1:Nat):Int):=by omega
   generalize txt z9=t9 at K HP hts;by_cases h0:lefts zs vs k = []
   ·have HP':=HP.out;rw[if_pos h0]at HP';have HP':=hide HP';obtain rfl:sl=⟨#[]⟩:=by rw[<-hsl,h0]
    have ha1:∀W,(Op.stringOp .add ⟨#[48]⟩ ⟨#[32,61,32]⟩).run Tryz.prog W=.ok (.string ⟨#[48,32,61,32]⟩) W:=fun W=>run_string_add_sum (P:=Tryz.prog) W _ _ (by decide)
    have ha2:∀W,(Op.stringOp .add ⟨#[48,32,61,32]⟩ t9).run Tryz.prog W=.ok (.string (⟨#[48,32,61,32]⟩++t9)) W:=fun W=>run_string_add_sum (P:=Tryz.prog) W _ _ (by show 4+_<=_;omega)
    clear hbw hxw hao h0 hsl hll hss hsb hts;go_wp2_with fail
    refine K.out.mono ?_;rintro e w2 ⟨rfl,hb2⟩;have HB2:=hide (HW.out.trans (hb2.mono HW.out.size));clear hb2 K;go_wp2;refine bodyPost_ret (v:=_) (by simp[results,Tryz.results26,go_sem];try rfl) rfl ⟨by rw[HP'.out];rfl,HB2.out⟩
   ·have HP':=HP.out;rw[if_neg h0,hsl]at HP';have HP':=hide HP';have hef:(sl.toList == [])=false:=by
     rw[<-hsl,beq_eq_false_iff_ne];intro e;rw[ByteArray.toList_eq]at e;exact h0 (by simpa using e)
    have hsz3:(sl++⟨#[32,61,32]⟩:ByteArray).size=sl.size+3:=by rw[ByteArray.size_append];rfl
    have ha1:∀W,(Op.stringOp .add sl ⟨#[32,61,32]⟩).run Tryz.prog W=.ok (.string (sl++⟨#[32,61,32]⟩)) W:=fun W=>run_string_add_sum (P:=Tryz.prog) W _ _ (by show _+3<=_;omega)
    have ha2:∀W,(Op.stringOp .add (sl++⟨#[32,61,32]⟩) t9).run Tryz.prog W=.ok (.string (sl++⟨#[32,61,32]⟩++t9)) W:=fun W=>run_string_add_sum (P:=Tryz.prog) W _ _ (by omega)
    generalize (sl++⟨#[32,61,32]⟩:ByteArray)=s3 at ha1 ha2 HP';generalize s3++t9=s4 at ha2 HP';clear hbw hxw hao h0 hsl hll hss hsb hts hsz3;go_wp2_with fail
    refine K.out.mono ?_;rintro e w2 ⟨rfl,hb2⟩;have HB2:=hide (HW.out.trans (hb2.mono HW.out.size));clear hb2 K;go_wp2;refine bodyPost_ret (v:=_) (by simp[results,Tryz.results26,go_sem];try rfl) rfl ⟨by rw[HP'.out],HB2.out⟩
theorem a2h:IsDec [50] 2:=⟨by intro z hz;simp at hz;omega,by kernel_rfl,.inr ⟨50,[],rfl,by decide⟩⟩
theorem a2i:IsDec [51] 3:=⟨by intro z hz;simp at hz;omega,by kernel_rfl,.inr ⟨51,[],rfl,by decide⟩⟩
theorem a29:txt 2=⟨#[50]⟩:=by
 rw[txt,if_neg (by decide),show((2:Int).natAbs:Int)=2 from rfl,<-ag3 a2h];rfl
theorem a2j:txt (-3)=⟨#[45,51]⟩:=by
 rw[txt,if_pos (by decide),show((-3:Int).natAbs:Int)=3 from rfl,<-ag3 a2i];rfl
theorem au5:prn [1,-2,-3] [⟨#[120]⟩,⟨#[121]⟩]=⟨#[120,32,45,32,50,42,121,32,61,32,45,51]⟩:=by
 have h1:lefts [1,-2,-3] [⟨#[120]⟩,⟨#[121]⟩] 1 = [120]:=rfl;have h2:lefts [1,-2,-3] [⟨#[120]⟩,⟨#[121]⟩] 2 = [120,32,45,32,50,42,121]:=by
  rw[lefts,h1,show tterm ([1,-2,-3].getD 1 0) (decide (([120]:List UInt8) = [])) (([⟨#[120]⟩,⟨#[121]⟩]:List ByteArray).getD 1 ⟨#[]⟩).data.toList = [32,45,32]++(((txt 2).data.toList ++ [42]) ++ [121])from rfl,a29];rfl
 rw[prn,show([⟨#[120]⟩,⟨#[121]⟩]:List ByteArray).length=2 from rfl,h2,show([1,-2,-3]:List Int).getD 2 0 = -3 from rfl,a2j];rfl
theorem aof(w:World)(hT:Tabs w)(rv vv:Value)(L:Nat)(hr:IsRow w rv [1,-2,-3] L)(hL:L<=100000)(hv:Strs w vv [⟨#[120]⟩,⟨#[121]⟩])(hN:NmsOk [⟨#[120]⟩,⟨#[121]⟩]):
  Calls Tryz.prog 26 #[rv,vv] w fun e w'=>e=.returned (.tuple #[.string ⟨#[120,32,45,32,50,42,121,32,61,32,45,51]⟩,.int .i64 0])/\Below w.heap.size w w':=by
 refine(au4 w hT rv vv _ _ L hr hL hv hN rfl).mono ?_;rintro e w' ⟨rfl,hb⟩;exact⟨by rw[au5],hb⟩
theorem au6(c:Nat)(s:ByteArray)(gs:List Gl)(e:Pl)(l:List Tk)(_hc:c<128)(hs:s.size<=4096)(hQ:Snd s pl0 gs e)(hR:ScanR s e gs (.ok l))(hn:nmS s (.ok l)=true):isNm s=true:=by
 rw[<-apm hs hQ hR];exact hn
theorem a2k:isNm ⟨#[120]⟩=true:=by
 refine au6 120 ⟨#[120]⟩ [⟨120,⟨0,0,1,1⟩⟩] ⟨1,1,1,2⟩ [⟨1,⟨#[120]⟩,⟨0,0,1,1⟩⟩,⟨0,⟨#[]⟩,⟨1,1,1,2⟩⟩] (by decide) (by decide) ?_ ?_ (by kernel_rfl)
 ·refine abz (k:=1) (by decide) (by kernel_rfl) (by decide) ?_;exact .stop ⟨1,1,1,2⟩ (.inl (by decide))
 ·refine ScanR.tok _ ⟨120,⟨0,0,1,1⟩⟩ [] 1 ⟨#[120]⟩ [] (.ok [⟨0,⟨#[]⟩,⟨1,1,1,2⟩⟩]) (by kernel_rfl) (af7 (by kernel_rfl) (by kernel_rfl) (by decide) (by kernel_rfl)) ?_;exact ScanR.done _ (by kernel_rfl) (by decide)
theorem a2l:isNm ⟨#[121]⟩=true:=by
 refine au6 121 ⟨#[121]⟩ [⟨121,⟨0,0,1,1⟩⟩] ⟨1,1,1,2⟩ [⟨1,⟨#[121]⟩,⟨0,0,1,1⟩⟩,⟨0,⟨#[]⟩,⟨1,1,1,2⟩⟩] (by decide) (by decide) ?_ ?_ (by kernel_rfl)
 ·refine abz (k:=1) (by decide) (by kernel_rfl) (by decide) ?_;exact .stop ⟨1,1,1,2⟩ (.inl (by decide))
 ·refine ScanR.tok _ ⟨121,⟨0,0,1,1⟩⟩ [] 1 ⟨#[121]⟩ [] (.ok [⟨0,⟨#[]⟩,⟨1,1,1,2⟩⟩]) (by kernel_rfl) (af7 (by kernel_rfl) (by kernel_rfl) (by decide) (by kernel_rfl)) ?_;exact ScanR.done _ (by kernel_rfl) (by decide)
theorem au7:NmsOk [⟨#[120]⟩,⟨#[121]⟩]:=by
 refine⟨by decide,fun i x hx=>?_⟩
 match i with
 |0=>simp at hx;subst hx;exact⟨a2k,by simp⟩
 |1=>simp at hx;subst hx;exact⟨a2l,by simp⟩
 |i+2=>simp at hx
def eqs:ByteArray:=⟨#[50,120,32,61,32,52,121,32,45,32,54]⟩
def eqt:List Tk:=[⟨2,⟨#[50]⟩,⟨0,0,1,1⟩⟩,⟨1,⟨#[120]⟩,⟨1,1,1,2⟩⟩,⟨3,⟨#[61]⟩,⟨3,3,1,4⟩⟩,⟨2,⟨#[52]⟩,⟨5,5,1,6⟩⟩,⟨1,⟨#[121]⟩,⟨6,6,1,7⟩⟩,⟨3,⟨#[45]⟩,⟨8,8,1,9⟩⟩,⟨2,⟨#[54]⟩,⟨10,10,1,11⟩⟩,⟨0,⟨#[]⟩,⟨11,11,1,12⟩⟩]
theorem a0s:Snd eqs pl0 [⟨50,⟨0,0,1,1⟩⟩,⟨120,⟨1,1,1,2⟩⟩,⟨32,⟨2,2,1,3⟩⟩,⟨61,⟨3,3,1,4⟩⟩,⟨32,⟨4,4,1,5⟩⟩,⟨52,⟨5,5,1,6⟩⟩,⟨121,⟨6,6,1,7⟩⟩,⟨32,⟨7,7,1,8⟩⟩,⟨45,⟨8,8,1,9⟩⟩,⟨32,⟨9,9,1,10⟩⟩,⟨54,⟨10,10,1,11⟩⟩] ⟨11,11,1,12⟩:=by
 refine abz (p:=⟨0,0,1,1⟩) (k:=1) (by decide) (by kernel_rfl) (by decide) ?_;refine abz (p:=⟨1,1,1,2⟩) (k:=1) (by decide) (by kernel_rfl) (by decide) ?_;refine abz (p:=⟨2,2,1,3⟩) (k:=1) (by decide) (by kernel_rfl) (by decide) ?_;refine abz (p:=⟨3,3,1,4⟩) (k:=1) (by decide) (by kernel_rfl) (by decide) ?_;refine abz (p:=⟨4,4,1,5⟩) (k:=1) (by decide) (by kernel_rfl) (by decide) ?_;refine abz (p:=⟨5,5,1,6⟩) (k:=1) (by decide) (by kernel_rfl) (by decide) ?_;refine abz (p:=⟨6,6,1,7⟩) (k:=1) (by decide) (by kernel_rfl) (by decide) ?_;refine abz (p:=⟨7,7,1,8⟩) (k:=1) (by decide) (by kernel_rfl) (by decide) ?_;refine abz (p:=⟨8,8,1,9⟩) (k:=1) (by decide) (by kernel_rfl) (by decide) ?_;refine abz (p:=⟨9,9,1,10⟩) (k:=1) (by decide) (by kernel_rfl) (by decide) ?_;refine abz (p:=⟨10,10,1,11⟩) (k:=1) (by decide) (by kernel_rfl) (by decide) ?_;exact .stop ⟨11,11,1,12⟩ (.inl (by decide))
theorem ax1:ScanR eqs ⟨11,11,1,12⟩ [⟨50,⟨0,0,1,1⟩⟩,⟨120,⟨1,1,1,2⟩⟩,⟨32,⟨2,2,1,3⟩⟩,⟨61,⟨3,3,1,4⟩⟩,⟨32,⟨4,4,1,5⟩⟩,⟨52,⟨5,5,1,6⟩⟩,⟨121,⟨6,6,1,7⟩⟩,⟨32,⟨7,7,1,8⟩⟩,⟨45,⟨8,8,1,9⟩⟩,⟨32,⟨9,9,1,10⟩⟩,⟨54,⟨10,10,1,11⟩⟩] (.ok eqt):=by
 show ScanR eqs ⟨11,11,1,12⟩ [⟨50,⟨0,0,1,1⟩⟩,⟨120,⟨1,1,1,2⟩⟩,⟨32,⟨2,2,1,3⟩⟩,⟨61,⟨3,3,1,4⟩⟩,⟨32,⟨4,4,1,5⟩⟩,⟨52,⟨5,5,1,6⟩⟩,⟨121,⟨6,6,1,7⟩⟩,⟨32,⟨7,7,1,8⟩⟩,⟨45,⟨8,8,1,9⟩⟩,⟨32,⟨9,9,1,10⟩⟩,⟨54,⟨10,10,1,11⟩⟩] (.ok [⟨2,⟨#[50]⟩,⟨0,0,1,1⟩⟩,⟨1,⟨#[120]⟩,⟨1,1,1,2⟩⟩,⟨3,⟨#[61]⟩,⟨3,3,1,4⟩⟩,⟨2,⟨#[52]⟩,⟨5,5,1,6⟩⟩,⟨1,⟨#[121]⟩,⟨6,6,1,7⟩⟩,⟨3,⟨#[45]⟩,⟨8,8,1,9⟩⟩,⟨2,⟨#[54]⟩,⟨10,10,1,11⟩⟩,⟨0,⟨#[]⟩,⟨11,11,1,12⟩⟩]);have hn0:TokR eqs ⟨11,11,1,12⟩ ⟨50,⟨0,0,1,1⟩⟩ [⟨120,⟨1,1,1,2⟩⟩,⟨32,⟨2,2,1,3⟩⟩,⟨61,⟨3,3,1,4⟩⟩,⟨32,⟨4,4,1,5⟩⟩,⟨52,⟨5,5,1,6⟩⟩,⟨121,⟨6,6,1,7⟩⟩,⟨32,⟨7,7,1,8⟩⟩,⟨45,⟨8,8,1,9⟩⟩,⟨32,⟨9,9,1,10⟩⟩,⟨54,⟨10,10,1,11⟩⟩] (.ok 2 ⟨#[50]⟩ [⟨120,⟨1,1,1,2⟩⟩,⟨32,⟨2,2,1,3⟩⟩,⟨61,⟨3,3,1,4⟩⟩,⟨32,⟨4,4,1,5⟩⟩,⟨52,⟨5,5,1,6⟩⟩,⟨121,⟨6,6,1,7⟩⟩,⟨32,⟨7,7,1,8⟩⟩,⟨45,⟨8,8,1,9⟩⟩,⟨32,⟨9,9,1,10⟩⟩,⟨54,⟨10,10,1,11⟩⟩]):=by
  have hv:dval (bytesOf (eqs.extract 0 1))=2:=by kernel_rfl
  have h1:IsLen (dval (bytesOf (eqs.extract 0 1))) 1:=⟨[2],⟨by intro z hz;simp at hz;omega,by kernel_rfl⟩,by rw[hv];kernel_rfl,rfl⟩;have h2:IsDec [50] (dval (bytesOf (eqs.extract 0 1))):=⟨by intro z hz;simp at hz;omega,by rw[hv];kernel_rfl,.inr ⟨50,[],rfl,by decide⟩⟩;exact af6 (s:=eqs) (e:=⟨11,11,1,12⟩) (g:=⟨50,⟨0,0,1,1⟩⟩) (r:=[⟨120,⟨1,1,1,2⟩⟩,⟨32,⟨2,2,1,3⟩⟩,⟨61,⟨3,3,1,4⟩⟩,⟨32,⟨4,4,1,5⟩⟩,⟨52,⟨5,5,1,6⟩⟩,⟨121,⟨6,6,1,7⟩⟩,⟨32,⟨7,7,1,8⟩⟩,⟨45,⟨8,8,1,9⟩⟩,⟨32,⟨9,9,1,10⟩⟩,⟨54,⟨10,10,1,11⟩⟩]) (n:=1) (ds:=[50]) (by kernel_rfl) h1 h2
 refine ScanR.tok _ ⟨50,⟨0,0,1,1⟩⟩ [⟨120,⟨1,1,1,2⟩⟩,⟨32,⟨2,2,1,3⟩⟩,⟨61,⟨3,3,1,4⟩⟩,⟨32,⟨4,4,1,5⟩⟩,⟨52,⟨5,5,1,6⟩⟩,⟨121,⟨6,6,1,7⟩⟩,⟨32,⟨7,7,1,8⟩⟩,⟨45,⟨8,8,1,9⟩⟩,⟨32,⟨9,9,1,10⟩⟩,⟨54,⟨10,10,1,11⟩⟩] 2 ⟨#[50]⟩ [⟨120,⟨1,1,1,2⟩⟩,⟨32,⟨2,2,1,3⟩⟩,⟨61,⟨3,3,1,4⟩⟩,⟨32,⟨4,4,1,5⟩⟩,⟨52,⟨5,5,1,6⟩⟩,⟨121,⟨6,6,1,7⟩⟩,⟨32,⟨7,7,1,8⟩⟩,⟨45,⟨8,8,1,9⟩⟩,⟨32,⟨9,9,1,10⟩⟩,⟨54,⟨10,10,1,11⟩⟩] (.ok [⟨1,⟨#[120]⟩,⟨1,1,1,2⟩⟩,⟨3,⟨#[61]⟩,⟨3,3,1,4⟩⟩,⟨2,⟨#[52]⟩,⟨5,5,1,6⟩⟩,⟨1,⟨#[121]⟩,⟨6,6,1,7⟩⟩,⟨3,⟨#[45]⟩,⟨8,8,1,9⟩⟩,⟨2,⟨#[54]⟩,⟨10,10,1,11⟩⟩,⟨0,⟨#[]⟩,⟨11,11,1,12⟩⟩]) (by kernel_rfl) hn0 ?_;refine ScanR.tok _ ⟨120,⟨1,1,1,2⟩⟩ [⟨32,⟨2,2,1,3⟩⟩,⟨61,⟨3,3,1,4⟩⟩,⟨32,⟨4,4,1,5⟩⟩,⟨52,⟨5,5,1,6⟩⟩,⟨121,⟨6,6,1,7⟩⟩,⟨32,⟨7,7,1,8⟩⟩,⟨45,⟨8,8,1,9⟩⟩,⟨32,⟨9,9,1,10⟩⟩,⟨54,⟨10,10,1,11⟩⟩] 1 ⟨#[120]⟩ [⟨32,⟨2,2,1,3⟩⟩,⟨61,⟨3,3,1,4⟩⟩,⟨32,⟨4,4,1,5⟩⟩,⟨52,⟨5,5,1,6⟩⟩,⟨121,⟨6,6,1,7⟩⟩,⟨32,⟨7,7,1,8⟩⟩,⟨45,⟨8,8,1,9⟩⟩,⟨32,⟨9,9,1,10⟩⟩,⟨54,⟨10,10,1,11⟩⟩] (.ok [⟨3,⟨#[61]⟩,⟨3,3,1,4⟩⟩,⟨2,⟨#[52]⟩,⟨5,5,1,6⟩⟩,⟨1,⟨#[121]⟩,⟨6,6,1,7⟩⟩,⟨3,⟨#[45]⟩,⟨8,8,1,9⟩⟩,⟨2,⟨#[54]⟩,⟨10,10,1,11⟩⟩,⟨0,⟨#[]⟩,⟨11,11,1,12⟩⟩]) (by kernel_rfl) (af7 (by kernel_rfl) (by kernel_rfl) (by decide) (by kernel_rfl)) ?_;refine ScanR.tok _ ⟨61,⟨3,3,1,4⟩⟩ [⟨32,⟨4,4,1,5⟩⟩,⟨52,⟨5,5,1,6⟩⟩,⟨121,⟨6,6,1,7⟩⟩,⟨32,⟨7,7,1,8⟩⟩,⟨45,⟨8,8,1,9⟩⟩,⟨32,⟨9,9,1,10⟩⟩,⟨54,⟨10,10,1,11⟩⟩] 3 ⟨#[61]⟩ [⟨32,⟨4,4,1,5⟩⟩,⟨52,⟨5,5,1,6⟩⟩,⟨121,⟨6,6,1,7⟩⟩,⟨32,⟨7,7,1,8⟩⟩,⟨45,⟨8,8,1,9⟩⟩,⟨32,⟨9,9,1,10⟩⟩,⟨54,⟨10,10,1,11⟩⟩] (.ok [⟨2,⟨#[52]⟩,⟨5,5,1,6⟩⟩,⟨1,⟨#[121]⟩,⟨6,6,1,7⟩⟩,⟨3,⟨#[45]⟩,⟨8,8,1,9⟩⟩,⟨2,⟨#[54]⟩,⟨10,10,1,11⟩⟩,⟨0,⟨#[]⟩,⟨11,11,1,12⟩⟩]) (by kernel_rfl) (agv (by kernel_rfl)) ?_;have hn5:TokR eqs ⟨11,11,1,12⟩ ⟨52,⟨5,5,1,6⟩⟩ [⟨121,⟨6,6,1,7⟩⟩,⟨32,⟨7,7,1,8⟩⟩,⟨45,⟨8,8,1,9⟩⟩,⟨32,⟨9,9,1,10⟩⟩,⟨54,⟨10,10,1,11⟩⟩] (.ok 2 ⟨#[52]⟩ [⟨121,⟨6,6,1,7⟩⟩,⟨32,⟨7,7,1,8⟩⟩,⟨45,⟨8,8,1,9⟩⟩,⟨32,⟨9,9,1,10⟩⟩,⟨54,⟨10,10,1,11⟩⟩]):=by
  have hv:dval (bytesOf (eqs.extract 5 6))=4:=by kernel_rfl
  have h1:IsLen (dval (bytesOf (eqs.extract 5 6))) 1:=⟨[4],⟨by intro z hz;simp at hz;omega,by kernel_rfl⟩,by rw[hv];kernel_rfl,rfl⟩;have h2:IsDec [52] (dval (bytesOf (eqs.extract 5 6))):=⟨by intro z hz;simp at hz;omega,by rw[hv];kernel_rfl,.inr ⟨52,[],rfl,by decide⟩⟩;exact af6 (s:=eqs) (e:=⟨11,11,1,12⟩) (g:=⟨52,⟨5,5,1,6⟩⟩) (r:=[⟨121,⟨6,6,1,7⟩⟩,⟨32,⟨7,7,1,8⟩⟩,⟨45,⟨8,8,1,9⟩⟩,⟨32,⟨9,9,1,10⟩⟩,⟨54,⟨10,10,1,11⟩⟩]) (n:=1) (ds:=[52]) (by kernel_rfl) h1 h2
 refine ScanR.tok _ ⟨52,⟨5,5,1,6⟩⟩ [⟨121,⟨6,6,1,7⟩⟩,⟨32,⟨7,7,1,8⟩⟩,⟨45,⟨8,8,1,9⟩⟩,⟨32,⟨9,9,1,10⟩⟩,⟨54,⟨10,10,1,11⟩⟩] 2 ⟨#[52]⟩ [⟨121,⟨6,6,1,7⟩⟩,⟨32,⟨7,7,1,8⟩⟩,⟨45,⟨8,8,1,9⟩⟩,⟨32,⟨9,9,1,10⟩⟩,⟨54,⟨10,10,1,11⟩⟩] (.ok [⟨1,⟨#[121]⟩,⟨6,6,1,7⟩⟩,⟨3,⟨#[45]⟩,⟨8,8,1,9⟩⟩,⟨2,⟨#[54]⟩,⟨10,10,1,11⟩⟩,⟨0,⟨#[]⟩,⟨11,11,1,12⟩⟩]) (by kernel_rfl) hn5 ?_;refine ScanR.tok _ ⟨121,⟨6,6,1,7⟩⟩ [⟨32,⟨7,7,1,8⟩⟩,⟨45,⟨8,8,1,9⟩⟩,⟨32,⟨9,9,1,10⟩⟩,⟨54,⟨10,10,1,11⟩⟩] 1 ⟨#[121]⟩ [⟨32,⟨7,7,1,8⟩⟩,⟨45,⟨8,8,1,9⟩⟩,⟨32,⟨9,9,1,10⟩⟩,⟨54,⟨10,10,1,11⟩⟩] (.ok [⟨3,⟨#[45]⟩,⟨8,8,1,9⟩⟩,⟨2,⟨#[54]⟩,⟨10,10,1,11⟩⟩,⟨0,⟨#[]⟩,⟨11,11,1,12⟩⟩]) (by kernel_rfl) (af7 (by kernel_rfl) (by kernel_rfl) (by decide) (by kernel_rfl)) ?_;refine ScanR.tok _ ⟨45,⟨8,8,1,9⟩⟩ [⟨32,⟨9,9,1,10⟩⟩,⟨54,⟨10,10,1,11⟩⟩] 3 ⟨#[45]⟩ [⟨32,⟨9,9,1,10⟩⟩,⟨54,⟨10,10,1,11⟩⟩] (.ok [⟨2,⟨#[54]⟩,⟨10,10,1,11⟩⟩,⟨0,⟨#[]⟩,⟨11,11,1,12⟩⟩]) (by kernel_rfl) (agv (by kernel_rfl)) ?_;have hn10:TokR eqs ⟨11,11,1,12⟩ ⟨54,⟨10,10,1,11⟩⟩ [] (.ok 2 ⟨#[54]⟩ []):=by
  have hv:dval (bytesOf (eqs.extract 10 11))=6:=by kernel_rfl
  have h1:IsLen (dval (bytesOf (eqs.extract 10 11))) 1:=⟨[6],⟨by intro z hz;simp at hz;omega,by kernel_rfl⟩,by rw[hv];kernel_rfl,rfl⟩;have h2:IsDec [54] (dval (bytesOf (eqs.extract 10 11))):=⟨by intro z hz;simp at hz;omega,by rw[hv];kernel_rfl,.inr ⟨54,[],rfl,by decide⟩⟩;exact af6 (s:=eqs) (e:=⟨11,11,1,12⟩) (g:=⟨54,⟨10,10,1,11⟩⟩) (r:=[]) (n:=1) (ds:=[54]) (by kernel_rfl) h1 h2
 refine ScanR.tok _ ⟨54,⟨10,10,1,11⟩⟩ [] 2 ⟨#[54]⟩ [] (.ok [⟨0,⟨#[]⟩,⟨11,11,1,12⟩⟩]) (by kernel_rfl) hn10 ?_;exact ScanR.done _ (by kernel_rfl) (by decide)
theorem z_2:zOf ⟨#[50]⟩=2:=by
 have h1:msplit ⟨#[50]⟩=(false,⟨#[50]⟩):=by kernel_rfl
 have h2:Dm.Fine ⟨#[50]⟩:=⟨by decide,by decide,by intro z hz;simp[bytesOf]at hz;omega⟩;have h3:zOf ⟨#[50]⟩=sg false (xOf ⟨#[50]⟩):=by unfold zOf;rw[h1]
 rw[h3,(afn h2).2];exact(by kernel_rfl:sg false (dval (bytesOf ⟨#[50]⟩))=2)
theorem z_4:zOf ⟨#[52]⟩=4:=by
 have h1:msplit ⟨#[52]⟩=(false,⟨#[52]⟩):=by kernel_rfl
 have h2:Dm.Fine ⟨#[52]⟩:=⟨by decide,by decide,by intro z hz;simp[bytesOf]at hz;omega⟩;have h3:zOf ⟨#[52]⟩=sg false (xOf ⟨#[52]⟩):=by unfold zOf;rw[h1]
 rw[h3,(afn h2).2];exact(by kernel_rfl:sg false (dval (bytesOf ⟨#[52]⟩))=4)
theorem z_6:zOf ⟨#[54]⟩=6:=by
 have h1:msplit ⟨#[54]⟩=(false,⟨#[54]⟩):=by kernel_rfl
 have h2:Dm.Fine ⟨#[54]⟩:=⟨by decide,by decide,by intro z hz;simp[bytesOf]at hz;omega⟩;have h3:zOf ⟨#[54]⟩=sg false (xOf ⟨#[54]⟩):=by unfold zOf;rw[h1]
 rw[h3,(afn h2).2];exact(by kernel_rfl:sg false (dval (bytesOf ⟨#[54]⟩))=6)
theorem afe{l:List Tk}{i:Nat}{t t1:Tk}{z:Int}(h:l[i]? = some t)(h1:l[i+1]? = some t1)(hs:tsg t1 sOver=false)(hz:zOf t.text=z):CoefR l i true (i+1) (z:Int):=by
 subst hz;exact .plain t t1 h h1 hs
def rs0:List Rat:=List.replicate 3 0
def rs1:List Rat:=rs0.set 0 (0+sgq false ((2:Int):Rat))
def rs2:List Rat:=rs1.set 1 (0+sgq true ((4:Int):Rat))
def rs3:List Rat:=rs2.set 2 (0+sgq false (-((6:Int):Rat)))
theorem a0t:EqR eqt [⟨#[120]⟩,⟨#[121]⟩] 8 0 (List.replicate 3 0) true 7 rs3:=by
 refine .good 2 rs1 ⟨3,⟨#[61]⟩,⟨3,3,1,4⟩⟩ ?_ rfl (by kernel_rfl) 7 rs3 ?_ ⟨0,⟨#[]⟩,⟨11,11,1,12⟩⟩ rfl rfl
 ·refine⟨_,rfl,?_⟩;refine .last _ _ 2 _ _ ?_ ⟨3,⟨#[61]⟩,⟨3,3,1,4⟩⟩ rfl (by kernel_rfl);exact .next _ rfl rfl 1 _ (afe rfl rfl (by kernel_rfl) z_2) (by constructor <;> decide +kernel) _ rfl (by kernel_rfl) rfl _ _ _ (.yes _ 0 0 rfl (by kernel_rfl) rfl (by constructor <;> decide +kernel) (by constructor <;> decide +kernel))
 ·refine⟨_,rfl,?_⟩;refine .more _ _ 5 _ _ rs2 _ _ ?_ ⟨3,⟨#[45]⟩,⟨8,8,1,9⟩⟩ rfl (by kernel_rfl) ?_
  ·exact .next _ rfl rfl 4 _ (afe rfl rfl (by kernel_rfl) z_4) (by constructor <;> decide +kernel) _ rfl (by kernel_rfl) rfl _ _ _ (.yes _ 1 0 rfl (by kernel_rfl) rfl (by constructor <;> decide +kernel) (by constructor <;> decide +kernel))
  ·refine .last _ _ 7 _ _ ?_ ⟨0,⟨#[]⟩,⟨11,11,1,12⟩⟩ rfl (by kernel_rfl);exact .alone _ rfl rfl 7 _ (afe rfl rfl (by kernel_rfl) z_6) (by constructor <;> decide +kernel) _ rfl (by kernel_rfl) (by decide) 0 rfl (by constructor <;> decide +kernel)
theorem am8:canonZ rs3 = [1,-2,-3]:=by kernel_rfl
theorem am9(w:World)(x y:ByteArray)(e:TypeId):Strs (w.alloc (.cells #[.string x,.string y] e)) (.slice (some ⟨w.heap.size,0,none⟩) 2 2) [x,y]:=by
 refine⟨_,2,rfl,Nat.le_refl _,by decide,rfl,.inr ⟨w.heap.size,0,rfl,by simp,fun j u hu=>?_⟩⟩;have hh:=heap_alloc_new w (.cells #[.string x,.string y] e);rw[Nat.zero_add,cell_of_row _ _ _ _ _ (0,0) hh]
 match j with
 |0=>simpa using hu
 |1=>simpa using hu
 |j+2=>simp at hu
theorem aj6(w:World)(hT:Tabs w)(v:Value)(hv:Strs w v [⟨#[120]⟩,⟨#[121]⟩]):
  Calls Tryz.prog 30 #[.string ⟨#[50,120,32,61,32,52,121,32,45,32,54]⟩,v] w fun r w'=>Below w.heap.size w w'/\∃x,r=.returned (.tuple #[x,.int .i64 0,.agg #[.int .i64 0,.int .i64 0,.int .i64 0,.int .i64 0]])/\CanRow w' x [1,-2,-3] 16:=by
 refine(alf w hT eqs (by decide) v _ hv au7 _ _ eqt a0s ax1 8 16 (by decide) (by decide) (by decide) 7 rs3 a0t rfl ?_ ?_ (by simp)).mono ?_
 ·intro k hk;have hk':k<=3:=hk
  match k,hk' with
  |0,_=>decide +kernel
  |1,_=>decide +kernel
  |2,_=>decide +kernel
  |3,_=>decide +kernel
 ·have h:clr rs3 = [2,-4,-6]:=by kernel_rfl
  rw[h];intro z hz;simp at hz;rcases hz with rfl|rfl|rfl <;> decide +kernel
 ·rintro r w' ⟨hb,⟨_,x,rfl,hO⟩|⟨⟨z,hz,hbig⟩,_⟩⟩
  ·rw[am8]at hO;exact⟨hb,x,rfl,hO.can⟩
  ·rw[am8]at hz;simp at hz;rcases hz with rfl|rfl|rfl <;> exact absurd (by decide +kernel) hbig
theorem ajl(w:World)(a b c:Int)(e:TypeId):Nums (w.alloc (.cells #[.int .i64 a,.int .i64 b,.int .i64 c] e)) (.slice (some ⟨w.heap.size,0,none⟩) 3 3) [a,b,c]:=aif w [a,b,c] (by simp) e
theorem a2m(w:World)(hT:Tabs w):
  Calls Tryz.prog 9 #[] w fun r w'=>r=.returned (.bool true)/\Below w.heap.size w w':=by
 have hb0:=hAl w (.cells #[.string ⟨#[120]⟩,.string ⟨#[121]⟩] 9);have K:=hide (aj6 _ (hT.below hb0) _ (am9 w ⟨#[120]⟩ ⟨#[121]⟩ 9));have HT:=hide hT;clear hT;go_enter Tryz.func9,Tryz.ntmps9
 go_wp2_with fail
 refine K.out.mono ?_;rintro r w1 ⟨hb1,x,rfl,hcx⟩;obtain⟨ax,cx,hvx,_⟩:=hcx.is.parts;subst hvx;have hbA:=hAl w1 (.cells #[.int .i64 0,.int .i64 0,.int .i64 0,.int .i64 0] 56);have hb1':=hb0.trans (hb1.mono hb0.size);have hb2:=hb1'.trans (hbA.mono hb1'.size);have HB2:=hide hb2;have HCX:=hide (hcx.below hbA);clear hb0 hb1 hb1' hcx K hbA;go_wp2_with fail
 generalize hW2:w1.alloc (.cells #[.int .i64 0,.int .i64 0,.int .i64 0,.int .i64 0] 56)=w2 at *
 have hs2:w2.heap.size=w1.heap.size+1:=by rw[<-hW2];simp
 rw[<-hs2];have hz3:∀z∈([1,-2,-3]:List Int),-9223372036854775808<=z/\z<=9223372036854775807:=by intro z hz;simp at hz;rcases hz with rfl|rfl|rfl <;> decide
 have HZ3:=hide hz3;have hbn2:=hAl w2 (.cells #[.int .i64 1,.int .i64 (-2),.int .i64 (-3)] 3);refine(apg _ _ [1,-2,-3] (ajl w2 1 (-2) (-3) 3) hz3 (by decide)).mono ?_;rintro e w3 ⟨r3,rfl,hr3,hb3⟩;obtain⟨a3,c3,hv3,_⟩:=hr3.is.parts;subst hv3;have hb23:=hbn2.trans (hb3.mono hbn2.size);have HB3:=hide (HB2.out.trans (hb23.mono HB2.out.size));have HCX3:=hide (HCX.out.below hb23);have hbs:=hAl w3 (.cells #[.string ⟨#[120]⟩,.string ⟨#[121]⟩] 9);have K4:=hide (aof _ ((HT.out.below HB3.out).below hbs) _ _ 2 (hr3.is.below hbs) (by decide) (am9 w3 ⟨#[120]⟩ ⟨#[121]⟩ 9) au7);have HBS:=hide hbs;clear hb3 hb23 hbn2 hr3 hbs hz3 hW2 hs2;go_wp2_with fail
 refine K4.out.mono ?_;rintro e w4 ⟨rfl,hb4⟩;have hb34:=HBS.out.trans (hb4.mono HBS.out.size);have HB4:=hide (HB3.out.trans (hb34.mono HB3.out.size));have HCX4:=hide (HCX3.out.below hb34);have hbn4:=hAl w4 (.cells #[.int .i64 1,.int .i64 (-2),.int .i64 (-3)] 3);have K5:=hide (apg _ _ [1,-2,-3] (ajl w4 1 (-2) (-3) 3) HZ3.out (by decide));have HBN4:=hide hbn4;clear hb4 hb34 hbn4 K4;go_wp2_with fail
 refine K5.out.mono ?_;rintro e w5 ⟨r5,rfl,hr5,hb5⟩;obtain⟨a5,c5,hv5,_⟩:=hr5.is.parts;subst hv5;have hb45:=HBN4.out.trans (hb5.mono HBN4.out.size);have HB5:=hide (HB4.out.trans (hb45.mono HB4.out.size));have K6:=hide (ahs w5 _ _ [1,-2,-3] 16 2 (HCX4.out.below hb45) hr5);have hst:((⟨#[120,32,45,32,50,42,121,32,61,32,45,51]⟩:ByteArray).toList == [120,32,45,32,50,42,121,32,61,32,45,51])=true:=by rw[ByteArray.toList_eq];decide
 clear hb5 hb45 hr5 K5;go_wp2_with fail
 refine K6.out.mono ?_;rintro e w6 ⟨rfl,hb6⟩;have HB6:=hide (HB5.out.trans (hb6.mono HB5.out.size));clear hb6 K6;go_wp2;refine bodyPost_ret (v:=_) (by simp[results,Tryz.results9,go_sem];try rfl) rfl ⟨rfl,HB6.out⟩
theorem au8{w w':World}{p:Nat}{us:List Nat}(hp:w.heap[p]? = some (.cells #[.slice none 0 0,.slice none 0 0] 40 (0,0)))(k:Kp w w' p us)(hus:∀j∈us,w.heap.size<=j){b off:Nat}{u:Value}(h:w.cell? ⟨b,off,none⟩=some u)(hu:u≠.slice none 0 0):w'.cell? ⟨b,off,none⟩=some u:=by
 have hb:b<w.heap.size:=aao h;have hbp:b≠p:=by
  rintro rfl;rw[cell_of_row _ _ _ _ _ (0,0) hp]at h
  match off,h with
  |0,h=>exact hu (by simpa using h.symm)
  |1,h=>exact hu (by simpa using h.symm)
  |_+2,h=>simp at h
 rw[World.cell?_of_block (w:=w) (k.other b hb hbp (fun hj=>by have:=hus b hj;omega))];exact h
theorem au9{w w':World}{p:Nat}{us:List Nat}(hp:w.heap[p]? = some (.cells #[.slice none 0 0,.slice none 0 0] 40 (0,0)))(k:Kp w w' p us)(hus:∀j∈us,w.heap.size<=j){v:Value}{zs:List Int}{L:Nat}(h:CanRow w v zs L):CanRow w' v zs L:=by
 obtain⟨es,⟨hcl,hsl⟩,h2,h3⟩:=h;refine⟨es,⟨?_,fun e he=>?_⟩,h2,h3⟩
 ·obtain⟨ao,cap,rfl,c1,c2,c3,c4⟩:=hcl;refine⟨ao,cap,rfl,c1,c2,c3,?_⟩;rcases c4 with c4|⟨b,off,rfl,hb,hc⟩
  ·exact .inl c4
  ·by_cases h0:es.length=0
   ·exact .inl h0
   obtain⟨e0,he0⟩:∃e,es[0]? = some e:=⟨_,List.getElem?_eq_getElem (by omega)⟩;have hb0:=hc _ _ (acb he0).1;have hbp:b≠p:=by
    rintro rfl;rw[cell_of_row _ _ _ _ _ (0,0) hp]at hb0
    match off,hb0 with
    |0,h=>simp at h
    |1,h=>simp at h
    |_+2,h=>simp at h
   refine .inr ⟨b,off,rfl,Nat.lt_of_lt_of_le hb k.size,fun j u hu=>?_⟩;rw[World.cell?_of_block (w:=w) (k.other b hb hbp (fun hj=>by have:=hus b hj;omega))];exact hc j u hu
 ·obtain⟨ao,cap,e1,c1,c2,c3,c4⟩:=hsl e he;refine⟨ao,cap,e1,c1,c2,c3,?_⟩;rcases c4 with c4|⟨b,off,e2,hc⟩
  ·exact .inl c4
  ·exact .inr ⟨b,off,e2,fun i hi=>au8 hp k hus (hc i hi) (by simp)⟩
theorem ax2{w w1 w2:World}{p:Nat}{us:List Nat}(k:Kp w w1 p us)(hb:Below w1.heap.size w1 w2):Kp w w2 p us:=
 ⟨hb.os.trans k.os,hb.tape.trans k.tape,hb.output.trans k.output,Nat.le_trans k.size hb.size,fun j hj hp hn=>(hb.block j (Nat.lt_of_lt_of_le hj k.size)).trans (k.other j hj hp hn)⟩
theorem ary(w:World)(ax:Option Addr)(cx:Nat):Calls Tryz.prog 21 #[.slice ax 0 cx] w fun e w'=>e=.returned (.tuple #[.slice none 0 0,.int .i64 1])/\w'=w:=by
 go_enter Tryz.func21,Tryz.ntmps21
 go_wp2;refine bodyPost_ret (v:=_) (by simp[results,Tryz.results21,go_sem];try rfl) rfl ⟨rfl,rfl⟩
theorem ana(w:World)(ax:Option Addr)(cx:Nat):Calls Tryz.prog 19 #[.slice ax 0 cx] w fun e w'=>e=.returned (.tuple #[.slice none 0 0,.int .i64 1])/\w'=w:=by
 go_enter Tryz.func19,Tryz.ntmps19
 go_wp2;refine bodyPost_ret (v:=_) (by simp[results,Tryz.results19,go_sem];try rfl) rfl ⟨rfl,rfl⟩
theorem ahu(w:World)(L:Nat):CanRow w (.slice none 0 0) [] L:=⟨[],⟨⟨none,0,rfl,Nat.le_refl _,by omega,rfl,.inl rfl⟩,fun e he=>by cases he⟩,rfl,fun k e z he=>by simp at he⟩
theorem aog(es:List QE)(hl:lenQ es<=1500):∃(zs:List Int) (pe:Int),zs.length<=1500 /\
  (∀w v fs,Rq w v fs->lenQ fs<=1500->SameQ fs es->Calls Tryz.prog 21 #[v] w fun x w'=>∃r,x=.returned (.tuple #[r,.int .i64 pe])/\TRow w.heap.size w' r zs 4000/\Below w.heap.size w w') /\
  (∀w v,Rq w v es->Calls Tryz.prog 19 #[v] w fun x w'=>∃r,x=.returned (.tuple #[r,.int .i64 pe])/\CanRow w' r zs 12000/\Below w.heap.size w w'):=by
 by_cases hne:es = []
 ·subst hne;refine⟨[],1,by simp,fun w v fs h _ hs=>?_,fun w v h=>?_⟩
  ·obtain rfl:fs = []:=List.eq_nil_of_length_eq_zero hs.len;obtain⟨ao,cap,rfl,_⟩:=id h.ce;refine(ary w ao cap).mono ?_;rintro e w' ⟨rfl,rfl⟩;exact⟨_,rfl,.inr ⟨rfl,rfl⟩,Below.refl _ _⟩
  ·obtain⟨ao,cap,rfl,_⟩:=id h.ce;refine(ana w ao cap).mono ?_;rintro e w' ⟨rfl,rfl⟩;exact⟨_,rfl,ahu _ _,Below.refl _ _⟩
 have hlen:=ad1 es;have hcz:(canonZ (es.map QE.w)).length=es.length:=by simp[canonZ,red,clr]
 have prog:∀w v fs,Rq w v fs->lenQ fs<=1500->SameQ fs es->Calls Tryz.prog 21 #[v] w fun e w'=>Below w.heap.size w w'/\(((∀z∈canonZ (es.map QE.w),(z.natAbs:Int)<pw 32)/\∃r,e=.returned (.tuple #[r,.int .i64 0])/\ORow w.heap.size w' r (canonZ (es.map QE.w)) 4000)\/((∃z∈canonZ (es.map QE.w),¬(z.natAbs:Int)<pw 32)/\e=.returned (.tuple #[.slice none 0 0,.int .i64 2]))):=fun w v fs h hf hs=>by
  obtain⟨hC,hZ⟩:=h.bounds hf;have hq:=h.isq (L:=1500) (fun e he=>by have:=(h.fits e he).2;have:=af8 he;omega);rw[hs.w]at hC hZ hq;exact akw w v (es.map QE.w) 1500 4000 hq (by omega) (by omega) (by omega) (by simp;omega) hC hZ (fun e=>hne (by simpa using e))
 have doc:∀w v,Rq w v es->Calls Tryz.prog 19 #[v] w fun e w'=>Below w.heap.size w w'/\(((∀z∈canonZ (es.map QE.w),(z.natAbs:Int)<pw 32)/\∃r,e=.returned (.tuple #[r,.int .i64 0])/\CanRow w' r (canonZ (es.map QE.w)) 12000)\/((∃z∈canonZ (es.map QE.w),¬(z.natAbs:Int)<pw 32)/\e=.returned (.tuple #[.slice none 0 0,.int .i64 2]))):=fun w v h=>by
  obtain⟨ao,cap,rfl,_⟩:=id h.ce;exact aoa w ao _ cap es h hl hne
 by_cases hbig:∃z∈canonZ (es.map QE.w),¬(z.natAbs:Int)<pw 32
 ·refine⟨[],2,by simp,fun w v fs h hf hs=>(prog w v fs h hf hs).mono ?_,fun w v h=>(doc w v h).mono ?_⟩
  ·rintro e w' ⟨hb,⟨h1,_⟩|⟨_,rfl⟩⟩
   ·obtain⟨z,hz,hn⟩:=hbig;exact absurd (h1 z hz) hn
   ·exact⟨_,rfl,.inr ⟨rfl,rfl⟩,hb⟩
  ·rintro e w' ⟨hb,⟨h1,_⟩|⟨_,rfl⟩⟩
   ·obtain⟨z,hz,hn⟩:=hbig;exact absurd (h1 z hz) hn
   ·exact⟨_,rfl,ahu _ _,hb⟩
 ·refine⟨canonZ (es.map QE.w),0,by omega,fun w v fs h hf hs=>(prog w v fs h hf hs).mono ?_,fun w v h=>(doc w v h).mono ?_⟩
  ·rintro e w' ⟨hb,⟨_,r,rfl,ho⟩|⟨h1,_⟩⟩
   ·exact⟨r,rfl,.inl ho,hb⟩
   ·exact absurd h1 hbig
  ·rintro e w' ⟨hb,⟨_,r,rfl,ho⟩|⟨h1,_⟩⟩
   ·exact⟨r,rfl,ho,hb⟩
   ·exact absurd h1 hbig
theorem TRow.ownk{K:Nat}{w0:World}{r:Value}{zs:List Int}{L:Nat}(h:TRow K w0 r zs L)(w:World)(p Q m:Nat)(bs:List Nat)(hb:Below w0.heap.size w0 w)(hB:Bs w p Q bs m)(hQ:Q<=K)(hp:p<K)(hm:m+zs.length<=100000)(hbs:∀j∈bs,j<K):
  Calls Tryz.prog 24 #[.pointer (some ⟨p,0,none⟩),r] w fun e w'=>e=.returned (.bool true)/\∃bs' us m',m'<=m+zs.length/\Bs w' p Q bs' m'/\Kp w w' p us/\(∀j∈us,j∈bs\/K<=j):=by
 rcases h with h|⟨rfl,rfl⟩
 ·obtain⟨bv,es,B,T,rfl,hKb,hbl,hrow⟩:=h.brow;refine(axh w p Q m bv zs.length bs es B T K w0.heap.size hB hm (hrow.below hb) hQ hKb hp hbl hb.size hbs).mono ?_;rintro e w' ⟨rfl,bs',us,h1,h2,h3,h4⟩;exact⟨rfl,bs',us,_,Nat.le_refl _,h1,h2,h3⟩
 ·refine(arn w p).mono ?_;rintro e w' ⟨rfl,rfl⟩;exact⟨rfl,bs,[],m,by omega,hB,Kp.refl _ _ _,fun j hj=>by cases hj⟩
theorem Rq.lenq{w:World}{v:Value}{es:List QE}(h:Rq w v es):lenQ es=((es.map QE.raw).map (fun x=>1+x.2.1.length+x.2.2.length)).sum:=by
 have key:∀l:List QE,(∀e∈l,e.zs.length=e.r.m/\e.ys.length=e.r.k)->lenQ l=((l.map QE.raw).map (fun x=>1+x.2.1.length+x.2.2.length)).sum:=by
  intro l;induction l with
  |nil=>intro _;rfl
  |cons e l ih=>
   intro hl;have h1:=hl e (by simp);simp only[lenQ,List.map_cons,List.sum_cons,QE.raw,ih (fun x hx=>hl x (by simp[hx]))];omega
 exact key es (fun e he=>(h.fits e he).2)
theorem SameQ.lenq{w w':World}{v v':Value}{es fs:List QE}(hs:SameQ es fs)(h:Rq w v es)(h':Rq w' v' fs):lenQ es=lenQ fs:=by
 rw[h.lenq,h'.lenq,hs]
theorem Bs.ids{w:World}{p Q n:Nat}{bs:List Nat}(h:Bs w p Q bs n):∀j∈bs,Q<=j/\j<w.heap.size:=by
 obtain⟨rv,lv,mv,_,hk⟩:=h;exact hk.low
theorem alg(w:World)(hT:Tabs w)(ax:Option Addr)(mx cx:Nat)(xs:List QE)(R:Rq w (.slice ax mx cx) xs)(hx:lenQ xs<=1048576):
  Calls Tryz.prog 4 #[.slice ax mx cx] w fun e w'=>e=.returned (.bool true)/\Below w.heap.size w w':=by
 have K1:=hide (a2m w hT);have HX:=hide R;obtain⟨sx,hsx⟩:∃sx,lenQ xs=sx:=⟨_,rfl⟩;rw[hsx]at hx;have HSx:=hide hsx;clear R hT hsx;go_enter Tryz.func4,Tryz.ntmps4
 go_wp2_with fail
 refine K1.out.mono ?_;rintro e w1 ⟨rfl,hb1⟩;have K2:=axg w1 _ _ _ _ (HX.out.below hb1) (by have:=HSx.out;omega);rw[HSx.out]at K2;have K2:=hide K2;have HB1:=hide hb1;clear hb1 K1;go_wp2_with fail
 refine K2.out.mono ?_;rintro e w2 ⟨rfl,hb2⟩;have HB2:=hide (HB1.out.trans (hb2.mono HB1.out.size));clear hb2 K2 HB1;by_cases hlong:1500<(sx:Int)
 ·have hl':decide (1500<(sx:Int))=true:=by simpa using hlong
  go_wp2;refine bodyPost_ret (v:=_) (by simp[results,Tryz.results4,go_sem];try rfl) rfl ⟨rfl,HB2.out⟩
 ·have hl':decide (1500<(sx:Int))=false:=by simpa using hlong
  have HLG:Hid (lenQ xs<=1500):=(show lenQ xs<=1500 by have:=HSx.out;omega);obtain⟨zs,pe,hzl,hP,hD⟩:=aog xs HLG.out;have HP:=hide hP;have HZL:=hide hzl;have hee:(pe != pe)=false:=by simp
  have hbK:=hAl w2 (.cells #[.slice none 0 0,.slice none 0 0] 40);have hnK:=heap_alloc_new w2 (.cells #[.slice none 0 0,.slice none 0 0] 40);have hb3:=HB2.out.trans (hbK.mono HB2.out.size);have K3:=hide (hD _ _ (HX.out.below hb3));have HB3:=hide hb3;have HPS:Hid (w.heap.size<=w2.heap.size):=HB2.out.size;clear hlong hP hD hzl hbK hb3;go_wp2_with fail
  generalize (w2.alloc (.cells #[.slice none 0 0,.slice none 0 0] 40))=w3 at *
  generalize w2.heap.size=p at *
  refine K3.out.mono ?_;rintro e wo ⟨want,rfl,hcw,hbo⟩;obtain⟨aw,cw,hvw,_⟩:∃aw cw,want=.slice aw zs.length cw/\True:=by obtain⟨ys,⟨⟨aw,cw,rfl,_⟩,_⟩,hl,_⟩:=hcw;exact⟨aw,cw,by rw[hl],trivial⟩
  subst hvw;have hpo:=(hbo.block p (aaa hnK)).trans hnK;have HPO:=hide hpo;have HPL:Hid (p<wo.heap.size):=aaa hpo;have HCW:=hide hcw;have HBO:=hide (HB3.out.trans (hbo.mono HB3.out.size));clear hcw hbo hpo hnK K3 HB3 HB2;go_wp2_with fail
  go_loopw [6,7,8,9] (fun iv _ _ _ wr=>∃(i m:Nat) (bs us:List Nat),iv=.int .i64 i/\i<=2/\m<=i*1500/\Bs wr p wo.heap.size bs m/\Kp wo wr p us/\∀j∈us,wo.heap.size<=j) (fun iv _ _ _ _=>2-(intOf iv).toNat)
  case atStart=>exact⟨0,0,[],[],rfl,by omega,by omega,Bs.new HPO.out,Kp.refl _ _ _,fun j hj=>by cases hj⟩
  case round=>
   obtain⟨i,m,bs,us,rfl,hi,hm,hbs,hk,hus⟩:=hrel;have hwo:=HBO.out.size;have HW:=hide (HBO.out.trans (hk.below HPS.out (fun j hj=>Nat.le_trans hwo (hus j hj)) hwo));have HBS:=hide hbs;have HK:=hide (And.intro hk hus);clear hbs hk hus hwo;by_cases hlt:i<2
   ·have hlt':(i:Int)<2:=by omega
    have K4:=hide (auh wr _ _ _ _ (HX.out.below HW.out) (by have:=HLG.out;omega));go_wp2_with fail
    refine K4.out.mono ?_;rintro e w4 ⟨vg,es,rfl,ho4,hs4,hb4⟩;obtain⟨ag,cg,hvg,_⟩:=Ce.own ho4.own;subst hvg;have HO4:=hide ho4.rq;have HS4:=hide hs4;have HB4:=hide hb4;have K5:=hide (HP.out w4 _ es HO4.out (by rw[hs4.lenq HO4.out HX.out];exact HLG.out) hs4);clear ho4 hs4 hb4 K4;go_wp2_with fail
    refine K5.out.mono ?_;rintro e w5 ⟨got,rfl,ht5,hb5⟩;have HT5:=hide ht5;have H45:=hide hb5;have hc5:=ht5.can;obtain⟨a5,c5,hv5,_⟩:∃aw cw,got=.slice aw zs.length cw/\True:=by obtain⟨ys,⟨⟨aw,cw,rfl,_⟩,_⟩,hl,_⟩:=hc5;exact⟨aw,cw,by rw[hl],trivial⟩
    subst hv5;have hr5:=HB4.out.trans (hb5.mono HB4.out.size);have HR5:=hide hr5;have K6:=hide (ahs w5 _ _ zs 4000 12000 hc5 ((au9 HPO.out HK.out.1 HK.out.2 HCW.out).below hr5));clear ht5 hb5 hc5 hr5 K5;go_wp2_with (go_at_call 11;refine(azr _ _).mono ?_;rintro r w' ⟨rfl,rfl⟩)
    refine K6.out.mono ?_;rintro e w6 ⟨rfl,hb6⟩;have H56:=hide hb6;have HR6:=hide (HR5.out.trans (hb6.mono HR5.out.size));have K7:=hide (aui w6 _ _ _ _ (HO4.out.below (H45.out.trans (hb6.mono H45.out.size))) _ _ _ _ (HX.out.below (HW.out.trans (HR6.out.mono HW.out.size))) HS4.out);clear hb6 K6;go_wp2_with fail
    refine K7.out.mono ?_;rintro e w7 ⟨rfl,hb7⟩;have H57:=hide (H56.out.trans (hb7.mono H56.out.size));have HR7:=hide (HR6.out.trans (hb7.mono HR6.out.size));have h4:=HB4.out.size;have hko:=HK.out.1.size;have hpl:=HPL.out;have K8:=hide (HT5.out.ownk w7 p wo.heap.size m bs H57.out (HBS.out.below HR7.out) (by omega) (by omega) (by have:=HZL.out;omega) (fun j hj=>by have:=(HBS.out.ids j hj).2;omega));have HKO:Hid (wo.heap.size<=w4.heap.size):=(show wo.heap.size<=w4.heap.size by omega);clear hb7 K7 h4 hko hpl;go_wp2_with fail
    refine K8.out.mono ?_;rintro e w8 ⟨rfl,bs',us',m',hm',hbs',hk',hus'⟩;have HB8:=hide hbs';have HK8:Hid (Kp wo w8 p (us++us')/\∀j∈us++us',wo.heap.size<=j):=⟨apk (ax2 HK.out.1 HR7.out) hk',fun j hj=>by
     rcases List.mem_append.1 hj with hj|hj
     ·exact HK.out.2 j hj
     ·rcases hus' j hj with h|h
      ·exact(HBS.out.ids j h).1
      ·exact Nat.le_trans HKO.out h⟩
    have hm9:m'<=(i+1)*1500:=by have:=HZL.out;omega
    clear hbs' hk' hus' K8 hm';go_wp2;go_roundw
    case rel=>exact⟨i+1,m',bs',us++us',by go_num,by omega,hm9,HB8.out,HK8.out.1,HK8.out.2⟩
    case measure=>simp[intOf];omega
   ·have hlt':decide ((i:Int)<2)=false:=by simp;omega
    have K9:=hide (a1n wr p _ _ _ HBS.out (by omega));go_wp2_with fail
    refine K9.out.mono ?_;rintro e w9 ⟨rfl,hb9⟩;have HB9:=hide (HW.out.trans (hb9.mono HW.out.size));clear hb9 K9;go_wp2;refine bodyPost_ret (v:=_) (by simp[results,Tryz.results4,go_sem];try rfl) rfl ⟨rfl,HB9.out⟩
end Lm
namespace Lm
open Go Go.RowKit Go.ChangeShapes Go.WideShapes Go.ChangeAt Go.Deep
instance:Inhabited QE:=⟨⟨⟨false,none,0,0,none,0,0⟩,[],[]⟩⟩
theorem ajm{H:Type}{enc:TypeId×Value->H}{w:World}{fuel:Nat}{v:Value}{x:DataW H×List MemPlace}(h:DataW.trod enc Tryz.prog w 0 (fun _=>true) true fuel 38 [v]=some x):∃a l c zs,v=.slice a l c/\Sl w v zs/\l+1<=Rows.uptoBulk x.1:=by
 rcases open_ints Tryz.underlying38 Tryz.underlying70 (by kernel_rfl) h with⟨hcs,hx⟩|⟨a,l,c,zs,hcs,_,hl,hm,hz,hx,hcell,hwz⟩
 ·obtain rfl:v=.slice none 0 0:=by simpa using hcs
  exact⟨none,0,0,[],rfl,⟨none,0,rfl,Nat.le_refl _,by simp[maxLen],aac,.inl rfl⟩,by rw[hx];simp[Rows.uptoBulk]⟩
 ·obtain rfl:v=.slice (some a) l c:=by simpa using hcs
  have hz':zs.length=c:=by simpa using hz
  refine⟨some a,l,c,zs.take l,rfl,azj hl hm hz' hcell hwz,?_⟩;have hd:x.1=.slice (lits .u32 (zs.take l)) (lits .u32 (zs.drop l)):=congrArg Prod.fst hx;have hll:(zs.take l).length=l:=by rw[List.length_take];omega
  simp only[Rows.uptoBulk,hd,atj,hll];omega
theorem a0u(E:Nat->QE)(n:Nat):∀j u,(rf3 (((List.range n).map E).map QE.r))[j]? = some u->j/3<n/\u=(if j%3=0 then .bool (E (j/3)).r.ng else if j%3=1 then .slice (E (j/3)).r.a (E (j/3)).r.m (E (j/3)).r.c else .slice (E (j/3)).r.d (E (j/3)).r.k (E (j/3)).r.e):=by
 intro j u hu;have hj:j<(rf3 (((List.range n).map E).map QE.r)).length:=(List.getElem?_eq_some_iff.1 hu).1;rw[aei,List.length_map,List.length_map,List.length_range]at hj;have hk:j/3<n:=by omega
 have he:(((List.range n).map E).map QE.r)[j/3]? = some (E (j/3)).r:=by simp[hk]
 obtain⟨h1,h2,h3⟩:=afm he;refine⟨hk,?_⟩;by_cases h0:j%3=0
 ·rw[if_pos h0];rw[show j/3*3=j by omega,hu]at h1;exact Option.some.inj h1
 ·rw[if_neg h0];by_cases h4:j%3=1
  ·rw[if_pos h4];rw[show j/3*3+1=j by omega,hu]at h2;exact Option.some.inj h2
  ·rw[if_neg h4];rw[show j/3*3+2=j by omega,hu]at h3;exact Option.some.inj h3
theorem ava{H:Type}{enc:TypeId×Value->H}{w:World}{fuel:Nat}{ao:Option Addr}{n cap:Nat}{x:DataW H×List MemPlace}(h:DataW.trod enc Tryz.prog w 0 (fun _=>true) true fuel 34 [.slice ao n cap]=some x):
  ∃es,Rq w (.slice ao n cap) es/\lenQ es+1<=Rows.uptoBulk x.1:=by
 have kR:Tryz.prog.cellsOf 62=3:=by kernel_rfl
 have kW:Tryz.prog.cellsOf 60=2:=by kernel_rfl
 have kS:Tryz.prog.cellsOf 38=1:=by kernel_rfl
 have kB:Tryz.prog.cellsOf 4=1:=by kernel_rfl
 rcases open_slice Tryz.underlying34 h with⟨hcs,rfl⟩|⟨a,len,cap',m,k,D,Pl,hcs,_,hl,hm,hmm,rfl,hall⟩
 ·obtain⟨rfl,rfl,rfl⟩:ao=none/\n=0/\cap=0:=by simpa using hcs
  exact⟨[],⟨⟨none,0,rfl,Nat.le_refl _,by omega,rfl,.inl rfl⟩,(fun e he=>by cases he),(fun e he=>by cases he)⟩,by simp[lenQ,Rows.uptoBulk]⟩
 obtain⟨rfl,rfl,rfl⟩:ao=some a/\n=len/\cap=cap':=by simpa using hcs
 simp only[if_true]at hmm;subst hmm;have each:∀i,i<m->∃e:QE,w.cell? (a.add (i*3))=some (.bool e.r.ng)/\w.cell? (a.add (i*3+1))=some (.slice e.r.a e.r.m e.r.c)/\w.cell? (a.add (i*3+2))=some (.slice e.r.d e.r.k e.r.e)/\Sl w (.slice e.r.a e.r.m e.r.c) e.zs/\Sl w (.slice e.r.d e.r.k e.r.e) e.ys/\1+e.r.m+e.r.k<=Rows.uptoBulk (D i):=by
  intro i hi;obtain⟨cs,h1,h2⟩:=hall i hi;rw[kR]at h1;obtain⟨_,hlen,hcell⟩:=World.cells?_some h1
  match cs,hlen with
  | [c0,c1,c2],_=>
   have e0:=hcell 0 (by omega);have e1:=hcell 1 (by omega);have e2:=hcell 2 (by omega);rw[add_add]at e0 e1 e2;obtain⟨y0,y1,n1,hx,_,t0,t1⟩:=trod_struct2 Tryz.underlying62 h2;obtain⟨z0,z1,n2,hx2,_,s0,s1⟩:=trod_struct2 Tryz.underlying60 t0;have s0':DataW.trod enc Tryz.prog w 0 (fun _=>true) true n2 4 [c0]=some z0:=by simpa[kW,kB]using s0
   have s1':DataW.trod enc Tryz.prog w 0 (fun _=>true) true n2 38 [c1]=some z1:=by simpa[kW,kS]using s1
   have t1':DataW.trod enc Tryz.prog w 0 (fun _=>true) true n1 38 [c2]=some y1:=by simpa[kS]using t1
   have hd:D i=.agg [.agg [z0.1,z1.1],y1.1]:=by
    have h1:=congrArg Prod.fst hx;have h2:=congrArg Prod.fst hx2;simp only at h1 h2;rw[h1,h2]
   clear s0 s1 t1 t0 hx hx2;obtain⟨b,hb0,_⟩:=DataW.trod_bool Tryz.underlying4 s0';obtain rfl:c0=.bool b:=by simpa using hb0
   obtain⟨a1,l1,q1,zs,rfl,hs1,hb1⟩:=ajm s1';obtain⟨a2,l2,q2,ys,rfl,hs2,hb2⟩:=ajm t1';refine⟨⟨⟨b,a1,l1,q1,a2,l2,q2⟩,zs,ys⟩,by simpa using e0,by simpa using e1,by simpa using e2,hs1,hs2,?_⟩;rw[hd];simp only[Rows.uptoBulk,Rows.uptoBulkAll];omega
 obtain⟨E,hE⟩:=choose_lt each;refine⟨(List.range n).map E,⟨⟨some a,m,by rw[List.length_map,List.length_range],by rw[List.length_map,List.length_range];exact hl,by simpa[maxLen]using hm,by rw[aei];simp,?_⟩,fun e he=>?_,fun e he=>?_⟩,?_⟩
 ·by_cases h0:n=0
  ·exact .inl (by rw[List.length_map,List.length_range];exact h0)
  ·obtain⟨b,off,spot⟩:=a;have h1:=(hE 0 (by omega)).1;have hspot:spot=none:=by simpa[Addr.add]using World.cell?_spot h1
   subst hspot;have hadd:∀i,(⟨b,off,none⟩:Addr).add i=⟨b,off+i,none⟩:=fun i=>by
    by_cases hi0:i=0
    ·subst hi0;simp[Addr.add]
    ·simp[Addr.add,hi0]
   refine .inr ⟨b,off,rfl,aao (off:=off+0*3) (by rw[<-hadd];exact h1),fun j u hu=>?_⟩;obtain⟨hj,rfl⟩:=a0u E n j u hu;obtain⟨c0,c1,c2,_⟩:=hE (j/3) (by omega);rw[hadd]at c0 c1 c2;by_cases hj0:j%3=0
   ·rw[show off+j/3*3=off+j by omega]at c0;rw[if_pos hj0];exact c0
   ·rw[if_neg hj0];by_cases hj1:j%3=1
    ·rw[show off+(j/3*3+1)=off+j by omega]at c1;rw[if_pos hj1];exact c1
    ·rw[show off+(j/3*3+2)=off+j by omega]at c2;rw[if_neg hj1];exact c2
 ·obtain⟨i,hi,rfl⟩:=List.mem_map.1 he;exact(hE i (by have:=List.mem_range.1 hi;omega)).2.2.2.1
 ·obtain⟨i,hi,rfl⟩:=List.mem_map.1 he;exact(hE i (by have:=List.mem_range.1 hi;omega)).2.2.2.2.1
 ·have key:∀k,k<=n->lenQ ((List.range k).map E)<=Rows.uptoBulkAll ((List.range k).map D):=by
   intro k hk;induction k with
   |zero=>simp[lenQ]
   |succ k ih=>
    have h1:=ih (by omega);have h2:=(hE k (by omega)).2.2.2.2.2;rw[List.range_succ,List.map_append,List.map_append,afd,anu];simp only[List.map_cons,List.map_nil,lenQ,Rows.uptoBulkAll]at h1 h2 ⊢;omega
  have:=key n (Nat.le_refl _);simp only[Rows.uptoBulk];omega
end Lm
namespace affineCanonsLaw
open Go.ChangeShapes Go.WideShapes Go.ChangeAt Go.RowKit
open Go.ChangeMaps (open_string shut_string)
theorem own:ownKnob Tryz.prog.godebug=none:=by kernel_rfl
theorem laidOut:laidOutB Tryz.prog=true:=by kernel_rfl
noncomputable def laidWorld(os:Os):World:=
 let w0:=World.holding Tryz.prog os ⟨#[],#[],[]⟩
 let put (h:Array Obj) (g:Nat) (cs:Array Value):Array Obj:=h.modify g fun
  |.cells _ t frozen=>.cells cs t frozen
  |o=>o
 let h1:=put w0.heap (Tryz.lays197_ren.g 3) (Lib.firstTab.map fun z=>Value.int .u8 z).toArray
 let h2:=put h1 (Tryz.lays197_ren.g 4) ((List.range 16).flatMap fun i=>[Value.int .u8 (Lib.accLo i),Value.int .u8 (Lib.accHi i)]).toArray
 {w0 with heap:=h2}
theorem laid_met(os:Os):laidMet Tryz.prog Rows.affineCanonsUptoRow.laid ((laidWorld os).forCall (fun _ _=>0) ⟨#[],#[.slice none 0 0],[]⟩).memory:=
 laidMet_of_run' 8 (by kernel_rfl) (by kernel_rfl)
theorem tabs{W:World}(h:laidMet Tryz.prog Rows.affineCanonsUptoRow.laid W):Lm.Tabs W:=
 utf8Tabs_of_reads (ρ:=Tryz.lays197_ren) {Tryz.lays197 with} ⟨by kernel_rfl,by kernel_rfl,by kernel_rfl,by kernel_rfl,by kernel_rfl,by kernel_rfl,by kernel_rfl⟩
  (Lib.laidMet.reads h (show ("unicode/utf8.first", Lib.firstData) ∈ Rows.affineCanonsUptoRow.laid from by
   rw[show Lib.firstData=Rows.laid_unicode_utf8_first from by kernel_rfl]
   exact .tail _ (.head _)))
  (Lib.laidMet.reads h (show ("unicode/utf8.acceptRanges", Lib.acceptData) ∈ Rows.affineCanonsUptoRow.laid from by
   rw[show Lib.acceptData=Rows.laid_unicode_utf8_acceptRanges from by kernel_rfl]
   exact .head _))
theorem reads(os:Os){H:Type}(enc:TypeId×Value->H):∃places,DataW.whole enc Tryz.prog ((laidWorld os).forCall (fun _ _=>0) ⟨#[],#[.slice none 0 0],[]⟩).memory Tryz.f4.params.toList Rows.affineCanonsSpec.vars false (#[.slice none 0 0]:Array Value).toList 8=some ([.nil],[],places):=
 ⟨[],by kernel_rfl⟩
set_option linter.unusedVariables false in
set_option maxRecDepth 100000 in
theorem lifted(os:Os)(started:os.Started)(H:Type)(enc:TypeId×Value->H)(F:Stop.Interp):
  ReturnsInHanded {} Tryz.checked os 4 .any ((Rows.OpenSpec.upto Rows.affineCanonsSpec).preRow enc Tryz.prog Tryz.f4 Rows.affineCanonsUptoRow.domain false Rows.affineCanonsUptoRow.laid) (((Rows.OpenSpec.upto Rows.affineCanonsSpec).at F).post enc Tryz.prog Tryz.f4 false true false false):=by
 obtain⟨places,hx⟩:=reads os enc;refine returnsInHanded_of_row (C:=Tryz.checked) (s:=(Rows.OpenSpec.upto Rows.affineCanonsSpec)) own started (by kernel_rfl) Tryz.func4
  (witness_row_at (enc:=enc) (C:=Tryz.checked) false (laidWorld os) #[.slice none 0 0] rfl (by kernel_rfl) (by kernel_rfl) (by kernel_rfl)
   (OpenSpec.preRow_of_cond 8 hx (by kernel_rfl) (fun k hk=>by cases hk;kernel_rfl) (by kernel_rfl) (laid_met os))) ?_
 intro W base args ds gs before hval0 hW hcnd0 hcond hsz0 hL hj2 hj3;have hTabs:Lm.Tabs W:=tabs hL;have hval:∀(j:Nat) t v,Tryz.f4.params[j]? = some t->args[j]? = some v->Value.okWide Tryz.prog W .any base t v:=hval0;have hW':=hW;obtain⟨p,q,hA0,hV,rfl,hfz,hnd⟩:=hW;have hA:DataW.TrodAll enc Tryz.prog W 0 (fun _=>true) true Tryz.f4.params.toList args.toList ds p:=hA0;have hsz:(DataW.weightsEach Tryz.prog (Tryz.f4.params.toList++Rows.affineCanonsSpec.plain.varTypes Tryz.prog) (ds++gs)).all (·<=reachBytes)=true:=hsz0;rw[Tryz.params4]at hA hval hsz;obtain⟨v0,vs0,d0,ds0,p0,q0,hargs,rfl,rfl,h0,r0⟩:=trodAll_cons hA;obtain⟨rfl,rfl,rfl⟩:=trodAll_nil r0;obtain rfl:args = #[v0]:=by cases args;simp_all
 obtain⟨rfl,rfl⟩:=trodVars_none hV;have hbulk:Rows.uptoBulkAll ([d0]:List (DataW H))<=1048576:=by
  have h:=of_decide_eq_true (hcond Rows.uptoSmall rfl);simpa only[List.append_nil]using h
 simp only[Rows.uptoBulkAll]at hbulk;obtain⟨a0,len0,cap0,rfl⟩:=okWide_slice Tryz.underlying34 (hval 0 34 v0 rfl rfl);have k0:=h0;have lt0:∀x∈p0,x.block<W.heap.size:=by obtain⟨m,hm⟩:=k0;exact DataW.trod_lt m _ _ _ hm
 obtain⟨z0,w0,b0⟩:∃es,Lm.Rq W (.slice a0 len0 cap0) es/\Lm.lenQ es+1<=Rows.uptoBulk d0:=by
  obtain⟨fuel,hf⟩:=h0;exact Lm.ava (x:=(d0,p0)) (by simpa[Value.cells]using hf)
 clear hA0 hval0;refine(Lm.alg W hTabs a0 len0 cap0 z0 w0 (by omega)).mono fun e W' ⟨he,bel⟩=>?_
 subst he;exact⟨_,rfl,_,_,_,[],_,[],hW',trodAll_mk1 (shut_bool Tryz.underlying4 _),(trodAll_cons_mk (Below.trod laidOut (by kernel_rfl) (of_decide_eq_true (by kernel_rfl)) k0 bel lt0) trodAll_mk0),rfl,bel.frame _,fun h=>by cases h⟩
theorem said:Rows.AffineCanonsUptoSaid:=
 OpenClaim.holds_of_cond 4 Tryz.f4 rfl rfl rfl rfl rfl rfl rfl ⟨rfl,rfl,rfl,rfl,rfl⟩ rfl rfl rfl rfl rfl (by kernel_rfl) Tryz.func4 (by kernel_rfl)
  (of_decide_eq_true (by kernel_rfl)) (by unfold Func.isWrapper;first|(rw[if_pos (by decide +kernel)];kernel_rfl)|(rw[if_neg (by decide +kernel)];exact⟨rfl,rfl⟩))
  (fun os started H enc _ F=>by rw[OpenClaim.pre_eq_preRow];exact lifted os started H enc F)
theorem plain (f : FuncId) (fn : Func) (hf : Tryz.pinned.checked.prog.funcNamed "rafter/rafterlaw05.AffineCanons" = some f) (hfn : Tryz.pinned.checked.prog.funcs[f]? = some fn) :
  false=Tryz.pinned.checked.prog.looks []/\∀(j:Nat) t,fn.params[j]? = some t->Tryz.pinned.checked.prog.wantsStandIn t=false:=by
 obtain rfl : f = 4 := Option.some.inj ((show Tryz.prog.funcNamed "rafter/rafterlaw05.AffineCanons" = some 4 by kernel_rfl).symm.trans hf) |>.symm
 obtain rfl:fn=Tryz.f4:=(Option.some.inj (Tryz.func4.symm.trans hfn)).symm;refine⟨by kernel_rfl,fun j t ht=>?_⟩;rw[Tryz.params4]at ht;have hm:=Array.mem_of_getElem? ht;simp at hm;subst hm;exact(show Tryz.prog.wantsStandIn 34=false by kernel_rfl)
theorem card:Rows.AffineCanonsUptoCardSaid:=
 Claim7.holds_tied_plain_at .later [] _ _ _ _ said (fun _ h=>by cases h) (by kernel_rfl) (fun _ h=>by cases h) affineCanonsUpto_row_tie rfl ⟨rfl,rfl⟩ (by kernel_rfl) rfl plain (by kernel_rfl)
end affineCanonsLaw
theorem affineCanons_card:Rows.AffineCanonsUptoCardSaid:=affineCanonsLaw.card
#print axioms affineCanons_card
end Go.Proofs.YtooefpkhacecnaaGreatDoor
