import Derived.Test.YtnabkcglnbdfeaaGreatDoorVrh
set_option linter.unusedSimpArgs false
open Array renaming getD_eq_getD_getElem?→Af
open ByteArray renaming empty→A6
open Go.Act renaming put→Ab
open Go.Lib renaming hid→Bo
open Go.Proofs.Tryz renaming prog→EL
open Go.Proofs.YtnabkcglnbdfeaaGreatDoor.Base renaming below_drewN→Aj,below_step→Ak,some_undef→Al
open Go.Proofs.YtnabkcglnbdfeaaGreatDoor.Each renaming fine→AJ,putg→AM,region_all→AO
open Go.Proofs.YtnabkcglnbdfeaaGreatDoor.Each.Goes renaming enter→AE
open Go.Proofs.YtnabkcglnbdfeaaGreatDoor.Each.Lasts renaming eq→AI
open Go.Proofs.YtnabkcglnbdfeaaGreatDoor.Ln renaming row_frozen→CL
open Go.Proofs.YtnabkcglnbdfeaaGreatDoor.Mem.Keeps renaming grown→Bc,of_below→Be,set→Bf
open Go.Proofs.YtnabkcglnbdfeaaGreatDoor.Mem.Of renaming refl→Dg
open Go.Proofs.YtnabkcglnbdfeaaGreatDoor.Par.S renaming again→D7
open Go.Proofs.YtnabkcglnbdfeaaGreatDoor.Par.Step renaming of_below→DD,set→DF
open Go.Proofs.YtnabkcglnbdfeaaGreatDoor.Qk renaming has→Ds,rhas_any→Du
open Go.Proofs.YtnabkcglnbdfeaaGreatDoor.Rec renaming Bk→Dv,R→Dx
open Go.Proofs.YtnabkcglnbdfeaaGreatDoor.Rec.Bk renaming new→Dw
open Go.Proofs.YtnabkcglnbdfeaaGreatDoor.Tree renaming change→DS,done→DT,grow→DU,put1→DV,quiet→DW
open Go.RowKit.Below renaming refl→Am
open Go.World renaming ownsRow_nil→FK
open List renaming append_nil→B7,getElem?_cons_succ→BQ,getElem?_cons_zero→BR,getElem?_eq_getElem→BS,getElem?_toArray→BY,getElem_mem→Ca,length_append→Ch,length_drop→Cj,length_take→Cr,mem_cons→Cw,mem_of_getElem?→Cy,mem_singleton→C1,not_mem_nil→C3,setIfInBounds_toArray→C7,set_cons_succ→C9,set_cons_zero→CA,take_of_length_le→CD,take_succ_eq_append_getElem→CE
open Nat renaming le_of_lt→CP,le_refl→CQ,le_trans→CT,lt_of_lt_of_le→CV,lt_or_ge→CW,zero_add→CX,zero_le→CY
open Option renaming getD_some→Di,some→Dk
namespace Go.Proofs.YtnabkcglnbdfeaaGreatDoor.Par
open Go.RowKit Base Txt Mem
structure PlainOk (p:Nat) (s:S) (c:UInt8):Prop where
 e:s.e=0
 fit:Fits s
 st:lined s.st∨s.st=2∨s.st=4
 left:bodied s.st=true→1≤s.left∧s.left≤2000000
 line:lined s.st→LineOk p s.rd∧s.rd.CR=false∧(s.st=5→s.rd.how c=4→Ds p 29=false)
theorem PlainOk.of {p:Nat} {s s2:S} {c:UInt8} (h:PlainOk p s c) {k:Nat} {cl:Bool} (h2:s2={s with head:=k,clean:=cl}):PlainOk p s2 c:=by subst h2;exact ⟨h.e,⟨h.fit.lines,h.fit.fss,h.fit.fsl,h.fit.tss,h.fit.tsl,h.fit.body,h.fit.out⟩,h.st,h.left,h.line⟩
section code
set_option maxHeartbeats 4000000
set_option maxRecDepth 20000
attribute [local go_sem] Al
variable {w:World} {B:Zone} {g q:Nat} {v f bd t o:Value} {p:Nat} {b:Bd} {s:S}
theorem once_any (hp:p<4294967296) (h3:16≤b.x3∧b.x3≤1048576) (h4:0≤b.x4) (c:UInt8) (h:PR w B g q v f bd t o p b s) (ok:PlainOk p s c) :
 Calls EL 119 #[ptr g,.int .u8 (c.toNat:Int)] w fun r w'=>r=.returned (.tuple #[])∧∃q1 v1 f1 bd1 t1 o1,PR w' B g q1 v1 f1 bd1 t1 o1 p b (s.plain p b c)∧Step (blks g q v f bd t o) (blks g q1 v1 f1 bd1 t1 o1) w w':=by
 have key:∀hst:s.st=2∨s.st=4,Calls EL 119 #[ptr g,.int .u8 (c.toNat:Int)] w fun r w'=>
  r=.returned (.tuple #[])∧∃q1 v1 f1 bd1 t1 o1,PR w' B g q1 v1 f1 bd1 t1 o1 p b (s.plain p b c)∧Step (blks g q v f bd t o) (blks g q1 v1 f1 bd1 t1 o1) w w':=by
  intro hst;have hb:bodied s.st=true:=by rcases hst with e | e<;>rw [e]<;>rfl
  have e:s.plain p b c=S.bodyB p b {s with fresh:=false} c:=by unfold S.plain;simp [hb]
  rw [e];exact body_any c h hst (ok.left hb) ok.fit.body ok.fit.out
 rcases ok.st with hs | hs | hs
 ·obtain ⟨h5,h6,h7⟩:=ok.line hs;exact plain_any hp h3 h4 c h hs ok.e ok.fit h5 h6 h7
 ·exact key (.inl hs)
 ·exact key (.inr hs)
theorem countOnce_any (hp:p<4294967296) (h3:16≤b.x3∧b.x3≤1048576) (h4:0≤b.x4) (c:UInt8) (h:PR w B g q v f bd t o p b s) (ok:PlainOk p s c) (hh:s.head≤1000000) :
 Calls EL 76 #[ptr g,.int .u8 (c.toNat:Int)] w fun r w'=>r=.returned (.tuple #[])∧∃q1 v1 f1 bd1 t1 o1,PR w' B g q1 v1 f1 bd1 t1 o1 p b (s.count b fun s=>s.plain p b c)∧Step (blks g q v f bd t o) (blks g q1 v1 f1 bd1 t1 o1) w w':=
 count_any c (fun s=>s.plain p b c) h ok.e hh fun w2 s2 hs h2=>once_any hp h3 h4 c h2 (by
  rcases hs with ⟨-,e, -⟩ | ⟨-,e⟩
  ·exact ok.of e
  ·exact ok.of (k:=s.head) (by rw [e]))
theorem XXPyT {P:Prop} (h:P:=by
 go_enter Tryz.func165,Tryz.ntmps165
 go_wp2_with (go_at_call 119;with_reducible refine HP.out.mono ?_;rintro r w3 ⟨rfl,q1,v1,f1,bd1,t1,o1,hP,hS⟩);first | go_end0 | refine bodyPost_ret (results_none rfl _ _ _) rfl ?_
 exact ⟨rfl,_,_,_,_,_,_,hP,HS2.out.trans hS⟩):P:=h
theorem XXxuh {P:Prop} (h:P:=by
 rw [e]
 replace c11:w.cell? ⟨g,11,none⟩=some (.int .i64 0):=by rw [hst] at c11;exact c11
 clear e h hst;go_enter Tryz.func165,Tryz.ntmps165
 go_wp2_with (go_at_call 76;with_reducible refine HBy.out.mono ?_;rintro r w3 ⟨rfl,q1,v1,f1,bd1,t1,o1,hP,hS⟩);first | go_end0 | refine bodyPost_ret (results_none rfl _ _ _) rfl ?_
 exact ⟨rfl,_,_,_,_,_,_,hP,hS⟩):P:=h
theorem XX6kf {P:Prop} (h:P:=by
 rw [e]
 replace c11:w.cell? ⟨g,11,none⟩=some (.int .i64 6):=by rw [hst] at c11;exact c11
 clear e h hst;go_enter Tryz.func165,Tryz.ntmps165
 go_wp2_with (go_at_call 76;with_reducible refine HC.out.mono ?_;rintro r w3 ⟨rfl,q1,v1,f1,bd1,t1,o1,hP,hS⟩);first | go_end0 | refine bodyPost_ret (results_none rfl _ _ _) rfl ?_
 exact ⟨rfl,_,_,_,_,_,_,hP,HS2.out.trans hS⟩):P:=h
theorem again_any (hp:p<4294967296) (h3:16≤b.x3∧b.x3≤1048576) (h4:0≤b.x4) (c:UInt8) (was:Nat) (h:PR w B g q v f bd t o p b s) (ok:PlainOk p s c) (hh:s.head≤1000000) (hw:lined was) :
 Calls EL 165 #[ptr g,.int .u8 (c.toNat:Int),.int .i64 (was:Int)] w fun r w'=>r=.returned (.tuple #[])∧∃q1 v1 f1 bd1 t1 o1,PR w' B g q1 v1 f1 bd1 t1 o1 p b (D7 p b s c was)∧Step (blks g q v f bd t o) (blks g q1 v1 f1 bd1 t1 o1) w w':=by
 have c11:=h.cs.c11;have c24:=h.cs.c24;have z24:=h.marks 24
 have H2:=Bo (h.put 24 (.bool false) {s with clean:=false} rfl rfl rfl rfl rfl rfl)
 have HS2:=Bo (DF (w:=w) (L:=blks g q v f bd t o) g 24 (.bool false) (by simp));have ok2:PlainOk p {s with clean:=false} c:=ok.of (k:=s.head) rfl
 have HBy:=Bo (countOnce_any hp h3 h4 c h ok hh)
 have HC:=Bo (countOnce_any hp h3 h4 c H2.out ok2 hh)
 have HP:=Bo (once_any hp h3 h4 c H2.out ok2);clear ok ok2 hh;rcases hw with rfl | rfl | rfl | rfl | rfl
 ·rcases (by omega:s.st=0∨s.st=6∨(¬s.st=0∧¬s.st=6)) with hst | hst | ⟨n0,n6⟩
  ·have e:D7 p b s c 0=S.plain p b {s with clean:=false} c:=by simp [D7,headed,hst]
   rw [e]
   replace c11:w.cell? ⟨g,11,none⟩=some (.int .i64 0):=by rw [hst] at c11;exact c11
   clear e h hst;exact XXPyT
  ·have e:D7 p b s c 0=S.plain p b {s with clean:=false} c:=by simp [D7,headed,hst]
   rw [e]
   replace c11:w.cell? ⟨g,11,none⟩=some (.int .i64 6):=by rw [hst] at c11;exact c11
   clear e h hst;exact XXPyT
  ·have e:D7 p b s c 0=S.plain p b {s with clean:=false} c:=by simp [D7,headed]
   rw [e]
   have t0:((s.st:Int)==0)=false:=beq_eq_false_iff_ne.2 (by omega)
   have t6:((s.st:Int)==6)=false:=beq_eq_false_iff_ne.2 (by omega);have m0:¬(s.st:Int)=0:=by omega
   have m6:¬(s.st:Int)=6:=by omega
   clear e h;exact XXPyT
 ·rcases (by omega:s.st=0∨s.st=6∨(¬s.st=0∧¬s.st=6)) with hst | hst | ⟨n0,n6⟩
  ·have e:D7 p b s c 1=s.count b fun s=>s.plain p b c:=by simp [D7,hst]
   exact XXxuh
  ·have e:D7 p b s c 1=S.plain p b {s with clean:=false} c:=by simp [D7,headed,hst]
   rw [e]
   replace c11:w.cell? ⟨g,11,none⟩=some (.int .i64 6):=by rw [hst] at c11;exact c11
   clear e h hst;exact XXPyT
  ·have e:D7 p b s c 1=S.plain p b {s with clean:=false} c:=by simp [D7,headed,n0]
   rw [e]
   have t0:((s.st:Int)==0)=false:=beq_eq_false_iff_ne.2 (by omega)
   have t6:((s.st:Int)==6)=false:=beq_eq_false_iff_ne.2 (by omega);have m0:¬(s.st:Int)=0:=by omega
   have m6:¬(s.st:Int)=6:=by omega
   clear e h;exact XXPyT
 ·rcases (by omega:s.st=0∨s.st=6∨(¬s.st=0∧¬s.st=6)) with hst | hst | ⟨n0,n6⟩
  ·have e:D7 p b s c 3=s.count b fun s=>s.plain p b c:=by simp [D7,hst]
   exact XXxuh
  ·have e:D7 p b s c 3=S.count b (fun s=>s.plain p b c) {s with clean:=false}:=by simp [D7,headed,hst]
   exact XX6kf
  ·have e:D7 p b s c 3=S.plain p b {s with clean:=false} c:=by simp [D7,headed,n0,n6]
   rw [e]
   have t0:((s.st:Int)==0)=false:=beq_eq_false_iff_ne.2 (by omega)
   have t6:((s.st:Int)==6)=false:=beq_eq_false_iff_ne.2 (by omega);have m0:¬(s.st:Int)=0:=by omega
   have m6:¬(s.st:Int)=6:=by omega
   clear e h;exact XXPyT
 ·rcases (by omega:s.st=0∨s.st=6∨(¬s.st=0∧¬s.st=6)) with hst | hst | ⟨n0,n6⟩
  ·have e:D7 p b s c 5=s.count b fun s=>s.plain p b c:=by simp [D7,hst]
   exact XXxuh
  ·have e:D7 p b s c 5=S.count b (fun s=>s.plain p b c) {s with clean:=false}:=by simp [D7,headed,hst]
   exact XX6kf
  ·have e:D7 p b s c 5=S.plain p b {s with clean:=false} c:=by simp [D7,headed,n0,n6]
   rw [e]
   have t0:((s.st:Int)==0)=false:=beq_eq_false_iff_ne.2 (by omega)
   have t6:((s.st:Int)==6)=false:=beq_eq_false_iff_ne.2 (by omega);have m0:¬(s.st:Int)=0:=by omega
   have m6:¬(s.st:Int)=6:=by omega
   clear e h;exact XXPyT
 ·rcases (by omega:s.st=0∨s.st=6∨(¬s.st=0∧¬s.st=6)) with hst | hst | ⟨n0,n6⟩
  ·have e:D7 p b s c 6=s.count b fun s=>s.plain p b c:=by simp [D7,hst]
   exact XXxuh
  ·have e:D7 p b s c 6=S.plain p b {s with clean:=false} c:=by simp [D7,headed,hst]
   rw [e]
   replace c11:w.cell? ⟨g,11,none⟩=some (.int .i64 6):=by rw [hst] at c11;exact c11
   clear e h hst;exact XXPyT
  ·have e:D7 p b s c 6=S.plain p b {s with clean:=false} c:=by simp [D7,headed,n0]
   rw [e]
   have t0:((s.st:Int)==0)=false:=beq_eq_false_iff_ne.2 (by omega)
   have t6:((s.st:Int)==6)=false:=beq_eq_false_iff_ne.2 (by omega);have m0:¬(s.st:Int)=0:=by omega
   have m6:¬(s.st:Int)=6:=by omega
   clear e h;exact XXPyT
end code
end Go.Proofs.YtnabkcglnbdfeaaGreatDoor.Par
namespace Go.Proofs.YtnabkcglnbdfeaaGreatDoor.Par
open Go.RowKit Base Txt Mem
section code
set_option maxHeartbeats 4000000
set_option maxRecDepth 20000
attribute [local go_sem] Al
variable {w:World} {B:Zone} {g q:Nat} {v f bd t o:Value} {p:Nat} {b:Bd} {s:S}
theorem XXNHr {P:Prop} (h:P:=by
 refine DW (by rfl) (ptr g) (fun _ _=>by go_simp) ?_;simp only [Ab,C7,CA,C9];refine DW (by rfl) (.pointer (some ⟨g,11,none⟩)) (fun _ _=>by go_simp) ?_;simp only [Ab,C7,CA,C9];have h1:=H.out.below hb;have ho:=H.out.own.line hb hr1 hq1;have d11:=h1.cs.c11;have z11:=h1.marks 11
 refine DS (by rfl) (fun K hK=>?_);go_simp;refine hK _ _ trivial ?_;clear hK K;refine DW (by rfl) (ptr g) (fun _ _=>by go_simp) ?_;simp only [Ab,C7,CA,C9];refine DW (by rfl) (.pointer (some ⟨g,12,none⟩)) (fun _ _=>by go_simp) ?_;simp only [Ab,C7,CA,C9];have c12:=h1.cs.c12;have z12:=h1.marks 12
 refine DS (by rfl) (fun K hK=>?_);go_simp;refine hK _ _ trivial ?_;clear hK K;refine DT ?_;have HP2:Hid (PR ((w2.setCell ⟨g,11,none⟩ (.int .i64 3)).setCell ⟨g,12,none⟩ (ptr q1)) B g q1 nil f bd t o p b {s with st:=3,rd:=nl p b.x0}):=Bo ⟨row_setL (row_setL h1.row 11 (.int .i64 3)) 12 (ptr q1),(ho.set 11 (.int .i64 3)).set 12 (ptr q1)⟩
 have HS:=Bo ((Step.line (g:=g) (q:=q) (v:=v) (f:=f) (bd:=bd) (t:=t) (o:=o) hb hq1).trans ((DF g 11 (.int .i64 3) (by simp)).trans (DF g 12 (ptr q1) (by simp))))
 have HON:=Bo (HO.out _ _ HP2.out);clear HQ HBW hr1 hq1 c12 z12 d11 z11 h1 ho hb HP2;generalize (w2.setCell ⟨g,11,none⟩ (.int .i64 3)).setCell ⟨g,12,none⟩ (ptr q1)=W3 at *
 go_wp2_with (go_at_call 119;with_reducible refine HON.out.mono ?_;rintro r w4 ⟨rfl,q2,v2,f2,bd2,t2,o2,hP,hS⟩);first | go_end0 | refine bodyPost_ret (results_none rfl _ _ _) rfl ?_
 exact ⟨rfl,_,_,_,_,_,_,hP,HS.out.trans hS⟩):P:=h
theorem longEnd_any (hp:p<4294967296) (h3:16≤b.x3∧b.x3≤1048576) (h4:0≤b.x4) (c:UInt8) (h:PR w B g q v f bd t o p b s) (hst:s.st=5) (hh:Ds p 29=true) (ok:PlainOk p {s with st:=3,rd:=nl p b.x0} c):Calls EL 163 #[ptr g,.int .u8 (c.toNat:Int)] w fun r w'=>
 r=.returned (.tuple #[])∧∃q1 v1 f1 bd1 t1 o1,PR w' B g q1 v1 f1 bd1 t1 o1 p b (S.plain p b {s with st:=3,rd:=nl p b.x0} c)∧Step (blks g q v f bd t o) (blks g q1 v1 f1 bd1 t1 o1) w w':=by
 have HH:=Bo (fun w=>Du p hp 29 w);rw [hh] at HH;have c11:w.cell? ⟨g,11,none⟩=some (.int .i64 5):=by have:=h.cs.c11;rw [hst] at this;exact this
 have c0:=h.cs.c0;have H:=Bo h
 have HO:=Bo (fun w2 q1 (h:PR w2 B g q1 nil f bd t o p b {s with st:=3,rd:=nl p b.x0})=>once_any hp h3 h4 c h ok)
 have HQ:=Bo ((h.drew 1).bk)
 have HBW:=Bo (show B≤(w.drewN 1).heap.size from CT h.own.ge (CP (h.drew 1).own.lt));clear h hst ok hh;go_enter Tryz.func163,Tryz.ntmps163
 go_upto_region 2 with (go_at_call 53;with_reducible refine Cm (HH.out _) ?_)
 clear c11 c0;refine Each.region_float 12 [19,20,21,22,23,24,25,26,27,28,29,30] [eP g 0,eP g 0,eP g 0,eP g 0,eP g 0,eQ (.int .u32 (p:Int)),eP g 0,eP g 0,eP g 1,eP g 1,eQ (.int .i64 b.x0),fun v u=>∃q1,v=ptr q1∧w.heap.size≤q1∧Ln.Rr u B q1 nil p (nl p (b.x0))] [] 6 (some 1) (.quiet 12 (.quiet 13 (.act 14 (.quiet 15 (.quiet 16 (.act 17 .done)))))) (.quiet 1 (.quiet 12 (.quiet 13 (.act 14 (.quiet 15 (.quiet 16 (.act 17 .done))))))) (by kernel_rfl) (by kernel_rfl) (by kernel_rfl) (by kernel_rfl) (fun k0 h=>by cases h;kernel_rfl) (fun _ _ d _ _ h=>by cases d<;>exact h) (by rfl) (by rfl) ⟨AI _,AI _,AI _,AI _,AI _,AI _,AI _,AI _,AI _,AI _,AI _,((fun _ _ _ hb h=>by obtain ⟨q1,e1,h1,h2⟩:=h;exact ⟨q1,e1,h1,rr_below h2 hb⟩)),trivial⟩ trivial (by rfl) ?_ ?_ ?_
 ·refine ⟨?_,?_,?_,?_,?_,?_,?_,?_,?_,?_,?_,?_,trivial⟩
  ·exact XXSdZ
  ·exact XXSdZ
  ·exact XXSdZ
  ·exact XXSdZ
  ·exact XXSdZ
  ·exact XXSdZ
  ·exact XXSdZ
  ·exact XXSdZ
  ·exact XXSdZ
  ·exact XXSdZ
  ·exact XXSdZ
  ·refine AJ rfl (fun ev w1 hR hb hh=>?_);have e24:ev (.tmp 24)= _:=hh.at 0;have e29:ev (.tmp 29)= _:=hh.at 1;exact XXHuz
 ·intro g1 w2 hb hf;have z19:g1 19= _:=hf.at 0;have z20:g1 20= _:=hf.at 1;have z30:=hf.at 11;clear hf;obtain ⟨q1,e1,hq1,hr1⟩:=z30;simp only [AM,Ab,C7,CA,C9];rw [e1,z19,z20];simp only [DU,DV,BR,BQ];exact XXNHr
 ·intro k0 hk0 g1 w2 hb hf;cases hk0;have z19:g1 19= _:=hf.at 0;have z30:=hf.at 11;clear hf;obtain ⟨q1,e1,hq1,hr1⟩:=z30;simp only [AM,Ab,C7,CA,C9];rw [e1,z19];simp only [DU,DV,BR,BQ];refine DW (by rfl) (ptr g) (fun _ _=>by go_simp) ?_;simp only [Ab,C7,CA,C9];exact XXNHr
end code
end Go.Proofs.YtnabkcglnbdfeaaGreatDoor.Par
namespace Go.Proofs.YtnabkcglnbdfeaaGreatDoor.Par
open Go.RowKit Base Txt Mem
theorem how_is (q:Ln.R) (c:UInt8):q.how c=0∨q.how c=1∨q.how c=2∨q.how c=3∨q.how c=4:=by
 unfold Ln.R.how
 repeat' split
 all_goals simp
section code
set_option maxHeartbeats 4000000
set_option maxRecDepth 20000
attribute [local go_sem] Al
variable {w:World} {B:Zone} {g q:Nat} {v f bd t o:Value} {p:Nat} {b:Bd} {s:S}
theorem byte_any (hp:p<4294967296) (h3:16≤b.x3∧b.x3≤1048576) (h4:0≤b.x4) (c:UInt8) (h:PR w B g q v f bd t o p b s) (hs:lined s.st) (he:s.e=0) (ok:Fits s) (hl:LineOk p s.rd)
 (hlong:s.st=5→s.rd.how c=4→Ds p 29=true→PlainOk p {s with fresh:=false,rd:=nl p b.x0,st:=3} c)
 (hag:s.rd.how c=2→(S.ended p b {s with fresh:=false,rd:=s.rd.byte c} (s.rd.byte c).L).e=0→PlainOk p (S.ended p b {s with fresh:=false,rd:=s.rd.byte c} (s.rd.byte c).L) c∧(S.ended p b {s with fresh:=false,rd:=s.rd.byte c} (s.rd.byte c).L).head≤1000000) :
 Calls EL 119 #[ptr g,.int .u8 (c.toNat:Int)] w fun r w'=>r=.returned (.tuple #[])∧∃q1 v1 f1 bd1 t1 o1,PR w' B g q1 v1 f1 bd1 t1 o1 p b (s.byte1 p b c)∧Step (blks g q v f bd t o) (blks g q1 v1 f1 bd1 t1 o1) w w':=by
 have hbod:bodied s.st=false:=by rcases hs with e | e | e | e | e<;>rw [e]<;>rfl
 have t2:((s.st:Int)==2)=false:=beq_eq_false_iff_ne.2 (by rcases hs with e | e | e | e | e<;>omega)
 have t4:((s.st:Int)==4)=false:=beq_eq_false_iff_ne.2 (by rcases hs with e | e | e | e | e<;>omega);have n2:¬(s.st:Int)=2:=beq_eq_false_iff_ne.1 t2;have n4:¬(s.st:Int)=4:=beq_eq_false_iff_ne.1 t4;have m2:¬s.st=2:=by omega
 have m4:¬s.st=4:=by omega
 have H1:=Bo (h.put 23 (.bool false) {s with fresh:=false} rfl rfl rfl rfl rfl rfl)
 have HS1:=Bo (DF (w:=w) (L:=blks g q v f bd t o) g 23 (.bool false) (by simp));have c23:=h.cs.c23;have z23:=h.marks 23;have c11:=h.cs.c11;have hrb:=Ln.rbyte_any c s.rd hl.most p hp hl.lf hl.cr (w.setCell ⟨g,23,none⟩ (.bool false)) B q v H1.out.own.R;clear h;have hL:(s.rd.how c=1∨s.rd.how c=2)→(s.rd.byte c).L.length≤5000:=fun e=>by rw [byte_L s.rd c e];have:=hl.len;have:=hl.most;omega
 rcases how_is s.rd c with hw | hw | hw | hw | hw
 ·have e:s.byte1 p b c={s with fresh:=false,rd:=s.rd.byte c}:=by unfold S.byte1;simp [hbod,hw]
  rw [e];rw [hw] at hrb;have HRB:=Bo hrb;clear e hw hL hrb hbod hs he hl ok hlong hag;exact XXHvt
 ·have e:s.byte1 p b c=S.ended p b {s with fresh:=false,rd:=s.rd.byte c} (s.rd.byte c).L:=by unfold S.byte1;simp [hbod,hw]
  rw [e];rw [hw] at hrb;have HRB:=Bo hrb;obtain ⟨x,hx⟩:∃x:ByteArray,ba (s.rd.byte c).L=x:=⟨_,rfl⟩;have hxl:(s.rd.byte c).L=x.data.toList:=by rw [←hx];simp [ba]
  have hxs:x.size≤5000:=by rw [←hx,ba_size];exact hL (.inl hw)
  have HEN:=Bo (fun w2 q1 v1 (h:PR w2 B g q1 v1 f bd t o p b {s with fresh:=false,rd:=s.rd.byte c})=>ended_any hp h3 h4 x hxs h hs he ⟨ok.lines,ok.fss,ok.fsl,ok.tss,ok.tsl,ok.body,ok.out⟩);have HX:=Bo hx;rw [hxl];clear e hw hL hrb hbod hs he hl ok hlong hag hx hxl hxs;exact XXTyB
 ·rw [hw] at hrb;have HRB:=Bo hrb;obtain ⟨x,hx⟩:∃x:ByteArray,ba (s.rd.byte c).L=x:=⟨_,rfl⟩;have hxl:(s.rd.byte c).L=x.data.toList:=by rw [←hx];simp [ba]
  have hxs:x.size≤5000:=by rw [←hx,ba_size];exact hL (.inr hw)
  have HEN:=Bo (fun w2 q1 v1 (h:PR w2 B g q1 v1 f bd t o p b {s with fresh:=false,rd:=s.rd.byte c})=>ended_any hp h3 h4 x hxs h hs he ⟨ok.lines,ok.fss,ok.fsl,ok.tss,ok.tsl,ok.body,ok.out⟩);have HX:=Bo hx;rw [hxl] at hag;obtain ⟨s3,hs3⟩:∃s3,S.ended p b {s with fresh:=false,rd:=s.rd.byte c} x.data.toList=s3:=⟨_,rfl⟩;rw [hs3] at hag HEN;by_cases he3:s3.e=0
  ·obtain ⟨ok3,hh3⟩:=hag hw he3;have e:s.byte1 p b c=D7 p b s3 c s.st:=by
    unfold S.byte1;simp [hbod,hw,hxl,hs3,he3]
   rw [e]
   have HAG:=Bo (fun w2 q1 v1 f1 bd1 t1 o1 (h:PR w2 B g q1 v1 f1 bd1 t1 o1 p b s3)=>again_any hp h3 h4 c s.st h ok3 hh3 hs);have HE2:=Bo he3;clear e hw hL hrb hbod hs he hl ok hlong hag hx hxl hxs hs3 he3 ok3 hh3;go_enter Tryz.func119,Tryz.ntmps119;go_upto_region 8 with fail
   generalize w.setCell ⟨g,23,none⟩ (.bool false)=W1 at *;clear c23 z23 c11;have c12:=H1.out.cs.c12
   go_wp2_with (first
    |(go_at_call 165;with_reducible refine (HAG.out _ _ _ _ _ _ _ HP3.out).mono ?_;rintro r w4 ⟨rfl,q2,v3,f2,bd2,t2',o2,hP4,hS4⟩)
    |(go_at_call 164;with_reducible refine (HEN.out _ _ _ HP2.out).mono ?_;rintro r w3 ⟨rfl,q1,v1,f1,bd1,t1,o1,hP3,hS3⟩
      have HP3:=Bo hP3;have HS3:=Bo (HS2.out.trans hS3);have c25:w3.cell? ⟨g,25,none⟩=some (.int .i64 0):=by have:=hP3.cs.c25;rw [HE2.out] at this;exact this
      clear hP3 hS3)
    |(go_at_call 162;with_reducible refine HRB.out.mono ?_;rintro r w2 ⟨v2,rfl,hr2,hk2,hm2⟩
      obtain ⟨hP2,hS2⟩:=H1.out.reader hk2 hm2 hr2
      have HP2:=Bo hP2;have HS2:=Bo (HS1.out.trans hS2);have c11:=hP2.cs.c11;have c12:=hP2.cs.c12;have y4:w2.cell? ⟨q,4,none⟩=some (.string x):=by rw [←HX.out];exact Ln.row_cell hr2.row (k:=4) rfl
      clear hr2 hk2 hm2 hP2 hS2))
   first | go_end0 | refine bodyPost_ret (results_none rfl _ _ _) rfl ?_
   exact ⟨rfl,_,_,_,_,_,_,hP4,HS3.out.trans hS4⟩
  ·have e:s.byte1 p b c=s3:=by
    unfold S.byte1;simp [hbod,hw,hxl,hs3,he3]
   rw [e];obtain ⟨k,hk⟩:∃k,s3.e=k:=⟨_,rfl⟩
   have t5:((k:Int)==0)=false:=beq_eq_false_iff_ne.2 (by omega);have n5:¬(k:Int)=0:=by omega
   have n6:¬k=0:=by omega
   have HE2:=Bo hk;clear e hw hL hrb hbod hs he hl ok hlong hag hx hxl hxs hs3 he3 hk;go_enter Tryz.func119,Tryz.ntmps119;go_upto_region 8 with fail
   generalize w.setCell ⟨g,23,none⟩ (.bool false)=W1 at *;clear c23 z23 c11;have c12:=H1.out.cs.c12
   go_wp2_with (first
    |(go_at_call 164;with_reducible refine (HEN.out _ _ _ HP2.out).mono ?_;rintro r w3 ⟨rfl,q1,v1,f1,bd1,t1,o1,hP3,hS3⟩
      have HP3:=Bo hP3;have HS3:=Bo (HS2.out.trans hS3);have c25:w3.cell? ⟨g,25,none⟩=some (.int .i64 (k:Int)):=by have:=hP3.cs.c25;rw [HE2.out] at this;exact this
      clear hP3 hS3)
    |(go_at_call 162;with_reducible refine HRB.out.mono ?_;rintro r w2 ⟨v2,rfl,hr2,hk2,hm2⟩
      obtain ⟨hP2,hS2⟩:=H1.out.reader hk2 hm2 hr2
      have HP2:=Bo hP2;have HS2:=Bo (HS1.out.trans hS2);have c11:=hP2.cs.c11;have c12:=hP2.cs.c12;have y4:w2.cell? ⟨q,4,none⟩=some (.string x):=by rw [←HX.out];exact Ln.row_cell hr2.row (k:=4) rfl
      clear hr2 hk2 hm2 hP2 hS2))
   first | go_end0 | refine bodyPost_ret (results_none rfl _ _ _) rfl ?_
   exact ⟨rfl,_,_,_,_,_,_,HP3.out,HS3.out⟩
 ·have e:s.byte1 p b c=S.fail {s with fresh:=false,rd:=s.rd.byte c} 400:=by unfold S.byte1;simp [hbod,hw]
  rw [e];rw [hw] at hrb;have HRB:=Bo hrb
  have HFA:=Bo (fun w2 q1 v1 (h:PR w2 B g q1 v1 f bd t o p b {s with fresh:=false,rd:=s.rd.byte c})=>fail_at h 400 400 rfl);clear e hw hL hrb hbod hs he hl ok hlong hag;go_enter Tryz.func119,Tryz.ntmps119;go_upto_region 8 with fail
  generalize w.setCell ⟨g,23,none⟩ (.bool false)=W1 at *;clear c23 z23 c11;have c12:=H1.out.cs.c12
  go_wp2_with (first
   |(go_at_call 118;with_reducible refine (HFA.out _ _ _ HP2.out).mono ?_;rintro r w3 ⟨rfl,hP3,hS3⟩)
   |(go_at_call 162;with_reducible refine HRB.out.mono ?_;rintro r w2 ⟨v2,rfl,hr2,hk2,hm2⟩
     obtain ⟨hP2,hS2⟩:=H1.out.reader hk2 hm2 hr2
     have HP2:=Bo hP2;have HS2:=Bo (HS1.out.trans hS2);clear hr2 hk2 hm2 hP2 hS2))
  first | go_end0 | refine bodyPost_ret (results_none rfl _ _ _) rfl ?_
  exact XXtPE
 ·by_cases hce:(s.st==5&&Ds p 29)=true
  ·have hce2:s.st=5∧Ds p 29=true:=by simpa using hce
   have e:s.byte1 p b c=S.plain p b {s with fresh:=false,rd:=nl p b.x0,st:=3} c:=by unfold S.byte1;simp [bodied,hw,hce2.1,hce2.2]
   rw [e];have ok3:=hlong hce2.1 hw hce2.2;rw [hw] at hrb;have HRB:=Bo hrb
   have HLO:=Bo (fun w2 q1 v1 (h:PR w2 B g q1 v1 f bd t o p b {s with fresh:=false,rd:=s.rd.byte c})=>longEnd_any hp h3 h4 c h hce2.1 hce2.2 ok3);clear e hw hL hrb hbod hs he hl ok hlong hag hce hce2 ok3;go_enter Tryz.func119,Tryz.ntmps119;go_upto_region 8 with fail
   generalize w.setCell ⟨g,23,none⟩ (.bool false)=W1 at *;clear c23 z23 c11;have c12:=H1.out.cs.c12
   go_wp2_with (first
    |(go_at_call 163;with_reducible refine (HLO.out _ _ _ HP2.out).mono ?_;rintro r w3 ⟨rfl,q1,v1,f1,bd1,t1,o1,hP3,hS3⟩)
    |(go_at_call 162;with_reducible refine HRB.out.mono ?_;rintro r w2 ⟨v2,rfl,hr2,hk2,hm2⟩
      obtain ⟨hP2,hS2⟩:=H1.out.reader hk2 hm2 hr2
      have HP2:=Bo hP2;have HS2:=Bo (HS1.out.trans hS2);clear hr2 hk2 hm2 hP2 hS2))
   first | go_end0 | refine bodyPost_ret (results_none rfl _ _ _) rfl ?_
   exact XXtPE
  ·have e:s.byte1 p b c=S.fail {s with fresh:=false,rd:=s.rd.byte c} (longE s.st):=by unfold S.byte1;simp [hbod,hw,hce]
   rw [e];have h6:s.st=5→Ds p 29=false:=fun e=>by
    cases h:Ds p 29 with
    | false=>rfl
    | true=>exact absurd (by rw [e,h];rfl) hce
   rw [hw] at hrb;have HRB:=Bo hrb
   have HLO:=Bo (fun w2 q1 v1 (h:PR w2 B g q1 v1 f bd t o p b {s with fresh:=false,rd:=s.rd.byte c})=>long_any hp c h hs h6);clear e hw hL hrb hbod hs he hl ok hlong hag hce h6;go_enter Tryz.func119,Tryz.ntmps119;go_upto_region 8 with fail
   generalize w.setCell ⟨g,23,none⟩ (.bool false)=W1 at *;clear c23 z23 c11;have c12:=H1.out.cs.c12
   go_wp2_with (first
    |(go_at_call 163;with_reducible refine (HLO.out _ _ _ HP2.out).mono ?_;rintro r w3 ⟨rfl,hP3,hS3⟩)
    |(go_at_call 162;with_reducible refine HRB.out.mono ?_;rintro r w2 ⟨v2,rfl,hr2,hk2,hm2⟩
      obtain ⟨hP2,hS2⟩:=H1.out.reader hk2 hm2 hr2
      have HP2:=Bo hP2;have HS2:=Bo (HS1.out.trans hS2);clear hr2 hk2 hm2 hP2 hS2))
   first | go_end0 | refine bodyPost_ret (results_none rfl _ _ _) rfl ?_
   exact XXtPE
end code
end Go.Proofs.YtnabkcglnbdfeaaGreatDoor.Par
namespace Go.Proofs.YtnabkcglnbdfeaaGreatDoor.Par
open Go.RowKit Base Txt Mem
section
variable {p:Nat} {b:Bd} {x:Pg.T} {s:S}
theorem fits_of (h:Pg.R0 p b x s) (ok:x.Ok) (ho:s.out.length≤1000000000):Fits s:=by
 have k1:=ok.hl;have k2:=ok.bl;have k3:=ok.fsl;have k4:=ok.tsl;have k5:=ok.body;refine ⟨fun e=>?_,fun y hy=>?_,?_,fun y hy=>?_,?_,?_,ho⟩
 ·rcases e with e | e
  ·rw [h.hl (by omega)];omega
  ·rw [h.bl e];omega
 ·rw [h.r] at hy;have:=ok.fss y hy;omega
 ·rw [h.r];omega
 ·rw [h.r] at hy;have:=ok.tss y hy;omega
 ·rw [h.r];omega
 ·rw [h.r];omega
theorem lineOk_of (h:Pg.R0 p b x s) (ok:x.Ok) (hn:bodied s.st=false):LineOk p s.rd:=by
 have r:=h.rd hn;have h1:=ok.rd.len;have h2:=ok.rd.most;refine ⟨r.lf.trans h.lf,r.cr.trans h.cr,by rw [r.most];exact h2,?_⟩;rw [r.B,r.most];split
 ·exact CY _
 ·exact h1
theorem lined_of (h:Pg.R0 p b x s) (ok:x.Ok) (hn:bodied s.st=false):lined s.st:=by
 have h7:=ok.st;have ht:=h.st;have hn2:s.st≠2∧s.st≠4:=by constructor<;> (intro e;rw [e] at hn;exact absurd hn (by decide))
 unfold lined;omega
theorem plainOk_of (h:Pg.R0 p b x s) (ok:x.Ok) (hp:x.rd.pend=false) (h6:x.st≠6) (ho:s.out.length≤1000000000) (c:UInt8):PlainOk p s c:=by
 have h7:=ok.st;have ht:=h.st;refine ⟨h.e,fits_of h ok ho,?_,fun hb=>?_,fun hl=>?_⟩
 ·unfold lined;omega
 ·have h1:=h.left hb;have h2:=ok.left (by rw [Pg.bod h];exact hb);have h3:=ok.body;omega
 ·have hn:bodied s.st=false:=by rcases hl with e | e | e | e | e<;>rw [e]<;>rfl
  exact ⟨lineOk_of h ok hn,(h.rd hn).CR.trans hp,fun e=>absurd (ht.trans (by rw [e])) h6⟩
theorem ended_ok (h:Pg.R0 p b x s) (ok:x.Ok) (hb:b.right=true) (hn:bodied s.st=false) (hc:s.clean=false) (ho:s.out.length≤999999998) (c:UInt8) (h2:s.rd.how c=2)
 (he:(S.ended p b {s with fresh:=false,rd:=s.rd.byte c} (s.rd.byte c).L).e=0) :
 PlainOk p (S.ended p b {s with fresh:=false,rd:=s.rd.byte c} (s.rd.byte c).L) c∧(S.ended p b {s with fresh:=false,rd:=s.rd.byte c} (s.rd.byte c).L).head≤1000000:=by
 obtain ⟨n,hnx⟩:∃n,x.rd.clear.next c=n:=⟨_,rfl⟩;obtain ⟨k1, -,k3⟩:=Pg.took_sim h hn ok hc c hnx;have e2:n=2:=k1.symm.trans h2;subst e2
 have k4:=k3 (.inr rfl);have hb0:Pg.bodied x.st=false:=(Pg.bod h).trans hn;generalize hs2:S.ended p b {s with fresh:=false,rd:=s.rd.byte c} (s.rd.byte c).L=s2 at k4 he ⊢;generalize hq:Pg.ends (Pg.T.line p b {x with rd:=x.rd.byte c} (x.rd.byte c).line)=y at k4;rcases Pg.ends_cases hq with ⟨t2,g1,rfl⟩ | ⟨e,o,rfl⟩
 ·have k5:Pg.RR p b t2 s2:=k4;have hin:x.inLine p b c=(.live t2,false):=by
   unfold Pg.T.inLine;simp only [hnx,Int.reduceEq,if_false,BEq.rfl,Bool.not_true];rw [hq]
  have ok2:t2.Ok:=ok.inLine hb c (by rw [hin]);obtain ⟨g2,g3⟩:=Pg.inLine_again hb0 c hin;have hout:=Pg.inLine_out (p:=p) (b:=b) x c;rw [hin] at hout;have ho2:s2.out.length≤1000000000:=by rw [k5.out];have h1:t2.out.length≤x.out.length+1:=hout;rw [←h.out] at h1;omega
  exact ⟨plainOk_of k5.toR0 ok2 g2 g3 ho2 c,by rw [k5.head];have:=ok2.size;omega⟩
 ·exact absurd he k4.err
end
section code
set_option maxHeartbeats 4000000
variable {w:World} {B:Zone} {g q:Nat} {v f bd t o:Value} {p:Nat} {b:Bd} {s:S} {x:Pg.T}
theorem byte1_any (hp:p<4294967296) (hb:b.right=true) (c:UInt8) (h:PR w B g q v f bd t o p b s) (h0:Pg.R0 p b x s) (ok:x.Ok) (hc:s.clean=false) (ho:s.out.length≤999999998) :
 Calls EL 119 #[ptr g,.int .u8 (c.toNat:Int)] w fun r w'=>r=.returned (.tuple #[])∧∃q1 v1 f1 bd1 t1 o1,PR w' B g q1 v1 f1 bd1 t1 o1 p b (s.byte1 p b c)∧Step (blks g q v f bd t o) (blks g q1 v1 f1 bd1 t1 o1) w w':=by
 obtain ⟨-, -, -,h3,h4, -⟩:=Pg.Bd.edges hb
 have hf:=fits_of h0 ok (by omega);by_cases hbd:bodied s.st=true
 ·have hst:s.st=2∨s.st=4:=by
   unfold bodied at hbd;simpa using hbd
  have e:s.byte1 p b c=S.bodyB p b {s with fresh:=false} c:=by unfold S.byte1;simp [hbd]
  rw [e];have h1:=h0.left hbd;have h2:=ok.left (by rw [Pg.bod h0];exact hbd);have h5:=ok.body;exact body_any c h hst ⟨by omega,by omega⟩ hf.body hf.out
 ·have hn:bodied s.st=false:=by simpa using hbd
  refine byte_any hp h3 h4.1 c h (lined_of h0 ok hn) h0.e hf (lineOk_of h0 ok hn) (fun h5 _ _=>?_) (fun h2 he=>ended_ok h0 ok hb hn hc ho c h2 he);have he:=Pg.enter_sim (t:=x) (s:={s with fresh:=false}) {h0 with} h5;exact plainOk_of he (ok.enter (.inl rfl) b.x0) rfl (by show (4:Nat)≠6;decide) (by show s.out.length≤_;omega) c
theorem byteS_any (hp:p<4294967296) (hb:b.right=true) (c:UInt8) (h:PR w B g q v f bd t o p b s) (hr:Pg.RR p b x s) (ok:x.Ok) (ho:s.out.length≤999999998) :
 Calls EL 76 #[ptr g,.int .u8 (c.toNat:Int)] w fun r w'=>r=.returned (.tuple #[])∧∃q1 v1 f1 bd1 t1 o1,PR w' B g q1 v1 f1 bd1 t1 o1 p b (s.byte p b c)∧Step (blks g q v f bd t o) (blks g q1 v1 f1 bd1 t1 o1) w w':=by
 have h0:Pg.R0 p b ({x with cnt:=false}:Pg.T) {s with clean:=false}:=⟨hr.e,hr.st,hr.r,hr.out,hr.head,hr.hl,hr.bl,hr.bl0,hr.left,hr.rd,hr.fr,hr.lf,hr.cr,hr.most,hr.beh,hr.ch⟩;have ok0:({x with cnt:=false}:Pg.T).Ok:=ok.cleared;refine count_any c (fun s=>s.byte1 p b c) h hr.e (by rw [hr.head];have:=ok.size;omega) fun w2 s2 hs h2=>?_;rcases hs with ⟨hh,rfl,hx⟩ | ⟨hh,rfl⟩
 ·have h1:Pg.R0 p b ({x with cnt:=false}:Pg.T).counted {s with head:=s.head+1,clean:=false}:=h0.of_counted rfl;have esz:({x with cnt:=false}:Pg.T).counted.size=s.head+1:=h1.head.symm;exact byte1_any hp hb c h2 h1 (ok0.counted hb (by rw [esz];exact hx)) rfl ho
 ·exact byte1_any hp hb c h2 h0 ok0 rfl ho
end code
end Go.Proofs.YtnabkcglnbdfeaaGreatDoor.Par
namespace Go.Proofs.YtnabkcglnbdfeaaGreatDoor.Par
open Go.RowKit Base Txt Mem Each
abbrev ncells (p:Nat) (b:Bd) (cl:Bool) (e:Nat):List Value:=
 [.int .u32 (p:Int),.int .i64 b.x0,.int .i64 b.x1,.int .i64 b.x2,.int .i64 b.x3,.int .i64 b.x4,.int .i64 b.x5,.int .i64 b.x6,.int .i64 b.x7,.bool b.ch,.bool b.od,.int .i64 0,.pointer none,
   .string E0,.string E0,.int .i64 0,nil,.bool false,nil,nil,.int .i64 0,.int .i64 0,.int .i64 0,.bool false,.bool cl,.int .i64 (e:Int),nil]
structure Bad (w:World) (B:Zone) (g p:Nat) (b:Bd) (s:S):Prop where
 row:w.heap[g]?=some (.cells (ncells p b false 20).toArray 60 (0,0))
 e:s.e=20
 clean:s.clean=false
 out:s.out= []
 ge:B≤g
 zone:Clear w B.z [some g]
structure Rest (w:World) (B:Zone) (g q:Nat) (v f bd t:Value) (p:Nat) (b:Bd) (s:S):Prop where
 row:∃o,w.heap[g]?=some (.cells (pcells p b s q f bd t o).toArray 60 (0,0))
 own:Own w B g q v f bd t nil p s.rd s.r.fs s.r.body s.r.ts []
def Run (w:World) (B:Zone) (g p:Nat) (b:Bd) (L:List (Option Nat)) (s:S):Prop:=
 (∃q v f bd t o,L=blks g q v f bd t o∧PR w B g q v f bd t o p b s)∨(L= [some g]∧Bad w B g p b s)
def DAt (w:World) (B:Zone) (g p:Nat) (b:Bd) (L:List (Option Nat)) (s:S):Prop:=
 (∃q v f bd t,L=blks g q v f bd t nil∧Rest w B g q v f bd t p b s)∨(L= [some g]∧Bad w B g p b s)
def DQ (w:World) (B:Zone) (g p:Nat) (b:Bd) (L:List (Option Nat)) (x:Pg.Q):Prop:=∃s,Pg.RQ p b x s∧x.Fine b∧DAt w B g p b L s
theorem fine_of {b:Bd} {x:Pg.Q} (h:x.Ok b):x.Fine b:=by cases x<;>exact h
section
variable {w w':World} {B:Zone} {g q:Nat} {v f bd t o:Value} {p:Nat} {b:Bd} {L M:List (Option Nat)} {s:S} {x:Pg.Q} {rd:Ln.R} {fs ts:List Fld} {body:List UInt8} {out:List Dx}
theorem Own.less (h:Own w B g q v f bd t o p rd fs body ts out):Own w B g q v f bd t nil p rd fs body ts []:=by
 have e:blks g q v f bd t nil=(blks g q v f bd t o).set 6 none:=rfl;refine ⟨h.R,h.F,h.D,h.T,⟨[],rfl,(by intro x hx;cases hx),FK _ _ _ _⟩,?_,h.ge,h.lt,h.zone.of (CQ _) (by rw [e];exact Of.set 6 none (.inl rfl))⟩;rw [e]
 exact h.lone.set h.in 6 none (.inl rfl)
theorem Run.tell (h:Run w B g p b L s):∃o L',w.cell? ⟨g,26,none⟩=some o∧DAt w B g p b L' s∧Pg.Told L' B w o s.out∧Step L L' w w:=by
 rcases h with ⟨q,v,f,bd,t,o,rfl,h⟩ | ⟨rfl,h⟩
 ·have hsub:∀k,some k∈blks g q v f bd t nil→some k∈blks g q v f bd t o:=fun k hk=>by
   exact XX5KD
  refine ⟨o,blks g q v f bd t nil,h.cs.c26,.inl ⟨q,v,f,bd,t,rfl,⟨o,h.row⟩,h.own.less⟩,⟨Pg.Outs.less h.own.O (fun k hk=>.inl (hsub k hk)),fun k e=>⟨fun hm=>?_,?_⟩,fun k e=>h.own.zone.off k (Cy (i:=6) (by rw [←e];rfl))⟩,⟨Keeps.refl,fun k hk=>.inl (hsub k hk)⟩⟩
  ·exact XXTkD
  ·exact h.own.in k (Cy (i:=6) (by rw [←e];rfl))
 ·exact ⟨nil,[some g],row_cellL h.row rfl,.inr ⟨rfl,h⟩,by rw [h.out];exact ⟨⟨[],rfl,(by intro x hx;cases hx),FK _ _ _ _⟩,(fun k e=>by cases e),(fun k e=>by cases e)⟩,Step.refl⟩
theorem DAt.start (h:DAt w B g p b L s) (ho:s.out= []):w.frozen? ⟨g,26,none⟩=false∧(∃o,w.cell? ⟨g,26,none⟩=some o)∧Run (w.setCell ⟨g,26,none⟩ nil) B g p b L s∧Step L L w (w.setCell ⟨g,26,none⟩ nil):=by
 rcases h with ⟨q,v,f,bd,t,rfl,⟨o,hrow⟩,hown⟩ | ⟨rfl,h⟩
 ·refine ⟨CL hrow 26,⟨o,row_cellL hrow rfl⟩,.inl ⟨q,v,f,bd,t,nil,rfl,row_setL hrow 26 nil,?_⟩,DF g 26 nil (by simp)⟩;rw [ho];exact hown.set 26 nil
 ·exact ⟨CL h.row 26,⟨_,row_cellL h.row rfl⟩,.inr ⟨rfl,row_setL h.row 26 nil,h.e,h.clean,h.out,h.ge,h.zone.of (by simp) Dg⟩,DF g 26 nil (by simp)⟩
theorem Own.keepsD (h:Own w B g q v f bd t nil p rd fs body ts []) (hk:Keeps M w w') (hd:Dis (blks g q v f bd t nil) M):Own w' B g q v f bd t nil p rd fs body ts []:=
 ⟨⟨hk.row h.R.row (hd q (by simp)),hk.own h.R.own fun k e=>hd k (by simp [←e]),h.R.ge,h.R.ne⟩,hk.own h.F fun k e=>hd k (by simp [←e]),hk.own h.D fun k e=>hd k (by simp [←e]),hk.own h.T fun k e=>hd k (by simp [←e]),
   ⟨[],rfl,(by intro x hx;cases hx),FK _ _ _ _⟩,h.lone,h.ge,CV h.lt hk.size,h.zone.of hk.size Dg⟩
theorem DAt.keeps (h:DAt w B g p b L s) (hk:Keeps M w w') (hd:Dis L M):DAt w' B g p b L s:=by
 rcases h with ⟨q,v,f,bd,t,rfl,⟨o,hrow⟩,hown⟩ | ⟨rfl,h⟩
 ·exact .inl ⟨q,v,f,bd,t,rfl,⟨o,hk.row hrow (hd g (by simp))⟩,hown.keepsD hk hd⟩
 ·exact .inr ⟨rfl,hk.row h.row (hd g (by simp)),h.e,h.clean,h.out,h.ge,h.zone.of hk.size Dg⟩
theorem DAt.in (h:DAt w B g p b L s):In w L:=by
 rcases h with ⟨q,v,f,bd,t,rfl, -,hown⟩ | ⟨rfl,h⟩
 ·exact hown.in
 ·intro k hk;obtain rfl:k=g:=by simpa using hk
  exact Ln.row_lt h.row
theorem DAt.low (h:DAt w B g p b L s):∀k,some k∈L→B≤k:=by
 rcases h with ⟨q,v,f,bd,t,rfl, -,hown⟩ | ⟨rfl,h⟩
 ·exact hown.low
 ·intro k hk;obtain rfl:k=g:=by simpa using hk
  exact h.ge
theorem DQ.keeps (h:DQ w B g p b L x) (hk:Keeps M w w') (hd:Dis L M):DQ w' B g p b L x:=by obtain ⟨s,h1,h2,h3⟩:=h;exact ⟨s,h1,h2,h3.keeps hk hd⟩
theorem DQ.below (h:DQ w B g p b L x) (hb:Below w.heap.size w w'):DQ w' B g p b L x:=h.keeps (M:= []) (Be hb) (fun k _ hk=>by cases hk)
theorem DQ.in (h:DQ w B g p b L x):In w L:=by obtain ⟨_,_,_,h3⟩:=h;exact h3.in
theorem DQ.low (h:DQ w B g p b L x):∀k,some k∈L→B≤k:=by obtain ⟨_,_,_,h3⟩:=h;exact h3.low
end
section code
set_option maxHeartbeats 4000000
set_option maxRecDepth 20000
attribute [local go_sem] Al
variable {w:World} {B:Zone} {g q:Nat} {v f bd t o:Value} {p:Nat} {b:Bd} {s:S} {x:Pg.Q} {L:List (Option Nat)}
theorem byteDead_any (c:UInt8) {e:Nat} (he:e≠0) (c25:w.cell? ⟨g,25,none⟩=some (.int .i64 (e:Int))) :
 Calls EL 76 #[ptr g,.int .u8 (c.toNat:Int)] w fun r w'=>r=.returned (.tuple #[])∧w'=w:=by
 have t5:((e:Int)==0)=false:=beq_eq_false_iff_ne.2 (by omega);have n5:¬(e:Int)=0:=by omega
 go_enter Tryz.func76,Tryz.ntmps76;go_wp2;first | go_end0 | refine bodyPost_ret (results_none rfl _ _ _) rfl ?_
 exact ⟨rfl,rfl⟩
theorem byteRun_any (hp:p<4294967296) (c:UInt8) (h:Run w B g p b L s) (hr:Pg.RQ p b x s) (ok:x.Fine b) (ho:s.out.length≤999999998) :
 Calls EL 76 #[ptr g,.int .u8 (c.toNat:Int)] w fun r w'=>r=.returned (.tuple #[])∧∃L',Run w' B g p b L' (s.byte p b c)∧Step L L' w w':=by
 cases x with
 | live y=>
   obtain ⟨ok1,ok2⟩:=ok;have hr:Pg.RR p b y s:=hr;rcases h with ⟨q,v,f,bd,t,o,rfl,h⟩ | ⟨rfl,h⟩
   ·refine (byteS_any hp ok2 c h hr ok1 ho).mono ?_;rintro r w' ⟨rfl,q1,v1,f1,bd1,t1,o1,hP,hS⟩;exact ⟨rfl,_,.inl ⟨q1,v1,f1,bd1,t1,o1,rfl,hP⟩,hS⟩
   ·exact absurd (hr.e.symm.trans h.e) (by decide)
 | dead e o=>
   have he:=hr.err;rw [S.byte_dead he];have key:∀c25:w.cell? ⟨g,25,none⟩=some (.int .i64 (s.e:Int)),Calls EL 76 #[ptr g,.int .u8 (c.toNat:Int)] w fun r w'=>r=.returned (.tuple #[])∧∃L',Run w' B g p b L' s∧Step L L' w w':=by intro c25;refine (byteDead_any c he c25).mono ?_;rintro r w' ⟨rfl,rfl⟩;exact ⟨rfl,L,h,Step.refl⟩
   rcases h with ⟨q,v,f,bd,t,o,rfl,h1⟩ | ⟨rfl,h1⟩
   ·exact key h1.cs.c25
   ·exact key (by rw [h1.e];exact row_cellL h1.row rfl)
end code
end Go.Proofs.YtnabkcglnbdfeaaGreatDoor.Par
namespace Go.Proofs.YtnabkcglnbdfeaaGreatDoor.Par
open Go.RowKit Base Txt Mem Each
section
variable {w:World} {B:Zone} {g p:Nat} {b:Bd} {s:S} {x:Pg.Q} {L:List (Option Nat)}
theorem DAt.cell (h:DAt w B g p b L s):w.cell? ⟨g,25,none⟩=some (.int .i64 (s.e:Int))∧w.cell? ⟨g,24,none⟩=some (.bool s.clean):=by
 rcases h with ⟨q,v,f,bd,t,rfl,⟨o,hrow⟩,hown⟩ | ⟨rfl,h⟩
 ·exact ⟨row_cellL hrow rfl,row_cellL hrow rfl⟩
 ·rw [h.e,h.clean];exact ⟨row_cellL h.row rfl,row_cellL h.row rfl⟩
theorem DQ.e (h:DQ w B g p b L x):w.cell? ⟨g,25,none⟩=some (.int .i64 (x.err:Int)):=by obtain ⟨s,h1,h2,h3⟩:=h;rw [←(Pg.said_sim h1 h2).1];exact h3.cell.1
theorem DQ.cl (h:DQ w B g p b L x):w.cell? ⟨g,24,none⟩=some (.bool x.clean):=by obtain ⟨s,h1,h2,h3⟩:=h;rw [←(Pg.said_sim h1 h2).2.2.2.2];exact h3.cell.2
theorem DAt.told (h:DAt w B g p b L s):DAt w B g p b L {s with out:= []}:=by
 rcases h with ⟨q,v,f,bd,t,rfl,hrow,hown⟩ | ⟨rfl,h⟩
 ·exact .inl ⟨q,v,f,bd,t,rfl,hrow,hown⟩
 ·exact .inr ⟨rfl,h.row,h.e,h.clean,rfl,h.ge,h.zone⟩
end
section code
set_option maxHeartbeats 4000000
set_option maxRecDepth 20000
attribute [local go_sem] Al
variable {w:World} {B:Zone} {g q:Nat} {v f bd t o:Value} {p:Nat} {b:Bd} {s:S} {x:Pg.Q} {L:List (Option Nat)}
theorem next_new (hrow:w.heap[g]?=some (.cells (ncells p b true 0).toArray 60 (0,0))) (hB:B≤g) (hz:B.z= []):Calls EL 74 #[ptr g] w fun r w'=>
 r=.returned (.tuple #[])∧∃q1,PR w' B g q1 nil nil nil nil nil p b ⟨0,nl p b.x0,zero,0,0,0,false,true,0,[]⟩∧Keeps [some g] w w':=by
 have hlt:=Ln.row_lt hrow
 have HR1:=Bo (show (((((((((((((w.setCell ⟨g,13,none⟩ (.string E0)).setCell ⟨g,14,none⟩ (.string E0)).setCell ⟨g,15,none⟩ (.int .i64 0)).setCell ⟨g,16,none⟩ (nil)).setCell ⟨g,17,none⟩ (.bool false)).setCell ⟨g,18,none⟩ (nil)).setCell ⟨g,19,none⟩ (nil)).setCell ⟨g,11,none⟩ (.int .i64 0)).setCell ⟨g,20,none⟩ (.int .i64 0)).setCell ⟨g,21,none⟩ (.int .i64 0)).setCell ⟨g,23,none⟩ (.bool false)).setCell ⟨g,24,none⟩ (.bool true))).heap[g]?=some (.cells (ncells p b true 0).toArray 60 (0,0)) from (row_setL (row_setL (row_setL (row_setL (row_setL (row_setL (row_setL (row_setL (row_setL (row_setL (row_setL (row_setL hrow 13 (.string E0)) 14 (.string E0)) 15 (.int .i64 0)) 16 (nil)) 17 (.bool false)) 18 (nil)) 19 (nil)) 11 (.int .i64 0)) 20 (.int .i64 0)) 21 (.int .i64 0)) 23 (.bool false)) 24 (.bool true)))
 have HK1:=Bo (show Keeps [some g] w ((((((((((((w.setCell ⟨g,13,none⟩ (.string E0)).setCell ⟨g,14,none⟩ (.string E0)).setCell ⟨g,15,none⟩ (.int .i64 0)).setCell ⟨g,16,none⟩ (nil)).setCell ⟨g,17,none⟩ (.bool false)).setCell ⟨g,18,none⟩ (nil)).setCell ⟨g,19,none⟩ (nil)).setCell ⟨g,11,none⟩ (.int .i64 0)).setCell ⟨g,20,none⟩ (.int .i64 0)).setCell ⟨g,21,none⟩ (.int .i64 0)).setCell ⟨g,23,none⟩ (.bool false)).setCell ⟨g,24,none⟩ (.bool true)) from ((((((((((((Bf (L:= [some g]) g 13 (.string E0) (by simp)).trans (Bf (L:= [some g]) g 14 (.string E0) (by simp)) Dg).trans (Bf (L:= [some g]) g 15 (.int .i64 0) (by simp)) Dg).trans (Bf (L:= [some g]) g 16 (nil) (by simp)) Dg).trans (Bf (L:= [some g]) g 17 (.bool false) (by simp)) Dg).trans (Bf (L:= [some g]) g 18 (nil) (by simp)) Dg).trans (Bf (L:= [some g]) g 19 (nil) (by simp)) Dg).trans (Bf (L:= [some g]) g 11 (.int .i64 0) (by simp)) Dg).trans (Bf (L:= [some g]) g 20 (.int .i64 0) (by simp)) Dg).trans (Bf (L:= [some g]) g 21 (.int .i64 0) (by simp)) Dg).trans (Bf (L:= [some g]) g 23 (.bool false) (by simp)) Dg).trans (Bf (L:= [some g]) g 24 (.bool true) (by simp)) Dg));have c11:=row_cellL hrow (k:=11) rfl;have z11:=CL hrow 11;have c13:=row_cellL hrow (k:=13) rfl;have z13:=CL hrow 13;have c14:=row_cellL hrow (k:=14) rfl;have z14:=CL hrow 14;have c15:=row_cellL hrow (k:=15) rfl;have z15:=CL hrow 15;have c16:=row_cellL hrow (k:=16) rfl;have z16:=CL hrow 16;have c17:=row_cellL hrow (k:=17) rfl;have z17:=CL hrow 17;have c18:=row_cellL hrow (k:=18) rfl;have z18:=CL hrow 18;have c19:=row_cellL hrow (k:=19) rfl;have z19:=CL hrow 19;have c20:=row_cellL hrow (k:=20) rfl;have z20:=CL hrow 20;have c21:=row_cellL hrow (k:=21) rfl;have z21:=CL hrow 21;have c23:=row_cellL hrow (k:=23) rfl;have z23:=CL hrow 23;have c24:=row_cellL hrow (k:=24) rfl;have z24:=CL hrow 24;have HB:=Bo hB;have HZ:=Bo hz;clear hrow hB hlt hz;go_enter Tryz.func74,Tryz.ntmps74;go_upto_region 1 with fail
 generalize ((((((((((((w.setCell ⟨g,13,none⟩ (.string E0)).setCell ⟨g,14,none⟩ (.string E0)).setCell ⟨g,15,none⟩ (.int .i64 0)).setCell ⟨g,16,none⟩ (nil)).setCell ⟨g,17,none⟩ (.bool false)).setCell ⟨g,18,none⟩ (nil)).setCell ⟨g,19,none⟩ (nil)).setCell ⟨g,11,none⟩ (.int .i64 0)).setCell ⟨g,20,none⟩ (.int .i64 0)).setCell ⟨g,21,none⟩ (.int .i64 0)).setCell ⟨g,23,none⟩ (.bool false)).setCell ⟨g,24,none⟩ (.bool true))=W1 at *;clear c13 z13 c14 z14 c15 z15 c16 z16 c17 z17 c18 z18 c19 z19 c11 z11 c20 z20 c21 z21 c23 z23 c24 z24
 have HRD:=Bo (show (W1.drewN 1).heap[g]?=some (.cells (ncells p b true 0).toArray 60 (0,0)) from HR1.out)
 have HQ:=Bo (show Dv (W1.drewN 1) g (ncells p b true 0) from ⟨fun _ _ hu=>row_cellL HRD.out hu,fun k _=>CL HRD.out k,Ln.row_lt HRD.out⟩)
 have HBW:=Bo (show B≤(W1.drewN 1).heap.size from CT HB.out (CP (Ln.row_lt HRD.out)));refine Each.region 11 [21,22,23,24,25,26,27,28,29,30,31] [eP g 0,eP g 0,eP g 0,eP g 0,eQ (.int .u32 (p:Int)),eP g 0,eP g 0,eP g 1,eP g 1,eQ (.int .i64 b.x0),fun v w=>∃q1,v=ptr q1∧W1.heap.size≤q1∧Ln.Rr w B.b q1 nil p (nl p (b.x0))] (.quiet 11 (.quiet 12 (.act 13 .done))) (by kernel_rfl) (by kernel_rfl) (by kernel_rfl) (by kernel_rfl) (fun _ _ d _ _ h=>by cases d<;>exact h) (by rfl) (by rfl) ⟨AI _,AI _,AI _,AI _,AI _,AI _,AI _,AI _,AI _,AI _,((fun _ _ _ hb h=>by obtain ⟨q1,e1,h1,h2⟩:=h;exact ⟨q1,e1,h1,rr_below h2 hb⟩)),trivial⟩ ?_ ?_
 ·refine ⟨?_,?_,?_,?_,?_,?_,?_,?_,?_,?_,?_,trivial⟩
  ·exact XXSdZ
  ·exact XXSdZ
  ·exact XXSdZ
  ·exact XXSdZ
  ·exact XXSdZ
  ·exact XXSdZ
  ·exact XXSdZ
  ·exact XXSdZ
  ·exact XXSdZ
  ·exact XXSdZ
  ·refine AJ rfl (fun ev w1 hR hb hh=>?_);have e25:ev (.tmp 25)= _:=hh.at 0;have e30:ev (.tmp 30)= _:=hh.at 1;clear hh;have ef:=hR.func
   refine AE 116 #[.int .u32 (p:Int),.int .i64 (b.x0)] (by go_simp) ((rnew_line B.b (b.x0) w1 (CT HBW.out hb.size)).mono ?_);rintro r w2 ⟨q1,rfl,h1,h2,hb2⟩;exact ⟨_,rfl,hb2,q1,rfl,CT hb.size h1,h2⟩
 intro g1 w2 hb hf;have z21:g1 21= _:=hf.at 0;have z31:=hf.at 10;clear hf;obtain ⟨q1,e1,hq1,hr1⟩:=z31;simp only [AM,Ab,C7,CA,C9];rw [e1,z21];simp only [DU,DV,BR,BQ];refine DW (by rfl) (ptr g) (fun _ _=>by go_simp) ?_;simp only [Ab,C7,CA,C9];refine DW (by rfl) (.pointer (some ⟨g,12,none⟩)) (fun _ _=>by go_simp) ?_;simp only [Ab,C7,CA,C9];have hrow2:=(hb.block g (Ln.row_lt HR1.out)).trans HR1.out;have c12:=row_cellL hrow2 (k:=12) rfl;have z12:=CL hrow2 12
 refine DS (by rfl) (fun K hK=>?_);go_simp;refine hK _ _ trivial ?_;clear hK K;refine DT ?_;have HR2:=Bo hrow2;have HRR:=Bo hr1;have HQ1:=Bo hq1;have HB2:=Bo hb;clear HQ HBW HRD hr1 hq1 hrow2 c12 z12 hb;go_wp2;go_end0;have hgq:g≠q1:=by have:=Ln.row_lt HR1.out;have:=HQ1.out;omega
 have hk:Keeps [some g] w2 (w2.setCell ⟨g,12,none⟩ (ptr q1)):=Bf g 12 _ (by simp);refine ⟨rfl,q1,⟨row_setL HR2.out 12 (ptr q1),⟨⟨hk.row HRR.out.row (by simpa using fun e=>hgq e.symm),hk.own HRR.out.own (by simp [Value.ownBlock]),HRR.out.ge,HRR.out.ne⟩,FK _ _ _ _,FK _ _ _ _,FK _ _ _ _,⟨[],rfl,(by intro x hx;cases hx),FK _ _ _ _⟩,?_,HB.out,by have:=Ln.row_lt HR2.out;simpa using this,by rw [HZ.out];exact Clear.nil⟩⟩,(HK1.out.trans (Be HB2.out) Dg).trans hk Dg⟩;intro i j k hi hj;rcases i with _ | _ | _ | _ | _ | _ | _ | i<;>rcases j with _ | _ | _ | _ | _ | _ | _ | j<;>simp [Value.ownBlock] at hi hj ⊢<;>omega
theorem fine_new (p:Nat) (b:Bd):(Pg.Q.new p b).Fine b:=fine_of (Pg.Q.new_ok p b)
theorem XX9L8 {P:Prop} (h:P:=by
 clear x0 x1 x2 x3 x4 x5 x6 x7 x8 x9;go_wp2_with fail;go_ret
 exact KEY.out W0 _ (Ak HB4.out HB3.out) HG.out (CV HLT.out HB3.out.size) HR5.out):P:=h
theorem dnew_any (hp:p<4294967296) (w:World):Calls EL 19 #[.int .u32 (p:Int),.agg #[.int .i64 b.x0,.int .i64 b.x1,.int .i64 b.x2,.int .i64 b.x3,.int .i64 b.x4,.int .i64 b.x5,.int .i64 b.x6,.int .i64 b.x7,.bool b.ch,.bool b.od]] w fun r w'=>
 ∃g L',r=.returned (ptr g)∧w.heap.size≤g∧DQ w' ⟨w.heap.size,[]⟩ g p b L' (Pg.Q.new p b)∧Below w.heap.size w w':=by
 have hqr:=fun w=>Qk.rright_any p hp w;have hbr:=fun w=>Bnd.rright_any b.x0 b.x1 b.x2 b.x3 b.x4 b.x5 b.x6 b.x7 b.ch b.od w
 have HB0:=Bo (((Am _ _).alloc (CQ _) (.cells #[.int .i64 b.x0,.int .i64 b.x1,.int .i64 b.x2,.int .i64 b.x3,.int .i64 b.x4,.int .i64 b.x5,.int .i64 b.x6,.int .i64 b.x7,.bool b.ch,.bool b.od] 29)):Below w.heap.size w _)
 have HZ0:=Bo (Dw w w.heap.size rfl 29 [.int .i64 b.x0,.int .i64 b.x1,.int .i64 b.x2,.int .i64 b.x3,.int .i64 b.x4,.int .i64 b.x5,.int .i64 b.x6,.int .i64 b.x7,.bool b.ch,.bool b.od])
 have HSZ:=Bo (show w.heap.size<(w.alloc (.cells #[.int .i64 b.x0,.int .i64 b.x1,.int .i64 b.x2,.int .i64 b.x3,.int .i64 b.x4,.int .i64 b.x5,.int .i64 b.x6,.int .i64 b.x7,.bool b.ch,.bool b.od] 29)).heap.size by simp)
 have HSIM:=Bo (Pg.new_sim (p:=p) (b:=b));have HFI:=Bo (fine_new p b);have hnew:Pg.Q.new p b=if (b.right&&decide (p<1073741824))=true then .live (Pg.T.new p b) else .dead 20 []:=rfl
 have hsn:S.new p b=if (b.right&&decide (p<1073741824))=true then ⟨0,nl p b.x0,zero,0,0,0,false,true,0,[]⟩ else ⟨0,nl p b.x0,zero,0,0,0,false,false,20,[]⟩:=rfl
 generalize Pg.Q.new p b=X at HSIM HFI hnew ⊢;generalize S.new p b=s0 at HSIM hsn;have good:b.right=true→p<1073741824→s0=⟨0,nl p b.x0,zero,0,0,0,false,true,0,[]⟩:=fun h1 h2=>by rw [hsn,if_pos (by rw [h1,decide_eq_true h2];rfl)]
 have bad:¬(b.right=true∧p<1073741824)→s0=⟨0,nl p b.x0,zero,0,0,0,false,false,20,[]⟩:=fun h=>by rw [hsn,if_neg (by simpa using h)]
 clear hnew hsn;by_cases hok:b.right=true∧p<1073741824
 ·have es:=good hok.1 hok.2;subst es;rw [decide_eq_true hok.2] at hqr;rw [show Bnd.right b.x0 b.x1 b.x2 b.x3 b.x4 b.x5 b.x6 b.x7=true from hok.1] at hbr;have HQR:=Bo hqr;have HBR:=Bo hbr;clear hqr hbr good bad hok;go_enter Tryz.func19,Tryz.ntmps19;go_upto_region 1 with fail
  generalize w.alloc (.cells #[.int .i64 b.x0,.int .i64 b.x1,.int .i64 b.x2,.int .i64 b.x3,.int .i64 b.x4,.int .i64 b.x5,.int .i64 b.x6,.int .i64 b.x7,.bool b.ch,.bool b.od] 29)=W0 at *;have y0:=HZ0.out.c 0 _ rfl;have y1:=HZ0.out.c 1 _ rfl;have y2:=HZ0.out.c 2 _ rfl;have y3:=HZ0.out.c 3 _ rfl;have y4:=HZ0.out.c 4 _ rfl;have y5:=HZ0.out.c 5 _ rfl;have y6:=HZ0.out.c 6 _ rfl;have y7:=HZ0.out.c 7 _ rfl;have y8:=HZ0.out.c 8 _ rfl;have y9:=HZ0.out.c 9 _ rfl
  have HG:=Bo (CP HSZ.out)
  have HR4:=Bo (heap_alloc_new W0 (.cells #[.int .u32 (p:Int),.int .i64 b.x0,.int .i64 b.x1,.int .i64 b.x2,.int .i64 b.x3,.int .i64 b.x4,.int .i64 b.x5,.int .i64 b.x6,.int .i64 b.x7,.bool b.ch,.bool b.od,.int .i64 0,.pointer none,.string E0,.string E0,.int .i64 0,nil,.bool false,nil,nil,.int .i64 0,.int .i64 0,.int .i64 0,.bool false,.bool true,.int .i64 0,nil] 60))
  have HB4:=Bo (HB0.out.alloc HG.out (.cells #[.int .u32 (p:Int),.int .i64 b.x0,.int .i64 b.x1,.int .i64 b.x2,.int .i64 b.x3,.int .i64 b.x4,.int .i64 b.x5,.int .i64 b.x6,.int .i64 b.x7,.bool b.ch,.bool b.od,.int .i64 0,.pointer none,.string E0,.string E0,.int .i64 0,nil,.bool false,nil,nil,.int .i64 0,.int .i64 0,.int .i64 0,.bool false,.bool true,.int .i64 0,nil] 60))
  have HX4:=Bo (HZ0.out.alloc (.cells #[.int .u32 (p:Int),.int .i64 b.x0,.int .i64 b.x1,.int .i64 b.x2,.int .i64 b.x3,.int .i64 b.x4,.int .i64 b.x5,.int .i64 b.x6,.int .i64 b.x7,.bool b.ch,.bool b.od,.int .i64 0,.pointer none,.string E0,.string E0,.int .i64 0,nil,.bool false,nil,nil,.int .i64 0,.int .i64 0,.int .i64 0,.bool false,.bool true,.int .i64 0,nil] 60))
  have HLT:=Bo (show W0.heap.size<(W0.alloc (.cells #[.int .u32 (p:Int),.int .i64 b.x0,.int .i64 b.x1,.int .i64 b.x2,.int .i64 b.x3,.int .i64 b.x4,.int .i64 b.x5,.int .i64 b.x6,.int .i64 b.x7,.bool b.ch,.bool b.od,.int .i64 0,.pointer none,.string E0,.string E0,.int .i64 0,nil,.bool false,nil,nil,.int .i64 0,.int .i64 0,.int .i64 0,.bool false,.bool true,.int .i64 0,nil] 60)).heap.size by simp);go_upto_region 2 with fail
  generalize hgg:W0.heap.size=g at *;generalize W0.alloc (.cells #[.int .u32 (p:Int),.int .i64 b.x0,.int .i64 b.x1,.int .i64 b.x2,.int .i64 b.x3,.int .i64 b.x4,.int .i64 b.x5,.int .i64 b.x6,.int .i64 b.x7,.bool b.ch,.bool b.od,.int .i64 0,.pointer none,.string E0,.string E0,.int .i64 0,nil,.bool false,nil,nil,.int .i64 0,.int .i64 0,.int .i64 0,.bool false,.bool true,.int .i64 0,nil] 60)=W2 at *;clear y0 y1 y2 y3 y4 y5 y6 y7 y8 y9;have x0:=HX4.out.c 0 _ rfl;have x1:=HX4.out.c 1 _ rfl;have x2:=HX4.out.c 2 _ rfl;have x3:=HX4.out.c 3 _ rfl;have x4:=HX4.out.c 4 _ rfl;have x5:=HX4.out.c 5 _ rfl;have x6:=HX4.out.c 6 _ rfl;have x7:=HX4.out.c 7 _ rfl;have x8:=HX4.out.c 8 _ rfl;have x9:=HX4.out.c 9 _ rfl
  go_wp2_with (first
   |(go_at_call 74;with_reducible refine (next_new (B:=⟨w.heap.size,[]⟩) HR5.out HG.out rfl).mono ?_;rintro r w5 ⟨rfl,q1,hP,hK⟩)
   |(go_at_call 73;with_reducible refine Cm (HQR.out _) ?_)
   |(go_at_call 52;with_reducible refine (HBR.out _).mono ?_;rintro r w3 ⟨rfl,hb3⟩
     have HB3:=Bo hb3
     have HR5:=Bo ((hb3.block g HLT.out).trans HR4.out);clear hb3))
  go_ret;have hbw:=Ak HB4.out HB3.out;exact ⟨g,_,rfl,HG.out,⟨_,HSIM.out,HFI.out,.inl ⟨q1,nil,nil,nil,nil,rfl,⟨nil,hP.row⟩,hP.own⟩⟩,hbw.trans (hK.below hbw.size (fun k hk=>by rw [Dk.inj (C1.1 hk)];exact HG.out))⟩
 ·have es:=bad hok;subst es;have hbr':b.right=false∨(b.right=true∧decide (p<1073741824)=false):=by
   cases h:b.right with
   | false=>exact .inl rfl
   | true=>exact .inr ⟨rfl,decide_eq_false fun e=>hok ⟨h,e⟩⟩
  clear good bad hok;have HQR:=Bo hqr;have HBR:=Bo hbr;clear hqr hbr;have key:∀(W0:World) (W:World),Below w.heap.size w W→w.heap.size≤W0.heap.size→W0.heap.size<W.heap.size→W.heap[W0.heap.size]?=some (.cells (ncells p b true 0).toArray 60 (0,0))→
   ∃g L',(Ending.returned (ptr W0.heap.size))=.returned (ptr g)∧w.heap.size≤g∧DQ ((W.setCell ⟨W0.heap.size,25,none⟩ (.int .i64 20)).setCell ⟨W0.heap.size,24,none⟩ (.bool false)) ⟨w.heap.size,[]⟩ g p b L' X∧Below w.heap.size w ((W.setCell ⟨W0.heap.size,25,none⟩ (.int .i64 20)).setCell ⟨W0.heap.size,24,none⟩ (.bool false)):=by
   intro W0 W hb hg hlt hr;have hk:Keeps [some W0.heap.size] W ((W.setCell ⟨W0.heap.size,25,none⟩ (.int .i64 20)).setCell ⟨W0.heap.size,24,none⟩ (.bool false)):=(Bf _ 25 _ (by simp)).trans (Bf _ 24 _ (by simp)) Dg;exact ⟨W0.heap.size,[some W0.heap.size],rfl,hg,⟨_,HSIM.out,HFI.out,.inr ⟨rfl,row_setL (row_setL hr 25 (.int .i64 20)) 24 (.bool false),rfl,rfl,rfl,hg,Clear.nil⟩⟩,hb.trans (hk.below hb.size (fun k hk=>by rw [Dk.inj (C1.1 hk)];exact hg))⟩
  have KEY:=Bo key;clear key HSIM HFI;rcases hbr' with h1 | ⟨h1,h2⟩
  ·rw [show Bnd.right b.x0 b.x1 b.x2 b.x3 b.x4 b.x5 b.x6 b.x7=false from h1] at HBR;clear HQR h1;go_enter Tryz.func19,Tryz.ntmps19;go_upto_region 1 with fail
   generalize w.alloc (.cells #[.int .i64 b.x0,.int .i64 b.x1,.int .i64 b.x2,.int .i64 b.x3,.int .i64 b.x4,.int .i64 b.x5,.int .i64 b.x6,.int .i64 b.x7,.bool b.ch,.bool b.od] 29)=W0 at *;have y0:=HZ0.out.c 0 _ rfl;have y1:=HZ0.out.c 1 _ rfl;have y2:=HZ0.out.c 2 _ rfl;have y3:=HZ0.out.c 3 _ rfl;have y4:=HZ0.out.c 4 _ rfl;have y5:=HZ0.out.c 5 _ rfl;have y6:=HZ0.out.c 6 _ rfl;have y7:=HZ0.out.c 7 _ rfl;have y8:=HZ0.out.c 8 _ rfl;have y9:=HZ0.out.c 9 _ rfl
   have HG:=Bo (CP HSZ.out)
   have HR4:=Bo (heap_alloc_new W0 (.cells #[.int .u32 (p:Int),.int .i64 b.x0,.int .i64 b.x1,.int .i64 b.x2,.int .i64 b.x3,.int .i64 b.x4,.int .i64 b.x5,.int .i64 b.x6,.int .i64 b.x7,.bool b.ch,.bool b.od,.int .i64 0,.pointer none,.string E0,.string E0,.int .i64 0,nil,.bool false,nil,nil,.int .i64 0,.int .i64 0,.int .i64 0,.bool false,.bool true,.int .i64 0,nil] 60))
   have HB4:=Bo (HB0.out.alloc HG.out (.cells #[.int .u32 (p:Int),.int .i64 b.x0,.int .i64 b.x1,.int .i64 b.x2,.int .i64 b.x3,.int .i64 b.x4,.int .i64 b.x5,.int .i64 b.x6,.int .i64 b.x7,.bool b.ch,.bool b.od,.int .i64 0,.pointer none,.string E0,.string E0,.int .i64 0,nil,.bool false,nil,nil,.int .i64 0,.int .i64 0,.int .i64 0,.bool false,.bool true,.int .i64 0,nil] 60))
   have HX4:=Bo (HZ0.out.alloc (.cells #[.int .u32 (p:Int),.int .i64 b.x0,.int .i64 b.x1,.int .i64 b.x2,.int .i64 b.x3,.int .i64 b.x4,.int .i64 b.x5,.int .i64 b.x6,.int .i64 b.x7,.bool b.ch,.bool b.od,.int .i64 0,.pointer none,.string E0,.string E0,.int .i64 0,nil,.bool false,nil,nil,.int .i64 0,.int .i64 0,.int .i64 0,.bool false,.bool true,.int .i64 0,nil] 60))
   have HLT:=Bo (show W0.heap.size<(W0.alloc (.cells #[.int .u32 (p:Int),.int .i64 b.x0,.int .i64 b.x1,.int .i64 b.x2,.int .i64 b.x3,.int .i64 b.x4,.int .i64 b.x5,.int .i64 b.x6,.int .i64 b.x7,.bool b.ch,.bool b.od,.int .i64 0,.pointer none,.string E0,.string E0,.int .i64 0,nil,.bool false,nil,nil,.int .i64 0,.int .i64 0,.int .i64 0,.bool false,.bool true,.int .i64 0,nil] 60)).heap.size by simp);go_upto_region 2 with fail
   generalize W0.alloc (.cells #[.int .u32 (p:Int),.int .i64 b.x0,.int .i64 b.x1,.int .i64 b.x2,.int .i64 b.x3,.int .i64 b.x4,.int .i64 b.x5,.int .i64 b.x6,.int .i64 b.x7,.bool b.ch,.bool b.od,.int .i64 0,.pointer none,.string E0,.string E0,.int .i64 0,nil,.bool false,nil,nil,.int .i64 0,.int .i64 0,.int .i64 0,.bool false,.bool true,.int .i64 0,nil] 60)=W2 at *;clear y0 y1 y2 y3 y4 y5 y6 y7 y8 y9;have x0:=HX4.out.c 0 _ rfl;have x1:=HX4.out.c 1 _ rfl;have x2:=HX4.out.c 2 _ rfl;have x3:=HX4.out.c 3 _ rfl;have x4:=HX4.out.c 4 _ rfl;have x5:=HX4.out.c 5 _ rfl;have x6:=HX4.out.c 6 _ rfl;have x7:=HX4.out.c 7 _ rfl;have x8:=HX4.out.c 8 _ rfl;have x9:=HX4.out.c 9 _ rfl;go_upto_region 3 with
    (go_at_call 52;with_reducible refine (HBR.out _).mono ?_;rintro r w3 ⟨rfl,hb3⟩
     have HB3:=Bo hb3;have hr5:=(hb3.block _ HLT.out).trans HR4.out;have d25:=row_cellL hr5 (k:=25) rfl;have e25:=CL hr5 25;have d24:=row_cellL hr5 (k:=24) rfl;have e24:=CL hr5 24;have HR5:=Bo hr5;clear hb3 hr5)
   exact XX9L8
  ·rw [show Bnd.right b.x0 b.x1 b.x2 b.x3 b.x4 b.x5 b.x6 b.x7=true from h1] at HBR;rw [h2] at HQR;clear h1 h2;go_enter Tryz.func19,Tryz.ntmps19;go_upto_region 1 with fail
   generalize w.alloc (.cells #[.int .i64 b.x0,.int .i64 b.x1,.int .i64 b.x2,.int .i64 b.x3,.int .i64 b.x4,.int .i64 b.x5,.int .i64 b.x6,.int .i64 b.x7,.bool b.ch,.bool b.od] 29)=W0 at *;have y0:=HZ0.out.c 0 _ rfl;have y1:=HZ0.out.c 1 _ rfl;have y2:=HZ0.out.c 2 _ rfl;have y3:=HZ0.out.c 3 _ rfl;have y4:=HZ0.out.c 4 _ rfl;have y5:=HZ0.out.c 5 _ rfl;have y6:=HZ0.out.c 6 _ rfl;have y7:=HZ0.out.c 7 _ rfl;have y8:=HZ0.out.c 8 _ rfl;have y9:=HZ0.out.c 9 _ rfl
   have HG:=Bo (CP HSZ.out)
   have HR4:=Bo (heap_alloc_new W0 (.cells #[.int .u32 (p:Int),.int .i64 b.x0,.int .i64 b.x1,.int .i64 b.x2,.int .i64 b.x3,.int .i64 b.x4,.int .i64 b.x5,.int .i64 b.x6,.int .i64 b.x7,.bool b.ch,.bool b.od,.int .i64 0,.pointer none,.string E0,.string E0,.int .i64 0,nil,.bool false,nil,nil,.int .i64 0,.int .i64 0,.int .i64 0,.bool false,.bool true,.int .i64 0,nil] 60))
   have HB4:=Bo (HB0.out.alloc HG.out (.cells #[.int .u32 (p:Int),.int .i64 b.x0,.int .i64 b.x1,.int .i64 b.x2,.int .i64 b.x3,.int .i64 b.x4,.int .i64 b.x5,.int .i64 b.x6,.int .i64 b.x7,.bool b.ch,.bool b.od,.int .i64 0,.pointer none,.string E0,.string E0,.int .i64 0,nil,.bool false,nil,nil,.int .i64 0,.int .i64 0,.int .i64 0,.bool false,.bool true,.int .i64 0,nil] 60))
   have HX4:=Bo (HZ0.out.alloc (.cells #[.int .u32 (p:Int),.int .i64 b.x0,.int .i64 b.x1,.int .i64 b.x2,.int .i64 b.x3,.int .i64 b.x4,.int .i64 b.x5,.int .i64 b.x6,.int .i64 b.x7,.bool b.ch,.bool b.od,.int .i64 0,.pointer none,.string E0,.string E0,.int .i64 0,nil,.bool false,nil,nil,.int .i64 0,.int .i64 0,.int .i64 0,.bool false,.bool true,.int .i64 0,nil] 60))
   have HLT:=Bo (show W0.heap.size<(W0.alloc (.cells #[.int .u32 (p:Int),.int .i64 b.x0,.int .i64 b.x1,.int .i64 b.x2,.int .i64 b.x3,.int .i64 b.x4,.int .i64 b.x5,.int .i64 b.x6,.int .i64 b.x7,.bool b.ch,.bool b.od,.int .i64 0,.pointer none,.string E0,.string E0,.int .i64 0,nil,.bool false,nil,nil,.int .i64 0,.int .i64 0,.int .i64 0,.bool false,.bool true,.int .i64 0,nil] 60)).heap.size by simp);go_upto_region 2 with fail
   generalize W0.alloc (.cells #[.int .u32 (p:Int),.int .i64 b.x0,.int .i64 b.x1,.int .i64 b.x2,.int .i64 b.x3,.int .i64 b.x4,.int .i64 b.x5,.int .i64 b.x6,.int .i64 b.x7,.bool b.ch,.bool b.od,.int .i64 0,.pointer none,.string E0,.string E0,.int .i64 0,nil,.bool false,nil,nil,.int .i64 0,.int .i64 0,.int .i64 0,.bool false,.bool true,.int .i64 0,nil] 60)=W2 at *;clear y0 y1 y2 y3 y4 y5 y6 y7 y8 y9;have x0:=HX4.out.c 0 _ rfl;have x1:=HX4.out.c 1 _ rfl;have x2:=HX4.out.c 2 _ rfl;have x3:=HX4.out.c 3 _ rfl;have x4:=HX4.out.c 4 _ rfl;have x5:=HX4.out.c 5 _ rfl;have x6:=HX4.out.c 6 _ rfl;have x7:=HX4.out.c 7 _ rfl;have x8:=HX4.out.c 8 _ rfl;have x9:=HX4.out.c 9 _ rfl
   go_upto_region 3 with (first
    |(go_at_call 73;with_reducible refine Cm (HQR.out _) ?_)
    |(go_at_call 52;with_reducible refine (HBR.out _).mono ?_;rintro r w3 ⟨rfl,hb3⟩
      have HB3:=Bo hb3;have hr5:=(hb3.block _ HLT.out).trans HR4.out;have d25:=row_cellL hr5 (k:=25) rfl;have e25:=CL hr5 25;have d24:=row_cellL hr5 (k:=24) rfl;have e24:=CL hr5 24;have HR5:=Bo hr5;clear hb3 hr5))
   exact XX9L8
theorem dclean_any (h:DQ w B g p b L x):Calls EL 29 #[ptr g] w fun r w'=>r=.returned (.bool x.clean)∧w'=w:=by have c24:=h.cl;clear h;generalize x.clean=cl at *;go_enter Tryz.func29,Tryz.ntmps29;go_wp2;go_ret;exact ⟨rfl,rfl⟩
end code
end Go.Proofs.YtnabkcglnbdfeaaGreatDoor.Par
namespace Go.Proofs.YtnabkcglnbdfeaaGreatDoor.Flt
open Go.RowKit Base Txt Par Pg
section
variable {p:Nat} {b:Bd} {t:T} {s:List UInt8} {c:UInt8}
end
end Go.Proofs.YtnabkcglnbdfeaaGreatDoor.Flt
namespace Go.Proofs.YtnabkcglnbdfeaaGreatDoor.Par
open Go.RowKit Base Txt Mem Each
section code
set_option maxHeartbeats 4000000
set_option maxRecDepth 20000
attribute [local go_sem] Al
variable {w:World} {B:Zone} {g q:Nat} {v f bd t o:Value} {p:Nat} {b:Bd} {s:S} {x:Pg.Q} {L:List (Option Nat)}
theorem dfeed_any (hp:p<4294967296) (h:DQ w B g p b L x) (xo:x.out= []) (a:Option Addr) (ca:Nat) (ls:List (List UInt8)) (hl:Pg.Parts L w a ls) (hn:ls.length≤1000000) (hout:2*ls.flatten.length≤999999998) :
 Calls EL 21 #[ptr g,.slice a ls.length ca] w fun r w'=>∃o L',r=.returned o∧DQ w' B g p b L' (x.feed p b ls.flatten).told∧Pg.Told L' B w' o (x.feed p b ls.flatten).out∧Step L L' w w':=by
 obtain ⟨s,hr,ok,hd⟩:=h;have ho:s.out= []:=(Pg.said_sim hr ok).2.1.trans xo;obtain ⟨z26,⟨o0,c26⟩,hrun,hst⟩:=hd.start ho;have HR:=Bo hr;have HOK:=Bo ok;have HU:=Bo hrun;have HS0:=Bo hst;have HL:=Bo (hl.step hst);have HOU:=Bo hout;have HXO:=Bo xo;obtain ⟨n,hnn⟩:∃n,ls.length=n:=⟨_,rfl⟩;have HN:=Bo hnn;have hn1:n≤1000000:=by omega
 rw [hnn];clear hd hr ok hrun hst hl hout xo ho hn hnn;go_enter Tryz.func21,Tryz.ntmps21;go_upto_region 3 with fail
 generalize w.setCell ⟨g,26,none⟩ nil=W1 at *;clear z26 c26
 go_loopw [5] (fun i wr=>∃k:Nat,k≤n∧i=.int .i64 k∧Hid (∃Lr,Run wr B g p b Lr (s.feed p b (ls.take k).flatten)∧Step L Lr W1 wr)) (fun i _=>n-(intOf i).toNat)
 case atStart=>exact ⟨0,CY _,rfl,Bo ⟨L,HU.out,Step.refl⟩⟩
 case round=>
  obtain ⟨k,hk,rfl,hR⟩:=hrel;rcases CW k n with hlt | hge
  ·obtain ⟨Lr,hA,hS⟩:=hR.out;have hkl:k<ls.length:=by rw [HN.out];exact hlt
   obtain ⟨bk,off,rfl, -, -, -⟩:=HL.out.cells (by omega);have htk:(ls.take (k+1)).flatten=(ls.take k).flatten++ls[k]:=by rw [CE hkl,List.flatten_append];simp
   have hsum:(ls.take (k+1)).flatten.length≤ls.flatten.length:=by exact XX086
   rw [htk,Ch] at hsum;have t1:(k:Int)<(n:Int):=by omega
   have HTK:=Bo htk;obtain ⟨pl,hpl⟩:∃pl,ls[k]=pl:=⟨_,rfl⟩;rw [hpl] at hsum HTK;obtain ⟨m,hm⟩:∃m,pl.length=m:=⟨_,rfl⟩;rw [hm] at hsum;have HM:=Bo hm;obtain ⟨q0,hq0⟩:∃q0,(ls.take k).flatten=q0:=⟨_,rfl⟩;rw [hq0] at hA hsum HTK;have hsum2:2*(q0.length+m)≤999999998:=by have:=HOU.out;omega
   have HSUM:=Bo hsum2;have hm9:m≤1000000000:=by omega
   have HCE:=Bo (show∀(wq:World) (Lq:List (Option Nat)),Step L Lq W1 wq→∃ak ck,wq.cell? ⟨bk,off+k,none⟩=some (.slice ak m ck)∧Pg.Bts Lq wq ak pl from fun wq Lq hS=>by obtain ⟨bk',off',e, -, -,hc⟩:=(HL.out.step hS).cells (by omega);cases e;obtain ⟨ak,ck,h1,h2⟩:=hc k hkl;rw [hpl,hm] at h1;rw [hpl] at h2;exact ⟨ak,ck,h1,h2⟩)
   have HA:=Bo hA;have HS:=Bo hS;clear hA hS hsum hsum2 htk hpl hm hR hq0 hkl;go_upto_region 6 with fail
   go_loopw [6] (fun j wq=>∃i:Nat,i≤m∧j=.int .i64 i∧Hid (∃Lq,Run wq B g p b Lq (s.feed p b (q0++pl.take i))∧Step L Lq W1 wq)) (fun j _=>m-(intOf j).toNat)
   case atStart=>exact ⟨0,CY _,rfl,Bo ⟨Lr,by rw [List.take_zero,B7];exact HA.out,HS.out⟩⟩
   case round=>
    obtain ⟨i,hi,rfl,hR2⟩:=hrel;rcases CW i m with hilt | hige
    ·obtain ⟨Lq,hA2,hS2⟩:=hR2.out;have hil:i<pl.length:=by rw [HM.out];exact hilt
     obtain ⟨ak,ck,hcell,hbt⟩:=HCE.out _ _ hS2
     obtain ⟨zb,zo,rfl,hzb,hz⟩:=hbt.nums.2 (by omega);have hbyte:=hz i hil;have hti:pl.take (i+1)=pl.take i ++ [pl[i]]:=CE hil;have hgi:(pl.map fun c=>(c.toNat:Int))[i]?.getD 0=(pl[i].toNat:Int):=by simp [hil]
     rw [hgi] at hbyte;have HTI:=Bo hti;obtain ⟨c,hc⟩:∃c,pl[i]=c:=⟨_,rfl⟩;rw [hc] at hbyte HTI;have t2:(i:Int)<(m:Int):=by omega
     obtain ⟨hr3,ok3⟩:=Pg.feed_sim (q0++pl.take i) HR.out HOK.out;have hou3:(s.feed p b (q0++pl.take i)).out.length≤999999998:=by rw [(Pg.said_sim hr3 ok3).2.1];have h1:=Pg.Q.feed_out (p:=p) (b:=b) (q0++pl.take i) x;have h2:=HSUM.out;rw [HXO.out,Ch,Cr] at h1;simp only [List.length_nil] at h1;omega
     have HTA:=Bo (byteRun_any hp c hA2 hr3 ok3 hou3);have HS2:=Bo hS2;clear hA2 hS2 hz hzb hti hgi hc hr3 ok3 hou3 hR2 hbt
     go_wp2_with (go_at_call 76;with_reducible refine HTA.out.mono ?_;rintro r w5 ⟨rfl,L5,hA5,hS5⟩);go_roundw
     case rel=>exact ⟨i+1,by omega,by go_num,Bo ⟨L5,by rw [HTI.out,←List.append_assoc,S.feed_app];exact hA5,HS2.out.trans hS5⟩⟩
     case measure=>simp [intOf];omega
    ·obtain rfl:i=m:=by omega
     have t2:¬(i:Int)<(i:Int):=by omega
     obtain ⟨Lq,hA2,hS2⟩:=hR2.out;obtain ⟨ak,ck,hcell,hbt⟩:=HCE.out _ _ hS2
     have e:pl.take i=pl:=CD (by rw [HM.out];exact CQ _);rw [e,←HTK.out] at hA2;have HA2:=Bo hA2;have HS2:=Bo hS2;clear hA2 hS2 e hR2 hbt;exact XXMED
  ·obtain rfl:k=n:=by omega
   have t1:¬(k:Int)<(k:Int):=by omega
   obtain ⟨Lr,hA,hS⟩:=hR.out
   have e:ls.take k=ls:=CD (by rw [HN.out];exact CQ _);rw [e] at hA;obtain ⟨o,L2,c26,hA2,hT2,hS2⟩:=hA.tell;obtain ⟨hr3,ok3⟩:=Pg.feed_sim ls.flatten HR.out HOK.out;have e2:=(Pg.said_sim hr3 ok3).2.1;rw [e2] at hT2
   have HA2:=Bo (show DQ wr B g p b L2 (x.feed p b ls.flatten).told from ⟨_,Pg.told_sim hr3,Pg.told_fine ok3,hA2.told⟩);have HT2:=Bo hT2;have HS2:=Bo ((HS0.out.trans hS).trans hS2);clear hA hS hR e hA2 hT2 hS2 hr3 ok3 e2;go_wp2_with fail;go_ret;exact ⟨o,rfl,L2,HA2.out,HT2.out,HS2.out⟩
theorem told_clean' (X:Pg.Q):X.told.clean=X.clean:=Pg.told_clean X
theorem told_err' (X:Pg.Q):X.told.err=X.err:=Pg.told_err X
theorem qnew_out:(Pg.Q.new p b).out= []:=by unfold Pg.Q.new;split<;>rfl
theorem XX5SR {P:Prop} (h:P:=by refine AJ rfl (fun ev w1 hR hb hh=>?_);have e10:=hR.old 10 rfl;have e9:=hR.old 9 rfl;simp only [Af,BY,BQ,BR,Di] at e10 e9;have q25:=HDQ.out w1 hb;exact Each.std):P:=h
theorem dread_any (hp:p<4294967296) (w:World) (a:Option Addr) (c:Nat) (l:List UInt8) (hl:Pg.Bts [] w a l) (hn:l.length≤400000000):Calls EL 31 #[.int .u32 (p:Int),.agg #[.int .i64 b.x0,.int .i64 b.x1,.int .i64 b.x2,.int .i64 b.x3,.int .i64 b.x4,.int .i64 b.x5,.int .i64 b.x6,.int .i64 b.x7,.bool b.ch,.bool b.od],.slice a l.length c] w fun r w'=>
 ∃o L B0,r=.returned (.tuple #[o,.int .i64 ((Pg.Q.read p b l).err:Int),.bool (Pg.Q.read p b l).clean])∧Pg.Told L B0 w' o (Pg.Q.read p b l).out∧Below w.heap.size w w':=by
 have HB0:=Bo (((Am _ _).alloc (CQ _) (.cells #[.int .i64 b.x0,.int .i64 b.x1,.int .i64 b.x2,.int .i64 b.x3,.int .i64 b.x4,.int .i64 b.x5,.int .i64 b.x6,.int .i64 b.x7,.bool b.ch,.bool b.od] 29)):Below w.heap.size w _)
 have HZ0:=Bo (Dw w w.heap.size rfl 29 [.int .i64 b.x0,.int .i64 b.x1,.int .i64 b.x2,.int .i64 b.x3,.int .i64 b.x4,.int .i64 b.x5,.int .i64 b.x6,.int .i64 b.x7,.bool b.ch,.bool b.od])
 have HSZ:=Bo (show w.heap.size<(w.alloc (.cells #[.int .i64 b.x0,.int .i64 b.x1,.int .i64 b.x2,.int .i64 b.x3,.int .i64 b.x4,.int .i64 b.x5,.int .i64 b.x6,.int .i64 b.x7,.bool b.ch,.bool b.od] 29)).heap.size by simp);have HL:=Bo hl;have HN:=Bo hn;unfold Pg.Q.read;obtain ⟨X,hX⟩:∃X,Pg.Q.feed p b (Pg.Q.new p b) l=X:=⟨_,rfl⟩;rw [hX];have HX:=Bo hX;obtain ⟨m,hm⟩:∃m,l.length=m:=⟨_,rfl⟩;have HM:=Bo hm;rw [hm];clear hl hn hm hX;go_enter Tryz.func31,Tryz.ntmps31;go_upto_region 1 with fail
 generalize w.alloc (.cells #[.int .i64 b.x0,.int .i64 b.x1,.int .i64 b.x2,.int .i64 b.x3,.int .i64 b.x4,.int .i64 b.x5,.int .i64 b.x6,.int .i64 b.x7,.bool b.ch,.bool b.od] 29)=W0 at *;have y0:=HZ0.out.c 0 _ rfl;have y1:=HZ0.out.c 1 _ rfl;have y2:=HZ0.out.c 2 _ rfl;have y3:=HZ0.out.c 3 _ rfl;have y4:=HZ0.out.c 4 _ rfl;have y5:=HZ0.out.c 5 _ rfl;have y6:=HZ0.out.c 6 _ rfl;have y7:=HZ0.out.c 7 _ rfl;have y8:=HZ0.out.c 8 _ rfl;have y9:=HZ0.out.c 9 _ rfl
 have HNW:=Bo (dnew_any (b:=b) hp W0);go_upto_region 2 with
  (go_at_call 19;with_reducible refine HNW.out.mono ?_;rintro r w1 ⟨g,L1,rfl,hg,hA,hb1⟩
   have HG:=Bo hg;have HA:=Bo hA;have HB1:=Bo hb1;clear hg hA hb1)
 have hlow:=HA.out.low;have hlA:Pg.Bts L1 w1 a l:=by exact XXIoU
 have hpa:=Pg.Parts.one (c:=c) hlA HA.out.in 22;rw [HM.out] at hpa;have hb2:Below w1.heap.size w1 (w1.alloc (.cells #[.slice a m c] 22)):=(Am _ _).alloc (CQ _) _
 have hfe:=dfeed_any hp (HA.out.below hb2) qnew_out (some ⟨w1.heap.size,0,none⟩) 1 [l] hpa (by simp) (by have h2:=HN.out;simp only [List.flatten_cons,List.flatten_nil,B7];omega)
 have efl: [l].flatten=l:=by simp
 rw [efl] at hfe
 have HFE:=Bo (show Calls EL 21 #[ptr g,.slice (some ⟨w1.heap.size,0,none⟩) 1 1] (w1.alloc (.cells #[.slice a m c] 22)) fun r w'=>∃o L',r=.returned o∧DQ w' ⟨W0.heap.size,[]⟩ g p b L' (Pg.Q.feed p b (Pg.Q.new p b) l).told∧Pg.Told L' ⟨W0.heap.size,[]⟩ w' o (Pg.Q.feed p b (Pg.Q.new p b) l).out∧Step L1 L' (w1.alloc (.cells #[.slice a m c] 22)) w' from hfe);have HLOW:=Bo hlow
 have HB2:=Bo (Ak (Ak HB0.out HB1.out) hb2);rw [HX.out] at HFE;clear hlA hpa hb2 hfe efl hlow y0 y1 y2 y3 y4 y5 y6 y7 y8 y9;go_upto_region 3 with
  (go_at_call 21;with_reducible refine HFE.out.mono ?_;rintro r w3 ⟨o,L',rfl,hA3,hT3,hS3⟩
   have HCL:=Bo (fun w4 (hb:Below (w3.drewN 1).heap.size (w3.drewN 1) w4)=>show Calls EL 29 #[ptr g] w4 fun r w'=>r=.returned (.bool X.clean)∧w'=w4 from told_clean' X ▸ dclean_any (hA3.below ((Aj (Am _ _) 1).trans hb)))
   have HDQ:=Bo (fun w4 (hb:Below (w3.drewN 1).heap.size (w3.drewN 1) w4)=>show w4.cell? ⟨g,25,none⟩=some (.int .i64 (X.err:Int)) from told_err' X ▸ (hA3.below ((Aj (Am _ _) 1).trans hb)).e);have HT3:=Bo hT3;have HS3:=Bo hS3;clear hA3 hT3 hS3)
 refine AO 10 [18,19,20,21,22,23,24,6,7,8] [eQ (o),eP g 0,eP g 0,eP g 25,eQ (.int .i64 (X.err:Int)),eP g 0,eQ (.bool X.clean),eQ (o),eQ (.int .i64 (X.err:Int)),eQ (.bool X.clean)] (by kernel_rfl) (by kernel_rfl) (by kernel_rfl) (by kernel_rfl) (fun _ _ d _ _ h=>by cases d<;>exact h) (by rfl) (by rfl) (by repeat first | exact trivial | refine ⟨AI _,?_⟩) ?_ ?_
 ·refine ⟨?_,?_,?_,?_,?_,?_,?_,?_,?_,?_,trivial⟩
  ·exact XX5SR
  ·exact XX5SR
  ·exact XX5SR
  ·exact XX5SR
  ·exact XX5SR
  ·exact XX5SR
  ·refine AJ rfl (fun ev w1 hR hb hh=>?_);have e23:ev (.tmp 23)= _:=hh.at 0;clear hh;have ef:=hR.func
   refine AE 29 #[ptr g] (by go_simp) ((HCL.out w1 hb).mono ?_);rintro r w2 ⟨rfl,hw⟩;rw [hw];exact ⟨_,rfl,Am _ _,rfl⟩
  ·exact XX5SR
  ·exact XX5SR
  ·exact XX5SR
 intro ga w4 hb4 hf;have z6:ga 6= _:=hf.at 7;have z7:ga 7= _:=hf.at 8;have z8:ga 8= _:=hf.at 9;clear hf;simp only [AM,Ab,C7,CA,C9];rw [z6];rw [z7];rw [z8];have HB4:=Bo hb4;clear hb4 HCL HDQ HFE;go_wp2;refine bodyPost_ret (v:=.tuple #[o,.int .i64 (X.err:Int),.bool X.clean]) (by simp [results,Tryz.results31,go_sem]) rfl ?_
 have hb3:Below w.heap.size w w3:=HB2.out.trans (HS3.out.keeps.below HB2.out.size (fun k hk=>by have:=HLOW.out k hk;have:=HSZ.out;omega));have hb34:Below w3.heap.size w3 w4:=HB4.out;exact ⟨_,_,_,rfl,HT3.out.step (DD hb34),Ak hb3 hb34⟩
theorem feed_fits (l:List UInt8):∀{x:Pg.Q},Flt.Fits x.out→x.Fine b→Flt.Fits (x.feed p b l).out:=by
 induction l with
 | nil=>intro x h _;exact h
 | cons c l ih=>intro x h ok;exact ih (Flt.byte_fits h ok c) (ok.byte c)
theorem read_fits (l:List UInt8):Flt.Fits (Pg.Q.read p b l).out:=feed_fits l (by rw [qnew_out];intro r hr;cases hr) (fine_new p b)
theorem read_few (l:List UInt8):(Pg.Q.read p b l).out.length≤2*l.length:=by have:=Pg.Q.feed_out (p:=p) (b:=b) l (Pg.Q.new p b);rw [qnew_out] at this;show (Pg.Q.feed p b (Pg.Q.new p b) l).out.length≤_;simpa using this
end code
end Go.Proofs.YtnabkcglnbdfeaaGreatDoor.Par
namespace Go.Proofs.YtnabkcglnbdfeaaGreatDoor.Txt
open Go.RowKit Base Oct Go.Maps
def keyIn (s:ByteArray):Lit:=.string (lower s).data.toList
def gone (ss:List ByteArray):DataW Unit:=setOf (.agg []) (ss.map keyIn)
section code
set_option maxHeartbeats 1000000
attribute [local go_sem] Al
end code
end Go.Proofs.YtnabkcglnbdfeaaGreatDoor.Txt
namespace Go.Proofs.YtnabkcglnbdfeaaGreatDoor.Txt
open Go.RowKit Base Oct Go.Maps
section
variable {w:World} {base size g n cap:Nat} {e:TypeId} {xs:List Value} {v:Value}
end
def Asks (g:Nat) (lb:Array Value) (p:Fld→Bool) (fs:List Fld) (w0:World):Prop:=
 ∀(W:World) (x:Fld),x∈fs→Below w0.heap.size w0 W→Calls EL g (#[.agg #[.string x.1,.string x.2]]++lb) W fun e w'=>e=.returned (.bool (p x))∧Below W.heap.size W w'
section code
set_option maxHeartbeats 1000000
end code
end Go.Proofs.YtnabkcglnbdfeaaGreatDoor.Txt
namespace Go.Proofs.YtnabkcglnbdfeaaGreatDoor.Can
open Go.RowKit Base Txt Par Pg
section
variable {b:Bd} {t:T} {s m x:List UInt8} {o:List Dx} {fs:List Fld} {n:Nat}
structure Fr (b:Bd) (t:T) (o:List Dx):Prop where
 st:t.st=1
 pend:t.rd.pend=false
 nf:Ln.failed t.rd.last=false
 buf:t.rd.clear.buf= []
 new:t.isNew=true
 most:t.rd.most=Ln.mid b.x0
 r:t.r=zero
 hl:t.hl=0
 bl:t.bl=0
 size:t.size=0
 out:t.out=o
 left:t.left=0
structure Mh (b:Bd) (t:T) (m x:List UInt8) (fs:List Fld) (n:Nat) (o:List Dx):Prop where
 st:t.st=2
 pend:t.rd.pend=false
 nf:Ln.failed t.rd.last=false
 buf:t.rd.clear.buf= []
 most:t.rd.most=Ln.mid b.x0
 r:t.r=⟨ba m,ba x,1,fs,false,[],[]⟩
 hl:t.hl=fs.length
 bl:t.bl=0
 size:t.size=n
 out:t.out=o
def okF (f:Fld):Prop:=Fd.right f.1.data.toList f.2.data.toList=true
def bare (f:Fld):List UInt8:=f.1.data.toList++58::32::f.2.data.toList
end
end Go.Proofs.YtnabkcglnbdfeaaGreatDoor.Can
namespace Go.Proofs.YtnabkcglnbdfeaaGreatDoor.Can
open Go.RowKit Base Txt Par Pg
section
variable {b:Bd} {t:T} {s m x body:List UInt8} {o:List Dx} {fs ts:List Fld} {n:Nat}
structure Kh (b:Bd) (t:T) (m x:List UInt8) (fs:List Fld) (body:List UInt8) (n:Nat) (o:List Dx):Prop where
 st:t.st=4
 pend:t.rd.pend=false
 nf:Ln.failed t.rd.last=false
 buf:t.rd.clear.buf= []
 most:t.rd.most=Ln.mid b.x0
 r:t.r=⟨ba m,ba x,1,fs,true,body,[]⟩
 bl:t.bl=0
 size:t.size=n
 out:t.out=o
structure Kt (b:Bd) (t:T) (m x:List UInt8) (fs:List Fld) (body:List UInt8) (ts:List Fld) (n:Nat) (o:List Dx):Prop where
 st:t.st=7
 pend:t.rd.pend=false
 nf:Ln.failed t.rd.last=false
 buf:t.rd.clear.buf= []
 most:t.rd.most=Ln.mid b.x0
 r:t.r=⟨ba m,ba x,1,fs,true,body,ts⟩
 bl:t.bl=ts.length
 size:t.size=n
 out:t.out=o
end
end Go.Proofs.YtnabkcglnbdfeaaGreatDoor.Can
namespace Go.Proofs.YtnabkcglnbdfeaaGreatDoor.Can
open Go.RowKit Base Txt Par Pg
def localV:ByteArray:=⟨#[108,111,99,97,108,104,111,115,116]⟩
def posts:List (List UInt8):= [[80,79,83,84],[80,85,84],[80,65,84,67,72]]
def hostA (l:List Fld):List Fld:=if find l Frm.hostN= [] then (Frm.hostN,localV)::l else l
def lenV (n:Nat):ByteArray:=ba (Num.spell 10 n)
def fieldsV (m:ByteArray) (fs:List Fld) (body:List UInt8) (ts:List Fld):List Fld:=
 if ts≠ [] then hostA (without fs [Frm.clN,Frm.teN]) ++ [(Frm.teN,Frm.chunked)]
 else if body≠ []∨m.data.toList∈posts then hostA (without fs [Frm.clN,Frm.teN]) ++ [(Frm.clN,lenV body.length)]
 else hostA (without fs [Frm.clN,Frm.teN])
section
variable (fs:List Fld)
def okH (fs:List Fld):Prop:=find fs Frm.hostN= []∨Frm.hostsV false false 1 (find fs Frm.hostN)=0
end
section
variable {m:ByteArray} {fs ts:List Fld} {body:List UInt8} {most:Int}
end
end Go.Proofs.YtnabkcglnbdfeaaGreatDoor.Can
namespace Go.Proofs.YtnabkcglnbdfeaaGreatDoor.Can
open Go.RowKit Base Txt Par Pg
def reqL (m x:List UInt8):List UInt8:=m++32::(x ++ [32,72,84,84,80,47,49,46,49])
def putV (m x:List UInt8) (fs:List Fld) (body:List UInt8) (ts:List Fld):List UInt8:=
 (reqL m x ++ [13,10])++(Fd.put (fieldsV (ba m) fs body ts)++([13,10]++if ts≠ [] then Chk.putL [body]++(Fd.put ts ++ [13,10]) else body))
structure Fits (b:Bd) (m x:List UInt8) (fs:List Fld) (body:List UInt8) (ts:List Fld):Prop where
 req:Rq.request (Rq.clOf 0) b.od (reqL m x)=(m,x,1,0)
 plain:∀c∈reqL m x,c≠10∧c≠13
 len:(reqL m x).length≤Ln.mid b.x0
 fields:∀f∈fieldsV (ba m) fs body ts,okF f∧(bare f).length≤Ln.mid b.x0
 trailers:∀f∈ts,okF f∧(bare f).length≤Ln.mid b.x0
 many:(((fieldsV (ba m) fs body ts).length:Nat):Int)≤b.x1
 head:(((reqL m x).length+2+(Fd.put (fieldsV (ba m) fs body ts)).length+2+(Fd.put ts).length+2:Nat):Int)≤b.x2
 room:(body.length:Int)≤b.x3
 most:((ts.length:Nat):Int)≤b.x5
 host:okH fs
 ch:ts≠ []→b.ch=true
 size:ts≠ []→body≠ []→Chk.sizeV (Ds 0 27) (Ds 0 28) b.x4 b.x3 (Num.spell 16 body.length)=((body.length:Int),0)∧(∀c∈Num.spell 16 body.length,c≠10∧c≠13)∧(Num.spell 16 body.length).length≤Ln.mid b.x0
 last:ts≠ []→Chk.sizeV (Ds 0 27) (Ds 0 28) b.x4 b.x3 [48]=(0,0)∧1≤Ln.mid b.x0
section
variable {b:Bd} {t:T} {m x body:List UInt8} {o:List Dx} {fs ts:List Fld}
end
end Go.Proofs.YtnabkcglnbdfeaaGreatDoor.Can
namespace Go.Proofs.YtnabkcglnbdfeaaGreatDoor.Can
open Go.RowKit Base Txt Rq
end Go.Proofs.YtnabkcglnbdfeaaGreatDoor.Can
namespace Go.Proofs.YtnabkcglnbdfeaaGreatDoor.Can
open Go.RowKit Base Txt Par Pg Flt
def lineR (r:Dx):Prop:=∃(old:Bool) (l:List UInt8) (k:Nat),Rq.request (Rq.clOf 0) old l=(r.m.data.toList,r.x.data.toList,k,0)∧r.k=(k:Int)
def hostR (r:Dx):Prop:=Frm.hostsV false false r.k (find r.fs Frm.hostN)=0
structure Good (r:Dx):Prop where
 line:lineR r
 host:hostR r
 fields:∀f∈r.fs,okF f
 trailers:∀f∈r.ts,okF f
structure On (t:T):Prop where
 line:t.st≠1→lineR t.r
 host:3≤t.st→hostR t.r
 fields:∀f∈t.r.fs,okF f
 trailers:∀f∈t.r.ts,okF f
 out:∀r∈t.out,Good r
section
variable {b:Bd} {t t2:T} {s:List UInt8} {c:UInt8}
end
end Go.Proofs.YtnabkcglnbdfeaaGreatDoor.Can
namespace Go.Proofs.YtnabkcglnbdfeaaGreatDoor.Can
open Go.RowKit Base Txt Par Pg Flt
def chR (r:Dx):Prop:=r.ch=decide (find r.fs Frm.teN≠ [])
structure Kn (t:T):Prop where
 no:t.st≤2→t.r.ch=false
 said:3≤t.st→chR t.r
 out:∀r∈t.out,chR r
section
variable {b:Bd} {t t2:T} {s:List UInt8} {c:UInt8}
end
end Go.Proofs.YtnabkcglnbdfeaaGreatDoor.Can
namespace Go.Proofs.YtnabkcglnbdfeaaGreatDoor.Can
open Go.RowKit Base Txt Par Pg
section code
set_option maxHeartbeats 4000000
set_option maxRecDepth 100000
attribute [local go_sem] Al
def frameV (m:List UInt8) (body:List UInt8) (ts:List Fld):List Fld:=
 if ts≠ [] then [(Frm.teN,Frm.chunked)] else if body≠ []∨m∈posts then [(Frm.clN,lenV body.length)] else []
end code
end Go.Proofs.YtnabkcglnbdfeaaGreatDoor.Can
namespace Go.Proofs.YtnabkcglnbdfeaaGreatDoor.Can
open Go.RowKit Base Txt Par Pg
section code
set_option maxHeartbeats 4000000
set_option maxRecDepth 100000
attribute [local go_sem] Al
end code
end Go.Proofs.YtnabkcglnbdfeaaGreatDoor.Can
namespace Go.Proofs.YtnabkcglnbdfeaaGreatDoor.Can
open Go.RowKit Base Txt Par Pg Flt
def SzF (M:Nat) (f:Fld):Prop:=f.1.size+f.2.size≤M
structure SzR (b:Bd) (r:Dx):Prop where
 m:r.m.size≤Ln.mid b.x0
 x:r.x.size≤Ln.mid b.x0
 fs:∀f∈r.fs,SzF (Ln.mid b.x0) f
 ts:∀f∈r.ts,SzF (Ln.mid b.x0) f
 fl:(r.fs.length:Int)≤b.x1
 tl:(r.ts.length:Int)≤b.x5
 body:r.body.length≤1048576
structure Sz (b:Bd) (t:T):Prop where
 most:t.rd.most≤Ln.mid b.x0
 m:t.r.m.size≤Ln.mid b.x0
 x:t.r.x.size≤Ln.mid b.x0
 fs:∀f∈t.r.fs,SzF (Ln.mid b.x0) f
 ts:∀f∈t.r.ts,SzF (Ln.mid b.x0) f
 fl:(t.r.fs.length:Int)≤t.hl∧(t.hl:Int)≤b.x1
 tl:(t.r.ts.length:Int)≤t.bl∧(t.bl:Int)≤b.x5
 out:∀r∈t.out,SzR b r
section
variable {b:Bd} {t t2:T} {s:List UInt8} {c:UInt8}
end
end Go.Proofs.YtnabkcglnbdfeaaGreatDoor.Can
namespace Go.Proofs.YtnabkcglnbdfeaaGreatDoor.Can
open Go.RowKit Base Txt Par Pg
end Go.Proofs.YtnabkcglnbdfeaaGreatDoor.Can
namespace Go.Proofs.YtnabkcglnbdfeaaGreatDoor.By
open Go.RowKit Base
abbrev bv (c:UInt8):Value:=.int .u8 (c.toNat:Int)
def Buf (w:World) (B:Nat) (v:Value) (xs:List UInt8):Prop:=∃g cap,v=.slice (some ⟨g,0,none⟩) xs.length cap∧B≤g∧g<w.heap.size∧xs.length≤cap∧(∀j (h:j<xs.length),w.cell? ⟨g,j,none⟩=some (bv xs[j]))∧
 ∀j,xs.length≤j→j<cap→(w.cell? ⟨g,j,none⟩).isSome=true∧w.frozen? ⟨g,j,none⟩=false
def Rd (w:World) (v:Value) (ys:List UInt8):Prop:=∃a c,v=.slice a ys.length c∧Nums .u8 w a ys.length (ys.map fun c=>(c.toNat:Int))
section
variable {w w':World} {B:Nat} {v x:Value} {xs ys:List UInt8}
end
end Go.Proofs.YtnabkcglnbdfeaaGreatDoor.By
namespace Go.Proofs.YtnabkcglnbdfeaaGreatDoor.Can
open Go.RowKit Base Txt Par Pg
def putR (r:Dx):List UInt8:=putV r.m.data.toList r.x.data.toList r.fs r.body r.ts
def fieldsR (r:Dx):List Fld:=fieldsV r.m r.fs r.body r.ts
structure Sm (r:Dx):Prop where
 m:r.m.size≤1000000
 x:r.x.size≤1000000
 fl:r.fs.length≤200
 fs:∀f∈r.fs,f.1.size+f.2.size≤200000
 body:r.body.length≤1048576
 tl:r.ts.length≤200
 ts:∀f∈r.ts,f.1.size+f.2.size≤200000
section
variable {r:Dx}
end
section code
set_option maxHeartbeats 4000000
set_option maxRecDepth 100000
attribute [local go_sem] Al
end code
end Go.Proofs.YtnabkcglnbdfeaaGreatDoor.Can
namespace Go.Proofs.YtnabkcglnbdfeaaGreatDoor.Can
open Go.RowKit Base Txt Par Pg
def wrR (r:Dx):Dx:=⟨r.m,r.x,1,fieldsR r,decide (r.ts≠ []),r.body,r.ts⟩
def rightV (b:Bd) (r:Dx):Bool:=(Q.read 0 b (putR r)).clean&&Rec.all (Q.read 0 b (putR r)).out [wrR r]
theorem said_recs {w:World} {o:Value} {out:List Dx} (h:Said w o out):∃a c,o=.slice a out.length c∧Rec.Recs w a out.length out:=by
 obtain ⟨a,c,e,hc⟩:=h;refine ⟨a,c,e,rfl,fun h0=>?_⟩;obtain ⟨bk,e1,hlt,h1⟩:=hc h0;refine ⟨bk,0,e1,hlt,fun k hk=>?_⟩;obtain ⟨fa,fc,ba,bc,ta,tc,f1,f2,f3,c0,c1,c2,c3,c4,c5,c6⟩:=h1 k hk;have e2:(out[k]?.getD Rec.r0)=out[k]:=by rw [BS hk];rfl
 rw [e2,CX];exact ⟨fa,fc,ba,bc,ta,tc,⟨c0,c1,c2,c3,c4,c5,c6⟩,⟨fa,fc,ba,bc,ta,tc,rfl,f1,f2,f3⟩⟩
def BtsF (l:List UInt8):Each.Fact:=fun v w=>∃a c,v=.slice a l.length c∧Bts [] w a l
def SaidF (out:List Dx):Each.Fact:=fun v w=>Said w v out
def TupF (e:Nat) (cl:Bool) (out:List Dx):Each.Fact:=fun v w=>∃o,v=.tuple #[o,.int .i64 (e:Int),.bool cl]∧Said w o out
section code
set_option maxHeartbeats 4000000
set_option maxRecDepth 100000
attribute [local go_sem] Al
end code
end Go.Proofs.YtnabkcglnbdfeaaGreatDoor.Can
namespace Go.Proofs.YtnabkcglnbdfeaaGreatDoor.Flt
open Go.RowKit Base Txt Mem Par Pg Each
theorem feed_at {p:Nat} {b:Bd} {x:Q} {acc:List Dx} {s:List UInt8} {f r:Nat} (h:(Q.new p b).feed p b (s.take f)=x.pre acc):(Q.new p b).feed p b (s.take (f+r))=(x.feed p b ((s.drop f).take r)).told.pre (acc++(x.feed p b ((s.drop f).take r)).out):=by
 rw [show s.take (f+r)=s.take f++(s.drop f).take r from List.take_add ..,feed_app,h,feed_pre]
 conv=>lhs;rw [←pre_told (x.feed p b ((s.drop f).take r)),pre_pre]
theorem acc_len {p:Nat} {b:Bd} {x:Q} {acc:List Dx} {l:List UInt8} (h:(Q.new p b).feed p b l=x.pre acc):acc.length≤2*l.length:=by have h1:=Q.feed_out (p:=p) (b:=b) l (Q.new p b);rw [h,pre_out,new_out] at h1;simp at h1;omega
section code
set_option maxHeartbeats 8000000
set_option maxRecDepth 100000
attribute [local go_sem] Al
theorem XXyPQ {P:Prop} (h:P:=by
 go_wp2_with (first
  |(at_builtin;refine App.wpList_append_list _ rfl _ _ 39 rfl W0.heap.size 58 i0 (.agg #[.string A6,.string A6,.int .i64 0,.slice none 0 0,.bool false,.slice none 0 0,.slice none 0 0]) 7 120 Tryz.underlying39 G1.out G2.out G3.out G4.out rfl (by decide) (.slice va acc.length vc) acc.length (ps6.flatMap (·.1.toList)) rfl RO.out a5 Y.out.length c5 (ps5.flatMap (·.1.toList)) rfl Q3.out Q4.out Q5.out (by unfold maxLen;omega) (by omega) HB5.out.size ?_;intro v9 w9 hO9 hgr9 _ hloc9
    have HAC9:=Bo (HAC5.out.app R1.out R2.out rfl Q1.out Q2.out rfl rfl rfl hO9 (CQ _) hgr9 hloc9 HA5.out.in)
    have HA9:=Bo ((HA5.out.keeps (told_out _) (Bc hgr9 (L:= [(Value.slice va acc.length vc).ownBlock]) (fun k e=>by rw [←e];simp)) (fun k hk hm=>(HAC5.out.far k (by simpa using Eq.symm (C1.1 hm))).1 hk)).rezone (told_out _) (Z:= [v9.ownBlock]) ⟨(fun k hk=>(HAC9.out.far k (Eq.symm (C1.1 hk))).2),(fun k hk hm=>(HAC9.out.far k (Eq.symm (C1.1 hm))).1 hk)⟩)
    have HB9:=Bo (HB5.out.grown hgr9 HB5.out.size (fun k e=>(RO.out.lt k e).1));clear hO9 hgr9 hloc9)
  |(go_at_call 20;with_reducible refine HFE.out.mono ?_;rintro e w5 ⟨o,L5,rfl,hat5,htd5,hst5⟩
    have HAC5:=Bo (HACa.out.step hst5);obtain ⟨a5,c5,ps5,e5,q1,q2,q3,q4,q5, -⟩:=Pg.Outs.news htd5.outs;subst e5;obtain ⟨a6,c6,ps6,e6,r1,r2, -, -, -,ro⟩:=Pg.Outs.news HAC5.out.outs;simp only [Value.slice.injEq,true_and] at e6;obtain ⟨rfl,rfl⟩:=e6;have Q1:=Bo q1;have Q2:=Bo q2;have Q3:=Bo q3;have Q4:=Bo q4;have Q5:=Bo q5;have R1:=Bo r1;have R2:=Bo r2;have RO:=Bo ro;have HA5:=Bo hat5
    have HB5:=Bo (HBa.out.trans (hst5.keeps.below HBa.out.size fun k hk=>HA.out.low k hk));clear q1 q2 q3 q4 q5 r1 r2 ro hat5 htd5 hst5))
 go_meet
 case rel=>exact ⟨L5,HA9,HAC9,HB9⟩):P:=h
theorem XXn7D {P:Prop} (h:P:=by
 clear hv hu;go_enter Tryz.func4,Tryz.ntmps4
 go_wp2_with (go_at_call 13;with_reducible refine (known_any _).mono ?_;rintro e w1 ⟨rfl,hb⟩);go_ret
 exact ⟨rfl,hb⟩):P:=h
theorem parserReads_any (la:Option Addr) (ln cap:Nat) (zs:List Int) (a k0:Nat) (lc:Option Addr) (lm cap2:Nat) (cs:List Int) (w:World) (hv:Nums .u8 w la ln zs) (hln:ln≤maxLen) (hlc:ln≤cap) (ha:a<4294967296) (hk:k0<256) (hu:Nums .u16 w lc lm cs) (hcs:∀c∈cs,0≤c∧c≤65535) :
 Calls EL 4 #[.slice la ln cap,.int .u32 a,.int .u8 k0,.slice lc lm cap2] w fun e w'=>e=.returned (.bool true)∧Below w.heap.size w w':=by
 unfold maxLen at hln;by_cases h40:40<ln
 ·have d1:(40:Int)<(ln:Int):=by omega
  exact XXn7D
 have d1:¬(40:Int)<(ln:Int):=by omega
 by_cases h10:10<lm
 ·have d2:(10:Int)<(lm:Int):=by omega
  exact XXn7D
 have d2:¬(10:Int)<(lm:Int):=by omega
 obtain ⟨b,hbd,hright⟩:=seat_bd k0
 have HBN:=Bo (fun w=>Seat.bounds_any k0 hk w);rw [hbd] at HBN;have hp30:=Seat.seatP_lt a k0
 have HPF:=Bo (fun w=>Seat.profile_any a k0 ha hk w);obtain ⟨p,hpp⟩:∃p,Seat.seatP a k0=p:=⟨_,rfl⟩;rw [hpp] at HPF hp30
 have hp:p<4294967296:=CV hp30 (by decide);have HP:=Bo hp
 have HST:=Bo (fun w' (hb':Below w.heap.size w w')=>Rq.stream_any la ln cap zs w' (hv.below hb') (by omega) hlc);have HU:=Bo hu;have HCS:=Bo hcs;have hm10:lm≤10:=by omega
 clear hpp ha hk hv hbd hp30 hlc hright h40 hln hu hcs h10;obtain ⟨i0,hi,hz0,hz1,hz2⟩:=info_parts Pg.record_info;have G1:=Bo hi;have G2:=Bo hz0;have G3:=Bo hz1;have G4:=Bo hz2;clear hi hz0 hz1 hz2;go_enter Tryz.func4,Tryz.ntmps4
 go_upto_region 6 with (first
  |(go_at_call 15;with_reducible refine (HBN.out _).mono ?_;rintro e w3 ⟨rfl,hb⟩
    have HB3:=Bo (Ak HB2.out hb);clear hb)
  |(go_at_call 14;with_reducible refine (HPF.out _).mono ?_;rintro e w2 ⟨rfl,hb⟩
    have HB2:=Bo (Ak HB1.out hb);clear hb)
  |(go_at_call 13;with_reducible refine (known_any _).mono ?_;rintro e w1 ⟨rfl,hb⟩;have HB1:=Bo hb;clear hb))
 have HBW:=Bo (HB3.out.alloc HB3.out.size (.cells #[.int .i64 b.x0,.int .i64 b.x1,.int .i64 b.x2,.int .i64 b.x3,.int .i64 b.x4,.int .i64 b.x5,.int .i64 b.x6,.int .i64 b.x7,.bool b.ch,.bool b.od] 29))
 have HZ9:=Bo (Dw w3 w3.heap.size rfl 29 (bdL b));generalize w3.alloc (.cells #[.int .i64 b.x0,.int .i64 b.x1,.int .i64 b.x2,.int .i64 b.x3,.int .i64 b.x4,.int .i64 b.x5,.int .i64 b.x6,.int .i64 b.x7,.bool b.ch,.bool b.od] 29)=WB at *;generalize w3.heap.size=gB at *;go_upto_region 7 with
  (go_at_call 16;with_reducible refine (HST.out _ HBW.out).mono ?_;rintro e W0 ⟨gs,s,c,rfl,hsc,hsl,hgs,hgw,hby,hb⟩
   have HZ0:=Bo (HZ9.out.below hb);have HBS:=Bo (Ak HBW.out hb);have HBY:=Bo hby;have HGW:=Bo hgw;clear hb hgs hgw hby)
 obtain ⟨n,hn⟩:∃n,s.length=n:=⟨_,rfl⟩;have HSN:=Bo hn;rw [hn] at hsc hsl;rw [hn];clear hn HZ9 HBW HB3 HB2 HB1 HST HBN HPF
 have HNW:=Bo (fun w=>Pg.new_any (p:=p) (b:=b) hp w);have y0:=HZ0.out.c 0 _ rfl;have y1:=HZ0.out.c 1 _ rfl;have y2:=HZ0.out.c 2 _ rfl;have y3:=HZ0.out.c 3 _ rfl;have y4:=HZ0.out.c 4 _ rfl;have y5:=HZ0.out.c 5 _ rfl;have y6:=HZ0.out.c 6 _ rfl;have y7:=HZ0.out.c 7 _ rfl;have y8:=HZ0.out.c 8 _ rfl;have y9:=HZ0.out.c 9 _ rfl;go_upto_region 8 with
  (go_at_call 18;with_reducible refine (HNW.out _).mono ?_;rintro r W1 ⟨g,L1,rfl,hge,hat,hb⟩
   have HAT:=Bo hat;have HB1:=Bo hb;have HZ1:=Bo (HZ0.out.below hb);clear hb hat hge)
 clear y0 y1 y2 y3 y4 y5 y6 y7 y8 y9;clear HNW
 have HAT0:Hid (At W1 ⟨W0.heap.size,[none]⟩ g p b L1 (Q.new p b)):=Bo (HAT.out.rezone new_out ⟨(fun k hk=>by simp at hk),(fun k _ hm=>by simp at hm)⟩);clear HAT;go_upto_region 11 with fail
 go_loopw [13,14,15] (fun v fr i wr=>∃(k f:Nat) (x:Q) (acc:List Dx) (L:List (Option Nat)),k≤lm∧f≤n∧i=.int .i64 k∧fr=.int .i64 f∧Hid (At wr ⟨W0.heap.size,[v.ownBlock]⟩ g p b L x)∧Hid (x.out= [])∧Hid (x.Ok b)∧Hid (Acc L W0.heap.size wr v acc)∧
  Hid ((Q.new p b).feed p b (s.take f)=x.pre acc)∧Hid (Below W0.heap.size W0 wr)) (fun _ _ i _=>lm-(intOf i).toNat)
 case atStart=>exact ⟨0,0,_,[],L1,CY _,CY _,rfl,rfl,HAT0,Bo new_out,Bo (Q.new_ok p b),Bo (Acc.nil _ _ _),Bo (by rw [List.take_zero];exact (by cases h:Q.new p b<;>rfl)),HB1⟩
 case round=>
  obtain ⟨k,f,x,acc,L,hk,hf,rfl,rfl,HA,HXO,HXK,HAC,HFD,HBR⟩:=hrel;have hlen:=acc_len HFD.out;rw [Cr,HSN.out] at hlen;obtain ⟨va,vc,ps,rfl,e1,f1,c1, -⟩:=Pg.Outs.news HAC.out.outs;have e1:=Bo e1;have f1:=Bo f1
  have HGL:Hid (some gs∉L):=Bo fun hm=>absurd HGW.out (Nat.not_lt.2 (HA.out.low gs hm));have HGV:Hid (some gs∉ [(Value.slice va acc.length vc).ownBlock]):=Bo fun hm=>by
   have h1:some gs=(Value.slice va acc.length vc).ownBlock:=by simpa using hm
   obtain ⟨ps', -, -,h3⟩:=HAC.out.outs
   exact absurd HGW.out (Nat.not_lt.2 (h3.lt gs h1.symm).1)
  have HBYr:Hid (By.Bytes wr gs s):=Bo (bytes_keeps HBY.out HGW.out (Be HBR.out (L:= [])) (by simp))
  have HGR:=Bo (CV HGW.out HBR.out.size);rcases CW k lm with hlt | hge
  ·obtain ⟨bl,off,rfl,hbl,hc⟩:=(HU.out.below (Ak HBS.out HBR.out)).2 (by omega);have hck:=hc k hlt;have hkl:k<cs.length:=by rw [HU.out.1];exact hlt
   obtain ⟨cv,hcv⟩:∃cv,cs[k]?.getD 0=cv:=⟨_,rfl⟩;have hcr:0≤cv∧cv≤65535:=by
    rw [←hcv,BS hkl]
    exact HCS.out _ (Ca hkl)
   rw [hcv] at hck;obtain ⟨r,HRR,hrd,hrn⟩:=cut_at n f cv hf hcr.1;have t1:(k:Int)<(lm:Int):=by omega
   have t2:(0:Int)≤(k:Int):=by omega
   have hn9:n≤1000000000:=CT hsl (by decide)
   have W1:=Bo (i64_in cv hcr);have W2:=Bo (w64_sub n f hf hn9);have W3:=Bo (w64_sub1 n f hf hn9);have W4:=Bo (w64_add f r (CT hrn hn9));clear hn9;have HF:=Bo hf;have HK:=Bo hk;have HRN:=Bo hrn;have HSC:=Bo hsc;have HSL:=Bo hsl;have HLT:=Bo hlt;have HLE:=Bo hlen;have HM10:=Bo hm10;clear hc hcv hkl hf hk hrn hsc hsl hlt hlen hm10 hcr hp d1 d2;have w1:=W1.out;have w2:=W2.out;have w3:=W3.out;have w4:=W4.out;have hr:=HRR.out;go_upto_region 14 with fail
   rw [w4];clear w1 w2 w3 w4 t1 t2 hr hrd hck W1 W2 W3 W4;obtain ⟨T,hT⟩:∃T,f+r=T:=⟨_,rfl⟩;have hTi:=sum_nat f r T hT;rw [hTi];clear hTi;have hTn:T≤n:=by have:=HRN.out;omega
   have hfT:f≤T:=by omega
   have hnc:n≤c:=HSC.out;have hTr:T-f=r:=by omega
   have HTR:=Bo hT;obtain ⟨o2,hcf,h2⟩:∃o2,((c=f∧o2=0)∨(¬c=f∧o2=f))∧(o2=f∨r=0):=by
    by_cases h:c=f
    ·exact ⟨0,.inl ⟨h,rfl⟩,.inr (by omega)⟩
    ·exact ⟨f,.inr ⟨h,rfl⟩,.inl rfl⟩
   obtain ⟨pt,hpt⟩:∃pt,(s.drop f).take r=pt:=⟨_,rfl⟩;have hptl:pt.length=T-f:=by rw [←hpt,Cr,Cj,HSN.out];omega
   have hbt:Bts L wr (some ⟨gs,o2,none⟩) pt:=by rw [←hpt];exact bts_range HBYr.out HGR.out HGL.out f r (by rw [HSN.out];omega) o2 h2
   have hpa:=Parts.one (c:=c-f) hbt HA.out.in 22;rw [hptl] at hpa;have hba:Below wr.heap.size wr (wr.alloc (.cells #[.slice (some ⟨gs,o2,none⟩) (T-f) (c-f)] 22)):=(Am _ _).alloc (CQ _) _
   have hat:=HA.out.keeps HXO.out (Be hba:Keeps [] wr _) (fun _ _ hm=>by cases hm)
   have hfe:=Pg.feed_any HP.out x hat HXK.out (some ⟨wr.heap.size,0,none⟩) 1 [pt] hpa (by simp) (by rw [HXO.out];simp;have:=HSL.out;omega);rw [show ([pt]:List (List UInt8)).flatten=pt from by simp] at hfe;have HFE:Hid (Calls EL 20 #[ptr g,.slice (some ⟨wr.heap.size,0,none⟩) 1 1] (wr.alloc (.cells #[.slice (some ⟨gs,o2,none⟩) (T-f) (c-f)] 22)) _):=Bo hfe
   have HACa:=Bo (HAC.out.step (DD hba))
   have HBa:=Bo (HBR.out.alloc HBR.out.size (.cells #[.slice (some ⟨gs,o2,none⟩) (T-f) (c-f)] 22));have hnew:=Q.feed_out (p:=p) (b:=b) pt x;rw [HXO.out,hptl] at hnew;simp only [List.length_nil,CX] at hnew;have hfd:=feed_at (r:=r) HFD.out;rw [hpt,hT] at hfd;have hok:=Q.Ok.feed (p:=p) pt HXK.out;have HFD2:=Bo hfd;have HOK2:=Bo hok;obtain ⟨Y,hY⟩:∃Y,x.feed p b pt=Y:=⟨_,rfl⟩;rw [hY] at HFD2 HOK2 HFE hnew;have hacl:acc.length≤10000:=by have:=HLE.out;have:=HSL.out;omega
   have hYl:Y.out.length≤10000:=by have:=HSL.out;omega
   have s1:(f:Int)≤(T:Int):=by omega
   have s2:(T:Int)≤(c:Int):=by omega
   have s3:(0:Int)≤(f:Int):=by omega
   have HTN:=Bo hTn;clear hfe hfd hok hY hba hat hpa hbt hptl hpt h2 hT hTr hnc hnew hTn HAC
   have HTc:=Bo (show c=f→T=f from fun h=>by have:=HTN.out;have:=HSC.out;omega);rcases hcf with ⟨h1,h3⟩ | ⟨h1,h3⟩
   ·have h4:=HTc.out h1;subst h1 h3 h4;simp only [Nat.sub_self] at HFE HACa HBa
    go_wp2_with (first
     |(at_builtin;refine App.wpList_append_list _ rfl _ _ 39 rfl W0.heap.size 58 i0 (.agg #[.string A6,.string A6,.int .i64 0,.slice none 0 0,.bool false,.slice none 0 0,.slice none 0 0]) 7 120 Tryz.underlying39 G1.out G2.out G3.out G4.out rfl (by decide) (.slice va acc.length vc) acc.length (ps6.flatMap (·.1.toList)) rfl RO.out a5 Y.out.length c5 (ps5.flatMap (·.1.toList)) rfl Q3.out Q4.out Q5.out (by unfold maxLen;omega) (by omega) HB5.out.size ?_;intro v9 w9 hO9 hgr9 _ hloc9
       have HAC9:=Bo (HAC5.out.app R1.out R2.out rfl Q1.out Q2.out rfl rfl rfl hO9 (CQ _) hgr9 hloc9 HA5.out.in)
       have HA9:=Bo ((HA5.out.keeps (told_out _) (Bc hgr9 (L:= [(Value.slice va acc.length vc).ownBlock]) (fun k e=>by rw [←e];simp)) (fun k hk hm=>(HAC5.out.far k (by simpa using Eq.symm (C1.1 hm))).1 hk)).rezone (told_out _) (Z:= [v9.ownBlock]) ⟨(fun k hk=>(HAC9.out.far k (Eq.symm (C1.1 hk))).2),(fun k hk hm=>(HAC9.out.far k (Eq.symm (C1.1 hm))).1 hk)⟩)
       have HB9:=Bo (HB5.out.grown hgr9 HB5.out.size (fun k e=>(RO.out.lt k e).1));clear hO9 hgr9 hloc9)
     |(go_at_call 20;with_reducible refine HFE.out.mono ?_;rintro e w5 ⟨o,L5,rfl,hat5,htd5,hst5⟩
       have HAC5:=Bo (HACa.out.step hst5);obtain ⟨a5,c5,ps5,e5,q1,q2,q3,q4,q5, -⟩:=Pg.Outs.news htd5.outs;subst e5;obtain ⟨a6,c6,ps6,e6,r1,r2, -, -, -,ro⟩:=Pg.Outs.news HAC5.out.outs;simp only [Value.slice.injEq,true_and] at e6;obtain ⟨rfl,rfl⟩:=e6;have Q1:=Bo q1;have Q2:=Bo q2;have Q3:=Bo q3;have Q4:=Bo q4;have Q5:=Bo q5;have R1:=Bo r1;have R2:=Bo r2;have RO:=Bo ro;have HA5:=Bo hat5
       have HB5:=Bo (HBa.out.trans (hst5.keeps.below HBa.out.size fun k hk=>HA.out.low k hk));clear q1 q2 q3 q4 q5 r1 r2 ro hat5 htd5 hst5))
    have E1:=Bo (w64_succ k (by have:=HLT.out;have:=HM10.out;omega));go_wp2_with fail;go_roundw
    case rel=>exact ⟨k+1,_,Y.told,acc++Y.out,L5,HLT.out,HTN.out,(by rw [E1.out];exact num_succ k),rfl,HA9,Bo (told_out _),Bo (told_ok HOK2.out),HAC9,HFD2,HB9⟩
    case measure=>rw [E1.out];exact less_step k lm HLT.out
   ·subst h3
    go_wp2_with (first
     |(at_builtin;refine App.wpList_append_list _ rfl _ _ 39 rfl W0.heap.size 58 i0 (.agg #[.string A6,.string A6,.int .i64 0,.slice none 0 0,.bool false,.slice none 0 0,.slice none 0 0]) 7 120 Tryz.underlying39 G1.out G2.out G3.out G4.out rfl (by decide) (.slice va acc.length vc) acc.length (ps6.flatMap (·.1.toList)) rfl RO.out a5 Y.out.length c5 (ps5.flatMap (·.1.toList)) rfl Q3.out Q4.out Q5.out (by unfold maxLen;omega) (by omega) HB5.out.size ?_;intro v9 w9 hO9 hgr9 _ hloc9
       have HAC9:=Bo (HAC5.out.app R1.out R2.out rfl Q1.out Q2.out rfl rfl rfl hO9 (CQ _) hgr9 hloc9 HA5.out.in)
       have HA9:=Bo ((HA5.out.keeps (told_out _) (Bc hgr9 (L:= [(Value.slice va acc.length vc).ownBlock]) (fun k e=>by rw [←e];simp)) (fun k hk hm=>(HAC5.out.far k (by simpa using Eq.symm (C1.1 hm))).1 hk)).rezone (told_out _) (Z:= [v9.ownBlock]) ⟨(fun k hk=>(HAC9.out.far k (Eq.symm (C1.1 hk))).2),(fun k hk hm=>(HAC9.out.far k (Eq.symm (C1.1 hm))).1 hk)⟩)
       have HB9:=Bo (HB5.out.grown hgr9 HB5.out.size (fun k e=>(RO.out.lt k e).1));clear hO9 hgr9 hloc9)
     |(go_at_call 20;with_reducible refine HFE.out.mono ?_;rintro e w5 ⟨o,L5,rfl,hat5,htd5,hst5⟩
       have HAC5:=Bo (HACa.out.step hst5);obtain ⟨a5,c5,ps5,e5,q1,q2,q3,q4,q5, -⟩:=Pg.Outs.news htd5.outs;subst e5;obtain ⟨a6,c6,ps6,e6,r1,r2, -, -, -,ro⟩:=Pg.Outs.news HAC5.out.outs;simp only [Value.slice.injEq,true_and] at e6;obtain ⟨rfl,rfl⟩:=e6;have Q1:=Bo q1;have Q2:=Bo q2;have Q3:=Bo q3;have Q4:=Bo q4;have Q5:=Bo q5;have R1:=Bo r1;have R2:=Bo r2;have RO:=Bo ro;have HA5:=Bo hat5
       have HB5:=Bo (HBa.out.trans (hst5.keeps.below HBa.out.size fun k hk=>HA.out.low k hk));clear q1 q2 q3 q4 q5 r1 r2 ro hat5 htd5 hst5))
    have E1:=Bo (w64_succ k (by have:=HLT.out;have:=HM10.out;omega));go_wp2_with fail;go_roundw
    case rel=>exact ⟨k+1,T,Y.told,acc++Y.out,L5,HLT.out,HTN.out,(by rw [E1.out];exact num_succ k),rfl,HA9,Bo (told_out _),Bo (told_ok HOK2.out),HAC9,HFD2,HB9⟩
    case measure=>rw [E1.out];exact less_step k lm HLT.out
  ·obtain rfl:lm=k:=by omega
   have t1:¬(lm:Int)<(lm:Int):=by omega
   have hnc:n≤c:=hsc;obtain ⟨o2,hcf,h2⟩:∃o2,((c=f∧o2=0)∨(¬c=f∧o2=f))∧(o2=f∨n-f=0):=by
    by_cases h:c=f
    ·exact ⟨0,.inl ⟨h,rfl⟩,.inr (by omega)⟩
    ·exact ⟨f,.inr ⟨h,rfl⟩,.inl rfl⟩
   obtain ⟨pt,hpt⟩:∃pt,(s.drop f).take (n-f)=pt:=⟨_,rfl⟩;have hptl:pt.length=n-f:=by rw [←hpt,Cr,Cj,HSN.out];omega
   have hbt:Bts L wr (some ⟨gs,o2,none⟩) pt:=by rw [←hpt];exact bts_range HBYr.out HGR.out HGL.out f (n-f) (by rw [HSN.out];omega) o2 h2
   have hpa:=Parts.three (c:=c-f) hbt HA.out.in 22;rw [hptl] at hpa;have hba:Below wr.heap.size wr (wr.alloc (.cells #[.slice none 0 0,.slice (some ⟨gs,o2,none⟩) (n-f) (c-f),.slice none 0 0] 22)):=(Am _ _).alloc (CQ _) _
   have hat:=HA.out.keeps HXO.out (Be hba:Keeps [] wr _) (fun _ _ hm=>by cases hm)
   have hfe:=Pg.feed_any HP.out x hat HXK.out (some ⟨wr.heap.size,0,none⟩) 3 [[],pt,[]] hpa (by simp) (by rw [HXO.out];simp;omega);rw [show ([[],pt,[]]:List (List UInt8)).flatten=pt from by simp] at hfe;have HFE:Hid (Calls EL 20 #[ptr g,.slice (some ⟨wr.heap.size,0,none⟩) 3 3] (wr.alloc (.cells #[.slice none 0 0,.slice (some ⟨gs,o2,none⟩) (n-f) (c-f),.slice none 0 0] 22)) _):=Bo hfe
   have HACa:=Bo (HAC.out.step (DD hba))
   have HBa:=Bo (HBR.out.alloc HBR.out.size (.cells #[.slice none 0 0,.slice (some ⟨gs,o2,none⟩) (n-f) (c-f),.slice none 0 0] 22));have hnew:=Q.feed_out (p:=p) (b:=b) pt x;rw [HXO.out,hptl] at hnew;simp only [List.length_nil,CX] at hnew;have hfd:=feed_at (r:=n-f) HFD.out;rw [hpt,show f+(n-f)=n by omega,CD (by rw [HSN.out];exact CQ _)] at hfd;obtain ⟨Y,hY⟩:∃Y,x.feed p b pt=Y:=⟨_,rfl⟩;rw [hY] at hfd HFE hnew;obtain ⟨X,hX⟩:∃X,Q.read p b s=X:=⟨_,rfl⟩;have hX2:X=Y.told.pre (acc++Y.out):=by rw [←hX];exact hfd
   have hfit:=Par.read_fits (p:=p) (b:=b) s;have hfew:=Par.read_few (p:=p) (b:=b) s;rw [hX] at hfit hfew;rw [HSN.out] at hfew;have hXo:acc++Y.out=X.out:=by rw [hX2,pre_out,told_out,B7]
   have hXe:Y.told.err=X.err:=by rw [hX2,pre_err]
   have hXc:Y.told.clean=X.clean:=by rw [hX2,pre_clean]
   have HRD:=Bo (fun (w':World) (h:By.Bytes w' gs s) (hl:gs<w'.heap.size)=>by
    have hb0:=bts_range (L:= []) h hl C3 0 s.length (by omega) 0 (.inl rfl);rw [List.drop_zero,List.take_length] at hb0
    have h1:=Pg.read_any (b:=b) HP.out w' (some ⟨gs,0,none⟩) c s hb0 (by rw [HSN.out];omega);rw [hX,HSN.out] at h1;exact h1)
   have HDR:=Bo (fun (w':World) (h:By.Bytes w' gs s) (hl:gs<w'.heap.size)=>by
    have hb0:=bts_range (L:= []) h hl C3 0 s.length (by omega) 0 (.inl rfl);rw [List.drop_zero,List.take_length] at hb0
    have h1:=Par.dread_any (b:=b) HP.out w' (some ⟨gs,0,none⟩) c s hb0 (by rw [HSN.out];omega);rw [hX,HSN.out] at h1;exact h1)
   have HALL:=Bo (fun (w':World) (a1 a2:Option Addr) (c1 c2:Nat) (h1:Rec.Recs w' a1 X.out.length X.out) (h2:Rec.Recs w' a2 X.out.length X.out)=>by have h:=Rec.rall_any a1 _ c1 X.out a2 _ c2 X.out w' h1 h2 (by omega) (by omega) hfit hfit;rw [Rec.all_self] at h;exact h)
   have hacl:acc.length≤10000:=by omega
   have hYl:Y.out.length≤10000:=by omega
   have s1:(f:Int)≤(n:Int):=by omega
   have s2:(n:Int)≤(c:Int):=by omega
   have s3:(0:Int)≤(f:Int):=by omega
   have HXo:=Bo hXo;have HXe:=Bo hXe;have HXc:=Bo hXc;have HNC:=Bo hnc
   have HTc:=Bo (show c=f→n=f from fun h=>by omega);clear hfe hfd hY hba hat hpa hbt hptl hpt h2 hnc hnew HAC hfit hfew hXo hXe hXc hX hX2 hf hk hlen hsc hsl hge hm10 hp d1 d2 e1;go_upto_region 16 with fail
   clear t1
   go_cut [13] from 72 to 79 (fun v wx=>∃L9,Hid (At wx ⟨W0.heap.size,[v.ownBlock]⟩ g p b L9 Y.told)∧Hid (Acc L9 W0.heap.size wx v (acc++Y.out))∧Hid (Below W0.heap.size W0 wx))
   case first=>
    rcases hcf with ⟨h1,h3⟩ | ⟨h1,h3⟩
    ·have h4:=HTc.out h1;subst h1 h3 h4;simp only [Nat.sub_self] at HFE HACa HBa;exact XXyPQ
    ·subst h3;exact XXyPQ
   case rest=>
   obtain ⟨L9,HA9,HAC9,HB9⟩:=hcut;clear HFE HACa HBa HA HXO HXK HFD HGL HGV HBYr HGR HBR hcf e1 f1;have hac:=HAC9.out;rw [HXo.out] at hac;obtain ⟨a9,c9,e9,hr9⟩:=Can.said_recs hac.told.said;subst e9;have HR9:=Bo hr9
   have HER:=Bo (fun (w':World) (hb:Below wc.heap.size wc w')=>by have h:=errq_any (HA9.out.below hb);rw [HXe.out] at h;exact h)
   have HCN:=Bo (fun (w':World) (hb:Below wc.heap.size wc w')=>by have h:=cleanq_any (HA9.out.below hb);rw [HXc.out] at h;exact h)
   have hz:=HZ0.out.below HB9.out;have y0:=hz.c 0 _ rfl;have y1:=hz.c 1 _ rfl;have y2:=hz.c 2 _ rfl;have y3:=hz.c 3 _ rfl;have y4:=hz.c 4 _ rfl;have y5:=hz.c 5 _ rfl;have y6:=hz.c 6 _ rfl;have y7:=hz.c 7 _ rfl;have y8:=hz.c 8 _ rfl;have y9:=hz.c 9 _ rfl;clear hac hr9 hz HXo HXe HXc HA9 HAC9;generalize X.err=E at *;generalize X.clean=C at *
   go_wp2_with (first
    |(go_at_call 28;with_reducible refine Cm (HCN.out _ HW13.out) ?_)
    |(go_at_call 23;with_reducible refine Cm (HER.out _ HW13.out) ?_)
    |(go_at_call 22;with_reducible refine (HALL.out _ _ _ _ _ HRX.out HRY.out).mono ?_;rintro e w13 ⟨rfl,hb⟩
      have HW13:=Bo (Ak HW12.out hb);clear hb)
    |(go_at_call 22;with_reducible refine (HALL.out _ _ _ _ _ HRA.out HRB.out).mono ?_;rintro e w12 ⟨rfl,hb⟩
      have HW12:=Bo (Ak HW11.out hb);have HRX:=Bo (HRB.out.below hb);have HRY:=Bo (HRC.out.below hb);clear hb)
    |(go_at_call 31;with_reducible refine (HDR.out _ (bytes_keeps HBY.out HGW.out (Be (Ak HB9.out HW10.out) (L:= [])) (by simp)) (CV HGW.out (Ak HB9.out HW10.out).size)).mono ?_;rintro e w11 ⟨o2,L2,B2,rfl,ht,hb⟩
      obtain ⟨a11,c11,e11,hr11⟩:=Can.said_recs ht.said;subst e11
      have HW11:=Bo (Ak HW10.out hb);have HRC:=Bo hr11;have HRA:=Bo (HR9.out.below (Ak HW10.out hb));have HRB:=Bo (HR10.out.below hb);clear ht hb hr11 x0 x1 x2 x3 x4 x5 x6 x7 x8 x9)
    |(go_at_call 30;with_reducible refine (HRD.out _ (bytes_keeps HBY.out HGW.out (Be HB9.out (L:= [])) (by simp)) (CV HGW.out HB9.out.size)).mono ?_;rintro e w10 ⟨o1,L1b,B1,rfl,ht,hb⟩
      obtain ⟨a10,c10,e10,hr10⟩:=Can.said_recs ht.said;subst e10;have HW10:=Bo hb;have HR10:=Bo hr10
      have hz:=HZ0.out.below (Ak HB9.out hb);have x0:=hz.c 0 _ rfl;have x1:=hz.c 1 _ rfl;have x2:=hz.c 2 _ rfl;have x3:=hz.c 3 _ rfl;have x4:=hz.c 4 _ rfl;have x5:=hz.c 5 _ rfl;have x6:=hz.c 6 _ rfl;have x7:=hz.c 7 _ rfl;have x8:=hz.c 8 _ rfl;have x9:=hz.c 9 _ rfl;clear ht hb hr10 hz y0 y1 y2 y3 y4 y5 y6 y7 y8 y9))
   go_ret;exact ⟨rfl,Ak HBS.out (Ak HB9.out HW13.out)⟩
end code
end Go.Proofs.YtnabkcglnbdfeaaGreatDoor.Flt
namespace Go.Proofs.YtnabkcglnbdfeaaGreatDoor.Flt
open Go.RowKit Base Txt
theorem parserReads_law (la:Option Addr) (ln cap:Nat) (zs:List Int) (a k:Int) (lc:Option Addr) (lm cap2:Nat) (cs:List Int) (w:World) (hv:Nums .u8 w la ln zs) (hln:ln≤maxLen) (hlc:ln≤cap) (ha:0≤a∧a≤4294967295) (hk:0≤k∧k≤255) (hu:Nums .u16 w lc lm cs) (hw:∀x∈cs,(Lit.int .u16 x).wf=true) :
 Calls EL 4 #[.slice la ln cap,.int .u32 a,.int .u8 k,.slice lc lm cap2] w fun e w'=>e=.returned (.bool true)∧Below w.heap.size w w':=by
 obtain ⟨a,rfl⟩:=Int.eq_ofNat_of_zero_le ha.1;obtain ⟨k,rfl⟩:=Int.eq_ofNat_of_zero_le hk.1
 exact parserReads_any la ln cap zs a k lc lm cap2 cs w hv hln hlc (by omega) (by omega) hu fun c hc=>bounds_u16 (hw c hc)
end Go.Proofs.YtnabkcglnbdfeaaGreatDoor.Flt
