import Derived.Test.YtldhlecknfomjaaGreatDoorFnh
set_option linter.unusedSimpArgs false
open Array renaming getD_eq_getD_getElem?→Af
open Bool renaming and_eq_true→An,eq_iff_iff→Ar,false_and→As,false_eq_true→Au,not_eq_true'→Aw,or_eq_true→Ax
open ByteArray renaming empty→A6
open Go.Act renaming put→Ab
open Go.Lib renaming hid→Bo
open Go.Proofs.Tryz renaming prog→EG
open Go.Proofs.YtldhlecknfomjaaGreatDoor.Base renaming below_drewN→Aj,below_step→Ak,some_undef→Al
open Go.Proofs.YtldhlecknfomjaaGreatDoor.Each renaming Goes→AD,Lasts→AH,fine→AJ,putg→AM,region_all→AO,region_float→AP
open Go.Proofs.YtldhlecknfomjaaGreatDoor.Each.Goes renaming enter→AE
open Go.Proofs.YtldhlecknfomjaaGreatDoor.Each.Lasts renaming eq→AI
open Go.Proofs.YtldhlecknfomjaaGreatDoor.Ln renaming row_frozen→CL
open Go.Proofs.YtldhlecknfomjaaGreatDoor.Mem.Keeps renaming set→Bf
open Go.Proofs.YtldhlecknfomjaaGreatDoor.Mem.Of renaming refl→De
open Go.Proofs.YtldhlecknfomjaaGreatDoor.Par renaming bodied→Dj
open Go.Proofs.YtldhlecknfomjaaGreatDoor.Par.S renaming again→D3
open Go.Proofs.YtldhlecknfomjaaGreatDoor.Par.Step renaming of_below→D9,set→DB
open Go.Proofs.YtldhlecknfomjaaGreatDoor.Qk renaming has→Do,rhas_any→Dq
open Go.Proofs.YtldhlecknfomjaaGreatDoor.Rec renaming Bk→Dr,R→Dt
open Go.Proofs.YtldhlecknfomjaaGreatDoor.Rec.Bk renaming new→Ds
open Go.Proofs.YtldhlecknfomjaaGreatDoor.Tree renaming change→DM,done→DN,grow→DO,put1→DP,quiet→DR
open Go.Region renaming binds→Dw
open Go.RowKit.Below renaming refl→Am
open Go.World renaming ownsRow_nil→FD
open List renaming append_nil→B9,eq_nil_of_length_eq_zero→BM,getElem?_cons_succ→BR,getElem?_cons_zero→BS,getElem?_eq_getElem→BT,getElem?_map→BW,getElem?_toArray→BZ,getElem_mem→Cb,length_append→Ci,length_take→Ct,mem_cons→Cx,mem_of_getElem?→Cz,mem_singleton→C2,not_mem_nil→C4,setIfInBounds_toArray→C8,set_cons_succ→CA,set_cons_zero→CB,take_of_length_le→CE,take_succ_eq_append_getElem→CF
open Nat renaming le_of_lt→CP,le_refl→CQ,le_trans→CT,lt_of_lt_of_le→CU,lt_or_ge→CV,zero_add→CW,zero_le→CX
open Option renaming getD_some→Dg,some→Di
namespace Go.Proofs.YtldhlecknfomjaaGreatDoor.Par
open Go.RowKit Base Txt Mem
structure PlainOk (p:Nat) (s:S) (c:UInt8):Prop where
 e:s.e=0
 fit:Fits s
 st:lined s.st∨s.st=2∨s.st=4
 left:bodied s.st=true→1≤s.left∧s.left≤2000000
 line:lined s.st→LineOk p s.rd∧s.rd.CR=false∧(s.st=5→s.rd.how c=4→Do p 29=false)
theorem PlainOk.of {p:Nat} {s s2:S} {c:UInt8} (h:PlainOk p s c) {k:Nat} {cl:Bool} (h2:s2={s with head:=k,clean:=cl}):PlainOk p s2 c:=by subst h2;exact ⟨h.e,⟨h.fit.lines,h.fit.fss,h.fit.fsl,h.fit.tss,h.fit.tsl,h.fit.body,h.fit.out⟩,h.st,h.left,h.line⟩
section code
set_option maxHeartbeats 4000000
set_option maxRecDepth 20000
attribute [local go_sem] Al
variable {w:World} {B:Zone} {g q:Nat} {v f bd t o:Value} {p:Nat} {b:Bd} {s:S}
theorem once_any (hp:p<4294967296) (h3:16≤b.x3∧b.x3≤1048576) (h4:0≤b.x4) (c:UInt8) (h:PR w B g q v f bd t o p b s) (ok:PlainOk p s c) :
 Calls EG 140 #[ptr g,.int .u8 (c.toNat:Int)] w fun r w'=>r=.returned (.tuple #[])∧∃q1 v1 f1 bd1 t1 o1,PR w' B g q1 v1 f1 bd1 t1 o1 p b (s.plain p b c)∧Step (blks g q v f bd t o) (blks g q1 v1 f1 bd1 t1 o1) w w':=by
 have key:∀hst:s.st=2∨s.st=4,Calls EG 140 #[ptr g,.int .u8 (c.toNat:Int)] w fun r w'=>
  r=.returned (.tuple #[])∧∃q1 v1 f1 bd1 t1 o1,PR w' B g q1 v1 f1 bd1 t1 o1 p b (s.plain p b c)∧Step (blks g q v f bd t o) (blks g q1 v1 f1 bd1 t1 o1) w w':=by
  intro hst;have hb:bodied s.st=true:=by rcases hst with e | e<;>rw [e]<;>rfl
  have e:s.plain p b c=S.bodyB p b {s with fresh:=false} c:=by unfold S.plain;simp [hb]
  rw [e];exact body_any c h hst (ok.left hb) ok.fit.body ok.fit.out
 rcases ok.st with hs | hs | hs
 ·obtain ⟨h5,h6,h7⟩:=ok.line hs;exact plain_any hp h3 h4 c h hs ok.e ok.fit h5 h6 h7
 ·exact key (.inl hs)
 ·exact key (.inr hs)
theorem countOnce_any (hp:p<4294967296) (h3:16≤b.x3∧b.x3≤1048576) (h4:0≤b.x4) (c:UInt8) (h:PR w B g q v f bd t o p b s) (ok:PlainOk p s c) (hh:s.head≤1000000) :
 Calls EG 97 #[ptr g,.int .u8 (c.toNat:Int)] w fun r w'=>r=.returned (.tuple #[])∧∃q1 v1 f1 bd1 t1 o1,PR w' B g q1 v1 f1 bd1 t1 o1 p b (s.count b fun s=>s.plain p b c)∧Step (blks g q v f bd t o) (blks g q1 v1 f1 bd1 t1 o1) w w':=
 count_any c (fun s=>s.plain p b c) h ok.e hh fun w2 s2 hs h2=>once_any hp h3 h4 c h2 (by
  rcases hs with ⟨-,e, -⟩ | ⟨-,e⟩
  ·exact ok.of e
  ·exact ok.of (k:=s.head) (by rw [e]))
theorem XXiBT {P:Prop} (h:P:=by
 go_enter Tryz.func178,Tryz.ntmps178
 go_wp2_with (go_at_call 140;with_reducible refine HP.out.mono ?_;rintro r w3 ⟨rfl,q1,v1,f1,bd1,t1,o1,hP,hS⟩);first | go_end0 | refine bodyPost_ret (results_none rfl _ _ _) rfl ?_
 exact ⟨rfl,_,_,_,_,_,_,hP,HS2.out.trans hS⟩):P:=h
theorem XXTLs {P:Prop} (h:P:=by
 rw [e]
 replace c11:w.cell? ⟨g,11,none⟩=some (.int .i64 0):=by rw [hst] at c11;exact c11
 clear e h hst;go_enter Tryz.func178,Tryz.ntmps178
 go_wp2_with (go_at_call 97;with_reducible refine HBy.out.mono ?_;rintro r w3 ⟨rfl,q1,v1,f1,bd1,t1,o1,hP,hS⟩);first | go_end0 | refine bodyPost_ret (results_none rfl _ _ _) rfl ?_
 exact ⟨rfl,_,_,_,_,_,_,hP,hS⟩):P:=h
theorem XXuIn {P:Prop} (h:P:=by
 rw [e]
 replace c11:w.cell? ⟨g,11,none⟩=some (.int .i64 6):=by rw [hst] at c11;exact c11
 clear e h hst;go_enter Tryz.func178,Tryz.ntmps178
 go_wp2_with (go_at_call 97;with_reducible refine HC.out.mono ?_;rintro r w3 ⟨rfl,q1,v1,f1,bd1,t1,o1,hP,hS⟩);first | go_end0 | refine bodyPost_ret (results_none rfl _ _ _) rfl ?_
 exact ⟨rfl,_,_,_,_,_,_,hP,HS2.out.trans hS⟩):P:=h
theorem again_any (hp:p<4294967296) (h3:16≤b.x3∧b.x3≤1048576) (h4:0≤b.x4) (c:UInt8) (was:Nat) (h:PR w B g q v f bd t o p b s) (ok:PlainOk p s c) (hh:s.head≤1000000) (hw:lined was) :
 Calls EG 178 #[ptr g,.int .u8 (c.toNat:Int),.int .i64 (was:Int)] w fun r w'=>r=.returned (.tuple #[])∧∃q1 v1 f1 bd1 t1 o1,PR w' B g q1 v1 f1 bd1 t1 o1 p b (D3 p b s c was)∧Step (blks g q v f bd t o) (blks g q1 v1 f1 bd1 t1 o1) w w':=by
 have c11:=h.cs.c11;have c24:=h.cs.c24;have z24:=h.marks 24
 have H2:=Bo (h.put 24 (.bool false) {s with clean:=false} rfl rfl rfl rfl rfl rfl)
 have HS2:=Bo (DB (w:=w) (L:=blks g q v f bd t o) g 24 (.bool false) (by simp));have ok2:PlainOk p {s with clean:=false} c:=ok.of (k:=s.head) rfl
 have HBy:=Bo (countOnce_any hp h3 h4 c h ok hh)
 have HC:=Bo (countOnce_any hp h3 h4 c H2.out ok2 hh)
 have HP:=Bo (once_any hp h3 h4 c H2.out ok2);clear ok ok2 hh;rcases hw with rfl | rfl | rfl | rfl | rfl
 ·rcases (by omega:s.st=0∨s.st=6∨(¬s.st=0∧¬s.st=6)) with hst | hst | ⟨n0,n6⟩
  ·have e:D3 p b s c 0=S.plain p b {s with clean:=false} c:=by simp [D3,headed,hst]
   rw [e]
   replace c11:w.cell? ⟨g,11,none⟩=some (.int .i64 0):=by rw [hst] at c11;exact c11
   clear e h hst;exact XXiBT
  ·have e:D3 p b s c 0=S.plain p b {s with clean:=false} c:=by simp [D3,headed,hst]
   rw [e]
   replace c11:w.cell? ⟨g,11,none⟩=some (.int .i64 6):=by rw [hst] at c11;exact c11
   clear e h hst;exact XXiBT
  ·have e:D3 p b s c 0=S.plain p b {s with clean:=false} c:=by simp [D3,headed]
   rw [e]
   have t0:((s.st:Int)==0)=false:=beq_eq_false_iff_ne.2 (by omega)
   have t6:((s.st:Int)==6)=false:=beq_eq_false_iff_ne.2 (by omega);have m0:¬(s.st:Int)=0:=by omega
   have m6:¬(s.st:Int)=6:=by omega
   clear e h;exact XXiBT
 ·rcases (by omega:s.st=0∨s.st=6∨(¬s.st=0∧¬s.st=6)) with hst | hst | ⟨n0,n6⟩
  ·have e:D3 p b s c 1=s.count b fun s=>s.plain p b c:=by simp [D3,hst]
   exact XXTLs
  ·have e:D3 p b s c 1=S.plain p b {s with clean:=false} c:=by simp [D3,headed,hst]
   rw [e]
   replace c11:w.cell? ⟨g,11,none⟩=some (.int .i64 6):=by rw [hst] at c11;exact c11
   clear e h hst;exact XXiBT
  ·have e:D3 p b s c 1=S.plain p b {s with clean:=false} c:=by simp [D3,headed,n0]
   rw [e]
   have t0:((s.st:Int)==0)=false:=beq_eq_false_iff_ne.2 (by omega)
   have t6:((s.st:Int)==6)=false:=beq_eq_false_iff_ne.2 (by omega);have m0:¬(s.st:Int)=0:=by omega
   have m6:¬(s.st:Int)=6:=by omega
   clear e h;exact XXiBT
 ·rcases (by omega:s.st=0∨s.st=6∨(¬s.st=0∧¬s.st=6)) with hst | hst | ⟨n0,n6⟩
  ·have e:D3 p b s c 3=s.count b fun s=>s.plain p b c:=by simp [D3,hst]
   exact XXTLs
  ·have e:D3 p b s c 3=S.count b (fun s=>s.plain p b c) {s with clean:=false}:=by simp [D3,headed,hst]
   exact XXuIn
  ·have e:D3 p b s c 3=S.plain p b {s with clean:=false} c:=by simp [D3,headed,n0,n6]
   rw [e]
   have t0:((s.st:Int)==0)=false:=beq_eq_false_iff_ne.2 (by omega)
   have t6:((s.st:Int)==6)=false:=beq_eq_false_iff_ne.2 (by omega);have m0:¬(s.st:Int)=0:=by omega
   have m6:¬(s.st:Int)=6:=by omega
   clear e h;exact XXiBT
 ·rcases (by omega:s.st=0∨s.st=6∨(¬s.st=0∧¬s.st=6)) with hst | hst | ⟨n0,n6⟩
  ·have e:D3 p b s c 5=s.count b fun s=>s.plain p b c:=by simp [D3,hst]
   exact XXTLs
  ·have e:D3 p b s c 5=S.count b (fun s=>s.plain p b c) {s with clean:=false}:=by simp [D3,headed,hst]
   exact XXuIn
  ·have e:D3 p b s c 5=S.plain p b {s with clean:=false} c:=by simp [D3,headed,n0,n6]
   rw [e]
   have t0:((s.st:Int)==0)=false:=beq_eq_false_iff_ne.2 (by omega)
   have t6:((s.st:Int)==6)=false:=beq_eq_false_iff_ne.2 (by omega);have m0:¬(s.st:Int)=0:=by omega
   have m6:¬(s.st:Int)=6:=by omega
   clear e h;exact XXiBT
 ·rcases (by omega:s.st=0∨s.st=6∨(¬s.st=0∧¬s.st=6)) with hst | hst | ⟨n0,n6⟩
  ·have e:D3 p b s c 6=s.count b fun s=>s.plain p b c:=by simp [D3,hst]
   exact XXTLs
  ·have e:D3 p b s c 6=S.plain p b {s with clean:=false} c:=by simp [D3,headed,hst]
   rw [e]
   replace c11:w.cell? ⟨g,11,none⟩=some (.int .i64 6):=by rw [hst] at c11;exact c11
   clear e h hst;exact XXiBT
  ·have e:D3 p b s c 6=S.plain p b {s with clean:=false} c:=by simp [D3,headed,n0]
   rw [e]
   have t0:((s.st:Int)==0)=false:=beq_eq_false_iff_ne.2 (by omega)
   have t6:((s.st:Int)==6)=false:=beq_eq_false_iff_ne.2 (by omega);have m0:¬(s.st:Int)=0:=by omega
   have m6:¬(s.st:Int)=6:=by omega
   clear e h;exact XXiBT
end code
end Go.Proofs.YtldhlecknfomjaaGreatDoor.Par
namespace Go.Proofs.YtldhlecknfomjaaGreatDoor.Par
open Go.RowKit Base Txt Mem
section code
set_option maxHeartbeats 4000000
set_option maxRecDepth 20000
attribute [local go_sem] Al
variable {w:World} {B:Zone} {g q:Nat} {v f bd t o:Value} {p:Nat} {b:Bd} {s:S}
theorem XXF3w {P:Prop} (h:P:=by
 refine DR (by rfl) (ptr g) (fun _ _=>by go_simp) ?_;simp only [Ab,C8,CB,CA];refine DR (by rfl) (.pointer (some ⟨g,11,none⟩)) (fun _ _=>by go_simp) ?_;simp only [Ab,C8,CB,CA];have h1:=H.out.below hb;have ho:=H.out.own.line hb hr1 hq1;have d11:=h1.cs.c11;have z11:=h1.marks 11
 refine DM (by rfl) (fun K hK=>?_);go_simp;refine hK _ _ trivial ?_;clear hK K;refine DR (by rfl) (ptr g) (fun _ _=>by go_simp) ?_;simp only [Ab,C8,CB,CA];refine DR (by rfl) (.pointer (some ⟨g,12,none⟩)) (fun _ _=>by go_simp) ?_;simp only [Ab,C8,CB,CA];have c12:=h1.cs.c12;have z12:=h1.marks 12
 refine DM (by rfl) (fun K hK=>?_);go_simp;refine hK _ _ trivial ?_;clear hK K;refine DN ?_;have HP2:Hid (PR ((w2.setCell ⟨g,11,none⟩ (.int .i64 3)).setCell ⟨g,12,none⟩ (ptr q1)) B g q1 nil f bd t o p b {s with st:=3,rd:=nl p b.x0}):=Bo ⟨row_setL (row_setL h1.row 11 (.int .i64 3)) 12 (ptr q1),(ho.set 11 (.int .i64 3)).set 12 (ptr q1)⟩
 have HS:=Bo ((Step.line (g:=g) (q:=q) (v:=v) (f:=f) (bd:=bd) (t:=t) (o:=o) hb hq1).trans ((DB g 11 (.int .i64 3) (by simp)).trans (DB g 12 (ptr q1) (by simp))))
 have HON:=Bo (HO.out _ _ HP2.out);clear HQ HBW hr1 hq1 c12 z12 d11 z11 h1 ho hb HP2;generalize (w2.setCell ⟨g,11,none⟩ (.int .i64 3)).setCell ⟨g,12,none⟩ (ptr q1)=W3 at *
 go_wp2_with (go_at_call 140;with_reducible refine HON.out.mono ?_;rintro r w4 ⟨rfl,q2,v2,f2,bd2,t2,o2,hP,hS⟩);first | go_end0 | refine bodyPost_ret (results_none rfl _ _ _) rfl ?_
 exact ⟨rfl,_,_,_,_,_,_,hP,HS.out.trans hS⟩):P:=h
theorem longEnd_any (hp:p<4294967296) (h3:16≤b.x3∧b.x3≤1048576) (h4:0≤b.x4) (c:UInt8) (h:PR w B g q v f bd t o p b s) (hst:s.st=5) (hh:Do p 29=true) (ok:PlainOk p {s with st:=3,rd:=nl p b.x0} c):Calls EG 176 #[ptr g,.int .u8 (c.toNat:Int)] w fun r w'=>
 r=.returned (.tuple #[])∧∃q1 v1 f1 bd1 t1 o1,PR w' B g q1 v1 f1 bd1 t1 o1 p b (S.plain p b {s with st:=3,rd:=nl p b.x0} c)∧Step (blks g q v f bd t o) (blks g q1 v1 f1 bd1 t1 o1) w w':=by
 have HH:=Bo (fun w=>Dq p hp 29 w);rw [hh] at HH;have c11:w.cell? ⟨g,11,none⟩=some (.int .i64 5):=by have:=h.cs.c11;rw [hst] at this;exact this
 have c0:=h.cs.c0;have H:=Bo h
 have HO:=Bo (fun w2 q1 (h:PR w2 B g q1 nil f bd t o p b {s with st:=3,rd:=nl p b.x0})=>once_any hp h3 h4 c h ok)
 have HQ:=Bo ((h.drew 1).bk)
 have HBW:=Bo (show B≤(w.drewN 1).heap.size from CT h.own.ge (CP (h.drew 1).own.lt));clear h hst ok hh;go_enter Tryz.func176,Tryz.ntmps176
 go_upto_region 2 with (go_at_call 67;with_reducible refine Cm (HH.out _) ?_)
 clear c11 c0;refine AP 12 [19,20,21,22,23,24,25,26,27,28,29,30]
  [eQ (.pointer (some ⟨g,0,none⟩)),
    eQ (.pointer (some ⟨g,0,none⟩)),
    eQ (.pointer (some ⟨g,0,none⟩)),
    eQ (.pointer (some ⟨g,0,none⟩)),
    eQ (.pointer (some ⟨g,0,none⟩)),
    eQ (.int .u32 (p:Int)),
    eQ (.pointer (some ⟨g,0,none⟩)),
    eQ (.pointer (some ⟨g,0,none⟩)),
    eQ (.pointer (some ⟨g,1,none⟩)),
    eQ (.pointer (some ⟨g,1,none⟩)),
    eQ (.int .i64 b.x0),
    fun v u=>∃q1,v=ptr q1∧w.heap.size≤q1∧Ln.Rr u B q1 nil p (nl p (b.x0))]
  [] 6 (some 1) (.quiet 12 (.quiet 13 (.act 14 (.quiet 15 (.quiet 16 (.act 17 .done)))))) (.quiet 1 (.quiet 12 (.quiet 13 (.act 14 (.quiet 15 (.quiet 16 (.act 17 .done))))))) (by kernel_rfl) (by kernel_rfl) (by kernel_rfl) (by kernel_rfl) (fun k0 h=>by cases h;kernel_rfl) (fun _ _ d _ _ h=>by cases d<;>exact h) (by rfl) (by rfl)
  ⟨AI _,AI _,AI _,AI _,AI _,AI _,AI _,AI _,AI _,AI _,AI _,((fun _ _ _ hb h=>by obtain ⟨q1,e1,h1,h2⟩:=h;exact ⟨q1,e1,h1,rr_below h2 hb⟩)),trivial⟩ trivial (by rfl) ?_ ?_ ?_
 ·refine ⟨?_,?_,?_,?_,?_,?_,?_,?_,?_,?_,?_,?_,trivial⟩
  ·exact XXUzV
  ·exact XXUzV
  ·exact XXUzV
  ·refine AJ rfl (fun ev w1 hR hb hh=>?_);have e21:(ev (.tmp 21)=.pointer (some ⟨g,0,none⟩)):=hh.at 0;clear hh;exact XXqTe
  ·refine AJ rfl (fun ev w1 hR hb hh=>?_);have e22:(ev (.tmp 22)=.pointer (some ⟨g,0,none⟩)):=hh.at 0;clear hh;exact XXqTe
  ·refine AJ rfl (fun ev w1 hR hb hh=>?_);have e23:(ev (.tmp 23)=.pointer (some ⟨g,0,none⟩)):=hh.at 0;clear hh;have q0:=(HQ.out.below hb).c 0 _ rfl;exact XXqTe
  ·exact XXUzV
  ·refine AJ rfl (fun ev w1 hR hb hh=>?_);have e25:(ev (.tmp 25)=.pointer (some ⟨g,0,none⟩)):=hh.at 0;clear hh;exact XXqTe
  ·refine AJ rfl (fun ev w1 hR hb hh=>?_);have e26:(ev (.tmp 26)=.pointer (some ⟨g,0,none⟩)):=hh.at 0;clear hh;exact XXqTe
  ·refine AJ rfl (fun ev w1 hR hb hh=>?_);have e27:(ev (.tmp 27)=.pointer (some ⟨g,1,none⟩)):=hh.at 0;clear hh;exact XXqTe
  ·refine AJ rfl (fun ev w1 hR hb hh=>?_);have e28:(ev (.tmp 28)=.pointer (some ⟨g,1,none⟩)):=hh.at 0;clear hh;have q1:=(HQ.out.below hb).c 1 _ rfl;exact XXqTe
  ·refine AJ rfl (fun ev w1 hR hb hh=>?_);have e24:(ev (.tmp 24)=.int .u32 (p:Int)):=hh.at 0;have e29:(ev (.tmp 29)=.int .i64 b.x0):=hh.at 1;exact XXQ1N
 ·intro g1 w2 hb hf;have z19:(g1 19=.pointer (some ⟨g,0,none⟩)):=hf.at 0;have z20:(g1 20=.pointer (some ⟨g,0,none⟩)):=hf.at 1;have z30:((fun v u=>∃q1,v=ptr q1∧w.heap.size≤q1∧Ln.Rr u B q1 nil p (nl p (b.x0))) (g1 30) w2):=hf.at 11;clear hf;obtain ⟨q1,e1,hq1,hr1⟩:=z30;simp only [AM,Ab,C8,CB,CA];rw [e1,z19,z20];simp only [DO,DP,BS,BR];exact XXF3w
 ·intro k0 hk0 g1 w2 hb hf;cases hk0;have z19:(g1 19=.pointer (some ⟨g,0,none⟩)):=hf.at 0;have z30:((fun v u=>∃q1,v=ptr q1∧w.heap.size≤q1∧Ln.Rr u B q1 nil p (nl p (b.x0))) (g1 30) w2):=hf.at 11;clear hf;obtain ⟨q1,e1,hq1,hr1⟩:=z30;simp only [AM,Ab,C8,CB,CA];rw [e1,z19];simp only [DO,DP,BS,BR];refine DR (by rfl) (ptr g) (fun _ _=>by go_simp) ?_;simp only [Ab,C8,CB,CA];exact XXF3w
end code
end Go.Proofs.YtldhlecknfomjaaGreatDoor.Par
namespace Go.Proofs.YtldhlecknfomjaaGreatDoor.Par
open Go.RowKit Base Txt Mem
theorem how_is (q:Ln.R) (c:UInt8):q.how c=0∨q.how c=1∨q.how c=2∨q.how c=3∨q.how c=4:=by
 unfold Ln.R.how
 repeat' split
 all_goals simp
section code
set_option maxHeartbeats 4000000
set_option maxRecDepth 20000
attribute [local go_sem] Al
variable {w:World} {B:Zone} {g q:Nat} {v f bd t o:Value} {p:Nat} {b:Bd} {s:S}
theorem byte_any (hp:p<4294967296) (h3:16≤b.x3∧b.x3≤1048576) (h4:0≤b.x4) (c:UInt8) (h:PR w B g q v f bd t o p b s) (hs:lined s.st) (he:s.e=0) (ok:Fits s) (hl:LineOk p s.rd)
 (hlong:s.st=5→s.rd.how c=4→Do p 29=true→PlainOk p {s with fresh:=false,rd:=nl p b.x0,st:=3} c)
 (hag:s.rd.how c=2→(S.ended p b {s with fresh:=false,rd:=s.rd.byte c} (s.rd.byte c).L).e=0→PlainOk p (S.ended p b {s with fresh:=false,rd:=s.rd.byte c} (s.rd.byte c).L) c∧(S.ended p b {s with fresh:=false,rd:=s.rd.byte c} (s.rd.byte c).L).head≤1000000) :
 Calls EG 140 #[ptr g,.int .u8 (c.toNat:Int)] w fun r w'=>r=.returned (.tuple #[])∧∃q1 v1 f1 bd1 t1 o1,PR w' B g q1 v1 f1 bd1 t1 o1 p b (s.byte1 p b c)∧Step (blks g q v f bd t o) (blks g q1 v1 f1 bd1 t1 o1) w w':=by
 have hbod:bodied s.st=false:=by rcases hs with e | e | e | e | e<;>rw [e]<;>rfl
 have t2:((s.st:Int)==2)=false:=beq_eq_false_iff_ne.2 (by rcases hs with e | e | e | e | e<;>omega)
 have t4:((s.st:Int)==4)=false:=beq_eq_false_iff_ne.2 (by rcases hs with e | e | e | e | e<;>omega);have n2:¬(s.st:Int)=2:=beq_eq_false_iff_ne.1 t2;have n4:¬(s.st:Int)=4:=beq_eq_false_iff_ne.1 t4;have m2:¬s.st=2:=by omega
 have m4:¬s.st=4:=by omega
 have H1:=Bo (h.put 23 (.bool false) {s with fresh:=false} rfl rfl rfl rfl rfl rfl)
 have HS1:=Bo (DB (w:=w) (L:=blks g q v f bd t o) g 23 (.bool false) (by simp));have c23:=h.cs.c23;have z23:=h.marks 23;have c11:=h.cs.c11;have hrb:=Ln.rbyte_any c s.rd hl.most p hp hl.lf hl.cr (w.setCell ⟨g,23,none⟩ (.bool false)) B q v H1.out.own.R;clear h;have hL:(s.rd.how c=1∨s.rd.how c=2)→(s.rd.byte c).L.length≤5000:=fun e=>by rw [byte_L s.rd c e];have:=hl.len;have:=hl.most;omega
 rcases how_is s.rd c with hw | hw | hw | hw | hw
 ·have e:s.byte1 p b c={s with fresh:=false,rd:=s.rd.byte c}:=by unfold S.byte1;simp [hbod,hw]
  rw [e];rw [hw] at hrb;have HRB:=Bo hrb;clear e hw hL hrb hbod hs he hl ok hlong hag;exact XXUyO
 ·have e:s.byte1 p b c=S.ended p b {s with fresh:=false,rd:=s.rd.byte c} (s.rd.byte c).L:=by unfold S.byte1;simp [hbod,hw]
  rw [e];rw [hw] at hrb;have HRB:=Bo hrb;obtain ⟨x,hx⟩:∃x:ByteArray,ba (s.rd.byte c).L=x:=⟨_,rfl⟩;have hxl:(s.rd.byte c).L=x.data.toList:=by rw [←hx];simp [ba]
  have hxs:x.size≤5000:=by rw [←hx,ba_size];exact hL (.inl hw)
  have HEN:=Bo (fun w2 q1 v1 (h:PR w2 B g q1 v1 f bd t o p b {s with fresh:=false,rd:=s.rd.byte c})=>ended_any hp h3 h4 x hxs h hs he ⟨ok.lines,ok.fss,ok.fsl,ok.tss,ok.tsl,ok.body,ok.out⟩);have HX:=Bo hx;rw [hxl];clear e hw hL hrb hbod hs he hl ok hlong hag hx hxl hxs;exact XXJCU
 ·rw [hw] at hrb;have HRB:=Bo hrb;obtain ⟨x,hx⟩:∃x:ByteArray,ba (s.rd.byte c).L=x:=⟨_,rfl⟩;have hxl:(s.rd.byte c).L=x.data.toList:=by rw [←hx];simp [ba]
  have hxs:x.size≤5000:=by rw [←hx,ba_size];exact hL (.inr hw)
  have HEN:=Bo (fun w2 q1 v1 (h:PR w2 B g q1 v1 f bd t o p b {s with fresh:=false,rd:=s.rd.byte c})=>ended_any hp h3 h4 x hxs h hs he ⟨ok.lines,ok.fss,ok.fsl,ok.tss,ok.tsl,ok.body,ok.out⟩);have HX:=Bo hx;rw [hxl] at hag;obtain ⟨s3,hs3⟩:∃s3,S.ended p b {s with fresh:=false,rd:=s.rd.byte c} x.data.toList=s3:=⟨_,rfl⟩;rw [hs3] at hag HEN;by_cases he3:s3.e=0
  ·obtain ⟨ok3,hh3⟩:=hag hw he3;have e:s.byte1 p b c=D3 p b s3 c s.st:=by
    unfold S.byte1;simp [hbod,hw,hxl,hs3,he3]
   rw [e]
   have HAG:=Bo (fun w2 q1 v1 f1 bd1 t1 o1 (h:PR w2 B g q1 v1 f1 bd1 t1 o1 p b s3)=>again_any hp h3 h4 c s.st h ok3 hh3 hs);have HE2:=Bo he3;clear e hw hL hrb hbod hs he hl ok hlong hag hx hxl hxs hs3 he3 ok3 hh3;go_enter Tryz.func140,Tryz.ntmps140;go_upto_region 8 with fail
   generalize w.setCell ⟨g,23,none⟩ (.bool false)=W1 at *;clear c23 z23 c11;have c12:=H1.out.cs.c12
   go_wp2_with (first
    |(go_at_call 178;with_reducible refine (HAG.out _ _ _ _ _ _ _ HP3.out).mono ?_;rintro r w4 ⟨rfl,q2,v3,f2,bd2,t2',o2,hP4,hS4⟩)
    |(go_at_call 177;with_reducible refine (HEN.out _ _ _ HP2.out).mono ?_;rintro r w3 ⟨rfl,q1,v1,f1,bd1,t1,o1,hP3,hS3⟩
      have HP3:=Bo hP3;have HS3:=Bo (HS2.out.trans hS3);have c25:w3.cell? ⟨g,25,none⟩=some (.int .i64 0):=by have:=hP3.cs.c25;rw [HE2.out] at this;exact this
      clear hP3 hS3)
    |(go_at_call 175;with_reducible refine HRB.out.mono ?_;rintro r w2 ⟨v2,rfl,hr2,hk2,hm2⟩
      obtain ⟨hP2,hS2⟩:=H1.out.reader hk2 hm2 hr2
      have HP2:=Bo hP2;have HS2:=Bo (HS1.out.trans hS2);have c11:=hP2.cs.c11;have c12:=hP2.cs.c12;have y4:w2.cell? ⟨q,4,none⟩=some (.string x):=by rw [←HX.out];exact Ln.row_cell hr2.row (k:=4) rfl
      clear hr2 hk2 hm2 hP2 hS2))
   first | go_end0 | refine bodyPost_ret (results_none rfl _ _ _) rfl ?_
   exact ⟨rfl,_,_,_,_,_,_,hP4,HS3.out.trans hS4⟩
  ·have e:s.byte1 p b c=s3:=by
    unfold S.byte1;simp [hbod,hw,hxl,hs3,he3]
   rw [e];obtain ⟨k,hk⟩:∃k,s3.e=k:=⟨_,rfl⟩
   have t5:((k:Int)==0)=false:=beq_eq_false_iff_ne.2 (by omega);have n5:¬(k:Int)=0:=by omega
   have n6:¬k=0:=by omega
   have HE2:=Bo hk;clear e hw hL hrb hbod hs he hl ok hlong hag hx hxl hxs hs3 he3 hk;go_enter Tryz.func140,Tryz.ntmps140;go_upto_region 8 with fail
   generalize w.setCell ⟨g,23,none⟩ (.bool false)=W1 at *;clear c23 z23 c11;have c12:=H1.out.cs.c12
   go_wp2_with (first
    |(go_at_call 177;with_reducible refine (HEN.out _ _ _ HP2.out).mono ?_;rintro r w3 ⟨rfl,q1,v1,f1,bd1,t1,o1,hP3,hS3⟩
      have HP3:=Bo hP3;have HS3:=Bo (HS2.out.trans hS3);have c25:w3.cell? ⟨g,25,none⟩=some (.int .i64 (k:Int)):=by have:=hP3.cs.c25;rw [HE2.out] at this;exact this
      clear hP3 hS3)
    |(go_at_call 175;with_reducible refine HRB.out.mono ?_;rintro r w2 ⟨v2,rfl,hr2,hk2,hm2⟩
      obtain ⟨hP2,hS2⟩:=H1.out.reader hk2 hm2 hr2
      have HP2:=Bo hP2;have HS2:=Bo (HS1.out.trans hS2);have c11:=hP2.cs.c11;have c12:=hP2.cs.c12;have y4:w2.cell? ⟨q,4,none⟩=some (.string x):=by rw [←HX.out];exact Ln.row_cell hr2.row (k:=4) rfl
      clear hr2 hk2 hm2 hP2 hS2))
   first | go_end0 | refine bodyPost_ret (results_none rfl _ _ _) rfl ?_
   exact ⟨rfl,_,_,_,_,_,_,HP3.out,HS3.out⟩
 ·have e:s.byte1 p b c=S.fail {s with fresh:=false,rd:=s.rd.byte c} 400:=by unfold S.byte1;simp [hbod,hw]
  rw [e];rw [hw] at hrb;have HRB:=Bo hrb
  have HFA:=Bo (fun w2 q1 v1 (h:PR w2 B g q1 v1 f bd t o p b {s with fresh:=false,rd:=s.rd.byte c})=>fail_at h 400 400 rfl);clear e hw hL hrb hbod hs he hl ok hlong hag;go_enter Tryz.func140,Tryz.ntmps140;go_upto_region 8 with fail
  generalize w.setCell ⟨g,23,none⟩ (.bool false)=W1 at *;clear c23 z23 c11;have c12:=H1.out.cs.c12
  go_wp2_with (first
   |(go_at_call 139;with_reducible refine (HFA.out _ _ _ HP2.out).mono ?_;rintro r w3 ⟨rfl,hP3,hS3⟩)
   |(go_at_call 175;with_reducible refine HRB.out.mono ?_;rintro r w2 ⟨v2,rfl,hr2,hk2,hm2⟩
     obtain ⟨hP2,hS2⟩:=H1.out.reader hk2 hm2 hr2
     have HP2:=Bo hP2;have HS2:=Bo (HS1.out.trans hS2);clear hr2 hk2 hm2 hP2 hS2))
  first | go_end0 | refine bodyPost_ret (results_none rfl _ _ _) rfl ?_
  exact XXtPE
 ·by_cases hce:(s.st==5&&Do p 29)=true
  ·have hce2:s.st=5∧Do p 29=true:=by simpa using hce
   have e:s.byte1 p b c=S.plain p b {s with fresh:=false,rd:=nl p b.x0,st:=3} c:=by unfold S.byte1;simp [bodied,hw,hce2.1,hce2.2]
   rw [e];have ok3:=hlong hce2.1 hw hce2.2;rw [hw] at hrb;have HRB:=Bo hrb
   have HLO:=Bo (fun w2 q1 v1 (h:PR w2 B g q1 v1 f bd t o p b {s with fresh:=false,rd:=s.rd.byte c})=>longEnd_any hp h3 h4 c h hce2.1 hce2.2 ok3);clear e hw hL hrb hbod hs he hl ok hlong hag hce hce2 ok3;go_enter Tryz.func140,Tryz.ntmps140;go_upto_region 8 with fail
   generalize w.setCell ⟨g,23,none⟩ (.bool false)=W1 at *;clear c23 z23 c11;have c12:=H1.out.cs.c12
   go_wp2_with (first
    |(go_at_call 176;with_reducible refine (HLO.out _ _ _ HP2.out).mono ?_;rintro r w3 ⟨rfl,q1,v1,f1,bd1,t1,o1,hP3,hS3⟩)
    |(go_at_call 175;with_reducible refine HRB.out.mono ?_;rintro r w2 ⟨v2,rfl,hr2,hk2,hm2⟩
      obtain ⟨hP2,hS2⟩:=H1.out.reader hk2 hm2 hr2
      have HP2:=Bo hP2;have HS2:=Bo (HS1.out.trans hS2);clear hr2 hk2 hm2 hP2 hS2))
   first | go_end0 | refine bodyPost_ret (results_none rfl _ _ _) rfl ?_
   exact XXtPE
  ·have e:s.byte1 p b c=S.fail {s with fresh:=false,rd:=s.rd.byte c} (longE s.st):=by unfold S.byte1;simp [hbod,hw,hce]
   rw [e];have h6:s.st=5→Do p 29=false:=fun e=>by
    cases h:Do p 29 with
    | false=>rfl
    | true=>exact absurd (by rw [e,h];rfl) hce
   rw [hw] at hrb;have HRB:=Bo hrb
   have HLO:=Bo (fun w2 q1 v1 (h:PR w2 B g q1 v1 f bd t o p b {s with fresh:=false,rd:=s.rd.byte c})=>long_any hp c h hs h6);clear e hw hL hrb hbod hs he hl ok hlong hag hce h6;go_enter Tryz.func140,Tryz.ntmps140;go_upto_region 8 with fail
   generalize w.setCell ⟨g,23,none⟩ (.bool false)=W1 at *;clear c23 z23 c11;have c12:=H1.out.cs.c12
   go_wp2_with (first
    |(go_at_call 176;with_reducible refine (HLO.out _ _ _ HP2.out).mono ?_;rintro r w3 ⟨rfl,hP3,hS3⟩)
    |(go_at_call 175;with_reducible refine HRB.out.mono ?_;rintro r w2 ⟨v2,rfl,hr2,hk2,hm2⟩
      obtain ⟨hP2,hS2⟩:=H1.out.reader hk2 hm2 hr2
      have HP2:=Bo hP2;have HS2:=Bo (HS1.out.trans hS2);clear hr2 hk2 hm2 hP2 hS2))
   first | go_end0 | refine bodyPost_ret (results_none rfl _ _ _) rfl ?_
   exact XXtPE
end code
end Go.Proofs.YtldhlecknfomjaaGreatDoor.Par
namespace Go.Proofs.YtldhlecknfomjaaGreatDoor.Pg
open Go.RowKit Base Txt Par
def wideM (p:Nat) (m:Ln.M):Ln.M:={m with lf:=Do p 1,cr:=Do p 2}
def T.wide (p:Nat) (t:T):T:={t with rd:=wideM p t.rd}
structure T.Strict (t:T):Prop where
 lf:t.rd.lf=false
 cr:t.rd.cr=false
theorem decide_codes (ch:Bool) (body minor:Int) (fs:List Fld) (c:Frm.Cl):0≤(Frm.decideV c ch body minor fs).2.2:=by
 unfold Frm.decideV Frm.bodyV;split
 ·unfold Frm.hostsV;split
  ·decide
  ·split<;>decide
 ·split
  ·unfold Frm.winsV
   repeat' split
   all_goals decide
  ·split
   ·split<;>decide
   ·unfold Frm.fixedV;split
    ·exact Int.le_refl _
    ·show 0≤(Frm.lengthV c.lp c.lc c.lf c.ll body (find fs Frm.clN)).2;unfold Frm.lengthV;split
     ·decide
     ·split
      ·decide
      ·unfold Frm.numV;split
       ·decide
       ·split
        ·decide
        ·exact Int.le_refl _
theorem decide_pos {ch:Bool} {body minor:Int} {fs:List Fld} {c:Frm.Cl} {d:Int × Int × Int} (hd:d=Frm.decideV c ch body minor fs) (h1:d.2.2≠0):d.2.2.toNat≠0:=by have:=decide_codes ch body minor fs c;rw [←hd] at this;omega
theorem size_pos {hex blanks:Bool} {ext body:Int} {l:List UInt8} {z:Int × Int} (hz:z=Chk.sizeV hex blanks ext body l) (h1:z.2≠0):z.2.toNat≠0:=by
 have:0≤(Chk.sizeV hex blanks ext body l).2:=by
  unfold Chk.sizeV;split
  ·unfold Chk.numV;split
   ·decide
   ·split
    ·decide
    ·exact Int.le_refl _
  ·decide
 rw [←hz] at this;omega
section
variable {p:Nat} {b:Bd} {t t2:T} {s:List UInt8} {c:UInt8}
end
end Go.Proofs.YtldhlecknfomjaaGreatDoor.Pg
namespace Go.Proofs.YtldhlecknfomjaaGreatDoor.Pg
open Go.RowKit Base Txt Par
structure RelW (m:Ln.M) (q:Ln.R):Prop where
 lf:q.lf=m.lf
 cr:q.cr=m.cr
 most:q.most=m.most
 dead:q.dead=false
 CR:q.CR=m.pend
 B:q.B=if Ln.ended m.last then [] else m.buf
structure Fresh (m:Ln.M):Prop where
 buf:(if Ln.ended m.last then [] else m.buf)= []
 pend:m.pend=false
theorem RelW.step {m:Ln.M} {q:Ln.R} (h:RelW m q) (hm:m.Ok) (hf:Ln.failed m.last=false) (c:UInt8) :
 q.how c=m.clear.next c∧(Ln.failed (m.clear.next c)=false→RelW (m.byte c) (q.byte c)∧(q.byte c).L=(m.byte c).line):=by
 have hr:Ln.Rel m {q with L:=m.line}:=⟨h.lf,h.cr,h.most,h.dead.trans hf.symm,rfl,fun _=>h.CR,fun _=>h.B⟩;have h1:=Ln.step_how hr hm c;have h2:=Ln.step_rel hr hm c;have e:({q with L:=m.line}:Ln.R).byte c=q.byte c:=by simp [Ln.R.byte,Ln.R.start,Ln.R.fin,Ln.R.die,h.dead]
 rw [e] at h2;refine ⟨h1,fun hn=>?_⟩;exact ⟨⟨h2.lf,h2.cr,h2.most,h2.dead.trans hn,h2.CR hn,h2.B hn⟩,h2.L⟩
theorem Fresh.isNew {t:T} (h:Fresh t.rd):t.isNew=true:=by
 have h1:t.rd.len=0:=by
  have:=congrArg List.length h.buf;unfold Ln.M.len;split
  ·rfl
  ·rename_i hn;rw [if_neg hn] at this;exact this
 unfold T.isNew;rw [h1,h.pend];rfl
structure R0 (p:Nat) (b:Bd) (t:T) (s:S):Prop where
 e:s.e=0
 st:t.st=s.st+1
 r:s.r=t.r
 out:s.out=t.out
 head:s.head=t.size
 hl:s.st≤1→s.lines=t.hl
 bl:s.st=6→s.lines=t.bl
 bl0:s.st≠6→t.bl=0
 left:Dj s.st=true→s.left=t.left
 rd:Dj s.st=false→RelW t.rd s.rd
 fr:Dj s.st=true→Fresh t.rd
 lf:t.rd.lf=Do p 1
 cr:t.rd.cr=Do p 2
 most:s.st≠5→t.rd.most=Ln.mid b.x0
 beh:s.st=5→t.r.body≠ []
 ch:t.r.ch=decide (3≤s.st)
structure RR (p:Nat) (b:Bd) (t:T) (s:S):Prop extends R0 p b t s where
 fresh:s.fresh=t.next
 clean:s.clean=(t.st==1&&t.isNew)
def RQ (p:Nat) (b:Bd):Q→S→Prop
 | .live t,s=>RR p b t s
 | .dead e o,s=>s.e=e∧e≠0∧s.out=o∧s.clean=false
section
variable {p:Nat} {b:Bd} {t:T} {s:S}
theorem Fresh.nl {m:Ln.M} (h:Fresh m) (hl:m.lf=Do p 1) (hc:m.cr=Do p 2) (hm:m.most=Ln.mid b.x0):RelW m (nl p b.x0):=
 ⟨hl.symm,hc.symm,hm.symm,rfl,h.pend.symm,h.buf.symm⟩
theorem fresh_of (most:Int):Fresh (Ln.M.of p most):=⟨rfl,rfl⟩
theorem next_st (h3:t.st≠3) (h4:t.st≠4):t.next=false:=by unfold T.next;rw [beq_eq_false_iff_ne.2 h3,beq_eq_false_iff_ne.2 h4];rfl
theorem next_body (h:t.r.body≠ []):t.next=false:=by
 unfold T.next;have:t.r.body.isEmpty=false:=by
  cases hb:t.r.body with
  | nil=>exact absurd hb h
  | cons _ _=>rfl
 rw [this,As,Bool.and_false]
theorem clean_st (h:t.st≠1):(t.st==1&&t.isNew)=false:=by rw [beq_eq_false_iff_ne.2 h];rfl
theorem ends_err {e:Nat} {t:T} (he:e≠0):ends (e,t)=.dead e t.out:=if_neg he
theorem fail_sim {e:Nat} (h:R0 p b t s) (he:e≠0):RQ p b (.dead e t.out) (s.fail e):=⟨rfl,he,h.out,rfl⟩
theorem bod (h:R0 p b t s):Pg.bodied t.st=Dj s.st:=by
 rw [h.st];unfold Pg.bodied Dj;have e1:(s.st+1==3)=(s.st==2):=by rw [Ar,beq_iff_eq,beq_iff_eq];omega
 have e2:(s.st+1==5)=(s.st==4):=by rw [Ar,beq_iff_eq,beq_iff_eq];omega
 rw [e1,e2]
theorem hed (h:R0 p b t s):Pg.headed t.st=Par.headed s.st:=by
 rw [h.st];unfold Pg.headed Par.headed;have e1:(s.st+1==1)=(s.st==0):=by rw [Ar,beq_iff_eq,beq_iff_eq];omega
 have e2:(s.st+1==2)=(s.st==1):=by rw [Ar,beq_iff_eq,beq_iff_eq];omega
 have e3:(s.st+1==7)=(s.st==6):=by rw [Ar,beq_iff_eq,beq_iff_eq];omega
 rw [e1,e2,e3]
theorem long_sim (h:R0 p b t s):Pg.longE t.st=Par.longE s.st∧Par.longE s.st≠0:=by
 rw [h.st];unfold Pg.longE Par.longE Par.headed;by_cases h0:s.st=0
 ·simp [h0]
 ·by_cases h1:s.st=1
  ·simp [h1]
  ·by_cases h6:s.st=6
   ·simp [h6]
   ·rw [if_neg (by omega),if_neg (by omega),if_neg h0,if_neg (by simp [h0,h1,h6])];decide
theorem whole_sim (h:R0 p b t s) (hf:Fresh t.rd) (h5:s.st≠5):RR p b t.fin (s.whole p b) where
 e:=h.e
 st:=rfl
 r:=rfl
 out:=by show s.out ++ [s.r]=t.out ++ [t.r];rw [h.out,h.r]
 head:=rfl
 hl:=fun _=>rfl
 bl:=fun e=>absurd e (by show (0:Nat)≠6;decide)
 bl0:=fun _=>rfl
 left:=fun e=>absurd e (by show Dj 0≠true;decide)
 rd:=fun _=>hf.nl h.lf h.cr (h.most h5)
 fr:=fun e=>absurd e (by show Dj 0≠true;decide)
 lf:=h.lf
 cr:=h.cr
 most:=fun _=>h.most h5
 beh:=fun e=>absurd e (by show (0:Nat)≠5;decide)
 ch:=rfl
 fresh:=(next_st (t:=t.fin) (by show (1:Nat)≠3;decide) (by show (1:Nat)≠4;decide)).symm
 clean:=by
  have:t.fin.isNew=true:=Fresh.isNew (t:=t.fin) hf
  show true=((1:Nat)==1&&t.fin.isNew);rw [this];rfl
theorem first_sim (h:R0 p b t s) (hf:Fresh t.rd) (hc:s.clean=false) (hfr:s.fresh=false) (hs:s.st=0) (ln:List UInt8):RQ p b (ends (t.first p b ln)) (s.first p b ln):=by
 have ht:t.st=1:=by rw [h.st,hs]
 unfold T.first S.first;by_cases h0:ln= []
 ·simp only [if_pos h0];cases hq:Do p 0 with
  | true=>
    simp only [if_true]
    exact {h with
     fresh:=hfr.trans (next_st (t:=t) (by omega) (by omega)).symm
     clean:=by
      show true= _
      rw [hf.isNew,ht];rfl}
  | false=>
    simp only [Au,if_false];rw [ends_err (by decide)]
    exact fail_sim h (by decide)
 ·simp only [if_neg h0];generalize Rq.request (Rq.clOf p) b.od ln=q;by_cases hq:q.2.2.2=0
  ·simp only [hq,if_true,ne_eq,not_true_eq_false,if_false];show RR p b _ _
   exact {
    e:=h.e
    st:=rfl
    r:=by show ({s.r with m:=ba q.1,x:=ba q.2.1,k:=(q.2.2.1:Int)}:Dt)={t.r with m:=ba q.1,x:=ba q.2.1,k:=(q.2.2.1:Int)};rw [h.r]
    out:=h.out
    head:=h.head
    hl:=fun _=>h.hl (by omega)
    bl:=fun e=>absurd e (by show (1:Nat)≠6;decide)
    bl0:=fun _=>h.bl0 (by omega)
    left:=fun e=>absurd e (by show Dj 1≠true;decide)
    rd:=fun _=>h.rd (by rw [hs];rfl)
    fr:=fun e=>absurd e (by show Dj 1≠true;decide)
    lf:=h.lf
    cr:=h.cr
    most:=fun _=>h.most (by omega)
    beh:=fun e=>absurd e (by show (1:Nat)≠5;decide)
    ch:=by show t.r.ch=decide (3≤1);rw [h.ch,hs];rfl
    fresh:=hfr.trans (next_st (t:={t with r:={t.r with m:=ba q.1,x:=ba q.2.1,k:=(q.2.2.1:Int)},st:=2}) (by show (2:Nat)≠3;decide) (by show (2:Nat)≠4;decide)).symm
    clean:=hc}
  ·rw [if_neg hq,if_pos hq,ends_err hq];exact fail_sim h hq
theorem over_sim (h:R0 p b t s) (ok:t.Ok) (hf:Fresh t.rd) (hc:s.clean=false) (hs:s.st=1):RQ p b (ends (t.endHead p b)) (s.over p b):=by
 have ht:t.st=2:=by rw [h.st,hs]
 have hbody:t.r.body= []:=ok.early (by omega);have hnew:=hf.isNew;unfold T.endHead S.over;rw [h.r];have hp:=fun h1=>decide_pos (d:=Frm.decideV (Frm.clOf p) b.ch b.x3 t.r.k t.r.fs) rfl h1;generalize Frm.decideV (Frm.clOf p) b.ch b.x3 t.r.k t.r.fs=d at hp ⊢;by_cases h1:d.2.2=0
 ·simp only [h1,ne_eq,not_true_eq_false,if_false];by_cases h2:d.1=2
  ·simp only [if_pos h2];show RR p b _ _
   exact {
    e:=h.e
    st:=rfl
    r:=rfl
    out:=h.out
    head:=h.head
    hl:=fun e=>absurd e (by show¬(3:Nat)≤1;decide)
    bl:=fun e=>absurd e (by show (3:Nat)≠6;decide)
    bl0:=fun _=>h.bl0 (by omega)
    left:=fun e=>absurd e (by show Dj 3≠true;decide)
    rd:=fun _=>hf.nl h.lf h.cr (h.most (by omega))
    fr:=fun e=>absurd e (by show Dj 3≠true;decide)
    lf:=h.lf
    cr:=h.cr
    most:=fun _=>h.most (by omega)
    beh:=fun e=>absurd e (by show (3:Nat)≠5;decide)
    ch:=rfl
    fresh:=by show true=(((4:Nat)==3|| (4:Nat)==4)&&(t.r.body.isEmpty&&t.isNew));rw [hbody,hnew];rfl
    clean:=hc.trans (clean_st (t:={t with r:={t.r with ch:=true},st:=4}) (by show (4:Nat)≠1;decide)).symm}
  ·simp only [if_neg h2];by_cases h3:d.2.1=0
   ·simp only [if_pos h3]
    exact whole_sim h hf (by omega)
   ·simp only [if_neg h3];show RR p b _ _
    exact {
     e:=h.e
     st:=rfl
     r:=rfl
     out:=h.out
     head:=h.head
     hl:=fun e=>absurd e (by show¬(2:Nat)≤1;decide)
     bl:=fun e=>absurd e (by show (2:Nat)≠6;decide)
     bl0:=fun _=>h.bl0 (by omega)
     left:=fun _=>rfl
     rd:=fun e=>absurd e (by show Dj 2≠false;decide)
     fr:=fun _=>hf
     lf:=h.lf
     cr:=h.cr
     most:=fun _=>h.most (by omega)
     beh:=fun e=>absurd e (by show (2:Nat)≠5;decide)
     ch:=by show t.r.ch=decide (3≤2);rw [h.ch,hs];rfl
     fresh:=by show true=(((3:Nat)==3|| (3:Nat)==4)&&(t.r.body.isEmpty&&t.isNew));rw [hbody,hnew];rfl
     clean:=hc.trans (clean_st (t:={t with left:=d.2.1.toNat,st:=3}) (by show (3:Nat)≠1;decide)).symm}
 ·simp only [ne_eq,h1,not_false_eq_true,if_true];rw [ends_err (hp h1)]
  exact fail_sim h (hp h1)
theorem XXy3C {P:Prop} (h:P:=by
 have he:e≠0:=by rcases fieldV_err hv with e1 | e1<;>rw [e1]<;>decide
 simp only [listE];rw [ends_err he]
 exact ⟨rfl,he,h.out,rfl⟩):P:=h
theorem fields_sim (h:R0 p b t s) (ok:t.Ok) (hf:Fresh t.rd) (hc:s.clean=false) (hfr:s.fresh=false) (hs:s.st=1) (ln:List UInt8):RQ p b (ends (t.fields p b ln)) (s.fields p b ln):=by
 have ht:t.st=2:=by rw [h.st,hs]
 unfold T.fields S.fields;by_cases h0:ln= []
 ·simp only [if_pos h0];exact over_sim h ok hf hc hs
 ·simp only [if_neg h0];rw [h.r,h.hl (by omega)];cases hv:fieldV p t.hl t.r.fs ln b.x1 with
  | inl e=>
    exact XXy3C
  | inr l=>
    show RR p b _ _
    exact {
     e:=h.e
     st:=h.st
     r:=rfl
     out:=h.out
     head:=h.head
     hl:=fun _=>rfl
     bl:=fun e=>absurd e (by show s.st≠6;omega)
     bl0:=fun _=>h.bl0 (by omega)
     left:=fun e=>absurd e (by show Dj s.st≠true;rw [hs];decide)
     rd:=fun _=>h.rd (by rw [hs];rfl)
     fr:=fun e=>absurd e (by show Dj s.st≠true;rw [hs];decide)
     lf:=h.lf
     cr:=h.cr
     most:=fun _=>h.most (by omega)
     beh:=fun e=>absurd e (by show s.st≠5;omega)
     ch:=h.ch
     fresh:=hfr.trans (next_st (t:={t with hl:=t.hl+1,r:={t.r with fs:=l}}) (by show t.st≠3;omega) (by show t.st≠4;omega)).symm
     clean:=hc.trans (clean_st (t:={t with hl:=t.hl+1,r:={t.r with fs:=l}}) (by show t.st≠1;omega)).symm}
theorem trail_sim (h:R0 p b t s) (hf:Fresh t.rd) (hc:s.clean=false) (hfr:s.fresh=false) (hs:s.st=6) (ln:List UInt8):RQ p b (ends (t.trail p b ln)) (s.trail p b ln):=by
 have ht:t.st=7:=by rw [h.st,hs]
 unfold T.trail S.trail;by_cases h0:ln= []
 ·simp only [if_pos h0]
  exact whole_sim h hf (by omega)
 ·simp only [if_neg h0];rw [h.r,h.bl hs];cases hv:fieldV p t.bl t.r.ts ln b.x5 with
  | inl e=>
    exact XXy3C
  | inr l=>
    show RR p b _ _
    exact {
     e:=h.e
     st:=h.st
     r:=rfl
     out:=h.out
     head:=h.head
     hl:=fun e=>absurd e (by show¬s.st≤1;omega)
     bl:=fun _=>rfl
     bl0:=fun e=>absurd hs e
     left:=fun e=>absurd e (by show Dj s.st≠true;rw [hs];decide)
     rd:=fun _=>h.rd (by rw [hs];rfl)
     fr:=fun e=>absurd e (by show Dj s.st≠true;rw [hs];decide)
     lf:=h.lf
     cr:=h.cr
     most:=fun _=>h.most (by omega)
     beh:=fun e=>absurd e (by show s.st≠5;omega)
     ch:=h.ch
     fresh:=hfr.trans (next_st (t:={t with bl:=t.bl+1,r:={t.r with ts:=l}}) (by show t.st≠3;omega) (by show t.st≠4;omega)).symm
     clean:=hc.trans (clean_st (t:={t with bl:=t.bl+1,r:={t.r with ts:=l}}) (by show t.st≠1;omega)).symm}
theorem chunk_sim (h:R0 p b t s) (hf:Fresh t.rd) (hc:s.clean=false) (hfr:s.fresh=false) (hs:s.st=3) (ln:List UInt8):RQ p b (ends (t.chunk p b ln)) (s.chunk p b ln):=by
 have ht:t.st=4:=by rw [h.st,hs]
 unfold T.chunk S.chunk;rw [h.r];have hp:=fun h1=>size_pos (z:=Chk.sizeV (Do p 27) (Do p 28) b.x4 b.x3 ln) rfl h1;generalize Chk.sizeV (Do p 27) (Do p 28) b.x4 b.x3 ln=z at hp ⊢;by_cases h1:z.2=0
 ·simp only [h1,ne_eq,not_true_eq_false,if_false];by_cases h2:z.1=0
  ·simp only [if_pos h2];show RR p b _ _
   exact {
    e:=h.e
    st:=rfl
    r:=rfl
    out:=h.out
    head:=h.head
    hl:=fun e=>absurd e (by show¬(6:Nat)≤1;decide)
    bl:=fun _=>(h.bl0 (by omega)).symm
    bl0:=fun e=>absurd rfl e
    left:=fun e=>absurd e (by show Dj 6≠true;decide)
    rd:=fun _=>hf.nl h.lf h.cr (h.most (by omega))
    fr:=fun e=>absurd e (by show Dj 6≠true;decide)
    lf:=h.lf
    cr:=h.cr
    most:=fun _=>h.most (by omega)
    beh:=fun e=>absurd e (by show (6:Nat)≠5;decide)
    ch:=by show t.r.ch=decide (3≤6);rw [h.ch,hs];rfl
    fresh:=hfr.trans (next_st (t:={t with st:=7}) (by show (7:Nat)≠3;decide) (by show (7:Nat)≠4;decide)).symm
    clean:=hc.trans (clean_st (t:={t with st:=7}) (by show (7:Nat)≠1;decide)).symm}
  ·simp only [if_neg h2];by_cases h3:b.x3-(t.r.body.length:Int)<z.1
   ·simp only [if_pos h3];rw [ends_err (by decide)]
    exact fail_sim h (by decide)
   ·simp only [if_neg h3];show RR p b _ _
    exact {
     e:=h.e
     st:=rfl
     r:=rfl
     out:=h.out
     head:=h.head
     hl:=fun e=>absurd e (by show¬(4:Nat)≤1;decide)
     bl:=fun e=>absurd e (by show (4:Nat)≠6;decide)
     bl0:=fun _=>h.bl0 (by omega)
     left:=fun _=>rfl
     rd:=fun e=>absurd e (by show Dj 4≠false;decide)
     fr:=fun _=>hf
     lf:=h.lf
     cr:=h.cr
     most:=fun _=>h.most (by omega)
     beh:=fun e=>absurd e (by show (4:Nat)≠5;decide)
     ch:=by show t.r.ch=decide (3≤4);rw [h.ch,hs];rfl
     fresh:=hfr.trans (next_st (t:={t with left:=z.1.toNat,st:=5}) (by show (5:Nat)≠3;decide) (by show (5:Nat)≠4;decide)).symm
     clean:=hc.trans (clean_st (t:={t with left:=z.1.toNat,st:=5}) (by show (5:Nat)≠1;decide)).symm}
 ·simp only [ne_eq,h1,not_false_eq_true,if_true];rw [ends_err (hp h1)]
  exact fail_sim h (hp h1)
theorem enter_sim (h:R0 p b t s) (hs:s.st=5):R0 p b (t.enter p 4 b.x0) {s with st:=3,rd:=nl p b.x0} where
 e:=h.e
 st:=rfl
 r:=h.r
 out:=h.out
 head:=h.head
 hl:=fun e=>absurd e (by show¬(3:Nat)≤1;decide)
 bl:=fun e=>absurd e (by show (3:Nat)≠6;decide)
 bl0:=fun _=>h.bl0 (by omega)
 left:=fun e=>absurd e (by show Dj 3≠true;decide)
 rd:=fun _=>(fresh_of b.x0).nl rfl rfl rfl
 fr:=fun e=>absurd e (by show Dj 3≠true;decide)
 lf:=rfl
 cr:=rfl
 most:=fun _=>rfl
 beh:=fun e=>absurd e (by show (3:Nat)≠5;decide)
 ch:=by show t.r.ch=decide (3≤3);rw [h.ch,hs];rfl
theorem line_sim (h:R0 p b t s) (ok:t.Ok) (hf:Fresh t.rd) (hc:s.clean=false) (hfr:s.fresh=false) (hn:Dj s.st=false) (ln:List UInt8):RQ p b (ends (t.line p b ln)) (s.ended p b ln):=by
 have h7:=ok.st;have ht:=h.st;have hn2:s.st≠2∧s.st≠4:=by constructor<;> (intro e;rw [e] at hn;exact absurd hn (by decide))
 have hcs:s.st=0∨s.st=1∨s.st=3∨s.st=5∨s.st=6:=by omega
 unfold T.line S.ended;rcases hcs with e | e | e | e | e
 ·rw [ht,e];exact first_sim h hf hc hfr e ln
 ·rw [ht,e];exact fields_sim h ok hf hc hfr e ln
 ·rw [ht,e];exact chunk_sim h hf hc hfr e ln
 ·rw [ht,e];have h1:=enter_sim h e;show RR p b (t.enter p 4 b.x0) {s with st:=3,rd:=nl p b.x0}
  exact {h1 with
   fresh:=hfr.trans (next_body (t:=t.enter p 4 b.x0) (h.beh e)).symm
   clean:=hc.trans (clean_st (t:=t.enter p 4 b.x0) (by show (4:Nat)≠1;decide)).symm}
 ·rw [ht,e];exact trail_sim h hf hc hfr e ln
theorem body_sim (h:R0 p b t s) (ok:t.Ok) (hc:s.clean=false) (hfr:s.fresh=false) (hn:Dj s.st=true) (c:UInt8) :
 RR p b (if t.left=1 then (t.keep c).endData p else t.keep c) (s.bodyB p b c):=by
 have hst:s.st=2∨s.st=4:=by unfold Dj at hn;simpa using hn
 have hl:1≤t.left:=ok.left (by rw [bod h];exact hn);have hle:=h.left hn;have hfr0:=h.fr hn;have hbd:(t.keep c).r.body≠ []:=by show t.r.body ++ [c]≠ [];simp
 have er:({s.r with body:=s.r.body ++ [c]}:Dt)={t.r with body:=t.r.body ++ [c]}:=by rw [h.r]
 have hk:R0 p b (t.keep c) {s with r:={s.r with body:=s.r.body ++ [c]},left:=s.left-1}:={
  e:=h.e
  st:=h.st
  r:=er
  out:=h.out
  head:=h.head
  hl:=h.hl
  bl:=h.bl
  bl0:=h.bl0
  left:=fun _=>by show s.left-1=t.left-1;rw [hle]
  rd:=fun e=>h.rd e
  fr:=fun _=>hfr0
  lf:=h.lf
  cr:=h.cr
  most:=h.most
  beh:=fun _=>hbd
  ch:=h.ch}
 unfold S.bodyB;by_cases h1:1<s.left
 ·rw [if_neg (by omega)];simp only [if_pos h1]
  exact {hk with
   fresh:=hfr.trans (next_body hbd).symm
   clean:=hc.trans (clean_st (t:=t.keep c) (by show t.st≠1;have:=h.st;omega)).symm}
 ·rw [if_pos (by omega)];simp only [if_neg h1];unfold T.endData;have e2:(t.keep c).r.ch=t.r.ch:=rfl;rw [e2,h.ch];rcases hst with e | e
  ·simp only [e,Nat.reduceLeDiff,decide_false,Au,if_false,if_true]
   have:=whole_sim hk hfr0 (by show s.st≠5;omega);rw [e] at this;exact this
  ·simp only [e,Nat.reduceLeDiff,decide_true,if_true,Nat.reduceEqDiff,if_false]
   exact {
    e:=h.e
    st:=rfl
    r:=er
    out:=h.out
    head:=h.head
    hl:=fun e=>absurd e (by show¬(5:Nat)≤1;decide)
    bl:=fun e=>absurd e (by show (5:Nat)≠6;decide)
    bl0:=fun _=>h.bl0 (by omega)
    left:=fun e=>absurd e (by show Dj 5≠true;decide)
    rd:=fun _=>⟨rfl,rfl,rfl,rfl,rfl,rfl⟩
    fr:=fun e=>absurd e (by show Dj 5≠true;decide)
    lf:=rfl
    cr:=rfl
    most:=fun e=>absurd rfl e
    beh:=fun _=>hbd
    ch:=by show t.r.ch=decide (3≤5);rw [h.ch,e];rfl
    fresh:=hfr.trans (next_st (t:=(t.keep c).enter p 6 0) (by show (6:Nat)≠3;decide) (by show (6:Nat)≠4;decide)).symm
    clean:=hc.trans (clean_st (t:=(t.keep c).enter p 6 0) (by show (6:Nat)≠1;decide)).symm}
theorem ended_fresh {m:Ln.M} {c:UInt8} {n:Int} (hn:m.clear.next c=n) (h:n=1∨n=2):Fresh (m.byte c)∧Ln.failed (m.byte c).last=false:=by
 have hl:(m.byte c).last=n:=hn;refine ⟨⟨?_,?_⟩,?_⟩
 ·rw [hl,if_pos];rcases h with rfl | rfl<;>rfl
 ·show (m.clear.next c==0&&c==13)=false;rw [hn];rcases h with rfl | rfl<;>rfl
 ·rw [hl];rcases h with rfl | rfl<;>rfl
theorem byte_some {m:Ln.M} {c:UInt8} (hm:m.next c=0):¬((m.told c).buf= []∧(m.next c==0&&c==13)=false):=by
 rintro ⟨h1,h2⟩;rw [hm] at h2;have hc:c≠13:=by
  intro e;rw [e] at h2
  exact absurd h2 (by decide)
 have hk:m.keeps c=true:=by
  unfold Ln.M.next at hm;unfold Ln.M.keeps;by_cases g1:Ln.failed m.last=true
  ·simp [g1] at hm
  ·by_cases g2:m.pend=true
   ·by_cases g3:c=10
    ·simp [g1,g2,g3] at hm
    ·by_cases g4:m.cr=true
     ·simp [g1,g2,g3,g4] at hm
     ·simp [g1,g2,g3,g4] at hm
   ·by_cases g3:c=10
    ·by_cases g4:m.lf=true
     ·simp [g1,g2,g3,g4] at hm
     ·simp [g1,g2,g3,g4] at hm
    ·by_cases g5:m.buf.length=m.most
     ·simp [g1,g2,g3,hc,g5] at hm
     ·simp [g1,g2,g3,hc,g5]
 have:(m.told c).buf=m.buf ++ [c]:=by show m.buf++(if m.keeps c then [c] else [])= _;rw [if_pos hk]
 rw [this] at h1;simp at h1
theorem more_new {c:UInt8} (hn:t.rd.clear.next c=0):({t with rd:=t.rd.byte c}:T).isNew=false:=by
 have h:=byte_some (m:=t.rd.clear) hn;have e1:(t.rd.byte c).len=(t.rd.clear.told c).buf.length:=by unfold Ln.M.len;have hl:(t.rd.byte c).last=0:=hn;rw [hl];rfl
 have e2:(t.rd.byte c).pend=(t.rd.clear.next c==0&&c==13):=rfl;unfold T.isNew;rw [Bool.eq_false_iff];intro hh;rw [An,decide_eq_true_eq,Aw] at hh;exact h ⟨BM (e1 ▸ hh.1),e2 ▸ hh.2⟩
theorem next_new (h:t.isNew=false):t.next=false:=by unfold T.next;rw [h,Bool.and_false,Bool.and_false]
theorem step_sim (h:R0 p b t s) (hn:Dj s.st=false) (ok:t.Ok) (c:UInt8) :
 s.rd.how c=t.rd.clear.next c∧(Ln.failed (t.rd.clear.next c)=false→
  R0 p b {t with rd:=t.rd.byte c} {s with fresh:=false,rd:=s.rd.byte c}∧({t with rd:=t.rd.byte c}:T).Ok∧(s.rd.byte c).L=(t.rd.byte c).line):=by
 obtain ⟨h1,h2⟩:=(h.rd hn).step ok.rd ok.nf c;refine ⟨h1,fun hf=>?_⟩;obtain ⟨h3,h4⟩:=h2 hf
 exact ⟨{
  e:=h.e
  st:=h.st
  r:=h.r
  out:=h.out
  head:=h.head
  hl:=h.hl
  bl:=h.bl
  bl0:=h.bl0
  left:=h.left
  rd:=fun _=>h3
  fr:=fun e=>absurd (hn.symm.trans e) (by decide)
  lf:=h.lf
  cr:=h.cr
  most:=h.most
  beh:=h.beh
  ch:=h.ch},ok.byteR c hf,h4⟩
theorem nextM_is (m:Ln.M) (c:UInt8) (hp:m.pend=false):m.next c≠2:=by
 unfold Ln.M.next;split
 ·decide
 ·rw [hp];simp only [Au,if_false];split
  ·split<;>decide
  ·split
   ·decide
   ·split<;>decide
theorem took_sim (h:R0 p b t s) (hn:Dj s.st=false) (ok:t.Ok) (hc:s.clean=false) (c:UInt8) {n:Int} (hnx:t.rd.clear.next c=n) :
 s.rd.how c=n∧(n=0→RR p b {t with rd:=t.rd.byte c} {s with fresh:=false,rd:=s.rd.byte c})∧
 (n=1∨n=2→RQ p b (ends (({t with rd:=t.rd.byte c}:T).line p b (t.rd.byte c).line)) (({s with fresh:=false,rd:=s.rd.byte c}:S).ended p b (s.rd.byte c).L)):=by
 obtain ⟨k1,k2⟩:=step_sim h hn ok c;rw [hnx] at k1 k2;refine ⟨k1,fun h0=>?_,fun h12=>?_⟩
 ·obtain ⟨k3,k4,k5⟩:=k2 (by rw [h0];rfl)
  have hw:=more_new (t:=t) (c:=c) (hnx.trans h0)
  exact {k3 with
   fresh:=(next_new hw).symm
   clean:=by
    show s.clean= _
    rw [hw,Bool.and_false];exact hc}
 ·obtain ⟨k3,k4,k5⟩:=k2 (by rcases h12 with e | e<;> (rw [e];rfl));have hf:=(ended_fresh hnx h12).1;rw [k5];exact line_sim k3 k4 hf hc rfl hn _
theorem plain_sim (h:R0 p b t s) (hn:Dj s.st=false) (ok:t.Ok) (hc:s.clean=false) (hp:t.rd.pend=false) (h6:t.st≠6) (c:UInt8) :
 RQ p b (t.inLine p b c).1 (s.plain p b c):=by
 have hn':¬Dj s.st=true:=by rw [hn];decide
 obtain ⟨n,hnx⟩:∃n,t.rd.clear.next c=n:=⟨_,rfl⟩;obtain ⟨k1,k2,k3⟩:=took_sim h hn ok hc c hnx;have h2:n≠2:=by rw [←hnx];exact nextM_is t.rd.clear c hp
 have his:=Ln.M.next_is t.rd.clear c;rw [hnx] at his;have h6':(t.st==6)=false:=beq_eq_false_iff_ne.2 h6;unfold T.inLine S.plain;simp only [if_neg hn',k1,hnx,h6',As,Au,if_false];rcases his with e | e | e | e | e
 ·subst e;exact k2 rfl
 ·subst e
  exact k3 (.inl rfl)
 ·exact absurd e h2
 ·subst e;exact ⟨rfl,by decide,h.out,rfl⟩
 ·subst e;obtain ⟨g1,g2⟩:=long_sim h;simp only [Int.reduceEq,if_false,if_true];rw [g1];exact ⟨rfl,g2,h.out,rfl⟩
theorem line_cnt (ln:List UInt8) :
 ((t.line p b ln).2.cnt=t.cnt∧(t.line p b ln).2.size=t.size∧((t.line p b ln).2.st=1→t.st=1)∧((t.line p b ln).2.st=2→t.st=1∨t.st=2))∨
 ((t.line p b ln).2.cnt=false∧(t.line p b ln).2.size=0∧(t.line p b ln).2.st=1∧t.st≠1):=by
 unfold T.line;by_cases h1:t.st=1
 ·left;simp only [if_pos h1];unfold T.first;split
  ·exact ⟨rfl,rfl,fun _=>h1,fun _=>.inl h1⟩
  ·simp only;split
   ·exact ⟨rfl,rfl,fun _=>h1,fun _=>.inl h1⟩
   ·exact ⟨rfl,rfl,fun _=>h1,fun _=>.inl h1⟩
 simp only [if_neg h1];by_cases h2:t.st=2
 ·simp only [if_pos h2];unfold T.fields;by_cases hs:ln= []
  ·simp only [if_pos hs];unfold T.endHead;generalize Frm.decideV (Frm.clOf p) b.ch b.x3 t.r.k t.r.fs=d;simp only;split
   ·exact .inl ⟨rfl,rfl,fun e=>absurd (h2.symm.trans e) (by decide),fun _=>.inr h2⟩
   ·split
    ·exact .inl ⟨rfl,rfl,fun e=>absurd e (by show (4:Nat)≠1;decide),fun _=>.inr h2⟩
    ·split
     ·exact .inr ⟨rfl,rfl,rfl,h1⟩
     ·exact .inl ⟨rfl,rfl,fun e=>absurd e (by show (3:Nat)≠1;decide),fun _=>.inr h2⟩
  ·simp only [if_neg hs];exact .inl ⟨by trivial,by trivial,fun e=>e,fun _=>.inr h2⟩
 simp only [if_neg h2];by_cases h4:t.st=4
 ·left;simp only [if_pos h4];unfold T.chunk;simp only;split
  ·exact ⟨rfl,rfl,fun e=>absurd (h4.symm.trans e) (by decide),fun e=>absurd (h4.symm.trans e) (by decide)⟩
  ·split
   ·exact ⟨rfl,rfl,fun e=>absurd e (by show (7:Nat)≠1;decide),fun e=>absurd e (by show (7:Nat)≠2;decide)⟩
   ·split
    ·exact ⟨rfl,rfl,fun e=>absurd (h4.symm.trans e) (by decide),fun e=>absurd (h4.symm.trans e) (by decide)⟩
    ·exact ⟨rfl,rfl,fun e=>absurd e (by show (5:Nat)≠1;decide),fun e=>absurd e (by show (5:Nat)≠2;decide)⟩
 simp only [if_neg h4];by_cases h7:t.st=7
 ·simp only [if_pos h7];unfold T.trail;by_cases hs:ln= []
  ·simp only [if_pos hs];exact .inr ⟨rfl,rfl,rfl,h1⟩
  ·simp only [if_neg hs];exact .inl ⟨by trivial,by trivial,fun e=>e,fun e=>absurd e h2⟩
 simp only [if_neg h7];exact .inl ⟨rfl,rfl,fun e=>absurd e (by show (4:Nat)≠1;decide),fun e=>absurd e (by show (4:Nat)≠2;decide)⟩
theorem R0.of_counted (h:R0 p b t s) (hc:t.cnt=false):R0 p b t.counted {s with head:=s.head+1,clean:=false}:=by
 have e:t.counted={t with cnt:=true,size:=t.size+1}:=by unfold T.counted;rw [hc];rfl
 rw [e];exact ⟨h.e,h.st,h.r,h.out,congrArg (·+1) h.head,h.hl,h.bl,h.bl0,h.left,h.rd,h.fr,h.lf,h.cr,h.most,h.beh,h.ch⟩
theorem R0.dirty (h:R0 p b t s):R0 p b t {s with clean:=false}:=⟨h.e,h.st,h.r,h.out,h.head,h.hl,h.bl,h.bl0,h.left,h.rd,h.fr,h.lf,h.cr,h.most,h.beh,h.ch⟩
theorem RQ.err {e:Nat} {o:List Dt} (h:RQ p b (.dead e o) s):s.e≠0:=by obtain ⟨h1,h2, -, -⟩:=h;rw [h1];exact h2
theorem look_count (h:R0 p b t s) (ok:t.Ok) (hb:b.right=true) (hc:t.cnt=false) (hh:Par.headed s.st=true) (hp:t.rd.pend=false) (h6:t.st≠6) (c:UInt8) :
 RQ p b (t.look p b c).1 (s.count b (fun s=>s.plain p b c)):=by
 have hbd:Dj s.st=false:=by
  unfold Par.headed at hh;unfold Dj;simp only [Ax,beq_iff_eq] at hh
  rcases hh with (e | e) | e<;> (rw [e];rfl)
 have hb':Pg.bodied t.st=false:=(bod h).trans hbd;have hh':Pg.headed t.st=true:=(hed h).trans hh;have h1:=h.of_counted hc;have esz:t.counted.size=s.head+1:=h1.head.symm;have eS:s.count b (fun s=>s.plain p b c)=if b.x2<((s.head+1:Nat):Int) then S.fail {s with head:=s.head+1} 431 else ({s with head:=s.head+1,clean:=false}:S).plain p b c:=by unfold S.count;rw [if_neg (fun hn=>hn h.e),if_pos hh]
 rw [eS];unfold T.look;rw [if_neg (by rw [hb'];decide),if_pos hh',esz]
 by_cases hx:b.x2<((s.head+1:Nat):Int)
 ·rw [if_pos hx,if_pos hx];exact ⟨rfl,by decide,h.out,rfl⟩
 ·rw [if_neg hx,if_neg hx]
  have hok:t.counted.Ok:=ok.counted hb (by rw [esz];exact hx);exact plain_sim h1 hbd hok rfl (by rw [counted_rd];exact hp) (by rw [counted_st];exact h6) c
theorem look_plain (h:R0 p b t s) (ok:t.Ok) (hh:Pg.headed t.st=true→t.cnt=true∧¬b.x2<(t.size:Int)) (hc:s.clean=false) (hp:t.rd.pend=false) (h6:t.st≠6) (c:UInt8) :
 RQ p b (t.look p b c).1 (s.plain p b c):=by
 unfold T.look;by_cases hbd:Dj s.st=true
 ·rw [if_pos ((bod h).trans hbd)];unfold S.plain;simp only [if_pos hbd];exact body_sim (s:={s with fresh:=false}) {h with} ok hc rfl hbd c
 ·have hb':Dj s.st=false:=by simpa using hbd
  rw [if_neg (by rw [bod h];exact hbd)];by_cases h2:Pg.headed t.st=true
  ·obtain ⟨e1,e2⟩:=hh h2;have e3:t.counted=t:=by unfold T.counted;rw [if_pos e1]
   rw [if_pos h2,e3,if_neg e2];exact plain_sim h hb' ok hc hp h6 c
  ·rw [if_neg h2];exact plain_sim h hb' ok hc hp h6 c
theorem again_sim {t1 t2:T} {s2:S} (h:RR p b t2 s2) (ok2:t2.Ok) (hb:b.right=true) (hp:t2.rd.pend=false) (h6:t2.st≠6) {was:Nat} (hw:t1.st=was+1)
 (hcnt:t1.cnt=Par.headed was) (hsz:Par.headed was=true→¬b.x2<(t1.size:Int)) {ln:List UInt8} (he:t1.line p b ln=(0,t2)) (c:UInt8) :
 RQ p b (t2.look p b c).1 (s2.again p b c was):=by
 have hl:=line_cnt (p:=p) (b:=b) (t:=t1) ln;rw [he] at hl;simp only at hl;have hst:=h.st;unfold D3;by_cases hA:s2.st=0∧was≠0
 ·rw [if_pos (by simp [hA.1,hA.2])];rcases hl with ⟨-, -,k, -⟩ | ⟨k, -, -, -⟩
  ·have:=k (by omega);omega
  ·exact look_count h.toR0 ok2 hb k (by rw [hA.1];rfl) hp h6 c
 ·rw [if_neg (by
   intro hh;rw [An,beq_iff_eq,Aw,beq_eq_false_iff_ne] at hh
   exact hA hh)]
  simp only;by_cases hB:Par.headed was=false∧s2.st=6
  ·rw [if_pos (by simp [hB.1,hB.2])];have k:t2.cnt=false:=by
    rcases hl with ⟨k, -, -, -⟩ | ⟨k, -, -, -⟩
    ·rw [k,hcnt];exact hB.1
    ·exact k
   exact look_count (s:={s2 with clean:=false}) h.toR0.dirty ok2 hb k (by show Par.headed s2.st=true;rw [hB.2];rfl) hp h6 c
  ·rw [if_neg (by
    intro hh;rw [An,beq_iff_eq,Aw] at hh
    exact hB hh)]
   refine look_plain h.toR0.dirty ok2 (fun hh=>?_) rfl hp h6 c;have hh2:Par.headed s2.st=true:=(hed h.toR0).symm.trans hh;have hwas:Par.headed was=true∧t2.cnt=t1.cnt∧t2.size=t1.size:=by
    rcases hl with ⟨k1,k2,k3,k4⟩ | ⟨-, -,k3,k4⟩
    ·refine ⟨?_,k1,k2⟩;unfold Par.headed at hh2;simp only [Ax,beq_iff_eq] at hh2;rcases hh2 with (e | e) | e
     ·have:=k3 (by omega);have:was=0:=by omega
      rw [this];rfl
     ·rcases k4 (by omega) with e1 | e1
      ·have:was=0:=by omega
       rw [this];rfl
      ·have:was=1:=by omega
       rw [this];rfl
     ·cases hw2:Par.headed was with
      | true=>rfl
      | false=>exact absurd ⟨hw2,e⟩ hB
    ·exact absurd ⟨by omega,by omega⟩ hA
   obtain ⟨g1,g2,g3⟩:=hwas;exact ⟨by rw [g2,hcnt];exact g1,by rw [g3];exact hsz g1⟩
theorem ends_cases {x:Nat × T} {q:Q} (h:ends x=q):(∃t2,x=(0,t2)∧q=.live t2)∨∃e o,q=.dead e o:=by
 unfold ends at h;split at h
 ·rename_i h0;exact .inl ⟨x.2,Prod.ext h0 rfl,h.symm⟩
 ·exact .inr ⟨_,_,h.symm⟩
theorem byte1_sim {t0:T} (h:R0 p b t0 s) (hn:Dj s.st=false) (ok:t0.Ok) (hb:b.right=true) (hc:s.clean=false) (hcnt:t0.cnt=Par.headed s.st) (hsz:Par.headed s.st=true→¬b.x2<(t0.size:Int)) (c:UInt8) :
 RQ p b (match t0.inLine p b c with
  |(.live t1,false)=>(t1.look p b c).1
  |(x,_)=>x) (s.byte1 p b c):=by
 have hn':¬Dj s.st=true:=by rw [hn];decide
 have hb0:Pg.bodied t0.st=false:=(bod h).trans hn;obtain ⟨n,hnx⟩:∃n,t0.rd.clear.next c=n:=⟨_,rfl⟩;obtain ⟨k1,k2,k3⟩:=took_sim h hn ok hc c hnx;have his:=Ln.M.next_is t0.rd.clear c;rw [hnx] at his;have e5:(t0.st==6)=(s.st==5):=by rw [Ar,beq_iff_eq,beq_iff_eq,h.st];omega
 have hag:∀t',t0.inLine p b c=(.live t',false)→t'.rd.pend=false∧t'.st≠6:=fun t'=>inLine_again hb0 c
 have hok:∀t' u,t0.inLine p b c=(.live t',u)→t'.Ok:=fun t' u e=>ok.inLine hb c (by rw [e]);unfold S.byte1;simp only [if_neg hn',k1];unfold T.inLine at hag hok ⊢;simp only [hnx,e5] at hag hok ⊢;rcases his with e | e | e | e | e
 ·subst e;exact k2 rfl
 ·subst e;simp only [Int.reduceEq,if_false,Int.reduceBEq,Bool.not_false] at hag hok ⊢
  have k4:=k3 (.inl rfl);generalize ends (T.line p b {t0 with rd:=t0.rd.byte c} (t0.rd.byte c).line)=q at k4 ⊢;cases q<;>exact k4
 ·subst e
  have k4:=k3 (.inr rfl);simp only [Int.reduceEq,if_false,if_true,BEq.rfl,Bool.not_true] at hag hok ⊢;generalize hq:ends (T.line p b {t0 with rd:=t0.rd.byte c} (t0.rd.byte c).line)=q at hag hok k4 ⊢;generalize hs2:S.ended p b {s with fresh:=false,rd:=s.rd.byte c} (s.rd.byte c).L=s2 at k4 ⊢;rcases ends_cases hq with ⟨t2,g1,rfl⟩ | ⟨e,o,rfl⟩
  ·have k5:RR p b t2 s2:=k4;simp only;rw [if_pos k5.e];obtain ⟨g2,g3⟩:=hag t2 rfl;exact again_sim k5 (hok t2 false rfl) hb g2 g3 (t1:={t0 with rd:=t0.rd.byte c}) h.st hcnt hsz g1 c
  ·simp only;rw [if_neg k4.err];exact k4
 ·subst e;exact ⟨rfl,by decide,h.out,rfl⟩
 ·subst e;obtain ⟨g1,g2⟩:=long_sim h;simp only [Int.reduceEq,if_false,if_true] at hag hok ⊢;by_cases hce:(s.st==5&&Do p 29)=true
  ·simp only [if_pos hce] at hag hok ⊢;have hs5:s.st=5:=by
    rw [An,beq_iff_eq] at hce;exact hce.1
   obtain ⟨g3,g4⟩:=hag _ rfl;have he:=enter_sim (t:=t0) (s:={s with fresh:=false}) {h with} hs5;exact look_plain he (hok _ _ rfl) (fun hh=>absurd hh (by show Pg.headed 4≠true;decide)) hc g3 g4 c
  ·simp only [if_neg hce];rw [g1];exact ⟨rfl,g2,h.out,rfl⟩
theorem take_sim (h:RR p b t s) (ok:t.Ok) (hb:b.right=true) (c:UInt8):RQ p b (t.take p b c) (s.byte p b c):=by
 have h0:R0 p b ({t with cnt:=false}:T) {s with clean:=false}:=⟨h.e,h.st,h.r,h.out,h.head,h.hl,h.bl,h.bl0,h.left,h.rd,h.fr,h.lf,h.cr,h.most,h.beh,h.ch⟩;have ok0:({t with cnt:=false}:T).Ok:=ok.cleared;unfold T.take S.byte S.count;rw [if_neg (fun hn=>hn h.e)];unfold T.look;have hbe:Pg.bodied ({t with cnt:=false}:T).st=Dj s.st:=bod (t:=t) h.toR0;have hhe:Pg.headed ({t with cnt:=false}:T).st=Par.headed s.st:=hed (t:=t) h.toR0;rw [hbe,hhe];by_cases hbd:Dj s.st=true
 ·have hnh:¬Par.headed s.st=true:=by
   unfold Dj at hbd;unfold Par.headed;simp only [Ax,beq_iff_eq] at hbd ⊢;omega
  rw [if_pos hbd,if_neg hnh];have e1:({s with clean:=false}:S).byte1 p b c=({s with fresh:=false,clean:=false}:S).bodyB p b c:=by unfold S.byte1;simp only [if_pos hbd]
  simp only [e1];exact body_sim (s:={s with fresh:=false,clean:=false}) {h0 with} ok0 rfl rfl hbd c
 ·have hbd':Dj s.st=false:=by simpa using hbd
  rw [if_neg hbd];by_cases hh:Par.headed s.st=true
  ·rw [if_pos hh,if_pos hh];have h1:R0 p b ({t with cnt:=false}:T).counted {s with head:=s.head+1,clean:=false}:=h0.of_counted rfl;have esz:({t with cnt:=false}:T).counted.size=s.head+1:=h1.head.symm;rw [esz]
   by_cases hx:b.x2<((s.head+1:Nat):Int)
   ·rw [if_pos hx,if_pos hx];exact ⟨rfl,by decide,h.out,rfl⟩
   ·rw [if_neg hx,if_neg hx]
    have hok:=ok0.counted hb (by rw [esz];exact hx);exact byte1_sim h1 hbd' hok hb rfl hh.symm (fun _=>by rw [esz];exact hx) c
  ·rw [if_neg hh,if_neg hh];have hh':Par.headed s.st=false:=by simpa using hh
   exact byte1_sim h0 hbd' ok0 hb rfl hh'.symm (fun e=>absurd e hh) c
def Q.Fine (b:Bd):Q→Prop
 | .live t=>t.Ok∧b.right=true
 | .dead _ _=>True
theorem Q.Fine.byte {x:Q} (h:x.Fine b) (c:UInt8):(x.byte p b c).Fine b:=by
 cases x with
 | live t=>
   show (t.take p b c).Fine b;cases hq:t.take p b c with
   | live t'=>exact ⟨h.1.take h.2 c hq,h.2⟩
   | dead e o=>trivial
 | dead e o=>trivial
theorem byte_sim {x:Q} (h:RQ p b x s) (ok:x.Fine b) (c:UInt8):RQ p b (x.byte p b c) (s.byte p b c):=by
 cases x with
 | live t=>exact take_sim h ok.1 ok.2 c
 | dead e o=>
   rw [S.byte_dead h.err];exact h
theorem feed_sim (l:List UInt8):∀{x:Q} {s:S},RQ p b x s→x.Fine b→RQ p b (x.feed p b l) (s.feed p b l)∧(x.feed p b l).Fine b:=by
 induction l with
 | nil=>intro x s h ok;exact ⟨h,ok⟩
 | cons c l ih=>intro x s h ok;exact ih (byte_sim h ok c) (ok.byte c)
theorem new_sim:RQ p b (Q.new p b) (S.new p b):=by
 unfold Q.new S.new;by_cases h:(b.right&&decide (p<1073741824))=true
 ·rw [if_pos h,if_pos h]
  exact {
   e:=rfl
   st:=rfl
   r:=rfl
   out:=rfl
   head:=rfl
   hl:=fun _=>rfl
   bl:=fun e=>absurd e (by show (0:Nat)≠6;decide)
   bl0:=fun _=>rfl
   left:=fun e=>absurd e (by show Dj 0≠true;decide)
   rd:=fun _=>⟨rfl,rfl,rfl,rfl,rfl,rfl⟩
   fr:=fun e=>absurd e (by show Dj 0≠true;decide)
   lf:=rfl
   cr:=rfl
   most:=fun _=>rfl
   beh:=fun e=>absurd e (by show (0:Nat)≠5;decide)
   ch:=rfl
   fresh:=rfl
   clean:=rfl}
 ·rw [if_neg h,if_neg h];exact ⟨rfl,by decide,rfl,rfl⟩
theorem said_sim {x:Q} (h:RQ p b x s) (ok:x.Fine b):s.e=x.err∧s.out=x.out∧s.waits=x.waits∧s.held=x.held∧s.clean=x.clean:=by
 cases x with
 | live t=>
   refine ⟨h.e,h.out,?_,?_,h.clean⟩
   ·show (decide (s.e=0)&&(s.fresh&&Rec.expects s.r))=(t.next&&Rec.expects t.r);rw [h.e,h.fresh,h.r];rfl
   ·show (if s.e=0 then Rec.size s.r+(if Dj s.st=true then 0 else s.rd.B.length) else 0)=t.rd.len+Rec.size t.r;rw [if_pos h.e,h.r];by_cases hb:Dj s.st=true
    ·rw [if_pos hb];have:=(h.fr hb).isNew;unfold T.isNew at this;rw [An,decide_eq_true_eq] at this;rw [this.1];omega
    ·rw [if_neg hb];have h1:=(h.rd (by simpa using hb)).B;have:s.rd.B.length=t.rd.len:=by
      rw [h1];unfold Ln.M.len;split<;>rfl
     omega
 | dead e o=>
   obtain ⟨h1,h2,h3,h4⟩:=h;refine ⟨h1,h3,?_,?_,h4⟩
   ·show (decide (s.e=0) && _)=false;rw [decide_eq_false (by rw [h1];exact h2),As]
   ·show (if s.e=0 then _ else 0)=0;rw [if_neg (by rw [h1];exact h2)]
theorem told_sim {x:Q} (h:RQ p b x s):RQ p b x.told {s with out:= []}:=by
 cases x with
 | live t=>exact ⟨⟨h.e,h.st,h.r,rfl,h.head,h.hl,h.bl,h.bl0,h.left,h.rd,h.fr,h.lf,h.cr,h.most,h.beh,h.ch⟩,h.fresh,h.clean⟩
 | dead e o=>
   obtain ⟨h1,h2, -,h4⟩:=h;exact ⟨h1,h2,rfl,h4⟩
theorem told_fine {x:Q} (h:x.Fine b):x.told.Fine b:=by
 cases x with
 | live t=>exact ⟨⟨h.1.rd,h.1.nf,h.1.st,h.1.hl,h.1.bl,h.1.fsl,h.1.tsl,h.1.fss,h.1.tss,h.1.m,h.1.x,h.1.body,h.1.left,h.1.early,h.1.size⟩,h.2⟩
 | dead e o=>trivial
end
end Go.Proofs.YtldhlecknfomjaaGreatDoor.Pg
namespace Go.Proofs.YtldhlecknfomjaaGreatDoor.Par
open Go.RowKit Base Txt Mem
section
variable {p:Nat} {b:Bd} {x:Pg.T} {s:S}
theorem fits_of (h:Pg.R0 p b x s) (ok:x.Ok) (ho:s.out.length≤1000000000):Fits s:=by
 have k1:=ok.hl;have k2:=ok.bl;have k3:=ok.fsl;have k4:=ok.tsl;have k5:=ok.body;refine ⟨fun e=>?_,fun y hy=>?_,?_,fun y hy=>?_,?_,?_,ho⟩
 ·rcases e with e | e
  ·rw [h.hl (by omega)];omega
  ·rw [h.bl e];omega
 ·rw [h.r] at hy;have:=ok.fss y hy;omega
 ·rw [h.r];omega
 ·rw [h.r] at hy;have:=ok.tss y hy;omega
 ·rw [h.r];omega
 ·rw [h.r];omega
theorem lineOk_of (h:Pg.R0 p b x s) (ok:x.Ok) (hn:bodied s.st=false):LineOk p s.rd:=by
 have r:=h.rd hn;have h1:=ok.rd.len;have h2:=ok.rd.most;refine ⟨r.lf.trans h.lf,r.cr.trans h.cr,by rw [r.most];exact h2,?_⟩;rw [r.B,r.most];split
 ·exact CX _
 ·exact h1
theorem lined_of (h:Pg.R0 p b x s) (ok:x.Ok) (hn:bodied s.st=false):lined s.st:=by
 have h7:=ok.st;have ht:=h.st;have hn2:s.st≠2∧s.st≠4:=by constructor<;> (intro e;rw [e] at hn;exact absurd hn (by decide))
 unfold lined;omega
theorem plainOk_of (h:Pg.R0 p b x s) (ok:x.Ok) (hp:x.rd.pend=false) (h6:x.st≠6) (ho:s.out.length≤1000000000) (c:UInt8):PlainOk p s c:=by
 have h7:=ok.st;have ht:=h.st;refine ⟨h.e,fits_of h ok ho,?_,fun hb=>?_,fun hl=>?_⟩
 ·unfold lined;omega
 ·have h1:=h.left hb;have h2:=ok.left (by rw [Pg.bod h];exact hb);have h3:=ok.body;omega
 ·have hn:bodied s.st=false:=by rcases hl with e | e | e | e | e<;>rw [e]<;>rfl
  exact ⟨lineOk_of h ok hn,(h.rd hn).CR.trans hp,fun e=>absurd (ht.trans (by rw [e])) h6⟩
theorem ended_ok (h:Pg.R0 p b x s) (ok:x.Ok) (hb:b.right=true) (hn:bodied s.st=false) (hc:s.clean=false) (ho:s.out.length≤999999998) (c:UInt8) (h2:s.rd.how c=2)
 (he:(S.ended p b {s with fresh:=false,rd:=s.rd.byte c} (s.rd.byte c).L).e=0) :
 PlainOk p (S.ended p b {s with fresh:=false,rd:=s.rd.byte c} (s.rd.byte c).L) c∧(S.ended p b {s with fresh:=false,rd:=s.rd.byte c} (s.rd.byte c).L).head≤1000000:=by
 obtain ⟨n,hnx⟩:∃n,x.rd.clear.next c=n:=⟨_,rfl⟩;obtain ⟨k1, -,k3⟩:=Pg.took_sim h hn ok hc c hnx;have e2:n=2:=k1.symm.trans h2;subst e2
 have k4:=k3 (.inr rfl);have hb0:Pg.bodied x.st=false:=(Pg.bod h).trans hn;generalize hs2:S.ended p b {s with fresh:=false,rd:=s.rd.byte c} (s.rd.byte c).L=s2 at k4 he ⊢;generalize hq:Pg.ends (Pg.T.line p b {x with rd:=x.rd.byte c} (x.rd.byte c).line)=y at k4;rcases Pg.ends_cases hq with ⟨t2,g1,rfl⟩ | ⟨e,o,rfl⟩
 ·have k5:Pg.RR p b t2 s2:=k4;have hin:x.inLine p b c=(.live t2,false):=by
   unfold Pg.T.inLine;simp only [hnx,Int.reduceEq,if_false,BEq.rfl,Bool.not_true];rw [hq]
  have ok2:t2.Ok:=ok.inLine hb c (by rw [hin]);obtain ⟨g2,g3⟩:=Pg.inLine_again hb0 c hin;have hout:=Pg.inLine_out (p:=p) (b:=b) x c;rw [hin] at hout;have ho2:s2.out.length≤1000000000:=by rw [k5.out];have h1:t2.out.length≤x.out.length+1:=hout;rw [←h.out] at h1;omega
  exact ⟨plainOk_of k5.toR0 ok2 g2 g3 ho2 c,by rw [k5.head];have:=ok2.size;omega⟩
 ·exact absurd he k4.err
end
section code
set_option maxHeartbeats 4000000
variable {w:World} {B:Zone} {g q:Nat} {v f bd t o:Value} {p:Nat} {b:Bd} {s:S} {x:Pg.T}
theorem byte1_any (hp:p<4294967296) (hb:b.right=true) (c:UInt8) (h:PR w B g q v f bd t o p b s) (h0:Pg.R0 p b x s) (ok:x.Ok) (hc:s.clean=false) (ho:s.out.length≤999999998) :
 Calls EG 140 #[ptr g,.int .u8 (c.toNat:Int)] w fun r w'=>r=.returned (.tuple #[])∧∃q1 v1 f1 bd1 t1 o1,PR w' B g q1 v1 f1 bd1 t1 o1 p b (s.byte1 p b c)∧Step (blks g q v f bd t o) (blks g q1 v1 f1 bd1 t1 o1) w w':=by
 obtain ⟨-, -, -,h3,h4, -⟩:=Pg.Bd.edges hb
 have hf:=fits_of h0 ok (by omega);by_cases hbd:bodied s.st=true
 ·have hst:s.st=2∨s.st=4:=by
   unfold bodied at hbd;simpa using hbd
  have e:s.byte1 p b c=S.bodyB p b {s with fresh:=false} c:=by unfold S.byte1;simp [hbd]
  rw [e];have h1:=h0.left hbd;have h2:=ok.left (by rw [Pg.bod h0];exact hbd);have h5:=ok.body;exact body_any c h hst ⟨by omega,by omega⟩ hf.body hf.out
 ·have hn:bodied s.st=false:=by simpa using hbd
  refine byte_any hp h3 h4.1 c h (lined_of h0 ok hn) h0.e hf (lineOk_of h0 ok hn) (fun h5 _ _=>?_) (fun h2 he=>ended_ok h0 ok hb hn hc ho c h2 he);have he:=Pg.enter_sim (t:=x) (s:={s with fresh:=false}) {h0 with} h5;exact plainOk_of he (ok.enter (.inl rfl) b.x0) rfl (by show (4:Nat)≠6;decide) (by show s.out.length≤_;omega) c
theorem byteS_any (hp:p<4294967296) (hb:b.right=true) (c:UInt8) (h:PR w B g q v f bd t o p b s) (hr:Pg.RR p b x s) (ok:x.Ok) (ho:s.out.length≤999999998) :
 Calls EG 97 #[ptr g,.int .u8 (c.toNat:Int)] w fun r w'=>r=.returned (.tuple #[])∧∃q1 v1 f1 bd1 t1 o1,PR w' B g q1 v1 f1 bd1 t1 o1 p b (s.byte p b c)∧Step (blks g q v f bd t o) (blks g q1 v1 f1 bd1 t1 o1) w w':=by
 have h0:Pg.R0 p b ({x with cnt:=false}:Pg.T) {s with clean:=false}:=⟨hr.e,hr.st,hr.r,hr.out,hr.head,hr.hl,hr.bl,hr.bl0,hr.left,hr.rd,hr.fr,hr.lf,hr.cr,hr.most,hr.beh,hr.ch⟩;have ok0:({x with cnt:=false}:Pg.T).Ok:=ok.cleared;refine count_any c (fun s=>s.byte1 p b c) h hr.e (by rw [hr.head];have:=ok.size;omega) fun w2 s2 hs h2=>?_;rcases hs with ⟨hh,rfl,hx⟩ | ⟨hh,rfl⟩
 ·have h1:Pg.R0 p b ({x with cnt:=false}:Pg.T).counted {s with head:=s.head+1,clean:=false}:=h0.of_counted rfl;have esz:({x with cnt:=false}:Pg.T).counted.size=s.head+1:=h1.head.symm;exact byte1_any hp hb c h2 h1 (ok0.counted hb (by rw [esz];exact hx)) rfl ho
 ·exact byte1_any hp hb c h2 h0 ok0 rfl ho
end code
end Go.Proofs.YtldhlecknfomjaaGreatDoor.Par
namespace Go.Proofs.YtldhlecknfomjaaGreatDoor.Each
open Go.RowKit Base Mem Par
structure Thing (A A':World→List (Option Nat)→Prop):Prop where
 keeps:∀{w w':World} {L M:List (Option Nat)},A w L→Keeps M w w'→(∀k,some k∈L→some k∉M)→A w' L
 keeps':∀{w w':World} {L M:List (Option Nat)},A' w L→Keeps M w w'→(∀k,some k∈L→some k∉M)→A' w' L
 inn:∀{w:World} {L:List (Option Nat)},A w L→In w L
 inn':∀{w:World} {L:List (Option Nat)},A' w L→In w L
 uniq:∀{w:World} {L L':List (Option Nat)},(A w L∨A' w L)→(A w L'∨A' w L')→L=L'
def Dis (L M:List (Option Nat)):Prop:=∀k,some k∈L→some k∉M
section
variable {P:Program} {l:List Oper} {Q:Exit→Act→World→Prop} {fs:List Fact} {a0:Act} {ds:List Nat}
variable (A A' C C':World→List (Option Nat)→Prop) (L1 L2:List (Option Nat)) (i1 i2:Nat) (W:World)
structure Two (b:Array Bool) (w:World):Prop where
 keeps:Keeps (L1++L2) W w
 both:∃M1 M2,(A' w M1∧b.getD i1 false=true∨A w M1∧M1=L1)∧(C' w M2∧b.getD i2 false=true∨C w M2∧M2=L2)∧Dis M1 M2∧Of W L1 M1∧Of W L2 M2
def RTwo (k:Nat) (w w':World):Prop:=
 if k=i1 then w'=w∨∃M1,A' w' M1∧Step L1 M1 w w' else if k=i2 then w'=w∨∃M2,C' w' M2∧Step L2 M2 w w' else Below w.heap.size w w'
variable {A A' C C' L1 L2 i1 i2 W}
def waits (l:List Oper) (k j:Nat):Bool:=match l[k]? with
 | some o=>o.after.toList.any fun e=>Dw .any e&&e.on==j
 | none=>false
def LastsTwo (l:List Oper) (A' C':World→List (Option Nat)→Prop) (L1 L2:List (Option Nat)) (i1 i2 k:Nat) (f:Fact):Prop:=
 (∀v w w',Below w.heap.size w w'→f v w→f v w')∧(k≠i1→waits l k i1=false→∀v w w' M1,A' w' M1→Step L1 M1 w w'→f v w→f v w')∧(k≠i2→waits l k i2=false→∀v w w' M2,C' w' M2→Step L2 M2 w w'→f v w→f v w')
def EveryTwo (l:List Oper) (A' C':World→List (Option Nat)→Prop) (L1 L2:List (Option Nat)) (i1 i2:Nat):Nat→List Fact→Prop
 | _,[]=>True
 | k,f::fs=>LastsTwo l A' C' L1 L2 i1 i2 k f∧EveryTwo l A' C' L1 L2 i1 i2 (k+1) fs
def AllTwo (P:Program) (l:List Oper) (fs:List Fact) (R:Nat→World→World→Prop) (K:Array Bool→World→Prop) (a0:Act) (ds:List Nat):Nat→List Oper→List Fact→Prop
 | k,o::os,f::gs=>FineR P l fs R K a0 ds k o f∧AllTwo P l fs R K a0 ds (k+1) os gs
 | _,_,_=>True
end
end Go.Proofs.YtldhlecknfomjaaGreatDoor.Each
namespace Go.Proofs.YtldhlecknfomjaaGreatDoor.Pg
open Go.RowKit Base Txt Mem Par Each
section
variable {w w':World} {B:Zone} {g q:Nat} {v f bd t o:Value} {p:Nat} {b:Bd} {L M:List (Option Nat)} {x:Q} {rd:Ln.M} {fs ts:List Fld} {body:List UInt8}
end
end Go.Proofs.YtldhlecknfomjaaGreatDoor.Pg
namespace Go.Proofs.YtldhlecknfomjaaGreatDoor.Par
open Go.RowKit Base Txt Mem Each
abbrev ncells (p:Nat) (b:Bd) (cl:Bool) (e:Nat):List Value:=
 [.int .u32 (p:Int),.int .i64 b.x0,.int .i64 b.x1,.int .i64 b.x2,.int .i64 b.x3,.int .i64 b.x4,.int .i64 b.x5,.int .i64 b.x6,.int .i64 b.x7,.bool b.ch,.bool b.od,.int .i64 0,.pointer none,
   .string E0,.string E0,.int .i64 0,nil,.bool false,nil,nil,.int .i64 0,.int .i64 0,.int .i64 0,.bool false,.bool cl,.int .i64 (e:Int),nil]
structure Bad (w:World) (B:Zone) (g p:Nat) (b:Bd) (s:S):Prop where
 row:w.heap[g]?=some (.cells (ncells p b false 20).toArray 78 (0,0))
 e:s.e=20
 clean:s.clean=false
 out:s.out= []
 ge:B≤g
 zone:Clear w B.z [some g]
structure Rest (w:World) (B:Zone) (g q:Nat) (v f bd t:Value) (p:Nat) (b:Bd) (s:S):Prop where
 row:∃o,w.heap[g]?=some (.cells (pcells p b s q f bd t o).toArray 78 (0,0))
 own:Own w B g q v f bd t nil p s.rd s.r.fs s.r.body s.r.ts []
def Run (w:World) (B:Zone) (g p:Nat) (b:Bd) (L:List (Option Nat)) (s:S):Prop:=
 (∃q v f bd t o,L=blks g q v f bd t o∧PR w B g q v f bd t o p b s)∨(L= [some g]∧Bad w B g p b s)
def DAt (w:World) (B:Zone) (g p:Nat) (b:Bd) (L:List (Option Nat)) (s:S):Prop:=
 (∃q v f bd t,L=blks g q v f bd t nil∧Rest w B g q v f bd t p b s)∨(L= [some g]∧Bad w B g p b s)
def DQ (w:World) (B:Zone) (g p:Nat) (b:Bd) (L:List (Option Nat)) (x:Pg.Q):Prop:=∃s,Pg.RQ p b x s∧x.Fine b∧DAt w B g p b L s
theorem fine_of {b:Bd} {x:Pg.Q} (h:x.Ok b):x.Fine b:=by cases x<;>exact h
section
variable {w w':World} {B:Zone} {g q:Nat} {v f bd t o:Value} {p:Nat} {b:Bd} {L M:List (Option Nat)} {s:S} {x:Pg.Q} {rd:Ln.R} {fs ts:List Fld} {body:List UInt8} {out:List Dt}
theorem Own.less (h:Own w B g q v f bd t o p rd fs body ts out):Own w B g q v f bd t nil p rd fs body ts []:=by
 have e:blks g q v f bd t nil=(blks g q v f bd t o).set 6 none:=rfl;refine ⟨h.R,h.F,h.D,h.T,⟨[],rfl,(by intro x hx;cases hx),FD _ _ _ _⟩,?_,h.ge,h.lt,h.zone.of (CQ _) (by rw [e];exact Of.set 6 none (.inl rfl))⟩;rw [e]
 exact h.lone.set h.in 6 none (.inl rfl)
theorem Run.tell (h:Run w B g p b L s):∃o L',w.cell? ⟨g,26,none⟩=some o∧DAt w B g p b L' s∧Pg.Told L' B w o s.out∧Step L L' w w:=by
 rcases h with ⟨q,v,f,bd,t,o,rfl,h⟩ | ⟨rfl,h⟩
 ·have hsub:∀k,some k∈blks g q v f bd t nil→some k∈blks g q v f bd t o:=fun k hk=>by
   exact XX5KD
  refine ⟨o,blks g q v f bd t nil,h.cs.c26,.inl ⟨q,v,f,bd,t,rfl,⟨o,h.row⟩,h.own.less⟩,⟨Pg.Outs.less h.own.O (fun k hk=>.inl (hsub k hk)),fun k e=>⟨fun hm=>?_,?_⟩,fun k e=>h.own.zone.off k (Cz (i:=6) (by rw [←e];rfl))⟩,⟨Keeps.refl,fun k hk=>.inl (hsub k hk)⟩⟩
  ·exact XXTkD
  ·exact h.own.in k (Cz (i:=6) (by rw [←e];rfl))
 ·exact ⟨nil,[some g],row_cellL h.row rfl,.inr ⟨rfl,h⟩,by rw [h.out];exact ⟨⟨[],rfl,(by intro x hx;cases hx),FD _ _ _ _⟩,(fun k e=>by cases e),(fun k e=>by cases e)⟩,Step.refl⟩
theorem DAt.start (h:DAt w B g p b L s) (ho:s.out= []):w.frozen? ⟨g,26,none⟩=false∧(∃o,w.cell? ⟨g,26,none⟩=some o)∧Run (w.setCell ⟨g,26,none⟩ nil) B g p b L s∧Step L L w (w.setCell ⟨g,26,none⟩ nil):=by
 rcases h with ⟨q,v,f,bd,t,rfl,⟨o,hrow⟩,hown⟩ | ⟨rfl,h⟩
 ·refine ⟨CL hrow 26,⟨o,row_cellL hrow rfl⟩,.inl ⟨q,v,f,bd,t,nil,rfl,row_setL hrow 26 nil,?_⟩,DB g 26 nil (by simp)⟩;rw [ho];exact hown.set 26 nil
 ·exact ⟨CL h.row 26,⟨_,row_cellL h.row rfl⟩,.inr ⟨rfl,row_setL h.row 26 nil,h.e,h.clean,h.out,h.ge,h.zone.of (by simp) De⟩,DB g 26 nil (by simp)⟩
theorem Own.keepsD (h:Own w B g q v f bd t nil p rd fs body ts []) (hk:Keeps M w w') (hd:Dis (blks g q v f bd t nil) M):Own w' B g q v f bd t nil p rd fs body ts []:=
 ⟨⟨hk.row h.R.row (hd q (by simp)),hk.own h.R.own fun k e=>hd k (by simp [←e]),h.R.ge,h.R.ne⟩,hk.own h.F fun k e=>hd k (by simp [←e]),hk.own h.D fun k e=>hd k (by simp [←e]),hk.own h.T fun k e=>hd k (by simp [←e]),
   ⟨[],rfl,(by intro x hx;cases hx),FD _ _ _ _⟩,h.lone,h.ge,CU h.lt hk.size,h.zone.of hk.size De⟩
theorem DAt.keeps (h:DAt w B g p b L s) (hk:Keeps M w w') (hd:Dis L M):DAt w' B g p b L s:=by
 rcases h with ⟨q,v,f,bd,t,rfl,⟨o,hrow⟩,hown⟩ | ⟨rfl,h⟩
 ·exact .inl ⟨q,v,f,bd,t,rfl,⟨o,hk.row hrow (hd g (by simp))⟩,hown.keepsD hk hd⟩
 ·exact .inr ⟨rfl,hk.row h.row (hd g (by simp)),h.e,h.clean,h.out,h.ge,h.zone.of hk.size De⟩
theorem DAt.in (h:DAt w B g p b L s):In w L:=by
 rcases h with ⟨q,v,f,bd,t,rfl, -,hown⟩ | ⟨rfl,h⟩
 ·exact hown.in
 ·intro k hk;obtain rfl:k=g:=by simpa using hk
  exact Ln.row_lt h.row
theorem DAt.low (h:DAt w B g p b L s):∀k,some k∈L→B≤k:=by
 rcases h with ⟨q,v,f,bd,t,rfl, -,hown⟩ | ⟨rfl,h⟩
 ·exact hown.low
 ·intro k hk;obtain rfl:k=g:=by simpa using hk
  exact h.ge
theorem DQ.keeps (h:DQ w B g p b L x) (hk:Keeps M w w') (hd:Dis L M):DQ w' B g p b L x:=by obtain ⟨s,h1,h2,h3⟩:=h;exact ⟨s,h1,h2,h3.keeps hk hd⟩
theorem DQ.below (h:DQ w B g p b L x) (hb:Below w.heap.size w w'):DQ w' B g p b L x:=h.keeps (M:= []) (Keeps.of_below hb) (fun k _ hk=>by cases hk)
theorem DQ.in (h:DQ w B g p b L x):In w L:=by obtain ⟨_,_,_,h3⟩:=h;exact h3.in
theorem DQ.low (h:DQ w B g p b L x):∀k,some k∈L→B≤k:=by obtain ⟨_,_,_,h3⟩:=h;exact h3.low
end
section code
set_option maxHeartbeats 4000000
set_option maxRecDepth 20000
attribute [local go_sem] Al
variable {w:World} {B:Zone} {g q:Nat} {v f bd t o:Value} {p:Nat} {b:Bd} {s:S} {x:Pg.Q} {L:List (Option Nat)}
theorem byteDead_any (c:UInt8) {e:Nat} (he:e≠0) (c25:w.cell? ⟨g,25,none⟩=some (.int .i64 (e:Int))) :
 Calls EG 97 #[ptr g,.int .u8 (c.toNat:Int)] w fun r w'=>r=.returned (.tuple #[])∧w'=w:=by
 have t5:((e:Int)==0)=false:=beq_eq_false_iff_ne.2 (by omega);have n5:¬(e:Int)=0:=by omega
 go_enter Tryz.func97,Tryz.ntmps97;go_wp2;first | go_end0 | refine bodyPost_ret (results_none rfl _ _ _) rfl ?_
 exact ⟨rfl,rfl⟩
theorem byteRun_any (hp:p<4294967296) (c:UInt8) (h:Run w B g p b L s) (hr:Pg.RQ p b x s) (ok:x.Fine b) (ho:s.out.length≤999999998) :
 Calls EG 97 #[ptr g,.int .u8 (c.toNat:Int)] w fun r w'=>r=.returned (.tuple #[])∧∃L',Run w' B g p b L' (s.byte p b c)∧Step L L' w w':=by
 cases x with
 | live y=>
   obtain ⟨ok1,ok2⟩:=ok;have hr:Pg.RR p b y s:=hr;rcases h with ⟨q,v,f,bd,t,o,rfl,h⟩ | ⟨rfl,h⟩
   ·refine (byteS_any hp ok2 c h hr ok1 ho).mono ?_;rintro r w' ⟨rfl,q1,v1,f1,bd1,t1,o1,hP,hS⟩;exact ⟨rfl,_,.inl ⟨q1,v1,f1,bd1,t1,o1,rfl,hP⟩,hS⟩
   ·exact absurd (hr.e.symm.trans h.e) (by decide)
 | dead e o=>
   have he:=hr.err;rw [S.byte_dead he];have key:∀c25:w.cell? ⟨g,25,none⟩=some (.int .i64 (s.e:Int)),Calls EG 97 #[ptr g,.int .u8 (c.toNat:Int)] w fun r w'=>r=.returned (.tuple #[])∧∃L',Run w' B g p b L' s∧Step L L' w w':=by intro c25;refine (byteDead_any c he c25).mono ?_;rintro r w' ⟨rfl,rfl⟩;exact ⟨rfl,L,h,Step.refl⟩
   rcases h with ⟨q,v,f,bd,t,o,rfl,h1⟩ | ⟨rfl,h1⟩
   ·exact key h1.cs.c25
   ·exact key (by rw [h1.e];exact row_cellL h1.row rfl)
end code
end Go.Proofs.YtldhlecknfomjaaGreatDoor.Par
namespace Go.Proofs.YtldhlecknfomjaaGreatDoor.Rec
open Go.RowKit Base Txt
section code
set_option maxHeartbeats 1000000
attribute [local go_sem] Al
theorem XXgmR {P:Prop} (h:P:=by
 go_enter Tryz.func64,Tryz.ntmps64;go_upto_region 1 with fail
 generalize (w.alloc (.cells #[.string r.m,.string r.x,.int .i64 r.k,.slice fa r.fs.length fc,.bool r.ch,.slice ba r.body.length bc,.slice ta r.ts.length tc] 25)).alloc (.cells #[.string r'.m,.string r'.x,.int .i64 r'.k,.slice fa' r'.fs.length fc',.bool r'.ch,.slice ba' r'.body.length bc',.slice ta' r'.ts.length tc'] 25)=W at *;have hA0:=HA.out;have hB0:=HB.out;have q0:=hA0.c 0 _ rfl;have y0:=hB0.c 0 _ rfl;have q1:=hA0.c 1 _ rfl;have y1:=hB0.c 1 _ rfl;have q2:=hA0.c 2 _ rfl;have y2:=hB0.c 2 _ rfl;have q3:=hA0.c 3 _ rfl;have y3:=hB0.c 3 _ rfl;have q4:=hA0.c 4 _ rfl;have y4:=hB0.c 4 _ rfl;have q5:=hA0.c 5 _ rfl;have y5:=hB0.c 5 _ rfl;have q6:=hA0.c 6 _ rfl;have y6:=hB0.c 6 _ rfl;clear hA0 hB0
 go_wp2_with (go_at_call 24;with_reducible refine (HF1.out _ HB0.out).mono ?_;rintro e w1 ⟨rfl,n1,hw1⟩
              have hb1:Below W.heap.size W w1:=by rw [hw1];exact Aj (Am _ _) n1
              have HB1:=Bo (Ak HB0.out hb1);have hA1:=HA.out.below hb1;have hB1:=HB.out.below hb1;have q3:=hA1.c 3 _ rfl;have y3:=hB1.c 3 _ rfl;have q4:=hA1.c 4 _ rfl;have y4:=hB1.c 4 _ rfl;have q5:=hA1.c 5 _ rfl;have y5:=hB1.c 5 _ rfl;have q6:=hA1.c 6 _ rfl;have y6:=hB1.c 6 _ rfl;have cv:=conv_str w1 _ _ bc _ (H2.out.below HB1.out);have cv':=conv_str w1 _ _ bc' _ (H2'.out.below HB1.out);clear hA1 hB1 hb1 hw1)
 go_ret
 exact ⟨rfl,HB1.out⟩):P:=h
theorem XX8kf {P:Prop} (h:P:=by
 clear g0 g1 g2 g3 g4 g5 g6;go_enter Tryz.func64,Tryz.ntmps64;go_upto_region 1 with fail
 generalize (w.alloc (.cells #[.string r.m,.string r.x,.int .i64 r.k,.slice fa r.fs.length fc,.bool r.ch,.slice ba r.body.length bc,.slice ta r.ts.length tc] 25)).alloc (.cells #[.string r'.m,.string r'.x,.int .i64 r'.k,.slice fa' r'.fs.length fc',.bool r'.ch,.slice ba' r'.body.length bc',.slice ta' r'.ts.length tc'] 25)=W at *;have hA0:=HA.out;have hB0:=HB.out;have q0:=hA0.c 0 _ rfl;have y0:=hB0.c 0 _ rfl;have q1:=hA0.c 1 _ rfl;have y1:=hB0.c 1 _ rfl;have q2:=hA0.c 2 _ rfl;have y2:=hB0.c 2 _ rfl;have q3:=hA0.c 3 _ rfl;have y3:=hB0.c 3 _ rfl;have q4:=hA0.c 4 _ rfl;have y4:=hB0.c 4 _ rfl;have q5:=hA0.c 5 _ rfl;have y5:=hB0.c 5 _ rfl;have q6:=hA0.c 6 _ rfl;have y6:=hB0.c 6 _ rfl;clear hA0 hB0
 go_wp2_with (first
  |(go_at_call 24;with_reducible refine (HF2.out _ HB1.out).mono ?_;rintro e w2 ⟨rfl,n2,hw2⟩
    have hb2:Below w1.heap.size w1 w2:=by rw [hw2];exact Aj (Am _ _) n2
    have HB2:=Bo (Ak HB1.out hb2);clear hb2 hw2)
  |(go_at_call 24;with_reducible refine (HF1.out _ HB0.out).mono ?_;rintro e w1 ⟨rfl,n1,hw1⟩
    have hb1:Below W.heap.size W w1:=by rw [hw1];exact Aj (Am _ _) n1
    have HB1:=Bo (Ak HB0.out hb1);have hA1:=HA.out.below hb1;have hB1:=HB.out.below hb1;have q3:=hA1.c 3 _ rfl;have y3:=hB1.c 3 _ rfl;have q4:=hA1.c 4 _ rfl;have y4:=hB1.c 4 _ rfl;have q5:=hA1.c 5 _ rfl;have y5:=hB1.c 5 _ rfl;have q6:=hA1.c 6 _ rfl;have y6:=hB1.c 6 _ rfl;have cv:=conv_str w1 _ _ bc _ (H2.out.below HB1.out);have cv':=conv_str w1 _ _ bc' _ (H2'.out.below HB1.out);clear hA1 hB1 hb1 hw1))
 go_ret
 exact ⟨rfl,HB2.out⟩):P:=h
theorem XXP4j {P:Prop} (h:P:=by
 go_enter Tryz.func64,Tryz.ntmps64;go_upto_region 1 with fail
 generalize (w.alloc (.cells #[.string r.m,.string r.x,.int .i64 r.k,.slice fa r.fs.length fc,.bool r.ch,.slice ba r.body.length bc,.slice ta r.ts.length tc] 25)).alloc (.cells #[.string r'.m,.string r'.x,.int .i64 r'.k,.slice fa' r'.fs.length fc',.bool r'.ch,.slice ba' r'.body.length bc',.slice ta' r'.ts.length tc'] 25)=W at *;have hA0:=HA.out;have hB0:=HB.out;have q0:=hA0.c 0 _ rfl;have y0:=hB0.c 0 _ rfl;have q1:=hA0.c 1 _ rfl;have y1:=hB0.c 1 _ rfl;have q2:=hA0.c 2 _ rfl;have y2:=hB0.c 2 _ rfl;have q3:=hA0.c 3 _ rfl;have y3:=hB0.c 3 _ rfl;have q4:=hA0.c 4 _ rfl;have y4:=hB0.c 4 _ rfl;have q5:=hA0.c 5 _ rfl;have y5:=hB0.c 5 _ rfl;have q6:=hA0.c 6 _ rfl;have y6:=hB0.c 6 _ rfl;clear hA0 hB0;go_wp2;go_ret
 exact ⟨rfl,HB0.out⟩):P:=h
theorem rsame_any (V V':Value) (r r':R) (w:World) (h:Reads w V r) (h':Reads w V' r') (hf:Fit r) (hf':Fit r'):Calls EG 64 #[V,V'] w fun e w'=>e=.returned (.bool (same r r'))∧Below w.heap.size w w':=by
 obtain ⟨fa,fc,ba,bc,ta,tc,rfl,h1,h2,h3⟩:=h;obtain ⟨fa',fc',ba',bc',ta',tc',rfl,h1',h2',h3'⟩:=h'
 have HF1:=Bo (fun w2 (hb:Below w.heap.size w w2)=>rfields_any fa _ fc _ fa' _ fc' _ w2 (h1.below hb) (h1'.below hb) (by have:=hf.fs;omega) (by have:=hf'.fs;omega))
 have HF2:=Bo (fun w2 (hb:Below w.heap.size w w2)=>rfields_any ta _ tc _ ta' _ tc' _ w2 (h3.below hb) (h3'.below hb) (by have:=hf.ts;omega) (by have:=hf'.ts;omega));have H2:=Bo h2;have H2':=Bo h2';clear h1 h2 h3 h1' h2' h3' hf hf'
 have HB0:=Bo ((((Am _ _).alloc (CQ _) (.cells #[.string r.m,.string r.x,.int .i64 r.k,.slice fa r.fs.length fc,.bool r.ch,.slice ba r.body.length bc,.slice ta r.ts.length tc] 25)).alloc (by simp) (.cells #[.string r'.m,.string r'.x,.int .i64 r'.k,.slice fa' r'.fs.length fc',.bool r'.ch,.slice ba' r'.body.length bc',.slice ta' r'.ts.length tc'] 25)):Below w.heap.size w _)
 have HA:=Bo ((Bk.new w w.heap.size rfl 25 [.string r.m,.string r.x,.int .i64 r.k,.slice fa r.fs.length fc,.bool r.ch,.slice ba r.body.length bc,.slice ta r.ts.length tc]).alloc (.cells #[.string r'.m,.string r'.x,.int .i64 r'.k,.slice fa' r'.fs.length fc',.bool r'.ch,.slice ba' r'.body.length bc',.slice ta' r'.ts.length tc'] 25))
 have HB:=Bo (Bk.new (w.alloc (.cells #[.string r.m,.string r.x,.int .i64 r.k,.slice fa r.fs.length fc,.bool r.ch,.slice ba r.body.length bc,.slice ta r.ts.length tc] 25)) (w.heap.size+1) (by simp) 25 [.string r'.m,.string r'.x,.int .i64 r'.k,.slice fa' r'.fs.length fc',.bool r'.ch,.slice ba' r'.body.length bc',.slice ta' r'.ts.length tc']);by_cases g0:r.m=r'.m
 rotate_left
 ·have e:same r r'=false:=by unfold same;simp [g0]
  rw [e];clear e;have t0:(r.m.toList==r'.m.toList)=false:=by rw [ba_beq];exact decide_eq_false g0
  have s0:¬r.m.toList=r'.m.toList:=fun h=>g0 ((toList_iff _ _).1 h);clear g0;exact XXP4j
 by_cases g1:r.x=r'.x
 rotate_left
 ·have e:same r r'=false:=by unfold same;simp [g0,g1]
  rw [e];clear e;have t0:(r.m.toList==r'.m.toList)=true:=by rw [ba_beq];exact decide_eq_true g0
  have s0:r.m.toList=r'.m.toList:=(toList_iff _ _).2 g0;have t1:(r.x.toList==r'.x.toList)=false:=by rw [ba_beq];exact decide_eq_false g1
  have s1:¬r.x.toList=r'.x.toList:=fun h=>g1 ((toList_iff _ _).1 h);clear g0 g1;exact XXP4j
 by_cases g2:r.k=r'.k
 rotate_left
 ·have e:same r r'=false:=by unfold same;simp [g0,g1,g2]
  rw [e];clear e;have t0:(r.m.toList==r'.m.toList)=true:=by rw [ba_beq];exact decide_eq_true g0
  have s0:r.m.toList=r'.m.toList:=(toList_iff _ _).2 g0;have t1:(r.x.toList==r'.x.toList)=true:=by rw [ba_beq];exact decide_eq_true g1
  have s1:r.x.toList=r'.x.toList:=(toList_iff _ _).2 g1;have t2:(r.k==r'.k)=false:=beq_eq_false_iff_ne.2 g2;clear g0 g1 g2;exact XXP4j
 by_cases g3:r.fs=r'.fs
 rotate_left
 ·have e:same r r'=false:=by unfold same;simp [g0,g1,g2,g3]
  rw [e];clear e;have t0:(r.m.toList==r'.m.toList)=true:=by rw [ba_beq];exact decide_eq_true g0
  have s0:r.m.toList=r'.m.toList:=(toList_iff _ _).2 g0;have t1:(r.x.toList==r'.x.toList)=true:=by rw [ba_beq];exact decide_eq_true g1
  have s1:r.x.toList=r'.x.toList:=(toList_iff _ _).2 g1;have t2:(r.k==r'.k)=true:=beq_iff_eq.2 g2;rw [decide_eq_false g3] at HF1;clear g0 g1 g2 g3;exact XXgmR
 by_cases g4:r.ch=r'.ch
 rotate_left
 ·have e:same r r'=false:=by unfold same;simp [g0,g1,g2,g3,g4]
  rw [e];clear e;have t0:(r.m.toList==r'.m.toList)=true:=by rw [ba_beq];exact decide_eq_true g0
  have s0:r.m.toList=r'.m.toList:=(toList_iff _ _).2 g0;have t1:(r.x.toList==r'.x.toList)=true:=by rw [ba_beq];exact decide_eq_true g1
  have s1:r.x.toList=r'.x.toList:=(toList_iff _ _).2 g1;have t2:(r.k==r'.k)=true:=beq_iff_eq.2 g2;rw [decide_eq_true g3] at HF1;have t4:(r.ch==r'.ch)=false:=beq_eq_false_iff_ne.2 g4;clear g0 g1 g2 g3 g4;exact XXgmR
 by_cases g5:r.body=r'.body
 rotate_left
 ·have e:same r r'=false:=by unfold same;simp [g0,g1,g2,g3,g4,g5]
  rw [e];clear e;have t0:(r.m.toList==r'.m.toList)=true:=by rw [ba_beq];exact decide_eq_true g0
  have s0:r.m.toList=r'.m.toList:=(toList_iff _ _).2 g0;have t1:(r.x.toList==r'.x.toList)=true:=by rw [ba_beq];exact decide_eq_true g1
  have s1:r.x.toList=r'.x.toList:=(toList_iff _ _).2 g1;have t2:(r.k==r'.k)=true:=beq_iff_eq.2 g2;rw [decide_eq_true g3] at HF1;have t4:(r.ch==r'.ch)=true:=beq_iff_eq.2 g4
  have t5:((Txt.ba r.body).toList==(Txt.ba r'.body).toList)=false:=by rw [ba_beq];exact decide_eq_false (fun h=>g5 (ba_list_inj.1 h))
  have s5:¬(Txt.ba r.body).toList=(Txt.ba r'.body).toList:=fun h=>g5 (ba_list_inj.1 ((toList_iff _ _).1 h));clear g0 g1 g2 g3 g4 g5;exact XXgmR
 by_cases g6:r.ts=r'.ts
 rotate_left
 ·have e:same r r'=false:=by unfold same;simp [g0,g1,g2,g3,g4,g5,g6]
  rw [e];clear e;have t0:(r.m.toList==r'.m.toList)=true:=by rw [ba_beq];exact decide_eq_true g0
  have s0:r.m.toList=r'.m.toList:=(toList_iff _ _).2 g0;have t1:(r.x.toList==r'.x.toList)=true:=by rw [ba_beq];exact decide_eq_true g1
  have s1:r.x.toList=r'.x.toList:=(toList_iff _ _).2 g1;have t2:(r.k==r'.k)=true:=beq_iff_eq.2 g2;rw [decide_eq_true g3] at HF1;have t4:(r.ch==r'.ch)=true:=beq_iff_eq.2 g4
  have t5:((Txt.ba r.body).toList==(Txt.ba r'.body).toList)=true:=by rw [ba_beq];exact decide_eq_true (by rw [g5])
  have s5:(Txt.ba r.body).toList=(Txt.ba r'.body).toList:=(toList_iff _ _).2 (by rw [g5]);rw [decide_eq_false g6] at HF2;exact XX8kf
 have e:same r r'=true:=by unfold same;simp [g0,g1,g2,g3,g4,g5,g6]
 rw [e];clear e;have t0:(r.m.toList==r'.m.toList)=true:=by rw [ba_beq];exact decide_eq_true g0
 have s0:r.m.toList=r'.m.toList:=(toList_iff _ _).2 g0;have t1:(r.x.toList==r'.x.toList)=true:=by rw [ba_beq];exact decide_eq_true g1
 have s1:r.x.toList=r'.x.toList:=(toList_iff _ _).2 g1;have t2:(r.k==r'.k)=true:=beq_iff_eq.2 g2;rw [decide_eq_true g3] at HF1;have t4:(r.ch==r'.ch)=true:=beq_iff_eq.2 g4
 have t5:((Txt.ba r.body).toList==(Txt.ba r'.body).toList)=true:=by rw [ba_beq];exact decide_eq_true (by rw [g5])
 have s5:(Txt.ba r.body).toList=(Txt.ba r'.body).toList:=(toList_iff _ _).2 (by rw [g5]);rw [decide_eq_true g6] at HF2;exact XX8kf
end code
end Go.Proofs.YtldhlecknfomjaaGreatDoor.Rec
namespace Go.Proofs.YtldhlecknfomjaaGreatDoor.Par
open Go.RowKit Base Txt Mem Each
section
variable {w:World} {B:Zone} {g p:Nat} {b:Bd} {s:S} {x:Pg.Q} {L:List (Option Nat)}
theorem DAt.cell (h:DAt w B g p b L s):w.cell? ⟨g,25,none⟩=some (.int .i64 (s.e:Int))∧w.cell? ⟨g,24,none⟩=some (.bool s.clean):=by
 rcases h with ⟨q,v,f,bd,t,rfl,⟨o,hrow⟩,hown⟩ | ⟨rfl,h⟩
 ·exact ⟨row_cellL hrow rfl,row_cellL hrow rfl⟩
 ·rw [h.e,h.clean];exact ⟨row_cellL h.row rfl,row_cellL h.row rfl⟩
theorem DQ.e (h:DQ w B g p b L x):w.cell? ⟨g,25,none⟩=some (.int .i64 (x.err:Int)):=by obtain ⟨s,h1,h2,h3⟩:=h;rw [←(Pg.said_sim h1 h2).1];exact h3.cell.1
theorem DQ.cl (h:DQ w B g p b L x):w.cell? ⟨g,24,none⟩=some (.bool x.clean):=by obtain ⟨s,h1,h2,h3⟩:=h;rw [←(Pg.said_sim h1 h2).2.2.2.2];exact h3.cell.2
theorem DAt.told (h:DAt w B g p b L s):DAt w B g p b L {s with out:= []}:=by
 rcases h with ⟨q,v,f,bd,t,rfl,hrow,hown⟩ | ⟨rfl,h⟩
 ·exact .inl ⟨q,v,f,bd,t,rfl,hrow,hown⟩
 ·exact .inr ⟨rfl,h.row,h.e,h.clean,rfl,h.ge,h.zone⟩
end
section code
set_option maxHeartbeats 4000000
set_option maxRecDepth 20000
attribute [local go_sem] Al
variable {w:World} {B:Zone} {g q:Nat} {v f bd t o:Value} {p:Nat} {b:Bd} {s:S} {x:Pg.Q} {L:List (Option Nat)}
theorem next_new (hrow:w.heap[g]?=some (.cells (ncells p b true 0).toArray 78 (0,0))) (hB:B≤g) (hz:B.z= []):Calls EG 95 #[ptr g] w fun r w'=>
 r=.returned (.tuple #[])∧∃q1,PR w' B g q1 nil nil nil nil nil p b ⟨0,nl p b.x0,zero,0,0,0,false,true,0,[]⟩∧Keeps [some g] w w':=by
 have hlt:=Ln.row_lt hrow
 have HR1:=Bo (show (((((((((((((w.setCell ⟨g,13,none⟩ (.string E0)).setCell ⟨g,14,none⟩ (.string E0)).setCell ⟨g,15,none⟩ (.int .i64 0)).setCell ⟨g,16,none⟩ (nil)).setCell ⟨g,17,none⟩ (.bool false)).setCell ⟨g,18,none⟩ (nil)).setCell ⟨g,19,none⟩ (nil)).setCell ⟨g,11,none⟩ (.int .i64 0)).setCell ⟨g,20,none⟩ (.int .i64 0)).setCell ⟨g,21,none⟩ (.int .i64 0)).setCell ⟨g,23,none⟩ (.bool false)).setCell ⟨g,24,none⟩ (.bool true))).heap[g]?=some (.cells (ncells p b true 0).toArray 78 (0,0)) from (row_setL (row_setL (row_setL (row_setL (row_setL (row_setL (row_setL (row_setL (row_setL (row_setL (row_setL (row_setL hrow 13 (.string E0)) 14 (.string E0)) 15 (.int .i64 0)) 16 (nil)) 17 (.bool false)) 18 (nil)) 19 (nil)) 11 (.int .i64 0)) 20 (.int .i64 0)) 21 (.int .i64 0)) 23 (.bool false)) 24 (.bool true)))
 have HK1:=Bo (show Keeps [some g] w ((((((((((((w.setCell ⟨g,13,none⟩ (.string E0)).setCell ⟨g,14,none⟩ (.string E0)).setCell ⟨g,15,none⟩ (.int .i64 0)).setCell ⟨g,16,none⟩ (nil)).setCell ⟨g,17,none⟩ (.bool false)).setCell ⟨g,18,none⟩ (nil)).setCell ⟨g,19,none⟩ (nil)).setCell ⟨g,11,none⟩ (.int .i64 0)).setCell ⟨g,20,none⟩ (.int .i64 0)).setCell ⟨g,21,none⟩ (.int .i64 0)).setCell ⟨g,23,none⟩ (.bool false)).setCell ⟨g,24,none⟩ (.bool true)) from ((((((((((((Bf (L:= [some g]) g 13 (.string E0) (by simp)).trans (Bf (L:= [some g]) g 14 (.string E0) (by simp)) De).trans (Bf (L:= [some g]) g 15 (.int .i64 0) (by simp)) De).trans (Bf (L:= [some g]) g 16 (nil) (by simp)) De).trans (Bf (L:= [some g]) g 17 (.bool false) (by simp)) De).trans (Bf (L:= [some g]) g 18 (nil) (by simp)) De).trans (Bf (L:= [some g]) g 19 (nil) (by simp)) De).trans (Bf (L:= [some g]) g 11 (.int .i64 0) (by simp)) De).trans (Bf (L:= [some g]) g 20 (.int .i64 0) (by simp)) De).trans (Bf (L:= [some g]) g 21 (.int .i64 0) (by simp)) De).trans (Bf (L:= [some g]) g 23 (.bool false) (by simp)) De).trans (Bf (L:= [some g]) g 24 (.bool true) (by simp)) De));have c11:=row_cellL hrow (k:=11) rfl;have z11:=CL hrow 11;have c13:=row_cellL hrow (k:=13) rfl;have z13:=CL hrow 13;have c14:=row_cellL hrow (k:=14) rfl;have z14:=CL hrow 14;have c15:=row_cellL hrow (k:=15) rfl;have z15:=CL hrow 15;have c16:=row_cellL hrow (k:=16) rfl;have z16:=CL hrow 16;have c17:=row_cellL hrow (k:=17) rfl;have z17:=CL hrow 17;have c18:=row_cellL hrow (k:=18) rfl;have z18:=CL hrow 18;have c19:=row_cellL hrow (k:=19) rfl;have z19:=CL hrow 19;have c20:=row_cellL hrow (k:=20) rfl;have z20:=CL hrow 20;have c21:=row_cellL hrow (k:=21) rfl;have z21:=CL hrow 21;have c23:=row_cellL hrow (k:=23) rfl;have z23:=CL hrow 23;have c24:=row_cellL hrow (k:=24) rfl;have z24:=CL hrow 24;have HB:=Bo hB;have HZ:=Bo hz;clear hrow hB hlt hz;go_enter Tryz.func95,Tryz.ntmps95;go_upto_region 1 with fail
 generalize ((((((((((((w.setCell ⟨g,13,none⟩ (.string E0)).setCell ⟨g,14,none⟩ (.string E0)).setCell ⟨g,15,none⟩ (.int .i64 0)).setCell ⟨g,16,none⟩ (nil)).setCell ⟨g,17,none⟩ (.bool false)).setCell ⟨g,18,none⟩ (nil)).setCell ⟨g,19,none⟩ (nil)).setCell ⟨g,11,none⟩ (.int .i64 0)).setCell ⟨g,20,none⟩ (.int .i64 0)).setCell ⟨g,21,none⟩ (.int .i64 0)).setCell ⟨g,23,none⟩ (.bool false)).setCell ⟨g,24,none⟩ (.bool true))=W1 at *;clear c13 z13 c14 z14 c15 z15 c16 z16 c17 z17 c18 z18 c19 z19 c11 z11 c20 z20 c21 z21 c23 z23 c24 z24
 have HRD:=Bo (show (W1.drewN 1).heap[g]?=some (.cells (ncells p b true 0).toArray 78 (0,0)) from HR1.out)
 have HQ:=Bo (show Dr (W1.drewN 1) g (ncells p b true 0) from ⟨fun _ _ hu=>row_cellL HRD.out hu,fun k _=>CL HRD.out k,Ln.row_lt HRD.out⟩)
 have HBW:=Bo (show B≤(W1.drewN 1).heap.size from CT HB.out (CP (Ln.row_lt HRD.out)));refine Each.region 11 [21,22,23,24,25,26,27,28,29,30,31]
  [eQ (.pointer (some ⟨g,0,none⟩)),
    eQ (.pointer (some ⟨g,0,none⟩)),
    eQ (.pointer (some ⟨g,0,none⟩)),
    eQ (.pointer (some ⟨g,0,none⟩)),
    eQ (.int .u32 (p:Int)),
    eQ (.pointer (some ⟨g,0,none⟩)),
    eQ (.pointer (some ⟨g,0,none⟩)),
    eQ (.pointer (some ⟨g,1,none⟩)),
    eQ (.pointer (some ⟨g,1,none⟩)),
    eQ (.int .i64 b.x0),
    fun v w=>∃q1,v=ptr q1∧W1.heap.size≤q1∧Ln.Rr w B.b q1 nil p (nl p (b.x0))]
  (.quiet 11 (.quiet 12 (.act 13 .done))) (by kernel_rfl) (by kernel_rfl) (by kernel_rfl) (by kernel_rfl) (fun _ _ d _ _ h=>by cases d<;>exact h) (by rfl) (by rfl)
  ⟨AI _,AI _,AI _,AI _,AI _,AI _,AI _,AI _,AI _,AI _,((fun _ _ _ hb h=>by obtain ⟨q1,e1,h1,h2⟩:=h;exact ⟨q1,e1,h1,rr_below h2 hb⟩)),trivial⟩ ?_ ?_
 ·refine ⟨?_,?_,?_,?_,?_,?_,?_,?_,?_,?_,?_,trivial⟩
  ·exact XXSdZ
  ·exact XXSdZ
  ·exact XXSdZ
  ·exact XXSdZ
  ·exact XXSdZ
  ·exact XXSdZ
  ·exact XXSdZ
  ·exact XXSdZ
  ·exact XXSdZ
  ·exact XXSdZ
  ·refine AJ rfl (fun ev w1 hR hb hh=>?_);have e25:(ev (.tmp 25)=.int .u32 (p:Int)):=hh.at 0;have e30:(ev (.tmp 30)=.int .i64 b.x0):=hh.at 1;clear hh;have ef:=hR.func
   refine AE 137 #[.int .u32 (p:Int),.int .i64 (b.x0)] (by go_simp) ((rnew_line B.b (b.x0) w1 (CT HBW.out hb.size)).mono ?_);rintro r w2 ⟨q1,rfl,h1,h2,hb2⟩;exact ⟨_,rfl,hb2,q1,rfl,CT hb.size h1,h2⟩
 intro g1 w2 hb hf;have z21:(g1 21=.pointer (some ⟨g,0,none⟩)):=hf.at 0;have z31:((fun v w=>∃q1,v=ptr q1∧W1.heap.size≤q1∧Ln.Rr w B.b q1 nil p (nl p (b.x0))) (g1 31) w2):=hf.at 10;clear hf;obtain ⟨q1,e1,hq1,hr1⟩:=z31;simp only [AM,Ab,C8,CB,CA];rw [e1,z21];simp only [DO,DP,BS,BR];refine DR (by rfl) (ptr g) (fun _ _=>by go_simp) ?_;simp only [Ab,C8,CB,CA];refine DR (by rfl) (.pointer (some ⟨g,12,none⟩)) (fun _ _=>by go_simp) ?_;simp only [Ab,C8,CB,CA];have hrow2:=(hb.block g (Ln.row_lt HR1.out)).trans HR1.out;have c12:=row_cellL hrow2 (k:=12) rfl;have z12:=CL hrow2 12
 refine DM (by rfl) (fun K hK=>?_);go_simp;refine hK _ _ trivial ?_;clear hK K;refine DN ?_;have HR2:=Bo hrow2;have HRR:=Bo hr1;have HQ1:=Bo hq1;have HB2:=Bo hb;clear HQ HBW HRD hr1 hq1 hrow2 c12 z12 hb;go_wp2;go_end0;have hgq:g≠q1:=by have:=Ln.row_lt HR1.out;have:=HQ1.out;omega
 have hk:Keeps [some g] w2 (w2.setCell ⟨g,12,none⟩ (ptr q1)):=Bf g 12 _ (by simp);refine ⟨rfl,q1,⟨row_setL HR2.out 12 (ptr q1),⟨⟨hk.row HRR.out.row (by simpa using fun e=>hgq e.symm),hk.own HRR.out.own (by simp [Value.ownBlock]),HRR.out.ge,HRR.out.ne⟩,FD _ _ _ _,FD _ _ _ _,FD _ _ _ _,⟨[],rfl,(by intro x hx;cases hx),FD _ _ _ _⟩,?_,HB.out,by have:=Ln.row_lt HR2.out;simpa using this,by rw [HZ.out];exact Clear.nil⟩⟩,(HK1.out.trans (Keeps.of_below HB2.out) De).trans hk De⟩;intro i j k hi hj;rcases i with _ | _ | _ | _ | _ | _ | _ | i<;>rcases j with _ | _ | _ | _ | _ | _ | _ | j<;>simp [Value.ownBlock] at hi hj ⊢<;>omega
theorem fine_new (p:Nat) (b:Bd):(Pg.Q.new p b).Fine b:=fine_of (Pg.Q.new_ok p b)
theorem XX9L8 {P:Prop} (h:P:=by
 clear x0 x1 x2 x3 x4 x5 x6 x7 x8 x9;go_wp2_with fail;go_ret
 exact KEY.out W0 _ (Ak HB4.out HB3.out) HG.out (CU HLT.out HB3.out.size) HR5.out):P:=h
theorem dnew_any (hp:p<4294967296) (w:World):Calls EG 38 #[.int .u32 (p:Int),.agg #[.int .i64 b.x0,.int .i64 b.x1,.int .i64 b.x2,.int .i64 b.x3,.int .i64 b.x4,.int .i64 b.x5,.int .i64 b.x6,.int .i64 b.x7,.bool b.ch,.bool b.od]] w fun r w'=>
 ∃g L',r=.returned (ptr g)∧w.heap.size≤g∧DQ w' ⟨w.heap.size,[]⟩ g p b L' (Pg.Q.new p b)∧Below w.heap.size w w':=by
 have hqr:=fun w=>Qk.rright_any p hp w;have hbr:=fun w=>Bnd.rright_any b.x0 b.x1 b.x2 b.x3 b.x4 b.x5 b.x6 b.x7 b.ch b.od w
 have HB0:=Bo (((Am _ _).alloc (CQ _) (.cells #[.int .i64 b.x0,.int .i64 b.x1,.int .i64 b.x2,.int .i64 b.x3,.int .i64 b.x4,.int .i64 b.x5,.int .i64 b.x6,.int .i64 b.x7,.bool b.ch,.bool b.od] 29)):Below w.heap.size w _)
 have HZ0:=Bo (Ds w w.heap.size rfl 29 [.int .i64 b.x0,.int .i64 b.x1,.int .i64 b.x2,.int .i64 b.x3,.int .i64 b.x4,.int .i64 b.x5,.int .i64 b.x6,.int .i64 b.x7,.bool b.ch,.bool b.od])
 have HSZ:=Bo (show w.heap.size<(w.alloc (.cells #[.int .i64 b.x0,.int .i64 b.x1,.int .i64 b.x2,.int .i64 b.x3,.int .i64 b.x4,.int .i64 b.x5,.int .i64 b.x6,.int .i64 b.x7,.bool b.ch,.bool b.od] 29)).heap.size by simp)
 have HSIM:=Bo (Pg.new_sim (p:=p) (b:=b));have HFI:=Bo (fine_new p b);have hnew:Pg.Q.new p b=if (b.right&&decide (p<1073741824))=true then .live (Pg.T.new p b) else .dead 20 []:=rfl
 have hsn:S.new p b=if (b.right&&decide (p<1073741824))=true then ⟨0,nl p b.x0,zero,0,0,0,false,true,0,[]⟩ else ⟨0,nl p b.x0,zero,0,0,0,false,false,20,[]⟩:=rfl
 generalize Pg.Q.new p b=X at HSIM HFI hnew ⊢;generalize S.new p b=s0 at HSIM hsn;have good:b.right=true→p<1073741824→s0=⟨0,nl p b.x0,zero,0,0,0,false,true,0,[]⟩:=fun h1 h2=>by rw [hsn,if_pos (by rw [h1,decide_eq_true h2];rfl)]
 have bad:¬(b.right=true∧p<1073741824)→s0=⟨0,nl p b.x0,zero,0,0,0,false,false,20,[]⟩:=fun h=>by rw [hsn,if_neg (by simpa using h)]
 clear hnew hsn;by_cases hok:b.right=true∧p<1073741824
 ·have es:=good hok.1 hok.2;subst es;rw [decide_eq_true hok.2] at hqr;rw [show Bnd.right b.x0 b.x1 b.x2 b.x3 b.x4 b.x5 b.x6 b.x7=true from hok.1] at hbr;have HQR:=Bo hqr;have HBR:=Bo hbr;clear hqr hbr good bad hok;go_enter Tryz.func38,Tryz.ntmps38;go_upto_region 1 with fail
  generalize w.alloc (.cells #[.int .i64 b.x0,.int .i64 b.x1,.int .i64 b.x2,.int .i64 b.x3,.int .i64 b.x4,.int .i64 b.x5,.int .i64 b.x6,.int .i64 b.x7,.bool b.ch,.bool b.od] 29)=W0 at *;have y0:=HZ0.out.c 0 _ rfl;have y1:=HZ0.out.c 1 _ rfl;have y2:=HZ0.out.c 2 _ rfl;have y3:=HZ0.out.c 3 _ rfl;have y4:=HZ0.out.c 4 _ rfl;have y5:=HZ0.out.c 5 _ rfl;have y6:=HZ0.out.c 6 _ rfl;have y7:=HZ0.out.c 7 _ rfl;have y8:=HZ0.out.c 8 _ rfl;have y9:=HZ0.out.c 9 _ rfl
  have HG:=Bo (CP HSZ.out)
  have HR4:=Bo (heap_alloc_new W0 (.cells #[.int .u32 (p:Int),.int .i64 b.x0,.int .i64 b.x1,.int .i64 b.x2,.int .i64 b.x3,.int .i64 b.x4,.int .i64 b.x5,.int .i64 b.x6,.int .i64 b.x7,.bool b.ch,.bool b.od,.int .i64 0,.pointer none,.string E0,.string E0,.int .i64 0,nil,.bool false,nil,nil,.int .i64 0,.int .i64 0,.int .i64 0,.bool false,.bool true,.int .i64 0,nil] 78))
  have HB4:=Bo (HB0.out.alloc HG.out (.cells #[.int .u32 (p:Int),.int .i64 b.x0,.int .i64 b.x1,.int .i64 b.x2,.int .i64 b.x3,.int .i64 b.x4,.int .i64 b.x5,.int .i64 b.x6,.int .i64 b.x7,.bool b.ch,.bool b.od,.int .i64 0,.pointer none,.string E0,.string E0,.int .i64 0,nil,.bool false,nil,nil,.int .i64 0,.int .i64 0,.int .i64 0,.bool false,.bool true,.int .i64 0,nil] 78))
  have HX4:=Bo (HZ0.out.alloc (.cells #[.int .u32 (p:Int),.int .i64 b.x0,.int .i64 b.x1,.int .i64 b.x2,.int .i64 b.x3,.int .i64 b.x4,.int .i64 b.x5,.int .i64 b.x6,.int .i64 b.x7,.bool b.ch,.bool b.od,.int .i64 0,.pointer none,.string E0,.string E0,.int .i64 0,nil,.bool false,nil,nil,.int .i64 0,.int .i64 0,.int .i64 0,.bool false,.bool true,.int .i64 0,nil] 78))
  have HLT:=Bo (show W0.heap.size<(W0.alloc (.cells #[.int .u32 (p:Int),.int .i64 b.x0,.int .i64 b.x1,.int .i64 b.x2,.int .i64 b.x3,.int .i64 b.x4,.int .i64 b.x5,.int .i64 b.x6,.int .i64 b.x7,.bool b.ch,.bool b.od,.int .i64 0,.pointer none,.string E0,.string E0,.int .i64 0,nil,.bool false,nil,nil,.int .i64 0,.int .i64 0,.int .i64 0,.bool false,.bool true,.int .i64 0,nil] 78)).heap.size by simp);go_upto_region 2 with fail
  generalize hgg:W0.heap.size=g at *;generalize W0.alloc (.cells #[.int .u32 (p:Int),.int .i64 b.x0,.int .i64 b.x1,.int .i64 b.x2,.int .i64 b.x3,.int .i64 b.x4,.int .i64 b.x5,.int .i64 b.x6,.int .i64 b.x7,.bool b.ch,.bool b.od,.int .i64 0,.pointer none,.string E0,.string E0,.int .i64 0,nil,.bool false,nil,nil,.int .i64 0,.int .i64 0,.int .i64 0,.bool false,.bool true,.int .i64 0,nil] 78)=W2 at *;clear y0 y1 y2 y3 y4 y5 y6 y7 y8 y9;have x0:=HX4.out.c 0 _ rfl;have x1:=HX4.out.c 1 _ rfl;have x2:=HX4.out.c 2 _ rfl;have x3:=HX4.out.c 3 _ rfl;have x4:=HX4.out.c 4 _ rfl;have x5:=HX4.out.c 5 _ rfl;have x6:=HX4.out.c 6 _ rfl;have x7:=HX4.out.c 7 _ rfl;have x8:=HX4.out.c 8 _ rfl;have x9:=HX4.out.c 9 _ rfl
  go_wp2_with (first
   |(go_at_call 95;with_reducible refine (next_new (B:=⟨w.heap.size,[]⟩) HR5.out HG.out rfl).mono ?_;rintro r w5 ⟨rfl,q1,hP,hK⟩)
   |(go_at_call 94;with_reducible refine Cm (HQR.out _) ?_)
   |(go_at_call 50;with_reducible refine (HBR.out _).mono ?_;rintro r w3 ⟨rfl,hb3⟩
     have HB3:=Bo hb3
     have HR5:=Bo ((hb3.block g HLT.out).trans HR4.out);clear hb3))
  go_ret;have hbw:=Ak HB4.out HB3.out;exact ⟨g,_,rfl,HG.out,⟨_,HSIM.out,HFI.out,.inl ⟨q1,nil,nil,nil,nil,rfl,⟨nil,hP.row⟩,hP.own⟩⟩,hbw.trans (hK.below hbw.size (fun k hk=>by rw [Di.inj (C2.1 hk)];exact HG.out))⟩
 ·have es:=bad hok;subst es;have hbr':b.right=false∨(b.right=true∧decide (p<1073741824)=false):=by
   cases h:b.right with
   | false=>exact .inl rfl
   | true=>exact .inr ⟨rfl,decide_eq_false fun e=>hok ⟨h,e⟩⟩
  clear good bad hok;have HQR:=Bo hqr;have HBR:=Bo hbr;clear hqr hbr;have key:∀(W0:World) (W:World),Below w.heap.size w W→w.heap.size≤W0.heap.size→W0.heap.size<W.heap.size→W.heap[W0.heap.size]?=some (.cells (ncells p b true 0).toArray 78 (0,0))→
   ∃g L',(Ending.returned (ptr W0.heap.size))=.returned (ptr g)∧w.heap.size≤g∧DQ ((W.setCell ⟨W0.heap.size,25,none⟩ (.int .i64 20)).setCell ⟨W0.heap.size,24,none⟩ (.bool false)) ⟨w.heap.size,[]⟩ g p b L' X∧Below w.heap.size w ((W.setCell ⟨W0.heap.size,25,none⟩ (.int .i64 20)).setCell ⟨W0.heap.size,24,none⟩ (.bool false)):=by
   intro W0 W hb hg hlt hr;have hk:Keeps [some W0.heap.size] W ((W.setCell ⟨W0.heap.size,25,none⟩ (.int .i64 20)).setCell ⟨W0.heap.size,24,none⟩ (.bool false)):=(Bf _ 25 _ (by simp)).trans (Bf _ 24 _ (by simp)) De;exact ⟨W0.heap.size,[some W0.heap.size],rfl,hg,⟨_,HSIM.out,HFI.out,.inr ⟨rfl,row_setL (row_setL hr 25 (.int .i64 20)) 24 (.bool false),rfl,rfl,rfl,hg,Clear.nil⟩⟩,hb.trans (hk.below hb.size (fun k hk=>by rw [Di.inj (C2.1 hk)];exact hg))⟩
  have KEY:=Bo key;clear key HSIM HFI;rcases hbr' with h1 | ⟨h1,h2⟩
  ·rw [show Bnd.right b.x0 b.x1 b.x2 b.x3 b.x4 b.x5 b.x6 b.x7=false from h1] at HBR;clear HQR h1;go_enter Tryz.func38,Tryz.ntmps38;go_upto_region 1 with fail
   generalize w.alloc (.cells #[.int .i64 b.x0,.int .i64 b.x1,.int .i64 b.x2,.int .i64 b.x3,.int .i64 b.x4,.int .i64 b.x5,.int .i64 b.x6,.int .i64 b.x7,.bool b.ch,.bool b.od] 29)=W0 at *;have y0:=HZ0.out.c 0 _ rfl;have y1:=HZ0.out.c 1 _ rfl;have y2:=HZ0.out.c 2 _ rfl;have y3:=HZ0.out.c 3 _ rfl;have y4:=HZ0.out.c 4 _ rfl;have y5:=HZ0.out.c 5 _ rfl;have y6:=HZ0.out.c 6 _ rfl;have y7:=HZ0.out.c 7 _ rfl;have y8:=HZ0.out.c 8 _ rfl;have y9:=HZ0.out.c 9 _ rfl
   have HG:=Bo (CP HSZ.out)
   have HR4:=Bo (heap_alloc_new W0 (.cells #[.int .u32 (p:Int),.int .i64 b.x0,.int .i64 b.x1,.int .i64 b.x2,.int .i64 b.x3,.int .i64 b.x4,.int .i64 b.x5,.int .i64 b.x6,.int .i64 b.x7,.bool b.ch,.bool b.od,.int .i64 0,.pointer none,.string E0,.string E0,.int .i64 0,nil,.bool false,nil,nil,.int .i64 0,.int .i64 0,.int .i64 0,.bool false,.bool true,.int .i64 0,nil] 78))
   have HB4:=Bo (HB0.out.alloc HG.out (.cells #[.int .u32 (p:Int),.int .i64 b.x0,.int .i64 b.x1,.int .i64 b.x2,.int .i64 b.x3,.int .i64 b.x4,.int .i64 b.x5,.int .i64 b.x6,.int .i64 b.x7,.bool b.ch,.bool b.od,.int .i64 0,.pointer none,.string E0,.string E0,.int .i64 0,nil,.bool false,nil,nil,.int .i64 0,.int .i64 0,.int .i64 0,.bool false,.bool true,.int .i64 0,nil] 78))
   have HX4:=Bo (HZ0.out.alloc (.cells #[.int .u32 (p:Int),.int .i64 b.x0,.int .i64 b.x1,.int .i64 b.x2,.int .i64 b.x3,.int .i64 b.x4,.int .i64 b.x5,.int .i64 b.x6,.int .i64 b.x7,.bool b.ch,.bool b.od,.int .i64 0,.pointer none,.string E0,.string E0,.int .i64 0,nil,.bool false,nil,nil,.int .i64 0,.int .i64 0,.int .i64 0,.bool false,.bool true,.int .i64 0,nil] 78))
   have HLT:=Bo (show W0.heap.size<(W0.alloc (.cells #[.int .u32 (p:Int),.int .i64 b.x0,.int .i64 b.x1,.int .i64 b.x2,.int .i64 b.x3,.int .i64 b.x4,.int .i64 b.x5,.int .i64 b.x6,.int .i64 b.x7,.bool b.ch,.bool b.od,.int .i64 0,.pointer none,.string E0,.string E0,.int .i64 0,nil,.bool false,nil,nil,.int .i64 0,.int .i64 0,.int .i64 0,.bool false,.bool true,.int .i64 0,nil] 78)).heap.size by simp);go_upto_region 2 with fail
   generalize W0.alloc (.cells #[.int .u32 (p:Int),.int .i64 b.x0,.int .i64 b.x1,.int .i64 b.x2,.int .i64 b.x3,.int .i64 b.x4,.int .i64 b.x5,.int .i64 b.x6,.int .i64 b.x7,.bool b.ch,.bool b.od,.int .i64 0,.pointer none,.string E0,.string E0,.int .i64 0,nil,.bool false,nil,nil,.int .i64 0,.int .i64 0,.int .i64 0,.bool false,.bool true,.int .i64 0,nil] 78)=W2 at *;clear y0 y1 y2 y3 y4 y5 y6 y7 y8 y9;have x0:=HX4.out.c 0 _ rfl;have x1:=HX4.out.c 1 _ rfl;have x2:=HX4.out.c 2 _ rfl;have x3:=HX4.out.c 3 _ rfl;have x4:=HX4.out.c 4 _ rfl;have x5:=HX4.out.c 5 _ rfl;have x6:=HX4.out.c 6 _ rfl;have x7:=HX4.out.c 7 _ rfl;have x8:=HX4.out.c 8 _ rfl;have x9:=HX4.out.c 9 _ rfl;go_upto_region 3 with
    (go_at_call 50;with_reducible refine (HBR.out _).mono ?_;rintro r w3 ⟨rfl,hb3⟩
     have HB3:=Bo hb3;have hr5:=(hb3.block _ HLT.out).trans HR4.out;have d25:=row_cellL hr5 (k:=25) rfl;have e25:=CL hr5 25;have d24:=row_cellL hr5 (k:=24) rfl;have e24:=CL hr5 24;have HR5:=Bo hr5;clear hb3 hr5)
   exact XX9L8
  ·rw [show Bnd.right b.x0 b.x1 b.x2 b.x3 b.x4 b.x5 b.x6 b.x7=true from h1] at HBR;rw [h2] at HQR;clear h1 h2;go_enter Tryz.func38,Tryz.ntmps38;go_upto_region 1 with fail
   generalize w.alloc (.cells #[.int .i64 b.x0,.int .i64 b.x1,.int .i64 b.x2,.int .i64 b.x3,.int .i64 b.x4,.int .i64 b.x5,.int .i64 b.x6,.int .i64 b.x7,.bool b.ch,.bool b.od] 29)=W0 at *;have y0:=HZ0.out.c 0 _ rfl;have y1:=HZ0.out.c 1 _ rfl;have y2:=HZ0.out.c 2 _ rfl;have y3:=HZ0.out.c 3 _ rfl;have y4:=HZ0.out.c 4 _ rfl;have y5:=HZ0.out.c 5 _ rfl;have y6:=HZ0.out.c 6 _ rfl;have y7:=HZ0.out.c 7 _ rfl;have y8:=HZ0.out.c 8 _ rfl;have y9:=HZ0.out.c 9 _ rfl
   have HG:=Bo (CP HSZ.out)
   have HR4:=Bo (heap_alloc_new W0 (.cells #[.int .u32 (p:Int),.int .i64 b.x0,.int .i64 b.x1,.int .i64 b.x2,.int .i64 b.x3,.int .i64 b.x4,.int .i64 b.x5,.int .i64 b.x6,.int .i64 b.x7,.bool b.ch,.bool b.od,.int .i64 0,.pointer none,.string E0,.string E0,.int .i64 0,nil,.bool false,nil,nil,.int .i64 0,.int .i64 0,.int .i64 0,.bool false,.bool true,.int .i64 0,nil] 78))
   have HB4:=Bo (HB0.out.alloc HG.out (.cells #[.int .u32 (p:Int),.int .i64 b.x0,.int .i64 b.x1,.int .i64 b.x2,.int .i64 b.x3,.int .i64 b.x4,.int .i64 b.x5,.int .i64 b.x6,.int .i64 b.x7,.bool b.ch,.bool b.od,.int .i64 0,.pointer none,.string E0,.string E0,.int .i64 0,nil,.bool false,nil,nil,.int .i64 0,.int .i64 0,.int .i64 0,.bool false,.bool true,.int .i64 0,nil] 78))
   have HX4:=Bo (HZ0.out.alloc (.cells #[.int .u32 (p:Int),.int .i64 b.x0,.int .i64 b.x1,.int .i64 b.x2,.int .i64 b.x3,.int .i64 b.x4,.int .i64 b.x5,.int .i64 b.x6,.int .i64 b.x7,.bool b.ch,.bool b.od,.int .i64 0,.pointer none,.string E0,.string E0,.int .i64 0,nil,.bool false,nil,nil,.int .i64 0,.int .i64 0,.int .i64 0,.bool false,.bool true,.int .i64 0,nil] 78))
   have HLT:=Bo (show W0.heap.size<(W0.alloc (.cells #[.int .u32 (p:Int),.int .i64 b.x0,.int .i64 b.x1,.int .i64 b.x2,.int .i64 b.x3,.int .i64 b.x4,.int .i64 b.x5,.int .i64 b.x6,.int .i64 b.x7,.bool b.ch,.bool b.od,.int .i64 0,.pointer none,.string E0,.string E0,.int .i64 0,nil,.bool false,nil,nil,.int .i64 0,.int .i64 0,.int .i64 0,.bool false,.bool true,.int .i64 0,nil] 78)).heap.size by simp);go_upto_region 2 with fail
   generalize W0.alloc (.cells #[.int .u32 (p:Int),.int .i64 b.x0,.int .i64 b.x1,.int .i64 b.x2,.int .i64 b.x3,.int .i64 b.x4,.int .i64 b.x5,.int .i64 b.x6,.int .i64 b.x7,.bool b.ch,.bool b.od,.int .i64 0,.pointer none,.string E0,.string E0,.int .i64 0,nil,.bool false,nil,nil,.int .i64 0,.int .i64 0,.int .i64 0,.bool false,.bool true,.int .i64 0,nil] 78)=W2 at *;clear y0 y1 y2 y3 y4 y5 y6 y7 y8 y9;have x0:=HX4.out.c 0 _ rfl;have x1:=HX4.out.c 1 _ rfl;have x2:=HX4.out.c 2 _ rfl;have x3:=HX4.out.c 3 _ rfl;have x4:=HX4.out.c 4 _ rfl;have x5:=HX4.out.c 5 _ rfl;have x6:=HX4.out.c 6 _ rfl;have x7:=HX4.out.c 7 _ rfl;have x8:=HX4.out.c 8 _ rfl;have x9:=HX4.out.c 9 _ rfl
   go_upto_region 3 with (first
    |(go_at_call 94;with_reducible refine Cm (HQR.out _) ?_)
    |(go_at_call 50;with_reducible refine (HBR.out _).mono ?_;rintro r w3 ⟨rfl,hb3⟩
      have HB3:=Bo hb3;have hr5:=(hb3.block _ HLT.out).trans HR4.out;have d25:=row_cellL hr5 (k:=25) rfl;have e25:=CL hr5 25;have d24:=row_cellL hr5 (k:=24) rfl;have e24:=CL hr5 24;have HR5:=Bo hr5;clear hb3 hr5))
   exact XX9L8
theorem dclean_any (h:DQ w B g p b L x):Calls EG 48 #[ptr g] w fun r w'=>r=.returned (.bool x.clean)∧w'=w:=by have c24:=h.cl;clear h;generalize x.clean=cl at *;go_enter Tryz.func48,Tryz.ntmps48;go_wp2;go_ret;exact ⟨rfl,rfl⟩
end code
end Go.Proofs.YtldhlecknfomjaaGreatDoor.Par
namespace Go.Proofs.YtldhlecknfomjaaGreatDoor.Rec
open Go.RowKit Base Txt
def RecAt (w:World) (b o:Nat) (r:R):Prop:=
 ∃(fa:Option Addr) (fc:Nat) (ba:Option Addr) (bc:Nat) (ta:Option Addr) (tc:Nat),
  (w.cell? ⟨b,o,none⟩=some (.string r.m)∧w.cell? ⟨b,o+1,none⟩=some (.string r.x)∧w.cell? ⟨b,o+2,none⟩=some (.int .i64 r.k)∧w.cell? ⟨b,o+3,none⟩=some (.slice fa r.fs.length fc)∧
   w.cell? ⟨b,o+4,none⟩=some (.bool r.ch)∧w.cell? ⟨b,o+5,none⟩=some (.slice ba r.body.length bc)∧w.cell? ⟨b,o+6,none⟩=some (.slice ta r.ts.length tc))∧
  Reads w (.agg #[.string r.m,.string r.x,.int .i64 r.k,.slice fa r.fs.length fc,.bool r.ch,.slice ba r.body.length bc,.slice ta r.ts.length tc]) r
theorem RecAt.below {w w':World} {b o:Nat} {r:R} (h:RecAt w b o r) (hlt:b<w.heap.size) (hb:Below w.heap.size w w'):RecAt w' b o r:=by
 obtain ⟨fa,fc,ba,bc,ta,tc,⟨c0,c1,c2,c3,c4,c5,c6⟩,hr⟩:=h
 exact ⟨fa,fc,ba,bc,ta,tc,⟨(hb.cell (p:=⟨b,o,none⟩) hlt).trans c0,(hb.cell (p:=⟨b,o+1,none⟩) hlt).trans c1,(hb.cell (p:=⟨b,o+2,none⟩) hlt).trans c2,(hb.cell (p:=⟨b,o+3,none⟩) hlt).trans c3,
  (hb.cell (p:=⟨b,o+4,none⟩) hlt).trans c4,(hb.cell (p:=⟨b,o+5,none⟩) hlt).trans c5,(hb.cell (p:=⟨b,o+6,none⟩) hlt).trans c6⟩,hr.below hb⟩
def r0:R:=⟨A6,A6,0,[],false,[],[]⟩
def Recs (w:World) (a:Option Addr) (n:Nat) (rs:List R):Prop:=
 rs.length=n∧(0<n→∃b off,a=some ⟨b,off,none⟩∧b<w.heap.size∧∀k,k<n→RecAt w b (off+k*7) (rs[k]?.getD r0))
theorem Recs.below {w w':World} {a:Option Addr} {n:Nat} {rs:List R} (h:Recs w a n rs) (hb:Below w.heap.size w w'):Recs w' a n rs:=by exact XXsyZ
theorem all_iff:∀a b:List R,all a b=true↔a=b
 | [],[]=>by simp [all]
 | [],_ :: _=>by simp [all]
 | _ :: _,[]=>by simp [all]
 | x::a,y::b=>by rw [all,An,same_iff,all_iff a b,List.cons.injEq]
theorem all_len (a b:List R) (h:¬a.length=b.length):all a b=false:=by
 rw [Bool.eq_false_iff]
 exact fun e=>h (by rw [(all_iff a b).1 e])
theorem take_eq (xs ys:List R) (k:Nat) (hx:k<xs.length) (hy:k<ys.length) (h:xs.take k=ys.take k) (e:xs[k]?.getD r0=ys[k]?.getD r0):xs.take (k+1)=ys.take (k+1):=by exact XXzUO
theorem fit_at {rs:List R} (h:∀r∈rs,Fit r) (k:Nat) (hk:k<rs.length):Fit (rs[k]?.getD r0):=by rw [BT hk];exact h _ (Cb hk)
section code
set_option maxHeartbeats 2000000
theorem XX1o1 {P:Prop} (h:P:=by refine AJ rfl (fun ev w1 hR hb hh=>?_);have e0:=hR.old 0 rfl;have e5:=hR.old 5 rfl;have e1:=hR.old 1 rfl;simp only [Af,BZ,BR,BS,Dg] at e0 e5 e1;exact Each.std):P:=h
theorem rall_any (a:Option Addr) (n cap:Nat) (rs:List R) (b:Option Addr) (m cap2:Nat) (qs:List R) (w:World) (hv:Recs w a n rs) (hu:Recs w b m qs) (hn:n≤1000000000) (hm:m≤1000000000) (hf:∀r∈rs,Fit r) (hg:∀r∈qs,Fit r) :
 Calls EG 41 #[.slice a n cap,.slice b m cap2] w fun e w'=>e=.returned (.bool (all rs qs))∧Below w.heap.size w w':=by
 have HV:=Bo hv;have HU:=Bo hu;have HF:=Bo hf;have HG:=Bo hg;have HL:=Bo hv.1;have HM:=Bo hu.1;by_cases hnm:n=m
 ·subst hnm;clear hv hu hf hg;obtain ⟨B,hB⟩:∃B,all rs qs=B:=⟨_,rfl⟩;rw [hB];have HB:=Bo hB;clear hB;go_enter Tryz.func41,Tryz.ntmps41;go_wp2
  go_loopw [5] (fun i wr=>∃k:Nat,k≤n∧i=.int .i64 k∧Hid (rs.take k=qs.take k)∧Hid (Below w.heap.size w wr)) (fun i _=>n-(intOf i).toNat)
  case atStart=>exact ⟨0,CX _,rfl,Bo rfl,Bo (Am _ _)⟩
  case round=>
   obtain ⟨k,hk,rfl,hpre,hbr⟩:=hrel;rcases CV k n with hlt | hge
   ·obtain ⟨bl,off,rfl,hbl,hc⟩:=(HV.out.below hbr.out).2 (by omega)
    obtain ⟨bl',off',rfl,hbl',hc'⟩:=(HU.out.below hbr.out).2 (by omega);have hkr:k<rs.length:=by rw [HL.out];exact hlt
    have hkq:k<qs.length:=by rw [HM.out];exact hlt
    have h1:=hc k hlt;have h2:=hc' k hlt;have f1:=fit_at HF.out k hkr;have f2:=fit_at HG.out k hkq
    have HN:=Bo (take_eq rs qs k hkr hkq hpre.out)
    have HX:=Bo (show rs=qs→rs[k]?.getD r0=qs[k]?.getD r0 from fun e=>by rw [e]);clear hc hc' hkr hkq;generalize rs[k]?.getD r0=x at *;generalize qs[k]?.getD r0=y at *;obtain ⟨fa,fc,ba,bc,ta,tc,⟨c0,c1,c2,c3,c4,c5,c6⟩,hr1⟩:=h1;obtain ⟨fa',fc',ba',bc',ta',tc',⟨d0,d1,d2,d3,d4,d5,d6⟩,hr2⟩:=h2
    have HC:=Bo (fun w2 (hb:Below wr.heap.size wr w2)=>rsame_any _ _ _ _ w2 (hr1.below hb) (hr2.below hb) f1 f2)
    have HCE:=Bo (show∀w1,Below wr.heap.size wr w1→(w1.cell? ⟨bl,off+k*7,none⟩=some (.string x.m)∧w1.cell? ⟨bl,off+k*7+1,none⟩=some (.string x.x)∧w1.cell? ⟨bl,off+k*7+2,none⟩=some (.int .i64 x.k)∧w1.cell? ⟨bl,off+k*7+3,none⟩=some (.slice fa x.fs.length fc)∧w1.cell? ⟨bl,off+k*7+4,none⟩=some (.bool x.ch)∧w1.cell? ⟨bl,off+k*7+5,none⟩=some (.slice ba x.body.length bc)∧w1.cell? ⟨bl,off+k*7+6,none⟩=some (.slice ta x.ts.length tc)) from
     fun w1 hb=>⟨(hb.cell (p:=⟨bl,off+k*7,none⟩) hbl).trans c0,(hb.cell (p:=⟨bl,off+k*7+1,none⟩) hbl).trans c1,(hb.cell (p:=⟨bl,off+k*7+2,none⟩) hbl).trans c2,(hb.cell (p:=⟨bl,off+k*7+3,none⟩) hbl).trans c3,(hb.cell (p:=⟨bl,off+k*7+4,none⟩) hbl).trans c4,(hb.cell (p:=⟨bl,off+k*7+5,none⟩) hbl).trans c5,(hb.cell (p:=⟨bl,off+k*7+6,none⟩) hbl).trans c6⟩)
    have HCD:=Bo (show∀w1,Below wr.heap.size wr w1→(w1.cell? ⟨bl',off'+k*7,none⟩=some (.string y.m)∧w1.cell? ⟨bl',off'+k*7+1,none⟩=some (.string y.x)∧w1.cell? ⟨bl',off'+k*7+2,none⟩=some (.int .i64 y.k)∧w1.cell? ⟨bl',off'+k*7+3,none⟩=some (.slice fa' y.fs.length fc')∧w1.cell? ⟨bl',off'+k*7+4,none⟩=some (.bool y.ch)∧w1.cell? ⟨bl',off'+k*7+5,none⟩=some (.slice ba' y.body.length bc')∧w1.cell? ⟨bl',off'+k*7+6,none⟩=some (.slice ta' y.ts.length tc')) from
     fun w1 hb=>⟨(hb.cell (p:=⟨bl',off'+k*7,none⟩) hbl').trans d0,(hb.cell (p:=⟨bl',off'+k*7+1,none⟩) hbl').trans d1,(hb.cell (p:=⟨bl',off'+k*7+2,none⟩) hbl').trans d2,(hb.cell (p:=⟨bl',off'+k*7+3,none⟩) hbl').trans d3,(hb.cell (p:=⟨bl',off'+k*7+4,none⟩) hbl').trans d4,(hb.cell (p:=⟨bl',off'+k*7+5,none⟩) hbl').trans d5,(hb.cell (p:=⟨bl',off'+k*7+6,none⟩) hbl').trans d6⟩)
    have i1:(k:Int)<(n:Int):=by omega
    clear hr1 hr2 f1 f2 c0 c1 c2 c3 c4 c5 c6 d0 d1 d2 d3 d4 d5 d6
    have hdr:=Bo (Aj (Am wr.heap.size wr) 1);obtain ⟨z,hz⟩:∃z,same x y=z:=⟨_,rfl⟩;rw [hz] at HC;have HZ:=Bo hz;clear hz;go_wp2_with fail;refine AO 10 [17,18,19,20,21,22,23,24,25,26]
     [eQ (.slice (some ⟨bl,off,none⟩) n cap),
       eQ (.int .i64 ((k:Nat):Int)),
       eQ (.pointer (some ⟨bl,off+k*7,none⟩)),
       eQ (.agg #[.string x.m,.string x.x,.int .i64 x.k,.slice fa x.fs.length fc,.bool x.ch,.slice ba x.body.length bc,.slice ta x.ts.length tc]),
       eQ ((.slice (some ⟨bl',off',none⟩) n cap2)),
       eQ (.int .i64 ((k:Nat):Int)),
       eQ (.pointer (some ⟨bl',off'+k*7,none⟩)),
       eQ (.agg #[.string y.m,.string y.x,.int .i64 y.k,.slice fa' y.fs.length fc',.bool y.ch,.slice ba' y.body.length bc',.slice ta' y.ts.length tc']),
       eQ (.bool z),
       eQ (.bool (!z))]
      (by kernel_rfl) (by kernel_rfl) (by kernel_rfl) (by kernel_rfl) (fun _ _ d _ _ h=>by cases d<;>exact h) (by rfl) (by rfl)
     (by repeat first | exact trivial | refine ⟨AI _,?_⟩) ?_ ?_
    ·refine ⟨?_,?_,?_,?_,?_,?_,?_,?_,?_,?_,trivial⟩
     ·exact XX1o1
     ·exact XX1o1
     ·exact XX1o1
     ·refine AJ rfl (fun ev w1 hR hb hh=>?_);have e19:(ev (.tmp 19)=.pointer (some ⟨bl,off+k*7,none⟩)):=hh.at 0;clear hh
      obtain ⟨q0,q1,q2,q3,q4,q5,q6⟩:=HCE.out w1 (hdr.out.trans (hb.mono (CQ _)));exact XXqTe
     ·exact XX1o1
     ·exact XX1o1
     ·exact XX1o1
     ·refine AJ rfl (fun ev w1 hR hb hh=>?_);have e23:(ev (.tmp 23)=.pointer (some ⟨bl',off'+k*7,none⟩)):=hh.at 0;clear hh
      obtain ⟨q0,q1,q2,q3,q4,q5,q6⟩:=HCD.out w1 (hdr.out.trans (hb.mono (CQ _)));exact XXqTe
     ·refine AJ rfl (fun ev w1 hR hb hh=>?_);have e20:(ev (.tmp 20)=.agg #[.string x.m,.string x.x,.int .i64 x.k,.slice fa x.fs.length fc,.bool x.ch,.slice ba x.body.length bc,.slice ta x.ts.length tc]):=hh.at 0;have e24:(ev (.tmp 24)=.agg #[.string y.m,.string y.x,.int .i64 y.k,.slice fa' y.fs.length fc',.bool y.ch,.slice ba' y.body.length bc',.slice ta' y.ts.length tc']):=hh.at 1;clear hh;have ef:=hR.func
      refine AE 64 #[.agg #[.string x.m,.string x.x,.int .i64 x.k,.slice fa x.fs.length fc,.bool x.ch,.slice ba x.body.length bc,.slice ta x.ts.length tc],.agg #[.string y.m,.string y.x,.int .i64 y.k,.slice fa' y.fs.length fc',.bool y.ch,.slice ba' y.body.length bc',.slice ta' y.ts.length tc']] (by go_simp) ((HC.out w1 (hdr.out.trans (hb.mono (CQ _)))).mono ?_);rintro e w2 ⟨rfl,hb2⟩;exact ⟨_,rfl,hb2,rfl⟩
     ·exact XX1o1
    intro g1 w2 hb hf;have z26:(g1 26=.bool (!z)):=hf.at 9;clear hf;simp only [AM,Ab,C8,CB,CA];rw [z26]
    have H3:=Bo (Ak hbr.out hb);clear hb;cases z with
    | true=>
      have HE:=Bo (HN.out ((same_iff _ _).1 HZ.out));clear HN HX HZ;go_wp2;go_roundw
      case rel=>exact ⟨k+1,by omega,by go_num,HE,H3⟩
      case measure=>simp [intOf];omega
    | false=>
      have HE:=Bo (show B=false by
       rw [←HB.out,Bool.eq_false_iff];intro e
       have:=(same_iff _ _).2 (HX.out ((all_iff _ _).1 e));rw [HZ.out] at this;cases this)
      clear HN HX HZ;go_wp2;go_ret;exact ⟨by first | rfl |(rw [HE.out];rfl),H3.out⟩
   ·obtain rfl:k=n:=by omega
    have HE:=Bo (show B=true by
     rw [←HB.out,all_iff];have:=hpre.out
     rwa [CE (by rw [HL.out];omega),CE (by rw [HM.out];omega)] at this)
    clear hpre;go_wp2;go_ret;exact ⟨by first | rfl |(rw [HE.out];rfl),hbr.out⟩
 ·have e:all rs qs=false:=all_len rs qs (by rw [hv.1,hu.1];exact hnm);have t0:((n:Int)==(m:Int))=false:=by rw [beq_eq_false_iff_ne];omega
  have t1:¬(n:Int)=(m:Int):=by omega
  rw [e];clear hv hu hf hg e hnm;go_enter Tryz.func41,Tryz.ntmps41;go_wp2;go_ret;exact ⟨rfl,Am _ _⟩
end code
end Go.Proofs.YtldhlecknfomjaaGreatDoor.Rec
namespace Go.Proofs.YtldhlecknfomjaaGreatDoor.Flt
open Go.RowKit Base Txt Par Pg
structure F where
 x:Q
 y:Q
 code:Nat
 parted:Bool
def F.judge (f:F) (s l:Nat) (alike:Bool):F:=
 if s≠0 then {f with code:=s,parted:=l==0} else if (!(l==0) || !alike)=true then {f with code:=400,parted:=true} else f
section
variable (p:Nat) (b:Bd)
def F.look (f:F) (c:UInt8):F × List Dt:=
 let x:=f.x.byte 0 b c
 let y:=f.y.byte p b c
 (F.judge ⟨x.told,y.told,f.code,f.parted⟩ x.err y.err (Rec.all x.out y.out),if Rec.all x.out y.out=true then x.out else [])
def F.byte (f:F) (c:UInt8):F × List Dt:=if f.code=0 then f.look p b c else (f,[])
def F.feed:F→List UInt8→F × List Dt
 | f,[]=>(f,[])
 | f,c::l=>((F.feed (f.byte p b c).1 l).1,(f.byte p b c).2++(F.feed (f.byte p b c).1 l).2)
def F.new:F:=⟨Q.new 0 b,Q.new p b,(Q.new p b).err,false⟩
def F.held (f:F):Nat:=max f.x.held f.y.held
end
section
variable {p:Nat} {b:Bd}
def F.Just (p:Nat) (b:Bd) (f:F):Prop:=
 (f.code=0∧f.parted=false∧∃t,f.x=.live t∧t.Strict∧t.out= []∧f.y=.live (t.wide p)∧t.Ok∧b.right=true∧∃s,RR 0 b t s)∨(f.code≠0∧∃o,f.x=.dead f.code o)
theorem Ok.fit {t:T} (h:t.Ok):Rec.Fit t.r:=
 ⟨by have:=h.m;omega,by have:=h.x;omega,by have:=h.fsl;have:=h.hl;omega,fun y hy=>by have:=h.fss y hy;have:=h.hl;omega,by have:=h.body;omega,by have:=h.tsl;have:=h.bl;omega,fun y hy=>by have:=h.tss y hy;have:=h.bl;omega⟩
theorem line_told (t:T) (s:List UInt8):(t.line p b s).2.out=t.out∨(t.line p b s).2.out=t.out ++ [t.r]:=by
 unfold T.line;split
 ·unfold T.first;split
  ·exact .inl rfl
  ·simp only;split<;>exact .inl rfl
 ·split
  ·unfold T.fields;split
   ·unfold T.endHead;simp only;split
    ·exact .inl rfl
    ·split
     ·exact .inl rfl
     ·split
      ·exact .inr rfl
      ·exact .inl rfl
   ·exact .inl rfl
  ·split
   ·unfold T.chunk;simp only;split
    ·exact .inl rfl
    ·split
     ·exact .inl rfl
     ·split<;>exact .inl rfl
   ·split
    ·unfold T.trail;split
     ·exact .inr rfl
     ·exact .inl rfl
    ·exact .inl rfl
theorem ends_out (x:Nat × T):(ends x).out=x.2.out:=by unfold ends;split<;>rfl
def Fits (o:List Dt):Prop:=∀r∈o,Rec.Fit r
theorem inLine_fits {t:T} (h:Fits t.out) (ok:t.Ok) (c:UInt8):Fits (t.inLine p b c).1.out:=by
 unfold T.inLine;simp only;split
 ·exact h
 ·split
  ·exact h
  ·split
   ·split
    ·exact h
    ·exact h
   ·show Fits (ends _).out;rw [ends_out];have hf:Rec.Fit t.r:=Ok.fit ok;rcases line_told (p:=p) (b:=b) {t with rd:=t.rd.byte c} (t.rd.byte c).line with e | e
    ·rw [e];exact h
    ·rw [e];intro r hr;rcases List.mem_append.1 hr with hr | hr
     ·exact h r hr
     ·rw [C2.1 hr];exact hf
theorem look_fits {t:T} (h:Fits t.out) (ok:t.Ok) (hb:b.right=true) (c:UInt8):Fits (t.look p b c).1.out:=by
 unfold T.look;split
 ·rename_i hs;have hk:Rec.Fit (t.keep c).r:=by
   have h1:=Ok.fit ok;have h2:=ok.left hs;exact ⟨h1.m,h1.x,h1.fs,h1.f,by have:=ok.body;show (t.r.body ++ [c]).length≤_;rw [Ci,List.length_singleton];omega,h1.ts,h1.t⟩
  show Fits (if t.left=1 then (t.keep c).endData p else t.keep c).out;split
  ·unfold T.endData;split
   ·exact h
   ·intro r hr;rcases List.mem_append.1 hr with hr | hr
    ·exact h r hr
    ·rw [C2.1 hr];exact hk
  ·exact h
 ·split
  ·rename_i hh;split
   ·show Fits t.out;exact h
   ·rename_i hx;exact inLine_fits (by rw [counted_out];exact h) (ok.counted hb hx) c
  ·exact inLine_fits h ok c
theorem byte_fits {x:Q} (h:Fits x.out) (ok:x.Fine b) (c:UInt8):Fits (x.byte p b c).out:=by
 cases x with
 | dead e o=>exact h
 | live t=>
   obtain ⟨h1,h2⟩:=ok;show Fits (t.take p b c).out;unfold T.take;have k1:=look_fits (p:=p) (b:=b) (t:={t with cnt:=false}) h h1.cleared h2 c;rcases hq:T.look p b {t with cnt:=false} c with ⟨q,u⟩;rw [hq] at k1;cases q with
   | dead e o=>cases u<;>exact k1
   | live t1=>
     cases u with
     | true=>exact k1
     | false=>exact look_fits k1 (h1.cleared.look h2 c (by rw [hq])) h2 c
end
end Go.Proofs.YtldhlecknfomjaaGreatDoor.Flt
namespace Go.Proofs.YtldhlecknfomjaaGreatDoor.Pg
open Go.RowKit Base Txt Par
def T.pre (o:List Dt) (t:T):T:={t with out:=o++t.out}
def Q.pre (o:List Dt):Q→Q
 | .live t=>.live (t.pre o)
 | .dead e x=>.dead e (o++x)
section
variable {p:Nat} {b:Bd} {t:T} {o:List Dt} {s:List UInt8} {c:UInt8}
theorem line_err:(t.line p b s).1≠20:=by
 unfold T.line;split
 ·unfold T.first;split
  ·dsimp only;split<;>simp
  ·dsimp only;rcases request_facts (Rq.clOf p) b.od s with ⟨h, -⟩ | h | h
   ·simp [h]
   ·simp [h]
   ·simp [h]
 ·split
  ·unfold T.fields;split
   ·unfold T.endHead;rcases decide_facts (Frm.clOf p) b.ch b.x3 t.r.k t.r.fs with e | ⟨n, -,e⟩ | ⟨x,hx,e⟩
    ·simp [e]
    ·rw [e];dsimp only;simp only [ne_eq,not_true_eq_false,if_false,Int.reduceEq];split<;>simp
    ·rw [e];rcases hx with rfl | rfl | rfl<;>simp
   ·show listE _≠20;cases hv:fieldV p t.hl t.r.fs s b.x1 with
    | inl e=>rcases fieldV_err hv with e1 | e1<;> (subst e1;decide)
    | inr l=>exact (by decide:(0:Nat)≠20)
  ·split
   ·unfold T.chunk;rcases chunk_facts (Do p 27) (Do p 28) b.x4 b.x3 s with ⟨h, -⟩ | h | h
    ·dsimp only;rw [if_neg (by rw [h];decide)];split
     ·exact (by decide:(0:Nat)≠20)
     ·split<;>simp
    ·dsimp only;rw [if_pos (by rw [h];decide)];show Int.toNat _≠20;rw [h];decide
    ·dsimp only;rw [if_pos (by rw [h];decide)];show Int.toNat _≠20;rw [h];decide
   ·split
    ·unfold T.trail;split
     ·exact (by decide:(0:Nat)≠20)
     ·show listE _≠20;cases hv:fieldV p t.bl t.r.ts s b.x5 with
      | inl e=>rcases fieldV_err hv with e1 | e1<;> (subst e1;decide)
      | inr l=>exact (by decide:(0:Nat)≠20)
    ·exact (by decide:(0:Nat)≠20)
theorem ends_no (x:Nat × T) (h:x.1≠20):(ends x).err≠20:=by
 unfold ends;split
 ·show (0:Nat)≠20;decide
 ·exact h
theorem longE_no (st:Nat):longE st≠20:=by
 unfold longE;split
 ·decide
 ·split<;>simp
theorem inLine_no:(t.inLine p b c).1.err≠20:=by
 unfold T.inLine;dsimp only;split
 ·show (0:Nat)≠20;decide
 ·split
  ·show (400:Nat)≠20;decide
  ·split
   ·split
    ·show (0:Nat)≠20;decide
    ·exact longE_no _
   ·exact ends_no _ line_err
theorem look_no:(t.look p b c).1.err≠20:=by
 unfold T.look;split
 ·show (0:Nat)≠20;decide
 ·split
  ·split
   ·show (431:Nat)≠20;decide
   ·exact inLine_no
  ·exact inLine_no
theorem take_no:(t.take p b c).err≠20:=by
 unfold T.take
 have h:=look_no (p:=p) (b:=b) (t:={t with cnt:=false}) (c:=c);rcases hq:({t with cnt:=false}:T).look p b c with ⟨x,u⟩;rw [hq] at h;cases x with
 | dead e1 o1=>cases u<;>exact h
 | live t1=>
   cases u with
   | true=>exact h
   | false=>exact look_no
theorem feed_no (l:List UInt8):∀{x:Q},x.err≠20→(x.feed p b l).err≠20:=by
 induction l with
 | nil=>intro x h;exact h
 | cons c l ih=>
   intro x h;refine ih (x:=x.byte p b c) ?_;cases x with
   | live t=>exact take_no
   | dead e o1=>exact h
theorem read_form (l:List UInt8):((Q.read p b l).err=20)↔¬(b.right=true∧p<1073741824):=by
 unfold Q.read Q.new;by_cases h:(b.right&&decide (p<1073741824))=true
 ·rw [if_pos h];have h':b.right=true∧p<1073741824:=by simpa using h
  refine ⟨fun e=>absurd e (feed_no l (x:=.live (T.new p b)) (by show (0:Nat)≠20;decide)),fun e=>absurd h' e⟩
 ·rw [if_neg h,feed_dead];have h':¬(b.right=true∧p<1073741824):=by simpa using h
  exact ⟨fun _=>h',fun _=>rfl⟩
end
end Go.Proofs.YtldhlecknfomjaaGreatDoor.Pg
namespace Go.Proofs.YtldhlecknfomjaaGreatDoor.Flt
open Go.RowKit Base Txt Par Pg
section
variable {p:Nat} {b:Bd} {t:T} {s:List UInt8} {c:UInt8}
end
end Go.Proofs.YtldhlecknfomjaaGreatDoor.Flt
namespace Go.Proofs.YtldhlecknfomjaaGreatDoor.Par
open Go.RowKit Base Txt Mem Each
section code
set_option maxHeartbeats 4000000
set_option maxRecDepth 20000
attribute [local go_sem] Al
variable {w:World} {B:Zone} {g q:Nat} {v f bd t o:Value} {p:Nat} {b:Bd} {s:S} {x:Pg.Q} {L:List (Option Nat)}
theorem dfeed_any (hp:p<4294967296) (h:DQ w B g p b L x) (xo:x.out= []) (a:Option Addr) (ca:Nat) (ls:List (List UInt8)) (hl:Pg.Parts L w a ls) (hn:ls.length≤1000000) (hout:2*ls.flatten.length≤999999998) :
 Calls EG 40 #[ptr g,.slice a ls.length ca] w fun r w'=>∃o L',r=.returned o∧DQ w' B g p b L' (x.feed p b ls.flatten).told∧Pg.Told L' B w' o (x.feed p b ls.flatten).out∧Step L L' w w':=by
 obtain ⟨s,hr,ok,hd⟩:=h;have ho:s.out= []:=(Pg.said_sim hr ok).2.1.trans xo;obtain ⟨z26,⟨o0,c26⟩,hrun,hst⟩:=hd.start ho;have HR:=Bo hr;have HOK:=Bo ok;have HU:=Bo hrun;have HS0:=Bo hst;have HL:=Bo (hl.step hst);have HOU:=Bo hout;have HXO:=Bo xo;obtain ⟨n,hnn⟩:∃n,ls.length=n:=⟨_,rfl⟩;have HN:=Bo hnn;have hn1:n≤1000000:=by omega
 rw [hnn];clear hd hr ok hrun hst hl hout xo ho hn hnn;go_enter Tryz.func40,Tryz.ntmps40;go_upto_region 3 with fail
 generalize w.setCell ⟨g,26,none⟩ nil=W1 at *;clear z26 c26
 go_loopw [5] (fun i wr=>∃k:Nat,k≤n∧i=.int .i64 k∧Hid (∃Lr,Run wr B g p b Lr (s.feed p b (ls.take k).flatten)∧Step L Lr W1 wr)) (fun i _=>n-(intOf i).toNat)
 case atStart=>exact ⟨0,CX _,rfl,Bo ⟨L,HU.out,Step.refl⟩⟩
 case round=>
  obtain ⟨k,hk,rfl,hR⟩:=hrel;rcases CV k n with hlt | hge
  ·obtain ⟨Lr,hA,hS⟩:=hR.out;have hkl:k<ls.length:=by rw [HN.out];exact hlt
   obtain ⟨bk,off,rfl, -, -, -⟩:=HL.out.cells (by omega);have htk:(ls.take (k+1)).flatten=(ls.take k).flatten++ls[k]:=by rw [CF hkl,List.flatten_append];simp
   have hsum:(ls.take (k+1)).flatten.length≤ls.flatten.length:=by exact XX086
   rw [htk,Ci] at hsum;have t1:(k:Int)<(n:Int):=by omega
   have HTK:=Bo htk;obtain ⟨pl,hpl⟩:∃pl,ls[k]=pl:=⟨_,rfl⟩;rw [hpl] at hsum HTK;obtain ⟨m,hm⟩:∃m,pl.length=m:=⟨_,rfl⟩;rw [hm] at hsum;have HM:=Bo hm;obtain ⟨q0,hq0⟩:∃q0,(ls.take k).flatten=q0:=⟨_,rfl⟩;rw [hq0] at hA hsum HTK;have hsum2:2*(q0.length+m)≤999999998:=by have:=HOU.out;omega
   have HSUM:=Bo hsum2;have hm9:m≤1000000000:=by omega
   have HCE:=Bo (show∀(wq:World) (Lq:List (Option Nat)),Step L Lq W1 wq→∃ak ck,wq.cell? ⟨bk,off+k,none⟩=some (.slice ak m ck)∧Pg.Bts Lq wq ak pl from fun wq Lq hS=>by obtain ⟨bk',off',e, -, -,hc⟩:=(HL.out.step hS).cells (by omega);cases e;obtain ⟨ak,ck,h1,h2⟩:=hc k hkl;rw [hpl,hm] at h1;rw [hpl] at h2;exact ⟨ak,ck,h1,h2⟩)
   have HA:=Bo hA;have HS:=Bo hS;clear hA hS hsum hsum2 htk hpl hm hR hq0 hkl;go_upto_region 6 with fail
   go_loopw [6] (fun j wq=>∃i:Nat,i≤m∧j=.int .i64 i∧Hid (∃Lq,Run wq B g p b Lq (s.feed p b (q0++pl.take i))∧Step L Lq W1 wq)) (fun j _=>m-(intOf j).toNat)
   case atStart=>exact ⟨0,CX _,rfl,Bo ⟨Lr,by rw [List.take_zero,B9];exact HA.out,HS.out⟩⟩
   case round=>
    obtain ⟨i,hi,rfl,hR2⟩:=hrel;rcases CV i m with hilt | hige
    ·obtain ⟨Lq,hA2,hS2⟩:=hR2.out;have hil:i<pl.length:=by rw [HM.out];exact hilt
     obtain ⟨ak,ck,hcell,hbt⟩:=HCE.out _ _ hS2
     obtain ⟨zb,zo,rfl,hzb,hz⟩:=hbt.nums.2 (by omega);have hbyte:=hz i hil;have hti:pl.take (i+1)=pl.take i ++ [pl[i]]:=CF hil;have hgi:(pl.map fun c=>(c.toNat:Int))[i]?.getD 0=(pl[i].toNat:Int):=by simp [hil]
     rw [hgi] at hbyte;have HTI:=Bo hti;obtain ⟨c,hc⟩:∃c,pl[i]=c:=⟨_,rfl⟩;rw [hc] at hbyte HTI;have t2:(i:Int)<(m:Int):=by omega
     obtain ⟨hr3,ok3⟩:=Pg.feed_sim (q0++pl.take i) HR.out HOK.out;have hou3:(s.feed p b (q0++pl.take i)).out.length≤999999998:=by rw [(Pg.said_sim hr3 ok3).2.1];have h1:=Pg.Q.feed_out (p:=p) (b:=b) (q0++pl.take i) x;have h2:=HSUM.out;rw [HXO.out,Ci,Ct] at h1;simp only [List.length_nil] at h1;omega
     have HTA:=Bo (byteRun_any hp c hA2 hr3 ok3 hou3);have HS2:=Bo hS2;clear hA2 hS2 hz hzb hti hgi hc hr3 ok3 hou3 hR2 hbt
     go_wp2_with (go_at_call 97;with_reducible refine HTA.out.mono ?_;rintro r w5 ⟨rfl,L5,hA5,hS5⟩);go_roundw
     case rel=>exact ⟨i+1,by omega,by go_num,Bo ⟨L5,by rw [HTI.out,←List.append_assoc,S.feed_app];exact hA5,HS2.out.trans hS5⟩⟩
     case measure=>simp [intOf];omega
    ·obtain rfl:i=m:=by omega
     have t2:¬(i:Int)<(i:Int):=by omega
     obtain ⟨Lq,hA2,hS2⟩:=hR2.out;obtain ⟨ak,ck,hcell,hbt⟩:=HCE.out _ _ hS2
     have e:pl.take i=pl:=CE (by rw [HM.out];exact CQ _);rw [e,←HTK.out] at hA2;have HA2:=Bo hA2;have HS2:=Bo hS2;clear hA2 hS2 e hR2 hbt;exact XXMED
  ·obtain rfl:k=n:=by omega
   have t1:¬(k:Int)<(k:Int):=by omega
   obtain ⟨Lr,hA,hS⟩:=hR.out
   have e:ls.take k=ls:=CE (by rw [HN.out];exact CQ _);rw [e] at hA;obtain ⟨o,L2,c26,hA2,hT2,hS2⟩:=hA.tell;obtain ⟨hr3,ok3⟩:=Pg.feed_sim ls.flatten HR.out HOK.out;have e2:=(Pg.said_sim hr3 ok3).2.1;rw [e2] at hT2
   have HA2:=Bo (show DQ wr B g p b L2 (x.feed p b ls.flatten).told from ⟨_,Pg.told_sim hr3,Pg.told_fine ok3,hA2.told⟩);have HT2:=Bo hT2;have HS2:=Bo ((HS0.out.trans hS).trans hS2);clear hA hS hR e hA2 hT2 hS2 hr3 ok3 e2;go_wp2_with fail;go_ret;exact ⟨o,rfl,L2,HA2.out,HT2.out,HS2.out⟩
theorem told_clean' (X:Pg.Q):X.told.clean=X.clean:=Pg.told_clean X
theorem told_err' (X:Pg.Q):X.told.err=X.err:=Pg.told_err X
theorem qnew_out:(Pg.Q.new p b).out= []:=by unfold Pg.Q.new;split<;>rfl
theorem XX5SR {P:Prop} (h:P:=by refine AJ rfl (fun ev w1 hR hb hh=>?_);have e10:=hR.old 10 rfl;have e9:=hR.old 9 rfl;simp only [Af,BZ,BR,BS,Dg] at e10 e9;have q25:=HDQ.out w1 hb;exact Each.std):P:=h
theorem dread_any (hp:p<4294967296) (w:World) (a:Option Addr) (c:Nat) (l:List UInt8) (hl:Pg.Bts [] w a l) (hn:l.length≤400000000):Calls EG 19 #[.int .u32 (p:Int),.agg #[.int .i64 b.x0,.int .i64 b.x1,.int .i64 b.x2,.int .i64 b.x3,.int .i64 b.x4,.int .i64 b.x5,.int .i64 b.x6,.int .i64 b.x7,.bool b.ch,.bool b.od],.slice a l.length c] w fun r w'=>
 ∃o L B0,r=.returned (.tuple #[o,.int .i64 ((Pg.Q.read p b l).err:Int),.bool (Pg.Q.read p b l).clean])∧Pg.Told L B0 w' o (Pg.Q.read p b l).out∧Below w.heap.size w w':=by
 have HB0:=Bo (((Am _ _).alloc (CQ _) (.cells #[.int .i64 b.x0,.int .i64 b.x1,.int .i64 b.x2,.int .i64 b.x3,.int .i64 b.x4,.int .i64 b.x5,.int .i64 b.x6,.int .i64 b.x7,.bool b.ch,.bool b.od] 29)):Below w.heap.size w _)
 have HZ0:=Bo (Ds w w.heap.size rfl 29 [.int .i64 b.x0,.int .i64 b.x1,.int .i64 b.x2,.int .i64 b.x3,.int .i64 b.x4,.int .i64 b.x5,.int .i64 b.x6,.int .i64 b.x7,.bool b.ch,.bool b.od])
 have HSZ:=Bo (show w.heap.size<(w.alloc (.cells #[.int .i64 b.x0,.int .i64 b.x1,.int .i64 b.x2,.int .i64 b.x3,.int .i64 b.x4,.int .i64 b.x5,.int .i64 b.x6,.int .i64 b.x7,.bool b.ch,.bool b.od] 29)).heap.size by simp);have HL:=Bo hl;have HN:=Bo hn;unfold Pg.Q.read;obtain ⟨X,hX⟩:∃X,Pg.Q.feed p b (Pg.Q.new p b) l=X:=⟨_,rfl⟩;rw [hX];have HX:=Bo hX;obtain ⟨m,hm⟩:∃m,l.length=m:=⟨_,rfl⟩;have HM:=Bo hm;rw [hm];clear hl hn hm hX;go_enter Tryz.func19,Tryz.ntmps19;go_upto_region 1 with fail
 generalize w.alloc (.cells #[.int .i64 b.x0,.int .i64 b.x1,.int .i64 b.x2,.int .i64 b.x3,.int .i64 b.x4,.int .i64 b.x5,.int .i64 b.x6,.int .i64 b.x7,.bool b.ch,.bool b.od] 29)=W0 at *;have y0:=HZ0.out.c 0 _ rfl;have y1:=HZ0.out.c 1 _ rfl;have y2:=HZ0.out.c 2 _ rfl;have y3:=HZ0.out.c 3 _ rfl;have y4:=HZ0.out.c 4 _ rfl;have y5:=HZ0.out.c 5 _ rfl;have y6:=HZ0.out.c 6 _ rfl;have y7:=HZ0.out.c 7 _ rfl;have y8:=HZ0.out.c 8 _ rfl;have y9:=HZ0.out.c 9 _ rfl
 have HNW:=Bo (dnew_any (b:=b) hp W0);go_upto_region 2 with
  (go_at_call 38;with_reducible refine HNW.out.mono ?_;rintro r w1 ⟨g,L1,rfl,hg,hA,hb1⟩
   have HG:=Bo hg;have HA:=Bo hA;have HB1:=Bo hb1;clear hg hA hb1)
 have hlow:=HA.out.low;have hlA:Pg.Bts L1 w1 a l:=by exact XXIoU
 have hpa:=Pg.Parts.one (c:=c) hlA HA.out.in 23;rw [HM.out] at hpa;have hb2:Below w1.heap.size w1 (w1.alloc (.cells #[.slice a m c] 23)):=(Am _ _).alloc (CQ _) _
 have hfe:=dfeed_any hp (HA.out.below hb2) qnew_out (some ⟨w1.heap.size,0,none⟩) 1 [l] hpa (by simp) (by have h2:=HN.out;simp only [List.flatten_cons,List.flatten_nil,B9];omega)
 have efl: [l].flatten=l:=by simp
 rw [efl] at hfe
 have HFE:=Bo (show Calls EG 40 #[ptr g,.slice (some ⟨w1.heap.size,0,none⟩) 1 1] (w1.alloc (.cells #[.slice a m c] 23)) fun r w'=>∃o L',r=.returned o∧DQ w' ⟨W0.heap.size,[]⟩ g p b L' (Pg.Q.feed p b (Pg.Q.new p b) l).told∧Pg.Told L' ⟨W0.heap.size,[]⟩ w' o (Pg.Q.feed p b (Pg.Q.new p b) l).out∧Step L1 L' (w1.alloc (.cells #[.slice a m c] 23)) w' from hfe);have HLOW:=Bo hlow
 have HB2:=Bo (Ak (Ak HB0.out HB1.out) hb2);rw [HX.out] at HFE;clear hlA hpa hb2 hfe efl hlow y0 y1 y2 y3 y4 y5 y6 y7 y8 y9;go_upto_region 3 with
  (go_at_call 40;with_reducible refine HFE.out.mono ?_;rintro r w3 ⟨o,L',rfl,hA3,hT3,hS3⟩
   have HCL:=Bo (fun w4 (hb:Below (w3.drewN 1).heap.size (w3.drewN 1) w4)=>show Calls EG 48 #[ptr g] w4 fun r w'=>r=.returned (.bool X.clean)∧w'=w4 from told_clean' X ▸ dclean_any (hA3.below ((Aj (Am _ _) 1).trans hb)))
   have HDQ:=Bo (fun w4 (hb:Below (w3.drewN 1).heap.size (w3.drewN 1) w4)=>show w4.cell? ⟨g,25,none⟩=some (.int .i64 (X.err:Int)) from told_err' X ▸ (hA3.below ((Aj (Am _ _) 1).trans hb)).e);have HT3:=Bo hT3;have HS3:=Bo hS3;clear hA3 hT3 hS3)
 refine AO 10 [18,19,20,21,22,23,24,6,7,8]
  [eQ (o),
    eQ (.pointer (some ⟨g,0,none⟩)),
    eQ (.pointer (some ⟨g,0,none⟩)),
    eQ (.pointer (some ⟨g,25,none⟩)),
    eQ (.int .i64 (X.err:Int)),
    eQ (.pointer (some ⟨g,0,none⟩)),
    eQ (.bool X.clean),
    eQ (o),
    eQ (.int .i64 (X.err:Int)),
    eQ (.bool X.clean)]
   (by kernel_rfl) (by kernel_rfl) (by kernel_rfl) (by kernel_rfl) (fun _ _ d _ _ h=>by cases d<;>exact h) (by rfl) (by rfl)
  (by repeat first | exact trivial | refine ⟨AI _,?_⟩) ?_ ?_
 ·refine ⟨?_,?_,?_,?_,?_,?_,?_,?_,?_,?_,trivial⟩
  ·exact XX5SR
  ·exact XX5SR
  ·exact XX5SR
  ·exact XX5SR
  ·exact XX5SR
  ·exact XX5SR
  ·refine AJ rfl (fun ev w1 hR hb hh=>?_);have e23:(ev (.tmp 23)=.pointer (some ⟨g,0,none⟩)):=hh.at 0;clear hh;have ef:=hR.func
   refine AE 48 #[ptr g] (by go_simp) ((HCL.out w1 hb).mono ?_);rintro r w2 ⟨rfl,hw⟩;rw [hw];exact ⟨_,rfl,Am _ _,rfl⟩
  ·exact XX5SR
  ·exact XX5SR
  ·exact XX5SR
 intro ga w4 hb4 hf;have z6:(ga 6=o):=hf.at 7;have z7:(ga 7=.int .i64 (X.err:Int)):=hf.at 8;have z8:(ga 8=.bool X.clean):=hf.at 9;clear hf;simp only [AM,Ab,C8,CB,CA];rw [z6];rw [z7];rw [z8];have HB4:=Bo hb4;clear hb4 HCL HDQ HFE;go_wp2;refine bodyPost_ret (v:=.tuple #[o,.int .i64 (X.err:Int),.bool X.clean]) (by simp [results,Tryz.results19,go_sem]) rfl ?_
 have hb3:Below w.heap.size w w3:=HB2.out.trans (HS3.out.keeps.below HB2.out.size (fun k hk=>by have:=HLOW.out k hk;have:=HSZ.out;omega));have hb34:Below w3.heap.size w3 w4:=HB4.out;exact ⟨_,_,_,rfl,HT3.out.step (D9 hb34),Ak hb3 hb34⟩
theorem feed_fits (l:List UInt8):∀{x:Pg.Q},Flt.Fits x.out→x.Fine b→Flt.Fits (x.feed p b l).out:=by
 induction l with
 | nil=>intro x h _;exact h
 | cons c l ih=>intro x h ok;exact ih (Flt.byte_fits h ok c) (ok.byte c)
theorem read_fits (l:List UInt8):Flt.Fits (Pg.Q.read p b l).out:=feed_fits l (by rw [qnew_out];intro r hr;cases hr) (fine_new p b)
theorem read_few (l:List UInt8):(Pg.Q.read p b l).out.length≤2*l.length:=by have:=Pg.Q.feed_out (p:=p) (b:=b) l (Pg.Q.new p b);rw [qnew_out] at this;show (Pg.Q.feed p b (Pg.Q.new p b) l).out.length≤_;simpa using this
end code
end Go.Proofs.YtldhlecknfomjaaGreatDoor.Par
namespace Go.Proofs.YtldhlecknfomjaaGreatDoor.Flt
open Go.RowKit Base Txt Mem Par Pg Each
abbrev fcells (g1 g2:Nat) (code:Nat) (pt:Bool):List Value:= [ptr g1,ptr g2,.int .i64 (code:Int),.bool pt]
structure FAt (w:World) (B g g1 g2 p:Nat) (b:Bd) (L1 L2:List (Option Nat)) (f:F):Prop where
 row:w.heap[g]?=some (.cells (fcells g1 g2 f.code f.parted).toArray 99 (0,0))
 x:∃Z,At w ⟨B,Z⟩ g1 0 b L1 f.x
 y:∃Z,At w ⟨B,Z⟩ g2 p b L2 f.y
 dis:Dis L1 L2
 n1:some g∉L1
 n2:some g∉L2
 ge:B≤g
 xo:f.x.out= []
 yo:f.y.out= []
 xk:f.x.Ok b
 yk:f.y.Ok b
abbrev fblks (g:Nat) (L1 L2:List (Option Nat)):List (Option Nat):=some g::(L1++L2)
section
variable {w w':World} {B g g1 g2 p:Nat} {b:Bd} {L1 L2 M:List (Option Nat)} {f:F}
structure Fix (M:List (Option Nat)) (w:World) (g:Nat) (cs:List Value):Prop where
 row:∃ty,w.heap[g]?=some (.cells cs.toArray ty (0,0))
 off:some g∉M
def OneBy (M:List (Option Nat)) (a:Option Addr) (c:Nat):Fact:=fun v w=>∃k,v=.slice (some ⟨k,0,none⟩) 1 1∧k<w.heap.size∧some k∉M∧w.cell? ⟨k,0,none⟩=some (.slice a 1 c)
def ToldBy (A' C C':World→List (Option Nat)→Prop) (L2 Z:List (Option Nat)) (B:Nat) (out:List Dt):Fact:=fun v w=>∃M1 M2,A' w M1∧(C w M2∨C' w M2)∧Dis M1 L2∧Pg.Told M1 ⟨B,L2++(M2++Z)⟩ w v out
variable {A A' C C':World→List (Option Nat)→Prop} {Z:List (Option Nat)} {out:List Dt} {i1 i2 k:Nat} {l:List Oper}
theorem told_recs {B:Zone} {L:List (Option Nat)} {v:Value} (h:Pg.Told L B w v out):∃a c,v=.slice a out.length c∧Rec.Recs w a out.length out:=by
 obtain ⟨a,c,e,hc⟩:=h.at;refine ⟨a,c,e,rfl,fun h0=>?_⟩;obtain ⟨bk,e1,hlt,h1⟩:=hc h0;refine ⟨bk,0,e1,hlt,fun k hk=>?_⟩;obtain ⟨fa,fc,ba,bc,ta,tc,f1,f2,f3,c0,c1,c2,c3,c4,c5,c6⟩:=h1 k hk;have e2:out[k]?.getD Rec.r0=out[k]:=by rw [BT hk];rfl
 rw [e2,CW];exact ⟨fa,fc,ba,bc,ta,tc,⟨c0,c1,c2,c3,c4,c5,c6⟩,fa,fc,ba,bc,ta,tc,rfl,f1,f2,f3⟩
end
end Go.Proofs.YtldhlecknfomjaaGreatDoor.Flt
namespace Go.Proofs.YtldhlecknfomjaaGreatDoor.Pg
open Go.RowKit Base Txt Mem Par Each
abbrev wide:Bd:=⟨4096,100,65536,1048576,256,100,16,1000,true,true⟩
abbrev bdL (b:Bd):List Value:= [.int .i64 b.x0,.int .i64 b.x1,.int .i64 b.x2,.int .i64 b.x3,.int .i64 b.x4,.int .i64 b.x5,.int .i64 b.x6,.int .i64 b.x7,.bool b.ch,.bool b.od]
abbrev threeC (r:Bd):List Value:= [.int .i64 r.x0,.int .i64 r.x1,.int .i64 r.x2,.int .i64 r.x3,.int .i64 r.x4,.int .i64 r.x5,.int .i64 r.x6,.int .i64 r.x7,.bool r.ch,.bool r.od,.int .i64 1024,.int .i64 32,.int .i64 8192,.int .i64 65536,.int .i64 32,.int .i64 8,.int .i64 4,.int .i64 20,.bool true,.bool true,.int .i64 4096,.int .i64 100,.int .i64 65536,.int .i64 1048576,.int .i64 256,.int .i64 100,.int .i64 16,.int .i64 1000,.bool true,.bool true]
def bOf (r:Bd) (k:Nat):Bd:=if k=0 then r else if k=1 then usual else wide
theorem three_at (r:Bd) (k:Nat) (hk:k<3) (j:Nat) (u:Value) (hu:(bdL (bOf r k))[j]?=some u):(threeC r)[k*10+j]?=some u:=by
 have hj:j<10:=(List.getElem?_eq_some_iff.1 hu).1;have hk3:k=0∨k=1∨k=2:=by omega
 rcases hk3 with rfl | rfl | rfl<;>
 (rcases j with _ | _ | _ | _ | _ | _ | _ | _ | _ | _ | j
  ·exact hu
  ·exact hu
  ·exact hu
  ·exact hu
  ·exact hu
  ·exact hu
  ·exact hu
  ·exact hu
  ·exact hu
  ·exact hu
  ·omega)
def BThree (r:Bd):Fact:=fun v w=>∃g,v=.slice (some ⟨g,0,none⟩) 3 3∧g<w.heap.size∧∀k,k<3→∀j u,(bdL (bOf r k))[j]?=some u→w.cell? ⟨g,k*10+j,none⟩=some u
theorem BThree.lasts {r:Bd}:AH (BThree r):=fun _ _ _ hb ⟨g,e,hl,hc⟩=>⟨g,e,CU hl hb.size,fun k hk j u hu=>(hb.cell (p:=⟨g,k*10+j,none⟩) hl).trans (hc k hk j u hu)⟩
theorem BThree.made (w:World) (r:Bd) (ty:TypeId):BThree r (.slice (some ⟨w.heap.size,0,none⟩) 3 3) (w.alloc (.cells (threeC r).toArray ty)):=
 ⟨w.heap.size,rfl,by simp,fun k hk j u hu=>by rw [cell_of_row _ _ _ _ ty (0,0) (heap_alloc_new w _),BZ];exact three_at r k hk j u hu⟩
theorem bytes_nums {w:World} {g:Nat} {l:List UInt8} (h:By.Bytes w g l) (hlt:g<w.heap.size):Bts [] w (some ⟨g,0,none⟩) l:=by
 refine ⟨⟨by simp,fun _=>⟨g,0,rfl,hlt,fun j hj=>?_⟩⟩,fun ad e=>?_⟩
 ·rw [CW,(h j hj).1,BW,BT hj];rfl
 ·cases e;exact ⟨(fun hm=>by cases hm),hlt⟩
theorem bts_below {w w':World} {a:Option Addr} {l:List UInt8} (h:Bts [] w a l) (hb:Below w.heap.size w w'):Bts [] w' a l:=h.step (D9 hb)
section code
set_option maxHeartbeats 8000000
set_option maxRecDepth 100000
attribute [local go_sem] Al
theorem XX86c {P:Prop} (h:P:=by
 clear HE
 go_wp2_with (first
  |(go_at_call 50;with_reducible refine (HBR.out _).mono ?_;rintro r w9 ⟨rfl,hb⟩;have HBY:=Bo (Ak HBX.out hb);clear hb)
  |(go_at_call 41;with_reducible refine HAL.out.mono ?_;rintro r w9 ⟨rfl,hb⟩
    have x0:=(HZZ.out _ hb).c 0 _ rfl;have x1:=(HZZ.out _ hb).c 1 _ rfl;have x2:=(HZZ.out _ hb).c 2 _ rfl;have x3:=(HZZ.out _ hb).c 3 _ rfl;have x4:=(HZZ.out _ hb).c 4 _ rfl;have x5:=(HZZ.out _ hb).c 5 _ rfl;have x6:=(HZZ.out _ hb).c 6 _ rfl;have x7:=(HZZ.out _ hb).c 7 _ rfl;have x8:=(HZZ.out _ hb).c 8 _ rfl;have x9:=(HZZ.out _ hb).c 9 _ rfl;have HBX:=Bo (Ak HB9.out hb);clear hb))
 go_roundw
 case rel=>exact ⟨k+1,by omega,by go_num,Bo HBY.out⟩
 case measure=>simp [intOf];omega):P:=h
theorem XXiCB {P:Prop} (h:P:=by refine AJ rfl (fun ev w1 hR hb hh=>?_);have e3:=hR.old 3 rfl;simp only [Af,BZ,BR,BS,Dg] at e3;have q0:=(HQ.out.below hb).c 0 _ rfl;have q1:=(HQ.out.below hb).c 1 _ rfl;have q2:=(HQ.out.below hb).c 2 _ rfl;have q3:=(HQ.out.below hb).c 3 _ rfl;have q4:=(HQ.out.below hb).c 4 _ rfl;have q5:=(HQ.out.below hb).c 5 _ rfl;have q6:=(HQ.out.below hb).c 6 _ rfl;have q7:=(HQ.out.below hb).c 7 _ rfl;have q8:=(HQ.out.below hb).c 8 _ rfl;have q9:=(HQ.out.below hb).c 9 _ rfl;have ec:=hR.const;exact Each.std):P:=h
theorem parserForms_any (rw0:Bd) (p:Nat) (la:Option Addr) (ln cap:Nat) (zs:List Int) (w:World) (hp:p<4294967296) (hv:Nums .u8 w la ln zs) (hln:ln≤maxLen) (hlc:ln≤cap) :
 Calls EG 9 #[.agg #[.int .i64 rw0.x0,.int .i64 rw0.x1,.int .i64 rw0.x2,.int .i64 rw0.x3,.int .i64 rw0.x4,.int .i64 rw0.x5,.int .i64 rw0.x6,.int .i64 rw0.x7,.bool rw0.ch,.bool rw0.od],.int .u32 (p:Int),.slice la ln cap] w fun e w'=>e=.returned (.bool true)∧Below w.heap.size w w':=by
 have HB0:=Bo (((Am _ _).alloc (CQ _) (.cells #[.int .i64 rw0.x0,.int .i64 rw0.x1,.int .i64 rw0.x2,.int .i64 rw0.x3,.int .i64 rw0.x4,.int .i64 rw0.x5,.int .i64 rw0.x6,.int .i64 rw0.x7,.bool rw0.ch,.bool rw0.od] 29)):Below w.heap.size w _)
 have HZ0:=Bo (Ds w w.heap.size rfl 29 [.int .i64 rw0.x0,.int .i64 rw0.x1,.int .i64 rw0.x2,.int .i64 rw0.x3,.int .i64 rw0.x4,.int .i64 rw0.x5,.int .i64 rw0.x6,.int .i64 rw0.x7,.bool rw0.ch,.bool rw0.od])
 have HV:=Bo (hv.below HB0.out)
 have HKN:=Bo (fun w=>known_any w);clear hv;have hmx:ln≤9223372036854775807:=by unfold maxLen at hln;omega
 by_cases h10:10<ln
 ·have t1:(10:Int)<(ln:Int):=by omega
  go_enter Tryz.func9,Tryz.ntmps9;go_upto_region 1 with fail
  generalize w.alloc (.cells #[.int .i64 rw0.x0,.int .i64 rw0.x1,.int .i64 rw0.x2,.int .i64 rw0.x3,.int .i64 rw0.x4,.int .i64 rw0.x5,.int .i64 rw0.x6,.int .i64 rw0.x7,.bool rw0.ch,.bool rw0.od] 29)=W0 at *
  go_wp2_with (go_at_call 34;with_reducible refine (HKN.out _).mono ?_;rintro r w2 ⟨rfl,hb⟩;have HB2:=Bo hb;clear hb);go_ret;exact ⟨rfl,Ak HB0.out HB2.out⟩
 ·have t1:¬(10:Int)<(ln:Int):=by omega
  have HST:=Bo (fun w2 (hb:Below (w.alloc (.cells #[.int .i64 rw0.x0,.int .i64 rw0.x1,.int .i64 rw0.x2,.int .i64 rw0.x3,.int .i64 rw0.x4,.int .i64 rw0.x5,.int .i64 rw0.x6,.int .i64 rw0.x7,.bool rw0.ch,.bool rw0.od] 29)).heap.size (w.alloc (.cells #[.int .i64 rw0.x0,.int .i64 rw0.x1,.int .i64 rw0.x2,.int .i64 rw0.x3,.int .i64 rw0.x4,.int .i64 rw0.x5,.int .i64 rw0.x6,.int .i64 rw0.x7,.bool rw0.ch,.bool rw0.od] 29)) w2)=>Rq.stream_any la ln cap zs w2 (HV.out.below hb) (by omega) hlc);go_enter Tryz.func9,Tryz.ntmps9;go_upto_region 1 with fail
  generalize w.alloc (.cells #[.int .i64 rw0.x0,.int .i64 rw0.x1,.int .i64 rw0.x2,.int .i64 rw0.x3,.int .i64 rw0.x4,.int .i64 rw0.x5,.int .i64 rw0.x6,.int .i64 rw0.x7,.bool rw0.ch,.bool rw0.od] 29)=W0 at *
  go_upto_region 6 with (first
   |(go_at_call 21;with_reducible refine (HST.out _ HB2.out).mono ?_;rintro r w3 ⟨gs,s,c,rfl,hsc,hsl,hgw,hgs,hby,hb⟩
     have HB3:=Bo (Ak HB2.out hb);have HBT:=Bo (bytes_nums hby hgs);have HSL:=Bo hsl;clear hsc hsl hgw hgs hby hb)
   |(go_at_call 34;with_reducible refine (HKN.out _).mono ?_;rintro r w2 ⟨rfl,hb⟩;have HB2:=Bo hb;clear hb))
  obtain ⟨g0,hg0⟩:∃g0,w.heap.size=g0:=⟨_,rfl⟩
  have HZ3:=Bo (HZ0.out.below HB3.out)
  have HQ:=Bo ((HZ0.out.below HB3.out).below (Aj (Am _ _) 1));rw [hg0] at HZ3 HQ ⊢
  have HB4:=Bo (show Below g0 w w3 from hg0 ▸ Ak HB0.out HB3.out);have HG0:=Bo hg0;clear hg0;refine AO 6 [23,24,25,26,27,28]
   [eQ (bdV rw0),
     eQ (bdV usual),
     eQ (bdV wide),
     BThree rw0,
     eQ (.int .i64 3),
     eQ (.int .i64 0)]
    (by kernel_rfl) (by kernel_rfl) (by kernel_rfl) (by kernel_rfl) (fun _ _ d _ _ h=>by cases d<;>exact h) (by rfl) (by rfl)
   ⟨AI _,AI _,AI _,(BThree.lasts),AI _,AI _,trivial⟩ ?_ ?_
  ·refine ⟨?_,?_,?_,?_,?_,?_,trivial⟩
   ·exact XXiCB
   ·refine AJ rfl (fun ev w1 hR hb hh=>?_);clear hh;have ef:=hR.func
    refine AE 20 #[] (by go_simp) ((Bnd.rusual_any _).mono ?_);exact XXUgj
   ·refine AJ rfl (fun ev w1 hR hb hh=>?_);clear hh;have ef:=hR.func
    refine AE 31 #[] (by go_simp) ((Bnd.rwide_any _).mono ?_);exact XXUgj
   ·refine AJ rfl (fun ev w1 hR hb hh=>?_);have e23:(ev (.tmp 23)=bdV rw0):=hh.at 0;have e24:(ev (.tmp 24)=bdV usual):=hh.at 1;have e25:(ev (.tmp 25)=bdV wide):=hh.at 2;clear hh
    exact AD.value (.slice (some ⟨w1.heap.size,0,none⟩) 3 3) (w1.alloc (.cells (threeC rw0).toArray 29)) (by go_simp) ((Am _ _).alloc (CQ _) _) (BThree.made w1 rw0 _)
   ·refine AJ rfl (fun ev w1 hR hb hh=>?_);have e26:((BThree rw0) (ev (.tmp 26)) w1):=hh.at 0;clear hh;obtain ⟨gq,eq,hq⟩:=e26;exact XXqTe
   ·exact XXiCB
  intro ga w4 hb4 hf;have z26:((BThree rw0) (ga 26) w4):=hf.at 3;have z27:(ga 27=.int .i64 3):=hf.at 4;have z28:(ga 28=.int .i64 0):=hf.at 5;clear hf;simp only [AM,Ab,C8,CB,CA];rw [z27];rw [z28];obtain ⟨gb,eb,hgb,hcb⟩:=z26;rw [eb]
  have HB5:=Bo (show Below g0 w w4 from (HB4.out.trans (hb4.mono (by have:=HB4.out.size;have:=HG0.out;omega))));have HCB:=Bo hcb;have HGB:=Bo hgb
  have HBT4:=Bo (bts_below HBT.out hb4);clear hb4 hcb hgb eb z27 z28 HQ HZ3;obtain ⟨n,hn⟩:∃n,s.length=n:=⟨_,rfl⟩;have hsn:n≤2500:=by have:=HSL.out;omega
  have HN:=Bo hn;rw [hn];clear hn;go_upto_region 7 with fail
  go_loopw [28] (fun i wr=>∃k:Nat,k≤3∧i=.int .i64 k∧Hid (Below w4.heap.size w4 wr)) (fun i _=>3-(intOf i).toNat)
  case atStart=>exact ⟨0,by omega,rfl,Bo (Am _ _)⟩
  case round=>
   obtain ⟨k,hk,rfl,hR⟩:=hrel;rcases CV k 3 with hlt | hge
   ·have t2:(k:Int)<3:=by omega
    obtain ⟨bb,hbb⟩:∃bb,bOf rw0 k=bb:=⟨_,rfl⟩
    have hcell:∀j u,(bdL bb)[j]?=some u→wr.cell? ⟨gb,k*10+j,none⟩=some u:=fun j u hu=>(hR.out.cell (p:=⟨gb,k*10+j,none⟩) HGB.out).trans (HCB.out k hlt j u (by rw [hbb];exact hu));have y0:wr.cell? ⟨gb,k*10,none⟩=some (.int .i64 bb.x0):=hcell 0 _ rfl;have y1:=hcell 1 _ rfl;have y2:=hcell 2 _ rfl;have y3:=hcell 3 _ rfl;have y4:=hcell 4 _ rfl;have y5:=hcell 5 _ rfl;have y6:=hcell 6 _ rfl;have y7:=hcell 7 _ rfl;have y8:=hcell 8 _ rfl;have y9:=hcell 9 _ rfl;clear hcell hbb;go_upto_region 9 with fail
    clear y0 y1 y2 y3 y4 y5 y6 y7 y8 y9
    have HB6:=Bo (hR.out.alloc hR.out.size (.cells #[.int .i64 bb.x0,.int .i64 bb.x1,.int .i64 bb.x2,.int .i64 bb.x3,.int .i64 bb.x4,.int .i64 bb.x5,.int .i64 bb.x6,.int .i64 bb.x7,.bool bb.ch,.bool bb.od] 29))
    have HZ6:=Bo (Ds wr wr.heap.size rfl 29 [.int .i64 bb.x0,.int .i64 bb.x1,.int .i64 bb.x2,.int .i64 bb.x3,.int .i64 bb.x4,.int .i64 bb.x5,.int .i64 bb.x6,.int .i64 bb.x7,.bool bb.ch,.bool bb.od]);generalize wr.alloc (.cells #[.int .i64 bb.x0,.int .i64 bb.x1,.int .i64 bb.x2,.int .i64 bb.x3,.int .i64 bb.x4,.int .i64 bb.x5,.int .i64 bb.x6,.int .i64 bb.x7,.bool bb.ch,.bool bb.od] 29)=W6 at *;generalize wr.heap.size=g6 at *;have y0:=HZ6.out.c 0 _ rfl;have y1:=HZ6.out.c 1 _ rfl;have y2:=HZ6.out.c 2 _ rfl;have y3:=HZ6.out.c 3 _ rfl;have y4:=HZ6.out.c 4 _ rfl;have y5:=HZ6.out.c 5 _ rfl;have y6:=HZ6.out.c 6 _ rfl;have y7:=HZ6.out.c 7 _ rfl;have y8:=HZ6.out.c 8 _ rfl;have y9:=HZ6.out.c 9 _ rfl
    have HE:=Bo (read_form (p:=p) (b:=bb) s)
    have HRD:=Bo (read_any (b:=bb) hp W6 (some ⟨gs,0,none⟩) c s (bts_below HBT4.out HB6.out) (by have:=HN.out;omega))
    have HRR:=Bo (fun w7 (hb:Below W6.heap.size W6 w7)=>dread_any (b:=bb) hp w7 (some ⟨gs,0,none⟩) c s (bts_below HBT4.out (Ak HB6.out hb)) (by have:=HN.out;omega))
    have HOF:=Bo (read_fits (p:=p) (b:=bb) s)
    have HOL:=Bo (show (Q.read p bb s).out.length≤1000000000 from CT (read_few s) (by have:=HN.out;omega));rw [HN.out] at HRD HRR;obtain ⟨E,hE⟩:∃E,(Q.read p bb s).err=E:=⟨_,rfl⟩;obtain ⟨C,hC⟩:∃C,(Q.read p bb s).clean=C:=⟨_,rfl⟩;obtain ⟨O,hO⟩:∃O,(Q.read p bb s).out=O:=⟨_,rfl⟩;rw [hE] at HRD HRR HE;rw [hC] at HRD HRR;rw [hO] at HRD HRR HOF HOL;clear hE hC hO;go_upto_region 10 with
     (go_at_call 49;with_reducible refine HRD.out.mono ?_;rintro r w7 ⟨o7,L7,B7,rfl,hT,hb⟩
      obtain ⟨a7,c7,rfl,hrec⟩:=Flt.told_recs hT
      have HB7:=Bo hb;have HR7:=Bo hrec;have HZ7:=Bo (HZ6.out.below hb);clear hb hT hrec)
    clear y0 y1 y2 y3 y4 y5 y6 y7 y8 y9;have y0:=HZ7.out.c 0 _ rfl;have y1:=HZ7.out.c 1 _ rfl;have y2:=HZ7.out.c 2 _ rfl;have y3:=HZ7.out.c 3 _ rfl;have y4:=HZ7.out.c 4 _ rfl;have y5:=HZ7.out.c 5 _ rfl;have y6:=HZ7.out.c 6 _ rfl;have y7:=HZ7.out.c 7 _ rfl;have y8:=HZ7.out.c 8 _ rfl;have y9:=HZ7.out.c 9 _ rfl;go_upto_region 11 with
     (go_at_call 19;with_reducible refine (HRR.out _ HB7.out).mono ?_;rintro r w8 ⟨o8,L8,B8,rfl,hT,hb⟩
      obtain ⟨a8,c8,rfl,hrec⟩:=Flt.told_recs hT
      have HB8:=Bo hb;have HR8:=Bo hrec;have HZ8:=Bo (HZ7.out.below hb)
      have HR78:=Bo (Rec.Recs.below HR7.out hb);clear hb hT hrec)
    clear y0 y1 y2 y3 y4 y5 y6 y7 y8 y9;have hall:Rec.all O O=true:=(Rec.all_iff O O).2 rfl;have hal:=Rec.rall_any a7 O.length c7 O a8 O.length c8 O w8 HR78.out HR8.out HOL.out HOL.out HOF.out HOF.out;rw [hall] at hal;have HAL:=Bo hal
    have HBR:=Bo (fun w=>Bnd.rright_any bb.x0 bb.x1 bb.x2 bb.x3 bb.x4 bb.x5 bb.x6 bb.x7 bb.ch bb.od w)
    have HB9:=Bo (Ak (Ak HB6.out HB7.out) HB8.out)
    have HRI:=Bo (show Bnd.right bb.x0 bb.x1 bb.x2 bb.x3 bb.x4 bb.x5 bb.x6 bb.x7=bb.right from rfl);rw [HRI.out] at HBR
    have HZZ:=Bo (fun w9 (hb:Below w8.heap.size w8 w9)=>HZ8.out.below hb);have cc:(C != C)=false:=by cases C<;>rfl
    clear hall hal HRI HRD HRR HR7 HR8 HR78 HZ6 HZ7 HZ8 HB7 HB8 HOF HOL;have hcase:(bb.right=false∧E=20)∨(bb.right=true∧p<1073741824∧E≠20)∨(bb.right=true∧¬p<1073741824∧E=20):=by
     have h:=HE.out;by_cases h1:bb.right=true
     ·by_cases h2:p<1073741824
      ·exact .inr (.inl ⟨h1,h2,fun e=>h.1 e ⟨h1,h2⟩⟩)
      ·exact .inr (.inr ⟨h1,h2,h.2 fun hh=>h2 hh.2⟩)
     ·exact .inl ⟨by simpa using h1,h.2 fun hh=>h1 hh.1⟩
    rcases hcase with ⟨h1,rfl⟩ | ⟨h1,h2,h3⟩ | ⟨h1,h2,rfl⟩
    ·rw [h1] at HBR;clear h1;exact XX86c
    ·rw [h1] at HBR
     have t5:((E:Int)==20)=false:=beq_eq_false_iff_ne.2 (by omega);have n5:¬(E:Int)=20:=by omega
     have t6:decide ((1073741824:Int)≤(p:Int))=false:=decide_eq_false (by omega)
     have t7:decide (1073741824≤p)=false:=decide_eq_false (by omega);clear h1 h2 h3;exact XX86c
    ·rw [h1] at HBR
     have t6:decide ((1073741824:Int)≤(p:Int))=true:=decide_eq_true (by omega)
     have t7:decide (1073741824≤p)=true:=decide_eq_true (by omega);clear h1 h2;exact XX86c
   ·obtain rfl:k=3:=by omega
    have HB6:=Bo hR.out;go_wp2_with fail;go_ret;exact ⟨rfl,by rw [HG0.out];exact HB5.out.trans (HB6.out.mono (by have:=HB5.out.size;have:=HG0.out;omega))⟩
end code
end Go.Proofs.YtldhlecknfomjaaGreatDoor.Pg
namespace Go.Proofs.YtldhlecknfomjaaGreatDoor.Pg
open Go.RowKit Base Mem Par
theorem parserForms_law (x0 x1 x2 x3 x4 x5 x6 x7:Int) (ch od:Bool) (p:Int) (hp:0≤p∧p≤4294967295) (la:Option Addr) (ln cap:Nat) (zs:List Int) (w:World) (hv:Nums .u8 w la ln zs) (hln:ln≤maxLen) (hlc:ln≤cap) :
 Calls EG 9 #[.agg #[.int .i64 x0,.int .i64 x1,.int .i64 x2,.int .i64 x3,.int .i64 x4,.int .i64 x5,.int .i64 x6,.int .i64 x7,.bool ch,.bool od],.int .u32 p,.slice la ln cap] w fun e w'=>e=.returned (.bool true)∧Below w.heap.size w w':=by
 obtain ⟨p,rfl⟩:=Int.eq_ofNat_of_zero_le hp.1;exact parserForms_any ⟨x0,x1,x2,x3,x4,x5,x6,x7,ch,od⟩ p la ln cap zs w (by omega) hv hln hlc
end Go.Proofs.YtldhlecknfomjaaGreatDoor.Pg
