import Derived.Test.YtimoakmcelocfaaGreatAwf
namespace Go.Proofs.YtimoakmcelocfaaGreat.Par
open Go.RowKit Base Txt Mem
structure PlainOk (p:Nat) (s:S) (c:UInt8):Prop where
 e:s.e=0
 fit:Fits s
 st:lined s.st∨s.st=2∨s.st=4
 left:bodied s.st=true→1≤s.left∧s.left≤2000000
 line:lined s.st→LineOk p s.rd∧s.rd.CR=false∧(s.st=5→s.rd.how c=4→Qk.has p 29=false)
theorem PlainOk.of {p:Nat} {s s2:S} {c:UInt8} (h:PlainOk p s c) {k:Nat} {cl:Bool} (h2:s2={s with head:=k,clean:=cl}):PlainOk p s2 c:=by subst h2;exact ⟨h.e,⟨h.fit.lines,h.fit.fss,h.fit.fsl,h.fit.tss,h.fit.tsl,h.fit.body,h.fit.out⟩,h.st,h.left,h.line⟩
section code
set_option maxHeartbeats 4000000
set_option maxRecDepth 20000
attribute [local go_sem] Base.some_undef
variable {w:World} {B:Zone} {g q:Nat} {v f bd t o:Value} {p:Nat} {b:Bd} {s:S}
theorem once_any (hp:p<4294967296) (h3:16≤b.x3∧b.x3≤1048576) (h4:0≤b.x4) (c:UInt8) (h:PR w B g q v f bd t o p b s) (ok:PlainOk p s c) :
 Calls Tryz.prog 57 #[ptr g,.int .u8 (c.toNat:Int)] w fun r w'=>r=.returned (.tuple #[])∧∃q1 v1 f1 bd1 t1 o1,PR w' B g q1 v1 f1 bd1 t1 o1 p b (s.plain p b c)∧Step (blks g q v f bd t o) (blks g q1 v1 f1 bd1 t1 o1) w w':=by
 have key:∀hst:s.st=2∨s.st=4,Calls Tryz.prog 57 #[ptr g,.int .u8 (c.toNat:Int)] w fun r w'=>
  r=.returned (.tuple #[])∧∃q1 v1 f1 bd1 t1 o1,PR w' B g q1 v1 f1 bd1 t1 o1 p b (s.plain p b c)∧Step (blks g q v f bd t o) (blks g q1 v1 f1 bd1 t1 o1) w w':=by
  intro hst;have hb:bodied s.st=true:=by rcases hst with e | e<;>rw [e]<;>rfl
  have e:s.plain p b c=S.bodyB p b {s with fresh:=false} c:=by unfold S.plain;simp [hb]
  rw [e];exact body_any c h hst (ok.left hb) ok.fit.body ok.fit.out
 rcases ok.st with hs | hs | hs
 ·obtain ⟨h5,h6,h7⟩:=ok.line hs;exact plain_any hp h3 h4 c h hs ok.e ok.fit h5 h6 h7
 ·exact key (.inl hs)
 ·exact key (.inr hs)
theorem countOnce_any (hp:p<4294967296) (h3:16≤b.x3∧b.x3≤1048576) (h4:0≤b.x4) (c:UInt8) (h:PR w B g q v f bd t o p b s) (ok:PlainOk p s c) (hh:s.head≤1000000) :
 Calls Tryz.prog 37 #[ptr g,.int .u8 (c.toNat:Int)] w fun r w'=>r=.returned (.tuple #[])∧∃q1 v1 f1 bd1 t1 o1,PR w' B g q1 v1 f1 bd1 t1 o1 p b (s.count b fun s=>s.plain p b c)∧Step (blks g q v f bd t o) (blks g q1 v1 f1 bd1 t1 o1) w w':=
 count_any c (fun s=>s.plain p b c) h ok.e hh fun w2 s2 hs h2=>once_any hp h3 h4 c h2 (by
  rcases hs with ⟨-,e, -⟩ | ⟨-,e⟩
  ·exact ok.of e
  ·exact ok.of (k:=s.head) (by rw [e]))
theorem again_any (hp:p<4294967296) (h3:16≤b.x3∧b.x3≤1048576) (h4:0≤b.x4) (c:UInt8) (was:Nat) (h:PR w B g q v f bd t o p b s) (ok:PlainOk p s c) (hh:s.head≤1000000) (hw:lined was) :
 Calls Tryz.prog 73 #[ptr g,.int .u8 (c.toNat:Int),.int .i64 (was:Int)] w fun r w'=>r=.returned (.tuple #[])∧∃q1 v1 f1 bd1 t1 o1,PR w' B g q1 v1 f1 bd1 t1 o1 p b (S.again p b s c was)∧Step (blks g q v f bd t o) (blks g q1 v1 f1 bd1 t1 o1) w w':=by
 have c11:=h.cs.c11;have c24:=h.cs.c24;have z24:=h.marks 24
 have H2:=Lib.hid (h.put 24 (.bool false) {s with clean:=false} rfl rfl rfl rfl rfl rfl)
 have HS2:=Lib.hid (Step.set (w:=w) (L:=blks g q v f bd t o) g 24 (.bool false) (by simp));have ok2:PlainOk p {s with clean:=false} c:=ok.of (k:=s.head) rfl
 have HBy:=Lib.hid (countOnce_any hp h3 h4 c h ok hh)
 have HC:=Lib.hid (countOnce_any hp h3 h4 c H2.out ok2 hh)
 have HP:=Lib.hid (once_any hp h3 h4 c H2.out ok2);clear ok ok2 hh;rcases hw with rfl | rfl | rfl | rfl | rfl
 ·rcases (by omega:s.st=0∨s.st=6∨(¬s.st=0∧¬s.st=6)) with hst | hst | ⟨n0,n6⟩
  ·have e:S.again p b s c 0=S.plain p b {s with clean:=false} c:=by simp [S.again,headed,hst]
   rw [e]
   replace c11:w.cell? ⟨g,11,none⟩=some (.int .i64 0):=by rw [hst] at c11;exact c11
   clear e h hst;go_enter Tryz.func73,Tryz.ntmps73
   go_wp2_with (go_at_call 57;with_reducible refine HP.out.mono ?_;rintro r w3 ⟨rfl,q1,v1,f1,bd1,t1,o1,hP,hS⟩);first | go_end0 | refine bodyPost_ret (results_none rfl _ _ _) rfl ?_
   exact ⟨rfl,_,_,_,_,_,_,hP,HS2.out.trans hS⟩
  ·have e:S.again p b s c 0=S.plain p b {s with clean:=false} c:=by simp [S.again,headed,hst]
   rw [e]
   replace c11:w.cell? ⟨g,11,none⟩=some (.int .i64 6):=by rw [hst] at c11;exact c11
   clear e h hst;go_enter Tryz.func73,Tryz.ntmps73
   go_wp2_with (go_at_call 57;with_reducible refine HP.out.mono ?_;rintro r w3 ⟨rfl,q1,v1,f1,bd1,t1,o1,hP,hS⟩);first | go_end0 | refine bodyPost_ret (results_none rfl _ _ _) rfl ?_
   exact ⟨rfl,_,_,_,_,_,_,hP,HS2.out.trans hS⟩
  ·have e:S.again p b s c 0=S.plain p b {s with clean:=false} c:=by simp [S.again,headed]
   rw [e]
   have t0:((s.st:Int)==0)=false:=beq_eq_false_iff_ne.2 (by omega)
   have t6:((s.st:Int)==6)=false:=beq_eq_false_iff_ne.2 (by omega);have m0:¬(s.st:Int)=0:=by omega
   have m6:¬(s.st:Int)=6:=by omega
   clear e h;go_enter Tryz.func73,Tryz.ntmps73
   go_wp2_with (go_at_call 57;with_reducible refine HP.out.mono ?_;rintro r w3 ⟨rfl,q1,v1,f1,bd1,t1,o1,hP,hS⟩);first | go_end0 | refine bodyPost_ret (results_none rfl _ _ _) rfl ?_
   exact ⟨rfl,_,_,_,_,_,_,hP,HS2.out.trans hS⟩
 ·rcases (by omega:s.st=0∨s.st=6∨(¬s.st=0∧¬s.st=6)) with hst | hst | ⟨n0,n6⟩
  ·have e:S.again p b s c 1=s.count b fun s=>s.plain p b c:=by simp [S.again,hst]
   rw [e]
   replace c11:w.cell? ⟨g,11,none⟩=some (.int .i64 0):=by rw [hst] at c11;exact c11
   clear e h hst;go_enter Tryz.func73,Tryz.ntmps73
   go_wp2_with (go_at_call 37;with_reducible refine HBy.out.mono ?_;rintro r w3 ⟨rfl,q1,v1,f1,bd1,t1,o1,hP,hS⟩);first | go_end0 | refine bodyPost_ret (results_none rfl _ _ _) rfl ?_
   exact ⟨rfl,_,_,_,_,_,_,hP,hS⟩
  ·have e:S.again p b s c 1=S.plain p b {s with clean:=false} c:=by simp [S.again,headed,hst]
   rw [e]
   replace c11:w.cell? ⟨g,11,none⟩=some (.int .i64 6):=by rw [hst] at c11;exact c11
   clear e h hst;go_enter Tryz.func73,Tryz.ntmps73
   go_wp2_with (go_at_call 57;with_reducible refine HP.out.mono ?_;rintro r w3 ⟨rfl,q1,v1,f1,bd1,t1,o1,hP,hS⟩);first | go_end0 | refine bodyPost_ret (results_none rfl _ _ _) rfl ?_
   exact ⟨rfl,_,_,_,_,_,_,hP,HS2.out.trans hS⟩
  ·have e:S.again p b s c 1=S.plain p b {s with clean:=false} c:=by simp [S.again,headed,n0]
   rw [e]
   have t0:((s.st:Int)==0)=false:=beq_eq_false_iff_ne.2 (by omega)
   have t6:((s.st:Int)==6)=false:=beq_eq_false_iff_ne.2 (by omega);have m0:¬(s.st:Int)=0:=by omega
   have m6:¬(s.st:Int)=6:=by omega
   clear e h;go_enter Tryz.func73,Tryz.ntmps73
   go_wp2_with (go_at_call 57;with_reducible refine HP.out.mono ?_;rintro r w3 ⟨rfl,q1,v1,f1,bd1,t1,o1,hP,hS⟩);first | go_end0 | refine bodyPost_ret (results_none rfl _ _ _) rfl ?_
   exact ⟨rfl,_,_,_,_,_,_,hP,HS2.out.trans hS⟩
 ·rcases (by omega:s.st=0∨s.st=6∨(¬s.st=0∧¬s.st=6)) with hst | hst | ⟨n0,n6⟩
  ·have e:S.again p b s c 3=s.count b fun s=>s.plain p b c:=by simp [S.again,hst]
   rw [e]
   replace c11:w.cell? ⟨g,11,none⟩=some (.int .i64 0):=by rw [hst] at c11;exact c11
   clear e h hst;go_enter Tryz.func73,Tryz.ntmps73
   go_wp2_with (go_at_call 37;with_reducible refine HBy.out.mono ?_;rintro r w3 ⟨rfl,q1,v1,f1,bd1,t1,o1,hP,hS⟩);first | go_end0 | refine bodyPost_ret (results_none rfl _ _ _) rfl ?_
   exact ⟨rfl,_,_,_,_,_,_,hP,hS⟩
  ·have e:S.again p b s c 3=S.count b (fun s=>s.plain p b c) {s with clean:=false}:=by simp [S.again,headed,hst]
   rw [e]
   replace c11:w.cell? ⟨g,11,none⟩=some (.int .i64 6):=by rw [hst] at c11;exact c11
   clear e h hst;go_enter Tryz.func73,Tryz.ntmps73
   go_wp2_with (go_at_call 37;with_reducible refine HC.out.mono ?_;rintro r w3 ⟨rfl,q1,v1,f1,bd1,t1,o1,hP,hS⟩);first | go_end0 | refine bodyPost_ret (results_none rfl _ _ _) rfl ?_
   exact ⟨rfl,_,_,_,_,_,_,hP,HS2.out.trans hS⟩
  ·have e:S.again p b s c 3=S.plain p b {s with clean:=false} c:=by simp [S.again,headed,n0,n6]
   rw [e]
   have t0:((s.st:Int)==0)=false:=beq_eq_false_iff_ne.2 (by omega)
   have t6:((s.st:Int)==6)=false:=beq_eq_false_iff_ne.2 (by omega);have m0:¬(s.st:Int)=0:=by omega
   have m6:¬(s.st:Int)=6:=by omega
   clear e h;go_enter Tryz.func73,Tryz.ntmps73
   go_wp2_with (go_at_call 57;with_reducible refine HP.out.mono ?_;rintro r w3 ⟨rfl,q1,v1,f1,bd1,t1,o1,hP,hS⟩);first | go_end0 | refine bodyPost_ret (results_none rfl _ _ _) rfl ?_
   exact ⟨rfl,_,_,_,_,_,_,hP,HS2.out.trans hS⟩
 ·rcases (by omega:s.st=0∨s.st=6∨(¬s.st=0∧¬s.st=6)) with hst | hst | ⟨n0,n6⟩
  ·have e:S.again p b s c 5=s.count b fun s=>s.plain p b c:=by simp [S.again,hst]
   rw [e]
   replace c11:w.cell? ⟨g,11,none⟩=some (.int .i64 0):=by rw [hst] at c11;exact c11
   clear e h hst;go_enter Tryz.func73,Tryz.ntmps73
   go_wp2_with (go_at_call 37;with_reducible refine HBy.out.mono ?_;rintro r w3 ⟨rfl,q1,v1,f1,bd1,t1,o1,hP,hS⟩);first | go_end0 | refine bodyPost_ret (results_none rfl _ _ _) rfl ?_
   exact ⟨rfl,_,_,_,_,_,_,hP,hS⟩
  ·have e:S.again p b s c 5=S.count b (fun s=>s.plain p b c) {s with clean:=false}:=by simp [S.again,headed,hst]
   rw [e]
   replace c11:w.cell? ⟨g,11,none⟩=some (.int .i64 6):=by rw [hst] at c11;exact c11
   clear e h hst;go_enter Tryz.func73,Tryz.ntmps73
   go_wp2_with (go_at_call 37;with_reducible refine HC.out.mono ?_;rintro r w3 ⟨rfl,q1,v1,f1,bd1,t1,o1,hP,hS⟩);first | go_end0 | refine bodyPost_ret (results_none rfl _ _ _) rfl ?_
   exact ⟨rfl,_,_,_,_,_,_,hP,HS2.out.trans hS⟩
  ·have e:S.again p b s c 5=S.plain p b {s with clean:=false} c:=by simp [S.again,headed,n0,n6]
   rw [e]
   have t0:((s.st:Int)==0)=false:=beq_eq_false_iff_ne.2 (by omega)
   have t6:((s.st:Int)==6)=false:=beq_eq_false_iff_ne.2 (by omega);have m0:¬(s.st:Int)=0:=by omega
   have m6:¬(s.st:Int)=6:=by omega
   clear e h;go_enter Tryz.func73,Tryz.ntmps73
   go_wp2_with (go_at_call 57;with_reducible refine HP.out.mono ?_;rintro r w3 ⟨rfl,q1,v1,f1,bd1,t1,o1,hP,hS⟩);first | go_end0 | refine bodyPost_ret (results_none rfl _ _ _) rfl ?_
   exact ⟨rfl,_,_,_,_,_,_,hP,HS2.out.trans hS⟩
 ·rcases (by omega:s.st=0∨s.st=6∨(¬s.st=0∧¬s.st=6)) with hst | hst | ⟨n0,n6⟩
  ·have e:S.again p b s c 6=s.count b fun s=>s.plain p b c:=by simp [S.again,hst]
   rw [e]
   replace c11:w.cell? ⟨g,11,none⟩=some (.int .i64 0):=by rw [hst] at c11;exact c11
   clear e h hst;go_enter Tryz.func73,Tryz.ntmps73
   go_wp2_with (go_at_call 37;with_reducible refine HBy.out.mono ?_;rintro r w3 ⟨rfl,q1,v1,f1,bd1,t1,o1,hP,hS⟩);first | go_end0 | refine bodyPost_ret (results_none rfl _ _ _) rfl ?_
   exact ⟨rfl,_,_,_,_,_,_,hP,hS⟩
  ·have e:S.again p b s c 6=S.plain p b {s with clean:=false} c:=by simp [S.again,headed,hst]
   rw [e]
   replace c11:w.cell? ⟨g,11,none⟩=some (.int .i64 6):=by rw [hst] at c11;exact c11
   clear e h hst;go_enter Tryz.func73,Tryz.ntmps73
   go_wp2_with (go_at_call 57;with_reducible refine HP.out.mono ?_;rintro r w3 ⟨rfl,q1,v1,f1,bd1,t1,o1,hP,hS⟩);first | go_end0 | refine bodyPost_ret (results_none rfl _ _ _) rfl ?_
   exact ⟨rfl,_,_,_,_,_,_,hP,HS2.out.trans hS⟩
  ·have e:S.again p b s c 6=S.plain p b {s with clean:=false} c:=by simp [S.again,headed,n0]
   rw [e]
   have t0:((s.st:Int)==0)=false:=beq_eq_false_iff_ne.2 (by omega)
   have t6:((s.st:Int)==6)=false:=beq_eq_false_iff_ne.2 (by omega);have m0:¬(s.st:Int)=0:=by omega
   have m6:¬(s.st:Int)=6:=by omega
   clear e h;go_enter Tryz.func73,Tryz.ntmps73
   go_wp2_with (go_at_call 57;with_reducible refine HP.out.mono ?_;rintro r w3 ⟨rfl,q1,v1,f1,bd1,t1,o1,hP,hS⟩);first | go_end0 | refine bodyPost_ret (results_none rfl _ _ _) rfl ?_
   exact ⟨rfl,_,_,_,_,_,_,hP,HS2.out.trans hS⟩
end code
end Go.Proofs.YtimoakmcelocfaaGreat.Par
namespace Go.Proofs.YtimoakmcelocfaaGreat.Par
open Go.RowKit Base Txt Mem
section code
set_option maxHeartbeats 4000000
set_option maxRecDepth 20000
attribute [local go_sem] Base.some_undef
variable {w:World} {B:Zone} {g q:Nat} {v f bd t o:Value} {p:Nat} {b:Bd} {s:S}
theorem longEnd_any (hp:p<4294967296) (h3:16≤b.x3∧b.x3≤1048576) (h4:0≤b.x4) (c:UInt8) (h:PR w B g q v f bd t o p b s) (hst:s.st=5) (hh:Qk.has p 29=true) (ok:PlainOk p {s with st:=3,rd:=nl p b.x0} c):Calls Tryz.prog 71 #[ptr g,.int .u8 (c.toNat:Int)] w fun r w'=>
 r=.returned (.tuple #[])∧∃q1 v1 f1 bd1 t1 o1,PR w' B g q1 v1 f1 bd1 t1 o1 p b (S.plain p b {s with st:=3,rd:=nl p b.x0} c)∧Step (blks g q v f bd t o) (blks g q1 v1 f1 bd1 t1 o1) w w':=by
 have HH:=Lib.hid (fun w=>Qk.rhas_any p hp 29 w);rw [hh] at HH;have c11:w.cell? ⟨g,11,none⟩=some (.int .i64 5):=by have:=h.cs.c11;rw [hst] at this;exact this
 have c0:=h.cs.c0;have H:=Lib.hid h
 have HO:=Lib.hid (fun w2 q1 (h:PR w2 B g q1 nil f bd t o p b {s with st:=3,rd:=nl p b.x0})=>once_any hp h3 h4 c h ok)
 have HQ:=Lib.hid ((h.drew 1).bk)
 have HBW:=Lib.hid (show B≤(w.drewN 1).heap.size from Nat.le_trans h.own.ge (Nat.le_of_lt (h.drew 1).own.lt));clear h hst ok hh;go_enter Tryz.func71,Tryz.ntmps71
 go_upto_region 2 with (go_at_call 39;with_reducible refine (HH.out _).mono ?_;rintro r w3 ⟨rfl,hw⟩;rw [hw];clear hw)
 clear c11 c0;refine Each.region_float 12 [19,20,21,22,23,24,25,26,27,28,29,30]
  [fun v _=>v=.pointer (some ⟨g,0,none⟩),
    fun v _=>v=.pointer (some ⟨g,0,none⟩),
    fun v _=>v=.pointer (some ⟨g,0,none⟩),
    fun v _=>v=.pointer (some ⟨g,0,none⟩),
    fun v _=>v=.pointer (some ⟨g,0,none⟩),
    fun v _=>v=.int .u32 (p:Int),
    fun v _=>v=.pointer (some ⟨g,0,none⟩),
    fun v _=>v=.pointer (some ⟨g,0,none⟩),
    fun v _=>v=.pointer (some ⟨g,1,none⟩),
    fun v _=>v=.pointer (some ⟨g,1,none⟩),
    fun v _=>v=.int .i64 b.x0,
    fun v u=>∃q1,v=ptr q1∧w.heap.size≤q1∧Ln.Rr u B q1 nil p (nl p (b.x0))]
  [] 6 (some 1) (.quiet 12 (.quiet 13 (.act 14 (.quiet 15 (.quiet 16 (.act 17 .done)))))) (.quiet 1 (.quiet 12 (.quiet 13 (.act 14 (.quiet 15 (.quiet 16 (.act 17 .done))))))) (by kernel_rfl) (by kernel_rfl) (by kernel_rfl) (by kernel_rfl) (fun k0 h=>by cases h;kernel_rfl) (fun _ _ d _ _ h=>by cases d<;>exact h) (by rfl) (by rfl)
  ⟨Each.Lasts.eq _,Each.Lasts.eq _,Each.Lasts.eq _,Each.Lasts.eq _,Each.Lasts.eq _,Each.Lasts.eq _,Each.Lasts.eq _,Each.Lasts.eq _,Each.Lasts.eq _,Each.Lasts.eq _,Each.Lasts.eq _,((fun _ _ _ hb h=>by obtain ⟨q1,e1,h1,h2⟩:=h;exact ⟨q1,e1,h1,rr_below h2 hb⟩)),trivial⟩ trivial (by rfl) ?_ ?_ ?_
 ·refine ⟨?_,?_,?_,?_,?_,?_,?_,?_,?_,?_,?_,?_,trivial⟩
  ·refine Each.fine rfl (fun ev w1 hR hb hh=>?_);clear hh;have e0:=hR.old 0 rfl;simp only [Array.getD_eq_getD_getElem?,List.getElem?_toArray,List.getElem?_cons_zero,Option.getD_some] at e0;refine Each.Goes.same ?_;go_simp;try with_reducible rfl
  ·refine Each.fine rfl (fun ev w1 hR hb hh=>?_);clear hh;have e0:=hR.old 0 rfl;simp only [Array.getD_eq_getD_getElem?,List.getElem?_toArray,List.getElem?_cons_zero,Option.getD_some] at e0;refine Each.Goes.same ?_;go_simp;try with_reducible rfl
  ·refine Each.fine rfl (fun ev w1 hR hb hh=>?_);clear hh;have e0:=hR.old 0 rfl;simp only [Array.getD_eq_getD_getElem?,List.getElem?_toArray,List.getElem?_cons_zero,Option.getD_some] at e0;refine Each.Goes.same ?_;go_simp;try with_reducible rfl
  ·refine Each.fine rfl (fun ev w1 hR hb hh=>?_);have e21:(ev (.tmp 21)=.pointer (some ⟨g,0,none⟩)):=hh.at 0;clear hh;refine Each.Goes.same ?_;go_simp;try with_reducible rfl
  ·refine Each.fine rfl (fun ev w1 hR hb hh=>?_);have e22:(ev (.tmp 22)=.pointer (some ⟨g,0,none⟩)):=hh.at 0;clear hh;refine Each.Goes.same ?_;go_simp;try with_reducible rfl
  ·refine Each.fine rfl (fun ev w1 hR hb hh=>?_);have e23:(ev (.tmp 23)=.pointer (some ⟨g,0,none⟩)):=hh.at 0;clear hh;have q0:=(HQ.out.below hb).c 0 _ rfl;refine Each.Goes.same ?_;go_simp;try with_reducible rfl
  ·refine Each.fine rfl (fun ev w1 hR hb hh=>?_);clear hh;have e0:=hR.old 0 rfl;simp only [Array.getD_eq_getD_getElem?,List.getElem?_toArray,List.getElem?_cons_zero,Option.getD_some] at e0;refine Each.Goes.same ?_;go_simp;try with_reducible rfl
  ·refine Each.fine rfl (fun ev w1 hR hb hh=>?_);have e25:(ev (.tmp 25)=.pointer (some ⟨g,0,none⟩)):=hh.at 0;clear hh;refine Each.Goes.same ?_;go_simp;try with_reducible rfl
  ·refine Each.fine rfl (fun ev w1 hR hb hh=>?_);have e26:(ev (.tmp 26)=.pointer (some ⟨g,0,none⟩)):=hh.at 0;clear hh;refine Each.Goes.same ?_;go_simp;try with_reducible rfl
  ·refine Each.fine rfl (fun ev w1 hR hb hh=>?_);have e27:(ev (.tmp 27)=.pointer (some ⟨g,1,none⟩)):=hh.at 0;clear hh;refine Each.Goes.same ?_;go_simp;try with_reducible rfl
  ·refine Each.fine rfl (fun ev w1 hR hb hh=>?_);have e28:(ev (.tmp 28)=.pointer (some ⟨g,1,none⟩)):=hh.at 0;clear hh;have q1:=(HQ.out.below hb).c 1 _ rfl;refine Each.Goes.same ?_;go_simp;try with_reducible rfl
  ·refine Each.fine rfl (fun ev w1 hR hb hh=>?_);have e24:(ev (.tmp 24)=.int .u32 (p:Int)):=hh.at 0;have e29:(ev (.tmp 29)=.int .i64 b.x0):=hh.at 1;clear hh;have ef:=hR.func
   refine Each.Goes.enter 55 #[.int .u32 (p:Int),.int .i64 (b.x0)] (by go_simp) ((rnew_line B (b.x0) w1 (Nat.le_trans HBW.out hb.size)).mono ?_);rintro r w2 ⟨q1,rfl,h1,h2,hb2⟩;exact ⟨_,rfl,hb2,q1,rfl,Nat.le_trans hb.size h1,h2⟩
 ·intro g1 w2 hb hf;have z19:(g1 19=.pointer (some ⟨g,0,none⟩)):=hf.at 0;have z20:(g1 20=.pointer (some ⟨g,0,none⟩)):=hf.at 1;have z30:((fun v u=>∃q1,v=ptr q1∧w.heap.size≤q1∧Ln.Rr u B q1 nil p (nl p (b.x0))) (g1 30) w2):=hf.at 11;clear hf;obtain ⟨q1,e1,hq1,hr1⟩:=z30;simp only [Each.putg,Act.put,List.setIfInBounds_toArray,List.set_cons_zero,List.set_cons_succ];rw [e1,z19,z20];simp only [Tree.grow,Tree.put1,List.getElem?_cons_zero,List.getElem?_cons_succ];refine Tree.quiet (by rfl) (ptr g) (fun _ _=>by go_simp) ?_;simp only [Act.put,List.setIfInBounds_toArray,List.set_cons_zero,List.set_cons_succ];refine Tree.quiet (by rfl) (.pointer (some ⟨g,11,none⟩)) (fun _ _=>by go_simp) ?_;simp only [Act.put,List.setIfInBounds_toArray,List.set_cons_zero,List.set_cons_succ];have h1:=H.out.below hb;have ho:=H.out.own.line hb hr1 hq1;have d11:=h1.cs.c11;have z11:=h1.marks 11
  refine Tree.change (by rfl) (fun K hK=>?_);go_simp;refine hK _ _ trivial ?_;clear hK K;refine Tree.quiet (by rfl) (ptr g) (fun _ _=>by go_simp) ?_;simp only [Act.put,List.setIfInBounds_toArray,List.set_cons_zero,List.set_cons_succ];refine Tree.quiet (by rfl) (.pointer (some ⟨g,12,none⟩)) (fun _ _=>by go_simp) ?_;simp only [Act.put,List.setIfInBounds_toArray,List.set_cons_zero,List.set_cons_succ];have c12:=h1.cs.c12;have z12:=h1.marks 12
  refine Tree.change (by rfl) (fun K hK=>?_);go_simp;refine hK _ _ trivial ?_;clear hK K;refine Tree.done ?_;have HP2:Hid (PR ((w2.setCell ⟨g,11,none⟩ (.int .i64 3)).setCell ⟨g,12,none⟩ (ptr q1)) B g q1 nil f bd t o p b {s with st:=3,rd:=nl p b.x0}):=Lib.hid ⟨row_setL (row_setL h1.row 11 (.int .i64 3)) 12 (ptr q1),(ho.set 11 (.int .i64 3)).set 12 (ptr q1)⟩
  have HS:=Lib.hid ((Step.line (g:=g) (q:=q) (v:=v) (f:=f) (bd:=bd) (t:=t) (o:=o) hb hq1).trans ((Step.set g 11 (.int .i64 3) (by simp)).trans (Step.set g 12 (ptr q1) (by simp))))
  have HON:=Lib.hid (HO.out _ _ HP2.out);clear HQ HBW hr1 hq1 c12 z12 d11 z11 h1 ho hb HP2;generalize (w2.setCell ⟨g,11,none⟩ (.int .i64 3)).setCell ⟨g,12,none⟩ (ptr q1)=W3 at *
  go_wp2_with (go_at_call 57;with_reducible refine HON.out.mono ?_;rintro r w4 ⟨rfl,q2,v2,f2,bd2,t2,o2,hP,hS⟩);first | go_end0 | refine bodyPost_ret (results_none rfl _ _ _) rfl ?_
  exact ⟨rfl,_,_,_,_,_,_,hP,HS.out.trans hS⟩
 ·intro k0 hk0 g1 w2 hb hf;cases hk0;have z19:(g1 19=.pointer (some ⟨g,0,none⟩)):=hf.at 0;have z30:((fun v u=>∃q1,v=ptr q1∧w.heap.size≤q1∧Ln.Rr u B q1 nil p (nl p (b.x0))) (g1 30) w2):=hf.at 11;clear hf;obtain ⟨q1,e1,hq1,hr1⟩:=z30;simp only [Each.putg,Act.put,List.setIfInBounds_toArray,List.set_cons_zero,List.set_cons_succ];rw [e1,z19];simp only [Tree.grow,Tree.put1,List.getElem?_cons_zero,List.getElem?_cons_succ];refine Tree.quiet (by rfl) (ptr g) (fun _ _=>by go_simp) ?_;simp only [Act.put,List.setIfInBounds_toArray,List.set_cons_zero,List.set_cons_succ];refine Tree.quiet (by rfl) (ptr g) (fun _ _=>by go_simp) ?_;simp only [Act.put,List.setIfInBounds_toArray,List.set_cons_zero,List.set_cons_succ];refine Tree.quiet (by rfl) (.pointer (some ⟨g,11,none⟩)) (fun _ _=>by go_simp) ?_;simp only [Act.put,List.setIfInBounds_toArray,List.set_cons_zero,List.set_cons_succ];have h1:=H.out.below hb;have ho:=H.out.own.line hb hr1 hq1;have d11:=h1.cs.c11;have z11:=h1.marks 11
  refine Tree.change (by rfl) (fun K hK=>?_);go_simp;refine hK _ _ trivial ?_;clear hK K;refine Tree.quiet (by rfl) (ptr g) (fun _ _=>by go_simp) ?_;simp only [Act.put,List.setIfInBounds_toArray,List.set_cons_zero,List.set_cons_succ];refine Tree.quiet (by rfl) (.pointer (some ⟨g,12,none⟩)) (fun _ _=>by go_simp) ?_;simp only [Act.put,List.setIfInBounds_toArray,List.set_cons_zero,List.set_cons_succ];have c12:=h1.cs.c12;have z12:=h1.marks 12
  refine Tree.change (by rfl) (fun K hK=>?_);go_simp;refine hK _ _ trivial ?_;clear hK K;refine Tree.done ?_;have HP2:Hid (PR ((w2.setCell ⟨g,11,none⟩ (.int .i64 3)).setCell ⟨g,12,none⟩ (ptr q1)) B g q1 nil f bd t o p b {s with st:=3,rd:=nl p b.x0}):=Lib.hid ⟨row_setL (row_setL h1.row 11 (.int .i64 3)) 12 (ptr q1),(ho.set 11 (.int .i64 3)).set 12 (ptr q1)⟩
  have HS:=Lib.hid ((Step.line (g:=g) (q:=q) (v:=v) (f:=f) (bd:=bd) (t:=t) (o:=o) hb hq1).trans ((Step.set g 11 (.int .i64 3) (by simp)).trans (Step.set g 12 (ptr q1) (by simp))))
  have HON:=Lib.hid (HO.out _ _ HP2.out);clear HQ HBW hr1 hq1 c12 z12 d11 z11 h1 ho hb HP2;generalize (w2.setCell ⟨g,11,none⟩ (.int .i64 3)).setCell ⟨g,12,none⟩ (ptr q1)=W3 at *
  go_wp2_with (go_at_call 57;with_reducible refine HON.out.mono ?_;rintro r w4 ⟨rfl,q2,v2,f2,bd2,t2,o2,hP,hS⟩);first | go_end0 | refine bodyPost_ret (results_none rfl _ _ _) rfl ?_
  exact ⟨rfl,_,_,_,_,_,_,hP,HS.out.trans hS⟩
end code
end Go.Proofs.YtimoakmcelocfaaGreat.Par
namespace Go.Proofs.YtimoakmcelocfaaGreat.Par
open Go.RowKit Base Txt Mem
theorem how_is (q:Ln.R) (c:UInt8):q.how c=0∨q.how c=1∨q.how c=2∨q.how c=3∨q.how c=4:=by
 unfold Ln.R.how
 repeat' split
 all_goals simp
section code
set_option maxHeartbeats 4000000
set_option maxRecDepth 20000
attribute [local go_sem] Base.some_undef
variable {w:World} {B:Zone} {g q:Nat} {v f bd t o:Value} {p:Nat} {b:Bd} {s:S}
theorem byte_any (hp:p<4294967296) (h3:16≤b.x3∧b.x3≤1048576) (h4:0≤b.x4) (c:UInt8) (h:PR w B g q v f bd t o p b s) (hs:lined s.st) (he:s.e=0) (ok:Fits s) (hl:LineOk p s.rd)
 (hlong:s.st=5→s.rd.how c=4→Qk.has p 29=true→PlainOk p {s with fresh:=false,rd:=nl p b.x0,st:=3} c)
 (hag:s.rd.how c=2→(S.ended p b {s with fresh:=false,rd:=s.rd.byte c} (s.rd.byte c).L).e=0→PlainOk p (S.ended p b {s with fresh:=false,rd:=s.rd.byte c} (s.rd.byte c).L) c∧(S.ended p b {s with fresh:=false,rd:=s.rd.byte c} (s.rd.byte c).L).head≤1000000) :
 Calls Tryz.prog 57 #[ptr g,.int .u8 (c.toNat:Int)] w fun r w'=>r=.returned (.tuple #[])∧∃q1 v1 f1 bd1 t1 o1,PR w' B g q1 v1 f1 bd1 t1 o1 p b (s.byte1 p b c)∧Step (blks g q v f bd t o) (blks g q1 v1 f1 bd1 t1 o1) w w':=by
 have hbod:bodied s.st=false:=by rcases hs with e | e | e | e | e<;>rw [e]<;>rfl
 have t2:((s.st:Int)==2)=false:=beq_eq_false_iff_ne.2 (by rcases hs with e | e | e | e | e<;>omega)
 have t4:((s.st:Int)==4)=false:=beq_eq_false_iff_ne.2 (by rcases hs with e | e | e | e | e<;>omega);have n2:¬(s.st:Int)=2:=beq_eq_false_iff_ne.1 t2;have n4:¬(s.st:Int)=4:=beq_eq_false_iff_ne.1 t4;have m2:¬s.st=2:=by omega
 have m4:¬s.st=4:=by omega
 have H1:=Lib.hid (h.put 23 (.bool false) {s with fresh:=false} rfl rfl rfl rfl rfl rfl)
 have HS1:=Lib.hid (Step.set (w:=w) (L:=blks g q v f bd t o) g 23 (.bool false) (by simp));have c23:=h.cs.c23;have z23:=h.marks 23;have c11:=h.cs.c11;have hrb:=Ln.rbyte_any c s.rd hl.most p hp hl.lf hl.cr (w.setCell ⟨g,23,none⟩ (.bool false)) B q v H1.out.own.R;clear h;have hL:(s.rd.how c=1∨s.rd.how c=2)→(s.rd.byte c).L.length≤5000:=fun e=>by rw [byte_L s.rd c e];have:=hl.len;have:=hl.most;omega
 rcases how_is s.rd c with hw | hw | hw | hw | hw
 ·have e:s.byte1 p b c={s with fresh:=false,rd:=s.rd.byte c}:=by unfold S.byte1;simp [hbod,hw]
  rw [e];rw [hw] at hrb;have HRB:=Lib.hid hrb;clear e hw hL hrb hbod hs he hl ok hlong hag;go_enter Tryz.func57,Tryz.ntmps57;go_upto_region 8 with fail
  generalize w.setCell ⟨g,23,none⟩ (.bool false)=W1 at *;clear c23 z23 c11;have c12:=H1.out.cs.c12;go_wp2_with
   (go_at_call 70;with_reducible refine HRB.out.mono ?_;rintro r w2 ⟨v2,rfl,hr2,hk2,hm2⟩
    obtain ⟨hP2,hS2⟩:=H1.out.reader hk2 hm2 hr2
    have HP2:=Lib.hid hP2;have HS2:=Lib.hid (HS1.out.trans hS2);clear hr2 hk2 hm2 hP2 hS2)
  first | go_end0 | refine bodyPost_ret (results_none rfl _ _ _) rfl ?_
  exact ⟨rfl,_,_,_,_,_,_,HP2.out,HS2.out⟩
 ·have e:s.byte1 p b c=S.ended p b {s with fresh:=false,rd:=s.rd.byte c} (s.rd.byte c).L:=by unfold S.byte1;simp [hbod,hw]
  rw [e];rw [hw] at hrb;have HRB:=Lib.hid hrb;obtain ⟨x,hx⟩:∃x:ByteArray,ba (s.rd.byte c).L=x:=⟨_,rfl⟩;have hxl:(s.rd.byte c).L=x.data.toList:=by rw [←hx];simp [ba]
  have hxs:x.size≤5000:=by rw [←hx,ba_size];exact hL (.inl hw)
  have HEN:=Lib.hid (fun w2 q1 v1 (h:PR w2 B g q1 v1 f bd t o p b {s with fresh:=false,rd:=s.rd.byte c})=>ended_any hp h3 h4 x hxs h hs he ⟨ok.lines,ok.fss,ok.fsl,ok.tss,ok.tsl,ok.body,ok.out⟩);have HX:=Lib.hid hx;rw [hxl];clear e hw hL hrb hbod hs he hl ok hlong hag hx hxl hxs;go_enter Tryz.func57,Tryz.ntmps57;go_upto_region 8 with fail
  generalize w.setCell ⟨g,23,none⟩ (.bool false)=W1 at *;clear c23 z23 c11;have c12:=H1.out.cs.c12
  go_wp2_with (first
   |(go_at_call 72;with_reducible refine (HEN.out _ _ _ HP2.out).mono ?_;rintro r w3 ⟨rfl,q1,v1,f1,bd1,t1,o1,hP3,hS3⟩)
   |(go_at_call 70;with_reducible refine HRB.out.mono ?_;rintro r w2 ⟨v2,rfl,hr2,hk2,hm2⟩
     obtain ⟨hP2,hS2⟩:=H1.out.reader hk2 hm2 hr2
     have HP2:=Lib.hid hP2;have HS2:=Lib.hid (HS1.out.trans hS2);have c11:=hP2.cs.c11;have c12:=hP2.cs.c12;have y4:w2.cell? ⟨q,4,none⟩=some (.string x):=by rw [←HX.out];exact Ln.row_cell hr2.row (k:=4) rfl
     clear hr2 hk2 hm2 hP2 hS2))
  first | go_end0 | refine bodyPost_ret (results_none rfl _ _ _) rfl ?_
  exact ⟨rfl,_,_,_,_,_,_,hP3,HS2.out.trans hS3⟩
 ·rw [hw] at hrb;have HRB:=Lib.hid hrb;obtain ⟨x,hx⟩:∃x:ByteArray,ba (s.rd.byte c).L=x:=⟨_,rfl⟩;have hxl:(s.rd.byte c).L=x.data.toList:=by rw [←hx];simp [ba]
  have hxs:x.size≤5000:=by rw [←hx,ba_size];exact hL (.inr hw)
  have HEN:=Lib.hid (fun w2 q1 v1 (h:PR w2 B g q1 v1 f bd t o p b {s with fresh:=false,rd:=s.rd.byte c})=>ended_any hp h3 h4 x hxs h hs he ⟨ok.lines,ok.fss,ok.fsl,ok.tss,ok.tsl,ok.body,ok.out⟩);have HX:=Lib.hid hx;rw [hxl] at hag;obtain ⟨s3,hs3⟩:∃s3,S.ended p b {s with fresh:=false,rd:=s.rd.byte c} x.data.toList=s3:=⟨_,rfl⟩;rw [hs3] at hag HEN;by_cases he3:s3.e=0
  ·obtain ⟨ok3,hh3⟩:=hag hw he3;have e:s.byte1 p b c=S.again p b s3 c s.st:=by
    unfold S.byte1;simp [hbod,hw,hxl,hs3,he3]
   rw [e]
   have HAG:=Lib.hid (fun w2 q1 v1 f1 bd1 t1 o1 (h:PR w2 B g q1 v1 f1 bd1 t1 o1 p b s3)=>again_any hp h3 h4 c s.st h ok3 hh3 hs);have HE2:=Lib.hid he3;clear e hw hL hrb hbod hs he hl ok hlong hag hx hxl hxs hs3 he3 ok3 hh3;go_enter Tryz.func57,Tryz.ntmps57;go_upto_region 8 with fail
   generalize w.setCell ⟨g,23,none⟩ (.bool false)=W1 at *;clear c23 z23 c11;have c12:=H1.out.cs.c12
   go_wp2_with (first
    |(go_at_call 73;with_reducible refine (HAG.out _ _ _ _ _ _ _ HP3.out).mono ?_;rintro r w4 ⟨rfl,q2,v3,f2,bd2,t2',o2,hP4,hS4⟩)
    |(go_at_call 72;with_reducible refine (HEN.out _ _ _ HP2.out).mono ?_;rintro r w3 ⟨rfl,q1,v1,f1,bd1,t1,o1,hP3,hS3⟩
      have HP3:=Lib.hid hP3;have HS3:=Lib.hid (HS2.out.trans hS3);have c25:w3.cell? ⟨g,25,none⟩=some (.int .i64 0):=by have:=hP3.cs.c25;rw [HE2.out] at this;exact this
      clear hP3 hS3)
    |(go_at_call 70;with_reducible refine HRB.out.mono ?_;rintro r w2 ⟨v2,rfl,hr2,hk2,hm2⟩
      obtain ⟨hP2,hS2⟩:=H1.out.reader hk2 hm2 hr2
      have HP2:=Lib.hid hP2;have HS2:=Lib.hid (HS1.out.trans hS2);have c11:=hP2.cs.c11;have c12:=hP2.cs.c12;have y4:w2.cell? ⟨q,4,none⟩=some (.string x):=by rw [←HX.out];exact Ln.row_cell hr2.row (k:=4) rfl
      clear hr2 hk2 hm2 hP2 hS2))
   first | go_end0 | refine bodyPost_ret (results_none rfl _ _ _) rfl ?_
   exact ⟨rfl,_,_,_,_,_,_,hP4,HS3.out.trans hS4⟩
  ·have e:s.byte1 p b c=s3:=by
    unfold S.byte1;simp [hbod,hw,hxl,hs3,he3]
   rw [e];obtain ⟨k,hk⟩:∃k,s3.e=k:=⟨_,rfl⟩
   have t5:((k:Int)==0)=false:=beq_eq_false_iff_ne.2 (by omega);have n5:¬(k:Int)=0:=by omega
   have n6:¬k=0:=by omega
   have HE2:=Lib.hid hk;clear e hw hL hrb hbod hs he hl ok hlong hag hx hxl hxs hs3 he3 hk;go_enter Tryz.func57,Tryz.ntmps57;go_upto_region 8 with fail
   generalize w.setCell ⟨g,23,none⟩ (.bool false)=W1 at *;clear c23 z23 c11;have c12:=H1.out.cs.c12
   go_wp2_with (first
    |(go_at_call 72;with_reducible refine (HEN.out _ _ _ HP2.out).mono ?_;rintro r w3 ⟨rfl,q1,v1,f1,bd1,t1,o1,hP3,hS3⟩
      have HP3:=Lib.hid hP3;have HS3:=Lib.hid (HS2.out.trans hS3);have c25:w3.cell? ⟨g,25,none⟩=some (.int .i64 (k:Int)):=by have:=hP3.cs.c25;rw [HE2.out] at this;exact this
      clear hP3 hS3)
    |(go_at_call 70;with_reducible refine HRB.out.mono ?_;rintro r w2 ⟨v2,rfl,hr2,hk2,hm2⟩
      obtain ⟨hP2,hS2⟩:=H1.out.reader hk2 hm2 hr2
      have HP2:=Lib.hid hP2;have HS2:=Lib.hid (HS1.out.trans hS2);have c11:=hP2.cs.c11;have c12:=hP2.cs.c12;have y4:w2.cell? ⟨q,4,none⟩=some (.string x):=by rw [←HX.out];exact Ln.row_cell hr2.row (k:=4) rfl
      clear hr2 hk2 hm2 hP2 hS2))
   first | go_end0 | refine bodyPost_ret (results_none rfl _ _ _) rfl ?_
   exact ⟨rfl,_,_,_,_,_,_,HP3.out,HS3.out⟩
 ·have e:s.byte1 p b c=S.fail {s with fresh:=false,rd:=s.rd.byte c} 400:=by unfold S.byte1;simp [hbod,hw]
  rw [e];rw [hw] at hrb;have HRB:=Lib.hid hrb
  have HFA:=Lib.hid (fun w2 q1 v1 (h:PR w2 B g q1 v1 f bd t o p b {s with fresh:=false,rd:=s.rd.byte c})=>fail_at h 400 400 rfl);clear e hw hL hrb hbod hs he hl ok hlong hag;go_enter Tryz.func57,Tryz.ntmps57;go_upto_region 8 with fail
  generalize w.setCell ⟨g,23,none⟩ (.bool false)=W1 at *;clear c23 z23 c11;have c12:=H1.out.cs.c12
  go_wp2_with (first
   |(go_at_call 56;with_reducible refine (HFA.out _ _ _ HP2.out).mono ?_;rintro r w3 ⟨rfl,hP3,hS3⟩)
   |(go_at_call 70;with_reducible refine HRB.out.mono ?_;rintro r w2 ⟨v2,rfl,hr2,hk2,hm2⟩
     obtain ⟨hP2,hS2⟩:=H1.out.reader hk2 hm2 hr2
     have HP2:=Lib.hid hP2;have HS2:=Lib.hid (HS1.out.trans hS2);clear hr2 hk2 hm2 hP2 hS2))
  first | go_end0 | refine bodyPost_ret (results_none rfl _ _ _) rfl ?_
  exact ⟨rfl,_,_,_,_,_,_,hP3,HS2.out.trans hS3⟩
 ·by_cases hce:(s.st==5&&Qk.has p 29)=true
  ·have hce2:s.st=5∧Qk.has p 29=true:=by simpa using hce
   have e:s.byte1 p b c=S.plain p b {s with fresh:=false,rd:=nl p b.x0,st:=3} c:=by unfold S.byte1;simp [bodied,hw,hce2.1,hce2.2]
   rw [e];have ok3:=hlong hce2.1 hw hce2.2;rw [hw] at hrb;have HRB:=Lib.hid hrb
   have HLO:=Lib.hid (fun w2 q1 v1 (h:PR w2 B g q1 v1 f bd t o p b {s with fresh:=false,rd:=s.rd.byte c})=>longEnd_any hp h3 h4 c h hce2.1 hce2.2 ok3);clear e hw hL hrb hbod hs he hl ok hlong hag hce hce2 ok3;go_enter Tryz.func57,Tryz.ntmps57;go_upto_region 8 with fail
   generalize w.setCell ⟨g,23,none⟩ (.bool false)=W1 at *;clear c23 z23 c11;have c12:=H1.out.cs.c12
   go_wp2_with (first
    |(go_at_call 71;with_reducible refine (HLO.out _ _ _ HP2.out).mono ?_;rintro r w3 ⟨rfl,q1,v1,f1,bd1,t1,o1,hP3,hS3⟩)
    |(go_at_call 70;with_reducible refine HRB.out.mono ?_;rintro r w2 ⟨v2,rfl,hr2,hk2,hm2⟩
      obtain ⟨hP2,hS2⟩:=H1.out.reader hk2 hm2 hr2
      have HP2:=Lib.hid hP2;have HS2:=Lib.hid (HS1.out.trans hS2);clear hr2 hk2 hm2 hP2 hS2))
   first | go_end0 | refine bodyPost_ret (results_none rfl _ _ _) rfl ?_
   exact ⟨rfl,_,_,_,_,_,_,hP3,HS2.out.trans hS3⟩
  ·have e:s.byte1 p b c=S.fail {s with fresh:=false,rd:=s.rd.byte c} (longE s.st):=by unfold S.byte1;simp [hbod,hw,hce]
   rw [e];have h6:s.st=5→Qk.has p 29=false:=fun e=>by
    cases h:Qk.has p 29 with
    | false=>rfl
    | true=>exact absurd (by rw [e,h];rfl) hce
   rw [hw] at hrb;have HRB:=Lib.hid hrb
   have HLO:=Lib.hid (fun w2 q1 v1 (h:PR w2 B g q1 v1 f bd t o p b {s with fresh:=false,rd:=s.rd.byte c})=>long_any hp c h hs h6);clear e hw hL hrb hbod hs he hl ok hlong hag hce h6;go_enter Tryz.func57,Tryz.ntmps57;go_upto_region 8 with fail
   generalize w.setCell ⟨g,23,none⟩ (.bool false)=W1 at *;clear c23 z23 c11;have c12:=H1.out.cs.c12
   go_wp2_with (first
    |(go_at_call 71;with_reducible refine (HLO.out _ _ _ HP2.out).mono ?_;rintro r w3 ⟨rfl,hP3,hS3⟩)
    |(go_at_call 70;with_reducible refine HRB.out.mono ?_;rintro r w2 ⟨v2,rfl,hr2,hk2,hm2⟩
      obtain ⟨hP2,hS2⟩:=H1.out.reader hk2 hm2 hr2
      have HP2:=Lib.hid hP2;have HS2:=Lib.hid (HS1.out.trans hS2);clear hr2 hk2 hm2 hP2 hS2))
   first | go_end0 | refine bodyPost_ret (results_none rfl _ _ _) rfl ?_
   exact ⟨rfl,_,_,_,_,_,_,hP3,HS2.out.trans hS3⟩
end code
end Go.Proofs.YtimoakmcelocfaaGreat.Par
namespace Go.Proofs.YtimoakmcelocfaaGreat.Par
open Go.RowKit Base Txt Mem
section
variable {p:Nat} {b:Bd} {x:Pg.T} {s:S}
theorem fits_of (h:Pg.R0 p b x s) (ok:x.Ok) (ho:s.out.length≤1000000000):Fits s:=by
 have k1:=ok.hl;have k2:=ok.bl;have k3:=ok.fsl;have k4:=ok.tsl;have k5:=ok.body;refine ⟨fun e=>?_,fun y hy=>?_,?_,fun y hy=>?_,?_,?_,ho⟩
 ·rcases e with e | e
  ·rw [h.hl (by omega)];omega
  ·rw [h.bl e];omega
 ·rw [h.r] at hy;have:=ok.fss y hy;omega
 ·rw [h.r];omega
 ·rw [h.r] at hy;have:=ok.tss y hy;omega
 ·rw [h.r];omega
 ·rw [h.r];omega
theorem lineOk_of (h:Pg.R0 p b x s) (ok:x.Ok) (hn:bodied s.st=false):LineOk p s.rd:=by
 have r:=h.rd hn;have h1:=ok.rd.len;have h2:=ok.rd.most;refine ⟨r.lf.trans h.lf,r.cr.trans h.cr,by rw [r.most];exact h2,?_⟩;rw [r.B,r.most];split
 ·exact Nat.zero_le _
 ·exact h1
theorem lined_of (h:Pg.R0 p b x s) (ok:x.Ok) (hn:bodied s.st=false):lined s.st:=by
 have h7:=ok.st;have ht:=h.st;have hn2:s.st≠2∧s.st≠4:=by constructor<;> (intro e;rw [e] at hn;exact absurd hn (by decide))
 unfold lined;omega
theorem plainOk_of (h:Pg.R0 p b x s) (ok:x.Ok) (hp:x.rd.pend=false) (h6:x.st≠6) (ho:s.out.length≤1000000000) (c:UInt8):PlainOk p s c:=by
 have h7:=ok.st;have ht:=h.st;refine ⟨h.e,fits_of h ok ho,?_,fun hb=>?_,fun hl=>?_⟩
 ·unfold lined;omega
 ·have h1:=h.left hb;have h2:=ok.left (by rw [Pg.bod h];exact hb);have h3:=ok.body;omega
 ·have hn:bodied s.st=false:=by rcases hl with e | e | e | e | e<;>rw [e]<;>rfl
  exact ⟨lineOk_of h ok hn,(h.rd hn).CR.trans hp,fun e=>absurd (ht.trans (by rw [e])) h6⟩
theorem ended_ok (h:Pg.R0 p b x s) (ok:x.Ok) (hb:b.right=true) (hn:bodied s.st=false) (hc:s.clean=false) (ho:s.out.length≤999999998) (c:UInt8) (h2:s.rd.how c=2)
 (he:(S.ended p b {s with fresh:=false,rd:=s.rd.byte c} (s.rd.byte c).L).e=0) :
 PlainOk p (S.ended p b {s with fresh:=false,rd:=s.rd.byte c} (s.rd.byte c).L) c∧(S.ended p b {s with fresh:=false,rd:=s.rd.byte c} (s.rd.byte c).L).head≤1000000:=by
 obtain ⟨n,hnx⟩:∃n,x.rd.clear.next c=n:=⟨_,rfl⟩;obtain ⟨k1, -,k3⟩:=Pg.took_sim h hn ok hc c hnx;have e2:n=2:=k1.symm.trans h2;subst e2
 have k4:=k3 (.inr rfl);have hb0:Pg.bodied x.st=false:=(Pg.bod h).trans hn;generalize hs2:S.ended p b {s with fresh:=false,rd:=s.rd.byte c} (s.rd.byte c).L=s2 at k4 he ⊢;generalize hq:Pg.ends (Pg.T.line p b {x with rd:=x.rd.byte c} (x.rd.byte c).line)=y at k4;rcases Pg.ends_cases hq with ⟨t2,g1,rfl⟩ | ⟨e,o,rfl⟩
 ·have k5:Pg.RR p b t2 s2:=k4;have hin:x.inLine p b c=(.live t2,false):=by
   unfold Pg.T.inLine;simp only [hnx,Int.reduceEq,if_false,BEq.rfl,Bool.not_true];rw [hq]
  have ok2:t2.Ok:=ok.inLine hb c (by rw [hin]);obtain ⟨g2,g3⟩:=Pg.inLine_again hb0 c hin;have hout:=Pg.inLine_out (p:=p) (b:=b) x c;rw [hin] at hout;have ho2:s2.out.length≤1000000000:=by rw [k5.out];have h1:t2.out.length≤x.out.length+1:=hout;rw [←h.out] at h1;omega
  exact ⟨plainOk_of k5.toR0 ok2 g2 g3 ho2 c,by rw [k5.head];have:=ok2.size;omega⟩
 ·exact absurd he k4.err
end
section code
set_option maxHeartbeats 4000000
variable {w:World} {B:Zone} {g q:Nat} {v f bd t o:Value} {p:Nat} {b:Bd} {s:S} {x:Pg.T}
theorem byte1_any (hp:p<4294967296) (hb:b.right=true) (c:UInt8) (h:PR w B g q v f bd t o p b s) (h0:Pg.R0 p b x s) (ok:x.Ok) (hc:s.clean=false) (ho:s.out.length≤999999998) :
 Calls Tryz.prog 57 #[ptr g,.int .u8 (c.toNat:Int)] w fun r w'=>r=.returned (.tuple #[])∧∃q1 v1 f1 bd1 t1 o1,PR w' B g q1 v1 f1 bd1 t1 o1 p b (s.byte1 p b c)∧Step (blks g q v f bd t o) (blks g q1 v1 f1 bd1 t1 o1) w w':=by
 obtain ⟨-, -, -,h3,h4, -⟩:=Pg.Bd.edges hb
 have hf:=fits_of h0 ok (by omega);by_cases hbd:bodied s.st=true
 ·have hst:s.st=2∨s.st=4:=by
   unfold bodied at hbd;simpa using hbd
  have e:s.byte1 p b c=S.bodyB p b {s with fresh:=false} c:=by unfold S.byte1;simp [hbd]
  rw [e];have h1:=h0.left hbd;have h2:=ok.left (by rw [Pg.bod h0];exact hbd);have h5:=ok.body;exact body_any c h hst ⟨by omega,by omega⟩ hf.body hf.out
 ·have hn:bodied s.st=false:=by simpa using hbd
  refine byte_any hp h3 h4.1 c h (lined_of h0 ok hn) h0.e hf (lineOk_of h0 ok hn) (fun h5 _ _=>?_) (fun h2 he=>ended_ok h0 ok hb hn hc ho c h2 he);have he:=Pg.enter_sim (t:=x) (s:={s with fresh:=false}) {h0 with} h5;exact plainOk_of he (ok.enter (.inl rfl) b.x0) rfl (by show (4:Nat)≠6;decide) (by show s.out.length≤_;omega) c
theorem byteS_any (hp:p<4294967296) (hb:b.right=true) (c:UInt8) (h:PR w B g q v f bd t o p b s) (hr:Pg.RR p b x s) (ok:x.Ok) (ho:s.out.length≤999999998) :
 Calls Tryz.prog 37 #[ptr g,.int .u8 (c.toNat:Int)] w fun r w'=>r=.returned (.tuple #[])∧∃q1 v1 f1 bd1 t1 o1,PR w' B g q1 v1 f1 bd1 t1 o1 p b (s.byte p b c)∧Step (blks g q v f bd t o) (blks g q1 v1 f1 bd1 t1 o1) w w':=by
 have h0:Pg.R0 p b ({x with cnt:=false}:Pg.T) {s with clean:=false}:=⟨hr.e,hr.st,hr.r,hr.out,hr.head,hr.hl,hr.bl,hr.bl0,hr.left,hr.rd,hr.fr,hr.lf,hr.cr,hr.most,hr.beh,hr.ch⟩;have ok0:({x with cnt:=false}:Pg.T).Ok:=ok.cleared;refine count_any c (fun s=>s.byte1 p b c) h hr.e (by rw [hr.head];have:=ok.size;omega) fun w2 s2 hs h2=>?_;rcases hs with ⟨hh,rfl,hx⟩ | ⟨hh,rfl⟩
 ·have h1:Pg.R0 p b ({x with cnt:=false}:Pg.T).counted {s with head:=s.head+1,clean:=false}:=h0.of_counted rfl;have esz:({x with cnt:=false}:Pg.T).counted.size=s.head+1:=h1.head.symm;exact byte1_any hp hb c h2 h1 (ok0.counted hb (by rw [esz];exact hx)) rfl ho
 ·exact byte1_any hp hb c h2 h0 ok0 rfl ho
end code
end Go.Proofs.YtimoakmcelocfaaGreat.Par
namespace Go.Proofs.YtimoakmcelocfaaGreat.Par
open Go.RowKit Base Txt Mem Each
abbrev ncells (p:Nat) (b:Bd) (cl:Bool) (e:Nat):List Value:=
 [.int .u32 (p:Int),.int .i64 b.x0,.int .i64 b.x1,.int .i64 b.x2,.int .i64 b.x3,.int .i64 b.x4,.int .i64 b.x5,.int .i64 b.x6,.int .i64 b.x7,.bool b.ch,.bool b.od,.int .i64 0,.pointer none,
   .string E0,.string E0,.int .i64 0,nil,.bool false,nil,nil,.int .i64 0,.int .i64 0,.int .i64 0,.bool false,.bool cl,.int .i64 (e:Int),nil]
structure Bad (w:World) (B:Zone) (g p:Nat) (b:Bd) (s:S):Prop where
 row:w.heap[g]?=some (.cells (ncells p b false 20).toArray 59 (0,0))
 e:s.e=20
 clean:s.clean=false
 out:s.out= []
 ge:B≤g
 zone:Clear w B.z [some g]
structure Rest (w:World) (B:Zone) (g q:Nat) (v f bd t:Value) (p:Nat) (b:Bd) (s:S):Prop where
 row:∃o,w.heap[g]?=some (.cells (pcells p b s q f bd t o).toArray 59 (0,0))
 own:Own w B g q v f bd t nil p s.rd s.r.fs s.r.body s.r.ts []
def Run (w:World) (B:Zone) (g p:Nat) (b:Bd) (L:List (Option Nat)) (s:S):Prop:=
 (∃q v f bd t o,L=blks g q v f bd t o∧PR w B g q v f bd t o p b s)∨(L= [some g]∧Bad w B g p b s)
def DAt (w:World) (B:Zone) (g p:Nat) (b:Bd) (L:List (Option Nat)) (s:S):Prop:=
 (∃q v f bd t,L=blks g q v f bd t nil∧Rest w B g q v f bd t p b s)∨(L= [some g]∧Bad w B g p b s)
def DQ (w:World) (B:Zone) (g p:Nat) (b:Bd) (L:List (Option Nat)) (x:Pg.Q):Prop:=∃s,Pg.RQ p b x s∧x.Fine b∧DAt w B g p b L s
theorem fine_of {b:Bd} {x:Pg.Q} (h:x.Ok b):x.Fine b:=by cases x<;>exact h
section
variable {w w':World} {B:Zone} {g q:Nat} {v f bd t o:Value} {p:Nat} {b:Bd} {L M:List (Option Nat)} {s:S} {x:Pg.Q} {rd:Ln.R} {fs ts:List Fld} {body:List UInt8} {out:List Rec.R}
theorem Own.less (h:Own w B g q v f bd t o p rd fs body ts out):Own w B g q v f bd t nil p rd fs body ts []:=by
 have e:blks g q v f bd t nil=(blks g q v f bd t o).set 6 none:=rfl;refine ⟨h.R,h.F,h.D,h.T,⟨[],rfl,(by intro x hx;cases hx),World.ownsRow_nil _ _ _ _⟩,?_,h.ge,h.lt,h.zone.of (Nat.le_refl _) (by rw [e];exact Of.set 6 none (.inl rfl))⟩;rw [e]
 exact h.lone.set h.in 6 none (.inl rfl)
theorem Run.tell (h:Run w B g p b L s):∃o L',w.cell? ⟨g,26,none⟩=some o∧DAt w B g p b L' s∧Pg.Told L' B w o s.out∧Step L L' w w:=by
 rcases h with ⟨q,v,f,bd,t,o,rfl,h⟩ | ⟨rfl,h⟩
 ·have hsub:∀k,some k∈blks g q v f bd t nil→some k∈blks g q v f bd t o:=fun k hk=>by
   simp only [List.mem_cons,List.not_mem_nil,or_false,Value.ownBlock,reduceCtorEq] at hk ⊢;rcases hk with e | e | e | e | e | e<;>simp [e]
  refine ⟨o,blks g q v f bd t nil,h.cs.c26,.inl ⟨q,v,f,bd,t,rfl,⟨o,h.row⟩,h.own.less⟩,⟨Pg.Outs.less h.own.O (fun k hk=>.inl (hsub k hk)),fun k e=>⟨fun hm=>?_,?_⟩,fun k e=>h.own.zone.off k (List.mem_of_getElem? (i:=6) (by rw [←e];rfl))⟩,⟨Keeps.refl,fun k hk=>.inl (hsub k hk)⟩⟩
  ·obtain ⟨i,hi⟩:=List.getElem?_of_mem hm;have h6:(blks g q v f bd t o)[6]?=some (some k):=by rw [←e];rfl
   rcases i with _ | _ | _ | _ | _ | _ | _ | i
   ·exact h.own.lone.ne (i:=0) (j:=6) (k:=k) hi (by decide) h6
   ·exact h.own.lone.ne (i:=1) (j:=6) (k:=k) hi (by decide) h6
   ·exact h.own.lone.ne (i:=2) (j:=6) (k:=k) hi (by decide) h6
   ·exact h.own.lone.ne (i:=3) (j:=6) (k:=k) hi (by decide) h6
   ·exact h.own.lone.ne (i:=4) (j:=6) (k:=k) hi (by decide) h6
   ·exact h.own.lone.ne (i:=5) (j:=6) (k:=k) hi (by decide) h6
   ·cases hi
   ·cases hi
  ·exact h.own.in k (List.mem_of_getElem? (i:=6) (by rw [←e];rfl))
 ·exact ⟨nil,[some g],row_cellL h.row rfl,.inr ⟨rfl,h⟩,by rw [h.out];exact ⟨⟨[],rfl,(by intro x hx;cases hx),World.ownsRow_nil _ _ _ _⟩,(fun k e=>by cases e),(fun k e=>by cases e)⟩,Step.refl⟩
theorem DAt.start (h:DAt w B g p b L s) (ho:s.out= []):w.frozen? ⟨g,26,none⟩=false∧(∃o,w.cell? ⟨g,26,none⟩=some o)∧Run (w.setCell ⟨g,26,none⟩ nil) B g p b L s∧Step L L w (w.setCell ⟨g,26,none⟩ nil):=by
 rcases h with ⟨q,v,f,bd,t,rfl,⟨o,hrow⟩,hown⟩ | ⟨rfl,h⟩
 ·refine ⟨Ln.row_frozen hrow 26,⟨o,row_cellL hrow rfl⟩,.inl ⟨q,v,f,bd,t,nil,rfl,row_setL hrow 26 nil,?_⟩,Step.set g 26 nil (by simp)⟩;rw [ho];exact hown.set 26 nil
 ·exact ⟨Ln.row_frozen h.row 26,⟨_,row_cellL h.row rfl⟩,.inr ⟨rfl,row_setL h.row 26 nil,h.e,h.clean,h.out,h.ge,h.zone.of (by simp) Of.refl⟩,Step.set g 26 nil (by simp)⟩
theorem Own.keepsD (h:Own w B g q v f bd t nil p rd fs body ts []) (hk:Keeps M w w') (hd:Dis (blks g q v f bd t nil) M):Own w' B g q v f bd t nil p rd fs body ts []:=
 ⟨⟨hk.row h.R.row (hd q (by simp)),hk.own h.R.own fun k e=>hd k (by simp [←e]),h.R.ge,h.R.ne⟩,hk.own h.F fun k e=>hd k (by simp [←e]),hk.own h.D fun k e=>hd k (by simp [←e]),hk.own h.T fun k e=>hd k (by simp [←e]),
   ⟨[],rfl,(by intro x hx;cases hx),World.ownsRow_nil _ _ _ _⟩,h.lone,h.ge,Nat.lt_of_lt_of_le h.lt hk.size,h.zone.of hk.size Of.refl⟩
theorem Own.rezoneD (h:Own w B g q v f bd t nil p rd fs body ts []) {Z:List (Option Nat)} (hz:Clear w Z (blks g q v f bd t nil)):Own w ⟨B.b,Z⟩ g q v f bd t nil p rd fs body ts []:=
 ⟨h.R,h.F,h.D,h.T,⟨[],rfl,(by intro x hx;cases hx),World.ownsRow_nil _ _ _ _⟩,h.lone,h.ge,h.lt,hz⟩
theorem DAt.keeps (h:DAt w B g p b L s) (hk:Keeps M w w') (hd:Dis L M):DAt w' B g p b L s:=by
 rcases h with ⟨q,v,f,bd,t,rfl,⟨o,hrow⟩,hown⟩ | ⟨rfl,h⟩
 ·exact .inl ⟨q,v,f,bd,t,rfl,⟨o,hk.row hrow (hd g (by simp))⟩,hown.keepsD hk hd⟩
 ·exact .inr ⟨rfl,hk.row h.row (hd g (by simp)),h.e,h.clean,h.out,h.ge,h.zone.of hk.size Of.refl⟩
theorem DAt.rezone (h:DAt w B g p b L s) {Z:List (Option Nat)} (hz:Clear w Z L):DAt w ⟨B.b,Z⟩ g p b L s:=by
 rcases h with ⟨q,v,f,bd,t,rfl,hrow,hown⟩ | ⟨rfl,h⟩
 ·exact .inl ⟨q,v,f,bd,t,rfl,hrow,hown.rezoneD hz⟩
 ·exact .inr ⟨rfl,h.row,h.e,h.clean,h.out,h.ge,hz⟩
theorem DAt.in (h:DAt w B g p b L s):In w L:=by
 rcases h with ⟨q,v,f,bd,t,rfl, -,hown⟩ | ⟨rfl,h⟩
 ·exact hown.in
 ·intro k hk;obtain rfl:k=g:=by simpa using hk
  exact Ln.row_lt h.row
theorem DAt.low (h:DAt w B g p b L s):∀k,some k∈L→B≤k:=by
 rcases h with ⟨q,v,f,bd,t,rfl, -,hown⟩ | ⟨rfl,h⟩
 ·exact hown.low
 ·intro k hk;obtain rfl:k=g:=by simpa using hk
  exact h.ge
theorem DAt.uniq {B':Zone} {p':Nat} {b':Bd} {s':S} {L':List (Option Nat)} (h:DAt w B g p b L s) (h':DAt w B' g p' b' L' s'):L=L':=by
 rcases h with ⟨q,v,f,bd,t,rfl,⟨o,h1⟩,h2⟩ | ⟨rfl,h⟩
 ·rcases h' with ⟨q',v',f',bd',t',rfl,⟨o',h1'⟩,h2'⟩ | ⟨rfl,h'⟩
  ·have e:=Pg.cells_inj h1 h1'
   have e12:ptr q=ptr q':=Option.some.inj (congrArg (fun l:List Value=>l[12]?) e)
   have e16:f=f':=Option.some.inj (congrArg (fun l:List Value=>l[16]?) e)
   have e18:bd=bd':=Option.some.inj (congrArg (fun l:List Value=>l[18]?) e)
   have e19:t=t':=Option.some.inj (congrArg (fun l:List Value=>l[19]?) e);have eq:q=q':=by simpa using e12
   subst eq e16 e18 e19;have hr:=h2.R.row.symm.trans h2'.R.row;have ev:v=v':=by
    simp only [Option.some.injEq,Obj.cells.injEq,and_true] at hr
    exact Option.some.inj (congrArg (fun a:Array Value=>a[2]?) hr)
   rw [ev]
  ·have e:=Pg.cells_inj h1 h'.row
   have e12:ptr q=.pointer none:=Option.some.inj (congrArg (fun l:List Value=>l[12]?) e);cases e12
 ·rcases h' with ⟨q',v',f',bd',t',rfl,⟨o',h1'⟩,h2'⟩ | ⟨rfl,h'⟩
  ·have e:=Pg.cells_inj h.row h1'
   have e12:Value.pointer none=ptr q':=Option.some.inj (congrArg (fun l:List Value=>l[12]?) e);cases e12
  ·rfl
theorem DQ.keeps (h:DQ w B g p b L x) (hk:Keeps M w w') (hd:Dis L M):DQ w' B g p b L x:=by obtain ⟨s,h1,h2,h3⟩:=h;exact ⟨s,h1,h2,h3.keeps hk hd⟩
theorem DQ.below (h:DQ w B g p b L x) (hb:Below w.heap.size w w'):DQ w' B g p b L x:=h.keeps (M:= []) (Keeps.of_below hb) (fun k _ hk=>by cases hk)
theorem DQ.rezone (h:DQ w B g p b L x) {Z:List (Option Nat)} (hz:Clear w Z L):DQ w ⟨B.b,Z⟩ g p b L x:=by obtain ⟨s,h1,h2,h3⟩:=h;exact ⟨s,h1,h2,h3.rezone hz⟩
theorem DQ.in (h:DQ w B g p b L x):In w L:=by obtain ⟨_,_,_,h3⟩:=h;exact h3.in
theorem DQ.low (h:DQ w B g p b L x):∀k,some k∈L→B≤k:=by obtain ⟨_,_,_,h3⟩:=h;exact h3.low
theorem DQ.uniq {B':Zone} {p':Nat} {b':Bd} {x':Pg.Q} {L':List (Option Nat)} (h:DQ w B g p b L x) (h':DQ w B' g p' b' L' x'):L=L':=by obtain ⟨_,_,_,h3⟩:=h;obtain ⟨_,_,_,h3'⟩:=h';exact h3.uniq h3'
theorem obj_dq {B:Zone} {g p p':Nat} {b b':Bd} {x x':Pg.Q}:Thing (fun w L=>∃Z,DQ w ⟨B.b,Z⟩ g p b L x) (fun w L=>∃Z,DQ w ⟨B.b,Z⟩ g p' b' L x') where
 keeps:=fun ⟨Z,h⟩ hk hd=>⟨Z,h.keeps hk hd⟩
 keeps':=fun ⟨Z,h⟩ hk hd=>⟨Z,h.keeps hk hd⟩
 inn:=fun ⟨_,h⟩=>h.in
 inn':=fun ⟨_,h⟩=>h.in
 uniq:=fun h h'=>by rcases h with ⟨_,h⟩ | ⟨_,h⟩<;>rcases h' with ⟨_,h'⟩ | ⟨_,h'⟩<;>exact h.uniq h'
end
section code
set_option maxHeartbeats 4000000
set_option maxRecDepth 20000
attribute [local go_sem] Base.some_undef
variable {w:World} {B:Zone} {g q:Nat} {v f bd t o:Value} {p:Nat} {b:Bd} {s:S} {x:Pg.Q} {L:List (Option Nat)}
theorem byteDead_any (c:UInt8) {e:Nat} (he:e≠0) (c25:w.cell? ⟨g,25,none⟩=some (.int .i64 (e:Int))) :
 Calls Tryz.prog 37 #[ptr g,.int .u8 (c.toNat:Int)] w fun r w'=>r=.returned (.tuple #[])∧w'=w:=by
 have t5:((e:Int)==0)=false:=beq_eq_false_iff_ne.2 (by omega);have n5:¬(e:Int)=0:=by omega
 go_enter Tryz.func37,Tryz.ntmps37;go_wp2;first | go_end0 | refine bodyPost_ret (results_none rfl _ _ _) rfl ?_
 exact ⟨rfl,rfl⟩
theorem byteRun_any (hp:p<4294967296) (c:UInt8) (h:Run w B g p b L s) (hr:Pg.RQ p b x s) (ok:x.Fine b) (ho:s.out.length≤999999998) :
 Calls Tryz.prog 37 #[ptr g,.int .u8 (c.toNat:Int)] w fun r w'=>r=.returned (.tuple #[])∧∃L',Run w' B g p b L' (s.byte p b c)∧Step L L' w w':=by
 cases x with
 | live y=>
   obtain ⟨ok1,ok2⟩:=ok;have hr:Pg.RR p b y s:=hr;rcases h with ⟨q,v,f,bd,t,o,rfl,h⟩ | ⟨rfl,h⟩
   ·refine (byteS_any hp ok2 c h hr ok1 ho).mono ?_;rintro r w' ⟨rfl,q1,v1,f1,bd1,t1,o1,hP,hS⟩;exact ⟨rfl,_,.inl ⟨q1,v1,f1,bd1,t1,o1,rfl,hP⟩,hS⟩
   ·exact absurd (hr.e.symm.trans h.e) (by decide)
 | dead e o=>
   have he:=hr.err;rw [S.byte_dead he];have key:∀c25:w.cell? ⟨g,25,none⟩=some (.int .i64 (s.e:Int)),Calls Tryz.prog 37 #[ptr g,.int .u8 (c.toNat:Int)] w fun r w'=>r=.returned (.tuple #[])∧∃L',Run w' B g p b L' s∧Step L L' w w':=by intro c25;refine (byteDead_any c he c25).mono ?_;rintro r w' ⟨rfl,rfl⟩;exact ⟨rfl,L,h,Step.refl⟩
   rcases h with ⟨q,v,f,bd,t,o,rfl,h1⟩ | ⟨rfl,h1⟩
   ·exact key h1.cs.c25
   ·exact key (by rw [h1.e];exact row_cellL h1.row rfl)
end code
end Go.Proofs.YtimoakmcelocfaaGreat.Par
namespace Go.Proofs.YtimoakmcelocfaaGreat.Par
open Go.RowKit Base Txt Mem Each
section
variable {w:World} {B:Zone} {g p:Nat} {b:Bd} {s:S} {x:Pg.Q} {L:List (Option Nat)}
theorem DAt.cell (h:DAt w B g p b L s):w.cell? ⟨g,25,none⟩=some (.int .i64 (s.e:Int))∧w.cell? ⟨g,24,none⟩=some (.bool s.clean):=by
 rcases h with ⟨q,v,f,bd,t,rfl,⟨o,hrow⟩,hown⟩ | ⟨rfl,h⟩
 ·exact ⟨row_cellL hrow rfl,row_cellL hrow rfl⟩
 ·rw [h.e,h.clean];exact ⟨row_cellL h.row rfl,row_cellL h.row rfl⟩
theorem DQ.e (h:DQ w B g p b L x):w.cell? ⟨g,25,none⟩=some (.int .i64 (x.err:Int)):=by obtain ⟨s,h1,h2,h3⟩:=h;rw [←(Pg.said_sim h1 h2).1];exact h3.cell.1
theorem DQ.cl (h:DQ w B g p b L x):w.cell? ⟨g,24,none⟩=some (.bool x.clean):=by obtain ⟨s,h1,h2,h3⟩:=h;rw [←(Pg.said_sim h1 h2).2.2.2.2];exact h3.cell.2
theorem DAt.told (h:DAt w B g p b L s):DAt w B g p b L {s with out:= []}:=by
 rcases h with ⟨q,v,f,bd,t,rfl,hrow,hown⟩ | ⟨rfl,h⟩
 ·exact .inl ⟨q,v,f,bd,t,rfl,hrow,hown⟩
 ·exact .inr ⟨rfl,h.row,h.e,h.clean,rfl,h.ge,h.zone⟩
end
section code
set_option maxHeartbeats 4000000
set_option maxRecDepth 20000
attribute [local go_sem] Base.some_undef
variable {w:World} {B:Zone} {g q:Nat} {v f bd t o:Value} {p:Nat} {b:Bd} {s:S} {x:Pg.Q} {L:List (Option Nat)}
theorem next_new (hrow:w.heap[g]?=some (.cells (ncells p b true 0).toArray 59 (0,0))) (hB:B≤g) (hz:B.z= []):Calls Tryz.prog 36 #[ptr g] w fun r w'=>
 r=.returned (.tuple #[])∧∃q1,PR w' B g q1 nil nil nil nil nil p b ⟨0,nl p b.x0,zero,0,0,0,false,true,0,[]⟩∧Keeps [some g] w w':=by
 have hlt:=Ln.row_lt hrow
 have HR1:=Lib.hid (show (((((((((((((w.setCell ⟨g,13,none⟩ (.string E0)).setCell ⟨g,14,none⟩ (.string E0)).setCell ⟨g,15,none⟩ (.int .i64 0)).setCell ⟨g,16,none⟩ (nil)).setCell ⟨g,17,none⟩ (.bool false)).setCell ⟨g,18,none⟩ (nil)).setCell ⟨g,19,none⟩ (nil)).setCell ⟨g,11,none⟩ (.int .i64 0)).setCell ⟨g,20,none⟩ (.int .i64 0)).setCell ⟨g,21,none⟩ (.int .i64 0)).setCell ⟨g,23,none⟩ (.bool false)).setCell ⟨g,24,none⟩ (.bool true))).heap[g]?=some (.cells (ncells p b true 0).toArray 59 (0,0)) from (row_setL (row_setL (row_setL (row_setL (row_setL (row_setL (row_setL (row_setL (row_setL (row_setL (row_setL (row_setL hrow 13 (.string E0)) 14 (.string E0)) 15 (.int .i64 0)) 16 (nil)) 17 (.bool false)) 18 (nil)) 19 (nil)) 11 (.int .i64 0)) 20 (.int .i64 0)) 21 (.int .i64 0)) 23 (.bool false)) 24 (.bool true)))
 have HK1:=Lib.hid (show Keeps [some g] w ((((((((((((w.setCell ⟨g,13,none⟩ (.string E0)).setCell ⟨g,14,none⟩ (.string E0)).setCell ⟨g,15,none⟩ (.int .i64 0)).setCell ⟨g,16,none⟩ (nil)).setCell ⟨g,17,none⟩ (.bool false)).setCell ⟨g,18,none⟩ (nil)).setCell ⟨g,19,none⟩ (nil)).setCell ⟨g,11,none⟩ (.int .i64 0)).setCell ⟨g,20,none⟩ (.int .i64 0)).setCell ⟨g,21,none⟩ (.int .i64 0)).setCell ⟨g,23,none⟩ (.bool false)).setCell ⟨g,24,none⟩ (.bool true)) from ((((((((((((Keeps.set (L:= [some g]) g 13 (.string E0) (by simp)).trans (Keeps.set (L:= [some g]) g 14 (.string E0) (by simp)) Of.refl).trans (Keeps.set (L:= [some g]) g 15 (.int .i64 0) (by simp)) Of.refl).trans (Keeps.set (L:= [some g]) g 16 (nil) (by simp)) Of.refl).trans (Keeps.set (L:= [some g]) g 17 (.bool false) (by simp)) Of.refl).trans (Keeps.set (L:= [some g]) g 18 (nil) (by simp)) Of.refl).trans (Keeps.set (L:= [some g]) g 19 (nil) (by simp)) Of.refl).trans (Keeps.set (L:= [some g]) g 11 (.int .i64 0) (by simp)) Of.refl).trans (Keeps.set (L:= [some g]) g 20 (.int .i64 0) (by simp)) Of.refl).trans (Keeps.set (L:= [some g]) g 21 (.int .i64 0) (by simp)) Of.refl).trans (Keeps.set (L:= [some g]) g 23 (.bool false) (by simp)) Of.refl).trans (Keeps.set (L:= [some g]) g 24 (.bool true) (by simp)) Of.refl));have c11:=row_cellL hrow (k:=11) rfl;have z11:=Ln.row_frozen hrow 11;have c13:=row_cellL hrow (k:=13) rfl;have z13:=Ln.row_frozen hrow 13;have c14:=row_cellL hrow (k:=14) rfl;have z14:=Ln.row_frozen hrow 14;have c15:=row_cellL hrow (k:=15) rfl;have z15:=Ln.row_frozen hrow 15;have c16:=row_cellL hrow (k:=16) rfl;have z16:=Ln.row_frozen hrow 16;have c17:=row_cellL hrow (k:=17) rfl;have z17:=Ln.row_frozen hrow 17;have c18:=row_cellL hrow (k:=18) rfl;have z18:=Ln.row_frozen hrow 18;have c19:=row_cellL hrow (k:=19) rfl;have z19:=Ln.row_frozen hrow 19;have c20:=row_cellL hrow (k:=20) rfl;have z20:=Ln.row_frozen hrow 20;have c21:=row_cellL hrow (k:=21) rfl;have z21:=Ln.row_frozen hrow 21;have c23:=row_cellL hrow (k:=23) rfl;have z23:=Ln.row_frozen hrow 23;have c24:=row_cellL hrow (k:=24) rfl;have z24:=Ln.row_frozen hrow 24;have HB:=Lib.hid hB;have HZ:=Lib.hid hz;clear hrow hB hlt hz;go_enter Tryz.func36,Tryz.ntmps36;go_upto_region 1 with fail
 generalize ((((((((((((w.setCell ⟨g,13,none⟩ (.string E0)).setCell ⟨g,14,none⟩ (.string E0)).setCell ⟨g,15,none⟩ (.int .i64 0)).setCell ⟨g,16,none⟩ (nil)).setCell ⟨g,17,none⟩ (.bool false)).setCell ⟨g,18,none⟩ (nil)).setCell ⟨g,19,none⟩ (nil)).setCell ⟨g,11,none⟩ (.int .i64 0)).setCell ⟨g,20,none⟩ (.int .i64 0)).setCell ⟨g,21,none⟩ (.int .i64 0)).setCell ⟨g,23,none⟩ (.bool false)).setCell ⟨g,24,none⟩ (.bool true))=W1 at *;clear c13 z13 c14 z14 c15 z15 c16 z16 c17 z17 c18 z18 c19 z19 c11 z11 c20 z20 c21 z21 c23 z23 c24 z24
 have HRD:=Lib.hid (show (W1.drewN 1).heap[g]?=some (.cells (ncells p b true 0).toArray 59 (0,0)) from HR1.out)
 have HQ:=Lib.hid (show Rec.Bk (W1.drewN 1) g (ncells p b true 0) from ⟨fun _ _ hu=>row_cellL HRD.out hu,fun k _=>Ln.row_frozen HRD.out k,Ln.row_lt HRD.out⟩)
 have HBW:=Lib.hid (show B≤(W1.drewN 1).heap.size from Nat.le_trans HB.out (Nat.le_of_lt (Ln.row_lt HRD.out)));refine Each.region 11 [21,22,23,24,25,26,27,28,29,30,31]
  [fun v _=>v=.pointer (some ⟨g,0,none⟩),
    fun v _=>v=.pointer (some ⟨g,0,none⟩),
    fun v _=>v=.pointer (some ⟨g,0,none⟩),
    fun v _=>v=.pointer (some ⟨g,0,none⟩),
    fun v _=>v=.int .u32 (p:Int),
    fun v _=>v=.pointer (some ⟨g,0,none⟩),
    fun v _=>v=.pointer (some ⟨g,0,none⟩),
    fun v _=>v=.pointer (some ⟨g,1,none⟩),
    fun v _=>v=.pointer (some ⟨g,1,none⟩),
    fun v _=>v=.int .i64 b.x0,
    fun v w=>∃q1,v=ptr q1∧W1.heap.size≤q1∧Ln.Rr w B.b q1 nil p (nl p (b.x0))]
  (.quiet 11 (.quiet 12 (.act 13 .done))) (by kernel_rfl) (by kernel_rfl) (by kernel_rfl) (by kernel_rfl) (fun _ _ d _ _ h=>by cases d<;>exact h) (by rfl) (by rfl)
  ⟨Each.Lasts.eq _,Each.Lasts.eq _,Each.Lasts.eq _,Each.Lasts.eq _,Each.Lasts.eq _,Each.Lasts.eq _,Each.Lasts.eq _,Each.Lasts.eq _,Each.Lasts.eq _,Each.Lasts.eq _,((fun _ _ _ hb h=>by obtain ⟨q1,e1,h1,h2⟩:=h;exact ⟨q1,e1,h1,rr_below h2 hb⟩)),trivial⟩ ?_ ?_
 ·refine ⟨?_,?_,?_,?_,?_,?_,?_,?_,?_,?_,?_,trivial⟩
  ·refine Each.fine rfl (fun ev w1 hR hb hh=>?_);clear hh;have e0:=hR.old 0 rfl;simp only [Array.getD_eq_getD_getElem?,List.getElem?_toArray,List.getElem?_cons_zero,Option.getD_some] at e0;refine Each.Goes.same ?_;go_simp;try with_reducible rfl
  ·refine Each.fine rfl (fun ev w1 hR hb hh=>?_);clear hh;have e0:=hR.old 0 rfl;simp only [Array.getD_eq_getD_getElem?,List.getElem?_toArray,List.getElem?_cons_zero,Option.getD_some] at e0;refine Each.Goes.same ?_;go_simp;try with_reducible rfl
  ·refine Each.fine rfl (fun ev w1 hR hb hh=>?_);have e22:(ev (.tmp 22)=.pointer (some ⟨g,0,none⟩)):=hh.at 0;clear hh;refine Each.Goes.same ?_;go_simp;try with_reducible rfl
  ·refine Each.fine rfl (fun ev w1 hR hb hh=>?_);have e23:(ev (.tmp 23)=.pointer (some ⟨g,0,none⟩)):=hh.at 0;clear hh;refine Each.Goes.same ?_;go_simp;try with_reducible rfl
  ·refine Each.fine rfl (fun ev w1 hR hb hh=>?_);have e24:(ev (.tmp 24)=.pointer (some ⟨g,0,none⟩)):=hh.at 0;clear hh;have q0:=(HQ.out.below hb).c 0 _ rfl;refine Each.Goes.same ?_;go_simp;try with_reducible rfl
  ·refine Each.fine rfl (fun ev w1 hR hb hh=>?_);clear hh;have e0:=hR.old 0 rfl;simp only [Array.getD_eq_getD_getElem?,List.getElem?_toArray,List.getElem?_cons_zero,Option.getD_some] at e0;refine Each.Goes.same ?_;go_simp;try with_reducible rfl
  ·refine Each.fine rfl (fun ev w1 hR hb hh=>?_);have e26:(ev (.tmp 26)=.pointer (some ⟨g,0,none⟩)):=hh.at 0;clear hh;refine Each.Goes.same ?_;go_simp;try with_reducible rfl
  ·refine Each.fine rfl (fun ev w1 hR hb hh=>?_);have e27:(ev (.tmp 27)=.pointer (some ⟨g,0,none⟩)):=hh.at 0;clear hh;refine Each.Goes.same ?_;go_simp;try with_reducible rfl
  ·refine Each.fine rfl (fun ev w1 hR hb hh=>?_);have e28:(ev (.tmp 28)=.pointer (some ⟨g,1,none⟩)):=hh.at 0;clear hh;refine Each.Goes.same ?_;go_simp;try with_reducible rfl
  ·refine Each.fine rfl (fun ev w1 hR hb hh=>?_);have e29:(ev (.tmp 29)=.pointer (some ⟨g,1,none⟩)):=hh.at 0;clear hh;have q1:=(HQ.out.below hb).c 1 _ rfl;refine Each.Goes.same ?_;go_simp;try with_reducible rfl
  ·refine Each.fine rfl (fun ev w1 hR hb hh=>?_);have e25:(ev (.tmp 25)=.int .u32 (p:Int)):=hh.at 0;have e30:(ev (.tmp 30)=.int .i64 b.x0):=hh.at 1;clear hh;have ef:=hR.func
   refine Each.Goes.enter 55 #[.int .u32 (p:Int),.int .i64 (b.x0)] (by go_simp) ((rnew_line B.b (b.x0) w1 (Nat.le_trans HBW.out hb.size)).mono ?_);rintro r w2 ⟨q1,rfl,h1,h2,hb2⟩;exact ⟨_,rfl,hb2,q1,rfl,Nat.le_trans hb.size h1,h2⟩
 intro g1 w2 hb hf;have z21:(g1 21=.pointer (some ⟨g,0,none⟩)):=hf.at 0;have z31:((fun v w=>∃q1,v=ptr q1∧W1.heap.size≤q1∧Ln.Rr w B.b q1 nil p (nl p (b.x0))) (g1 31) w2):=hf.at 10;clear hf;obtain ⟨q1,e1,hq1,hr1⟩:=z31;simp only [Each.putg,Act.put,List.setIfInBounds_toArray,List.set_cons_zero,List.set_cons_succ];rw [e1,z21];simp only [Tree.grow,Tree.put1,List.getElem?_cons_zero,List.getElem?_cons_succ];refine Tree.quiet (by rfl) (ptr g) (fun _ _=>by go_simp) ?_;simp only [Act.put,List.setIfInBounds_toArray,List.set_cons_zero,List.set_cons_succ];refine Tree.quiet (by rfl) (.pointer (some ⟨g,12,none⟩)) (fun _ _=>by go_simp) ?_;simp only [Act.put,List.setIfInBounds_toArray,List.set_cons_zero,List.set_cons_succ];have hrow2:=(hb.block g (Ln.row_lt HR1.out)).trans HR1.out;have c12:=row_cellL hrow2 (k:=12) rfl;have z12:=Ln.row_frozen hrow2 12
 refine Tree.change (by rfl) (fun K hK=>?_);go_simp;refine hK _ _ trivial ?_;clear hK K;refine Tree.done ?_;have HR2:=Lib.hid hrow2;have HRR:=Lib.hid hr1;have HQ1:=Lib.hid hq1;have HB2:=Lib.hid hb;clear HQ HBW HRD hr1 hq1 hrow2 c12 z12 hb;go_wp2;go_end0;have hgq:g≠q1:=by have:=Ln.row_lt HR1.out;have:=HQ1.out;omega
 have hk:Keeps [some g] w2 (w2.setCell ⟨g,12,none⟩ (ptr q1)):=Keeps.set g 12 _ (by simp);refine ⟨rfl,q1,⟨row_setL HR2.out 12 (ptr q1),⟨⟨hk.row HRR.out.row (by simpa using fun e=>hgq e.symm),hk.own HRR.out.own (by simp [Value.ownBlock]),HRR.out.ge,HRR.out.ne⟩,World.ownsRow_nil _ _ _ _,World.ownsRow_nil _ _ _ _,World.ownsRow_nil _ _ _ _,⟨[],rfl,(by intro x hx;cases hx),World.ownsRow_nil _ _ _ _⟩,?_,HB.out,by have:=Ln.row_lt HR2.out;simpa using this,by rw [HZ.out];exact Clear.nil⟩⟩,(HK1.out.trans (Keeps.of_below HB2.out) Of.refl).trans hk Of.refl⟩;intro i j k hi hj;rcases i with _ | _ | _ | _ | _ | _ | _ | i<;>rcases j with _ | _ | _ | _ | _ | _ | _ | j<;>simp [Value.ownBlock] at hi hj ⊢<;>omega
theorem fine_new (p:Nat) (b:Bd):(Pg.Q.new p b).Fine b:=fine_of (Pg.Q.new_ok p b)
theorem dnew_any (hp:p<4294967296) (w:World):Calls Tryz.prog 20 #[.int .u32 (p:Int),.agg #[.int .i64 b.x0,.int .i64 b.x1,.int .i64 b.x2,.int .i64 b.x3,.int .i64 b.x4,.int .i64 b.x5,.int .i64 b.x6,.int .i64 b.x7,.bool b.ch,.bool b.od]] w fun r w'=>
 ∃g L',r=.returned (ptr g)∧w.heap.size≤g∧DQ w' ⟨w.heap.size,[]⟩ g p b L' (Pg.Q.new p b)∧Below w.heap.size w w':=by
 have hqr:=fun w=>Qk.rright_any p hp w;have hbr:=fun w=>Bnd.rright_any b.x0 b.x1 b.x2 b.x3 b.x4 b.x5 b.x6 b.x7 b.ch b.od w
 have HB0:=Lib.hid (((Below.refl _ _).alloc (Nat.le_refl _) (.cells #[.int .i64 b.x0,.int .i64 b.x1,.int .i64 b.x2,.int .i64 b.x3,.int .i64 b.x4,.int .i64 b.x5,.int .i64 b.x6,.int .i64 b.x7,.bool b.ch,.bool b.od] 24)):Below w.heap.size w _)
 have HZ0:=Lib.hid (Rec.Bk.new w w.heap.size rfl 24 [.int .i64 b.x0,.int .i64 b.x1,.int .i64 b.x2,.int .i64 b.x3,.int .i64 b.x4,.int .i64 b.x5,.int .i64 b.x6,.int .i64 b.x7,.bool b.ch,.bool b.od])
 have HSZ:=Lib.hid (show w.heap.size<(w.alloc (.cells #[.int .i64 b.x0,.int .i64 b.x1,.int .i64 b.x2,.int .i64 b.x3,.int .i64 b.x4,.int .i64 b.x5,.int .i64 b.x6,.int .i64 b.x7,.bool b.ch,.bool b.od] 24)).heap.size by simp)
 have HSIM:=Lib.hid (Pg.new_sim (p:=p) (b:=b));have HFI:=Lib.hid (fine_new p b);have hnew:Pg.Q.new p b=if (b.right&&decide (p<1073741824))=true then .live (Pg.T.new p b) else .dead 20 []:=rfl
 have hsn:S.new p b=if (b.right&&decide (p<1073741824))=true then ⟨0,nl p b.x0,zero,0,0,0,false,true,0,[]⟩ else ⟨0,nl p b.x0,zero,0,0,0,false,false,20,[]⟩:=rfl
 generalize Pg.Q.new p b=X at HSIM HFI hnew ⊢;generalize S.new p b=s0 at HSIM hsn;have good:b.right=true→p<1073741824→s0=⟨0,nl p b.x0,zero,0,0,0,false,true,0,[]⟩:=fun h1 h2=>by rw [hsn,if_pos (by rw [h1,decide_eq_true h2];rfl)]
 have bad:¬(b.right=true∧p<1073741824)→s0=⟨0,nl p b.x0,zero,0,0,0,false,false,20,[]⟩:=fun h=>by rw [hsn,if_neg (by simpa using h)]
 clear hnew hsn;by_cases hok:b.right=true∧p<1073741824
 ·have es:=good hok.1 hok.2;subst es;rw [decide_eq_true hok.2] at hqr;rw [show Bnd.right b.x0 b.x1 b.x2 b.x3 b.x4 b.x5 b.x6 b.x7=true from hok.1] at hbr;have HQR:=Lib.hid hqr;have HBR:=Lib.hid hbr;clear hqr hbr good bad hok;go_enter Tryz.func20,Tryz.ntmps20;go_upto_region 1 with fail
  generalize w.alloc (.cells #[.int .i64 b.x0,.int .i64 b.x1,.int .i64 b.x2,.int .i64 b.x3,.int .i64 b.x4,.int .i64 b.x5,.int .i64 b.x6,.int .i64 b.x7,.bool b.ch,.bool b.od] 24)=W0 at *;have y0:=HZ0.out.c 0 _ rfl;have y1:=HZ0.out.c 1 _ rfl;have y2:=HZ0.out.c 2 _ rfl;have y3:=HZ0.out.c 3 _ rfl;have y4:=HZ0.out.c 4 _ rfl;have y5:=HZ0.out.c 5 _ rfl;have y6:=HZ0.out.c 6 _ rfl;have y7:=HZ0.out.c 7 _ rfl;have y8:=HZ0.out.c 8 _ rfl;have y9:=HZ0.out.c 9 _ rfl
  have HG:=Lib.hid (Nat.le_of_lt HSZ.out)
  have HR4:=Lib.hid (heap_alloc_new W0 (.cells #[.int .u32 (p:Int),.int .i64 b.x0,.int .i64 b.x1,.int .i64 b.x2,.int .i64 b.x3,.int .i64 b.x4,.int .i64 b.x5,.int .i64 b.x6,.int .i64 b.x7,.bool b.ch,.bool b.od,.int .i64 0,.pointer none,.string E0,.string E0,.int .i64 0,nil,.bool false,nil,nil,.int .i64 0,.int .i64 0,.int .i64 0,.bool false,.bool true,.int .i64 0,nil] 59))
  have HB4:=Lib.hid (HB0.out.alloc HG.out (.cells #[.int .u32 (p:Int),.int .i64 b.x0,.int .i64 b.x1,.int .i64 b.x2,.int .i64 b.x3,.int .i64 b.x4,.int .i64 b.x5,.int .i64 b.x6,.int .i64 b.x7,.bool b.ch,.bool b.od,.int .i64 0,.pointer none,.string E0,.string E0,.int .i64 0,nil,.bool false,nil,nil,.int .i64 0,.int .i64 0,.int .i64 0,.bool false,.bool true,.int .i64 0,nil] 59))
  have HX4:=Lib.hid (HZ0.out.alloc (.cells #[.int .u32 (p:Int),.int .i64 b.x0,.int .i64 b.x1,.int .i64 b.x2,.int .i64 b.x3,.int .i64 b.x4,.int .i64 b.x5,.int .i64 b.x6,.int .i64 b.x7,.bool b.ch,.bool b.od,.int .i64 0,.pointer none,.string E0,.string E0,.int .i64 0,nil,.bool false,nil,nil,.int .i64 0,.int .i64 0,.int .i64 0,.bool false,.bool true,.int .i64 0,nil] 59))
  have HLT:=Lib.hid (show W0.heap.size<(W0.alloc (.cells #[.int .u32 (p:Int),.int .i64 b.x0,.int .i64 b.x1,.int .i64 b.x2,.int .i64 b.x3,.int .i64 b.x4,.int .i64 b.x5,.int .i64 b.x6,.int .i64 b.x7,.bool b.ch,.bool b.od,.int .i64 0,.pointer none,.string E0,.string E0,.int .i64 0,nil,.bool false,nil,nil,.int .i64 0,.int .i64 0,.int .i64 0,.bool false,.bool true,.int .i64 0,nil] 59)).heap.size by simp);go_upto_region 2 with fail
  generalize hgg:W0.heap.size=g at *;generalize W0.alloc (.cells #[.int .u32 (p:Int),.int .i64 b.x0,.int .i64 b.x1,.int .i64 b.x2,.int .i64 b.x3,.int .i64 b.x4,.int .i64 b.x5,.int .i64 b.x6,.int .i64 b.x7,.bool b.ch,.bool b.od,.int .i64 0,.pointer none,.string E0,.string E0,.int .i64 0,nil,.bool false,nil,nil,.int .i64 0,.int .i64 0,.int .i64 0,.bool false,.bool true,.int .i64 0,nil] 59)=W2 at *;clear y0 y1 y2 y3 y4 y5 y6 y7 y8 y9;have x0:=HX4.out.c 0 _ rfl;have x1:=HX4.out.c 1 _ rfl;have x2:=HX4.out.c 2 _ rfl;have x3:=HX4.out.c 3 _ rfl;have x4:=HX4.out.c 4 _ rfl;have x5:=HX4.out.c 5 _ rfl;have x6:=HX4.out.c 6 _ rfl;have x7:=HX4.out.c 7 _ rfl;have x8:=HX4.out.c 8 _ rfl;have x9:=HX4.out.c 9 _ rfl
  go_wp2_with (first
   |(go_at_call 36;with_reducible refine (next_new (B:=⟨w.heap.size,[]⟩) HR5.out HG.out rfl).mono ?_;rintro r w5 ⟨rfl,q1,hP,hK⟩)
   |(go_at_call 17;with_reducible refine (HQR.out _).mono ?_;rintro r w4 ⟨rfl,hw⟩;rw [hw];clear hw)
   |(go_at_call 16;with_reducible refine (HBR.out _).mono ?_;rintro r w3 ⟨rfl,hb3⟩
     have HB3:=Lib.hid hb3
     have HR5:=Lib.hid ((hb3.block g HLT.out).trans HR4.out);clear hb3))
  go_ret;have hbw:=Base.below_step HB4.out HB3.out;exact ⟨g,_,rfl,HG.out,⟨_,HSIM.out,HFI.out,.inl ⟨q1,nil,nil,nil,nil,rfl,⟨nil,hP.row⟩,hP.own⟩⟩,hbw.trans (hK.below hbw.size (fun k hk=>by rw [Option.some.inj (List.mem_singleton.1 hk)];exact HG.out))⟩
 ·have es:=bad hok;subst es;have hbr':b.right=false∨(b.right=true∧decide (p<1073741824)=false):=by
   cases h:b.right with
   | false=>exact .inl rfl
   | true=>exact .inr ⟨rfl,decide_eq_false fun e=>hok ⟨h,e⟩⟩
  clear good bad hok;have HQR:=Lib.hid hqr;have HBR:=Lib.hid hbr;clear hqr hbr;have key:∀(W0:World) (W:World),Below w.heap.size w W→w.heap.size≤W0.heap.size→W0.heap.size<W.heap.size→W.heap[W0.heap.size]?=some (.cells (ncells p b true 0).toArray 59 (0,0))→
   ∃g L',(Ending.returned (ptr W0.heap.size))=.returned (ptr g)∧w.heap.size≤g∧DQ ((W.setCell ⟨W0.heap.size,25,none⟩ (.int .i64 20)).setCell ⟨W0.heap.size,24,none⟩ (.bool false)) ⟨w.heap.size,[]⟩ g p b L' X∧Below w.heap.size w ((W.setCell ⟨W0.heap.size,25,none⟩ (.int .i64 20)).setCell ⟨W0.heap.size,24,none⟩ (.bool false)):=by
   intro W0 W hb hg hlt hr;have hk:Keeps [some W0.heap.size] W ((W.setCell ⟨W0.heap.size,25,none⟩ (.int .i64 20)).setCell ⟨W0.heap.size,24,none⟩ (.bool false)):=(Keeps.set _ 25 _ (by simp)).trans (Keeps.set _ 24 _ (by simp)) Of.refl;exact ⟨W0.heap.size,[some W0.heap.size],rfl,hg,⟨_,HSIM.out,HFI.out,.inr ⟨rfl,row_setL (row_setL hr 25 (.int .i64 20)) 24 (.bool false),rfl,rfl,rfl,hg,Clear.nil⟩⟩,hb.trans (hk.below hb.size (fun k hk=>by rw [Option.some.inj (List.mem_singleton.1 hk)];exact hg))⟩
  have KEY:=Lib.hid key;clear key HSIM HFI;rcases hbr' with h1 | ⟨h1,h2⟩
  ·rw [show Bnd.right b.x0 b.x1 b.x2 b.x3 b.x4 b.x5 b.x6 b.x7=false from h1] at HBR;clear HQR h1;go_enter Tryz.func20,Tryz.ntmps20;go_upto_region 1 with fail
   generalize w.alloc (.cells #[.int .i64 b.x0,.int .i64 b.x1,.int .i64 b.x2,.int .i64 b.x3,.int .i64 b.x4,.int .i64 b.x5,.int .i64 b.x6,.int .i64 b.x7,.bool b.ch,.bool b.od] 24)=W0 at *;have y0:=HZ0.out.c 0 _ rfl;have y1:=HZ0.out.c 1 _ rfl;have y2:=HZ0.out.c 2 _ rfl;have y3:=HZ0.out.c 3 _ rfl;have y4:=HZ0.out.c 4 _ rfl;have y5:=HZ0.out.c 5 _ rfl;have y6:=HZ0.out.c 6 _ rfl;have y7:=HZ0.out.c 7 _ rfl;have y8:=HZ0.out.c 8 _ rfl;have y9:=HZ0.out.c 9 _ rfl
   have HG:=Lib.hid (Nat.le_of_lt HSZ.out)
   have HR4:=Lib.hid (heap_alloc_new W0 (.cells #[.int .u32 (p:Int),.int .i64 b.x0,.int .i64 b.x1,.int .i64 b.x2,.int .i64 b.x3,.int .i64 b.x4,.int .i64 b.x5,.int .i64 b.x6,.int .i64 b.x7,.bool b.ch,.bool b.od,.int .i64 0,.pointer none,.string E0,.string E0,.int .i64 0,nil,.bool false,nil,nil,.int .i64 0,.int .i64 0,.int .i64 0,.bool false,.bool true,.int .i64 0,nil] 59))
   have HB4:=Lib.hid (HB0.out.alloc HG.out (.cells #[.int .u32 (p:Int),.int .i64 b.x0,.int .i64 b.x1,.int .i64 b.x2,.int .i64 b.x3,.int .i64 b.x4,.int .i64 b.x5,.int .i64 b.x6,.int .i64 b.x7,.bool b.ch,.bool b.od,.int .i64 0,.pointer none,.string E0,.string E0,.int .i64 0,nil,.bool false,nil,nil,.int .i64 0,.int .i64 0,.int .i64 0,.bool false,.bool true,.int .i64 0,nil] 59))
   have HX4:=Lib.hid (HZ0.out.alloc (.cells #[.int .u32 (p:Int),.int .i64 b.x0,.int .i64 b.x1,.int .i64 b.x2,.int .i64 b.x3,.int .i64 b.x4,.int .i64 b.x5,.int .i64 b.x6,.int .i64 b.x7,.bool b.ch,.bool b.od,.int .i64 0,.pointer none,.string E0,.string E0,.int .i64 0,nil,.bool false,nil,nil,.int .i64 0,.int .i64 0,.int .i64 0,.bool false,.bool true,.int .i64 0,nil] 59))
   have HLT:=Lib.hid (show W0.heap.size<(W0.alloc (.cells #[.int .u32 (p:Int),.int .i64 b.x0,.int .i64 b.x1,.int .i64 b.x2,.int .i64 b.x3,.int .i64 b.x4,.int .i64 b.x5,.int .i64 b.x6,.int .i64 b.x7,.bool b.ch,.bool b.od,.int .i64 0,.pointer none,.string E0,.string E0,.int .i64 0,nil,.bool false,nil,nil,.int .i64 0,.int .i64 0,.int .i64 0,.bool false,.bool true,.int .i64 0,nil] 59)).heap.size by simp);go_upto_region 2 with fail
   generalize W0.alloc (.cells #[.int .u32 (p:Int),.int .i64 b.x0,.int .i64 b.x1,.int .i64 b.x2,.int .i64 b.x3,.int .i64 b.x4,.int .i64 b.x5,.int .i64 b.x6,.int .i64 b.x7,.bool b.ch,.bool b.od,.int .i64 0,.pointer none,.string E0,.string E0,.int .i64 0,nil,.bool false,nil,nil,.int .i64 0,.int .i64 0,.int .i64 0,.bool false,.bool true,.int .i64 0,nil] 59)=W2 at *;clear y0 y1 y2 y3 y4 y5 y6 y7 y8 y9;have x0:=HX4.out.c 0 _ rfl;have x1:=HX4.out.c 1 _ rfl;have x2:=HX4.out.c 2 _ rfl;have x3:=HX4.out.c 3 _ rfl;have x4:=HX4.out.c 4 _ rfl;have x5:=HX4.out.c 5 _ rfl;have x6:=HX4.out.c 6 _ rfl;have x7:=HX4.out.c 7 _ rfl;have x8:=HX4.out.c 8 _ rfl;have x9:=HX4.out.c 9 _ rfl;go_upto_region 3 with
    (go_at_call 16;with_reducible refine (HBR.out _).mono ?_;rintro r w3 ⟨rfl,hb3⟩
     have HB3:=Lib.hid hb3;have hr5:=(hb3.block _ HLT.out).trans HR4.out;have d25:=row_cellL hr5 (k:=25) rfl;have e25:=Ln.row_frozen hr5 25;have d24:=row_cellL hr5 (k:=24) rfl;have e24:=Ln.row_frozen hr5 24;have HR5:=Lib.hid hr5;clear hb3 hr5)
   clear x0 x1 x2 x3 x4 x5 x6 x7 x8 x9;go_wp2_with fail;go_ret;exact KEY.out W0 _ (Base.below_step HB4.out HB3.out) HG.out (Nat.lt_of_lt_of_le HLT.out HB3.out.size) HR5.out
  ·rw [show Bnd.right b.x0 b.x1 b.x2 b.x3 b.x4 b.x5 b.x6 b.x7=true from h1] at HBR;rw [h2] at HQR;clear h1 h2;go_enter Tryz.func20,Tryz.ntmps20;go_upto_region 1 with fail
   generalize w.alloc (.cells #[.int .i64 b.x0,.int .i64 b.x1,.int .i64 b.x2,.int .i64 b.x3,.int .i64 b.x4,.int .i64 b.x5,.int .i64 b.x6,.int .i64 b.x7,.bool b.ch,.bool b.od] 24)=W0 at *;have y0:=HZ0.out.c 0 _ rfl;have y1:=HZ0.out.c 1 _ rfl;have y2:=HZ0.out.c 2 _ rfl;have y3:=HZ0.out.c 3 _ rfl;have y4:=HZ0.out.c 4 _ rfl;have y5:=HZ0.out.c 5 _ rfl;have y6:=HZ0.out.c 6 _ rfl;have y7:=HZ0.out.c 7 _ rfl;have y8:=HZ0.out.c 8 _ rfl;have y9:=HZ0.out.c 9 _ rfl
   have HG:=Lib.hid (Nat.le_of_lt HSZ.out)
   have HR4:=Lib.hid (heap_alloc_new W0 (.cells #[.int .u32 (p:Int),.int .i64 b.x0,.int .i64 b.x1,.int .i64 b.x2,.int .i64 b.x3,.int .i64 b.x4,.int .i64 b.x5,.int .i64 b.x6,.int .i64 b.x7,.bool b.ch,.bool b.od,.int .i64 0,.pointer none,.string E0,.string E0,.int .i64 0,nil,.bool false,nil,nil,.int .i64 0,.int .i64 0,.int .i64 0,.bool false,.bool true,.int .i64 0,nil] 59))
   have HB4:=Lib.hid (HB0.out.alloc HG.out (.cells #[.int .u32 (p:Int),.int .i64 b.x0,.int .i64 b.x1,.int .i64 b.x2,.int .i64 b.x3,.int .i64 b.x4,.int .i64 b.x5,.int .i64 b.x6,.int .i64 b.x7,.bool b.ch,.bool b.od,.int .i64 0,.pointer none,.string E0,.string E0,.int .i64 0,nil,.bool false,nil,nil,.int .i64 0,.int .i64 0,.int .i64 0,.bool false,.bool true,.int .i64 0,nil] 59))
   have HX4:=Lib.hid (HZ0.out.alloc (.cells #[.int .u32 (p:Int),.int .i64 b.x0,.int .i64 b.x1,.int .i64 b.x2,.int .i64 b.x3,.int .i64 b.x4,.int .i64 b.x5,.int .i64 b.x6,.int .i64 b.x7,.bool b.ch,.bool b.od,.int .i64 0,.pointer none,.string E0,.string E0,.int .i64 0,nil,.bool false,nil,nil,.int .i64 0,.int .i64 0,.int .i64 0,.bool false,.bool true,.int .i64 0,nil] 59))
   have HLT:=Lib.hid (show W0.heap.size<(W0.alloc (.cells #[.int .u32 (p:Int),.int .i64 b.x0,.int .i64 b.x1,.int .i64 b.x2,.int .i64 b.x3,.int .i64 b.x4,.int .i64 b.x5,.int .i64 b.x6,.int .i64 b.x7,.bool b.ch,.bool b.od,.int .i64 0,.pointer none,.string E0,.string E0,.int .i64 0,nil,.bool false,nil,nil,.int .i64 0,.int .i64 0,.int .i64 0,.bool false,.bool true,.int .i64 0,nil] 59)).heap.size by simp);go_upto_region 2 with fail
   generalize W0.alloc (.cells #[.int .u32 (p:Int),.int .i64 b.x0,.int .i64 b.x1,.int .i64 b.x2,.int .i64 b.x3,.int .i64 b.x4,.int .i64 b.x5,.int .i64 b.x6,.int .i64 b.x7,.bool b.ch,.bool b.od,.int .i64 0,.pointer none,.string E0,.string E0,.int .i64 0,nil,.bool false,nil,nil,.int .i64 0,.int .i64 0,.int .i64 0,.bool false,.bool true,.int .i64 0,nil] 59)=W2 at *;clear y0 y1 y2 y3 y4 y5 y6 y7 y8 y9;have x0:=HX4.out.c 0 _ rfl;have x1:=HX4.out.c 1 _ rfl;have x2:=HX4.out.c 2 _ rfl;have x3:=HX4.out.c 3 _ rfl;have x4:=HX4.out.c 4 _ rfl;have x5:=HX4.out.c 5 _ rfl;have x6:=HX4.out.c 6 _ rfl;have x7:=HX4.out.c 7 _ rfl;have x8:=HX4.out.c 8 _ rfl;have x9:=HX4.out.c 9 _ rfl
   go_upto_region 3 with (first
    |(go_at_call 17;with_reducible refine (HQR.out _).mono ?_;rintro r w4 ⟨rfl,hw⟩;rw [hw];clear hw)
    |(go_at_call 16;with_reducible refine (HBR.out _).mono ?_;rintro r w3 ⟨rfl,hb3⟩
      have HB3:=Lib.hid hb3;have hr5:=(hb3.block _ HLT.out).trans HR4.out;have d25:=row_cellL hr5 (k:=25) rfl;have e25:=Ln.row_frozen hr5 25;have d24:=row_cellL hr5 (k:=24) rfl;have e24:=Ln.row_frozen hr5 24;have HR5:=Lib.hid hr5;clear hb3 hr5))
   clear x0 x1 x2 x3 x4 x5 x6 x7 x8 x9;go_wp2_with fail;go_ret;exact KEY.out W0 _ (Base.below_step HB4.out HB3.out) HG.out (Nat.lt_of_lt_of_le HLT.out HB3.out.size) HR5.out
theorem dclean_any (h:DQ w B g p b L x):Calls Tryz.prog 23 #[ptr g] w fun r w'=>r=.returned (.bool x.clean)∧w'=w:=by have c24:=h.cl;clear h;generalize x.clean=cl at *;go_enter Tryz.func23,Tryz.ntmps23;go_wp2;go_ret;exact ⟨rfl,rfl⟩
end code
end Go.Proofs.YtimoakmcelocfaaGreat.Par
namespace Go.Proofs.YtimoakmcelocfaaGreat.Pg
open Go.RowKit Base Txt Par
def T.pre (o:List Rec.R) (t:T):T:={t with out:=o++t.out}
def Q.pre (o:List Rec.R):Q→Q
 | .live t=>.live (t.pre o)
 | .dead e x=>.dead e (o++x)
section
variable {p:Nat} {b:Bd} {t:T} {o:List Rec.R} {s:List UInt8} {c:UInt8}
end
end Go.Proofs.YtimoakmcelocfaaGreat.Pg
namespace Go.Proofs.YtimoakmcelocfaaGreat.Flt
open Go.RowKit Base Txt Par Pg
section
variable {p:Nat} {b:Bd} {t:T} {s:List UInt8} {c:UInt8}
theorem line_bad_out (h:(t.line p b s).1≠0):(t.line p b s).2.out=t.out:=by
 revert h;unfold T.line;split
 ·unfold T.first;split
  ·intro _;rfl
  ·dsimp only;split
   ·intro h;exact absurd rfl h
   ·intro _;rfl
 ·split
  ·unfold T.fields;split
   ·unfold T.endHead;dsimp only;split
    ·intro _;rfl
    ·split
     ·intro _;rfl
     ·split
      ·intro h;exact absurd rfl h
      ·intro _;rfl
   ·intro _;rfl
  ·split
   ·unfold T.chunk;dsimp only;split
    ·intro _;rfl
    ·split
     ·intro _;rfl
     ·split
      ·intro _;rfl
      ·intro _;rfl
   ·split
    ·unfold T.trail;split
     ·intro h;exact absurd rfl h
     ·intro _;rfl
    ·intro _;rfl
theorem inLine_bad_out {e:Nat} {o:List Rec.R} {u:Bool} (h:t.inLine p b c=(.dead e o,u)):o=t.out:=by
 unfold T.inLine at h;dsimp only at h;split at h
 ·cases h
 ·split at h
  ·cases h;rfl
  ·split at h
   ·split at h
    ·cases h
    ·cases h;rfl
   ·have h1:=congrArg Prod.fst h;unfold ends at h1;dsimp only at h1;split at h1
    ·cases h1
    ·rename_i h0;have:=line_bad_out h0;cases h1;exact this
theorem look_bad_out {e:Nat} {o:List Rec.R} {u:Bool} (h:t.look p b c=(.dead e o,u)):o=t.out:=by
 unfold T.look at h;split at h
 ·cases h
 ·split at h
  ·split at h
   ·cases h;rfl
   ·have:=inLine_bad_out h
    rwa [counted_out] at this
  ·exact inLine_bad_out h
theorem strict_used (hs:t.Strict):(t.inLine 0 b c).2=true:=by
 have h2:t.rd.clear.next c≠2:=by
  unfold Ln.M.next;have e1:t.rd.clear.cr=false:=hs.cr;rw [e1];simp only [Bool.false_eq_true,if_false]
  repeat' split
  all_goals decide
 unfold T.inLine;obtain ⟨how,hh⟩:∃how,t.rd.clear.next c=how:=⟨_,rfl⟩;simp only [hh] at h2 ⊢;split
 ·rfl
 ·split
  ·rfl
  ·split
   ·rw [none0 29,Bool.and_false];rfl
   ·simp only [Bool.not_eq_true',beq_eq_false_iff_ne];exact h2
theorem strict_look (hs:t.Strict):(t.look 0 b c).2=true:=by
 unfold T.look;split
 ·rfl
 ·split
  ·split
   ·rfl
   ·exact strict_used ⟨by rw [counted_rd];exact hs.lf,by rw [counted_rd];exact hs.cr⟩
  ·exact strict_used hs
theorem strict_bad {e:Nat} {o:List Rec.R} (hs:t.Strict) (h:t.take 0 b c=.dead e o):o=t.out:=by
 unfold T.take at h;have hs0:({t with cnt:=false}:T).Strict:=⟨hs.lf,hs.cr⟩;have hu:=strict_look (b:=b) (c:=c) hs0;rcases hq:({t with cnt:=false}:T).look 0 b c with ⟨q,u⟩;rw [hq] at h hu;cases q with
 | dead e1 o1=>
   have:=look_bad_out hq
   cases u<;> (cases h;exact this)
 | live t1=>
   have hu:u=true:=hu;subst hu;cases h
end
end Go.Proofs.YtimoakmcelocfaaGreat.Flt
namespace Go.Proofs.YtimoakmcelocfaaGreat.Par
open Go.RowKit Base Txt Mem Each
section code
set_option maxHeartbeats 4000000
set_option maxRecDepth 20000
attribute [local go_sem] Base.some_undef
variable {w:World} {B:Zone} {g q:Nat} {v f bd t o:Value} {p:Nat} {b:Bd} {s:S} {x:Pg.Q} {L:List (Option Nat)}
theorem dfeed_any (hp:p<4294967296) (h:DQ w B g p b L x) (xo:x.out= []) (a:Option Addr) (ca:Nat) (ls:List (List UInt8)) (hl:Pg.Parts L w a ls) (hn:ls.length≤1000000) (hout:2*ls.flatten.length≤999999998) :
 Calls Tryz.prog 21 #[ptr g,.slice a ls.length ca] w fun r w'=>∃o L',r=.returned o∧DQ w' B g p b L' (x.feed p b ls.flatten).told∧Pg.Told L' B w' o (x.feed p b ls.flatten).out∧Step L L' w w':=by
 obtain ⟨s,hr,ok,hd⟩:=h;have ho:s.out= []:=(Pg.said_sim hr ok).2.1.trans xo;obtain ⟨z26,⟨o0,c26⟩,hrun,hst⟩:=hd.start ho;have HR:=Lib.hid hr;have HOK:=Lib.hid ok;have HU:=Lib.hid hrun;have HS0:=Lib.hid hst;have HL:=Lib.hid (hl.step hst);have HOU:=Lib.hid hout;have HXO:=Lib.hid xo;obtain ⟨n,hnn⟩:∃n,ls.length=n:=⟨_,rfl⟩;have HN:=Lib.hid hnn;have hn1:n≤1000000:=by omega
 rw [hnn];clear hd hr ok hrun hst hl hout xo ho hn hnn;go_enter Tryz.func21,Tryz.ntmps21;go_upto_region 3 with fail
 generalize w.setCell ⟨g,26,none⟩ nil=W1 at *;clear z26 c26
 go_loopw [5] (fun i wr=>∃k:Nat,k≤n∧i=.int .i64 k∧Hid (∃Lr,Run wr B g p b Lr (s.feed p b (ls.take k).flatten)∧Step L Lr W1 wr)) (fun i _=>n-(intOf i).toNat)
 case atStart=>exact ⟨0,Nat.zero_le _,rfl,Lib.hid ⟨L,HU.out,Step.refl⟩⟩
 case round=>
  obtain ⟨k,hk,rfl,hR⟩:=hrel;rcases Nat.lt_or_ge k n with hlt | hge
  ·obtain ⟨Lr,hA,hS⟩:=hR.out;have hkl:k<ls.length:=by rw [HN.out];exact hlt
   obtain ⟨bk,off,rfl, -, -, -⟩:=HL.out.cells (by omega);have htk:(ls.take (k+1)).flatten=(ls.take k).flatten++ls[k]:=by rw [List.take_succ_eq_append_getElem hkl,List.flatten_append];simp
   have hsum:(ls.take (k+1)).flatten.length≤ls.flatten.length:=by have:=congrArg List.length (congrArg List.flatten (List.take_append_drop (k+1) ls));rw [List.flatten_append,List.length_append] at this;omega
   rw [htk,List.length_append] at hsum;have t1:(k:Int)<(n:Int):=by omega
   have HTK:=Lib.hid htk;obtain ⟨pl,hpl⟩:∃pl,ls[k]=pl:=⟨_,rfl⟩;rw [hpl] at hsum HTK;obtain ⟨m,hm⟩:∃m,pl.length=m:=⟨_,rfl⟩;rw [hm] at hsum;have HM:=Lib.hid hm;obtain ⟨q0,hq0⟩:∃q0,(ls.take k).flatten=q0:=⟨_,rfl⟩;rw [hq0] at hA hsum HTK;have hsum2:2*(q0.length+m)≤999999998:=by have:=HOU.out;omega
   have HSUM:=Lib.hid hsum2;have hm9:m≤1000000000:=by omega
   have HCE:=Lib.hid (show∀(wq:World) (Lq:List (Option Nat)),Step L Lq W1 wq→∃ak ck,wq.cell? ⟨bk,off+k,none⟩=some (.slice ak m ck)∧Pg.Bts Lq wq ak pl from fun wq Lq hS=>by obtain ⟨bk',off',e, -, -,hc⟩:=(HL.out.step hS).cells (by omega);cases e;obtain ⟨ak,ck,h1,h2⟩:=hc k hkl;rw [hpl,hm] at h1;rw [hpl] at h2;exact ⟨ak,ck,h1,h2⟩)
   have HA:=Lib.hid hA;have HS:=Lib.hid hS;clear hA hS hsum hsum2 htk hpl hm hR hq0 hkl;go_upto_region 6 with fail
   go_loopw [6] (fun j wq=>∃i:Nat,i≤m∧j=.int .i64 i∧Hid (∃Lq,Run wq B g p b Lq (s.feed p b (q0++pl.take i))∧Step L Lq W1 wq)) (fun j _=>m-(intOf j).toNat)
   case atStart=>exact ⟨0,Nat.zero_le _,rfl,Lib.hid ⟨Lr,by rw [List.take_zero,List.append_nil];exact HA.out,HS.out⟩⟩
   case round=>
    obtain ⟨i,hi,rfl,hR2⟩:=hrel;rcases Nat.lt_or_ge i m with hilt | hige
    ·obtain ⟨Lq,hA2,hS2⟩:=hR2.out;have hil:i<pl.length:=by rw [HM.out];exact hilt
     obtain ⟨ak,ck,hcell,hbt⟩:=HCE.out _ _ hS2
     obtain ⟨zb,zo,rfl,hzb,hz⟩:=hbt.nums.2 (by omega);have hbyte:=hz i hil;have hti:pl.take (i+1)=pl.take i ++ [pl[i]]:=List.take_succ_eq_append_getElem hil;have hgi:(pl.map fun c=>(c.toNat:Int))[i]?.getD 0=(pl[i].toNat:Int):=by simp [hil]
     rw [hgi] at hbyte;have HTI:=Lib.hid hti;obtain ⟨c,hc⟩:∃c,pl[i]=c:=⟨_,rfl⟩;rw [hc] at hbyte HTI;have t2:(i:Int)<(m:Int):=by omega
     obtain ⟨hr3,ok3⟩:=Pg.feed_sim (q0++pl.take i) HR.out HOK.out;have hou3:(s.feed p b (q0++pl.take i)).out.length≤999999998:=by rw [(Pg.said_sim hr3 ok3).2.1];have h1:=Pg.Q.feed_out (p:=p) (b:=b) (q0++pl.take i) x;have h2:=HSUM.out;rw [HXO.out,List.length_append,List.length_take] at h1;simp only [List.length_nil] at h1;omega
     have HTA:=Lib.hid (byteRun_any hp c hA2 hr3 ok3 hou3);have HS2:=Lib.hid hS2;clear hA2 hS2 hz hzb hti hgi hc hr3 ok3 hou3 hR2 hbt
     go_wp2_with (go_at_call 37;with_reducible refine HTA.out.mono ?_;rintro r w5 ⟨rfl,L5,hA5,hS5⟩);go_roundw
     case rel=>exact ⟨i+1,by omega,by go_num,Lib.hid ⟨L5,by rw [HTI.out,←List.append_assoc,S.feed_app];exact hA5,HS2.out.trans hS5⟩⟩
     case measure=>simp [intOf];omega
    ·obtain rfl:i=m:=by omega
     have t2:¬(i:Int)<(i:Int):=by omega
     obtain ⟨Lq,hA2,hS2⟩:=hR2.out;obtain ⟨ak,ck,hcell,hbt⟩:=HCE.out _ _ hS2
     have e:pl.take i=pl:=List.take_of_length_le (by rw [HM.out];exact Nat.le_refl _);rw [e,←HTK.out] at hA2;have HA2:=Lib.hid hA2;have HS2:=Lib.hid hS2;clear hA2 hS2 e hR2 hbt;go_wp2_with fail;go_roundw
     case rel=>exact ⟨k+1,by omega,by go_num,Lib.hid ⟨Lq,HA2.out,HS2.out⟩⟩
     case measure=>simp [intOf];omega
  ·obtain rfl:k=n:=by omega
   have t1:¬(k:Int)<(k:Int):=by omega
   obtain ⟨Lr,hA,hS⟩:=hR.out
   have e:ls.take k=ls:=List.take_of_length_le (by rw [HN.out];exact Nat.le_refl _);rw [e] at hA;obtain ⟨o,L2,c26,hA2,hT2,hS2⟩:=hA.tell;obtain ⟨hr3,ok3⟩:=Pg.feed_sim ls.flatten HR.out HOK.out;have e2:=(Pg.said_sim hr3 ok3).2.1;rw [e2] at hT2
   have HA2:=Lib.hid (show DQ wr B g p b L2 (x.feed p b ls.flatten).told from ⟨_,Pg.told_sim hr3,Pg.told_fine ok3,hA2.told⟩);have HT2:=Lib.hid hT2;have HS2:=Lib.hid ((HS0.out.trans hS).trans hS2);clear hA hS hR e hA2 hT2 hS2 hr3 ok3 e2;go_wp2_with fail;go_ret;exact ⟨o,rfl,L2,HA2.out,HT2.out,HS2.out⟩
theorem qnew_out:(Pg.Q.new p b).out= []:=by unfold Pg.Q.new;split<;>rfl
end code
end Go.Proofs.YtimoakmcelocfaaGreat.Par
namespace Go.Proofs.YtimoakmcelocfaaGreat.DF
open Go.RowKit Base Txt Mem Par Pg Each Flt
def vd (code:Nat):Int:=if code=0 then 1 else 2
abbrev dcells (g1 g2 code:Nat) (pt:Bool):List Value:= [ptr g1,ptr g2,.int .i64 (vd code),.int .i64 (code:Int),.bool pt]
structure DF (w:World) (B g g1 g2 p:Nat) (b:Bd) (L1 L2:List (Option Nat)) (f:F):Prop where
 row:w.heap[g]?=some (.cells (dcells g1 g2 f.code f.parted).toArray 85 (0,0))
 x:∃Z,DQ w ⟨B,Z⟩ g1 0 b L1 f.x
 y:∃Z,DQ w ⟨B,Z⟩ g2 p b L2 f.y
 dis:Dis L1 L2
 n1:some g∉L1
 n2:some g∉L2
 ge:B≤g
 xo:f.x.out= []
 yo:f.y.out= []
abbrev blksD (g:Nat) (L1 L2:List (Option Nat)):List (Option Nat):=some g::(L1++L2)
section
variable {w w' w0 w1:World} {B g g1 g2 p:Nat} {b:Bd} {L1 L2 M M1 M2 N1 N2 Z:List (Option Nat)} {f f':F} {V U:Value} {out out2:List Rec.R}
theorem DF.keeps (h:DF w B g g1 g2 p b L1 L2 f) (hk:Keeps M w w') (hd:Dis (blksD g L1 L2) M):DF w' B g g1 g2 p b L1 L2 f:=
 ⟨hk.row h.row (hd g (by simp)),h.x.imp fun _ h1=>h1.keeps hk fun k hk=>hd k (by simp [hk]),h.y.imp fun _ h1=>h1.keeps hk fun k hk=>hd k (by simp [hk]),h.dis,h.n1,h.n2,h.ge,h.xo,h.yo⟩
theorem DF.in (h:DF w B g g1 g2 p b L1 L2 f):In w (blksD g L1 L2):=by
 intro k hk;obtain ⟨_,hx⟩:=h.x;obtain ⟨_,hy⟩:=h.y;simp only [List.mem_cons,List.mem_append,Option.some.injEq] at hk;rcases hk with rfl | hk | hk
 ·exact Ln.row_lt h.row
 ·exact hx.in k hk
 ·exact hy.in k hk
theorem DF.c (h:DF w B g g1 g2 p b L1 L2 f):w.cell? ⟨g,0,none⟩=some (ptr g1)∧w.cell? ⟨g,1,none⟩=some (ptr g2)∧w.cell? ⟨g,2,none⟩=some (.int .i64 (vd f.code))∧w.cell? ⟨g,3,none⟩=some (.int .i64 (f.code:Int))∧w.cell? ⟨g,4,none⟩=some (.bool f.parted):=
 ⟨row_cellL h.row rfl,row_cellL h.row rfl,row_cellL h.row rfl,row_cellL h.row rfl,row_cellL h.row rfl⟩
structure DS (w0:World) (B g g1 g2 p:Nat) (b:Bd) (Z L1 L2:List (Option Nat)) (f:F) (V:Value) (out:List Rec.R) (N1 N2:List (Option Nat)) (w:World):Prop where
 fat:DF w B g g1 g2 p b N1 N2 f
 outs:Outs (V.ownBlock::blksD g N1 N2) ⟨w0.heap.size,Z⟩ w V out
 far:∀k,V.ownBlock=some k→some k∉blksD g N1 N2
 zone:Clear w Z (V.ownBlock::blksD g N1 N2)
 keeps:Keeps (blksD g L1 L2) w0 w
 of:Of w0 (blksD g L1 L2) (blksD g N1 N2)
theorem DS.start (h:DF w B g g1 g2 p b L1 L2 f) (hz:Clear w Z (blksD g L1 L2)):DS w B g g1 g2 p b Z L1 L2 f (.slice none 0 0) [] L1 L2 w:=
 ⟨h,⟨[],rfl,(by intro x hx;cases hx),World.ownsRow_nil _ _ _ _⟩,(fun k e=>by cases e),clear_sub hz (fun k hk=>by
   rcases List.mem_cons.1 hk with e | e
   ·cases e
   ·exact e),Keeps.refl,Of.refl⟩
theorem DS.off (h:DS w0 B g g1 g2 p b Z L1 L2 f V out N1 N2 w):Clear w (V.ownBlock::Z) (blksD g N1 N2):=by
 obtain ⟨ps,h1,h2,h3⟩:=h.outs;refine ⟨fun k hk=>?_,fun k hk hz=>?_⟩
 ·rcases List.mem_cons.1 hk with e | e
  ·exact (World.ownsRow.lt h3 k e.symm).2
  ·exact h.zone.inz k e
 ·rcases List.mem_cons.1 hz with e | e
  ·exact h.far k e.symm hk
  ·exact h.zone.off k (List.mem_cons_of_mem _ hk) e
theorem DS.next (h:DS w0 B g g1 g2 p b Z L1 L2 f V out N1 N2 w) (hf:DF w1 B g g1 g2 p b M1 M2 f') (ht:Pg.Told (blksD g M1 M2) ⟨B,V.ownBlock::Z⟩ w1 U out2) (hs:Step (blksD g N1 N2) (blksD g M1 M2) w w1) (hn:out.length+out2.length≤1000000000) :
 ∃V' w2,(Builtin.append_ #[51,51] 51 #[V,U]).run Tryz.prog w1=.ok V' w2∧DS w0 B g g1 g2 p b Z L1 L2 f' V' (out++out2) M1 M2 w2:=by
 have o1:=outs_step h.outs hs h.far;obtain ⟨qs,q1,q2,q3⟩:=ht.outs
 have o2:Outs (V.ownBlock::blksD g M1 M2) ⟨B,Z⟩ w1 U out2:=⟨qs,q1,fun x hx=>⟨(q2 x hx).1,(q2 x hx).2.reads,fun k hb=>⟨fun hm=>by
  rcases List.mem_cons.1 hm with e | e
  ·exact (q2 x hx).2.off k hb (by rw [e];exact List.mem_cons_self ..)
  ·exact ((q2 x hx).2.far k hb).1 e,((q2 x hx).2.far k hb).2⟩,fun k hb hz=>(q2 x hx).2.off k hb (List.mem_cons_of_mem _ hz)⟩,q3⟩
 have hsz:=Nat.le_trans h.keeps.size hs.keeps.size;obtain ⟨V',w2,hrun,o3,hk,hor⟩:=outs_append o1 o2 hn hsz;have hVb:∀k,V.ownBlock=some k→w0.heap.size≤k∧k<w.heap.size:=fun k e=>by obtain ⟨ps, -, -,h3⟩:=h.outs;exact World.ownsRow.lt h3 k e
 have hVM:∀k,V.ownBlock=some k→some k∉blksD g M1 M2:=fun k e hm=>by
  rcases hs.of k hm with e1 | e1
  ·exact h.far k e e1
  ·have:=(hVb k e).2;omega
 have hV'M:∀k,V'.ownBlock=some k→some k∉blksD g M1 M2:=fun k e hm=>by
  rcases hor with e1 | e1
  ·exact hVM k (e1 ▸ e) hm
  ·rw [e1] at e;cases e;have:=hf.in _ hm;omega
 have hdis:Dis (blksD g M1 M2) [V.ownBlock]:=fun k hk hm=>by
  have e:some k=V.ownBlock:=by simpa using hm
  exact hVM k e.symm hk
 refine ⟨V',w2,hrun,hf.keeps hk hdis,o3,hV'M,⟨fun k hz=>Nat.lt_of_lt_of_le (h.zone.inz k hz) (Nat.le_trans hs.keeps.size hk.size),fun k hk' hz=>?_⟩,(h.keeps.trans hs.keeps h.of).trans hk (fun k hk=>.inr ?_),h.of.trans hs.of h.keeps.size⟩
 ·rcases List.mem_cons.1 hk' with e | e
  ·rcases hor with e1 | e1
   ·exact h.zone.off k (by rw [e,e1];exact List.mem_cons_self ..) hz
   ·rw [e1] at e;have:=h.zone.inz k hz;have:=hs.keeps.size;cases e;omega
  ·rcases hs.of k e with e1 | e1
   ·exact h.zone.off k (List.mem_cons_of_mem _ e1) hz
   ·have:=h.zone.inz k hz;omega
 ·have e:some k=V.ownBlock:=by simpa using hk
  exact (hVb k e.symm).1
end
structure Pair (w0 w:World) (g1 g2 p:Nat) (b:Bd) (L1 L2:List (Option Nat)):Prop where
 x:∃Z,DQ w ⟨w0.heap.size,Z⟩ g1 0 b L1 (Q.new 0 b)
 y:∃Z,DQ w ⟨w0.heap.size,Z⟩ g2 p b L2 (Q.new p b)
 dis:Dis L1 L2
 bel:Below w0.heap.size w0 w
theorem own_lower' {w:World} {B B':Nat} {e:TypeId} {size n:Nat} {v:Value} {xs:List Value} (h:w.ownsRow B e size v n xs) (hB:B'≤B):w.ownsRow B' e size v n xs:=by
 refine ⟨h.1,?_⟩;rcases h.2 with h0 | ⟨b,cap,cur,rfl,hb,rest⟩
 ·exact .inl h0
 ·exact .inr ⟨b,cap,cur,rfl,Nat.le_trans hB hb,rest⟩
theorem dq_lower {w:World} {B B' g p:Nat} {b:Bd} {L Z:List (Option Nat)} {x:Q} (h:DQ w ⟨B,Z⟩ g p b L x) (hB:B'≤B):DQ w ⟨B',Z⟩ g p b L x:=by
 obtain ⟨s,h1,h2,h3⟩:=h;refine ⟨s,h1,h2,?_⟩;rcases h3 with ⟨q,v,f,bd,t,rfl,⟨o,hrow⟩,hown⟩ | ⟨rfl,h3⟩
 ·exact .inl ⟨q,v,f,bd,t,rfl,⟨o,hrow⟩,⟨⟨hown.R.row,own_lower' hown.R.own hB,Nat.le_trans hB hown.R.ge,hown.R.ne⟩,own_lower' hown.F hB,own_lower' hown.D hB,own_lower' hown.T hB,⟨[],rfl,(by intro x hx;cases hx),World.ownsRow_nil _ _ _ _⟩,hown.lone,Nat.le_trans hB hown.ge,hown.lt,hown.zone⟩⟩
 ·exact .inr ⟨rfl,h3.row,h3.e,h3.clean,h3.out,Nat.le_trans hB h3.ge,h3.zone⟩
theorem Pair.first {w0 w1 w2:World} {g1 g2 p:Nat} {b:Bd} {L1 L2:List (Option Nat)} {B:Nat} (hB:w0.heap.size≤B) (h1:DQ w1 ⟨B,[]⟩ g1 0 b L1 (Q.new 0 b)) (h2:DQ w2 ⟨w1.heap.size,[]⟩ g2 p b L2 (Q.new p b)) (hb1:Below w0.heap.size w0 w1) (hb2:Below w1.heap.size w1 w2):Pair w0 w2 g1 g2 p b L1 L2:=
 ⟨⟨_,(dq_lower h1 hB).below hb2⟩,⟨_,dq_lower h2 hb1.size⟩,fun k hk hk'=>by
   have:=h1.in k hk;have:w1.heap.size≤k:=h2.low k hk'
   omega,Base.below_step hb1 hb2⟩
theorem Pair.filter {w0 w w':World} {g1 g2 p:Nat} {b:Bd} {L1 L2:List (Option Nat)} (h:Pair w0 w g1 g2 p b L1 L2) (hk:Below w.heap.size w w') (hrow:w'.heap[w.heap.size]?=some (.cells (dcells g1 g2 (Q.new p b).err false).toArray 85 (0,0))) (B:Nat) (hB:B≤w0.heap.size):DF w' B w.heap.size g1 g2 p b L1 L2 (F.new p b):=by obtain ⟨Z1,h1⟩:=h.x;obtain ⟨Z2,h2⟩:=h.y;exact ⟨hrow,⟨Z1,(dq_lower h1 hB).below hk⟩,⟨Z2,(dq_lower h2 hB).below hk⟩,h.dis,fun hm=>Nat.lt_irrefl _ (h1.in _ hm),fun hm=>Nat.lt_irrefl _ (h2.in _ hm),Nat.le_trans hB h.bel.size,qnew_out,qnew_out⟩
section code
set_option maxHeartbeats 8000000
set_option maxRecDepth 20000
attribute [local go_sem] Base.some_undef
variable {p:Nat} {b:Bd}
theorem new_any (hp:p<4294967296) (w:World):Calls Tryz.prog 48 #[.int .u32 (p:Int),.agg #[.int .i64 b.x0,.int .i64 b.x1,.int .i64 b.x2,.int .i64 b.x3,.int .i64 b.x4,.int .i64 b.x5,.int .i64 b.x6,.int .i64 b.x7,.bool b.ch,.bool b.od]] w fun r w'=>
 ∃g g1 g2 L1 L2,r=.returned (ptr g)∧DF w' w.heap.size g g1 g2 p b L1 L2 (F.new p b)∧Below w.heap.size w w':=by
 have hqr:=fun w=>Qk.rright_any p hp w;have hbr:=fun w=>show Calls Tryz.prog 16 #[.agg #[.int .i64 b.x0,.int .i64 b.x1,.int .i64 b.x2,.int .i64 b.x3,.int .i64 b.x4,.int .i64 b.x5,.int .i64 b.x6,.int .i64 b.x7,.bool b.ch,.bool b.od]] w fun e w'=>e=.returned (.bool b.right)∧Below w.heap.size w w' from Bnd.rright_any b.x0 b.x1 b.x2 b.x3 b.x4 b.x5 b.x6 b.x7 b.ch b.od w
 have HE:Hid ((Q.new p b).err=if (b.right&&decide (p<1073741824))=true then 0 else 20):=Lib.hid (by unfold Q.new;split<;>rfl);obtain ⟨a1,ha1⟩:∃a,decide (p<1073741824)=a:=⟨_,rfl⟩;obtain ⟨a2,ha2⟩:∃a,b.right=a:=⟨_,rfl⟩;rw [ha1] at hqr HE;rw [ha2] at hbr HE;have HQ:=Lib.hid hqr;have HBR:=Lib.hid hbr;clear ha1 ha2 hqr hbr
 have HB0:=Lib.hid (((Below.refl _ _).alloc (Nat.le_refl _) (.cells #[.int .i64 b.x0,.int .i64 b.x1,.int .i64 b.x2,.int .i64 b.x3,.int .i64 b.x4,.int .i64 b.x5,.int .i64 b.x6,.int .i64 b.x7,.bool b.ch,.bool b.od] 24)):Below w.heap.size w _)
 have HZ0:=Lib.hid (Rec.Bk.new w w.heap.size rfl 24 [.int .i64 b.x0,.int .i64 b.x1,.int .i64 b.x2,.int .i64 b.x3,.int .i64 b.x4,.int .i64 b.x5,.int .i64 b.x6,.int .i64 b.x7,.bool b.ch,.bool b.od])
 have HSZ:=Lib.hid (show w.heap.size<(w.alloc (.cells #[.int .i64 b.x0,.int .i64 b.x1,.int .i64 b.x2,.int .i64 b.x3,.int .i64 b.x4,.int .i64 b.x5,.int .i64 b.x6,.int .i64 b.x7,.bool b.ch,.bool b.od] 24)).heap.size by simp)
 have HN0:=Lib.hid (show∀w:World,Calls Tryz.prog 20 #[.int .u32 0,.agg #[.int .i64 b.x0,.int .i64 b.x1,.int .i64 b.x2,.int .i64 b.x3,.int .i64 b.x4,.int .i64 b.x5,.int .i64 b.x6,.int .i64 b.x7,.bool b.ch,.bool b.od]] w fun r w'=>∃g L',r=.returned (ptr g)∧w.heap.size≤g∧DQ w' ⟨w.heap.size,[]⟩ g 0 b L' (Q.new 0 b)∧Below w.heap.size w w' from fun w=>dnew_any (p:=0) (b:=b) (by decide) w)
 have HN1:=Lib.hid (fun w=>dnew_any (p:=p) (b:=b) hp w);go_enter Tryz.func48,Tryz.ntmps48;go_upto_region 1 with fail
 generalize w.alloc (.cells #[.int .i64 b.x0,.int .i64 b.x1,.int .i64 b.x2,.int .i64 b.x3,.int .i64 b.x4,.int .i64 b.x5,.int .i64 b.x6,.int .i64 b.x7,.bool b.ch,.bool b.od] 24)=W0 at *;generalize hgB:w.heap.size=gB at *;have HGB:=Lib.hid hgB;clear hgB;have y0:=HZ0.out.c 0 _ rfl;have y1:=HZ0.out.c 1 _ rfl;have y2:=HZ0.out.c 2 _ rfl;have y3:=HZ0.out.c 3 _ rfl;have y4:=HZ0.out.c 4 _ rfl;have y5:=HZ0.out.c 5 _ rfl;have y6:=HZ0.out.c 6 _ rfl;have y7:=HZ0.out.c 7 _ rfl;have y8:=HZ0.out.c 8 _ rfl;have y9:=HZ0.out.c 9 _ rfl
 go_region_with (first
  |(go_at_call 20;with_reducible refine (HN0.out _).mono ?_;rintro r wx ⟨gx,Lx,rfl,hgx,hax,hbx⟩
    have HAX:=Lib.hid hax;have HBX:=Lib.hid hbx;first
     | have HZX:=Lib.hid (HZY.out.below hbx)
     | have HZX:=Lib.hid ((HZ0.out.below (Base.below_drewN (Below.refl W0.heap.size W0) 1)).below hbx)
    have x0:=HZX.out.c 0 _ rfl;have x1:=HZX.out.c 1 _ rfl;have x2:=HZX.out.c 2 _ rfl;have x3:=HZX.out.c 3 _ rfl;have x4:=HZX.out.c 4 _ rfl;have x5:=HZX.out.c 5 _ rfl;have x6:=HZX.out.c 6 _ rfl;have x7:=HZX.out.c 7 _ rfl;have x8:=HZX.out.c 8 _ rfl;have x9:=HZX.out.c 9 _ rfl;clear hax hbx hgx)
  |(go_at_call 20;with_reducible refine (HN1.out _).mono ?_;rintro r wy ⟨gy,Ly,rfl,hgy,hay,hby⟩
    have HAY:=Lib.hid hay;have HBY:=Lib.hid hby;first
     | have HZY:=Lib.hid (HZX.out.below hby)
     | have HZY:=Lib.hid ((HZ0.out.below (Base.below_drewN (Below.refl W0.heap.size W0) 1)).below hby)
    have v0:=HZY.out.c 0 _ rfl;have v1:=HZY.out.c 1 _ rfl;have v2:=HZY.out.c 2 _ rfl;have v3:=HZY.out.c 3 _ rfl;have v4:=HZY.out.c 4 _ rfl;have v5:=HZY.out.c 5 _ rfl;have v6:=HZY.out.c 6 _ rfl;have v7:=HZY.out.c 7 _ rfl;have v8:=HZY.out.c 8 _ rfl;have v9:=HZY.out.c 9 _ rfl;clear hay hby hgy))
 all_goals
  have HPR:=Lib.hid (Pair.first (w0:=W0) (Nat.le_refl W0.heap.size) HAX.out HAY.out ((Base.below_drewN (Below.refl W0.heap.size W0) 1).trans HBX.out) HBY.out);clear y0 y1 y2 y3 y4 y5 y6 y7 y8 y9 x0 x1 x2 x3 x4 x5 x6 x7 x8 x9 v0 v1 v2 v3 v4 v5 v6 v7 v8 v9
  have HR:=Lib.hid (heap_alloc_new wy (.cells #[ptr gx,ptr gy,.int .i64 1,.int .i64 0,.bool false] 85))
  have HF:=Lib.hid (Rec.Bk.new wy wy.heap.size rfl 85 [ptr gx,ptr gy,.int .i64 1,.int .i64 0,.bool false])
  have HAL:Hid (Below wy.heap.size wy (wy.alloc (.cells #[ptr gx,ptr gy,.int .i64 1,.int .i64 0,.bool false] 85))):=Lib.hid ((Below.refl _ _).alloc (Nat.le_refl _) _)
  have HZB:=Lib.hid (HZY.out.below HAL.out);generalize wy.alloc (.cells #[ptr gx,ptr gy,.int .i64 1,.int .i64 0,.bool false] 85)=W2 at *;have z0:=HZB.out.c 0 _ rfl;have z1:=HZB.out.c 1 _ rfl;have z2:=HZB.out.c 2 _ rfl;have z3:=HZB.out.c 3 _ rfl;have z4:=HZB.out.c 4 _ rfl;have z5:=HZB.out.c 5 _ rfl;have z6:=HZB.out.c 6 _ rfl;have z7:=HZB.out.c 7 _ rfl;have z8:=HZB.out.c 8 _ rfl;have z9:=HZB.out.c 9 _ rfl
  have HBW:=Lib.hid (show Below gB w wy from HB0.out.trans (HPR.out.bel.mono (Nat.le_of_lt HSZ.out)))
  have HGW:=Lib.hid (show gB≤wy.heap.size from by have:=HBW.out.size;have:=HGB.out;omega)
  have HFIN:Hid (∀(W9:World) (e:Nat),Below wy.heap.size wy W9→(Q.new p b).err=e→W9.heap[wy.heap.size]?=some (.cells (dcells gx gy e false).toArray 85 (0,0))→∃g g1 g2 L1 L2,(Ending.returned (ptr wy.heap.size))=.returned (ptr g)∧DF W9 gB g g1 g2 p b L1 L2 (F.new p b)∧Below gB w W9):=Lib.hid (fun W9 e hb he hr=>⟨_,gx,gy,Lx,Ly,rfl,HPR.out.filter hb (by rw [he];exact hr) gB (Nat.le_of_lt HSZ.out),HBW.out.trans (hb.mono HGW.out)⟩)
  clear HAX HAY HBX HBY HZX HZY HZ0 HPR HBW;by_cases hok:(a2&&a1)=true
  ·obtain ⟨rfl,rfl⟩:a2=true∧a1=true:=by simpa using hok
   clear hok
   go_wp2_with (first
    |(go_at_call 16;with_reducible refine (HBR.out _).mono ?_;rintro r w5 ⟨rfl,hb5⟩
      replace HR:=Lib.hid ((Keeps.of_below hb5:Keeps [] _ _).row HR.out (by simp));replace HAL:=Lib.hid (Base.below_step HAL.out hb5)
      clear hb5)
    |(go_at_call 17;with_reducible refine (HQ.out _).mono ?_;rintro r w6 ⟨rfl,hw⟩;rw [hw];clear hw))
   go_ret;rw [HGB.out];exact HFIN.out _ 0 HAL.out HE.out HR.out
  ·have he20:(Q.new p b).err=20:=HE.out.trans (if_neg hok);have H20:=Lib.hid he20;have hz:a2=false∨(a2=true∧a1=false):=by
    revert hok;cases a2<;>cases a1<;>simp
   clear hok he20 HE;rcases hz with rfl | ⟨rfl,rfl⟩;all_goals
    go_wp2_with (first
     |(go_at_call 16;with_reducible refine (HBR.out _).mono ?_;rintro r w5 ⟨rfl,hb5⟩
       replace HR:=Lib.hid ((Keeps.of_below hb5:Keeps [] _ _).row HR.out (by simp));replace HAL:=Lib.hid (Base.below_step HAL.out hb5);replace HF:=Lib.hid (HF.out.below hb5)
       have d2:=HF.out.c 2 _ rfl;have d3:=HF.out.c 3 _ rfl;have m2:=Ln.row_frozen HR.out 2;have m3:=Ln.row_frozen HR.out 3;clear hb5)
     |(go_at_call 17;with_reducible refine (HQ.out _).mono ?_;rintro r w6 ⟨rfl,hw⟩;rw [hw];clear hw))
    go_ret;rw [HGB.out]
    exact HFIN.out _ 20 ((HAL.out.setCell (p:=⟨wy.heap.size,2,none⟩) (Nat.le_refl _) _).setCell (p:=⟨wy.heap.size,3,none⟩) (Nat.le_refl _) _) H20.out (row_setL (row_setL HR.out 2 (.int .i64 2)) 3 (.int .i64 20))
end code
end Go.Proofs.YtimoakmcelocfaaGreat.DF
namespace Go.Proofs.YtimoakmcelocfaaGreat.DF
open Go.RowKit Base Txt Mem Par Pg Each Flt
def Bt1 (M:List (Option Nat)) (ch:UInt8):Fact:=fun v w=>∃k,v=.slice (some ⟨k,0,none⟩) 1 1∧Bts M w (some ⟨k,0,none⟩) [ch]
def One2 (M:List (Option Nat)) (ch:UInt8):Fact:=fun v w=>∃k k2,v=.slice (some ⟨k,0,none⟩) 1 1∧k<w.heap.size∧some k∉M∧w.cell? ⟨k,0,none⟩=some (.slice (some ⟨k2,0,none⟩) 1 1)∧Bts M w (some ⟨k2,0,none⟩) [ch]
section
variable {w w':World} {B g g1 g2 p:Nat} {b:Bd} {L1 L2:List (Option Nat)} {f:F} {ch:UInt8}
theorem Bt1.lasts {l:List Oper} {A' C':World→List (Option Nat)→Prop} {i1 i2 k:Nat}:LastsTwo l A' C' L1 L2 i1 i2 k (Bt1 (L1++L2) ch):=
 LastsTwo.keeps fun _ _ _ _ hM hk ⟨j,e,h⟩=>⟨j,e,bts_keeps h (hk.mono hM)⟩
theorem One2.lasts {l:List Oper} {A' C':World→List (Option Nat)→Prop} {i1 i2 k:Nat}:LastsTwo l A' C' L1 L2 i1 i2 k (One2 (L1++L2) ch):=
 LastsTwo.keeps fun _ _ _ _ hM hk ⟨j,j2,e,h1,h2,h3,h4⟩=>⟨j,j2,e,Nat.lt_of_lt_of_le h1 hk.size,h2,(hk.cell (p:=⟨j,0,none⟩) h1 fun hm=>h2 (hM j hm)).trans h3,bts_keeps h4 (hk.mono hM)⟩
theorem Bt1.made {M:List (Option Nat)} {W w1:World} (hin:∀k,some k∈M→k<W.heap.size) (hk:Keeps M W w1) (ch:UInt8) (ty:TypeId):Bt1 M ch (.slice (some ⟨w1.heap.size,0,none⟩) 1 1) (w1.alloc (.cells #[.int .u8 (ch.toNat:Int)] ty)):=
 ⟨w1.heap.size,rfl,Bts.lit (fun k hm=>Nat.lt_of_lt_of_le (hin k hm) hk.size) [ch] _ rfl ty _⟩
theorem One2.made {M:List (Option Nat)} {W w1:World} {k2:Nat} (hin:∀k,some k∈M→k<W.heap.size) (hk:Keeps M W w1) (hb:Bts M w1 (some ⟨k2,0,none⟩) [ch]) (ty:TypeId):One2 M ch (.slice (some ⟨w1.heap.size,0,none⟩) 1 1) (w1.alloc (.cells #[.slice (some ⟨k2,0,none⟩) 1 1] ty)):=by
 refine ⟨w1.heap.size,k2,rfl,by simp,fun hm=>?_,?_,hb.alloc _⟩
 ·have:=hin _ hm;have:=hk.size;omega
 ·exact (cell_of_row (w1.alloc (.cells #[.slice (some ⟨k2,0,none⟩) 1 1] ty)) w1.heap.size 0 _ ty (0,0) (heap_alloc_new w1 _)).trans rfl
theorem dfeed_one {X:Q} {Z:List (Option Nat)} {L:List (Option Nat)} (hp:p<4294967296) (hA:DQ w ⟨B,Z⟩ g p b L X) (xo:X.out= []) (k k2:Nat) (hc:w.cell? ⟨k,0,none⟩=some (.slice (some ⟨k2,0,none⟩) 1 1)) (hk:k<w.heap.size) (hkL:some k∉L)
 (hbt:Bts L w (some ⟨k2,0,none⟩) [ch]) (Z':List (Option Nat)) (hz:Clear w Z' L):Calls Tryz.prog 21 #[ptr g,.slice (some ⟨k,0,none⟩) 1 1] w fun r w'=>∃v L',r=.returned v∧DQ w' ⟨B,Z'⟩ g p b L' (X.byte p b ch).told∧Pg.Told L' ⟨B,Z'⟩ w' v (X.byte p b ch).out∧Step L L' w w':=by
 have hpa:Parts L w (some ⟨k,0,none⟩) [[ch]]:=⟨fun _=>⟨k,0,rfl,hk,hkL,fun j hj=>by
  obtain rfl:j=0:=by have:j<1:=hj;omega
  exact ⟨_,1,hc,hbt⟩⟩⟩
 have:=dfeed_any hp (hA.rezone hz) xo (some ⟨k,0,none⟩) 1 [[ch]] hpa (by simp) (by simp);exact this
theorem just_look (hj:f.Just p b) (h0:f.code=0) (ch:UInt8):((f.x.byte 0 b ch).err=0∧(f.y.byte p b ch).err=0∧Rec.all (f.x.byte 0 b ch).out (f.y.byte p b ch).out=true)∨((f.x.byte 0 b ch).err≠0∧(f.x.byte 0 b ch).out= []):=by
 rcases hj with ⟨-, -,t,h3,h4,h5,h6,h7,h8,s,h9⟩ | ⟨h1, -⟩
 ·have e1:f.x.byte 0 b ch=t.take 0 b ch:=by rw [h3];rfl
  have e2:f.y.byte p b ch=(t.wide p).take p b ch:=by rw [h6];rfl
  rw [e1,e2];cases ht:t.take 0 b ch with
  | live t2=>
    obtain ⟨k1, -⟩:=take_wide (p:=p) ht h4;rw [k1];exact .inl ⟨rfl,rfl,all_self _⟩
  | dead e o=>
    have hs:=take_sim h9 h7 h8 ch;rw [ht] at hs;obtain ⟨-,k2, -, -⟩:=hs;exact .inr ⟨k2,(strict_bad h4 ht).trans h5⟩
 ·exact absurd h0 h1
end
section code
set_option maxHeartbeats 8000000
set_option maxRecDepth 20000
attribute [local go_sem] Base.some_undef
variable {w:World} {B g g1 g2 p:Nat} {b:Bd} {L1 L2:List (Option Nat)} {f:F}
abbrev DHas (B g p:Nat) (b:Bd) (X:Q):World→List (Option Nat)→Prop:=fun w L=>∃Z,DQ w ⟨B,Z⟩ g p b L X
theorem told_err (x:Q):x.told.err=x.err:=by cases x<;>rfl
theorem byte_any (hp:p<4294967296) (h:DF w B g g1 g2 p b L1 L2 f) (hj:f.code=0→f.Just p b) (Z:List (Option Nat)) (hZ:Clear w Z (blksD g L1 L2)) (ch:UInt8) :
 Calls Tryz.prog 66 #[ptr g,.int .u8 (ch.toNat:Int)] w fun r w'=>∃v M1 M2,r=.returned v∧DF w' B g g1 g2 p b M1 M2 (f.byte p b ch).1∧Pg.Told (blksD g M1 M2) ⟨B,Z⟩ w' v (f.byte p b ch).2∧Step (blksD g L1 L2) (blksD g M1 M2) w w':=by
 by_cases h0:f.code=0
 ·have hjl:=just_look (hj h0) h0 ch;unfold F.byte;rw [if_pos h0];obtain ⟨X',hX⟩:∃X',f.x.byte 0 b ch=X':=⟨_,rfl⟩;obtain ⟨Y',hY⟩:∃Y',f.y.byte p b ch=Y':=⟨_,rfl⟩;rw [hX,hY] at hjl;have hdw:Below w.heap.size w (w.drewN 1):=Base.below_drewN (Below.refl w.heap.size w) 1;have HX:=Lib.hid hX;have HY:=Lib.hid hY;have HJ:=Lib.hid hjl;have HXO:=Lib.hid h.xo;have HYO:=Lib.hid h.yo
  have HTA:=Lib.hid (show Thing (DHas B g1 0 b f.x) (DHas B g1 0 b X'.told) from obj_dq (B:=⟨B,[]⟩))
  have HTC:=Lib.hid (show Thing (DHas B g2 p b f.y) (DHas B g2 p b Y'.told) from obj_dq (B:=⟨B,[]⟩))
  have HA0:=Lib.hid (show DHas B g1 0 b f.x w L1 from h.x);have HC0:=Lib.hid (show DHas B g2 p b f.y w L2 from h.y);have HD:=Lib.hid h.dis;have HN1:=Lib.hid h.n1;have HN2:=Lib.hid h.n2;have HZC:=Lib.hid hZ;have HGE:=Lib.hid h.ge;have hrow:=h.row;unfold dcells at hrow;rw [show vd f.code=1 from if_pos h0] at hrow
  have HF0:=Lib.hid (show Fix (L1++L2) w g [ptr g1,ptr g2,.int .i64 1,.int .i64 (f.code:Int),.bool f.parted] from ⟨⟨_,hrow⟩,fun hm=>(List.mem_append.1 hm).elim h.n1 h.n2⟩)
  have HF:=Lib.hid (HF0.out.below (Keeps.of_below hdw));have HROW:=Lib.hid h.row
  have HIN:=Lib.hid (show∀k,some k∈L1++L2→k<(w.drewN 1).heap.size from fun k hk=>h.in k (List.mem_cons_of_mem _ hk))
  have HGL:=Lib.hid (show g<(w.drewN 1).heap.size from Ln.row_lt h.row);have elk:f.look p b ch=(F.judge ⟨X'.told,Y'.told,f.code,f.parted⟩ X'.err Y'.err (Rec.all X'.out Y'.out),if Rec.all X'.out Y'.out=true then X'.out else []):=by unfold F.look;rw [hX,hY]
  have HFX:=Lib.hid (show Fits X'.out from hX ▸ byte_fits (by rw [h.xo];intro r hr;cases hr) (by obtain ⟨_,_,_,h1,_⟩:=h.x;exact h1) ch)
  have HFY:=Lib.hid (show Fits Y'.out from hY ▸ byte_fits (by rw [h.yo];intro r hr;cases hr) (by obtain ⟨_,_,_,h1,_⟩:=h.y;exact h1) ch)
  have HLX:=Lib.hid (show X'.out.length≤2 from hX ▸ (by have:=Q.byte_out (p:=0) (b:=b) f.x ch;rw [h.xo] at this;simpa using this));have HLY:=Lib.hid (show Y'.out.length≤2 from hY ▸ (by have:=Q.byte_out (p:=p) (b:=b) f.y ch;rw [h.yo] at this;simpa using this));rw [elk];obtain ⟨F',hF'⟩:∃F',F.judge ⟨X'.told,Y'.told,f.code,f.parted⟩ X'.err Y'.err (Rec.all X'.out Y'.out)=F':=⟨_,rfl⟩;obtain ⟨O',hO'⟩:∃O',(if Rec.all X'.out Y'.out=true then X'.out else [])=O':=⟨_,rfl⟩;rw [hF',hO'];have HFJ:=Lib.hid hF';have HOJ:=Lib.hid hO';clear hF' hO';have c2:w.cell? ⟨g,2,none⟩=some (.int .i64 1):=row_cellL hrow rfl;have H00:=Lib.hid h0;clear h hZ hj hX hY elk hdw hjl hrow h0;go_enter Tryz.func66,Tryz.ntmps66;go_upto_region 3 with fail
  clear c2;refine Each.region_two 18 [12,13,14,15,16,17,18,19,20,21,22,23,24,25,26,27,5,6]
   [fun v _=>v=.pointer (some ⟨g,0,none⟩),
     fun v _=>v=.pointer (some ⟨g,0,none⟩),
     fun v _=>v=.pointer (some ⟨g,0,none⟩),
     fun v _=>v=.pointer (some ⟨g1,0,none⟩),
     fun v _=>v=.int .u8 (ch.toNat:Int),
     Bt1 (L1++L2) ch,
     One2 (L1++L2) ch,
     ToldBy (DHas B g1 0 b X'.told) (DHas B g2 p b f.y) (DHas B g2 p b Y'.told) L2 (some g::Z) B X'.out,
     fun v _=>v=.pointer (some ⟨g,0,none⟩),
     fun v _=>v=.pointer (some ⟨g,0,none⟩),
     fun v _=>v=.pointer (some ⟨g,1,none⟩),
     fun v _=>v=.pointer (some ⟨g2,0,none⟩),
     fun v _=>v=.int .u8 (ch.toNat:Int),
     Bt1 (L1++L2) ch,
     One2 (L1++L2) ch,
     ToldBy (DHas B g2 p b Y'.told) (DHas B g1 0 b f.x) (DHas B g1 0 b X'.told) L1 (some g::Z) B Y'.out,
     ToldBy (DHas B g1 0 b X'.told) (DHas B g2 p b f.y) (DHas B g2 p b Y'.told) L2 (some g::Z) B X'.out,
     ToldBy (DHas B g2 p b Y'.told) (DHas B g1 0 b f.x) (DHas B g1 0 b X'.told) L1 (some g::Z) B Y'.out]
   7 15 HTA.out HTC.out HA0.out HC0.out HD.out (by kernel_rfl) (by kernel_rfl) (by kernel_rfl) (by kernel_rfl) (fun _ _ d _ _ h=>by cases d<;>exact h) (by rfl) (by rfl) (by rfl)
   ⟨(Each.LastsTwo.pure _ _),(Each.LastsTwo.pure _ _),(Each.LastsTwo.pure _ _),(Each.LastsTwo.pure _ _),(Each.LastsTwo.pure _ _),Bt1.lasts,One2.lasts,ToldBy.first HTA.out HTC.out (.inl rfl),(Each.LastsTwo.pure _ _),(Each.LastsTwo.pure _ _),(Each.LastsTwo.pure _ _),(Each.LastsTwo.pure _ _),(Each.LastsTwo.pure _ _),Bt1.lasts,One2.lasts,ToldBy.second HTA.out HTC.out (.inl rfl),ToldBy.first HTA.out HTC.out (.inr (by rfl)),ToldBy.second HTA.out HTC.out (.inr (by rfl)),trivial⟩ ?_ ?_
  ·refine ⟨?_,?_,?_,?_,?_,?_,?_,?_,?_,?_,?_,?_,?_,?_,?_,?_,?_,?_,trivial⟩
   ·refine Each.fine_two (by decide) (by decide) rfl (fun ev w1 hR hb hh=>?_);clear hh;have e0:=hR.old 0 rfl;simp only [Array.getD_eq_getD_getElem?,List.getElem?_toArray,List.getElem?_cons_zero,Option.getD_some] at e0;refine Each.Goes.same ?_;go_simp;try with_reducible rfl
   ·refine Each.fine_two (by decide) (by decide) rfl (fun ev w1 hR hb hh=>?_);have e12:(ev (.tmp 12)=.pointer (some ⟨g,0,none⟩)):=hh.at 0;clear hh;refine Each.Goes.same ?_;go_simp;try with_reducible rfl
   ·refine Each.fine_two (by decide) (by decide) rfl (fun ev w1 hR hb hh=>?_);have e13:(ev (.tmp 13)=.pointer (some ⟨g,0,none⟩)):=hh.at 0;clear hh;refine Each.Goes.same ?_;go_simp;try with_reducible rfl
   ·refine Each.fine_two (by decide) (by decide) rfl (fun ev w1 hR hb hh=>?_);have e14:(ev (.tmp 14)=.pointer (some ⟨g,0,none⟩)):=hh.at 0;clear hh;have q0:=(HF.out.below hb).c 0 _ rfl;refine Each.Goes.same ?_;go_simp;try with_reducible rfl
   ·refine Each.fine_two (by decide) (by decide) rfl (fun ev w1 hR hb hh=>?_);clear hh;have e1:=hR.old 1 rfl;simp only [Array.getD_eq_getD_getElem?,List.getElem?_toArray,List.getElem?_cons_succ,List.getElem?_cons_zero,Option.getD_some] at e1;refine Each.Goes.same ?_;go_simp;try with_reducible rfl
   ·refine Each.fine_two (by decide) (by decide) rfl (fun ev w1 hR hb hh=>?_);have e16:(ev (.tmp 16)=.int .u8 (ch.toNat:Int)):=hh.at 0;clear hh
    exact Each.Goes.value (.slice (some ⟨w1.heap.size,0,none⟩) 1 1) (w1.alloc (.cells #[.int .u8 (ch.toNat:Int)] 5)) (by go_simp) ((Below.refl _ _).alloc (Nat.le_refl _) _) (Bt1.made HIN.out hb ch _)
   ·refine Each.fine_two (by decide) (by decide) rfl (fun ev w1 hR hb hh=>?_);have e17:((Bt1 (L1++L2) ch) (ev (.tmp 17)) w1):=hh.at 0;clear hh;obtain ⟨k2,e17,hbt⟩:=e17
    exact Each.Goes.value (.slice (some ⟨w1.heap.size,0,none⟩) 1 1) (w1.alloc (.cells #[.slice (some ⟨k2,0,none⟩) 1 1] 34)) (by go_simp) ((Below.refl _ _).alloc (Nat.le_refl _) _) (One2.made HIN.out hb hbt _)
   ·refine Each.fine_first rfl (fun ev w1 M2 hR hb hA hC hd hh=>?_);have e15:(ev (.tmp 15)=.pointer (some ⟨g1,0,none⟩)):=hh.at 0;have e18:((One2 (L1++L2) ch) (ev (.tmp 18)) w1):=hh.at 1;clear hh;have ef:=hR.func;obtain ⟨k,k2,e18,hkl,hkn,hkc,hbt0⟩:=e18;obtain ⟨Z1,hA⟩:=hA;have hsz:=hb.size;have hi2:In w1 L2:=fun k hk=>Nat.lt_of_lt_of_le (HIN.out k (List.mem_append_right _ hk)) hsz
    have hcl:Clear w1 (L2++(M2++(some g::Z))) L1:=clear_app (clear_dis hi2 HD.out) (clear_app (clear_dis (HTC.out.in hC) hd) (clear_cons (Nat.lt_of_lt_of_le HGL.out hsz) HN1.out ⟨fun k hk=>Nat.lt_of_lt_of_le (HZC.out.inz k hk) hsz,fun k hk=>HZC.out.off k (List.mem_cons_of_mem _ (List.mem_append_left _ hk))⟩));have hbt:Bts L1 w1 (some ⟨k2,0,none⟩) [ch]:=bts_sub hbt0 fun k hk=>List.mem_append_left _ hk
    refine Each.GoesR.enter 21 #[ptr g1,.slice (some ⟨k,0,none⟩) 1 1] (by go_simp) ((dfeed_one (p:=0) (by decide) hA HXO.out k k2 hkc hkl (fun hm=>hkn (List.mem_append_left _ hm)) hbt _ hcl).mono ?_);rintro r w2 ⟨v,N1,rfl,h1,h2,h3⟩;rw [HX.out] at h1 h2;exact ⟨v,rfl,⟨N1,⟨_,h1⟩,h3⟩,N1,M2,⟨_,h1⟩,HTC.out.now hC h3.keeps hd.symm,(HD.out.symm.of hi2 h3.of).symm,h2⟩
   ·refine Each.fine_two (by decide) (by decide) rfl (fun ev w1 hR hb hh=>?_);clear hh;have e0:=hR.old 0 rfl;simp only [Array.getD_eq_getD_getElem?,List.getElem?_toArray,List.getElem?_cons_zero,Option.getD_some] at e0;refine Each.Goes.same ?_;go_simp;try with_reducible rfl
   ·refine Each.fine_two (by decide) (by decide) rfl (fun ev w1 hR hb hh=>?_);have e20:(ev (.tmp 20)=.pointer (some ⟨g,0,none⟩)):=hh.at 0;clear hh;refine Each.Goes.same ?_;go_simp;try with_reducible rfl
   ·refine Each.fine_two (by decide) (by decide) rfl (fun ev w1 hR hb hh=>?_);have e21:(ev (.tmp 21)=.pointer (some ⟨g,0,none⟩)):=hh.at 0;clear hh;refine Each.Goes.same ?_;go_simp;try with_reducible rfl
   ·refine Each.fine_two (by decide) (by decide) rfl (fun ev w1 hR hb hh=>?_);have e22:(ev (.tmp 22)=.pointer (some ⟨g,1,none⟩)):=hh.at 0;clear hh;have q1:=(HF.out.below hb).c 1 _ rfl;refine Each.Goes.same ?_;go_simp;try with_reducible rfl
   ·refine Each.fine_two (by decide) (by decide) rfl (fun ev w1 hR hb hh=>?_);clear hh;have e1:=hR.old 1 rfl;simp only [Array.getD_eq_getD_getElem?,List.getElem?_toArray,List.getElem?_cons_succ,List.getElem?_cons_zero,Option.getD_some] at e1;refine Each.Goes.same ?_;go_simp;try with_reducible rfl
   ·refine Each.fine_two (by decide) (by decide) rfl (fun ev w1 hR hb hh=>?_);have e24:(ev (.tmp 24)=.int .u8 (ch.toNat:Int)):=hh.at 0;clear hh
    exact Each.Goes.value (.slice (some ⟨w1.heap.size,0,none⟩) 1 1) (w1.alloc (.cells #[.int .u8 (ch.toNat:Int)] 5)) (by go_simp) ((Below.refl _ _).alloc (Nat.le_refl _) _) (Bt1.made HIN.out hb ch _)
   ·refine Each.fine_two (by decide) (by decide) rfl (fun ev w1 hR hb hh=>?_);have e25:((Bt1 (L1++L2) ch) (ev (.tmp 25)) w1):=hh.at 0;clear hh;obtain ⟨k2,e25,hbt⟩:=e25
    exact Each.Goes.value (.slice (some ⟨w1.heap.size,0,none⟩) 1 1) (w1.alloc (.cells #[.slice (some ⟨k2,0,none⟩) 1 1] 34)) (by go_simp) ((Below.refl _ _).alloc (Nat.le_refl _) _) (One2.made HIN.out hb hbt _)
   ·refine Each.fine_second (by decide) rfl (fun ev w1 M1 hR hb hC hA hd hh=>?_);have e23:(ev (.tmp 23)=.pointer (some ⟨g2,0,none⟩)):=hh.at 0;have e26:((One2 (L1++L2) ch) (ev (.tmp 26)) w1):=hh.at 1;clear hh;have ef:=hR.func;obtain ⟨k,k2,e26,hkl,hkn,hkc,hbt0⟩:=e26;obtain ⟨Z1,hC⟩:=hC;have hsz:=hb.size;have hi2:In w1 L1:=fun k hk=>Nat.lt_of_lt_of_le (HIN.out k (List.mem_append_left _ hk)) hsz
    have hcl:Clear w1 (L1++(M1++(some g::Z))) L2:=clear_app (clear_dis hi2 HD.out.symm) (clear_app (clear_dis (HTA.out.in hA) hd) (clear_cons (Nat.lt_of_lt_of_le HGL.out hsz) HN2.out ⟨fun k hk=>Nat.lt_of_lt_of_le (HZC.out.inz k hk) hsz,fun k hk=>HZC.out.off k (List.mem_cons_of_mem _ (List.mem_append_right _ hk))⟩));have hbt:Bts L2 w1 (some ⟨k2,0,none⟩) [ch]:=bts_sub hbt0 fun k hk=>List.mem_append_right _ hk
    refine Each.GoesR.enter 21 #[ptr g2,.slice (some ⟨k,0,none⟩) 1 1] (by go_simp) ((dfeed_one hp hC HYO.out k k2 hkc hkl (fun hm=>hkn (List.mem_append_right _ hm)) hbt _ hcl).mono ?_);rintro r w2 ⟨v,N1,rfl,h1,h2,h3⟩;rw [HY.out] at h1 h2;exact ⟨v,rfl,⟨N1,⟨_,h1⟩,h3⟩,N1,M1,⟨_,h1⟩,HTA.out.now hA h3.keeps hd.symm,(HD.out.of hi2 h3.of).symm,h2⟩
   ·refine Each.fine_two (by decide) (by decide) rfl (fun ev w1 hR hb hh=>?_);have e19:((ToldBy (DHas B g1 0 b X'.told) (DHas B g2 p b f.y) (DHas B g2 p b Y'.told) L2 (some g::Z) B X'.out) (ev (.tmp 19)) w1):=hh.at 0;clear hh;exact Each.Goes.value (ev (.tmp 19)) w1 (by go_simp) (Below.refl _ _) e19
   ·refine Each.fine_two (by decide) (by decide) rfl (fun ev w1 hR hb hh=>?_);have e27:((ToldBy (DHas B g2 p b Y'.told) (DHas B g1 0 b f.x) (DHas B g1 0 b X'.told) L1 (some g::Z) B Y'.out) (ev (.tmp 27)) w1):=hh.at 0;clear hh;exact Each.Goes.value (ev (.tmp 27)) w1 (by go_simp) (Below.refl _ _) e27
  intro ga w2 M1 M2 hA hC hd hof1 hof2 hb hf;have z5:(ToldBy (DHas B g1 0 b X'.told) (DHas B g2 p b f.y) (DHas B g2 p b Y'.told) L2 (some g::Z) B X'.out) (ga 5) w2:=hf.at 16;have z6:(ToldBy (DHas B g2 p b Y'.told) (DHas B g1 0 b f.x) (DHas B g1 0 b X'.told) L1 (some g::Z) B Y'.out) (ga 6) w2:=hf.at 17;clear hf;obtain ⟨N1,K2,hA5,hC5,hd5,ht5⟩:=z5;obtain ⟨N2,K1,hA6,hC6,hd6,ht6⟩:=z6;have u1:N1=M1:=HTA.out.uniq (.inr hA5) hA;have u2:N2=M2:=HTC.out.uniq (.inr hA6) hC;have u3:K2=M2:=HTC.out.uniq hC5 hC;have u4:K1=M1:=HTA.out.uniq hC6 hA;subst u1 u2 u3 u4;obtain ⟨a5,c5,e5,hr5⟩:=told_recs ht5;obtain ⟨a6,c6,e6,hr6⟩:=told_recs ht6;have hk2:Keeps (blksD g L1 L2) w w2:=hb.mono fun k hk=>List.mem_cons_of_mem _ hk;have hn1:some g∉K1:=fun hm=>by
   rcases hof1 g hm with e | e
   ·exact HN1.out e
   ·exact absurd HGL.out (Nat.not_lt.2 e)
  have hn2:some g∉K2:=fun hm=>by
   rcases hof2 g hm with e | e
   ·exact HN2.out e
   ·exact absurd HGL.out (Nat.not_lt.2 e)
  have hof:Of w (blksD g L1 L2) (blksD g K1 K2):=fun k hk=>by
   simp only [List.mem_cons,List.mem_append] at hk ⊢;rcases hk with hk | hk | hk
   ·exact .inl (.inl hk)
   ·exact (hof1 k hk).imp (fun e=>.inr (.inl e)) id
   ·exact (hof2 k hk).imp (fun e=>.inr (.inr e)) id
  have HS2:=Lib.hid (show Step (blksD g L1 L2) (blksD g K1 K2) w w2 from ⟨hk2,hof⟩)
  have HFA:=Lib.hid (show DF w2 B g g1 g2 p b K1 K2 ⟨X'.told,Y'.told,f.code,f.parted⟩ from ⟨hb.row HROW.out HF0.out.off,hA5,hA6,hd,hn1,hn2,HGE.out,Pg.told_out _,Pg.told_out _⟩);have HT5:=Lib.hid ht5;have HR5:=Lib.hid hr5;have HR6:=Lib.hid hr6;clear hA hC hd hof1 hof2 hb hA5 hC5 hd5 hA6 hC6 hd6 ht6 hr5 hr6 hn1 hn2 hof hk2 ht5;simp only [Each.putg,Act.put,List.setIfInBounds_toArray,List.set_cons_zero,List.set_cons_succ];rw [e5,e6];obtain ⟨n5,hn5⟩:∃n,X'.out.length=n:=⟨_,rfl⟩;obtain ⟨n6,hn6⟩:∃n,Y'.out.length=n:=⟨_,rfl⟩;have c0:w2.cell? ⟨g,0,none⟩=some (ptr g1):=HFA.out.c.1;have c1:w2.cell? ⟨g,1,none⟩=some (ptr g2):=HFA.out.c.2.1;have q1:w2.cell? ⟨g1,25,none⟩=some (.int .i64 (X'.err:Int)):=by obtain ⟨_,hq⟩:=HFA.out.x;rw [←told_err X'];exact hq.e
  have q2:w2.cell? ⟨g2,25,none⟩=some (.int .i64 (Y'.err:Int)):=by obtain ⟨_,hq⟩:=HFA.out.y;rw [←told_err Y'];exact hq.e
  rcases HJ.out with ⟨hx0,hy0,hal⟩ | ⟨hx0,hxo⟩
  ·have HALL:=Lib.hid (show Calls Tryz.prog 22 #[.slice a5 n5 c5,.slice a6 n6 c6] w2 fun e w'=>e=.returned (.bool true)∧Below w2.heap.size w2 w' from by
    rw [←hn5,←hn6,←hal];exact Rec.rall_any a5 X'.out.length c5 X'.out a6 Y'.out.length c6 Y'.out w2 HR5.out HR6.out (by have:=HLX.out;omega) (by have:=HLY.out;omega) HFX.out HFY.out)
   rw [hn5,hn6];rw [e5,hn5] at HT5;rw [hx0] at q1;rw [hy0] at q2;have ej:F.judge ⟨X'.told,Y'.told,f.code,f.parted⟩ X'.err Y'.err (Rec.all X'.out Y'.out)=⟨X'.told,Y'.told,f.code,f.parted⟩:=by rw [hx0,hy0,hal];rfl
   have eo:(if Rec.all X'.out Y'.out=true then X'.out else [])=X'.out:=by rw [hal,if_pos rfl]
   have HFE:=Lib.hid (HFJ.out.symm.trans ej);have HOE:=Lib.hid (HOJ.out.symm.trans eo);clear ej eo hal HFJ HOJ hx0 hy0 hn5 hn6 e5 e6 HR5 HR6
   go_wp2_with (go_at_call 22;with_reducible refine HALL.out.mono ?_;rintro r w3 ⟨rfl,hb3⟩;have HB3:=Lib.hid hb3;clear hb3);go_ret;rw [HFE.out,HOE.out]
   exact ⟨_,K1,K2,rfl,HFA.out.keeps (Keeps.of_below HB3.out:Keeps [] w2 w3) (fun _ _ hm=>by cases hm),((told_widen (L':=blksD g K1 K2) (HT5.out.keeps (Keeps.of_below HB3.out:Keeps [] w2 w3) (fun _ hm=>by cases hm)) (fun k hk=>by
    simp only [List.mem_cons,List.mem_append] at hk ⊢;rcases hk with hk | hk | hk
    ·exact .inr (.inr (.inr (.inl hk)))
    ·exact .inl hk
    ·exact .inr (.inr (.inl hk)))).rezone (Z:=Z) fun k hk=>.inl (by simp [hk])),HS2.out.trans (Step.of_below HB3.out)⟩
  ·have n1:((X'.err:Int) != 0)=true:=by
    rw [bne_iff_ne];omega
   have n1':¬(X'.err:Int)=0:=by omega
   have e2:(Y'.err==0)=((Y'.err:Int)==0):=by rw [Bool.eq_iff_iff,beq_iff_eq,beq_iff_eq];omega
   have ej:F.judge ⟨X'.told,Y'.told,f.code,f.parted⟩ X'.err Y'.err (Rec.all X'.out Y'.out)=⟨X'.told,Y'.told,X'.err,((Y'.err:Int)==0)⟩:=by unfold F.judge;rw [if_pos hx0,e2]
   have eo:(if Rec.all X'.out Y'.out=true then X'.out else [])= []:=by rw [hxo];split<;>rfl
   have HFE:=Lib.hid (HFJ.out.symm.trans ej);have HOE:=Lib.hid (HOJ.out.symm.trans eo);clear HFJ HOJ;have HX0:=Lib.hid hx0;have HR:=Lib.hid HFA.out.row;have d2:=HFA.out.c.2.2.1;have d3:=HFA.out.c.2.2.2.1;have d4:=HFA.out.c.2.2.2.2;have m2:=Ln.row_frozen HR.out 2;have m3:=Ln.row_frozen HR.out 3;have m4:=Ln.row_frozen HR.out 4;obtain ⟨xe,hxe⟩:∃xe:Int,(X'.err:Int)=xe:=⟨_,rfl⟩;obtain ⟨ye,hye⟩:∃ye:Int,(Y'.err:Int)=ye:=⟨_,rfl⟩;have HXE:=Lib.hid hxe;have HYE:=Lib.hid hye;rw [hye] at HFE;rw [hxe] at q1 n1 n1';rw [hye] at q2;clear ej eo hx0 hxo hn5 hn6 e5 e6 HR5 HR6 e2 HT5 hxe hye;go_upto_region 6 with fail
   go_region;all_goals
    go_wp2;go_ret;have hrow5:((((w2.setCell ⟨g,2,none⟩ (.int .i64 2)).setCell ⟨g,3,none⟩ (.int .i64 xe)).setCell ⟨g,4,none⟩ (.bool (ye==0))).drew).heap[g]?=some (.cells (dcells g1 g2 X'.err (ye==0)).toArray 85 (0,0)):=by
     unfold dcells;rw [show vd X'.err=2 from if_neg HX0.out,HXE.out]
     exact row_setL (row_setL (row_setL HR.out 2 (.int .i64 2)) 3 (.int .i64 xe)) 4 (.bool (ye==0))
    have hk5:Keeps [some g] w2 ((((w2.setCell ⟨g,2,none⟩ (.int .i64 2)).setCell ⟨g,3,none⟩ (.int .i64 xe)).setCell ⟨g,4,none⟩ (.bool (ye==0))).drew):=(((Keeps.set g 2 (.int .i64 2) (by simp)).trans (Keeps.set g 3 (.int .i64 xe) (by simp)) Of.refl).trans (Keeps.set g 4 (.bool (ye==0)) (by simp)) Of.refl).trans ((Keeps.of_below (Below.refl _ _).drew:Keeps [] _ _).mono (fun k hk=>by cases hk)) Of.refl;have hd5:Dis (K1++K2) [some g]:=fun k hk hm=>by
     have e:k=g:=by simpa using hm
     rw [e] at hk;exact (List.mem_append.1 hk).elim HFA.out.n1 HFA.out.n2
    rw [HFE.out,HOE.out]
    exact ⟨_,rfl,K1,K2,⟨hrow5,HFA.out.x.imp fun _ h1=>h1.keeps hk5 fun k hk=>hd5 k (List.mem_append_left _ hk),HFA.out.y.imp fun _ h1=>h1.keeps hk5 fun k hk=>hd5 k (List.mem_append_right _ hk),HFA.out.dis,HFA.out.n1,HFA.out.n2,HGE.out,Pg.told_out _,Pg.told_out _⟩,told_nil _ _ _,HS2.out.trans ⟨hk5.mono (fun k hk=>by
     have e:k=g:=by simpa using hk
     rw [e];simp),Of.refl⟩⟩
 ·have c2:w.cell? ⟨g,2,none⟩=some (.int .i64 2):=by have:=h.c.2.2.1;rw [show vd f.code=2 from if_neg h0] at this;exact this
  unfold F.byte;rw [if_neg h0];have H:=Lib.hid h;clear h hj hZ;go_enter Tryz.func66,Tryz.ntmps66;go_wp2;go_ret;exact ⟨_,L1,L2,rfl,H.out,told_nil _ _ _,Step.refl⟩
end code
end Go.Proofs.YtimoakmcelocfaaGreat.DF
namespace Go.Proofs.YtimoakmcelocfaaGreat.DF
open Go.RowKit Base Txt Mem Par Pg Each Flt
section
variable {w w':World} {p:Nat} {b:Bd} {f:F}
theorem just_on (hj:f.code=0→f.Just p b) (l:List UInt8):(F.feed p b f l).1.code=0→(F.feed p b f l).1.Just p b:=by
 intro h;by_cases h0:f.code=0
 ·exact just_feed l (hj h0)
 ·rw [F.feed_blocked p b f h0] at h;exact absurd h h0
theorem parts_step {L L':List (Option Nat)} {a:Option Addr} {ls:List (List UInt8)} (h:Parts L w a ls) (hk:Keeps L w w') (ho:Of w L L'):Parts L' w' a ls:=by
 refine ⟨fun h0=>?_⟩;obtain ⟨bk,off,e,hlt,hn,hc⟩:=h.cells h0;refine ⟨bk,off,e,Nat.lt_of_lt_of_le hlt hk.size,fun hm=>?_,fun k hkl=>?_⟩
 ·rcases ho bk hm with e | e
  ·exact hn e
  ·omega
 ·obtain ⟨ak,ck,c1,c2⟩:=hc k hkl;exact ⟨ak,ck,(hk.cell (p:=⟨bk,off+k,none⟩) hlt hn).trans c1,c2.step ⟨hk,ho⟩⟩
end
section code
set_option maxHeartbeats 4000000
set_option maxRecDepth 20000
attribute [local go_sem] Base.some_undef
variable {w:World} {B g g1 g2 p:Nat} {b:Bd} {L1 L2:List (Option Nat)} {f:F}
theorem feed_any (hp:p<4294967296) (h:DF w B g g1 g2 p b L1 L2 f) (hj:f.code=0→f.Just p b) (Z:List (Option Nat)) (hZ:Clear w Z (blksD g L1 L2)) (a:Option Addr) (ca:Nat) (ls:List (List UInt8)) (hl:Parts (blksD g L1 L2) w a ls) (hn:ls.length≤1000000) (hlen:ls.flatten.length≤400000000) :
 Calls Tryz.prog 49 #[ptr g,.slice a ls.length ca] w fun r w'=>∃V,r=.returned V∧∃M1 M2,DS w B g g1 g2 p b Z L1 L2 (F.feed p b f ls.flatten).1 V (F.feed p b f ls.flatten).2 M1 M2 w':=by
 have HL:=Lib.hid hl;have HOU:=Lib.hid hlen;have HXO:=Lib.hid h.xo;have HJU:=Lib.hid hj
 have HS0:=Lib.hid (DS.start h hZ);obtain ⟨R,hR⟩:∃R,F.feed p b f ls.flatten=R:=⟨_,rfl⟩;rw [hR];have HR:=Lib.hid hR;obtain ⟨n,hnn⟩:∃n,ls.length=n:=⟨_,rfl⟩;have HN:=Lib.hid hnn;have hn1:n≤1000000:=by omega
 rw [hnn];clear h hl hlen hn hnn hZ hR hj;go_enter Tryz.func49,Tryz.ntmps49;go_upto_region 3 with fail
 go_loopw [5,6] (fun V i wr=>∃k:Nat,k≤n∧i=.int .i64 k∧Hid (∃N1 N2,DS w B g g1 g2 p b Z L1 L2 (F.feed p b f (ls.take k).flatten).1 V (F.feed p b f (ls.take k).flatten).2 N1 N2 wr)) (fun _ i _=>n-(intOf i).toNat)
 case atStart=>exact ⟨0,Nat.zero_le _,rfl,Lib.hid ⟨L1,L2,HS0.out⟩⟩
 case round=>
  obtain ⟨k,hk,rfl,hR⟩:=hrel;rcases Nat.lt_or_ge k n with hlt | hge
  ·obtain ⟨N1,N2,hA⟩:=hR.out
   have hPP:=Lib.hid (parts_step HL.out hA.keeps hA.of);have hkl:k<ls.length:=by rw [HN.out];exact hlt
   obtain ⟨bk,off,ea,hbk,hnb,hc⟩:=hPP.out.cells (by rw [HN.out];omega);obtain ⟨ak,ck,hcell,hB⟩:=hc k hkl;have htk:(ls.take (k+1)).flatten=(ls.take k).flatten++ls[k]:=by rw [List.take_succ_eq_append_getElem hkl,List.flatten_append];simp
   have hsum:(ls.take (k+1)).flatten.length≤ls.flatten.length:=by have:=congrArg List.length (congrArg List.flatten (List.take_append_drop (k+1) ls));rw [List.flatten_append,List.length_append] at this;omega
   rw [htk,List.length_append] at hsum;have t1:(k:Int)<(n:Int):=by omega
   have HTK:=Lib.hid htk;obtain ⟨pl,hpl⟩:∃pl,ls[k]=pl:=⟨_,rfl⟩;rw [hpl] at hcell hB hsum HTK;obtain ⟨m,hm⟩:∃m,pl.length=m:=⟨_,rfl⟩;rw [hm] at hcell hsum;have HM:=Lib.hid hm;obtain ⟨q,hq⟩:∃q,(ls.take k).flatten=q:=⟨_,rfl⟩;rw [hq] at hA hsum HTK;have hsum2:q.length+m≤400000000:=by have:=HOU.out;omega
   have HSUM:=Lib.hid hsum2;have hm9:m≤400000000:=by omega
   have HA:=Lib.hid hA;have HB:=Lib.hid hB
   have HC:Hid (∀(wq:World) (N1' N2':List (Option Nat)) (f':F) (V':Value) (o':List Rec.R),DS w B g g1 g2 p b Z L1 L2 f' V' o' N1' N2' wq→wq.cell? ⟨bk,off+k,none⟩=some (.slice ak m ck)∧Bts (blksD g N1' N2') wq ak pl):=Lib.hid (by
    intro wq N1' N2' f' V' o' hq';have h9:=parts_step HL.out hq'.keeps hq'.of
    obtain ⟨bk9,off9,ea9,hbk9,hnb9,hc9⟩:=h9.cells (by rw [HN.out];omega);rw [ea] at ea9;cases ea9;obtain ⟨ak9,ck9,hcell9,hB9⟩:=hc9 k hkl
    obtain ⟨bk0,off0,ea0,hbk0,hnb0,hc0⟩:=HL.out.cells (by rw [HN.out];omega);rw [ea] at ea0;cases ea0;obtain ⟨ak0,ck0,hcell0, -⟩:=hc0 k hkl;have e1:=(hA.keeps.cell (p:=⟨bk,off+k,none⟩) hbk0 hnb0).trans hcell0;have e2:=(hq'.keeps.cell (p:=⟨bk,off+k,none⟩) hbk0 hnb0).trans hcell0;rw [hcell] at e1;have e3:=hcell9.symm.trans e2;rw [hpl] at e1 e2 e3 hcell9 hB9;rw [hm] at e1 e2 e3 hcell9;simp only [Option.some.injEq,Value.slice.injEq,true_and] at e1 e3;obtain ⟨rfl,rfl⟩:=e1;obtain ⟨rfl,rfl⟩:=e3;exact ⟨e2,hB9⟩)
   subst ea;clear hA hB hq hsum hsum2 htk hpl hm hc hR hnb hbk hcell hPP;go_upto_region 6 with fail
   obtain ⟨wA,hwA⟩:∃x,x=wr:=⟨_,rfl⟩;subst hwA
   go_loopw [5,7] (fun V j wq=>∃i:Nat,i≤m∧j=.int .i64 i∧Hid (∃N1 N2,DS w B g g1 g2 p b Z L1 L2 (F.feed p b f (q++pl.take i)).1 V (F.feed p b f (q++pl.take i)).2 N1 N2 wq)) (fun _ j _=>m-(intOf j).toNat)
   case atStart=>exact ⟨0,Nat.zero_le _,rfl,Lib.hid ⟨N1,N2,by rw [List.take_zero,List.append_nil];exact HA.out⟩⟩
   case round=>
    obtain ⟨i,hi,rfl,hR2⟩:=hrel;obtain ⟨V,hV0⟩:∃x,x=u5:=⟨_,rfl⟩;subst hV0;rcases Nat.lt_or_ge i m with hilt | hige
    ·obtain ⟨P1,P2,hA2⟩:=hR2.out;have hil:i<pl.length:=by rw [HM.out];exact hilt
     have hti:pl.take (i+1)=pl.take i ++ [pl[i]]:=List.take_succ_eq_append_getElem hil;obtain ⟨f2,hf2⟩:∃f2,(F.feed p b f (q++pl.take i)).1=f2:=⟨_,rfl⟩;obtain ⟨o2,ho2⟩:∃o2,(F.feed p b f (q++pl.take i)).2=o2:=⟨_,rfl⟩;have hol:=(feed_len p b (q++pl.take i) f HXO.out).1;rw [ho2,List.length_append,List.length_take] at hol;have hol2:o2.length≤800000002:=by have:=HSUM.out;omega
     rw [hf2,ho2] at hA2;obtain ⟨hcell,hbq⟩:=HC.out _ _ _ _ _ _ hA2
     obtain ⟨zb,zo,rfl,hzb,hz⟩:=hbq.nums.2 (by omega);obtain ⟨c,hc⟩:∃c,pl[i]=c:=⟨_,rfl⟩;have hz1:=hz i hil;rw [List.getElem?_map,List.getElem?_eq_getElem hil,hc] at hz1;have hz2:wr.cell? ⟨zb,zo+i,none⟩=some (.int .u8 (c.toNat:Int)):=hz1;rw [hc] at hti
     have hj2:f2.code=0→f2.Just p b:=hf2 ▸ just_on HJU.out (q++pl.take i)
     have HLK:=Lib.hid (byte_any hp hA2.fat hj2 (V.ownBlock::Z) hA2.off c);have hfs:F.feed p b f (q++pl.take (i+1))=((f2.byte p b c).1,o2++(f2.byte p b c).2):=by rw [hti,←List.append_assoc,F.feed_snoc,hf2,ho2]
     have HFS:=Lib.hid hfs;have hl2:(f2.byte p b c).2.length≤2:=by
      unfold F.byte;split
      ·exact look_len hA2.fat.xo c
      ·exact Nat.zero_le _
     have HOL:=Lib.hid (show o2.length+(f2.byte p b c).2.length≤1000000000 by omega);have HA2:=Lib.hid hA2;have t2:(i:Int)<(m:Int):=by omega
     clear hA2 hzb hz hz1 hti hf2 ho2 hol hol2 hbq hfs hl2 hR2 hc hj2 hil
     go_wp2_with (first
      |(at_builtin;(refine App.wpList_append_run rfl _ _ 51 rfl V U rfl rfl V' w6 hrun ?_))
      |(go_at_call 66;with_reducible refine HLK.out.mono ?_;rintro r w5 ⟨U,M1,M2,rfl,hf5,ht5,hs5⟩
        obtain ⟨V',w6,hrun,hS6⟩:=HA2.out.next hf5 ht5 hs5 HOL.out;have HS6:=Lib.hid hS6;clear hf5 ht5 hs5 hS6))
     go_roundw
     case rel=>exact ⟨i+1,by omega,by go_num,Lib.hid ⟨M1,M2,by rw [HFS.out];exact HS6.out⟩⟩
     case measure=>simp [intOf];omega
    ·obtain rfl:i=m:=by omega
     have t2:¬(i:Int)<(i:Int):=by omega
     obtain ⟨P1,P2,hA2⟩:=hR2.out
     have e:pl.take i=pl:=List.take_of_length_le (by rw [HM.out];exact Nat.le_refl _);rw [e,←HTK.out] at hA2;obtain ⟨hcell, -⟩:=HC.out _ _ _ _ _ _ hA2;have HA2:=Lib.hid hA2;clear hA2 e hR2;go_wp2_with fail;go_roundw
     case rel=>exact ⟨k+1,by omega,by go_num,Lib.hid ⟨P1,P2,HA2.out⟩⟩
     case measure=>simp [intOf];omega
  ·obtain rfl:k=n:=by omega
   have t1:¬(k:Int)<(k:Int):=by omega
   obtain ⟨N1,N2,hA⟩:=hR.out
   have e:ls.take k=ls:=List.take_of_length_le (by rw [HN.out];exact Nat.le_refl _);rw [e,HR.out] at hA;have HA:=Lib.hid hA;clear hA hR e;go_wp2_with fail;go_ret;exact ⟨_,rfl,N1,N2,HA.out⟩
end code
end Go.Proofs.YtimoakmcelocfaaGreat.DF
namespace Go.Proofs.YtimoakmcelocfaaGreat.DF
open Go.RowKit Base Txt Mem Par Pg Each Flt
def parted (p:Nat) (b:Bd) (l:List UInt8):Bool:=(F.feed p b (F.new p b) l).1.parted
def lastB (p:Nat) (b:Bd) (l:List UInt8):Bool:=!l.isEmpty&&(parted p b l && !parted p b (l.take (l.length-1)))
section
variable {w w':World} {B g g1 g2 p:Nat} {b:Bd} {L1 L2:List (Option Nat)} {f:F}
theorem just_start (h:(F.new p b).code=0):(F.new p b).Just p b:=by
 have h1:(Q.new p b).err=0:=h;unfold Q.new at h1;split at h1
 ·rename_i h2;rw [Bool.and_eq_true,decide_eq_true_eq] at h2;exact just_new h2.2 h2.1
 ·cases h1
theorem DF.low (h:DF w B g g1 g2 p b L1 L2 f):∀k,some k∈blksD g L1 L2→B≤k:=by
 intro k hk;obtain ⟨_,hx⟩:=h.x;obtain ⟨_,hy⟩:=h.y;simp only [List.mem_cons,List.mem_append,Option.some.injEq] at hk;rcases hk with rfl | hk | hk
 ·exact h.ge
 ·exact hx.low k hk
 ·exact hy.low k hk
end
section code
set_option maxHeartbeats 8000000
set_option maxRecDepth 20000
attribute [local go_sem] Base.some_undef
variable {w:World} {p:Nat} {b:Bd}
theorem parts_any (hp:p<4294967296) (a:Option Addr) (c:Nat) (l:List UInt8) (hl:Bts [] w a l) (hn:l.length≤400000000) :
 Calls Tryz.prog 34 #[.slice a l.length c,.int .u32 (p:Int),.agg #[.int .i64 b.x0,.int .i64 b.x1,.int .i64 b.x2,.int .i64 b.x3,.int .i64 b.x4,.int .i64 b.x5,.int .i64 b.x6,.int .i64 b.x7,.bool b.ch,.bool b.od]] w fun r w'=>r=.returned (.bool (parted p b l))∧Below w.heap.size w w':=by
 have HN:=Lib.hid (fun w=>new_any (p:=p) (b:=b) hp w)
 have HB0:=Lib.hid (((Below.refl _ _).alloc (Nat.le_refl _) (.cells #[.int .i64 b.x0,.int .i64 b.x1,.int .i64 b.x2,.int .i64 b.x3,.int .i64 b.x4,.int .i64 b.x5,.int .i64 b.x6,.int .i64 b.x7,.bool b.ch,.bool b.od] 24)):Below w.heap.size w _)
 have HZ0:=Lib.hid (Rec.Bk.new w w.heap.size rfl 24 [.int .i64 b.x0,.int .i64 b.x1,.int .i64 b.x2,.int .i64 b.x3,.int .i64 b.x4,.int .i64 b.x5,.int .i64 b.x6,.int .i64 b.x7,.bool b.ch,.bool b.od]);have HL:=Lib.hid hl;have HNN:=Lib.hid hn;have HP:=Lib.hid hp;obtain ⟨R,hR⟩:∃R,parted p b l=R:=⟨_,rfl⟩;rw [hR];have HR:=Lib.hid hR;obtain ⟨n,hnn⟩:∃n,l.length=n:=⟨_,rfl⟩;rw [hnn];have HLN:=Lib.hid hnn;clear hl hR hnn hn;have y0:=HZ0.out.c 0 _ rfl;have y1:=HZ0.out.c 1 _ rfl;have y2:=HZ0.out.c 2 _ rfl;have y3:=HZ0.out.c 3 _ rfl;have y4:=HZ0.out.c 4 _ rfl;have y5:=HZ0.out.c 5 _ rfl;have y6:=HZ0.out.c 6 _ rfl;have y7:=HZ0.out.c 7 _ rfl;have y8:=HZ0.out.c 8 _ rfl;have y9:=HZ0.out.c 9 _ rfl;go_enter Tryz.func34,Tryz.ntmps34;go_upto_region 1 with fail
 generalize w.alloc (.cells #[.int .i64 b.x0,.int .i64 b.x1,.int .i64 b.x2,.int .i64 b.x3,.int .i64 b.x4,.int .i64 b.x5,.int .i64 b.x6,.int .i64 b.x7,.bool b.ch,.bool b.od] 24)=W0 at *;generalize hgB:w.heap.size=gB at *;have HGB:=Lib.hid hgB;clear hgB
 go_upto_region 2 with (go_at_call 48;with_reducible refine (HN.out _).mono ?_;rintro r w1 ⟨g,g1,g2,L1,L2,rfl,hd,hb⟩;have HD:=Lib.hid hd;have HB1:=Lib.hid hb;clear hd hb)
 have hsz:gB≤W0.heap.size:=by have:=HB0.out.size;have:=HGB.out;omega
 have hbl:Bts (blksD g L1 L2) w1 a l:=by
  have h1:=HL.out
  have h2:Bts [] w1 a l:=h1.step (Step.of_below (by rw [HGB.out];exact HB0.out.trans (HB1.out.mono hsz)))
  exact ⟨h2.nums,fun ad e=>⟨fun hm=>by
   have k1:=HD.out.low _ hm;have k2:=(h1.far ad e).2;have:=HGB.out
   omega,(h2.far ad e).2⟩⟩
 have hpo:Parts (blksD g L1 L2) (w1.alloc (.cells #[.slice a l.length c] 34)) (some ⟨w1.heap.size,0,none⟩) [l]:=Parts.one hbl HD.out.in _;have hab:Below w1.heap.size w1 (w1.alloc (.cells #[.slice a l.length c] 34)):=(Below.refl _ _).alloc (Nat.le_refl _) _
 have hd2:DF (w1.alloc (.cells #[.slice a l.length c] 34)) W0.heap.size g g1 g2 p b L1 L2 (F.new p b):=HD.out.keeps (Keeps.of_below hab:Keeps [] _ _) (fun _ _ hm=>by cases hm)
 have HFE:=Lib.hid (show Calls Tryz.prog 49 #[ptr g,.slice (some ⟨w1.heap.size,0,none⟩) 1 1] (w1.alloc (.cells #[.slice a l.length c] 34)) fun r w'=>∃V,r=.returned V∧∃M1 M2,DS (w1.alloc (.cells #[.slice a l.length c] 34)) W0.heap.size g g1 g2 p b [] L1 L2 (F.feed p b (F.new p b) [l].flatten).1 V (F.feed p b (F.new p b) [l].flatten).2 M1 M2 w' from feed_any HP.out hd2 just_start [] ⟨(by intro k hk;cases hk),fun k _ hk=>(by cases hk)⟩ (some ⟨w1.heap.size,0,none⟩) 1 [l] hpo (by simp) (by have:=HNN.out;simpa using this))
 have HBW:=Lib.hid (show Below gB w (w1.alloc (.cells #[.slice a l.length c] 34)) from HB0.out.trans ((HB1.out.trans (hab.mono HB1.out.size)).mono hsz));have HLOW:=Lib.hid hd2.low;rw [HLN.out] at HFE HBW;clear hbl hpo hab hd2 y0 y1 y2 y3 y4 y5 y6 y7 y8 y9
 go_wp2_with (go_at_call 49;with_reducible refine HFE.out.mono ?_;rintro r w3 ⟨V,rfl,M1,M2,hs⟩;have HS:=Lib.hid hs;have c4:=hs.fat.c.2.2.2.2;clear hs);go_ret;rw [HGB.out];refine ⟨by rw [←HR.out];rfl,HBW.out.trans ?_⟩
 exact HS.out.keeps.below (Nat.le_trans hsz (by have:=HB1.out.size;have:=((Below.refl w1.heap.size w1).alloc (Nat.le_refl _) (.cells #[.slice a n c] 34)).size;omega)) (fun k hk=>Nat.le_trans hsz (HLOW.out k hk))
theorem last_any (hp:p<4294967296) (a:Option Addr) (c:Nat) (l:List UInt8) (hl:Bts [] w a l) (hn:l.length≤400000000) (hc:l.length≤c) :
 Calls Tryz.prog 18 #[.slice a l.length c,.int .u32 (p:Int),.agg #[.int .i64 b.x0,.int .i64 b.x1,.int .i64 b.x2,.int .i64 b.x3,.int .i64 b.x4,.int .i64 b.x5,.int .i64 b.x6,.int .i64 b.x7,.bool b.ch,.bool b.od]] w fun r w'=>r=.returned (.bool (lastB p b l))∧Below w.heap.size w w':=by
 have HB0:=Lib.hid (((Below.refl _ _).alloc (Nat.le_refl _) (.cells #[.int .i64 b.x0,.int .i64 b.x1,.int .i64 b.x2,.int .i64 b.x3,.int .i64 b.x4,.int .i64 b.x5,.int .i64 b.x6,.int .i64 b.x7,.bool b.ch,.bool b.od] 24)):Below w.heap.size w _)
 have HZ0:=Lib.hid (Rec.Bk.new w w.heap.size rfl 24 [.int .i64 b.x0,.int .i64 b.x1,.int .i64 b.x2,.int .i64 b.x3,.int .i64 b.x4,.int .i64 b.x5,.int .i64 b.x6,.int .i64 b.x7,.bool b.ch,.bool b.od]);rcases Nat.eq_zero_or_pos l.length with h0 | h0
 ·obtain rfl:=List.length_eq_zero_iff.1 h0;show Calls Tryz.prog 18 #[.slice a 0 c,.int .u32 (p:Int),.agg #[.int .i64 b.x0,.int .i64 b.x1,.int .i64 b.x2,.int .i64 b.x3,.int .i64 b.x4,.int .i64 b.x5,.int .i64 b.x6,.int .i64 b.x7,.bool b.ch,.bool b.od]] w fun r w'=>r=.returned (.bool false)∧Below w.heap.size w w';clear hl hn hc h0;go_enter Tryz.func18,Tryz.ntmps18;go_upto_region 1 with fail
  go_region;all_goals
   go_wp2;go_ret;exact ⟨rfl,by first | exact HB0.out | exact Base.below_drewN HB0.out _ | exact HB0.out.drew⟩
 ·obtain ⟨zb,zo,rfl,hzb,hz⟩:=hl.nums.2 h0;obtain ⟨m,hm⟩:∃m,l.length=m+1:=⟨l.length-1,by omega⟩;obtain ⟨n,hnn⟩:∃n,l.length=n:=⟨_,rfl⟩
  have hl2:Bts [] w (some ⟨zb,zo,none⟩) (l.take m):=⟨⟨by simp,fun hx=>⟨zb,zo,rfl,hzb,fun k hk=>by
   rw [List.length_take] at hk
   rw [hz k (by omega),List.getElem?_map,List.getElem?_map,List.getElem?_take_of_lt (by omega)]⟩⟩,hl.far⟩
  have hlm:(l.take m).length=m:=by rw [List.length_take];omega
  obtain ⟨P1,hP1⟩:∃P1,parted p b l=P1:=⟨_,rfl⟩;obtain ⟨P2,hP2⟩:∃P2,parted p b (l.take m)=P2:=⟨_,rfl⟩;have hlb:lastB p b l=(P1 && !P2):=by
   unfold lastB;rw [show l.length-1=m by omega,hP1,hP2];have:l.isEmpty=false:=by
    rw [List.isEmpty_eq_false_iff]
    intro e;rw [e] at h0;exact absurd h0 (Nat.lt_irrefl _)
   rw [this];rfl
  have hb0:=HB0.out
  have HP1:=Lib.hid (fun (w1:World) (hb:Below ((w.alloc (.cells #[.int .i64 b.x0,.int .i64 b.x1,.int .i64 b.x2,.int .i64 b.x3,.int .i64 b.x4,.int .i64 b.x5,.int .i64 b.x6,.int .i64 b.x7,.bool b.ch,.bool b.od] 24)).drewN 1).heap.size ((w.alloc (.cells #[.int .i64 b.x0,.int .i64 b.x1,.int .i64 b.x2,.int .i64 b.x3,.int .i64 b.x4,.int .i64 b.x5,.int .i64 b.x6,.int .i64 b.x7,.bool b.ch,.bool b.od] 24)).drewN 1) w1)=>show Calls Tryz.prog 34 #[.slice (some ⟨zb,zo,none⟩) n c,.int .u32 (p:Int),.agg #[.int .i64 b.x0,.int .i64 b.x1,.int .i64 b.x2,.int .i64 b.x3,.int .i64 b.x4,.int .i64 b.x5,.int .i64 b.x6,.int .i64 b.x7,.bool b.ch,.bool b.od]] w1 fun r w'=>r=.returned (.bool P1)∧Below w1.heap.size w1 w' from by rw [←hP1,←hnn];exact parts_any hp _ c l (hl.step (Step.of_below (Base.below_step (Base.below_drewN hb0 1) hb))) hn)
  have HP2:=Lib.hid (fun (w1:World) (hb:Below ((w.alloc (.cells #[.int .i64 b.x0,.int .i64 b.x1,.int .i64 b.x2,.int .i64 b.x3,.int .i64 b.x4,.int .i64 b.x5,.int .i64 b.x6,.int .i64 b.x7,.bool b.ch,.bool b.od] 24)).drewN 1).heap.size ((w.alloc (.cells #[.int .i64 b.x0,.int .i64 b.x1,.int .i64 b.x2,.int .i64 b.x3,.int .i64 b.x4,.int .i64 b.x5,.int .i64 b.x6,.int .i64 b.x7,.bool b.ch,.bool b.od] 24)).drewN 1) w1)=>show Calls Tryz.prog 34 #[.slice (some ⟨zb,zo,none⟩) m c,.int .u32 (p:Int),.agg #[.int .i64 b.x0,.int .i64 b.x1,.int .i64 b.x2,.int .i64 b.x3,.int .i64 b.x4,.int .i64 b.x5,.int .i64 b.x6,.int .i64 b.x7,.bool b.ch,.bool b.od]] w1 fun r w'=>r=.returned (.bool P2)∧Below w1.heap.size w1 w' from by
   rw [←hP2]
   have:=parts_any (w:=w1) (b:=b) hp (some ⟨zb,zo,none⟩) c (l.take m) (hl2.step (Step.of_below (Base.below_step (Base.below_drewN hb0 1) hb))) (by rw [hlm];omega);rw [hlm] at this;exact this)
  rw [hlb,hnn]
  have HZ:=Lib.hid (HZ0.out.below (Base.below_drewN (Below.refl (w.alloc (.cells #[.int .i64 b.x0,.int .i64 b.x1,.int .i64 b.x2,.int .i64 b.x3,.int .i64 b.x4,.int .i64 b.x5,.int .i64 b.x6,.int .i64 b.x7,.bool b.ch,.bool b.od] 24)).heap.size (w.alloc (.cells #[.int .i64 b.x0,.int .i64 b.x1,.int .i64 b.x2,.int .i64 b.x3,.int .i64 b.x4,.int .i64 b.x5,.int .i64 b.x6,.int .i64 b.x7,.bool b.ch,.bool b.od] 24))) 1));have t0:(0:Int)<(n:Int):=by omega
  have HM1:=Lib.hid (show wrap64 ((n:Int)-1)=(m:Int) by have:(n:Int)-1=(m:Int):=by omega
                                                        rw [this];unfold wrap64;omega)
  have tm:wrap64 ((n:Int)-1)=(m:Int):=HM1.out
  have HMW:=Lib.hid (show IntKind.i64.wrap ((n:Int)-1)=(m:Int) by have h9:=HM1.out;unfold wrap64 at h9;rw [IntKind.wrap_i64];exact h9);have tc:m≤c:=by omega
  have tn:(m:Int)≤(c:Int):=by omega
  clear hl hl2 hlm hP1 hP2 hlb hz hzb hb0 hn hc h0 hm hnn;go_enter Tryz.func18,Tryz.ntmps18;go_upto_region 1 with fail
  generalize w.alloc (.cells #[.int .i64 b.x0,.int .i64 b.x1,.int .i64 b.x2,.int .i64 b.x3,.int .i64 b.x4,.int .i64 b.x5,.int .i64 b.x6,.int .i64 b.x7,.bool b.ch,.bool b.od] 24)=W0 at *;generalize hgB:w.heap.size=g at *;have HGB:=Lib.hid hgB;clear hgB;refine Each.region_all 21 [7,8,9,10,11,12,13,14,15,16,17,18,19,20,21,22,23,24,25,26,6]
   [fun v _=>v=.slice (some ⟨zb,zo,none⟩) n c,
     fun v _=>v=.int .i64 ((n:Nat):Int),
     fun v _=>v=.bool true,
     fun v _=>v=.bool true,
     Each.When (true) true (fun v _=>v=.slice (some ⟨zb,zo,none⟩) n c),
     Each.When (true) true (fun v _=>v=.int .u32 (p:Int)),
     Each.When (true) true (fun v _=>v=.agg #[.int .i64 b.x0,.int .i64 b.x1,.int .i64 b.x2,.int .i64 b.x3,.int .i64 b.x4,.int .i64 b.x5,.int .i64 b.x6,.int .i64 b.x7,.bool b.ch,.bool b.od]),
     Each.When (true) true (fun v _=>v=.bool P1),
     fun v _=>v=.bool P1,
     fun v _=>v=.bool P1,
     Each.When (P1) true (fun v _=>v=.slice (some ⟨zb,zo,none⟩) n c),
     Each.When (P1) true (fun v _=>v=.slice (some ⟨zb,zo,none⟩) n c),
     Each.When (P1) true (fun v _=>v=.int .i64 ((n:Nat):Int)),
     Each.When (P1) true (fun v _=>v=.int .i64 (m:Int)),
     Each.When (P1) true (fun v _=>v=.slice (some ⟨zb,zo,none⟩) m c),
     Each.When (P1) true (fun v _=>v=.int .u32 (p:Int)),
     Each.When (P1) true (fun v _=>v=.agg #[.int .i64 b.x0,.int .i64 b.x1,.int .i64 b.x2,.int .i64 b.x3,.int .i64 b.x4,.int .i64 b.x5,.int .i64 b.x6,.int .i64 b.x7,.bool b.ch,.bool b.od]),
     Each.When (P1) true (fun v _=>v=.bool P2),
     Each.When (P1) true (fun v _=>v=.bool (!P2)),
     fun v _=>v=.bool ((P1&&(!P2))),
     fun v _=>v=.bool ((P1&&(!P2)))]
    (by kernel_rfl) (by kernel_rfl) (by kernel_rfl) (by kernel_rfl) (fun _ _ d _ _ h=>by cases d<;>exact h) (by rfl) (by rfl)
   ⟨Each.Lasts.eq _,Each.Lasts.eq _,Each.Lasts.eq _,Each.Lasts.eq _,Each.Lasts.when (Each.Lasts.eq _),Each.Lasts.when (Each.Lasts.eq _),Each.Lasts.when (Each.Lasts.eq _),Each.Lasts.when (Each.Lasts.eq _),Each.Lasts.eq _,Each.Lasts.eq _,Each.Lasts.when (Each.Lasts.eq _),Each.Lasts.when (Each.Lasts.eq _),Each.Lasts.when (Each.Lasts.eq _),Each.Lasts.when (Each.Lasts.eq _),Each.Lasts.when (Each.Lasts.eq _),Each.Lasts.when (Each.Lasts.eq _),Each.Lasts.when (Each.Lasts.eq _),Each.Lasts.when (Each.Lasts.eq _),Each.Lasts.when (Each.Lasts.eq _),Each.Lasts.eq _,Each.Lasts.eq _,trivial⟩ ?_ ?_
  ·refine ⟨?_,?_,?_,?_,?_,?_,?_,?_,?_,?_,?_,?_,?_,?_,?_,?_,?_,?_,?_,?_,?_,trivial⟩
   ·refine Each.fine rfl (fun ev w1 hR hb hh=>?_);clear hh;have e0:=hR.old 0 rfl;simp only [Array.getD_eq_getD_getElem?,List.getElem?_toArray,List.getElem?_cons_zero,Option.getD_some] at e0;refine Each.Goes.same ?_;go_simp;try with_reducible rfl
   ·refine Each.fine rfl (fun ev w1 hR hb hh=>?_);have e7:(ev (.tmp 7)=.slice (some ⟨zb,zo,none⟩) n c):=hh.at 0;clear hh;refine Each.Goes.same ?_;go_simp;try with_reducible rfl
   ·refine Each.fine rfl (fun ev w1 hR hb hh=>?_);have e8:(ev (.tmp 8)=.int .i64 ((n:Nat):Int)):=hh.at 0;clear hh;have ec:=hR.const;refine Each.Goes.same ?_;go_simp;omega
   ·refine Each.fine rfl (fun ev w1 hR hb hh=>?_);have e9:(ev (.tmp 9)=.bool true):=hh.at 0;clear hh;refine Each.Goes.same ?_;go_simp;try with_reducible rfl
   ·refine Each.fine_when 3 10 rfl rfl (fun ev w1 hh=>?_) (fun hg ev w1 hR hb hh=>?_)
    ·exact hh.at 0
    ·clear hh;have e0:=hR.old 0 rfl;simp only [Array.getD_eq_getD_getElem?,List.getElem?_toArray,List.getElem?_cons_zero,Option.getD_some] at e0;refine Each.Goes.same ?_;go_simp;try with_reducible rfl
   ·refine Each.fine_when 3 10 rfl rfl (fun ev w1 hh=>?_) (fun hg ev w1 hR hb hh=>?_)
    ·exact hh.at 0
    ·clear hh;have e1:=hR.old 1 rfl;simp only [Array.getD_eq_getD_getElem?,List.getElem?_toArray,List.getElem?_cons_succ,List.getElem?_cons_zero,Option.getD_some] at e1;refine Each.Goes.same ?_;go_simp;try with_reducible rfl
   ·refine Each.fine_when 3 10 rfl rfl (fun ev w1 hh=>?_) (fun hg ev w1 hR hb hh=>?_)
    ·exact hh.at 0
    ·clear hh;have e5:=hR.old 5 rfl;simp only [Array.getD_eq_getD_getElem?,List.getElem?_toArray,List.getElem?_cons_succ,List.getElem?_cons_zero,Option.getD_some] at e5;have q0:=(HZ.out.below hb).c 0 _ rfl;have q1:=(HZ.out.below hb).c 1 _ rfl;have q2:=(HZ.out.below hb).c 2 _ rfl;have q3:=(HZ.out.below hb).c 3 _ rfl;have q4:=(HZ.out.below hb).c 4 _ rfl;have q5:=(HZ.out.below hb).c 5 _ rfl;have q6:=(HZ.out.below hb).c 6 _ rfl;have q7:=(HZ.out.below hb).c 7 _ rfl;have q8:=(HZ.out.below hb).c 8 _ rfl;have q9:=(HZ.out.below hb).c 9 _ rfl;refine Each.Goes.same ?_;go_simp;try with_reducible rfl
   ·refine Each.fine_when 3 10 rfl rfl (fun ev w1 hh=>?_) (fun hg ev w1 hR hb hh=>?_)
    ·exact hh.at 3
    ·have e11:=(show ((true)=true→ev (.tmp 11)=.slice (some ⟨zb,zo,none⟩) n c) from hh.at 0) hg;have e12:=(show ((true)=true→ev (.tmp 12)=.int .u32 (p:Int)) from hh.at 1) hg;have e13:=(show ((true)=true→ev (.tmp 13)=.agg #[.int .i64 b.x0,.int .i64 b.x1,.int .i64 b.x2,.int .i64 b.x3,.int .i64 b.x4,.int .i64 b.x5,.int .i64 b.x6,.int .i64 b.x7,.bool b.ch,.bool b.od]) from hh.at 2) hg;clear hh;have ef:=hR.func
     refine Each.Goes.enter 34 #[.slice (some ⟨zb,zo,none⟩) n c,.int .u32 (p:Int),.agg #[.int .i64 b.x0,.int .i64 b.x1,.int .i64 b.x2,.int .i64 b.x3,.int .i64 b.x4,.int .i64 b.x5,.int .i64 b.x6,.int .i64 b.x7,.bool b.ch,.bool b.od]] (by go_simp) ((HP1.out w1 hb).mono ?_);rintro r w2 ⟨rfl,hb2⟩;exact ⟨_,rfl,hb2,rfl⟩
   ·refine Each.fine rfl (fun ev w1 hR hb hh=>?_);have e10:(ev (.tmp 10)=.bool true):=hh.at 0;have h14:((true)=true→ev (.tmp 14)=.bool P1):=hh.at 1;clear hh;have ec:=hR.const;refine Each.Goes.same ?_;have e14:=h14 rfl;go_simp;try with_reducible rfl
   ·refine Each.fine rfl (fun ev w1 hR hb hh=>?_);have e15:(ev (.tmp 15)=.bool P1):=hh.at 0;clear hh;refine Each.Goes.same ?_;go_simp;try with_reducible rfl
   ·refine Each.fine_when 9 16 rfl rfl (fun ev w1 hh=>?_) (fun hg ev w1 hR hb hh=>?_)
    ·exact hh.at 0
    ·clear hh;have e0:=hR.old 0 rfl;simp only [Array.getD_eq_getD_getElem?,List.getElem?_toArray,List.getElem?_cons_zero,Option.getD_some] at e0;refine Each.Goes.same ?_;go_simp;try with_reducible rfl
   ·refine Each.fine_when 9 16 rfl rfl (fun ev w1 hh=>?_) (fun hg ev w1 hR hb hh=>?_)
    ·exact hh.at 0
    ·clear hh;have e0:=hR.old 0 rfl;simp only [Array.getD_eq_getD_getElem?,List.getElem?_toArray,List.getElem?_cons_zero,Option.getD_some] at e0;refine Each.Goes.same ?_;go_simp;try with_reducible rfl
   ·refine Each.fine_when 9 16 rfl rfl (fun ev w1 hh=>?_) (fun hg ev w1 hR hb hh=>?_)
    ·exact hh.at 1
    ·have e18:=(show ((P1)=true→ev (.tmp 18)=.slice (some ⟨zb,zo,none⟩) n c) from hh.at 0) hg;clear hh;refine Each.Goes.same ?_;go_simp;try with_reducible rfl
   ·refine Each.fine_when 9 16 rfl rfl (fun ev w1 hh=>?_) (fun hg ev w1 hR hb hh=>?_)
    ·exact hh.at 1
    ·have e19:=(show ((P1)=true→ev (.tmp 19)=.int .i64 ((n:Nat):Int)) from hh.at 0) hg;clear hh;have ec:=hR.const;refine Each.Goes.same ?_;go_simp;first | done | rfl |(with_reducible rfl) | exact HMW.out
   ·refine Each.fine_when 9 16 rfl rfl (fun ev w1 hh=>?_) (fun hg ev w1 hR hb hh=>?_)
    ·exact hh.at 2
    ·have e17:=(show ((P1)=true→ev (.tmp 17)=.slice (some ⟨zb,zo,none⟩) n c) from hh.at 0) hg;have e20:=(show ((P1)=true→ev (.tmp 20)=.int .i64 (m:Int)) from hh.at 1) hg;clear hh;refine Each.Goes.same ?_;go_simp;try with_reducible rfl
   ·refine Each.fine_when 9 16 rfl rfl (fun ev w1 hh=>?_) (fun hg ev w1 hR hb hh=>?_)
    ·exact hh.at 0
    ·clear hh;have e1:=hR.old 1 rfl;simp only [Array.getD_eq_getD_getElem?,List.getElem?_toArray,List.getElem?_cons_succ,List.getElem?_cons_zero,Option.getD_some] at e1;refine Each.Goes.same ?_;go_simp;try with_reducible rfl
   ·refine Each.fine_when 9 16 rfl rfl (fun ev w1 hh=>?_) (fun hg ev w1 hR hb hh=>?_)
    ·exact hh.at 0
    ·clear hh;have e5:=hR.old 5 rfl;simp only [Array.getD_eq_getD_getElem?,List.getElem?_toArray,List.getElem?_cons_succ,List.getElem?_cons_zero,Option.getD_some] at e5;have q0:=(HZ.out.below hb).c 0 _ rfl;have q1:=(HZ.out.below hb).c 1 _ rfl;have q2:=(HZ.out.below hb).c 2 _ rfl;have q3:=(HZ.out.below hb).c 3 _ rfl;have q4:=(HZ.out.below hb).c 4 _ rfl;have q5:=(HZ.out.below hb).c 5 _ rfl;have q6:=(HZ.out.below hb).c 6 _ rfl;have q7:=(HZ.out.below hb).c 7 _ rfl;have q8:=(HZ.out.below hb).c 8 _ rfl;have q9:=(HZ.out.below hb).c 9 _ rfl;refine Each.Goes.same ?_;go_simp;try with_reducible rfl
   ·refine Each.fine_when 9 16 rfl rfl (fun ev w1 hh=>?_) (fun hg ev w1 hR hb hh=>?_)
    ·exact hh.at 3
    ·have e21:=(show ((P1)=true→ev (.tmp 21)=.slice (some ⟨zb,zo,none⟩) m c) from hh.at 0) hg;have e22:=(show ((P1)=true→ev (.tmp 22)=.int .u32 (p:Int)) from hh.at 1) hg;have e23:=(show ((P1)=true→ev (.tmp 23)=.agg #[.int .i64 b.x0,.int .i64 b.x1,.int .i64 b.x2,.int .i64 b.x3,.int .i64 b.x4,.int .i64 b.x5,.int .i64 b.x6,.int .i64 b.x7,.bool b.ch,.bool b.od]) from hh.at 2) hg;clear hh;have ef:=hR.func
     refine Each.Goes.enter 34 #[.slice (some ⟨zb,zo,none⟩) m c,.int .u32 (p:Int),.agg #[.int .i64 b.x0,.int .i64 b.x1,.int .i64 b.x2,.int .i64 b.x3,.int .i64 b.x4,.int .i64 b.x5,.int .i64 b.x6,.int .i64 b.x7,.bool b.ch,.bool b.od]] (by go_simp) ((HP2.out w1 hb).mono ?_);rintro r w2 ⟨rfl,hb2⟩;exact ⟨_,rfl,hb2,rfl⟩
   ·refine Each.fine_when 9 16 rfl rfl (fun ev w1 hh=>?_) (fun hg ev w1 hR hb hh=>?_)
    ·exact hh.at 1
    ·have e24:=(show ((P1)=true→ev (.tmp 24)=.bool P2) from hh.at 0) hg;clear hh;refine Each.Goes.same ?_;go_simp;try with_reducible rfl
   ·refine Each.fine rfl (fun ev w1 hR hb hh=>?_);have e16:(ev (.tmp 16)=.bool P1):=hh.at 0;have h25:((P1)=true→ev (.tmp 25)=.bool (!P2)):=hh.at 1;clear hh;have ec:=hR.const;refine Each.Goes.same ?_;rcases Bool.eq_false_or_eq_true (P1) with hx | hx
    ·rw [hx] at e16 ⊢;have e25:=h25 hx;go_simp;try with_reducible rfl
    ·rw [hx] at e16 ⊢;go_simp;try with_reducible rfl
   ·refine Each.fine rfl (fun ev w1 hR hb hh=>?_);have e26:(ev (.tmp 26)=.bool ((P1&&(!P2)))):=hh.at 0;clear hh;refine Each.Goes.same ?_;go_simp;try with_reducible rfl
  intro ga w4 hb4 hf;have z6:(ga 6=.bool ((P1&&(!P2)))):=hf.at 20;clear hf;simp only [Each.putg,Act.put,List.setIfInBounds_toArray,List.set_cons_zero,List.set_cons_succ];rw [z6];have HB4:=Lib.hid hb4;clear hb4;go_wp2;go_ret;rw [HGB.out];refine ⟨rfl,HB0.out.trans (HB4.out.mono ?_)⟩;have:=HB0.out.size;have:=HGB.out;omega
end code
end Go.Proofs.YtimoakmcelocfaaGreat.DF
namespace Go.Proofs.YtimoakmcelocfaaGreat.An
open Go.RowKit Base Txt Mem Par Pg
theorem a0:kindA 0 usual=1∧clA 0 usual=0∧errA 0 usual=0∧effL 0 usual= []:=by decide +kernel
theorem a1:kindA 1 usual=2∧clA 1 usual=0∧errA 1 usual=0∧effL 1 usual≠ []:=by decide +kernel
theorem a2:kindA 2147483648 usual=0∧clA 2147483648 usual=0∧errA 2147483648 usual=20∧effL 2147483648 usual= []:=by decide +kernel
theorem w0:(Wit.W (clA 1 usual).toNat usual.ch (Qk.has 1 19)).data.toList= [13,10]∧(Wit.W (clA 1 usual).toNat usual.ch (Qk.has 1 19)).size=2:=by decide +kernel
theorem l0:DF.lastB 1 usual [13,10]=true:=by decide +kernel
section code
set_option maxHeartbeats 8000000
set_option maxRecDepth 20000
attribute [local go_sem] Base.some_undef
theorem known_any (w:World):Calls Tryz.prog 6 #[] w fun e w'=>e=.returned (.bool true)∧Below w.heap.size w w':=by
 have HD0:=Lib.hid (fun w=>show Calls Tryz.prog 11 #[.int .u32 0,.agg #[.int .i64 1024,.int .i64 32,.int .i64 8192,.int .i64 65536,.int .i64 32,.int .i64 8,.int .i64 4,.int .i64 20,.bool true,.bool true]] w fun e w'=>e=.returned (.tuple #[.agg #[.int .i64 1,.int .i64 0,.slice none 0 0],.int .i64 0])∧Below w.heap.size w w' from (decide_any 0 (by decide) usual w).mono (by rintro e w' ⟨v,rfl,h1,h2⟩;obtain ⟨k1,k2,k3,k4⟩:=a0;unfold Shown at h1;rw [if_pos k4] at h1;rw [k1,k2,k3,h1];exact ⟨rfl,h2⟩))
 have HD1:=Lib.hid (fun w=>show Calls Tryz.prog 11 #[.int .u32 1,.agg #[.int .i64 1024,.int .i64 32,.int .i64 8192,.int .i64 65536,.int .i64 32,.int .i64 8,.int .i64 4,.int .i64 20,.bool true,.bool true]] w fun e w'=>∃gs cc,e=.returned (.tuple #[.agg #[.int .i64 2,.int .i64 0,.slice (some ⟨gs,0,none⟩) 2 cc],.int .i64 0])∧2≤cc∧Pg.Bts [] w' (some ⟨gs,0,none⟩) [13,10]∧Below w.heap.size w w' from (decide_any 1 (by decide) usual w).mono (by rintro e w' ⟨v,rfl,h1,h2⟩;obtain ⟨k1,k2,k3,k4⟩:=a1;unfold Shown at h1;rw [if_neg k4] at h1;obtain ⟨gs,cc,e1,h3,h4, -⟩:=h1.v;rw [w0.2] at e1 h3;rw [w0.1] at h4;rw [k1,k2,k3,e1];exact ⟨gs,cc,rfl,h3,h4,h2⟩))
 have HD2:=Lib.hid (fun w=>show Calls Tryz.prog 11 #[.int .u32 2147483648,.agg #[.int .i64 1024,.int .i64 32,.int .i64 8192,.int .i64 65536,.int .i64 32,.int .i64 8,.int .i64 4,.int .i64 20,.bool true,.bool true]] w fun e w'=>e=.returned (.tuple #[.agg #[.int .i64 0,.int .i64 0,.slice none 0 0],.int .i64 20])∧Below w.heap.size w w' from (decide_any 2147483648 (by decide) usual w).mono (by rintro e w' ⟨v,rfl,h1,h2⟩;obtain ⟨k1,k2,k3,k4⟩:=a2;unfold Shown at h1;rw [if_pos k4] at h1;rw [k1,k2,k3,h1];exact ⟨rfl,h2⟩))
 have HLA:Hid (∀(w:World) (gs cc:Nat),2≤cc→Pg.Bts [] w (some ⟨gs,0,none⟩) [13,10]→Calls Tryz.prog 18 #[.slice (some ⟨gs,0,none⟩) 2 cc,.int .u32 1,.agg #[.int .i64 1024,.int .i64 32,.int .i64 8192,.int .i64 65536,.int .i64 32,.int .i64 8,.int .i64 4,.int .i64 20,.bool true,.bool true]] w fun r w'=>r=.returned (.bool true)∧Below w.heap.size w w'):=Lib.hid (fun w gs cc h1 h2=>by have:=DF.last_any (p:=1) (b:=usual) (by decide) (some ⟨gs,0,none⟩) cc [13,10] h2 (by decide) h1;rw [l0] at this;exact this)
 go_enter Tryz.func6,Tryz.ntmps6
 go_upto_region 2 with (go_at_call 24;with_reducible refine (Bnd.rusual_any _).mono ?_;rintro r w1 ⟨rfl,hb⟩;have HB1:=Lib.hid hb;clear hb)
 have HZ1:=Lib.hid (Rec.Bk.new w1 w1.heap.size rfl 24 [.int .i64 1024,.int .i64 32,.int .i64 8192,.int .i64 65536,.int .i64 32,.int .i64 8,.int .i64 4,.int .i64 20,.bool true,.bool true])
 have HBW1:=Lib.hid (HB1.out.alloc HB1.out.size (.cells #[.int .i64 1024,.int .i64 32,.int .i64 8192,.int .i64 65536,.int .i64 32,.int .i64 8,.int .i64 4,.int .i64 20,.bool true,.bool true] 24));generalize w1.alloc (.cells #[.int .i64 1024,.int .i64 32,.int .i64 8192,.int .i64 65536,.int .i64 32,.int .i64 8,.int .i64 4,.int .i64 20,.bool true,.bool true] 24)=W1 at *;generalize w1.heap.size=gB at *;have y0:=HZ1.out.c 0 _ rfl;have y1:=HZ1.out.c 1 _ rfl;have y2:=HZ1.out.c 2 _ rfl;have y3:=HZ1.out.c 3 _ rfl;have y4:=HZ1.out.c 4 _ rfl;have y5:=HZ1.out.c 5 _ rfl;have y6:=HZ1.out.c 6 _ rfl;have y7:=HZ1.out.c 7 _ rfl;have y8:=HZ1.out.c 8 _ rfl;have y9:=HZ1.out.c 9 _ rfl
 go_upto_region 3 with (go_at_call 11;with_reducible refine (HD0.out _).mono ?_;rintro r w2 ⟨rfl,hb⟩;have HB2:=Lib.hid (Base.below_step HBW1.out hb);have HZ2:=Lib.hid (HZ1.out.below hb);clear hb)
 have HA2:=Lib.hid (Rec.Bk.new w2 w2.heap.size rfl 36 [.int .i64 1,.int .i64 0,.slice none 0 0])
 have HAL2:Hid (Below w2.heap.size w2 (w2.alloc (.cells #[.int .i64 1,.int .i64 0,.slice none 0 0] 36))):=Lib.hid ((Below.refl _ _).alloc (Nat.le_refl _) _)
 have HZ2a:=Lib.hid (HZ2.out.below HAL2.out)
 have HBW2:=Lib.hid (Base.below_step HB2.out HAL2.out);clear HD0;clear y0 y1 y2 y3 y4 y5 y6 y7 y8 y9;generalize w2.alloc (.cells #[.int .i64 1,.int .i64 0,.slice none 0 0] 36)=W2 at *;generalize w2.heap.size=g2 at *;have y0:=HZ2a.out.c 0 _ rfl;have y1:=HZ2a.out.c 1 _ rfl;have y2:=HZ2a.out.c 2 _ rfl;have y3:=HZ2a.out.c 3 _ rfl;have y4:=HZ2a.out.c 4 _ rfl;have y5:=HZ2a.out.c 5 _ rfl;have y6:=HZ2a.out.c 6 _ rfl;have y7:=HZ2a.out.c 7 _ rfl;have y8:=HZ2a.out.c 8 _ rfl;have y9:=HZ2a.out.c 9 _ rfl
 go_upto_region 4 with (go_at_call 11;with_reducible refine (HD1.out _).mono ?_;rintro r w3 ⟨gs,cc,rfl,hcc,hbt,hb⟩;have HB3:=Lib.hid (Base.below_step HBW2.out hb);have HZ3:=Lib.hid (HZ2a.out.below hb);have HA2b:=Lib.hid (HA2.out.below hb);have HCC:=Lib.hid hcc;have HBT:=Lib.hid hbt;clear hb hcc hbt)
 have HA3:=Lib.hid (Rec.Bk.new w3 w3.heap.size rfl 36 [.int .i64 2,.int .i64 0,.slice (some ⟨gs,0,none⟩) 2 cc])
 have HAL3:Hid (Below w3.heap.size w3 (w3.alloc (.cells #[.int .i64 2,.int .i64 0,.slice (some ⟨gs,0,none⟩) 2 cc] 36))):=Lib.hid ((Below.refl _ _).alloc (Nat.le_refl _) _)
 have HZ3a:=Lib.hid (HZ3.out.below HAL3.out)
 have HA2c:=Lib.hid (HA2b.out.below HAL3.out)
 have HBT2:=Lib.hid (HBT.out.step (Step.of_below HAL3.out))
 have HBW3:=Lib.hid (Base.below_step HB3.out HAL3.out);clear HD1;clear y0 y1 y2 y3 y4 y5 y6 y7 y8 y9;generalize w3.alloc (.cells #[.int .i64 2,.int .i64 0,.slice (some ⟨gs,0,none⟩) 2 cc] 36)=W3 at *;generalize w3.heap.size=g3 at *;have y0:=HZ3a.out.c 0 _ rfl;have y1:=HZ3a.out.c 1 _ rfl;have y2:=HZ3a.out.c 2 _ rfl;have y3:=HZ3a.out.c 3 _ rfl;have y4:=HZ3a.out.c 4 _ rfl;have y5:=HZ3a.out.c 5 _ rfl;have y6:=HZ3a.out.c 6 _ rfl;have y7:=HZ3a.out.c 7 _ rfl;have y8:=HZ3a.out.c 8 _ rfl;have y9:=HZ3a.out.c 9 _ rfl
 go_upto_region 5 with (go_at_call 11;with_reducible refine (HD2.out _).mono ?_;rintro r w4 ⟨rfl,hb⟩;have HB4:=Lib.hid (Base.below_step HBW3.out hb);have HZ4:=Lib.hid (HZ3a.out.below hb);have HA2d:=Lib.hid (HA2c.out.below hb);have HA3d:=Lib.hid (HA3.out.below hb);have HBT3:=Lib.hid (HBT2.out.step (Step.of_below hb));clear hb)
 have HA4:=Lib.hid (Rec.Bk.new w4 w4.heap.size rfl 36 [.int .i64 0,.int .i64 0,.slice none 0 0])
 have HAL4:Hid (Below w4.heap.size w4 (w4.alloc (.cells #[.int .i64 0,.int .i64 0,.slice none 0 0] 36))):=Lib.hid ((Below.refl _ _).alloc (Nat.le_refl _) _)
 have HZ4a:=Lib.hid (HZ4.out.below HAL4.out)
 have HA2e:=Lib.hid (HA2d.out.below HAL4.out)
 have HA3e:=Lib.hid (HA3d.out.below HAL4.out)
 have HBT4:=Lib.hid (HBT3.out.step (Step.of_below HAL4.out))
 have HBW4:=Lib.hid (Base.below_step HB4.out HAL4.out);clear HD2;clear y0 y1 y2 y3 y4 y5 y6 y7 y8 y9;generalize w4.alloc (.cells #[.int .i64 0,.int .i64 0,.slice none 0 0] 36)=W4 at *;generalize w4.heap.size=g4 at *;have y0:=HZ4a.out.c 0 _ rfl;have y1:=HZ4a.out.c 1 _ rfl;have y2:=HZ4a.out.c 2 _ rfl;have y3:=HZ4a.out.c 3 _ rfl;have y4:=HZ4a.out.c 4 _ rfl;have y5:=HZ4a.out.c 5 _ rfl;have y6:=HZ4a.out.c 6 _ rfl;have y7:=HZ4a.out.c 7 _ rfl;have y8:=HZ4a.out.c 8 _ rfl;have y9:=HZ4a.out.c 9 _ rfl;have p0:=HA2e.out.c 0 _ rfl;have p1:=HA2e.out.c 1 _ rfl;have p2:=HA2e.out.c 2 _ rfl;have q0:=HA3e.out.c 0 _ rfl;have q1:=HA3e.out.c 1 _ rfl;have q2:=HA3e.out.c 2 _ rfl
 go_wp2_with (go_at_call 18;with_reducible refine (HLA.out _ _ _ HCC.out HBT4.out).mono ?_;rintro r w5 ⟨rfl,hb⟩;have HB5:=Lib.hid (Base.below_step HBW4.out hb);clear hb);go_ret;exact ⟨rfl,HB5.out⟩
end code
end Go.Proofs.YtimoakmcelocfaaGreat.An
namespace Go.Proofs.YtimoakmcelocfaaGreat.Pg
open Go.RowKit Base Txt Par Flt
structure Safe (p:Nat) (b:Bd):Prop where
 off:∀c∈([0,1,2,3,4,5,7,8,9,10,11,12,13,14,15,16,19,23,24,25,26]:List Int),Qk.has p c=false
 nv:Qk.has p 6=true→b.od=false
 chk:∀c∈([18,21,27,28,29]:List Int),Qk.has p c=true→b.ch=false
 td:Qk.has p 20=true→b.od=false∨b.ch=false
 lw:Qk.has p 22=true→Qk.has p 21=true
structure T.Kept (b:Bd) (t:T):Prop where
 ch:b.ch=false→(t.st=1∨t.st=2∨t.st=3)∧t.r.ch=false
 od:b.od=false→t.st=2→t.r.k≠0
 fs:∀f∈t.r.fs,∀x∈f.2.data.toList,x≠11∧x≠12
theorem mem_dw {q:UInt8→Bool} {l:List UInt8} {x:UInt8} (h:x∈l.dropWhile q):x∈l:=(List.dropWhile_sublist q).subset h
theorem mem_trimL {q:UInt8→Bool} {l:List UInt8} {x:UInt8} (h:x∈trimL q l):x∈l:=by
 unfold trimL at h
 exact mem_dw (List.mem_reverse.1 (mem_dw (List.mem_reverse.1 h)))
theorem mem_parts {c x:UInt8}:∀{l:List UInt8} {a:List UInt8},a∈parts c l→x∈a→x∈l
 | [],a,ha,hx=>by
   rw [parts,List.mem_singleton] at ha;rw [ha] at hx;exact hx
 | y::l,a,ha,hx=>by
   rw [parts] at ha;split at ha
   ·rcases List.mem_cons.1 ha with e | ha
    ·rw [e] at hx;cases hx
    ·exact List.mem_cons_of_mem _ (mem_parts ha hx)
   ·rcases hp:parts c l with _ | ⟨z,zs⟩
    ·rw [hp] at ha;obtain rfl:a= [y]:=by simpa using ha
     rw [List.mem_singleton.1 hx];simp
    ·rw [hp] at ha;rcases List.mem_cons.1 ha with e | ha
     ·rw [e] at hx;rcases List.mem_cons.1 hx with e | hx
      ·rw [e];simp
      ·exact List.mem_cons_of_mem _ (mem_parts (a:=z) (by rw [hp];simp) hx)
     ·exact List.mem_cons_of_mem _ (mem_parts (a:=a) (by rw [hp];exact List.mem_cons_of_mem _ ha) hx)
theorem blanks_tab:∀k:Fin 256,UInt8.ofNat k.val≠11∧UInt8.ofNat k.val≠12→isIn Frm.blanksOf (UInt8.ofNat k.val)=Txt.blank (UInt8.ofNat k.val):=by decide +kernel
theorem blanks_of {x:UInt8} (h:x≠11∧x≠12):isIn Frm.blanksOf x=Txt.blank x:=by have:=blanks_tab ⟨x.toNat,x.toNat_lt⟩;simp only [UInt8.ofNat_toNat] at this;exact this h
theorem dw_congr {p q:UInt8→Bool}:∀{l:List UInt8},(∀x∈l,p x=q x)→l.dropWhile p=l.dropWhile q
 | [],_=>rfl
 | x::l,h=>by
   rw [List.dropWhile_cons,List.dropWhile_cons,h x (by simp),dw_congr fun y hy=>h y (by simp [hy])]
theorem trimL_congr {p q:UInt8→Bool} {l:List UInt8} (h:∀x∈l,p x=q x):trimL p l=trimL q l:=by unfold trimL;rw [dw_congr h,dw_congr fun x hx=>h x (mem_dw (List.mem_reverse.1 hx))]
theorem isC_blanks {vs:List ByteArray} (h:∀v∈vs,∀x∈v.data.toList,x≠11∧x≠12) (tb:Bool):∀v∈list vs,Frm.isC tb v=Frm.isC false v:=by
 intro v hv;cases tb with
 | false=>rfl
 | true=>
   obtain ⟨u,hu,hv⟩:=List.mem_flatMap.1 hv;obtain ⟨a,ha,rfl⟩:=List.mem_map.1 hv;have e:(trim (ba a)).data.toList=trimL Txt.blank a:=by show trimL Txt.blank (ba a).data.toList= _;simp [ba]
   have hm:∀x∈trimL Txt.blank a,x≠11∧x≠12:=fun x hx=>h u hu x (mem_parts ha (mem_trimL hx));have e2:trimOf (trim (ba a)) Frm.blanksOf=trim (ba a):=by apply ba_ext;show trimL (isIn Frm.blanksOf) (trim (ba a)).data.toList= _;rw [e,trimL_congr fun x hx=>blanks_of (hm x hx),Fd.trimL_idem]
   show same (trimOf (trim (ba a)) Frm.blanksOf) Frm.chunked=same (trim (ba a)) Frm.chunked;rw [e2]
theorem coding_blanks {vs:List ByteArray} (h:∀v∈vs,∀x∈v.data.toList,x≠11∧x≠12) (tb tl:Bool):Frm.coding tb tl vs=Frm.coding false tl vs:=by unfold Frm.coding;rw [List.map_congr_left (isC_blanks h tb)]
theorem find_mem {fs:List Fld} {n:ByteArray} {v:ByteArray} (h:v∈find fs n):∃f∈fs,f.2=v:=by unfold find at h;obtain ⟨f,hf,e⟩:=List.mem_map.1 h;exact ⟨f,(List.mem_filter.1 hf).1,e⟩
section
variable {p:Nat} {b:Bd} {t t2:T} {s:List UInt8} {c:UInt8}
theorem Safe.no (h:Safe p b) (c:Int) (hc:c∈([0,1,2,3,4,5,7,8,9,10,11,12,13,14,15,16,19,23,24,25,26]:List Int):=by decide):Qk.has p c=false:=h.off c hc
theorem Safe.noChk (h:Safe p b) (hb:b.ch=true) (c:Int) (hc:c∈([18,21,27,28,29]:List Int):=by decide):Qk.has p c=false:=by
 cases e:Qk.has p c with
 | false=>rfl
 | true=>have:=h.chk c hc e;rw [hb] at this;cases this
theorem safe_decide (h:Safe p b) (body minor:Int) (fs:List Fld) (hk:b.od=false→minor≠0) (hv:∀f∈fs,∀x∈f.2.data.toList,x≠11∧x≠12) :
 Frm.decideV (Frm.clOf p) b.ch body minor fs=Frm.decideV (Frm.clOf 0) b.ch body minor fs∨((Frm.decideV (Frm.clOf p) b.ch body minor fs).2.2≠0∧(Frm.decideV (Frm.clOf 0) b.ch body minor fs).2.2≠0):=by
 have e0:Frm.clOf 0=⟨false,false,false,false,false,false,false,false,false,false,false,false⟩:=by simp only [Frm.clOf,none0]
 have e1:Frm.clOf p=⟨false,false,Qk.has p 17,Qk.has p 18,false,Qk.has p 20,Qk.has p 21,Qk.has p 22,false,false,false,false⟩:=by simp only [Frm.clOf,h.no 15,h.no 16,h.no 19,h.no 23,h.no 24,h.no 25,h.no 26]
 rw [e0,e1];unfold Frm.decideV;dsimp only;rw [coding_blanks (fun v hv'=>by obtain ⟨f,hf,rfl⟩:=find_mem hv';exact hv f hf) (Qk.has p 17)];generalize Frm.hostsV false false minor (find fs Frm.hostN)=hs;generalize Frm.lengthV false false false false body (find fs Frm.clN)=ln;generalize (find fs Frm.clN).length=ncl;by_cases hh:hs≠0
 ·left;unfold Frm.bodyV;rw [if_pos hh,if_pos hh]
 obtain rfl:hs=0:=Decidable.not_not.1 hh;by_cases hn:(find fs Frm.teN).length=0
 ·left;have:∀td ti tw lw cod,Frm.winsV td ti tw lw minor (find fs Frm.teN).length ncl cod=(false,0):=fun td ti tw lw cod=>by unfold Frm.winsV;rw [if_pos hn]
  rw [this,this]
 cases hb:b.ch with
 | true=>
   left;rw [h.noChk hb 18,h.noChk hb 21];have hl:Qk.has p 22=false:=by
    cases e:Qk.has p 22 with
    | false=>rfl
    | true=>have:=h.lw e;rw [h.noChk hb 21] at this;cases this
   rw [hl];have hw:Frm.winsV (Qk.has p 20) false false false minor (find fs Frm.teN).length ncl (Frm.coding false false (find fs Frm.teN))=Frm.winsV false false false false minor (find fs Frm.teN).length ncl (Frm.coding false false (find fs Frm.teN)):=by
    cases e:Qk.has p 20 with
    | false=>rfl
    | true=>
      have hm:minor≠0:=hk (by rcases h.td e with h1 | h1
                              ·exact h1
                              ·rw [hb] at h1;cases h1)
      unfold Frm.winsV;simp only [decide_eq_false hm,Bool.false_and]
   rw [hw]
 | false=>
   right;have key:∀td tw lw cod,(lw=true→tw=true)→(Frm.bodyV 0 false (Frm.winsV td false tw lw minor (find fs Frm.teN).length ncl cod) ln).2.2≠0:=by
    intro td tw lw cod hl;unfold Frm.winsV;rw [if_neg hn];split
    ·unfold Frm.bodyV;simp
    ·split
     ·unfold Frm.bodyV;simp
     ·split
      ·rename_i h3;have htw:tw=false:=by
        rw [Bool.and_eq_true] at h3;simpa using h3.2
       have hlw:lw=false:=by
        cases lw with
        | false=>rfl
        | true=>have:=hl rfl;rw [htw] at this;cases this
       rw [hlw];unfold Frm.bodyV;simp
      ·unfold Frm.bodyV;simp
   exact ⟨key _ _ _ _ h.lw,key _ _ _ _ (fun e=>by cases e)⟩
theorem safe_request (h:Safe p b) (s:List UInt8):Rq.request (Rq.clOf p) b.od s=Rq.request (Rq.clOf 0) b.od s∨((Rq.request (Rq.clOf p) b.od s).2.2.2≠0∧(Rq.request (Rq.clOf 0) b.od s).2.2.2≠0):=by
 have e1:Rq.clOf p=⟨false,false,false,Qk.has p 6,false,false⟩:=by simp only [Rq.clOf,h.no 3,h.no 4,h.no 5,h.no 7,h.no 8]
 rw [Rq.clOf_zero,e1];unfold Rq.c0;cases e:Qk.has p 6 with
 | false=>exact .inl rfl
 | true=>
   have hod:=h.nv e;rw [hod];unfold Rq.request Rq.pick;dsimp only;rcases Rq.spans false s with _ | sp
   ·exact .inl rfl
   ·dsimp only;by_cases h1:(sp.length==3|| (decide (3<sp.length)&&false))=true
    ·rw [if_pos h1,if_pos h1];exact .inl rfl
    ·rw [if_neg h1,if_neg h1,Bool.and_true,Bool.and_false,if_neg Bool.false_ne_true];by_cases h2:(sp.length==2)=true
     ·right;rw [if_pos h2];refine ⟨?_,by decide⟩;dsimp only;split
      ·split
       ·simp [Rq.verR]
       ·rename_i k hk;have hk0:k=0:=by
         unfold Rq.verL at hk;rw [if_pos rfl] at hk;exact (Option.some.inj hk).symm
        rw [hk0];simp [Rq.verR]
      ·simp [Rq.badR]
     ·left;rw [if_neg h2]
theorem safe_field (h:Safe p b) (lines:Nat) (l:List Fld) (s:List UInt8) (most:Int):fieldV p lines l s most=fieldV 0 lines l s most:=by
 have e1:Fd.clOf p=Fd.clOf 0:=by simp only [Fd.clOf,h.no 9,h.no 10,h.no 11,h.no 12,h.no 14,none0]
 have e2:Fd.goes p s=Fd.goes 0 s:=by simp only [Fd.goes,h.no 13,none0]
 unfold fieldV;rw [e1,e2]
theorem safe_of (h:Safe p b) (most:Int):Ln.M.of p most=Ln.M.of 0 most:=by
 have:wideM p (Ln.M.of 0 most)=Ln.M.of 0 most:=by unfold wideM;rw [h.no 1,h.no 2];unfold Ln.M.of;rw [none0,none0];rfl
 rw [←this,of_wide]
theorem safe_line (h:Safe p b) (ht:t.Kept b):t.line p b s=t.line 0 b s∨((t.line p b s).1≠0∧(t.line 0 b s).1≠0):=by
 unfold T.line;by_cases h1:t.st=1
 ·simp only [if_pos h1];unfold T.first;by_cases h0:s= []
  ·rw [if_pos h0,if_pos h0,h.no 0,none0];exact .inl rfl
  ·rw [if_neg h0,if_neg h0];rcases safe_request h s with e | ⟨e1,e2⟩
   ·rw [e];exact .inl rfl
   ·right;dsimp only;rw [if_neg e1,if_neg e2];exact ⟨e1,e2⟩
 simp only [if_neg h1];by_cases h2:t.st=2
 ·simp only [if_pos h2];unfold T.fields;by_cases h0:s= []
  ·rw [if_pos h0,if_pos h0];unfold T.endHead;rcases safe_decide h b.x3 t.r.k t.r.fs (fun ho=>ht.od ho h2) ht.fs with e | ⟨e1,e2⟩
   ·rw [e];exact .inl rfl
   ·right;dsimp only;rw [if_pos e1,if_pos e2];exact ⟨decide_pos rfl e1,decide_pos rfl e2⟩
  ·rw [if_neg h0,if_neg h0,safe_field h];exact .inl rfl
 simp only [if_neg h2];by_cases h4:t.st=4
 ·simp only [if_pos h4];have hb:b.ch=true:=by
   cases e:b.ch with
   | true=>rfl
   | false=>have:=(ht.ch e).1;omega
  unfold T.chunk;rw [h.noChk hb 27,h.noChk hb 28,none0,none0];exact .inl rfl
 simp only [if_neg h4];by_cases h7:t.st=7
 ·simp only [if_pos h7];unfold T.trail;rw [safe_field h];exact .inl rfl
 simp only [if_neg h7];unfold T.enter;rw [safe_of h];exact .inl rfl
def Alike (x y:Q):Prop:=(∃t,x=.live t∧y=.live t)∨∃e e' o,e≠0∧e'≠0∧x=.dead e o∧y=.dead e' o
theorem safe_inLine (h:Safe p b) (ht:t.Kept b) (hs:t.Strict):Alike (t.inLine p b c).1 (t.inLine 0 b c).1∧(t.inLine p b c).2=true∧(t.inLine 0 b c).2=true:=by
 have h2:t.rd.clear.next c≠2:=by
  unfold Ln.M.next;have e1:t.rd.clear.cr=false:=hs.cr;rw [e1];simp only [Bool.false_eq_true,if_false]
  repeat' split
  all_goals decide
 unfold T.inLine;obtain ⟨how,hh⟩:∃how,t.rd.clear.next c=how:=⟨_,rfl⟩;simp only [hh] at h2 ⊢;by_cases h0:how=0
 ·simp only [if_pos h0];exact ⟨.inl ⟨_,rfl,rfl⟩,trivial,trivial⟩
 simp only [if_neg h0];by_cases h3:how=3
 ·simp only [if_pos h3];exact ⟨.inr ⟨400,400,_,by decide,by decide,rfl,rfl⟩,trivial,trivial⟩
 simp only [if_neg h3];by_cases h4:how=4
 ·simp only [if_pos h4];have e9:(t.st==6&&Qk.has p 29)=false:=by
   cases hb:b.ch with
   | true=>rw [h.noChk hb 29,Bool.and_false]
   | false=>
     have:=(ht.ch hb).1;rw [beq_eq_false_iff_ne.2 (by omega:t.st≠6),Bool.false_and]
  rw [e9,none0,Bool.and_false];have hl:longE t.st≠0:=by
   unfold longE
   repeat' split
   all_goals decide
  exact ⟨.inr ⟨_,_,_,hl,hl,rfl,rfl⟩,rfl,rfl⟩
 simp only [if_neg h4];have hu:(!(how==2))=true:=by rw [beq_eq_false_iff_ne.2 h2];rfl
 refine ⟨?_,hu,hu⟩;have hk:({t with rd:=t.rd.byte c}:T).Kept b:=⟨ht.ch,ht.od,ht.fs⟩;rcases safe_line (s:=(t.rd.byte c).line) h hk with e | ⟨e1,e2⟩
 ·rw [e];unfold ends;by_cases hz:(({t with rd:=t.rd.byte c}:T).line 0 b (t.rd.byte c).line).1=0
  ·rw [if_pos hz];exact .inl ⟨_,rfl,rfl⟩
  ·rw [if_neg hz];exact .inr ⟨_,_,_,hz,hz,rfl,rfl⟩
 ·unfold ends;rw [if_neg e1,if_neg e2,line_bad_out e1,line_bad_out e2];exact .inr ⟨_,_,_,e1,e2,rfl,rfl⟩
theorem Kept.counted (ht:t.Kept b):t.counted.Kept b:=by
 unfold T.counted;split
 ·exact ht
 ·exact ⟨ht.ch,ht.od,ht.fs⟩
theorem safe_look (h:Safe p b) (ht:t.Kept b) (hs:t.Strict):Alike (t.look p b c).1 (t.look 0 b c).1∧(t.look p b c).2=true∧(t.look 0 b c).2=true:=by
 unfold T.look;by_cases h1:bodied t.st=true
 ·simp only [if_pos h1];refine ⟨.inl ⟨_,rfl,?_⟩,trivial,trivial⟩
  congr 1
  split
  ·unfold T.endData T.enter;rw [safe_of h]
  ·rfl
 simp only [if_neg h1];by_cases h2:headed t.st=true
 ·simp only [if_pos h2]
  by_cases h3:b.x2<(t.counted.size:Int)
  ·simp only [if_pos h3];exact ⟨.inr ⟨431,431,_,by decide,by decide,rfl,rfl⟩,trivial,trivial⟩
  ·simp only [if_neg h3];exact safe_inLine h (Kept.counted ht) ⟨by rw [counted_rd];exact hs.lf,by rw [counted_rd];exact hs.cr⟩
 ·simp only [if_neg h2];exact safe_inLine h ht hs
theorem safe_take (h:Safe p b) (ht:t.Kept b) (hs:t.Strict):Alike (t.take p b c) (t.take 0 b c):=by
 unfold T.take;have hk:({t with cnt:=false}:T).Kept b:=⟨ht.ch,ht.od,ht.fs⟩;have hs0:({t with cnt:=false}:T).Strict:=⟨hs.lf,hs.cr⟩;obtain ⟨k1,k2,k3⟩:=safe_look (c:=c) h hk hs0;generalize ({t with cnt:=false}:T)=t0 at k1 k2 k3 ⊢;rcases hq:t0.look p b c with ⟨x,u⟩;rcases hr:t0.look 0 b c with ⟨y,v⟩;rw [hq] at k1 k2;rw [hr] at k1 k3;obtain rfl:u=true:=k2;obtain rfl:v=true:=k3;rcases k1 with ⟨t',e1,e2⟩ | ⟨e,e',o,n1,n2,e1,e2⟩
 ·have e1:x=.live t':=e1;have e2:y=.live t':=e2;subst e1 e2;exact .inl ⟨t',rfl,rfl⟩
 ·have e1:x=.dead e o:=e1;have e2:y=.dead e' o:=e2;subst e1 e2;exact .inr ⟨e,e',o,n1,n2,rfl,rfl⟩
theorem Kept.fin (_ht:t.Kept b):t.fin.Kept b:=⟨fun _=>⟨.inl rfl,rfl⟩,fun _ e=>(by simp [T.fin] at e),fun f hf=>(by cases hf)⟩
theorem value_bytes {v:List UInt8} (h:Oct.allOf [6] v=true):∀x∈v,x≠11∧x≠12:=by
 intro x hx;have h1:=List.all_eq_true.1 h x hx;constructor
 ·intro e;rw [e] at h1;exact absurd h1 (by decide)
 ·intro e;rw [e] at h1;exact absurd h1 (by decide)
theorem field_bytes {lines:Nat} {l l':List Fld} {most:Int} (h:fieldV 0 lines l s most=.inr l') (hl:∀f∈l,∀x∈f.2.data.toList,x≠11∧x≠12):∀f∈l',∀x∈f.2.data.toList,x≠11∧x≠12:=by
 unfold fieldV at h;split at h
 ·cases h
 have hg:Fd.goes 0 s=false:=by unfold Fd.goes;rw [none0,Bool.false_and]
 rw [if_neg (by rw [hg,Bool.false_and];exact Bool.false_ne_true),Fd.clOf_zero] at h;rcases Fd.parse_zero s with h2 | ⟨n,v,h2⟩
 ·rw [h2] at h;cases h
 ·rw [h2] at h;obtain rfl:=Sum.inr.inj h;intro f hf;rcases List.mem_append.1 hf with hf | hf
  ·exact hl f hf
  ·obtain rfl:=List.mem_singleton.1 hf;have:=(Fd.parse_strict h2).2.2.2.2.2;intro x hx
   exact value_bytes this x (by simpa [ba] using hx)
theorem request_old {m x:List UInt8} {k:Nat} {cl:Rq.Cl} (h:Rq.request cl false s=(m,x,k,0)):k≠0:=by
 unfold Rq.request at h;split at h
 ·simp [Rq.badR] at h
 ·split at h
  ·split at h
   ·simp [Rq.verR] at h
   ·split at h
    ·simp [Rq.verR] at h
    ·rename_i k' _ hn;obtain rfl:k'=k:=congrArg (·.2.2.1) h;intro e
     exact hn (by rw [e];rfl)
  ·simp [Rq.badR] at h
theorem kind_two {ch:Bool} {body minor:Int} {fs:List Fld} {cl:Frm.Cl} (h:(Frm.decideV cl ch body minor fs).1=2):ch=true:=by
 unfold Frm.decideV Frm.bodyV at h;split at h
 ·simp at h
 ·split at h
  ·simp at h
  ·split at h
   ·split at h
    ·assumption
    ·simp at h
   ·unfold Frm.fixedV at h;split at h
    ·simp at h
    ·simp at h
theorem kept_line (ht:t.Kept b) (h3:t.st≠3) (h:(t.line 0 b s).1=0):(t.line 0 b s).2.Kept b:=by
 unfold T.line at h ⊢;by_cases h1:t.st=1
 ·simp only [if_pos h1] at h ⊢;unfold T.first at h ⊢;by_cases h0:s= []
  ·rw [if_pos h0];exact ht
  ·rw [if_neg h0] at h ⊢;obtain ⟨m,x,k,e,hq⟩:∃m x k e,Rq.request (Rq.clOf 0) b.od s=(m,x,k,e):=⟨_,_,_,_,rfl⟩;rw [hq] at h ⊢;dsimp only at h ⊢;by_cases he:e=0
   ·subst he;rw [if_pos rfl];refine ⟨fun hb=>⟨.inr (.inl rfl),(ht.ch hb).2⟩,fun ho _=>?_,ht.fs⟩;rw [ho] at hq;have:=request_old hq;show (k:Int)≠0;omega
   ·rw [if_neg he];exact ht
 simp only [if_neg h1] at h ⊢;by_cases h2:t.st=2
 ·simp only [if_pos h2] at h ⊢;unfold T.fields at h ⊢;by_cases h0:s= []
  ·rw [if_pos h0] at h ⊢;unfold T.endHead at h ⊢;obtain ⟨d,hd⟩:∃d,Frm.decideV (Frm.clOf 0) b.ch b.x3 t.r.k t.r.fs=d:=⟨_,rfl⟩;rw [hd] at h ⊢;dsimp only at h ⊢;split
   ·exact ht
   ·split
    ·rename_i h3;rw [←hd] at h3;have hc:=kind_two h3;exact ⟨fun hb=>(by rw [hc] at hb;cases hb),fun _ e=>(by simp at e),ht.fs⟩
    ·split
     ·exact Kept.fin ht
     ·exact ⟨fun hb=>⟨.inr (.inr rfl),(ht.ch hb).2⟩,fun _ e=>(by simp at e),ht.fs⟩
  ·rw [if_neg h0] at h ⊢;obtain ⟨l,hl⟩:=listE_zero h fun e he=>fieldV_err he;rw [hl];exact ⟨ht.ch,ht.od,field_bytes hl ht.fs⟩
 simp only [if_neg h2] at h ⊢;have hno:∀{P:Prop},b.ch=false→¬t.st=3→P:=fun hb hn=>by have:=(ht.ch hb).1;omega
 by_cases h4:t.st=4
 ·simp only [if_pos h4];unfold T.chunk;dsimp only;split
  ·exact ht
  ·split
   ·exact ⟨fun hb=>hno hb (by omega),fun _ e=>(by simp at e),ht.fs⟩
   ·split
    ·exact ht
    ·exact ⟨fun hb=>hno hb (by omega),fun _ e=>(by simp at e),ht.fs⟩
 simp only [if_neg h4];by_cases h7:t.st=7
 ·simp only [if_pos h7];unfold T.trail;split
  ·exact Kept.fin ht
  ·exact ⟨ht.ch,ht.od,ht.fs⟩
 simp only [if_neg h7];unfold T.enter;exact ⟨fun hb=>hno hb h3,fun _ e=>(by simp at e),ht.fs⟩
theorem kept_inLine {u:Bool} (ht:t.Kept b) (h3:t.st≠3) (h:t.inLine 0 b c=(.live t2,u)):t2.Kept b:=by
 unfold T.inLine at h;dsimp only at h;split at h
 ·cases h;exact ⟨ht.ch,ht.od,ht.fs⟩
 ·split at h
  ·cases h
  ·split at h
   ·rw [none0,Bool.and_false,if_neg Bool.false_ne_true] at h;cases h
   ·have h1:=congrArg Prod.fst h;unfold ends at h1;dsimp only at h1;split at h1
    ·rename_i h0;have:=kept_line (t:={t with rd:=t.rd.byte c}) ⟨ht.ch,ht.od,ht.fs⟩ h3 h0;cases h1;exact this
    ·cases h1
theorem kept_look {u:Bool} (ht:t.Kept b) (h:t.look 0 b c=(.live t2,u)):t2.Kept b:=by
 unfold T.look at h;split at h
 ·rename_i hb;have hk:(t.keep c).Kept b:=⟨ht.ch,ht.od,ht.fs⟩;have h1:=congrArg Prod.fst h;dsimp only at h1;split at h1
  ·cases h1;unfold T.endData;split
   ·rename_i hc
    exact ⟨fun hb=>(by have h5:t.r.ch=false:=(ht.ch hb).2
                       have h6:t.r.ch=true:=hc
                       rw [h5] at h6;cases h6),fun _ e=>(by simp [T.enter] at e),ht.fs⟩
   ·exact Kept.fin hk
  ·cases h1;exact hk
 ·rename_i hb
  have hb3:t.st≠3:=fun e=>hb (by rw [e];rfl);split at h
  ·split at h
   ·cases h
   ·refine kept_inLine (Kept.counted ht) ?_ h;unfold T.counted;split<;>exact hb3
  ·exact kept_inLine ht hb3 h
theorem kept_take (ht:t.Kept b) (hs:t.Strict) (h:t.take 0 b c=.live t2):t2.Kept b:=by
 unfold T.take at h;have hs0:({t with cnt:=false}:T).Strict:=⟨hs.lf,hs.cr⟩;have hu:=strict_look (b:=b) (c:=c) hs0;have hk:({t with cnt:=false}:T).Kept b:=⟨ht.ch,ht.od,ht.fs⟩;rcases hq:({t with cnt:=false}:T).look 0 b c with ⟨q,u⟩;rw [hq] at h hu;obtain rfl:u=true:=hu;cases q with
 | dead e1 o1=>cases h
 | live t1=>
   cases h;exact kept_look hk hq
theorem kept_new:(T.new 0 b).Kept b:=⟨fun _=>⟨.inl rfl,rfl⟩,fun _ e=>(by simp [T.new] at e),fun f hf=>(by cases hf)⟩
def Both (b:Bd) (x y:Q):Prop:=(∃t,x=.live t∧y=.live t∧t.Strict∧t.Kept b)∨∃e e' o,e≠0∧e'≠0∧x=.dead e o∧y=.dead e' o
theorem Both.new (h:Safe p b) (hp:p<1073741824) (hb:b.right=true):Both b (Q.new 0 b) (Q.new p b):=by
 have e:Q.new p b=.live (T.new p b):=if_pos (by rw [hb,decide_eq_true hp];rfl)
 have e0:Q.new 0 b=.live (T.new 0 b):=if_pos (by rw [hb];rfl);rw [e,e0];refine .inl ⟨T.new 0 b,rfl,?_,⟨none0 1,none0 2⟩,kept_new⟩;unfold T.new;rw [safe_of h]
theorem Both.told {x y:Q} (h:Both b x y):Both b x.told y.told:=by
 rcases h with ⟨t,rfl,rfl,h1,h2⟩ | ⟨e,e',o,h1,h2,rfl,rfl⟩
 ·exact .inl ⟨{t with out:= []},rfl,rfl,⟨h1.lf,h1.cr⟩,⟨h2.ch,h2.od,h2.fs⟩⟩
 ·exact .inr ⟨e,e',[],h1,h2,rfl,rfl⟩
theorem Both.byte {x y:Q} (hp:Safe p b) (h:Both b x y) (c:UInt8):Both b (x.byte 0 b c) (y.byte p b c):=by
 rcases h with ⟨t,rfl,rfl,h1,h2⟩ | ⟨e,e',o,h1,h2,rfl,rfl⟩
 ·show Both b (t.take 0 b c) (t.take p b c);rcases safe_take (c:=c) hp h2 h1 with ⟨t2,e1,e2⟩ | ⟨e,e',o,n1,n2,e1,e2⟩
  ·rw [e1,e2];exact .inl ⟨t2,rfl,rfl,(take_wide (p:=0) e2 h1).2,kept_take h2 h1 e2⟩
  ·rw [e1,e2];exact .inr ⟨e',e,o,n2,n1,rfl,rfl⟩
 ·exact .inr ⟨e,e',o,h1,h2,rfl,rfl⟩
theorem Both.out {x y:Q} (h:Both b x y):x.out=y.out:=by rcases h with ⟨t,rfl,rfl, -⟩ | ⟨e,e',o, -, -,rfl,rfl⟩<;>rfl
theorem Both.err {x y:Q} (h:Both b x y):(x.err=0↔y.err=0):=by
 rcases h with ⟨t,rfl,rfl, -⟩ | ⟨e,e',o,h1,h2,rfl,rfl⟩
 ·exact Iff.rfl
 ·exact ⟨fun h=>absurd h h1,fun h=>absurd h h2⟩
theorem Both.clean {x y:Q} (h:Both b x y):x.clean=y.clean:=by rcases h with ⟨t,rfl,rfl, -⟩ | ⟨e,e',o, -, -,rfl,rfl⟩<;>rfl
end
end Go.Proofs.YtimoakmcelocfaaGreat.Pg
namespace Go.Proofs.YtimoakmcelocfaaGreat.Frm
open Go.RowKit Base Txt
def tbl:List Fld:= [(⟨#[72,111,115,116]⟩,⟨#[97]⟩),(⟨#[104,111,115,116]⟩,⟨#[98,58,56,48]⟩),(⟨#[72,111,115,116]⟩,⟨#[97,32,98]⟩),(⟨#[84,114,97,110,115,102,101,114,45,69,110,99,111,100,105,110,103]⟩,⟨#[99,104,117,110,107,101,100]⟩),(⟨#[116,114,97,110,115,102,101,114,45,101,110,99,111,100,105,110,103]⟩,⟨#[103,122,105,112]⟩),(⟨#[84,114,97,110,115,102,101,114,45,69,110,99,111,100,105,110,103]⟩,⟨#[103,122,105,112,44,32,99,104,117,110,107,101,100]⟩),(⟨#[84,114,97,110,115,102,101,114,45,69,110,99,111,100,105,110,103]⟩,⟨#[11,99,104,117,110,107,101,100]⟩),(⟨#[84,114,97,110,115,102,101,114,45,69,110,99,111,100,105,110,103]⟩,⟨#[]⟩),(⟨#[67,111,110,116,101,110,116,45,76,101,110,103,116,104]⟩,⟨#[53]⟩),(⟨#[99,111,110,116,101,110,116,45,108,101,110,103,116,104]⟩,⟨#[53]⟩),(⟨#[67,111,110,116,101,110,116,45,76,101,110,103,116,104]⟩,⟨#[54]⟩),(⟨#[67,111,110,116,101,110,116,45,76,101,110,103,116,104]⟩,⟨#[43,53]⟩),(⟨#[67,111,110,116,101,110,116,45,76,101,110,103,116,104]⟩,⟨#[53,44,32,53]⟩),(⟨#[67,111,110,116,101,110,116,45,76,101,110,103,116,104]⟩,⟨#[53,44,54]⟩),(⟨#[67,111,110,116,101,110,116,45,76,101,110,103,116,104]⟩,⟨#[]⟩),(⟨#[67,111,110,116,101,110,116,45,76,101,110,103,116,104]⟩,⟨#[57,57,57,57,57,57,57,57,57,57,57,57,57,57,57,57,57,57,57,57]⟩),(⟨#[88]⟩,⟨#[121]⟩),(⟨#[84,114,97,110,115,102,101,114,45,69,110,99,111,100,105,110,103]⟩,⟨#[99,104,117,110,107,101,100,44,32,99,104,117,110,107,101,100]⟩)]
theorem qints_at (k:Nat) (hk:k<9):∃c:Int,∀w:World,(w.alloc (.cells #[.int .i64 6,.int .i64 17,.int .i64 18,.int .i64 20,.int .i64 21,.int .i64 22,.int .i64 27,.int .i64 28,.int .i64 29] 3)).cell? ⟨w.heap.size,k,none⟩=some (.int .i64 c):=by refine ⟨([6,17,18,20,21,22,27,28,29]:List Int)[k]'hk,fun w=>?_⟩;refine (cell_of_row (w.alloc _) w.heap.size k _ _ (0,0) (heap_alloc_new w _)).trans ?_;rcases (by omega:k=0∨k=1∨k=2∨k=3∨k=4∨k=5∨k=6∨k=7∨k=8) with rfl | rfl | rfl | rfl | rfl | rfl | rfl | rfl | rfl<;>rfl
section code
set_option maxHeartbeats 4000000
set_option maxRecDepth 10000
attribute [local go_sem] Base.some_undef
theorem quiet_any (k:Nat) (w:World):Calls Tryz.prog 8 #[.int .u8 k] w fun e w'=>∃P:Nat,e=.returned (.int .u32 (P:Nat))∧P<1073741824∧Below w.heap.size w w':=by
 have HC:=Lib.hid (fun r (hr:r<9)=>qints_at r hr)
 have HB:=Lib.hid (show Below w.heap.size w (w.alloc (.cells #[.int .i64 6,.int .i64 17,.int .i64 18,.int .i64 20,.int .i64 21,.int .i64 22,.int .i64 27,.int .i64 28,.int .i64 29] 3)) from (Below.refl _ _).alloc (Nat.le_refl _) _);have hgW:w.heap.size<(w.alloc (.cells #[.int .i64 6,.int .i64 17,.int .i64 18,.int .i64 20,.int .i64 21,.int .i64 22,.int .i64 27,.int .i64 28,.int .i64 29] 3)).heap.size:=by simp
 have HW:Hid (∀r,r<9→∃c:Int,(w.alloc (.cells #[.int .i64 6,.int .i64 17,.int .i64 18,.int .i64 20,.int .i64 21,.int .i64 22,.int .i64 27,.int .i64 28,.int .i64 29] 3)).cell? ⟨w.heap.size,r,none⟩=some (.int .i64 c)):=
  Lib.hid fun r hr=>by obtain ⟨c,h⟩:=HC.out r hr;exact ⟨c,h w⟩
 clear HC;go_enter Tryz.func8,Tryz.ntmps8;go_wp2;generalize w.alloc (.cells #[.int .i64 6,.int .i64 17,.int .i64 18,.int .i64 20,.int .i64 21,.int .i64 22,.int .i64 27,.int .i64 28,.int .i64 29] 3)=W at *;generalize hgw:w.heap.size=g at *;have HGW:=Lib.hid hgw;clear hgw
 go_loopw [4,5] (fun v i wr=>∃(j:Nat) (P:Nat),j≤9∧i=.int .i64 j∧v=.int .u32 (P:Nat)∧P<1073741824∧Hid (Below W.heap.size W wr)) (fun _ i _=>9-(intOf i).toNat)
 case atStart=>exact ⟨0,0,Nat.zero_le _,rfl,rfl,by decide,Lib.hid (Below.refl _ _)⟩
 case round=>
  obtain ⟨j,P,hj,rfl,rfl,hP,hbr⟩:=hrel;rcases Nat.lt_or_ge j 9 with hlt | hge
  ·have t1:(j:Int)<9:=by omega
   have him:Int.tmod (j:Int) 8=((j%8:Nat):Int):=by rw [Int.tmod_eq_emod_of_nonneg (by omega)];omega
   obtain ⟨c,hc⟩:=HW.out j hlt;have hcj:=(hbr.out.cell (p:=⟨g,j,none⟩) hgW).trans hc
   have HO:=Lib.hid (fun w b (hi:Ints w b 1 [c])=>Qk.rof_any b 1 1 [c] w hi (by decide));have hq:=Qk.ofL_lt [c];generalize Qk.ofL [c]=Q at *;have hPQ:P ||| Q<1073741824:=Nat.or_lt_two_pow (n:=30) hP hq
   have N2:bits .or .u32 (P:Int) (Q:Int)=((P ||| Q:Nat):Int):=u32_or_nat P Q (by omega) (by omega)
   have hj8:j%8<8:=Nat.mod_lt _ (by decide);obtain ⟨r,hr⟩:∃r,j%8=r:=⟨_,rfl⟩;rw [hr] at him hj8;clear hr hc
   go_wp2_with (go_at_call 25;(with_reducible refine (HO.out _ _ (Ints.one _ _ rfl _ _)).mono ?_);rintro e w8 ⟨rfl,hw⟩;rw [hw];clear hw);all_goals
    go_roundw
    case rel=>first | exact ⟨j+1,P ||| Q,by omega,by go_num,rfl,hPQ,Lib.hid (hbr.out.alloc hbr.out.size _)⟩ | exact ⟨j+1,P,by omega,by go_num,rfl,hP,hbr⟩
    case measure=>simp [intOf];omega
  ·obtain rfl:j=9:=by omega
   have H3:Hid (Below w.heap.size w wr):=Lib.hid (Base.below_step (a:=w) (by rw [HGW.out];exact HB.out) hbr.out);go_wp2_with fail;go_ret;exact ⟨P,rfl,hP,H3.out⟩
end code
end Go.Proofs.YtimoakmcelocfaaGreat.Frm
namespace Go.Proofs.YtimoakmcelocfaaGreat.An
open Go.RowKit Base Txt Mem Par Pg Each Flt DF
section
variable {p:Nat} {b:Bd}
theorem mem_eff (hr:b.right=true) (hp:p<1073741824) {c:Int} (h1:Qk.has p c=true) (h2:Qk.needs c p b.ch b.od=true):c∈effL p b:=by unfold effL;rw [if_pos (by rw [hr,decide_eq_true hp];rfl)];refine List.mem_filter.2 ⟨?_,h2⟩;unfold Qk.has at h1;rw [Bool.and_eq_true] at h1;have hk:=(Qk.known_iff c).1 h1.1;exact List.mem_map.2 ⟨c.toNat,List.mem_filter.2 ⟨List.mem_range.2 (by omega),h1.2⟩,by omega⟩
theorem safe_of_eff (hr:b.right=true) (hp:p<1073741824) (h:effL p b= []):Pg.Safe p b:=by
 have key:∀c,Qk.needs c p b.ch b.od=true→Qk.has p c=false:=fun c h2=>by
  cases e:Qk.has p c with
  | false=>rfl
  | true=>have:=mem_eff hr hp e h2;rw [h] at this;cases this
 have e25:=key 25 rfl;refine ⟨?_,fun e=>?_,fun c hc e=>?_,fun e=>?_,fun e=>?_⟩
 ·intro c hc;simp only [List.mem_cons,List.not_mem_nil,or_false] at hc;rcases hc with rfl | rfl | rfl | rfl | rfl | rfl | rfl | rfl | rfl | rfl | rfl | rfl | rfl | rfl | rfl | rfl | rfl | rfl | rfl | rfl | rfl;all_goals first
   | exact key _ rfl
   | exact key 26 (by show (!Qk.has p 25)=true;rw [e25];rfl)
 ·cases ho:b.od with
  | false=>rfl
  | true=>rw [key 6 ho] at e;cases e
 ·cases ho:b.ch with
  | false=>rfl
  | true=>
    simp only [List.mem_cons,List.not_mem_nil,or_false] at hc;have:Qk.has p c=false:=by rcases hc with rfl | rfl | rfl | rfl | rfl<;>exact key _ ho
    rw [this] at e;cases e
 ·cases ho:b.od with
  | false=>exact .inl rfl
  | true=>
    cases hc:b.ch with
    | false=>exact .inr rfl
    | true=>rw [key 20 (by show (b.od&&(b.ch||Qk.has p 19||Qk.has p 22 && !Qk.has p 21))=true;rw [ho,hc];rfl)] at e;cases e
 ·cases ho:Qk.has p 21 with
  | true=>rfl
  | false=>rw [key 22 (by show (!Qk.has p 21)=true;rw [ho];rfl)] at e;cases e
end
def OneA (M:List (Option Nat)) (ad:Option Addr) (cc:Nat):Fact:=fun v w=>∃k,v=.slice (some ⟨k,0,none⟩) 1 1∧k<w.heap.size∧some k∉M∧w.cell? ⟨k,0,none⟩=some (.slice ad 1 cc)
section
variable {w w':World} {B g p:Nat} {b:Bd} {L1 L2:List (Option Nat)} {ch:UInt8} {ad:Option Addr} {cc:Nat}
theorem OneA.lasts {l:List Oper} {A' C':World→List (Option Nat)→Prop} {i1 i2 k:Nat}:LastsTwo l A' C' L1 L2 i1 i2 k (OneA (L1++L2) ad cc):=
 LastsTwo.keeps fun _ _ _ _ hM hk ⟨j,e,h1,h2,h3⟩=>⟨j,e,Nat.lt_of_lt_of_le h1 hk.size,h2,(hk.cell (p:=⟨j,0,none⟩) h1 fun hm=>h2 (hM j hm)).trans h3⟩
theorem OneA.made {M:List (Option Nat)} {W w1:World} (hin:∀k,some k∈M→k<W.heap.size) (hk:Keeps M W w1) (ad:Option Addr) (cc:Nat) (ty:TypeId):OneA M ad cc (.slice (some ⟨w1.heap.size,0,none⟩) 1 1) (w1.alloc (.cells #[.slice ad 1 cc] ty)):=by
 refine ⟨w1.heap.size,rfl,by simp,fun hm=>?_,?_⟩
 ·have:=hin _ hm;have:=hk.size;omega
 ·exact (cell_of_row (w1.alloc (.cells #[.slice ad 1 cc] ty)) w1.heap.size 0 _ ty (0,0) (heap_alloc_new w1 _)).trans rfl
theorem dfeed_by {X:Q} {Z:List (Option Nat)} {L:List (Option Nat)} (hp:p<4294967296) (hA:DQ w ⟨B,Z⟩ g p b L X) (xo:X.out= []) (k:Nat) (hc:w.cell? ⟨k,0,none⟩=some (.slice ad 1 cc)) (hk:k<w.heap.size) (hkL:some k∉L)
 (hbt:Bts L w ad [ch]) (Z':List (Option Nat)) (hz:Clear w Z' L):Calls Tryz.prog 21 #[ptr g,.slice (some ⟨k,0,none⟩) 1 1] w fun r w'=>∃v L',r=.returned v∧DQ w' ⟨B,Z'⟩ g p b L' (X.byte p b ch).told∧Pg.Told L' ⟨B,Z'⟩ w' v (X.byte p b ch).out∧Step L L' w w':=by
 have hpa:Parts L w (some ⟨k,0,none⟩) [[ch]]:=⟨fun _=>⟨k,0,rfl,hk,hkL,fun j hj=>by
  obtain rfl:j=0:=by have:j<1:=hj;omega
  exact ⟨_,cc,hc,hbt⟩⟩⟩
 have:=dfeed_any hp (hA.rezone hz) xo (some ⟨k,0,none⟩) 1 [[ch]] hpa (by simp) (by simp);exact this
theorem bts_at {L:List (Option Nat)} {yb yo:Nat} {l:List UInt8} (h:Bts [] w (some ⟨yb,yo,none⟩) l) (k:Nat) (hk:k<l.length) (hn:some yb∉L):Bts L w (some ⟨yb,yo+k,none⟩) [l[k]]:=by
 have hf:=(h.far _ rfl).2;refine ⟨⟨rfl,fun _=>⟨yb,yo+k,rfl,hf,fun j hj=>?_⟩⟩,fun ad e=>?_⟩
 ·obtain rfl:j=0:=by
   have:j<1:=hj;omega
  obtain ⟨b',o',e, -,hc⟩:=h.nums.2 (by omega);cases e;rw [Nat.add_zero,hc k hk,List.getElem?_map,List.getElem?_eq_getElem hk];rfl
 ·cases e;exact ⟨hn,hf⟩
structure Rd3 (w:World) (a:Option Addr) (n c:Nat):Prop where
 le:n≤c∧n≤3000
 rd:0<n→∃yb yo l,a=some ⟨yb,yo,none⟩∧l.length=n∧Bts [] w a l
theorem Rd3.below {a:Option Addr} {n c:Nat} (h:Rd3 w a n c) (hb:Below w.heap.size w w'):Rd3 w' a n c:=
 ⟨h.le,fun h0=>by obtain ⟨yb,yo,l,e,h1,h2⟩:=h.rd h0;exact ⟨yb,yo,l,e,h1,h2.step (Step.of_below hb)⟩⟩
theorem nums_bytes {g:Nat} {l:List UInt8} (h:By.Bytes w g l) (hlt:g<w.heap.size):Nums .u8 w (some ⟨g,0,none⟩) l.length (nums l):=
 ⟨by simp [nums],fun _=>⟨g,0,rfl,hlt,fun k hk=>by
   rw [Nat.zero_add,(h k hk).1]
   simp [nums,hk]⟩⟩
theorem own_row {e:TypeId} {n:Nat} {v:Value} {xs:List Value} (h:w.ownsRow B e 1 v n xs) (h0:0<n):∃g tc ys,v=.slice (some ⟨g,0,none⟩) n tc∧B≤g∧n≤tc∧tc≤maxLen∧w.heap[g]?=some (.cells (List.toArray ys) e (0,0))∧ys.take n=xs:=by
 rcases h.2 with ⟨-,e0⟩ | ⟨g,cap,cur,rfl,h1,h2,h3,h4,h5,h6⟩
 ·omega
 ·exact ⟨g,cap,cur.toList,rfl,h1,h3,h4,h2,by rw [Nat.mul_one] at h6;exact h6⟩
theorem rd_row {e:TypeId} {n c:Nat} {ys:List Value} {l:List UInt8} (hr:w.heap[g]?=some (.cells (List.toArray ys) e (0,0))) (ht:ys.take n=Rec.vals l) (hl:l.length=n) (h1:n≤c) (h2:n≤3000):Rd3 w (some ⟨g,0,none⟩) n c:=
 ⟨⟨h1,h2⟩,fun _=>⟨g,0,l,rfl,hl,⟨⟨by simp,fun _=>⟨g,0,rfl,Ln.row_lt hr,fun k hk=>by
   rw [Nat.zero_add];refine row_cellL hr ?_;rw [←List.getElem?_take_of_lt (show k<n by omega),ht]
   simp [Rec.vals,Rec.byteV,hk]⟩⟩,fun ad e2=>by cases e2;exact ⟨by simp,Ln.row_lt hr⟩⟩⟩⟩
theorem vals_set {n:Nat} {ys:List Value} {l:List UInt8} (ht:ys.take n=Rec.vals l) (m:Nat) (x:UInt8):(ys.set m (.int .u8 (x.toNat:Int))).take n=Rec.vals (l.set m x):=by rw [List.take_set,ht];unfold Rec.vals;rw [List.map_set]
theorem own_made {e:TypeId} {n:Nat} {v:Value} {l:List UInt8} (h:w.ownsRow B e 1 v (0+n) ([]++Rec.vals l)) (hn:v=.slice none 0 0↔(Value.slice none 0 0=.slice none 0 0)∧n=0):∃ta tc,v=.slice ta n tc∧n≤tc∧(0<n→∃g ys,ta=some ⟨g,0,none⟩∧B≤g∧w.heap[g]?=some (.cells (List.toArray ys) e (0,0))∧ys.take n=Rec.vals l):=by
 rw [Nat.zero_add,List.nil_append] at h;rcases Nat.eq_zero_or_pos n with h0 | h0
 ·subst h0;exact ⟨none,0,hn.2 ⟨rfl,rfl⟩,Nat.le_refl _,fun h=>absurd h (Nat.lt_irrefl _)⟩
 ·obtain ⟨g,tc,ys,e1,h1,h2, -,h4,h5⟩:=own_row h h0;exact ⟨_,tc,e1,h2,fun _=>⟨g,ys,rfl,h1,h4,h5⟩⟩
theorem seat_bd (k:Nat):∃b:Bd,Seat.seatB k=bdV b∧b.right=true:=by
 refine ⟨⟨if k%6=1 then 64 else if k%6=3 then 80 else 1024,if k%6=1 then 4 else 32,if k%6=1 then 256 else 8192,if k%6=2 then 16 else if k%6=3 then 40 else 65536,if k%6=2 then 0 else 32,if k%6=2 then 0 else 8,((k/32%4:Nat)+1:Int),20,!decide (k%8=7),!decide (12<k%16)⟩,rfl,?_⟩
 have h:k/32%4<4:=Nat.mod_lt _ (by decide);generalize k/32%4=z at *;unfold Bd.right Bnd.right Bnd.inside;simp only [Bool.and_eq_true,decide_eq_true_eq];by_cases h1:k%6=1
 ·simp only [h1];simp;omega
 ·by_cases h2:k%6=2
  ·simp only [h2];simp;omega
  ·by_cases h3:k%6=3
   ·simp only [h3];simp;omega
   ·simp only [if_neg h1,if_neg h2,if_neg h3];omega
structure BX (w0 w:World) (B g1 g2 p:Nat) (b:Bd) (x y:Q) (L1 L2:List (Option Nat)):Prop where
 hx:DHas B g1 0 b x w L1
 hy:DHas B g2 p b y w L2
 dis:Dis L1 L2
 both:Both b x y
 xo:x.out= []
 yo:y.out= []
 bel:Below B w0 w
end
section code
set_option maxHeartbeats 8000000
set_option maxRecDepth 20000
attribute [local go_sem] Base.some_undef
theorem decide_sf (p:Nat) (hp:p<1073741824) (b:Bd) (hr:b.right=true) (w:World):Calls Tryz.prog 11 #[.int .u32 (p:Int),.agg #[.int .i64 b.x0,.int .i64 b.x1,.int .i64 b.x2,.int .i64 b.x3,.int .i64 b.x4,.int .i64 b.x5,.int .i64 b.x6,.int .i64 b.x7,.bool b.ch,.bool b.od]] w fun e w'=>
 ∃(c:Int) (sa:Option Addr) (sn sc:Nat),e=.returned (.tuple #[.agg #[.int .i64 (if effL p b= [] then 1 else 2),.int .i64 c,.slice sa sn sc],.int .i64 0])∧Below w.heap.size w w':=
 (decide_any p (by omega) b w).mono (by
   rintro e w' ⟨v,rfl,h1,h2⟩;have hok:(decide (p<1073741824)&&b.right)=true:=by rw [hr,decide_eq_true hp];rfl
   have:∃(sa:Option Addr) (sn sc:Nat),v=.slice sa sn sc:=by
    unfold Shown at h1;split at h1
    ·exact ⟨_,_,_,h1⟩
    ·obtain ⟨g,c,e, -⟩:=h1.v;exact ⟨_,_,_,e⟩
   obtain ⟨sa,sn,sc,rfl⟩:=this;unfold kindA errA;rw [if_pos hok,if_pos hok];exact ⟨_,sa,sn,sc,rfl,h2⟩)
theorem analyseSafe_any (q k:Nat) (la:Option Addr) (ln cap:Nat) (zs:List Int) (ra:Option Addr) (rn rc:Nat) (bs:List UInt8) (at_:Nat) (x:UInt8) (w:World) (hk:k<256) (hv:Nums .u8 w la ln zs) (hlc:ln≤cap) (hln:ln≤maxLen) (hrv:Nums .u8 w ra rn (bs.map fun c=>(c.toNat:Int))) (hrc:rn≤rc) (ha:at_<65536) :
 Calls Tryz.prog 4 #[.int .u8 q,.int .u8 k,.slice la ln cap,.slice ra rn rc,.int .u16 at_,.int .u8 (x.toNat:Int)] w fun e w'=>e=.returned (.bool true)∧Below w.heap.size w w':=by
 unfold maxLen at hln;by_cases hbig:30<ln∨200<rn
 ·rcases Nat.lt_or_ge 30 ln with h1 | h1
  ·have d1:(30:Int)<(ln:Int):=by omega
   go_enter Tryz.func4,Tryz.ntmps4
   go_wp2_with (go_at_call 6;with_reducible refine (known_any _).mono ?_;rintro e w1 ⟨rfl,hb⟩);go_ret;exact ⟨rfl,hb⟩
  ·have d1:¬(30:Int)<(ln:Int):=by omega
   have d2:(200:Int)<(rn:Int):=by omega
   go_enter Tryz.func4,Tryz.ntmps4
   go_wp2_with (go_at_call 6;with_reducible refine (known_any _).mono ?_;rintro e w1 ⟨rfl,hb⟩);go_ret;exact ⟨rfl,hb⟩
 have d1:¬(30:Int)<(ln:Int):=by omega
 have d2:¬(200:Int)<(rn:Int):=by omega
 obtain ⟨b,hbd,hright⟩:=seat_bd k
 have HBN:=Lib.hid (fun w=>Seat.bounds_any k hk w);rw [hbd] at HBN
 have HST:=Lib.hid (fun w' (hb':Below w.heap.size w w')=>Rq.stream_any la ln cap zs w' (hv.below hb') (by omega) hlc)
 have HR3:=Lib.hid (show Rd3 w ra rn rc from ⟨⟨hrc,by omega⟩,fun h0=>by
  have hl:bs.length=rn:=by have:=hrv.1;simpa using this
  obtain ⟨yb,yo,e,h1,h2⟩:=hrv.2 h0;refine ⟨yb,yo,bs,e,hl,⟨by rw [hl];exact hrv,fun ad e2=>⟨by simp,?_⟩⟩⟩
  rw [e] at e2;cases e2;exact h1⟩)
 have HRT:=Lib.hid hright;have HA:=Lib.hid ha
 have HKN:=Lib.hid (fun w=>known_any w);clear hv hrv hrc hk hbd hlc hbig ha hright;go_enter Tryz.func4,Tryz.ntmps4
 go_upto_region 6 with (first
  |(go_at_call 6;with_reducible refine (HKN.out _).mono ?_;rintro e w1 ⟨rfl,hb⟩;have HB1:=Lib.hid hb;clear hb)
  |(go_at_call 8;with_reducible refine (Frm.quiet_any _ _).mono ?_;rintro e w2 ⟨p,rfl,hp,hb⟩;have HB2:=Lib.hid (Base.below_step HB1.out hb);have HP0:=Lib.hid hp;clear hb hp)
  |(go_at_call 9;with_reducible refine (HBN.out _).mono ?_;rintro e w3 ⟨rfl,hb⟩;have HB3:=Lib.hid (Base.below_step HB2.out hb);clear hb))
 have HP:=Lib.hid (show p<4294967296 from Nat.lt_trans HP0.out (by decide))
 have HBW:=Lib.hid (HB3.out.alloc HB3.out.size (.cells #[.int .i64 b.x0,.int .i64 b.x1,.int .i64 b.x2,.int .i64 b.x3,.int .i64 b.x4,.int .i64 b.x5,.int .i64 b.x6,.int .i64 b.x7,.bool b.ch,.bool b.od] 24))
 have HZ9:=Lib.hid (Rec.Bk.new w3 w3.heap.size rfl 24 [.int .i64 b.x0,.int .i64 b.x1,.int .i64 b.x2,.int .i64 b.x3,.int .i64 b.x4,.int .i64 b.x5,.int .i64 b.x6,.int .i64 b.x7,.bool b.ch,.bool b.od]);generalize w3.alloc (.cells #[.int .i64 b.x0,.int .i64 b.x1,.int .i64 b.x2,.int .i64 b.x3,.int .i64 b.x4,.int .i64 b.x5,.int .i64 b.x6,.int .i64 b.x7,.bool b.ch,.bool b.od] 24)=WB at *;generalize w3.heap.size=gB at *
 have HDC:=Lib.hid (fun w=>decide_sf p HP0.out b HRT.out w);have y0:=HZ9.out.c 0 _ rfl;have y1:=HZ9.out.c 1 _ rfl;have y2:=HZ9.out.c 2 _ rfl;have y3:=HZ9.out.c 3 _ rfl;have y4:=HZ9.out.c 4 _ rfl;have y5:=HZ9.out.c 5 _ rfl;have y6:=HZ9.out.c 6 _ rfl;have y7:=HZ9.out.c 7 _ rfl;have y8:=HZ9.out.c 8 _ rfl;have y9:=HZ9.out.c 9 _ rfl
 go_upto_region 7 with (go_at_call 11;with_reducible refine (HDC.out _).mono ?_;rintro r w4 ⟨kc,sa,sn,sc,rfl,hb⟩;have HB4:=Lib.hid (Base.below_step HBW.out hb);have HZ4:=Lib.hid (HZ9.out.below hb);clear hb)
 clear y0 y1 y2 y3 y4 y5 y6 y7 y8 y9 HDC;obtain ⟨KK,hKK⟩:∃KK:Int,(if effL p b= [] then 1 else 2)=KK:=⟨_,rfl⟩;rw [hKK]
 have HAN:=Lib.hid (Rec.Bk.new w4 w4.heap.size rfl 36 [.int .i64 KK,.int .i64 kc,.slice sa sn sc])
 have HAL:Hid (Below w4.heap.size w4 (w4.alloc (.cells #[.int .i64 KK,.int .i64 kc,.slice sa sn sc] 36))):=Lib.hid ((Below.refl _ _).alloc (Nat.le_refl _) _)
 have HZA:=Lib.hid (HZ4.out.below HAL.out)
 have HBA:=Lib.hid (Base.below_step HB4.out HAL.out);generalize w4.alloc (.cells #[.int .i64 KK,.int .i64 kc,.slice sa sn sc] 36)=WA at *;generalize w4.heap.size=gA at *;have q0:=HAN.out.c 0 _ rfl;by_cases hE:effL p b= []
 case neg=>
  obtain rfl:KK=2:=by rw [←hKK,if_neg hE]
  clear HST HR3 hKK hE;go_wp2_with fail;go_ret;exact ⟨rfl,HBA.out⟩
 obtain rfl:KK=1:=by rw [←hKK,if_pos hE]
 have HSF:=Lib.hid (safe_of_eff HRT.out HP0.out hE);clear hKK hE;go_upto_region 12 with
  (go_at_call 19;with_reducible refine (HST.out _ HBA.out).mono ?_;rintro e W5 ⟨gs,s,c,rfl,hsc,hsl,hgs,hgw,hby,hb⟩
   have HZ5:=Lib.hid (HZA.out.below hb);have HB5:=Lib.hid (Base.below_step HBA.out hb);have HSB:=Lib.hid (And.intro hgw hby);have HSL:=Lib.hid (And.intro hsc hsl);clear hb hgs hgw hby hsc hsl)
 have HR5:=Lib.hid (HR3.out.below HB5.out);clear q0 HST HR3 HAN HAL HZA HZ4 HZ9 HBA HB4 HBW HB3 HB2 HB1;obtain ⟨i0,hi0,hz0,hz1,hz2⟩:=info_parts Txt.byte_info;have G1:=Lib.hid hi0;have G2:=Lib.hid hz0;have G3:=Lib.hid hz1;have G4:=Lib.hid hz2;clear hi0 hz0 hz1 hz2;obtain ⟨sl,hsl⟩:∃n,s.length=n:=⟨_,rfl⟩;have HSN:=Lib.hid hsl;rw [hsl] at HSL ⊢;clear hsl
 have HSR:=Lib.hid (show Rd3 W5 (some ⟨gs,0,none⟩) sl c from ⟨⟨HSL.out.1,by have:=HSL.out.2;omega⟩,fun _=>⟨gs,0,s,rfl,HSN.out,⟨nums_bytes HSB.out.2 HSB.out.1,fun ad e=>by cases e;exact ⟨by simp,HSB.out.1⟩⟩⟩⟩)
 have HNW:=Lib.hid (show 0<sl→∃bk off,(some ⟨gs,0,none⟩:Option Addr)=some ⟨bk,off,none⟩∧∀j u,(Rec.vals s)[j]?=some u→W5.cell? ⟨bk,off+j,none⟩=some u from by rw [←HSN.out];exact Rec.vals_lie (nums_bytes HSB.out.2 HSB.out.1))
 go_upto_region 13 with
  (at_builtin;refine App.wpList_append_list _ rfl _ _ 34 rfl W5.heap.size 5 i0 (.int .u8 0) 1 1 Tryz.underlying34 G1.out G2.out G3.out G4.out rfl (by decide) (.slice none 0 0) 0 [] rfl ⟨rfl,.inl ⟨rfl,rfl⟩⟩ (some ⟨gs,0,none⟩) sl c (Rec.vals s) rfl (by rw [Nat.mul_one,←HSN.out];simp [Rec.vals]) HNW.out (Rec.vals_one s) (by have:=HSL.out.2;unfold maxLen;omega) (by have:=HSL.out.2;omega) (Nat.le_refl _) ?_;intro vt wt hown hgr hni _;have HOT:=Lib.hid hown;have HBT:=Lib.hid ((Below.refl W5.heap.size W5).grown hgr (Nat.le_refl _) (fun g e=>by cases e));have HNI:=Lib.hid hni;clear hown hgr hni)
 obtain ⟨ta,tc,rfl,htc,hrow⟩:=own_made HOT.out HNI.out;have HTC:=Lib.hid htc;have HROW:=Lib.hid hrow;clear hrow htc HOT HNI G1 G2 G3 G4 HNW;go_upto_if 60 with fail
 go_cut [] from 61 to 68 (fun wx=>Hid (Rd3 wx ta sl tc∧Below W5.heap.size W5 wx))
 case first=>
  rcases Nat.eq_zero_or_pos sl with h0 | h0
  ·subst h0;go_wp2_with fail;go_meet
   case rel=>exact Lib.hid ⟨⟨⟨HTC.out,Nat.zero_le _⟩,fun h=>absurd h (Nat.lt_irrefl _)⟩,HBT.out⟩
  ·have t1:(0:Int)<(sl:Int):=by omega
   obtain ⟨gt,ys,rfl,hge,hrow,hys⟩:=HROW.out h0;obtain ⟨m,hm,hr⟩:∃m:Nat,m<sl∧Int.tmod (at_:Int) (sl:Int)=(m:Int):=⟨at_%sl,Nat.mod_lt _ h0,by rw [Int.tmod_eq_emod_of_nonneg (by omega)];omega⟩;have tm:(m:Int)<(sl:Int):=by omega
   have t0:¬(sl:Int)=0:=by omega
   have ta1:at_<65536:=HA.out;have HGE:=Lib.hid hge;have HR:=Lib.hid hrow;have HYS:=Lib.hid hys;have HM:=Lib.hid hm;have H0:=Lib.hid h0;have m1:=Ln.row_frozen hrow m
   have c1:wt.cell? ⟨gt,m,none⟩=some (.int .u8 ((s[m]'(by rw [HSN.out];exact hm)).toNat:Int)):=row_cellL hrow (by rw [←List.getElem?_take_of_lt hm,hys];simp [Rec.vals,Rec.byteV,HSN.out,hm])
   clear hge hrow hys h0;go_wp2_with fail;go_meet
   case rel=>exact Lib.hid ⟨rd_row (row_setL HR.out m (.int .u8 (x.toNat:Int))) (vals_set HYS.out m x) (by rw [List.length_set];exact HSN.out) HTC.out (by have:=HSL.out.2;omega),HBT.out.setCell (p:=⟨gt,m,none⟩) HGE.out _⟩
 case rest=>
  have HT6:=Lib.hid hcut.out.1;have HB6:=Lib.hid hcut.out.2;clear hcut HROW HTC HBT HSB
  have HN0:=Lib.hid (show∀w:World,Calls Tryz.prog 20 #[.int .u32 0,.agg #[.int .i64 b.x0,.int .i64 b.x1,.int .i64 b.x2,.int .i64 b.x3,.int .i64 b.x4,.int .i64 b.x5,.int .i64 b.x6,.int .i64 b.x7,.bool b.ch,.bool b.od]] w fun r w'=>∃g L',r=.returned (ptr g)∧w.heap.size≤g∧DQ w' ⟨w.heap.size,[]⟩ g 0 b L' (Q.new 0 b)∧Below w.heap.size w w' from fun w=>dnew_any (p:=0) (b:=b) (by decide) w)
  have HN1:=Lib.hid (fun w=>dnew_any (p:=p) (b:=b) HP.out w)
  have HZ6:=Lib.hid (HZ5.out.below HB6.out)
  have HA6:=Lib.hid (HR5.out.below HB6.out)
  have HS6:=Lib.hid (HSR.out.below HB6.out)
  have HBW6:=Lib.hid (Base.below_step HB5.out HB6.out);clear HZ5 HR5 HSR HB6 HB5;go_upto_region 15 with fail
  go_wp2_with fail
  have HLB:=Lib.hid (Rec.Bk.new wc wc.heap.size rfl 34 [.slice ra rn rc,.slice (some ⟨gs,0,none⟩) sl c,.slice ta sl tc])
  have HAL:Hid (Below wc.heap.size wc (wc.alloc (.cells #[.slice ra rn rc,.slice (some ⟨gs,0,none⟩) sl c,.slice ta sl tc] 34))):=Lib.hid ((Below.refl _ _).alloc (Nat.le_refl _) _)
  have HZL:=Lib.hid (HZ6.out.below HAL.out)
  have HBL:=Lib.hid (Base.below_step HBW6.out HAL.out);have HA7:=HA6.out.below HAL.out;have HS7:=HS6.out.below HAL.out;have HT7:=HT6.out.below HAL.out;generalize wc.alloc (.cells #[.slice ra rn rc,.slice (some ⟨gs,0,none⟩) sl c,.slice ta sl tc] 34)=WL at *;generalize wc.heap.size=gL at *;have HYS:Hid (∀j,j<3→∃(a:Option Addr) (n c:Nat),WL.cell? ⟨gL,j,none⟩=some (.slice a n c)∧Rd3 WL a n c):=Lib.hid fun j hj=>by
   rcases (by omega:j=0∨j=1∨j=2) with rfl | rfl | rfl
   ·exact ⟨_,_,_,HLB.out.c 0 _ rfl,HA7⟩
   ·exact ⟨_,_,_,HLB.out.c 1 _ rfl,HS7⟩
   ·exact ⟨_,_,_,HLB.out.c 2 _ rfl,HT7⟩
  have HLT:=Lib.hid HLB.out.lt;clear HA7 HS7 HT7 HLB HAL HZ6 HA6 HS6 HT6 HBW6
  go_loopw [74] (fun i W0=>∃j:Nat,j≤3∧i=.int .i64 j∧Hid (Below WL.heap.size WL W0)) (fun i _=>3-(intOf i).toNat)
  case atStart=>exact ⟨0,Nat.zero_le _,rfl,Lib.hid (Below.refl _ _)⟩
  case round=>
   obtain ⟨j,hj,rfl,HBJ⟩:=hrel;obtain ⟨W0,hW0⟩:∃x,x=wr:=⟨_,rfl⟩;subst hW0;rcases Nat.lt_or_ge j 3 with hjl | hjg
   rotate_left
   ·obtain rfl:j=3:=by omega
    go_wp2_with fail;go_ret;exact ⟨rfl,Base.below_step HBL.out HBJ.out⟩
   have tj:(j:Int)<3:=by omega
   obtain ⟨ay,n,cy,hcell,hry⟩:=HYS.out j hjl;have hcy:=(HBJ.out.cell (p:=⟨gL,j,none⟩) HLT.out).trans hcell
   have HRY:=Lib.hid (hry.below HBJ.out)
   have HZW:=Lib.hid (HZL.out.below HBJ.out);have HJ:=Lib.hid hjl;clear hcell hry hjl;go_upto_region 18 with fail
   clear hcy tj
   have HBO:=Lib.hid (Both.new HSF.out HP0.out HRT.out)
   go_cut [21,22] from 78 to 82 (fun u v wx=>∃g1 g2 L1 L2,u=ptr g1∧v=ptr g2∧Hid (BX W0 wx W0.heap.size g1 g2 p b (Q.new 0 b) (Q.new p b) L1 L2))
   case first=>
    have y0:=HZW.out.c 0 _ rfl;have y1:=HZW.out.c 1 _ rfl;have y2:=HZW.out.c 2 _ rfl;have y3:=HZW.out.c 3 _ rfl;have y4:=HZW.out.c 4 _ rfl;have y5:=HZW.out.c 5 _ rfl;have y6:=HZW.out.c 6 _ rfl;have y7:=HZW.out.c 7 _ rfl;have y8:=HZW.out.c 8 _ rfl;have y9:=HZW.out.c 9 _ rfl
    go_region_with (first
     |(go_at_call 20;with_reducible refine (HN0.out _).mono ?_;rintro r wx ⟨gx,Lx,rfl,hgx,hax,hbx⟩
       have HAX:=Lib.hid hax;have HBX:=Lib.hid hbx;first
        | have HZX:=Lib.hid (HZY.out.below hbx)
        | have HZX:=Lib.hid ((HZW.out.below (Base.below_drewN (Below.refl W0.heap.size W0) 1)).below hbx)
       have x0:=HZX.out.c 0 _ rfl;have x1:=HZX.out.c 1 _ rfl;have x2:=HZX.out.c 2 _ rfl;have x3:=HZX.out.c 3 _ rfl;have x4:=HZX.out.c 4 _ rfl;have x5:=HZX.out.c 5 _ rfl;have x6:=HZX.out.c 6 _ rfl;have x7:=HZX.out.c 7 _ rfl;have x8:=HZX.out.c 8 _ rfl;have x9:=HZX.out.c 9 _ rfl;clear hax hbx hgx)
     |(go_at_call 20;with_reducible refine (HN1.out _).mono ?_;rintro r wy ⟨gy,Ly,rfl,hgy,hay,hby⟩
       have HAY:=Lib.hid hay;have HBY:=Lib.hid hby;first
        | have HZY:=Lib.hid (HZX.out.below hby)
        | have HZY:=Lib.hid ((HZW.out.below (Base.below_drewN (Below.refl W0.heap.size W0) 1)).below hby)
       have v0:=HZY.out.c 0 _ rfl;have v1:=HZY.out.c 1 _ rfl;have v2:=HZY.out.c 2 _ rfl;have v3:=HZY.out.c 3 _ rfl;have v4:=HZY.out.c 4 _ rfl;have v5:=HZY.out.c 5 _ rfl;have v6:=HZY.out.c 6 _ rfl;have v7:=HZY.out.c 7 _ rfl;have v8:=HZY.out.c 8 _ rfl;have v9:=HZY.out.c 9 _ rfl;clear hay hby hgy))
    all_goals
     first
      | have HPR:=Lib.hid (Pair.first (w0:=W0) (Nat.le_refl W0.heap.size) HAX.out HAY.out ((Base.below_drewN (Below.refl W0.heap.size W0) 1).trans HBX.out) HBY.out)
      | have HPR:=Lib.hid (Pair.second (w0:=W0) (Nat.le_refl W0.heap.size) HAY.out HAX.out ((Base.below_drewN (Below.refl W0.heap.size W0) 1).trans HBY.out) HBX.out)
     clear y0 y1 y2 y3 y4 y5 y6 y7 y8 y9 x0 x1 x2 x3 x4 x5 x6 x7 x8 x9 v0 v1 v2 v3 v4 v5 v6 v7 v8 v9;go_wp2_with fail;go_meet
     case rel=>exact ⟨gx,gy,Lx,Ly,rfl,rfl,Lib.hid ⟨HPR.out.x,HPR.out.y,HPR.out.dis,HBO.out,qnew_out,qnew_out,HPR.out.bel⟩⟩
   case rest=>
    obtain ⟨g1,g2,LL1,LL2,rfl,rfl,HBX0⟩:=hcut;clear HN0 HN1 HZW HBO;go_wp2_with fail
    go_loopw [23] (fun i wr=>∃(k:Nat) (X0 Y0:Q) (L1 L2:List (Option Nat)),k≤n∧i=.int .i64 k∧Hid (BX W0 wr W0.heap.size g1 g2 p b X0 Y0 L1 L2)) (fun i _=>n-(intOf i).toNat)
    case atStart=>exact ⟨0,_,_,LL1,LL2,Nat.zero_le _,rfl,HBX0⟩
    case round=>
    obtain ⟨k,X0,Y0,L1,L2,hk,rfl,HBX⟩:=hrel;clear HBX0;rcases Nat.lt_or_ge k n with hlt | hge
    rotate_left
    ·obtain rfl:k=n:=by omega
     have t1:¬(k:Int)<(k:Int):=by omega
     go_wp2_with fail;go_roundw
     case rel=>exact ⟨j+1,HJ.out,by go_num,Lib.hid (Base.below_step HBJ.out HBX.out.bel)⟩
     case measure=>have:=HJ.out;simp [intOf];omega
    have t1:(k:Int)<(n:Int):=by omega
    obtain ⟨yb,yo,l,rfl,hl,hbts⟩:=HRY.out.rd (by omega);have hkl:k<l.length:=by omega
    obtain ⟨ch,hch⟩:∃ch,l[k]=ch:=⟨_,rfl⟩;obtain ⟨hx0,hy0,hd0,hbo0,hxo0,hyo0,hbl0⟩:=HBX.out
    have HK9:=Lib.hid (show k<n∧n≤cy∧n≤3000 from ⟨hlt,HRY.out.le.1,HRY.out.le.2⟩);obtain ⟨X',hX⟩:∃X',X0.byte 0 b ch=X':=⟨_,rfl⟩;obtain ⟨Y',hY⟩:∃Y',Y0.byte p b ch=Y':=⟨_,rfl⟩;obtain ⟨B,hB⟩:∃B,W0.heap.size=B:=⟨_,rfl⟩;rw [hB] at hx0 hy0 hbl0;have hlo1:∀k,some k∈L1→B≤k:=by obtain ⟨_,h⟩:=hx0;exact h.low
    have hlo2:∀k,some k∈L2→B≤k:=by obtain ⟨_,h⟩:=hy0;exact h.low
    have hin1:In wr L1:=by obtain ⟨_,h⟩:=hx0;exact h.in
    have hin2:In wr L2:=by obtain ⟨_,h⟩:=hy0;exact h.in
    have hyB:yb<B:=hB ▸ (hbts.far _ rfl).2;have hgn:some yb∉L1++L2:=fun hm=>by have:B≤yb:=(List.mem_append.1 hm).elim (hlo1 yb) (hlo2 yb);omega
    have hdw:Below wr.heap.size wr (wr.drewN 1):=Base.below_drewN (Below.refl wr.heap.size wr) 1;have hbw:Below W0.heap.size W0 wr:=hB ▸ hbl0;have HX:=Lib.hid hX;have HY:=Lib.hid hY;have HXO:=Lib.hid hxo0;have HYO:=Lib.hid hyo0
    have HTA:=Lib.hid (show Thing (DHas B g1 0 b X0) (DHas B g1 0 b X'.told) from obj_dq (B:=⟨B,[]⟩))
    have HTC:=Lib.hid (show Thing (DHas B g2 p b Y0) (DHas B g2 p b Y'.told) from obj_dq (B:=⟨B,[]⟩))
    have HA0:=Lib.hid (show DHas B g1 0 b X0 wr L1 from hx0);have HC0:=Lib.hid (show DHas B g2 p b Y0 wr L2 from hy0);have HD:=Lib.hid hd0;have HBLO:=Lib.hid hbl0
    have HIN:=Lib.hid (show∀k,some k∈L1++L2→k<(wr.drewN 1).heap.size from fun k hk=>(List.mem_append.1 hk).elim (hin1 k) (hin2 k))
    have HBT:=Lib.hid (show Bts (L1++L2) (wr.drewN 1) (some ⟨yb,yo+k,none⟩) [ch] from hch ▸ bts_at (hbts.step (Step.of_below (Base.below_step hbw hdw))) k hkl hgn);have HLO:=Lib.hid (And.intro hlo1 hlo2);have HB:=Lib.hid hB
    have HFX:=Lib.hid (show Fits X'.out from hX ▸ byte_fits (by rw [hxo0];intro r hr;cases hr) (by obtain ⟨_,_,_,h1,_⟩:=hx0;exact h1) ch)
    have HLX:=Lib.hid (show X'.out.length≤2 from hX ▸ (by have:=Q.byte_out (p:=0) (b:=b) X0 ch;rw [hxo0] at this;simpa using this))
    have HBO:=Lib.hid (show Both b X' Y' from by rw [←hX,←hY];exact Both.byte HSF.out hbo0 ch);clear hx0 hy0 hd0 hbo0 hxo0 hyo0 hbl0 hX hY hlo1 hlo2 hin1 hin2 hgn hdw hbw hch hkl hB hl hbts hyB HBX HRY;go_upto_region 22 with fail
    refine Each.region_two 18 [89,90,91,92,93,94,95,96,97,98,99,100,101,102,103,104,24,25]
     [fun v _=>v=.pointer (some ⟨g1,0,none⟩),
       fun v _=>v=.slice (some ⟨yb,yo,none⟩) n cy,
       fun v _=>v=.int .i64 (k:Int),
       fun v _=>v=.int .i64 (k:Int),
       fun v _=>v=.int .i64 ((k:Int)+1),
       fun v _=>v=.slice (some ⟨yb,yo+k,none⟩) 1 (cy-k),
       OneA (L1++L2) (some ⟨yb,yo+k,none⟩) (cy-k),
       ToldBy (DHas B g1 0 b X'.told) (DHas B g2 p b Y0) (DHas B g2 p b Y'.told) L2 [] B X'.out,
       fun v _=>v=.pointer (some ⟨g2,0,none⟩),
       fun v _=>v=.slice (some ⟨yb,yo,none⟩) n cy,
       fun v _=>v=.int .i64 (k:Int),
       fun v _=>v=.int .i64 (k:Int),
       fun v _=>v=.int .i64 ((k:Int)+1),
       fun v _=>v=.slice (some ⟨yb,yo+k,none⟩) 1 (cy-k),
       OneA (L1++L2) (some ⟨yb,yo+k,none⟩) (cy-k),
       ToldBy (DHas B g2 p b Y'.told) (DHas B g1 0 b X0) (DHas B g1 0 b X'.told) L1 [] B Y'.out,
       ToldBy (DHas B g1 0 b X'.told) (DHas B g2 p b Y0) (DHas B g2 p b Y'.told) L2 [] B X'.out,
       ToldBy (DHas B g2 p b Y'.told) (DHas B g1 0 b X0) (DHas B g1 0 b X'.told) L1 [] B Y'.out]
     7 15 HTA.out HTC.out HA0.out HC0.out HD.out (by kernel_rfl) (by kernel_rfl) (by kernel_rfl) (by kernel_rfl) (fun _ _ d _ _ h=>by cases d<;>exact h) (by rfl) (by rfl) (by rfl)
     ⟨(Each.LastsTwo.pure _ _),(Each.LastsTwo.pure _ _),(Each.LastsTwo.pure _ _),(Each.LastsTwo.pure _ _),(Each.LastsTwo.pure _ _),(Each.LastsTwo.pure _ _),OneA.lasts,ToldBy.first HTA.out HTC.out (.inl rfl),(Each.LastsTwo.pure _ _),(Each.LastsTwo.pure _ _),(Each.LastsTwo.pure _ _),(Each.LastsTwo.pure _ _),(Each.LastsTwo.pure _ _),(Each.LastsTwo.pure _ _),OneA.lasts,ToldBy.second HTA.out HTC.out (.inl rfl),ToldBy.first HTA.out HTC.out (.inr (by rfl)),ToldBy.second HTA.out HTC.out (.inr (by rfl)),trivial⟩ ?_ ?_
    ·refine ⟨?_,?_,?_,?_,?_,?_,?_,?_,?_,?_,?_,?_,?_,?_,?_,?_,?_,?_,trivial⟩
     ·refine Each.fine_two (by decide) (by decide) rfl (fun ev w1 hR hb hh=>?_);clear hh;have e21:=hR.old 21 rfl;simp only [Array.getD_eq_getD_getElem?,List.getElem?_toArray,List.getElem?_cons_succ,List.getElem?_cons_zero,Option.getD_some] at e21;refine Each.Goes.same ?_;go_simp;try with_reducible rfl
     ·refine Each.fine_two (by decide) (by decide) rfl (fun ev w1 hR hb hh=>?_);clear hh;have e20:=hR.old 20 rfl;simp only [Array.getD_eq_getD_getElem?,List.getElem?_toArray,List.getElem?_cons_succ,List.getElem?_cons_zero,Option.getD_some] at e20;refine Each.Goes.same ?_;go_simp;try with_reducible rfl
     ·refine Each.fine_two (by decide) (by decide) rfl (fun ev w1 hR hb hh=>?_);clear hh;have e23:=hR.old 23 rfl;simp only [Array.getD_eq_getD_getElem?,List.getElem?_toArray,List.getElem?_cons_succ,List.getElem?_cons_zero,Option.getD_some] at e23;refine Each.Goes.same ?_;go_simp;try with_reducible rfl
     ·refine Each.fine_two (by decide) (by decide) rfl (fun ev w1 hR hb hh=>?_);clear hh;have e23:=hR.old 23 rfl;simp only [Array.getD_eq_getD_getElem?,List.getElem?_toArray,List.getElem?_cons_succ,List.getElem?_cons_zero,Option.getD_some] at e23;refine Each.Goes.same ?_;go_simp;try with_reducible rfl
     ·refine Each.fine_two (by decide) (by decide) rfl (fun ev w1 hR hb hh=>?_);have e92:(ev (.tmp 92)=.int .i64 (k:Int)):=hh.at 0;clear hh;have ec:=hR.const;refine Each.Goes.same ?_;go_simp;try with_reducible rfl
      all_goals (try exact wrap_in _ (by have:=HK9.out;omega) (by have:=HK9.out;omega))
     ·refine Each.fine_two (by decide) (by decide) rfl (fun ev w1 hR hb hh=>?_);have e90:(ev (.tmp 90)=.slice (some ⟨yb,yo,none⟩) n cy):=hh.at 0;have e91:(ev (.tmp 91)=.int .i64 (k:Int)):=hh.at 1;have e93:(ev (.tmp 93)=.int .i64 ((k:Int)+1)):=hh.at 2;clear hh;have h01:(0:Int)≤(k:Int)+1:=by omega
      have hck:¬cy=k:=by have:=HK9.out;omega
      have hcy:(k:Int)+1≤(cy:Int):=by have:=HK9.out;omega
      refine Each.Goes.same ?_;go_simp;try with_reducible rfl
     ·refine Each.fine_two (by decide) (by decide) rfl (fun ev w1 hR hb hh=>?_);have e94:(ev (.tmp 94)=.slice (some ⟨yb,yo+k,none⟩) 1 (cy-k)):=hh.at 0;clear hh
      exact Each.Goes.value (.slice (some ⟨w1.heap.size,0,none⟩) 1 1) (w1.alloc (.cells #[.slice (some ⟨yb,yo+k,none⟩) 1 (cy-k)] 34)) (by go_simp) ((Below.refl _ _).alloc (Nat.le_refl _) _) (OneA.made HIN.out hb _ _ _)
     ·refine Each.fine_first rfl (fun ev w1 M2 hR hb hA hC hd hh=>?_);have e89:(ev (.tmp 89)=.pointer (some ⟨g1,0,none⟩)):=hh.at 0;have e95:((OneA (L1++L2) (some ⟨yb,yo+k,none⟩) (cy-k)) (ev (.tmp 95)) w1):=hh.at 1;clear hh;have ef:=hR.func;obtain ⟨k9,e95,hkl,hkn,hkc⟩:=e95;obtain ⟨Z1,hA⟩:=hA;have hsz:=hb.size;have hi2:In w1 L2:=fun k hk=>Nat.lt_of_lt_of_le (HIN.out k (List.mem_append_right _ hk)) hsz
      have hcl:Clear w1 (L2++(M2 ++ [])) L1:=clear_app (clear_dis hi2 HD.out) (clear_app (clear_dis (HTC.out.in hC) hd) Clear.nil);have hbt:Bts L1 w1 (some ⟨yb,yo+k,none⟩) [ch]:=bts_sub (bts_keeps HBT.out hb) fun k hk=>List.mem_append_left _ hk
      refine Each.GoesR.enter 21 #[ptr g1,.slice (some ⟨k9,0,none⟩) 1 1] (by go_simp) ((dfeed_by (p:=0) (by decide) hA HXO.out k9 hkc hkl (fun hm=>hkn (List.mem_append_left _ hm)) hbt _ hcl).mono ?_);rintro r w2 ⟨v,N1,rfl,h1,h2,h3⟩;rw [HX.out] at h1 h2;exact ⟨v,rfl,⟨N1,⟨_,h1⟩,h3⟩,N1,M2,⟨_,h1⟩,HTC.out.now hC h3.keeps hd.symm,(HD.out.symm.of hi2 h3.of).symm,h2⟩
     ·refine Each.fine_two (by decide) (by decide) rfl (fun ev w1 hR hb hh=>?_);clear hh;have e22:=hR.old 22 rfl;simp only [Array.getD_eq_getD_getElem?,List.getElem?_toArray,List.getElem?_cons_succ,List.getElem?_cons_zero,Option.getD_some] at e22;refine Each.Goes.same ?_;go_simp;try with_reducible rfl
     ·refine Each.fine_two (by decide) (by decide) rfl (fun ev w1 hR hb hh=>?_);clear hh;have e20:=hR.old 20 rfl;simp only [Array.getD_eq_getD_getElem?,List.getElem?_toArray,List.getElem?_cons_succ,List.getElem?_cons_zero,Option.getD_some] at e20;refine Each.Goes.same ?_;go_simp;try with_reducible rfl
     ·refine Each.fine_two (by decide) (by decide) rfl (fun ev w1 hR hb hh=>?_);clear hh;have e23:=hR.old 23 rfl;simp only [Array.getD_eq_getD_getElem?,List.getElem?_toArray,List.getElem?_cons_succ,List.getElem?_cons_zero,Option.getD_some] at e23;refine Each.Goes.same ?_;go_simp;try with_reducible rfl
     ·refine Each.fine_two (by decide) (by decide) rfl (fun ev w1 hR hb hh=>?_);clear hh;have e23:=hR.old 23 rfl;simp only [Array.getD_eq_getD_getElem?,List.getElem?_toArray,List.getElem?_cons_succ,List.getElem?_cons_zero,Option.getD_some] at e23;refine Each.Goes.same ?_;go_simp;try with_reducible rfl
     ·refine Each.fine_two (by decide) (by decide) rfl (fun ev w1 hR hb hh=>?_);have e100:(ev (.tmp 100)=.int .i64 (k:Int)):=hh.at 0;clear hh;have ec:=hR.const;refine Each.Goes.same ?_;go_simp;try with_reducible rfl
      all_goals (try exact wrap_in _ (by have:=HK9.out;omega) (by have:=HK9.out;omega))
     ·refine Each.fine_two (by decide) (by decide) rfl (fun ev w1 hR hb hh=>?_);have e98:(ev (.tmp 98)=.slice (some ⟨yb,yo,none⟩) n cy):=hh.at 0;have e99:(ev (.tmp 99)=.int .i64 (k:Int)):=hh.at 1;have e101:(ev (.tmp 101)=.int .i64 ((k:Int)+1)):=hh.at 2;clear hh;have h01:(0:Int)≤(k:Int)+1:=by omega
      have hck:¬cy=k:=by have:=HK9.out;omega
      have hcy:(k:Int)+1≤(cy:Int):=by have:=HK9.out;omega
      refine Each.Goes.same ?_;go_simp;try with_reducible rfl
     ·refine Each.fine_two (by decide) (by decide) rfl (fun ev w1 hR hb hh=>?_);have e102:(ev (.tmp 102)=.slice (some ⟨yb,yo+k,none⟩) 1 (cy-k)):=hh.at 0;clear hh
      exact Each.Goes.value (.slice (some ⟨w1.heap.size,0,none⟩) 1 1) (w1.alloc (.cells #[.slice (some ⟨yb,yo+k,none⟩) 1 (cy-k)] 34)) (by go_simp) ((Below.refl _ _).alloc (Nat.le_refl _) _) (OneA.made HIN.out hb _ _ _)
     ·refine Each.fine_second (by decide) rfl (fun ev w1 M1 hR hb hC hA hd hh=>?_);have e97:(ev (.tmp 97)=.pointer (some ⟨g2,0,none⟩)):=hh.at 0;have e103:((OneA (L1++L2) (some ⟨yb,yo+k,none⟩) (cy-k)) (ev (.tmp 103)) w1):=hh.at 1;clear hh;have ef:=hR.func;obtain ⟨k9,e103,hkl,hkn,hkc⟩:=e103;obtain ⟨Z1,hC⟩:=hC;have hsz:=hb.size;have hi2:In w1 L1:=fun k hk=>Nat.lt_of_lt_of_le (HIN.out k (List.mem_append_left _ hk)) hsz
      have hcl:Clear w1 (L1++(M1 ++ [])) L2:=clear_app (clear_dis hi2 HD.out.symm) (clear_app (clear_dis (HTA.out.in hA) hd) Clear.nil);have hbt:Bts L2 w1 (some ⟨yb,yo+k,none⟩) [ch]:=bts_sub (bts_keeps HBT.out hb) fun k hk=>List.mem_append_right _ hk
      refine Each.GoesR.enter 21 #[ptr g2,.slice (some ⟨k9,0,none⟩) 1 1] (by go_simp) ((dfeed_by HP.out hC HYO.out k9 hkc hkl (fun hm=>hkn (List.mem_append_right _ hm)) hbt _ hcl).mono ?_);rintro r w2 ⟨v,N1,rfl,h1,h2,h3⟩;rw [HY.out] at h1 h2;exact ⟨v,rfl,⟨N1,⟨_,h1⟩,h3⟩,N1,M1,⟨_,h1⟩,HTA.out.now hA h3.keeps hd.symm,(HD.out.of hi2 h3.of).symm,h2⟩
     ·refine Each.fine_two (by decide) (by decide) rfl (fun ev w1 hR hb hh=>?_);have e96:((ToldBy (DHas B g1 0 b X'.told) (DHas B g2 p b Y0) (DHas B g2 p b Y'.told) L2 [] B X'.out) (ev (.tmp 96)) w1):=hh.at 0;clear hh;exact Each.Goes.value (ev (.tmp 96)) w1 (by go_simp) (Below.refl _ _) e96
     ·refine Each.fine_two (by decide) (by decide) rfl (fun ev w1 hR hb hh=>?_);have e104:((ToldBy (DHas B g2 p b Y'.told) (DHas B g1 0 b X0) (DHas B g1 0 b X'.told) L1 [] B Y'.out) (ev (.tmp 104)) w1):=hh.at 0;clear hh;exact Each.Goes.value (ev (.tmp 104)) w1 (by go_simp) (Below.refl _ _) e104
    intro ga w2 M1 M2 hA hC hd hof1 hof2 hb hf;have z24:(ToldBy (DHas B g1 0 b X'.told) (DHas B g2 p b Y0) (DHas B g2 p b Y'.told) L2 [] B X'.out) (ga 24) w2:=hf.at 16;have z25:(ToldBy (DHas B g2 p b Y'.told) (DHas B g1 0 b X0) (DHas B g1 0 b X'.told) L1 [] B Y'.out) (ga 25) w2:=hf.at 17;clear hf;obtain ⟨N1,K2,hA5,hC5,hd5,ht5⟩:=z24;obtain ⟨N2,K1,hA6,hC6,hd6,ht6⟩:=z25;have u1:N1=M1:=HTA.out.uniq (.inr hA5) hA;have u2:N2=M2:=HTC.out.uniq (.inr hA6) hC;subst u1 u2;obtain ⟨a5,c5,e5,hr5⟩:=told_recs ht5;obtain ⟨a6,c6,e6,hr6⟩:=told_recs ht6
    have hbl2:Below B wr w2:=hb.below (HB.out ▸ HBLO.out.size) fun k hk=>(List.mem_append.1 hk).elim (HLO.out.1 k) (HLO.out.2 k)
    have HBL2:=Lib.hid (show Below B W0 w2 from HBLO.out.trans hbl2);have eo:Y'.out=X'.out:=HBO.out.out.symm;rw [eo] at e6 hr6;obtain ⟨m2,hm2⟩:∃m,X'.out.length=m:=⟨_,rfl⟩;rw [hm2] at e5 e6 hr5 hr6;obtain ⟨Zx,hax⟩:=hA5;obtain ⟨Zy,hay⟩:=hA6;have hdw:Below w2.heap.size w2 (w2.drewN 1):=Base.below_drewN (Below.refl w2.heap.size w2) 1;have HAX:=Lib.hid (hax.below hdw);have HAY:=Lib.hid (hay.below hdw);have HAX2:=Lib.hid hax;have HAY2:=Lib.hid hay
    have HALL:=Lib.hid (fun (w1:World) (hb:Below (w2.drewN 1).heap.size (w2.drewN 1) w1)=>show Calls Tryz.prog 22 #[.slice a5 m2 c5,.slice a6 m2 c6] w1 fun e w'=>e=.returned (.bool true)∧Below w1.heap.size w1 w' from by have h9:Below w2.heap.size w2 w1:=Base.below_step hdw hb;have:=Rec.rall_any a5 m2 c5 X'.out a6 m2 c6 X'.out w1 (hr5.below h9) (hr6.below h9) (by have:=HLX.out;omega) (by have:=HLX.out;omega) HFX.out HFX.out;rw [all_self] at this;exact this)
    obtain ⟨cl,hcl⟩:∃cl,X'.told.clean=cl:=⟨_,rfl⟩;have hcl2:Y'.told.clean=cl:=by rw [←hcl];exact (Both.clean (Both.told HBO.out)).symm
    have HC1:=Lib.hid (fun (w1:World) (hb:Below (w2.drewN 1).heap.size (w2.drewN 1) w1)=>show Calls Tryz.prog 23 #[ptr g1] w1 fun r w'=>r=.returned (.bool cl)∧w'=w1 from by rw [←hcl];exact dclean_any (HAX.out.below hb))
    have HC2:=Lib.hid (fun (w1:World) (hb:Below (w2.drewN 1).heap.size (w2.drewN 1) w1)=>show Calls Tryz.prog 23 #[ptr g2] w1 fun r w'=>r=.returned (.bool cl)∧w'=w1 from by rw [←hcl2];exact dclean_any (HAY.out.below hb))
    obtain ⟨x1,hx1⟩:∃x1:Int,(X'.err:Int)=x1:=⟨_,rfl⟩;obtain ⟨x2,hx2⟩:∃x2:Int,(Y'.err:Int)=x2:=⟨_,rfl⟩;obtain ⟨E0,hE0⟩:∃E0,(x1==0)=E0:=⟨_,rfl⟩;have hE2:(x2==0)=E0:=by rw [←hE0,←hx1,←hx2,Bool.eq_iff_iff,beq_iff_eq,beq_iff_eq];have:=HBO.out.err;omega
    have HE1:=Lib.hid hx1;have HE2:=Lib.hid hx2;have HQ1:=Lib.hid hE0;have HQ2:=Lib.hid hE2;have HD2:=Lib.hid hd;have hlt9:k+1≤n:=hlt;clear hA hC hd hof1 hof2 hb hC5 hd5 hC6 hd6 ht5 ht6 hr5 hr6 hbl2 hax hay hdw eo hm2 hcl hcl2 hx1 hx2 hE0 hE2 HTA HTC HA0 HC0 HD HIN HBT HLO;simp only [Each.putg,Act.put,List.setIfInBounds_toArray,List.set_cons_zero,List.set_cons_succ];rw [e5,e6];clear e5 e6;go_upto_region 23 with fail
    refine Each.region_all 24 [105,106,107,108,109,110,111,112,113,114,115,116,117,118,119,120,121,122,123,124,125,126,127,128]
     [fun v _=>v=.slice a5 m2 c5,
       fun v _=>v=.slice a6 m2 c6,
       fun v _=>v=.bool true,
       fun v _=>v=.bool false,
       fun v _=>v=.bool false,
       Each.When (false) false (fun v _=>v=.pointer (some ⟨g1,0,none⟩)),
       Each.When (false) false (fun v _=>v=.pointer (some ⟨g1,0,none⟩)),
       Each.When (false) false (fun v _=>v=.pointer (some ⟨g1,25,none⟩)),
       Each.When (false) false (fun v _=>v=.int .i64 x1),
       Each.When (false) false (fun v _=>v=.bool E0),
       Each.When (false) false (fun v _=>v=.pointer (some ⟨g2,0,none⟩)),
       Each.When (false) false (fun v _=>v=.pointer (some ⟨g2,0,none⟩)),
       Each.When (false) false (fun v _=>v=.pointer (some ⟨g2,25,none⟩)),
       Each.When (false) false (fun v _=>v=.int .i64 x2),
       Each.When (false) false (fun v _=>v=.bool E0),
       Each.When (false) false (fun v _=>v=.bool false),
       fun v _=>v=.bool ((false&&true)),
       fun v _=>v=.bool ((false&&true)),
       Each.When ((false&&true)) false (fun v _=>v=.pointer (some ⟨g1,0,none⟩)),
       Each.When ((false&&true)) false (fun v _=>v=.bool cl),
       Each.When ((false&&true)) false (fun v _=>v=.pointer (some ⟨g2,0,none⟩)),
       Each.When ((false&&true)) false (fun v _=>v=.bool cl),
       Each.When ((false&&true)) false (fun v _=>v=.bool false),
       fun v _=>v=.bool (((false&&true)&&true))]
      (by kernel_rfl) (by kernel_rfl) (by kernel_rfl) (by kernel_rfl) (fun _ _ d _ _ h=>by cases d<;>exact h) (by rfl) (by rfl)
     ⟨Each.Lasts.eq _,Each.Lasts.eq _,Each.Lasts.eq _,Each.Lasts.eq _,Each.Lasts.eq _,Each.Lasts.when (Each.Lasts.eq _),Each.Lasts.when (Each.Lasts.eq _),Each.Lasts.when (Each.Lasts.eq _),Each.Lasts.when (Each.Lasts.eq _),Each.Lasts.when (Each.Lasts.eq _),Each.Lasts.when (Each.Lasts.eq _),Each.Lasts.when (Each.Lasts.eq _),Each.Lasts.when (Each.Lasts.eq _),Each.Lasts.when (Each.Lasts.eq _),Each.Lasts.when (Each.Lasts.eq _),Each.Lasts.when (Each.Lasts.eq _),Each.Lasts.eq _,Each.Lasts.eq _,Each.Lasts.when (Each.Lasts.eq _),Each.Lasts.when (Each.Lasts.eq _),Each.Lasts.when (Each.Lasts.eq _),Each.Lasts.when (Each.Lasts.eq _),Each.Lasts.when (Each.Lasts.eq _),Each.Lasts.eq _,trivial⟩ ?_ ?_
    ·refine ⟨?_,?_,?_,?_,?_,?_,?_,?_,?_,?_,?_,?_,?_,?_,?_,?_,?_,?_,?_,?_,?_,?_,?_,?_,trivial⟩
     ·refine Each.fine rfl (fun ev w1 hR hb hh=>?_);clear hh;have e24:=hR.old 24 rfl;simp only [Array.getD_eq_getD_getElem?,List.getElem?_toArray,List.getElem?_cons_succ,List.getElem?_cons_zero,Option.getD_some] at e24;refine Each.Goes.same ?_;go_simp;try with_reducible rfl
     ·refine Each.fine rfl (fun ev w1 hR hb hh=>?_);clear hh;have e25:=hR.old 25 rfl;simp only [Array.getD_eq_getD_getElem?,List.getElem?_toArray,List.getElem?_cons_succ,List.getElem?_cons_zero,Option.getD_some] at e25;refine Each.Goes.same ?_;go_simp;try with_reducible rfl
     ·refine Each.fine rfl (fun ev w1 hR hb hh=>?_);have e105:(ev (.tmp 105)=.slice a5 m2 c5):=hh.at 0;have e106:(ev (.tmp 106)=.slice a6 m2 c6):=hh.at 1;clear hh;have ef:=hR.func
      refine Each.Goes.enter 22 #[.slice a5 m2 c5,.slice a6 m2 c6] (by go_simp) ((HALL.out w1 hb).mono ?_);rintro r w3 ⟨rfl,hb3⟩;exact ⟨_,rfl,hb3,rfl⟩
     ·refine Each.fine rfl (fun ev w1 hR hb hh=>?_);have e107:(ev (.tmp 107)=.bool true):=hh.at 0;clear hh;refine Each.Goes.same ?_;go_simp;try with_reducible rfl
     ·refine Each.fine rfl (fun ev w1 hR hb hh=>?_);have e108:(ev (.tmp 108)=.bool false):=hh.at 0;clear hh;refine Each.Goes.same ?_;go_simp;try with_reducible rfl
     ·refine Each.fine_when 4 109 rfl rfl (fun ev w1 hh=>?_) (fun hg ev w1 hR hb hh=>?_)
      ·exact hh.at 0
      ·clear hh;have e21:=hR.old 21 rfl;simp only [Array.getD_eq_getD_getElem?,List.getElem?_toArray,List.getElem?_cons_succ,List.getElem?_cons_zero,Option.getD_some] at e21;refine Each.Goes.same ?_;go_simp;try with_reducible rfl
     ·refine Each.fine_when 4 109 rfl rfl (fun ev w1 hh=>?_) (fun hg ev w1 hR hb hh=>?_)
      ·exact hh.at 1
      ·have e110:=(show ((false)=false→ev (.tmp 110)=.pointer (some ⟨g1,0,none⟩)) from hh.at 0) hg;clear hh;refine Each.Goes.same ?_;go_simp;try with_reducible rfl
     ·refine Each.fine_when 4 109 rfl rfl (fun ev w1 hh=>?_) (fun hg ev w1 hR hb hh=>?_)
      ·exact hh.at 1
      ·have e111:=(show ((false)=false→ev (.tmp 111)=.pointer (some ⟨g1,0,none⟩)) from hh.at 0) hg;clear hh;refine Each.Goes.same ?_;go_simp;try with_reducible rfl
     ·refine Each.fine_when 4 109 rfl rfl (fun ev w1 hh=>?_) (fun hg ev w1 hR hb hh=>?_)
      ·exact hh.at 1
      ·have e112:=(show ((false)=false→ev (.tmp 112)=.pointer (some ⟨g1,25,none⟩)) from hh.at 0) hg;clear hh;have q:=(HAX.out.below hb).e;rw [DF.told_err] at q;rw [HE1.out] at q;refine Each.Goes.same ?_;go_simp;try with_reducible rfl
     ·refine Each.fine_when 4 109 rfl rfl (fun ev w1 hh=>?_) (fun hg ev w1 hR hb hh=>?_)
      ·exact hh.at 1
      ·have e113:=(show ((false)=false→ev (.tmp 113)=.int .i64 x1) from hh.at 0) hg;clear hh;have ec:=hR.const;refine Each.Goes.same ?_;go_simp
       first | done | exact HQ1.out |(rw [HQ1.out])
     ·refine Each.fine_when 4 109 rfl rfl (fun ev w1 hh=>?_) (fun hg ev w1 hR hb hh=>?_)
      ·exact hh.at 0
      ·clear hh;have e22:=hR.old 22 rfl;simp only [Array.getD_eq_getD_getElem?,List.getElem?_toArray,List.getElem?_cons_succ,List.getElem?_cons_zero,Option.getD_some] at e22;refine Each.Goes.same ?_;go_simp;try with_reducible rfl
     ·refine Each.fine_when 4 109 rfl rfl (fun ev w1 hh=>?_) (fun hg ev w1 hR hb hh=>?_)
      ·exact hh.at 1
      ·have e115:=(show ((false)=false→ev (.tmp 115)=.pointer (some ⟨g2,0,none⟩)) from hh.at 0) hg;clear hh;refine Each.Goes.same ?_;go_simp;try with_reducible rfl
     ·refine Each.fine_when 4 109 rfl rfl (fun ev w1 hh=>?_) (fun hg ev w1 hR hb hh=>?_)
      ·exact hh.at 1
      ·have e116:=(show ((false)=false→ev (.tmp 116)=.pointer (some ⟨g2,0,none⟩)) from hh.at 0) hg;clear hh;refine Each.Goes.same ?_;go_simp;try with_reducible rfl
     ·refine Each.fine_when 4 109 rfl rfl (fun ev w1 hh=>?_) (fun hg ev w1 hR hb hh=>?_)
      ·exact hh.at 1
      ·have e117:=(show ((false)=false→ev (.tmp 117)=.pointer (some ⟨g2,25,none⟩)) from hh.at 0) hg;clear hh;have q:=(HAY.out.below hb).e;rw [DF.told_err] at q;rw [HE2.out] at q;refine Each.Goes.same ?_;go_simp;try with_reducible rfl
     ·refine Each.fine_when 4 109 rfl rfl (fun ev w1 hh=>?_) (fun hg ev w1 hR hb hh=>?_)
      ·exact hh.at 1
      ·have e118:=(show ((false)=false→ev (.tmp 118)=.int .i64 x2) from hh.at 0) hg;clear hh;have ec:=hR.const;refine Each.Goes.same ?_;go_simp
       first | done | exact HQ2.out |(rw [HQ2.out])
     ·refine Each.fine_when 4 109 rfl rfl (fun ev w1 hh=>?_) (fun hg ev w1 hR hb hh=>?_)
      ·exact hh.at 2
      ·have e114:=(show ((false)=false→ev (.tmp 114)=.bool E0) from hh.at 0) hg;have e119:=(show ((false)=false→ev (.tmp 119)=.bool E0) from hh.at 1) hg;clear hh;refine Each.Goes.same ?_;go_simp
       first | done | exact bne_self_eq_false E0 |(simp)
     ·refine Each.fine rfl (fun ev w1 hR hb hh=>?_);have e109:(ev (.tmp 109)=.bool false):=hh.at 0;have h120:((false)=false→ev (.tmp 120)=.bool false):=hh.at 1;clear hh;have ec:=hR.const;refine Each.Goes.same ?_;have e120:=h120 rfl;go_simp;try with_reducible rfl
     ·refine Each.fine rfl (fun ev w1 hR hb hh=>?_);have e121:(ev (.tmp 121)=.bool ((false&&true))):=hh.at 0;clear hh;refine Each.Goes.same ?_;go_simp;try with_reducible rfl
     ·refine Each.fine_when 17 122 rfl rfl (fun ev w1 hh=>?_) (fun hg ev w1 hR hb hh=>?_)
      ·exact hh.at 0
      ·clear hh;have e21:=hR.old 21 rfl;simp only [Array.getD_eq_getD_getElem?,List.getElem?_toArray,List.getElem?_cons_succ,List.getElem?_cons_zero,Option.getD_some] at e21;refine Each.Goes.same ?_;go_simp;try with_reducible rfl
     ·refine Each.fine_when 17 122 rfl rfl (fun ev w1 hh=>?_) (fun hg ev w1 hR hb hh=>?_)
      ·exact hh.at 1
      ·have e123:=(show (((false&&true))=false→ev (.tmp 123)=.pointer (some ⟨g1,0,none⟩)) from hh.at 0) hg;clear hh;have ef:=hR.func
       refine Each.Goes.enter 23 #[ptr g1] (by go_simp) ((HC1.out w1 hb).mono ?_);rintro r w3 ⟨rfl,hb3⟩;rw [hb3];exact ⟨_,rfl,Below.refl _ _,rfl⟩
     ·refine Each.fine_when 17 122 rfl rfl (fun ev w1 hh=>?_) (fun hg ev w1 hR hb hh=>?_)
      ·exact hh.at 0
      ·clear hh;have e22:=hR.old 22 rfl;simp only [Array.getD_eq_getD_getElem?,List.getElem?_toArray,List.getElem?_cons_succ,List.getElem?_cons_zero,Option.getD_some] at e22;refine Each.Goes.same ?_;go_simp;try with_reducible rfl
     ·refine Each.fine_when 17 122 rfl rfl (fun ev w1 hh=>?_) (fun hg ev w1 hR hb hh=>?_)
      ·exact hh.at 2
      ·have e125:=(show (((false&&true))=false→ev (.tmp 125)=.pointer (some ⟨g2,0,none⟩)) from hh.at 0) hg;clear hh;have ef:=hR.func
       refine Each.Goes.enter 23 #[ptr g2] (by go_simp) ((HC2.out w1 hb).mono ?_);rintro r w3 ⟨rfl,hb3⟩;rw [hb3];exact ⟨_,rfl,Below.refl _ _,rfl⟩
     ·refine Each.fine_when 17 122 rfl rfl (fun ev w1 hh=>?_) (fun hg ev w1 hR hb hh=>?_)
      ·exact hh.at 2
      ·have e124:=(show (((false&&true))=false→ev (.tmp 124)=.bool cl) from hh.at 0) hg;have e126:=(show (((false&&true))=false→ev (.tmp 126)=.bool cl) from hh.at 1) hg;clear hh;refine Each.Goes.same ?_;go_simp
       first | done | exact bne_self_eq_false cl |(simp)
     ·refine Each.fine rfl (fun ev w1 hR hb hh=>?_);have e122:(ev (.tmp 122)=.bool ((false&&true))):=hh.at 0;have h127:(((false&&true))=false→ev (.tmp 127)=.bool false):=hh.at 1;clear hh;have ec:=hR.const;refine Each.Goes.same ?_;rcases Bool.eq_false_or_eq_true ((false&&true)) with hx | hx
      ·rw [hx] at e122 ⊢;go_simp;try with_reducible rfl
      ·rw [hx] at e122 ⊢;have e127:=h127 hx;go_simp;try with_reducible rfl
    intro gb w4 hb4 hf;have z128:gb 128=.bool false:=hf.at 23;clear hf;simp only [Each.putg,Act.put,List.setIfInBounds_toArray,List.set_cons_zero,List.set_cons_succ];rw [z128]
    have HAX4:=Lib.hid (HAX2.out.below hb4);have HAY4:=Lib.hid (HAY2.out.below hb4)
    have HBL4:=Lib.hid (show Below B W0 w4 from HBL2.out.trans (hb4.mono (by have:=HBL2.out.size;have:=HB.out;omega)));clear hb4 HALL HC1 HC2;have hn3:n≤3000:=HK9.out.2.2;go_wp2_with fail;go_roundw
    case rel=>exact ⟨k+1,X'.told,Y'.told,N1,N2,hlt9,by go_num,Lib.hid ⟨HB.out ▸ ⟨Zx,HAX4.out⟩,HB.out ▸ ⟨Zy,HAY4.out⟩,HD2.out,Both.told HBO.out,Pg.told_out _,Pg.told_out _,HB.out ▸ HBL4.out⟩⟩
    case measure=>simp [intOf];omega
theorem analyseSafe_law (q k:Int) (la:Option Addr) (ln cap:Nat) (zs:List Int) (ra:Option Addr) (rn rc:Nat) (rs:List Int) (a x:Int) (w:World) (hq:0≤q∧q≤255) (hk:0≤k∧k≤255) (hv:Nums .u8 w la ln zs) (hln:ln≤maxLen) (hlc:ln≤cap) (hrv:Nums .u8 w ra rn rs) (hrc:rn≤rc) (hrw:∀x∈rs,(Lit.int .u8 x).wf=true) (ha:0≤a∧a≤65535) (hx:0≤x∧x≤255) :
 Calls Tryz.prog 4 #[.int .u8 q,.int .u8 k,.slice la ln cap,.slice ra rn rc,.int .u16 a,.int .u8 x] w fun e w'=>e=.returned (.bool true)∧Below w.heap.size w w':=by
 obtain ⟨bs,rfl⟩:=Txt.bytes_of rs fun x hx=>bounds_u8 (hrw x hx);obtain ⟨q,rfl⟩:=Int.eq_ofNat_of_zero_le hq.1;obtain ⟨k,rfl⟩:=Int.eq_ofNat_of_zero_le hk.1;obtain ⟨a,rfl⟩:=Int.eq_ofNat_of_zero_le ha.1;obtain ⟨y,rfl⟩:∃b:UInt8,x=(b.toNat:Int):=⟨UInt8.ofNat x.toNat,by rw [UInt8.toNat_ofNat_of_lt' (by show x.toNat<256;omega)];omega⟩
 exact analyseSafe_any q k la ln cap zs ra rn rc bs a y w (by omega) hv hlc hln hrv hrc (by omega)
end code
end Go.Proofs.YtimoakmcelocfaaGreat.An
