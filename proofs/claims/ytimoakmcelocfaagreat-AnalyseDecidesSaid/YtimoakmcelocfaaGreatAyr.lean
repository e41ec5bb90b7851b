import Derived.Test.YtimoakmcelocfaaGreatAyn
import Derived.Test.YtimoakmcelocfaaGreatAyp
import Derived.Test.YtimoakmcelocfaaGreatAyq
namespace Go.Proofs.YtimoakmcelocfaaGreat.Par
open Go.RowKit Base Txt Mem
structure Fits (s:S):Prop where
 lines:s.st=1∨s.st=6→s.lines≤1000
 fss:∀y∈s.r.fs,y.1.size≤1000000∧y.2.size≤1000000
 fsl:s.r.fs.length≤500
 tss:∀y∈s.r.ts,y.1.size≤1000000∧y.2.size≤1000000
 tsl:s.r.ts.length≤500
 body:s.r.body.length≤2000000
 out:s.out.length≤1000000000
theorem empty_of {x:ByteArray} (h:x.size=0):x=⟨#[]⟩:=by
 have:x.data.size=0:=h;cases x with
 | mk d=>
   have e:d= #[]:=Array.eq_empty_of_size_eq_zero this;rw [e]
theorem list_ne {x:ByteArray} (h:0<x.size):x.data.toList≠ []:=fun e=>by
 have:x.size=0:=by rw [←len,e];rfl
 omega
section code
set_option maxHeartbeats 4000000
set_option maxRecDepth 20000
attribute [local go_sem] Base.some_undef
variable {w:World} {B:Zone} {g q:Nat} {v f bd t o:Value} {p:Nat} {b:Bd} {s:S}
theorem ended_size (hp:p<4294967296) (h3:16≤b.x3∧b.x3≤1048576) (h4:0≤b.x4) (x:ByteArray) (hx:x.size≤5000) (h:PR w B g q v f bd t o p b s) (hst:s.st=3) (ok:Fits s):Calls Tryz.prog 72 #[ptr g,.string x] w fun r w'=>
 r=.returned (.tuple #[])∧∃q1 v1 f1 bd1 t1 o1,PR w' B g q1 v1 f1 bd1 t1 o1 p b (s.ended p b x.data.toList)∧Step (blks g q v f bd t o) (blks g q1 v1 f1 bd1 t1 o1) w w':=by
 have es:s.ended p b x.data.toList=s.chunk p b x.data.toList:=by unfold S.ended;rw [hst];rfl
 rw [es];have c11:=h.cs.c11;rw [hst] at c11;have H:=Lib.hid h;clear es
 have HC:=Lib.hid (chunk_any hp h3 h4 x hx h ok.body);clear h hst;go_enter Tryz.func72,Tryz.ntmps72
 go_wp2_with (go_at_call 83;with_reducible refine HC.out.mono ?_;rintro r w2 ⟨rfl,q1,v1,f1,bd1,t1,hP,hS⟩);go_end0;exact ⟨rfl,q1,v1,f1,bd1,t1,o,hP,hS⟩
theorem ended_fields (hp:p<4294967296) (h3:16≤b.x3∧b.x3≤1048576) (x:ByteArray) (hx:x.size≤5000) (h:PR w B g q v f bd t o p b s) (hst:s.st=1) (ok:Fits s):Calls Tryz.prog 72 #[ptr g,.string x] w fun r w'=>
 r=.returned (.tuple #[])∧∃q1 v1 f1 bd1 t1 o1,PR w' B g q1 v1 f1 bd1 t1 o1 p b (s.ended p b x.data.toList)∧Step (blks g q v f bd t o) (blks g q1 v1 f1 bd1 t1 o1) w w':=by
 have es:s.ended p b x.data.toList=s.fields p b x.data.toList:=by unfold S.ended;rw [hst];rfl
 rw [es];have c11:=h.cs.c11;rw [hst] at c11;have H:=Lib.hid h;clear es;rcases Nat.eq_zero_or_pos x.size with h0 | h0
 ·obtain rfl:=empty_of h0;have e:s.fields p b (⟨#[]⟩:ByteArray).data.toList=s.over p b:=by unfold S.fields;rfl
  rw [e]
  have HC:=Lib.hid (over_any hp h3 h ok.fsl ok.fss ok.out);clear h hst e;go_enter Tryz.func72,Tryz.ntmps72
  go_wp2_with (go_at_call 81;with_reducible refine HC.out.mono ?_;rintro r w2 ⟨rfl,q1,v1,f1,bd1,t1,o1,hP,hS⟩);refine bodyPost_ret (results_none rfl _ _ _) rfl ?_;exact ⟨rfl,_,_,_,_,_,_,hP,hS⟩
 ·have hne:=list_ne h0;obtain ⟨bf,cbf,eb, -⟩:=Ln.own_slice h.own.F;subst eb;have te:=Fd.first_no x h0
  have HQ:=Lib.hid ((H.out.drew 1).bk);unfold S.fields;rw [if_neg hne];have hfi:=fun w1 (hb:Below w.heap.size w w1)=>fieldF_any hp x hx b.x1 (h.below hb) (ok.lines (.inl hst)) ok.fss ok.fsl;have hlt:=h.own.lt;cases hfv:fieldV p s.lines s.r.fs x.data.toList b.x1 with
  | inl e=>
    rw [hfv] at hfi;have HFI0:=Lib.hid hfi;clear h hst hne h0 hfv hfi hlt;go_enter Tryz.func72,Tryz.ntmps72;go_upto_region 13 with fail
    refine Each.region 12 [78,79,80,81,82,83,84,85,86,87,88,89]
     [Each.is (.pointer (some ⟨g,0,none⟩)),
       Each.is (.pointer (some ⟨g,0,none⟩)),
       Each.is (.pointer (some ⟨g,0,none⟩)),
       Each.is (.pointer (some ⟨g,13,none⟩)),
       Each.is (.pointer (some ⟨g,16,none⟩)),
       Each.is (.slice bf s.r.fs.length cbf),
       Each.is (.string x),
       Each.is (.pointer (some ⟨g,0,none⟩)),
       Each.is (.pointer (some ⟨g,0,none⟩)),
       Each.is (.pointer (some ⟨g,1,none⟩)),
       Each.is (.pointer (some ⟨g,2,none⟩)),
       Each.is (.int .i64 b.x1)]
     (.act 12 (.quiet 13 .done)) (by kernel_rfl) (by kernel_rfl) (by kernel_rfl) (by kernel_rfl) (fun _ _ d _ _ h=>by cases d<;>exact h) (by rfl) (by rfl)
     (by repeat first | exact trivial | refine ⟨Each.Lasts.eq _,?_⟩) ?_ ?_
    ·refine ⟨?_,?_,?_,?_,?_,?_,?_,?_,?_,?_,?_,?_,trivial⟩
     ·refine Each.fine rfl (fun ev w1 hR hb hh=>?_);clear hh;have e0:=hR.old 0 rfl;simp only [qA,qT,qZ,qO] at e0;refine Each.Goes.same ?_;go_simp;try with_reducible rfl
     ·refine Each.fine rfl (fun ev w1 hR hb hh=>?_);clear hh;have e0:=hR.old 0 rfl;simp only [qA,qT,qZ,qO] at e0;refine Each.Goes.same ?_;go_simp;try with_reducible rfl
     ·refine Each.fine rfl (fun ev w1 hR hb hh=>?_);have e79:(ev (.tmp 79)=.pointer (some ⟨g,0,none⟩)):=hh.at 0;clear hh;refine Each.Goes.same ?_;go_simp;try with_reducible rfl
     ·refine Each.fine rfl (fun ev w1 hR hb hh=>?_);have e80:(ev (.tmp 80)=.pointer (some ⟨g,0,none⟩)):=hh.at 0;clear hh;refine Each.Goes.same ?_;go_simp;try with_reducible rfl
     ·refine Each.fine rfl (fun ev w1 hR hb hh=>?_);have e81:(ev (.tmp 81)=.pointer (some ⟨g,13,none⟩)):=hh.at 0;clear hh;refine Each.Goes.same ?_;go_simp;try with_reducible rfl
     ·refine Each.fine rfl (fun ev w1 hR hb hh=>?_);have e82:(ev (.tmp 82)=.pointer (some ⟨g,16,none⟩)):=hh.at 0;clear hh;have q16:=(HQ.out.below hb).c 16 _ rfl;refine Each.Goes.same ?_;go_simp;try with_reducible rfl
     ·refine Each.fine rfl (fun ev w1 hR hb hh=>?_);clear hh;have e1:=hR.old 1 rfl;simp only [qA,qT,qS,qZ,qO] at e1;refine Each.Goes.same ?_;go_simp;try with_reducible rfl
     ·refine Each.fine rfl (fun ev w1 hR hb hh=>?_);clear hh;have e0:=hR.old 0 rfl;simp only [qA,qT,qZ,qO] at e0;refine Each.Goes.same ?_;go_simp;try with_reducible rfl
     ·refine Each.fine rfl (fun ev w1 hR hb hh=>?_);have e85:(ev (.tmp 85)=.pointer (some ⟨g,0,none⟩)):=hh.at 0;clear hh;refine Each.Goes.same ?_;go_simp;try with_reducible rfl
     ·refine Each.fine rfl (fun ev w1 hR hb hh=>?_);have e86:(ev (.tmp 86)=.pointer (some ⟨g,0,none⟩)):=hh.at 0;clear hh;refine Each.Goes.same ?_;go_simp;try with_reducible rfl
     ·refine Each.fine rfl (fun ev w1 hR hb hh=>?_);have e87:(ev (.tmp 87)=.pointer (some ⟨g,1,none⟩)):=hh.at 0;clear hh;refine Each.Goes.same ?_;go_simp;try with_reducible rfl
     ·refine Each.fine rfl (fun ev w1 hR hb hh=>?_);have e88:(ev (.tmp 88)=.pointer (some ⟨g,2,none⟩)):=hh.at 0;clear hh;have q2:=(HQ.out.below hb).c 2 _ rfl;refine Each.Goes.same ?_;go_simp;try with_reducible rfl
    intro g1 w2 hb hf;have z78:(g1 78=.pointer (some ⟨g,0,none⟩)):=hf.at 0;have z83:(g1 83=.slice bf s.r.fs.length cbf):=hf.at 5;have z84:(g1 84=.string x):=hf.at 6;have z89:(g1 89=.int .i64 b.x1):=hf.at 11;clear hf;simp only [Each.putg,Act.put,qI,qY,qX];rw [z78,z83,z84,z89];simp only [Tree.grow,Tree.put1,qZ,qS]
    have H1:=Lib.hid (H.out.below hb)
    have HS1:=Lib.hid (Step.of_below hb (L:=blks g q v (.slice bf s.r.fs.length cbf) bd t o))
    have HFI:=Lib.hid (HFI0.out _ hb);clear hb HQ
    refine Tree.change (by rfl) (fun K hK=>?_)
    refine Each.oper_enter (g:=82) (args:=#[ptr g,.slice bf s.r.fs.length cbf,.string x,.int .i64 b.x1]) (by go_simp) (HFI.out.mono ?_);rintro r w3 ⟨rfl,hP,hS⟩;refine ⟨_,rfl,?_⟩;refine hK _ _ trivial ?_;clear hK K;simp only [Act.put,qI,qY,qX];refine Tree.assign _ (by rfl) (by rfl) ?_;simp only [Act.put,Act.eval,qA,qT,qZ,qS,qO,qI,qY,qX];refine Tree.done ?_;have c16:=hP.cs.c16;have z16:=hP.marks 16
    have HP2:=Lib.hid (hP.put 16 nil (S.fail {s with lines:=s.lines+1} e) rfl rfl rfl rfl rfl rfl)
    have HS2:=Lib.hid ((HS1.out.trans hS).trans (Step.set g 16 nil (by simp)));clear hP hS HFI H1 HS1;go_wp2;go_end0;exact ⟨rfl,_,_,_,_,_,_,HP2.out,HS2.out⟩
  | inr l=>
    rw [hfv] at hfi;have HFI0:=Lib.hid hfi;clear h hst hne h0 hfv hfi hlt;go_enter Tryz.func72,Tryz.ntmps72;go_upto_region 13 with fail
    refine Each.region 12 [78,79,80,81,82,83,84,85,86,87,88,89]
     [Each.is (.pointer (some ⟨g,0,none⟩)),
       Each.is (.pointer (some ⟨g,0,none⟩)),
       Each.is (.pointer (some ⟨g,0,none⟩)),
       Each.is (.pointer (some ⟨g,13,none⟩)),
       Each.is (.pointer (some ⟨g,16,none⟩)),
       Each.is (.slice bf s.r.fs.length cbf),
       Each.is (.string x),
       Each.is (.pointer (some ⟨g,0,none⟩)),
       Each.is (.pointer (some ⟨g,0,none⟩)),
       Each.is (.pointer (some ⟨g,1,none⟩)),
       Each.is (.pointer (some ⟨g,2,none⟩)),
       Each.is (.int .i64 b.x1)]
     (.act 12 (.quiet 13 .done)) (by kernel_rfl) (by kernel_rfl) (by kernel_rfl) (by kernel_rfl) (fun _ _ d _ _ h=>by cases d<;>exact h) (by rfl) (by rfl)
     (by repeat first | exact trivial | refine ⟨Each.Lasts.eq _,?_⟩) ?_ ?_
    ·refine ⟨?_,?_,?_,?_,?_,?_,?_,?_,?_,?_,?_,?_,trivial⟩
     ·refine Each.fine rfl (fun ev w1 hR hb hh=>?_);clear hh;have e0:=hR.old 0 rfl;simp only [qA,qT,qZ,qO] at e0;refine Each.Goes.same ?_;go_simp;try with_reducible rfl
     ·refine Each.fine rfl (fun ev w1 hR hb hh=>?_);clear hh;have e0:=hR.old 0 rfl;simp only [qA,qT,qZ,qO] at e0;refine Each.Goes.same ?_;go_simp;try with_reducible rfl
     ·refine Each.fine rfl (fun ev w1 hR hb hh=>?_);have e79:(ev (.tmp 79)=.pointer (some ⟨g,0,none⟩)):=hh.at 0;clear hh;refine Each.Goes.same ?_;go_simp;try with_reducible rfl
     ·refine Each.fine rfl (fun ev w1 hR hb hh=>?_);have e80:(ev (.tmp 80)=.pointer (some ⟨g,0,none⟩)):=hh.at 0;clear hh;refine Each.Goes.same ?_;go_simp;try with_reducible rfl
     ·refine Each.fine rfl (fun ev w1 hR hb hh=>?_);have e81:(ev (.tmp 81)=.pointer (some ⟨g,13,none⟩)):=hh.at 0;clear hh;refine Each.Goes.same ?_;go_simp;try with_reducible rfl
     ·refine Each.fine rfl (fun ev w1 hR hb hh=>?_);have e82:(ev (.tmp 82)=.pointer (some ⟨g,16,none⟩)):=hh.at 0;clear hh;have q16:=(HQ.out.below hb).c 16 _ rfl;refine Each.Goes.same ?_;go_simp;try with_reducible rfl
     ·refine Each.fine rfl (fun ev w1 hR hb hh=>?_);clear hh;have e1:=hR.old 1 rfl;simp only [qA,qT,qS,qZ,qO] at e1;refine Each.Goes.same ?_;go_simp;try with_reducible rfl
     ·refine Each.fine rfl (fun ev w1 hR hb hh=>?_);clear hh;have e0:=hR.old 0 rfl;simp only [qA,qT,qZ,qO] at e0;refine Each.Goes.same ?_;go_simp;try with_reducible rfl
     ·refine Each.fine rfl (fun ev w1 hR hb hh=>?_);have e85:(ev (.tmp 85)=.pointer (some ⟨g,0,none⟩)):=hh.at 0;clear hh;refine Each.Goes.same ?_;go_simp;try with_reducible rfl
     ·refine Each.fine rfl (fun ev w1 hR hb hh=>?_);have e86:(ev (.tmp 86)=.pointer (some ⟨g,0,none⟩)):=hh.at 0;clear hh;refine Each.Goes.same ?_;go_simp;try with_reducible rfl
     ·refine Each.fine rfl (fun ev w1 hR hb hh=>?_);have e87:(ev (.tmp 87)=.pointer (some ⟨g,1,none⟩)):=hh.at 0;clear hh;refine Each.Goes.same ?_;go_simp;try with_reducible rfl
     ·refine Each.fine rfl (fun ev w1 hR hb hh=>?_);have e88:(ev (.tmp 88)=.pointer (some ⟨g,2,none⟩)):=hh.at 0;clear hh;have q2:=(HQ.out.below hb).c 2 _ rfl;refine Each.Goes.same ?_;go_simp;try with_reducible rfl
    intro g1 w2 hb hf;have z78:(g1 78=.pointer (some ⟨g,0,none⟩)):=hf.at 0;have z83:(g1 83=.slice bf s.r.fs.length cbf):=hf.at 5;have z84:(g1 84=.string x):=hf.at 6;have z89:(g1 89=.int .i64 b.x1):=hf.at 11;clear hf;simp only [Each.putg,Act.put,qI,qY,qX];rw [z78,z83,z84,z89];simp only [Tree.grow,Tree.put1,qZ,qS]
    have H1:=Lib.hid (H.out.below hb)
    have HS1:=Lib.hid (Step.of_below hb (L:=blks g q v (.slice bf s.r.fs.length cbf) bd t o))
    have HFI:=Lib.hid (HFI0.out _ hb);clear hb HQ
    refine Tree.change (by rfl) (fun K hK=>?_)
    refine Each.oper_enter (g:=82) (args:=#[ptr g,.slice bf s.r.fs.length cbf,.string x,.int .i64 b.x1]) (by go_simp) (HFI.out.mono ?_);rintro r w3 ⟨u',rfl,hrow,how,hS⟩;obtain ⟨b9,c9,e9, -⟩:=Ln.own_slice how.F;subst e9;refine ⟨_,rfl,?_⟩;refine hK _ _ trivial ?_;clear hK K;simp only [Act.put,qI,qY,qX];refine Tree.assign _ (by rfl) (by rfl) ?_;simp only [Act.put,Act.eval,qA,qT,qZ,qS,qO,qI,qY,qX];refine Tree.done ?_;have c16:=(Cs.of hrow).c16;have z16:=Ln.row_frozen hrow 16
    have HR2:=Lib.hid (row_setL hrow 16 (.slice b9 l.length c9))
    have HO2:=Lib.hid (how.set 16 (.slice b9 l.length c9))
    have HS2:=Lib.hid ((HS1.out.trans hS).trans (Step.set g 16 (.slice b9 l.length c9) (by simp)));clear hrow how hS HFI H1 HS1;go_wp2;go_end0;exact ⟨rfl,_,_,_,_,_,_,⟨HR2.out,HO2.out⟩,HS2.out⟩
theorem ended_trail (hp:p<4294967296) (x:ByteArray) (hx:x.size≤5000) (h:PR w B g q v f bd t o p b s) (hst:s.st=6) (ok:Fits s):Calls Tryz.prog 72 #[ptr g,.string x] w fun r w'=>
 r=.returned (.tuple #[])∧∃q1 v1 f1 bd1 t1 o1,PR w' B g q1 v1 f1 bd1 t1 o1 p b (s.ended p b x.data.toList)∧Step (blks g q v f bd t o) (blks g q1 v1 f1 bd1 t1 o1) w w':=by
 have es:s.ended p b x.data.toList=s.trail p b x.data.toList:=by unfold S.ended;rw [hst];rfl
 rw [es];have c11:=h.cs.c11;rw [hst] at c11;have H:=Lib.hid h;clear es;rcases Nat.eq_zero_or_pos x.size with h0 | h0
 ·obtain rfl:=empty_of h0;have e:s.trail p b (⟨#[]⟩:ByteArray).data.toList=s.whole p b:=by unfold S.trail;rfl
  rw [e]
  have HC:=Lib.hid (whole_any h ok.out);clear h hst e;go_enter Tryz.func72,Tryz.ntmps72
  go_wp2_with (go_at_call 69;with_reducible refine HC.out.mono ?_;rintro r w2 ⟨rfl,q1,o1,hP,hS⟩);refine bodyPost_ret (results_none rfl _ _ _) rfl ?_;exact ⟨rfl,_,_,_,_,_,_,hP,hS⟩
 ·have hne:=list_ne h0;obtain ⟨bt,cbt,eb, -⟩:=Ln.own_slice h.own.T;subst eb;have te:=Fd.first_no x h0
  have HQ:=Lib.hid ((H.out.drew 1).bk);unfold S.trail;rw [if_neg hne];have hfi:=fun w1 (hb:Below w.heap.size w w1)=>fieldT_any hp x hx b.x5 (h.below hb) (ok.lines (.inr hst)) ok.tss ok.tsl;have hlt:=h.own.lt;cases hfv:fieldV p s.lines s.r.ts x.data.toList b.x5 with
  | inl e=>
    rw [hfv] at hfi;have HFI0:=Lib.hid hfi;clear h hst hne h0 hfv hfi hlt;go_enter Tryz.func72,Tryz.ntmps72;go_upto_region 18 with fail
    refine Each.region 12 [102,103,104,105,106,107,108,109,110,111,112,113]
     [Each.is (.pointer (some ⟨g,0,none⟩)),
       Each.is (.pointer (some ⟨g,0,none⟩)),
       Each.is (.pointer (some ⟨g,0,none⟩)),
       Each.is (.pointer (some ⟨g,13,none⟩)),
       Each.is (.pointer (some ⟨g,19,none⟩)),
       Each.is (.slice bt s.r.ts.length cbt),
       Each.is (.string x),
       Each.is (.pointer (some ⟨g,0,none⟩)),
       Each.is (.pointer (some ⟨g,0,none⟩)),
       Each.is (.pointer (some ⟨g,1,none⟩)),
       Each.is (.pointer (some ⟨g,6,none⟩)),
       Each.is (.int .i64 b.x5)]
     (.act 12 (.quiet 13 .done)) (by kernel_rfl) (by kernel_rfl) (by kernel_rfl) (by kernel_rfl) (fun _ _ d _ _ h=>by cases d<;>exact h) (by rfl) (by rfl)
     (by repeat first | exact trivial | refine ⟨Each.Lasts.eq _,?_⟩) ?_ ?_
    ·refine ⟨?_,?_,?_,?_,?_,?_,?_,?_,?_,?_,?_,?_,trivial⟩
     ·refine Each.fine rfl (fun ev w1 hR hb hh=>?_);clear hh;have e0:=hR.old 0 rfl;simp only [qA,qT,qZ,qO] at e0;refine Each.Goes.same ?_;go_simp;try with_reducible rfl
     ·refine Each.fine rfl (fun ev w1 hR hb hh=>?_);clear hh;have e0:=hR.old 0 rfl;simp only [qA,qT,qZ,qO] at e0;refine Each.Goes.same ?_;go_simp;try with_reducible rfl
     ·refine Each.fine rfl (fun ev w1 hR hb hh=>?_);have e103:(ev (.tmp 103)=.pointer (some ⟨g,0,none⟩)):=hh.at 0;clear hh;refine Each.Goes.same ?_;go_simp;try with_reducible rfl
     ·refine Each.fine rfl (fun ev w1 hR hb hh=>?_);have e104:(ev (.tmp 104)=.pointer (some ⟨g,0,none⟩)):=hh.at 0;clear hh;refine Each.Goes.same ?_;go_simp;try with_reducible rfl
     ·refine Each.fine rfl (fun ev w1 hR hb hh=>?_);have e105:(ev (.tmp 105)=.pointer (some ⟨g,13,none⟩)):=hh.at 0;clear hh;refine Each.Goes.same ?_;go_simp;try with_reducible rfl
     ·refine Each.fine rfl (fun ev w1 hR hb hh=>?_);have e106:(ev (.tmp 106)=.pointer (some ⟨g,19,none⟩)):=hh.at 0;clear hh;have q19:=(HQ.out.below hb).c 19 _ rfl;refine Each.Goes.same ?_;go_simp;try with_reducible rfl
     ·refine Each.fine rfl (fun ev w1 hR hb hh=>?_);clear hh;have e1:=hR.old 1 rfl;simp only [qA,qT,qS,qZ,qO] at e1;refine Each.Goes.same ?_;go_simp;try with_reducible rfl
     ·refine Each.fine rfl (fun ev w1 hR hb hh=>?_);clear hh;have e0:=hR.old 0 rfl;simp only [qA,qT,qZ,qO] at e0;refine Each.Goes.same ?_;go_simp;try with_reducible rfl
     ·refine Each.fine rfl (fun ev w1 hR hb hh=>?_);have e109:(ev (.tmp 109)=.pointer (some ⟨g,0,none⟩)):=hh.at 0;clear hh;refine Each.Goes.same ?_;go_simp;try with_reducible rfl
     ·refine Each.fine rfl (fun ev w1 hR hb hh=>?_);have e110:(ev (.tmp 110)=.pointer (some ⟨g,0,none⟩)):=hh.at 0;clear hh;refine Each.Goes.same ?_;go_simp;try with_reducible rfl
     ·refine Each.fine rfl (fun ev w1 hR hb hh=>?_);have e111:(ev (.tmp 111)=.pointer (some ⟨g,1,none⟩)):=hh.at 0;clear hh;refine Each.Goes.same ?_;go_simp;try with_reducible rfl
     ·refine Each.fine rfl (fun ev w1 hR hb hh=>?_);have e112:(ev (.tmp 112)=.pointer (some ⟨g,6,none⟩)):=hh.at 0;clear hh;have q6:=(HQ.out.below hb).c 6 _ rfl;refine Each.Goes.same ?_;go_simp;try with_reducible rfl
    intro g1 w2 hb hf;have z102:(g1 102=.pointer (some ⟨g,0,none⟩)):=hf.at 0;have z107:(g1 107=.slice bt s.r.ts.length cbt):=hf.at 5;have z108:(g1 108=.string x):=hf.at 6;have z113:(g1 113=.int .i64 b.x5):=hf.at 11;clear hf;simp only [Each.putg,Act.put,qI,qY,qX];rw [z102,z107,z108,z113];simp only [Tree.grow,Tree.put1,qZ,qS]
    have H1:=Lib.hid (H.out.below hb)
    have HS1:=Lib.hid (Step.of_below hb (L:=blks g q v f bd (.slice bt s.r.ts.length cbt) o))
    have HFI:=Lib.hid (HFI0.out _ hb);clear hb HQ
    refine Tree.change (by rfl) (fun K hK=>?_)
    refine Each.oper_enter (g:=82) (args:=#[ptr g,.slice bt s.r.ts.length cbt,.string x,.int .i64 b.x5]) (by go_simp) (HFI.out.mono ?_);rintro r w3 ⟨rfl,hP,hS⟩;refine ⟨_,rfl,?_⟩;refine hK _ _ trivial ?_;clear hK K;simp only [Act.put,qI,qY,qX];refine Tree.assign _ (by rfl) (by rfl) ?_;simp only [Act.put,Act.eval,qA,qT,qZ,qS,qO,qI,qY,qX];refine Tree.done ?_;have c19:=hP.cs.c19;have z19:=hP.marks 19
    have HP2:=Lib.hid (hP.put 19 nil (S.fail {s with lines:=s.lines+1} e) rfl rfl rfl rfl rfl rfl)
    have HS2:=Lib.hid ((HS1.out.trans hS).trans (Step.set g 19 nil (by simp)));clear hP hS HFI H1 HS1;go_wp2;go_end0;exact ⟨rfl,_,_,_,_,_,_,HP2.out,HS2.out⟩
  | inr l=>
    rw [hfv] at hfi;have HFI0:=Lib.hid hfi;clear h hst hne h0 hfv hfi hlt;go_enter Tryz.func72,Tryz.ntmps72;go_upto_region 18 with fail
    refine Each.region 12 [102,103,104,105,106,107,108,109,110,111,112,113]
     [Each.is (.pointer (some ⟨g,0,none⟩)),
       Each.is (.pointer (some ⟨g,0,none⟩)),
       Each.is (.pointer (some ⟨g,0,none⟩)),
       Each.is (.pointer (some ⟨g,13,none⟩)),
       Each.is (.pointer (some ⟨g,19,none⟩)),
       Each.is (.slice bt s.r.ts.length cbt),
       Each.is (.string x),
       Each.is (.pointer (some ⟨g,0,none⟩)),
       Each.is (.pointer (some ⟨g,0,none⟩)),
       Each.is (.pointer (some ⟨g,1,none⟩)),
       Each.is (.pointer (some ⟨g,6,none⟩)),
       Each.is (.int .i64 b.x5)]
     (.act 12 (.quiet 13 .done)) (by kernel_rfl) (by kernel_rfl) (by kernel_rfl) (by kernel_rfl) (fun _ _ d _ _ h=>by cases d<;>exact h) (by rfl) (by rfl)
     (by repeat first | exact trivial | refine ⟨Each.Lasts.eq _,?_⟩) ?_ ?_
    ·refine ⟨?_,?_,?_,?_,?_,?_,?_,?_,?_,?_,?_,?_,trivial⟩
     ·refine Each.fine rfl (fun ev w1 hR hb hh=>?_);clear hh;have e0:=hR.old 0 rfl;simp only [qA,qT,qZ,qO] at e0;refine Each.Goes.same ?_;go_simp;try with_reducible rfl
     ·refine Each.fine rfl (fun ev w1 hR hb hh=>?_);clear hh;have e0:=hR.old 0 rfl;simp only [qA,qT,qZ,qO] at e0;refine Each.Goes.same ?_;go_simp;try with_reducible rfl
     ·refine Each.fine rfl (fun ev w1 hR hb hh=>?_);have e103:(ev (.tmp 103)=.pointer (some ⟨g,0,none⟩)):=hh.at 0;clear hh;refine Each.Goes.same ?_;go_simp;try with_reducible rfl
     ·refine Each.fine rfl (fun ev w1 hR hb hh=>?_);have e104:(ev (.tmp 104)=.pointer (some ⟨g,0,none⟩)):=hh.at 0;clear hh;refine Each.Goes.same ?_;go_simp;try with_reducible rfl
     ·refine Each.fine rfl (fun ev w1 hR hb hh=>?_);have e105:(ev (.tmp 105)=.pointer (some ⟨g,13,none⟩)):=hh.at 0;clear hh;refine Each.Goes.same ?_;go_simp;try with_reducible rfl
     ·refine Each.fine rfl (fun ev w1 hR hb hh=>?_);have e106:(ev (.tmp 106)=.pointer (some ⟨g,19,none⟩)):=hh.at 0;clear hh;have q19:=(HQ.out.below hb).c 19 _ rfl;refine Each.Goes.same ?_;go_simp;try with_reducible rfl
     ·refine Each.fine rfl (fun ev w1 hR hb hh=>?_);clear hh;have e1:=hR.old 1 rfl;simp only [qA,qT,qS,qZ,qO] at e1;refine Each.Goes.same ?_;go_simp;try with_reducible rfl
     ·refine Each.fine rfl (fun ev w1 hR hb hh=>?_);clear hh;have e0:=hR.old 0 rfl;simp only [qA,qT,qZ,qO] at e0;refine Each.Goes.same ?_;go_simp;try with_reducible rfl
     ·refine Each.fine rfl (fun ev w1 hR hb hh=>?_);have e109:(ev (.tmp 109)=.pointer (some ⟨g,0,none⟩)):=hh.at 0;clear hh;refine Each.Goes.same ?_;go_simp;try with_reducible rfl
     ·refine Each.fine rfl (fun ev w1 hR hb hh=>?_);have e110:(ev (.tmp 110)=.pointer (some ⟨g,0,none⟩)):=hh.at 0;clear hh;refine Each.Goes.same ?_;go_simp;try with_reducible rfl
     ·refine Each.fine rfl (fun ev w1 hR hb hh=>?_);have e111:(ev (.tmp 111)=.pointer (some ⟨g,1,none⟩)):=hh.at 0;clear hh;refine Each.Goes.same ?_;go_simp;try with_reducible rfl
     ·refine Each.fine rfl (fun ev w1 hR hb hh=>?_);have e112:(ev (.tmp 112)=.pointer (some ⟨g,6,none⟩)):=hh.at 0;clear hh;have q6:=(HQ.out.below hb).c 6 _ rfl;refine Each.Goes.same ?_;go_simp;try with_reducible rfl
    intro g1 w2 hb hf;have z102:(g1 102=.pointer (some ⟨g,0,none⟩)):=hf.at 0;have z107:(g1 107=.slice bt s.r.ts.length cbt):=hf.at 5;have z108:(g1 108=.string x):=hf.at 6;have z113:(g1 113=.int .i64 b.x5):=hf.at 11;clear hf;simp only [Each.putg,Act.put,qI,qY,qX];rw [z102,z107,z108,z113];simp only [Tree.grow,Tree.put1,qZ,qS]
    have H1:=Lib.hid (H.out.below hb)
    have HS1:=Lib.hid (Step.of_below hb (L:=blks g q v f bd (.slice bt s.r.ts.length cbt) o))
    have HFI:=Lib.hid (HFI0.out _ hb);clear hb HQ
    refine Tree.change (by rfl) (fun K hK=>?_)
    refine Each.oper_enter (g:=82) (args:=#[ptr g,.slice bt s.r.ts.length cbt,.string x,.int .i64 b.x5]) (by go_simp) (HFI.out.mono ?_);rintro r w3 ⟨u',rfl,hrow,how,hS⟩;obtain ⟨b9,c9,e9, -⟩:=Ln.own_slice how.T;subst e9;refine ⟨_,rfl,?_⟩;refine hK _ _ trivial ?_;clear hK K;simp only [Act.put,qI,qY,qX];refine Tree.assign _ (by rfl) (by rfl) ?_;simp only [Act.put,Act.eval,qA,qT,qZ,qS,qO,qI,qY,qX];refine Tree.done ?_;have c19:=(Cs.of hrow).c19;have z19:=Ln.row_frozen hrow 19
    have HR2:=Lib.hid (row_setL hrow 19 (.slice b9 l.length c9))
    have HO2:=Lib.hid (how.set 19 (.slice b9 l.length c9))
    have HS2:=Lib.hid ((HS1.out.trans hS).trans (Step.set g 19 (.slice b9 l.length c9) (by simp)));clear hrow how hS HFI H1 HS1;go_wp2;go_end0;exact ⟨rfl,_,_,_,_,_,_,⟨HR2.out,HO2.out⟩,HS2.out⟩
theorem ended_first (hp:p<4294967296) (x:ByteArray) (hx:x.size≤5000) (h:PR w B g q v f bd t o p b s) (hst:s.st=0) (he:s.e=0):Calls Tryz.prog 72 #[ptr g,.string x] w fun r w'=>
 r=.returned (.tuple #[])∧∃q1 v1 f1 bd1 t1 o1,PR w' B g q1 v1 f1 bd1 t1 o1 p b (s.ended p b x.data.toList)∧Step (blks g q v f bd t o) (blks g q1 v1 f1 bd1 t1 o1) w w':=by
 have es:s.ended p b x.data.toList=s.first p b x.data.toList:=by unfold S.ended;rw [hst];rfl
 rw [es];have c11:=h.cs.c11;rw [hst] at c11;have H:=Lib.hid h;clear es;have c25:=h.cs.c25;rw [he] at c25;rcases Nat.eq_zero_or_pos x.size with h0 | h0
 ·obtain rfl:=empty_of h0;have c0:=h.cs.c0
  have HH:=Lib.hid (fun w=>Qk.rhas_any p hp 0 w);have c24:=h.cs.c24;have z24:=h.marks 24;cases hb:Qk.has p 0 with
  | true=>
    have e:s.first p b (⟨#[]⟩:ByteArray).data.toList={s with clean:=true}:=by show (if Qk.has p 0=true then ({s with clean:=true}:S) else s.fail 400)= _;rw [hb];rfl
    rw [e]
    have H2:=Lib.hid (h.put 24 (.bool true) {s with clean:=true} rfl rfl rfl rfl rfl rfl);rw [hb] at HH;clear h hst e hx h0;go_enter Tryz.func72,Tryz.ntmps72
    go_wp2_with (go_at_call 39;with_reducible refine (HH.out _).mono ?_;rintro r w2 ⟨rfl,hw⟩;rw [hw];clear hw);first | go_end0 | refine bodyPost_ret (results_none rfl _ _ _) rfl ?_
    exact ⟨rfl,_,_,_,_,_,_,H2.out,Step.set g 24 (.bool true) (by simp)⟩
  | false=>
    have e:s.first p b (⟨#[]⟩:ByteArray).data.toList=s.fail 400:=by show (if Qk.has p 0=true then ({s with clean:=true}:S) else s.fail 400)= _;rw [hb];rfl
    rw [e]
    have HFA:=Lib.hid (fail_at h 400 400 rfl);rw [hb] at HH;clear h hst e hx h0 c24 z24;go_enter Tryz.func72,Tryz.ntmps72
    go_upto_region 5 with (first
     |(go_at_call 56;with_reducible refine HFA.out.mono ?_;rintro r w2 ⟨rfl,hP,hS⟩)
     |(go_at_call 39;with_reducible refine (HH.out _).mono ?_;rintro r w2 ⟨rfl,hw⟩;rw [hw];clear hw))
    clear c0 c11 c25;have c25:=hP.cs.c25;have c24:=hP.cs.c24;have z24:=hP.marks 24;have c25':w2.cell? ⟨g,25,none⟩=some (.int .i64 400):=c25;clear c25
    have H2:=Lib.hid (hP.put 24 (.bool false) (s.fail 400) rfl rfl rfl rfl rfl rfl)
    have HS:=Lib.hid (hS.trans (Step.set g 24 (.bool false) (by simp)));clear hP hS HFA;go_wp2;first | go_end0 | refine bodyPost_ret (results_none rfl _ _ _) rfl ?_
    exact ⟨rfl,_,_,_,_,_,_,H2.out,HS.out⟩
 ·have hne:=list_ne h0;have te:=Fd.first_no x h0
  have HQ:=Lib.hid ((h.drew 1).bk)
  have hz:=fun w=>Rq.rrequest_any x p hp b.x0 b.x1 b.x2 b.x3 b.x4 b.x5 b.x6 b.x7 b.ch b.od w (by omega);unfold S.first;rw [if_neg hne];obtain ⟨⟨m1,t1,qk,qe⟩,hq⟩:∃Q,Rq.request (Rq.clOf p) b.od x.data.toList=Q:=⟨_,rfl⟩;rw [hq] at hz;simp only [Rq.rv] at hz;rw [hq];obtain ⟨qm,hqm⟩:∃qm,ba m1=qm:=⟨_,rfl⟩;obtain ⟨qt,hqt⟩:∃qt,ba t1=qt:=⟨_,rfl⟩;rw [hqm,hqt] at hz;have HZ:=Lib.hid hz;simp only [hqm,hqt];clear hz hq hqm hqt hne h0 hx c25 he hst h;by_cases hqe:qe=0
  ·subst hqe;rw [if_neg (by decide)]
   have HZ:=Lib.hid (show∀w,Calls Tryz.prog 80 #[.string x,.int .u32 (p:Int),.agg #[.int .i64 b.x0,.int .i64 b.x1,.int .i64 b.x2,.int .i64 b.x3,.int .i64 b.x4,.int .i64 b.x5,.int .i64 b.x6,.int .i64 b.x7,.bool b.ch,.bool b.od]] w fun e w'=>e=.returned (.tuple #[.string qm,.string qt,.int .i64 (qk:Int),.int .i64 0])∧Below w.heap.size w w' from fun w=>HZ.out w);go_enter Tryz.func72,Tryz.ntmps72;go_upto_region 6 with fail
   refine Each.region_all 19 [35,36,37,38,39,40,41,42,43,44,34,45,46,47,48,4,5,6,7]
    [Each.is (.string x),
      Each.is (.pointer (some ⟨g,0,none⟩)),
      Each.is (.pointer (some ⟨g,0,none⟩)),
      Each.is (.pointer (some ⟨g,0,none⟩)),
      Each.is (.int .u32 (p:Int)),
      Each.is (.pointer (some ⟨g,0,none⟩)),
      Each.is (.pointer (some ⟨g,0,none⟩)),
      Each.is (.pointer (some ⟨g,1,none⟩)),
      Each.is (.agg #[.int .i64 b.x0,.int .i64 b.x1,.int .i64 b.x2,.int .i64 b.x3,.int .i64 b.x4,.int .i64 b.x5,.int .i64 b.x6,.int .i64 b.x7,.bool b.ch,.bool b.od]),
      Each.is (.tuple #[.string qm,.string qt,.int .i64 (qk:Int),.int .i64 0]),
      Each.is (.tuple #[.string qm,.string qt,.int .i64 (qk:Int),.int .i64 0]),
      Each.is (.string qm),
      Each.is (.string qt),
      Each.is (.int .i64 (qk:Int)),
      Each.is (.int .i64 0),
      Each.is (.string qm),
      Each.is (.string qt),
      Each.is (.int .i64 (qk:Int)),
      Each.is (.int .i64 0)]
     (by kernel_rfl) (by kernel_rfl) (by kernel_rfl) (by kernel_rfl) (fun _ _ d _ _ h=>by cases d<;>exact h) (by rfl) (by rfl)
    (by repeat first | exact trivial | refine ⟨Each.Lasts.eq _,?_⟩) ?_ ?_
   ·refine ⟨?_,?_,?_,?_,?_,?_,?_,?_,?_,?_,?_,?_,?_,?_,?_,?_,?_,?_,?_,trivial⟩
    ·refine Each.fine rfl (fun ev w1 hR hb hh=>?_);clear hh;have e1:=hR.old 1 rfl;simp only [qA,qT,qS,qZ,qO] at e1;refine Each.Goes.same ?_;go_simp;try with_reducible rfl
    ·refine Each.fine rfl (fun ev w1 hR hb hh=>?_);clear hh;have e0:=hR.old 0 rfl;simp only [qA,qT,qZ,qO] at e0;refine Each.Goes.same ?_;go_simp;try with_reducible rfl
    ·refine Each.fine rfl (fun ev w1 hR hb hh=>?_);have e36:(ev (.tmp 36)=.pointer (some ⟨g,0,none⟩)):=hh.at 0;clear hh;refine Each.Goes.same ?_;go_simp;try with_reducible rfl
    ·refine Each.fine rfl (fun ev w1 hR hb hh=>?_);have e37:(ev (.tmp 37)=.pointer (some ⟨g,0,none⟩)):=hh.at 0;clear hh;refine Each.Goes.same ?_;go_simp;try with_reducible rfl
    ·refine Each.fine rfl (fun ev w1 hR hb hh=>?_);have e38:(ev (.tmp 38)=.pointer (some ⟨g,0,none⟩)):=hh.at 0;clear hh;have q0:=(HQ.out.below hb).c 0 _ rfl;refine Each.Goes.same ?_;go_simp;try with_reducible rfl
    ·refine Each.fine rfl (fun ev w1 hR hb hh=>?_);clear hh;have e0:=hR.old 0 rfl;simp only [qA,qT,qZ,qO] at e0;refine Each.Goes.same ?_;go_simp;try with_reducible rfl
    ·refine Each.fine rfl (fun ev w1 hR hb hh=>?_);have e40:(ev (.tmp 40)=.pointer (some ⟨g,0,none⟩)):=hh.at 0;clear hh;refine Each.Goes.same ?_;go_simp;try with_reducible rfl
    ·refine Each.fine rfl (fun ev w1 hR hb hh=>?_);have e41:(ev (.tmp 41)=.pointer (some ⟨g,0,none⟩)):=hh.at 0;clear hh;refine Each.Goes.same ?_;go_simp;try with_reducible rfl
    ·refine Each.fine rfl (fun ev w1 hR hb hh=>?_);have e42:(ev (.tmp 42)=.pointer (some ⟨g,1,none⟩)):=hh.at 0;clear hh;have q1:=(HQ.out.below hb).c 1 _ rfl;have q2:=(HQ.out.below hb).c 2 _ rfl;have q3:=(HQ.out.below hb).c 3 _ rfl;have q4:=(HQ.out.below hb).c 4 _ rfl;have q5:=(HQ.out.below hb).c 5 _ rfl;have q6:=(HQ.out.below hb).c 6 _ rfl;have q7:=(HQ.out.below hb).c 7 _ rfl;have q8:=(HQ.out.below hb).c 8 _ rfl;have q9:=(HQ.out.below hb).c 9 _ rfl;have q10:=(HQ.out.below hb).c 10 _ rfl;refine Each.Goes.same ?_;go_simp;try with_reducible rfl
    ·refine Each.fine rfl (fun ev w1 hR hb hh=>?_);have e35:(ev (.tmp 35)=.string x):=hh.at 0;have e39:(ev (.tmp 39)=.int .u32 (p:Int)):=hh.at 1;have e43:(ev (.tmp 43)=.agg #[.int .i64 b.x0,.int .i64 b.x1,.int .i64 b.x2,.int .i64 b.x3,.int .i64 b.x4,.int .i64 b.x5,.int .i64 b.x6,.int .i64 b.x7,.bool b.ch,.bool b.od]):=hh.at 2;clear hh;have ef:=hR.func
     refine Each.Goes.enter 80 #[.string x,.int .u32 (p:Int),.agg #[.int .i64 b.x0,.int .i64 b.x1,.int .i64 b.x2,.int .i64 b.x3,.int .i64 b.x4,.int .i64 b.x5,.int .i64 b.x6,.int .i64 b.x7,.bool b.ch,.bool b.od]] (by go_simp) ((HZ.out w1).mono ?_);rintro r w2 ⟨rfl,hb2⟩;exact ⟨_,rfl,hb2,rfl⟩
    ·refine Each.fine rfl (fun ev w1 hR hb hh=>?_);have e44:(ev (.tmp 44)=.tuple #[.string qm,.string qt,.int .i64 (qk:Int),.int .i64 0]):=hh.at 0;clear hh;refine Each.Goes.same ?_;go_simp;try with_reducible rfl
    ·refine Each.fine rfl (fun ev w1 hR hb hh=>?_);have e34:(ev (.tmp 34)=.tuple #[.string qm,.string qt,.int .i64 (qk:Int),.int .i64 0]):=hh.at 0;clear hh;refine Each.Goes.same ?_;go_simp;try with_reducible rfl
    ·refine Each.fine rfl (fun ev w1 hR hb hh=>?_);have e34:(ev (.tmp 34)=.tuple #[.string qm,.string qt,.int .i64 (qk:Int),.int .i64 0]):=hh.at 0;clear hh;refine Each.Goes.same ?_;go_simp;try with_reducible rfl
    ·refine Each.fine rfl (fun ev w1 hR hb hh=>?_);have e34:(ev (.tmp 34)=.tuple #[.string qm,.string qt,.int .i64 (qk:Int),.int .i64 0]):=hh.at 0;clear hh;refine Each.Goes.same ?_;go_simp;try with_reducible rfl
    ·refine Each.fine rfl (fun ev w1 hR hb hh=>?_);have e34:(ev (.tmp 34)=.tuple #[.string qm,.string qt,.int .i64 (qk:Int),.int .i64 0]):=hh.at 0;clear hh;refine Each.Goes.same ?_;go_simp;try with_reducible rfl
    ·refine Each.fine rfl (fun ev w1 hR hb hh=>?_);have e45:(ev (.tmp 45)=.string qm):=hh.at 0;clear hh;refine Each.Goes.same ?_;go_simp;try with_reducible rfl
    ·refine Each.fine rfl (fun ev w1 hR hb hh=>?_);have e46:(ev (.tmp 46)=.string qt):=hh.at 0;clear hh;refine Each.Goes.same ?_;go_simp;try with_reducible rfl
    ·refine Each.fine rfl (fun ev w1 hR hb hh=>?_);have e47:(ev (.tmp 47)=.int .i64 (qk:Int)):=hh.at 0;clear hh;refine Each.Goes.same ?_;go_simp;try with_reducible rfl
    ·refine Each.fine rfl (fun ev w1 hR hb hh=>?_);have e48:(ev (.tmp 48)=.int .i64 0):=hh.at 0;clear hh;refine Each.Goes.same ?_;go_simp;try with_reducible rfl
   intro g1 w2 hb hf;have z4:(g1 4=.string qm):=hf.at 15;have z5:(g1 5=.string qt):=hf.at 16;have z6:(g1 6=.int .i64 (qk:Int)):=hf.at 17;have z7:(g1 7=.int .i64 0):=hf.at 18;clear hf;simp only [Each.putg,Act.put,qI,qY,qX];rw [z4];rw [z5];rw [z6];rw [z7]
   have H1:=Lib.hid (H.out.below hb);have HS1:=Lib.hid (Step.of_below hb (L:=blks g q v f bd t o));clear hb HQ
   have H2:=Lib.hid ((((H1.out.put 13 (.string qm) {s with r:={s.r with m:=qm}} rfl rfl rfl rfl rfl rfl).put 14 (.string qt) {s with r:={s.r with m:=qm,x:=qt}} rfl rfl rfl rfl rfl rfl).put 15 (.int .i64 (qk:Int)) {s with r:={s.r with m:=qm,x:=qt,k:=(qk:Int)}} rfl rfl rfl rfl rfl rfl).put 11 (.int .i64 1) {s with r:={s.r with m:=qm,x:=qt,k:=(qk:Int)},st:=1} rfl rfl rfl rfl rfl rfl)
   have HS2:=Lib.hid (HS1.out.trans ((((Step.set g 13 (.string qm) (by simp)).trans (Step.set g 14 (.string qt) (by simp))).trans (Step.set g 15 (.int .i64 (qk:Int)) (by simp))).trans (Step.set g 11 (.int .i64 1) (by simp))));clear c11;have c11:=H1.out.cs.c11;have c13:=H1.out.cs.c13;have c14:=H1.out.cs.c14;have c15:=H1.out.cs.c15;have z11:=H1.out.marks 11;have z13:=H1.out.marks 13;have z14:=H1.out.marks 14;have z15:=H1.out.marks 15;go_wp2;first | go_end0 | refine bodyPost_ret (results_none rfl _ _ _) rfl ?_
   exact ⟨rfl,_,_,_,_,_,_,H2.out,HS2.out⟩
  ·rw [if_pos hqe];have tz:¬(qe:Int)=0:=by omega
   have tz':((qe:Int)==0)=false:=beq_eq_false_iff_ne.2 tz;clear hqe;go_enter Tryz.func72,Tryz.ntmps72;go_upto_region 6 with fail
   refine Each.region_all 19 [35,36,37,38,39,40,41,42,43,44,34,45,46,47,48,4,5,6,7]
    [Each.is (.string x),
      Each.is (.pointer (some ⟨g,0,none⟩)),
      Each.is (.pointer (some ⟨g,0,none⟩)),
      Each.is (.pointer (some ⟨g,0,none⟩)),
      Each.is (.int .u32 (p:Int)),
      Each.is (.pointer (some ⟨g,0,none⟩)),
      Each.is (.pointer (some ⟨g,0,none⟩)),
      Each.is (.pointer (some ⟨g,1,none⟩)),
      Each.is (.agg #[.int .i64 b.x0,.int .i64 b.x1,.int .i64 b.x2,.int .i64 b.x3,.int .i64 b.x4,.int .i64 b.x5,.int .i64 b.x6,.int .i64 b.x7,.bool b.ch,.bool b.od]),
      Each.is (.tuple #[.string qm,.string qt,.int .i64 (qk:Int),.int .i64 (qe:Int)]),
      Each.is (.tuple #[.string qm,.string qt,.int .i64 (qk:Int),.int .i64 (qe:Int)]),
      Each.is (.string qm),
      Each.is (.string qt),
      Each.is (.int .i64 (qk:Int)),
      Each.is (.int .i64 (qe:Int)),
      Each.is (.string qm),
      Each.is (.string qt),
      Each.is (.int .i64 (qk:Int)),
      Each.is (.int .i64 (qe:Int))]
     (by kernel_rfl) (by kernel_rfl) (by kernel_rfl) (by kernel_rfl) (fun _ _ d _ _ h=>by cases d<;>exact h) (by rfl) (by rfl)
    (by repeat first | exact trivial | refine ⟨Each.Lasts.eq _,?_⟩) ?_ ?_
   ·refine ⟨?_,?_,?_,?_,?_,?_,?_,?_,?_,?_,?_,?_,?_,?_,?_,?_,?_,?_,?_,trivial⟩
    ·refine Each.fine rfl (fun ev w1 hR hb hh=>?_);clear hh;have e1:=hR.old 1 rfl;simp only [qA,qT,qS,qZ,qO] at e1;refine Each.Goes.same ?_;go_simp;try with_reducible rfl
    ·refine Each.fine rfl (fun ev w1 hR hb hh=>?_);clear hh;have e0:=hR.old 0 rfl;simp only [qA,qT,qZ,qO] at e0;refine Each.Goes.same ?_;go_simp;try with_reducible rfl
    ·refine Each.fine rfl (fun ev w1 hR hb hh=>?_);have e36:(ev (.tmp 36)=.pointer (some ⟨g,0,none⟩)):=hh.at 0;clear hh;refine Each.Goes.same ?_;go_simp;try with_reducible rfl
    ·refine Each.fine rfl (fun ev w1 hR hb hh=>?_);have e37:(ev (.tmp 37)=.pointer (some ⟨g,0,none⟩)):=hh.at 0;clear hh;refine Each.Goes.same ?_;go_simp;try with_reducible rfl
    ·refine Each.fine rfl (fun ev w1 hR hb hh=>?_);have e38:(ev (.tmp 38)=.pointer (some ⟨g,0,none⟩)):=hh.at 0;clear hh;have q0:=(HQ.out.below hb).c 0 _ rfl;refine Each.Goes.same ?_;go_simp;try with_reducible rfl
    ·refine Each.fine rfl (fun ev w1 hR hb hh=>?_);clear hh;have e0:=hR.old 0 rfl;simp only [qA,qT,qZ,qO] at e0;refine Each.Goes.same ?_;go_simp;try with_reducible rfl
    ·refine Each.fine rfl (fun ev w1 hR hb hh=>?_);have e40:(ev (.tmp 40)=.pointer (some ⟨g,0,none⟩)):=hh.at 0;clear hh;refine Each.Goes.same ?_;go_simp;try with_reducible rfl
    ·refine Each.fine rfl (fun ev w1 hR hb hh=>?_);have e41:(ev (.tmp 41)=.pointer (some ⟨g,0,none⟩)):=hh.at 0;clear hh;refine Each.Goes.same ?_;go_simp;try with_reducible rfl
    ·refine Each.fine rfl (fun ev w1 hR hb hh=>?_);have e42:(ev (.tmp 42)=.pointer (some ⟨g,1,none⟩)):=hh.at 0;clear hh;have q1:=(HQ.out.below hb).c 1 _ rfl;have q2:=(HQ.out.below hb).c 2 _ rfl;have q3:=(HQ.out.below hb).c 3 _ rfl;have q4:=(HQ.out.below hb).c 4 _ rfl;have q5:=(HQ.out.below hb).c 5 _ rfl;have q6:=(HQ.out.below hb).c 6 _ rfl;have q7:=(HQ.out.below hb).c 7 _ rfl;have q8:=(HQ.out.below hb).c 8 _ rfl;have q9:=(HQ.out.below hb).c 9 _ rfl;have q10:=(HQ.out.below hb).c 10 _ rfl;refine Each.Goes.same ?_;go_simp;try with_reducible rfl
    ·refine Each.fine rfl (fun ev w1 hR hb hh=>?_);have e35:(ev (.tmp 35)=.string x):=hh.at 0;have e39:(ev (.tmp 39)=.int .u32 (p:Int)):=hh.at 1;have e43:(ev (.tmp 43)=.agg #[.int .i64 b.x0,.int .i64 b.x1,.int .i64 b.x2,.int .i64 b.x3,.int .i64 b.x4,.int .i64 b.x5,.int .i64 b.x6,.int .i64 b.x7,.bool b.ch,.bool b.od]):=hh.at 2;clear hh;have ef:=hR.func
     refine Each.Goes.enter 80 #[.string x,.int .u32 (p:Int),.agg #[.int .i64 b.x0,.int .i64 b.x1,.int .i64 b.x2,.int .i64 b.x3,.int .i64 b.x4,.int .i64 b.x5,.int .i64 b.x6,.int .i64 b.x7,.bool b.ch,.bool b.od]] (by go_simp) ((HZ.out w1).mono ?_);rintro r w2 ⟨rfl,hb2⟩;exact ⟨_,rfl,hb2,rfl⟩
    ·refine Each.fine rfl (fun ev w1 hR hb hh=>?_);have e44:(ev (.tmp 44)=.tuple #[.string qm,.string qt,.int .i64 (qk:Int),.int .i64 (qe:Int)]):=hh.at 0;clear hh;refine Each.Goes.same ?_;go_simp;try with_reducible rfl
    ·refine Each.fine rfl (fun ev w1 hR hb hh=>?_);have e34:(ev (.tmp 34)=.tuple #[.string qm,.string qt,.int .i64 (qk:Int),.int .i64 (qe:Int)]):=hh.at 0;clear hh;refine Each.Goes.same ?_;go_simp;try with_reducible rfl
    ·refine Each.fine rfl (fun ev w1 hR hb hh=>?_);have e34:(ev (.tmp 34)=.tuple #[.string qm,.string qt,.int .i64 (qk:Int),.int .i64 (qe:Int)]):=hh.at 0;clear hh;refine Each.Goes.same ?_;go_simp;try with_reducible rfl
    ·refine Each.fine rfl (fun ev w1 hR hb hh=>?_);have e34:(ev (.tmp 34)=.tuple #[.string qm,.string qt,.int .i64 (qk:Int),.int .i64 (qe:Int)]):=hh.at 0;clear hh;refine Each.Goes.same ?_;go_simp;try with_reducible rfl
    ·refine Each.fine rfl (fun ev w1 hR hb hh=>?_);have e34:(ev (.tmp 34)=.tuple #[.string qm,.string qt,.int .i64 (qk:Int),.int .i64 (qe:Int)]):=hh.at 0;clear hh;refine Each.Goes.same ?_;go_simp;try with_reducible rfl
    ·refine Each.fine rfl (fun ev w1 hR hb hh=>?_);have e45:(ev (.tmp 45)=.string qm):=hh.at 0;clear hh;refine Each.Goes.same ?_;go_simp;try with_reducible rfl
    ·refine Each.fine rfl (fun ev w1 hR hb hh=>?_);have e46:(ev (.tmp 46)=.string qt):=hh.at 0;clear hh;refine Each.Goes.same ?_;go_simp;try with_reducible rfl
    ·refine Each.fine rfl (fun ev w1 hR hb hh=>?_);have e47:(ev (.tmp 47)=.int .i64 (qk:Int)):=hh.at 0;clear hh;refine Each.Goes.same ?_;go_simp;try with_reducible rfl
    ·refine Each.fine rfl (fun ev w1 hR hb hh=>?_);have e48:(ev (.tmp 48)=.int .i64 (qe:Int)):=hh.at 0;clear hh;refine Each.Goes.same ?_;go_simp;try with_reducible rfl
   intro g1 w2 hb hf;have z4:(g1 4=.string qm):=hf.at 15;have z5:(g1 5=.string qt):=hf.at 16;have z6:(g1 6=.int .i64 (qk:Int)):=hf.at 17;have z7:(g1 7=.int .i64 (qe:Int)):=hf.at 18;clear hf;simp only [Each.putg,Act.put,qI,qY,qX];rw [z4];rw [z5];rw [z6];rw [z7]
   have HFA:=Lib.hid (fail_any (H.out.below hb) qe);have HS1:=Lib.hid (Step.of_below hb (L:=blks g q v f bd t o));clear hb HQ
   go_wp2_with (go_at_call 56;with_reducible refine HFA.out.mono ?_;rintro r w4 ⟨rfl,hP,hS⟩);first | go_end0 | refine bodyPost_ret (results_none rfl _ _ _) rfl ?_
   exact ⟨rfl,_,_,_,_,_,_,hP,HS1.out.trans hS⟩
theorem ended_behind (x:ByteArray) (h:PR w B g q v f bd t o p b s) (hst:s.st=5):Calls Tryz.prog 72 #[ptr g,.string x] w fun r w'=>
 r=.returned (.tuple #[])∧∃q1 v1 f1 bd1 t1 o1,PR w' B g q1 v1 f1 bd1 t1 o1 p b (s.ended p b x.data.toList)∧Step (blks g q v f bd t o) (blks g q1 v1 f1 bd1 t1 o1) w w':=by
 have es:s.ended p b x.data.toList={s with st:=3,rd:=nl p b.x0}:=by unfold S.ended;rw [hst];rfl
 rw [es];have c11:=h.cs.c11;rw [hst] at c11;have H:=Lib.hid h;clear es
 have HQ:=Lib.hid ((h.drew 1).bk)
 have HBW:=Lib.hid (show B≤(w.drewN 1).heap.size from Nat.le_trans h.own.ge (Nat.le_of_lt (h.drew 1).own.lt));clear h hst;go_enter Tryz.func72,Tryz.ntmps72;go_upto_region 21 with fail
 clear c11;refine Each.region_float 12 [122,123,124,125,126,127,128,129,130,131,132,133]
  [Each.is (.pointer (some ⟨g,0,none⟩)),
    Each.is (.pointer (some ⟨g,0,none⟩)),
    Each.is (.pointer (some ⟨g,0,none⟩)),
    Each.is (.pointer (some ⟨g,0,none⟩)),
    Each.is (.pointer (some ⟨g,0,none⟩)),
    Each.is (.int .u32 (p:Int)),
    Each.is (.pointer (some ⟨g,0,none⟩)),
    Each.is (.pointer (some ⟨g,0,none⟩)),
    Each.is (.pointer (some ⟨g,1,none⟩)),
    Each.is (.pointer (some ⟨g,1,none⟩)),
    Each.is (.int .i64 b.x0),
    fun v u=>∃q1,v=ptr q1∧w.heap.size≤q1∧Ln.Rr u B q1 nil p (nl p (b.x0))]
  [] 6 (some 1) (.quiet 12 (.quiet 13 (.act 14 (.quiet 15 (.quiet 16 (.act 17 .done)))))) (.quiet 1 (.quiet 12 (.quiet 13 (.act 14 (.quiet 15 (.quiet 16 (.act 17 .done))))))) (by kernel_rfl) (by kernel_rfl) (by kernel_rfl) (by kernel_rfl) (fun k0 h=>by cases h;kernel_rfl) (fun _ _ d _ _ h=>by cases d<;>exact h) (by rfl) (by rfl)
  ⟨Each.Lasts.eq _,Each.Lasts.eq _,Each.Lasts.eq _,Each.Lasts.eq _,Each.Lasts.eq _,Each.Lasts.eq _,Each.Lasts.eq _,Each.Lasts.eq _,Each.Lasts.eq _,Each.Lasts.eq _,Each.Lasts.eq _,((fun _ _ _ hb h=>by obtain ⟨q1,e1,h1,h2⟩:=h;exact ⟨q1,e1,h1,rr_below h2 hb⟩)),trivial⟩ trivial (by rfl) ?_ ?_ ?_
 ·refine ⟨?_,?_,?_,?_,?_,?_,?_,?_,?_,?_,?_,?_,trivial⟩
  ·refine Each.fine rfl (fun ev w1 hR hb hh=>?_);clear hh;have e0:=hR.old 0 rfl;simp only [qA,qT,qZ,qO] at e0;refine Each.Goes.same ?_;go_simp;try with_reducible rfl
  ·refine Each.fine rfl (fun ev w1 hR hb hh=>?_);clear hh;have e0:=hR.old 0 rfl;simp only [qA,qT,qZ,qO] at e0;refine Each.Goes.same ?_;go_simp;try with_reducible rfl
  ·refine Each.fine rfl (fun ev w1 hR hb hh=>?_);clear hh;have e0:=hR.old 0 rfl;simp only [qA,qT,qZ,qO] at e0;refine Each.Goes.same ?_;go_simp;try with_reducible rfl
  ·refine Each.fine rfl (fun ev w1 hR hb hh=>?_);have e124:(ev (.tmp 124)=.pointer (some ⟨g,0,none⟩)):=hh.at 0;clear hh;refine Each.Goes.same ?_;go_simp;try with_reducible rfl
  ·refine Each.fine rfl (fun ev w1 hR hb hh=>?_);have e125:(ev (.tmp 125)=.pointer (some ⟨g,0,none⟩)):=hh.at 0;clear hh;refine Each.Goes.same ?_;go_simp;try with_reducible rfl
  ·refine Each.fine rfl (fun ev w1 hR hb hh=>?_);have e126:(ev (.tmp 126)=.pointer (some ⟨g,0,none⟩)):=hh.at 0;clear hh;have q0:=(HQ.out.below hb).c 0 _ rfl;refine Each.Goes.same ?_;go_simp;try with_reducible rfl
  ·refine Each.fine rfl (fun ev w1 hR hb hh=>?_);clear hh;have e0:=hR.old 0 rfl;simp only [qA,qT,qZ,qO] at e0;refine Each.Goes.same ?_;go_simp;try with_reducible rfl
  ·refine Each.fine rfl (fun ev w1 hR hb hh=>?_);have e128:(ev (.tmp 128)=.pointer (some ⟨g,0,none⟩)):=hh.at 0;clear hh;refine Each.Goes.same ?_;go_simp;try with_reducible rfl
  ·refine Each.fine rfl (fun ev w1 hR hb hh=>?_);have e129:(ev (.tmp 129)=.pointer (some ⟨g,0,none⟩)):=hh.at 0;clear hh;refine Each.Goes.same ?_;go_simp;try with_reducible rfl
  ·refine Each.fine rfl (fun ev w1 hR hb hh=>?_);have e130:(ev (.tmp 130)=.pointer (some ⟨g,1,none⟩)):=hh.at 0;clear hh;refine Each.Goes.same ?_;go_simp;try with_reducible rfl
  ·refine Each.fine rfl (fun ev w1 hR hb hh=>?_);have e131:(ev (.tmp 131)=.pointer (some ⟨g,1,none⟩)):=hh.at 0;clear hh;have q1:=(HQ.out.below hb).c 1 _ rfl;refine Each.Goes.same ?_;go_simp;try with_reducible rfl
  ·refine Each.fine rfl (fun ev w1 hR hb hh=>?_);have e127:(ev (.tmp 127)=.int .u32 (p:Int)):=hh.at 0;have e132:(ev (.tmp 132)=.int .i64 b.x0):=hh.at 1;clear hh;have ef:=hR.func
   refine Each.Goes.enter 55 #[.int .u32 (p:Int),.int .i64 (b.x0)] (by go_simp) ((rnew_line B (b.x0) w1 (Nat.le_trans HBW.out hb.size)).mono ?_);rintro r w2 ⟨q1,rfl,h1,h2,hb2⟩;exact ⟨_,rfl,hb2,q1,rfl,Nat.le_trans hb.size h1,h2⟩
 ·intro g1 w2 hb hf;have z122:(g1 122=.pointer (some ⟨g,0,none⟩)):=hf.at 0;have z123:(g1 123=.pointer (some ⟨g,0,none⟩)):=hf.at 1;have z133:((fun v u=>∃q1,v=ptr q1∧w.heap.size≤q1∧Ln.Rr u B q1 nil p (nl p (b.x0))) (g1 133) w2):=hf.at 11;clear hf;obtain ⟨q1,e1,hq1,hr1⟩:=z133;simp only [Each.putg,Act.put,qI,qY,qX];rw [e1,z122,z123];simp only [Tree.grow,Tree.put1,qZ,qS];refine Tree.quiet (by rfl) (ptr g) (fun _ _=>by go_simp) ?_;simp only [Act.put,qI,qY,qX];refine Tree.quiet (by rfl) (.pointer (some ⟨g,11,none⟩)) (fun _ _=>by go_simp) ?_;simp only [Act.put,qI,qY,qX];have h1:=H.out.below hb;have ho:=H.out.own.line hb hr1 hq1;have d11:=h1.cs.c11;have z11:=h1.marks 11
  refine Tree.change (by rfl) (fun K hK=>?_);go_simp;refine hK _ _ trivial ?_;clear hK K;refine Tree.quiet (by rfl) (ptr g) (fun _ _=>by go_simp) ?_;simp only [Act.put,qI,qY,qX];refine Tree.quiet (by rfl) (.pointer (some ⟨g,12,none⟩)) (fun _ _=>by go_simp) ?_;simp only [Act.put,qI,qY,qX];have c12:=h1.cs.c12;have z12:=h1.marks 12
  refine Tree.change (by rfl) (fun K hK=>?_);go_simp;refine hK _ _ trivial ?_;clear hK K;refine Tree.done ?_
  have HR:=Lib.hid (row_setL (row_setL h1.row 11 (.int .i64 3)) 12 (ptr q1))
  have HO:=Lib.hid ((ho.set 11 (.int .i64 3)).set 12 (ptr q1))
  have HS:=Lib.hid ((Step.line (g:=g) (q:=q) (v:=v) (f:=f) (bd:=bd) (t:=t) (o:=o) hb hq1).trans ((Step.set g 11 (.int .i64 3) (by simp)).trans (Step.set g 12 (ptr q1) (by simp))));clear HQ HBW hr1 hq1 c12 z12 d11 z11 h1 ho hb;go_wp2;first | go_end0 | refine bodyPost_ret (results_none rfl _ _ _) rfl ?_
  exact ⟨rfl,_,_,_,_,_,_,⟨HR.out,HO.out⟩,HS.out⟩
 ·intro k0 hk0 g1 w2 hb hf;cases hk0;have z122:(g1 122=.pointer (some ⟨g,0,none⟩)):=hf.at 0;have z133:((fun v u=>∃q1,v=ptr q1∧w.heap.size≤q1∧Ln.Rr u B q1 nil p (nl p (b.x0))) (g1 133) w2):=hf.at 11;clear hf;obtain ⟨q1,e1,hq1,hr1⟩:=z133;simp only [Each.putg,Act.put,qI,qY,qX];rw [e1,z122];simp only [Tree.grow,Tree.put1,qZ,qS];refine Tree.quiet (by rfl) (ptr g) (fun _ _=>by go_simp) ?_;simp only [Act.put,qI,qY,qX];refine Tree.quiet (by rfl) (ptr g) (fun _ _=>by go_simp) ?_;simp only [Act.put,qI,qY,qX];refine Tree.quiet (by rfl) (.pointer (some ⟨g,11,none⟩)) (fun _ _=>by go_simp) ?_;simp only [Act.put,qI,qY,qX];have h1:=H.out.below hb;have ho:=H.out.own.line hb hr1 hq1;have d11:=h1.cs.c11;have z11:=h1.marks 11
  refine Tree.change (by rfl) (fun K hK=>?_);go_simp;refine hK _ _ trivial ?_;clear hK K;refine Tree.quiet (by rfl) (ptr g) (fun _ _=>by go_simp) ?_;simp only [Act.put,qI,qY,qX];refine Tree.quiet (by rfl) (.pointer (some ⟨g,12,none⟩)) (fun _ _=>by go_simp) ?_;simp only [Act.put,qI,qY,qX];have c12:=h1.cs.c12;have z12:=h1.marks 12
  refine Tree.change (by rfl) (fun K hK=>?_);go_simp;refine hK _ _ trivial ?_;clear hK K;refine Tree.done ?_
  have HR:=Lib.hid (row_setL (row_setL h1.row 11 (.int .i64 3)) 12 (ptr q1))
  have HO:=Lib.hid ((ho.set 11 (.int .i64 3)).set 12 (ptr q1))
  have HS:=Lib.hid ((Step.line (g:=g) (q:=q) (v:=v) (f:=f) (bd:=bd) (t:=t) (o:=o) hb hq1).trans ((Step.set g 11 (.int .i64 3) (by simp)).trans (Step.set g 12 (ptr q1) (by simp))));clear HQ HBW hr1 hq1 c12 z12 d11 z11 h1 ho hb;go_wp2;first | go_end0 | refine bodyPost_ret (results_none rfl _ _ _) rfl ?_
  exact ⟨rfl,_,_,_,_,_,_,⟨HR.out,HO.out⟩,HS.out⟩
end code
end Go.Proofs.YtimoakmcelocfaaGreat.Par
namespace Go.Proofs.YtimoakmcelocfaaGreat.Par
open Go.RowKit Base Txt Mem
section code
set_option maxHeartbeats 4000000
set_option maxRecDepth 20000
attribute [local go_sem] Base.some_undef
variable {w:World} {B:Zone} {g q:Nat} {v f bd t o:Value} {p:Nat} {b:Bd} {s:S}
theorem body_any (c:UInt8) (h:PR w B g q v f bd t o p b s) (hst0:s.st=2∨s.st=4) (hl:1≤s.left∧s.left≤2000000) (hbl:s.r.body.length≤2000000) (hout:s.out.length≤1000000000):Calls Tryz.prog 57 #[ptr g,.int .u8 (c.toNat:Int)] w fun r w'=>
 r=.returned (.tuple #[])∧∃q1 v1 f1 bd1 t1 o1,PR w' B g q1 v1 f1 bd1 t1 o1 p b (S.bodyB p b {s with fresh:=false} c)∧Step (blks g q v f bd t o) (blks g q1 v1 f1 bd1 t1 o1) w w':=by
 obtain ⟨iB,hi,hz0,hz1,hz2⟩:=info_parts byte_info;have I1:=Lib.hid hi;have I2:=Lib.hid hz0;have I3:=Lib.hid hz1;have I4:=Lib.hid hz2;obtain ⟨bb,cb,eb, -⟩:=Ln.own_slice h.own.D;subst eb;have H:=Lib.hid h;have HBL:=Lib.hid hbl;have HOU:=Lib.hid hout
 have H1:=Lib.hid (h.put 23 (.bool false) {s with fresh:=false} rfl rfl rfl rfl rfl rfl)
 have HS1:=Lib.hid (Step.set (w:=w) (L:=blks g q v f (.slice bb s.r.body.length cb) t o) g 23 (.bool false) (by simp));have c23:=h.cs.c23;have z23:=h.marks 23;clear hi hz0 hz1 hz2 hbl hout h;by_cases hmore:1<s.left
 ·obtain ⟨k,hleft⟩:∃k,s.left=k+1:=⟨s.left-1,by omega⟩;have e:S.bodyB p b {s with fresh:=false} c={s with fresh:=false,r:={s.r with body:=s.r.body ++ [c]},left:=k}:=by
   unfold S.bodyB;show (if 1<s.left then ({s with fresh:=false,r:={s.r with body:=s.r.body ++ [c]},left:=s.left-1}:S) else _)= _;rw [if_pos hmore,hleft];rfl
  rw [e];obtain ⟨a1,a2⟩:=Rec.wraps (k:Int) ⟨by omega,by omega⟩;have a3:(k:Int)+1-1=(k:Int):=by omega
  have t1:(0:Int)<(k:Int):=by omega
  have t1n:0<k:=by omega
  clear e hmore;rcases hst0 with hst | hst
  ·clear hl;have HST:=Lib.hid hst;have HLE:=Lib.hid hleft;clear hst hleft;have c11:w.cell? ⟨g,11,none⟩=some (.int .i64 2):=by have:=H.out.cs.c11;rw [HST.out] at this;exact this
   go_enter Tryz.func57,Tryz.ntmps57;go_upto_region 2 with fail
   generalize w.setCell ⟨g,23,none⟩ (.bool false)=W1 at *;clear c11 c23 z23;have c18:=H1.out.cs.c18;have z18:=H1.out.marks 18;go_upto_region 3 with
    (at_builtin;refine App.wpList_append_list _ rfl _ _ 34 rfl B 5 iB (.int .u8 0) 1 1 Tryz.underlying34 I1.out I2.out I3.out I4.out rfl (by decide) (.slice bb s.r.body.length cb) s.r.body.length (Rec.vals s.r.body) rfl (H1.out.own.D.alloc (.cells #[Rec.byteV c] 5)) (some ⟨W1.heap.size,0,none⟩) 1 1 [Rec.byteV c] rfl rfl (fun _=>⟨W1.heap.size,0,rfl,fun j u hu=>by rw [Nat.zero_add];exact (Rec.Bk.new W1 _ rfl 5 [Rec.byteV c]).c j u hu⟩) (fun u hu=>by rw [List.mem_singleton.1 hu];rfl) (by have:=HBL.out;unfold maxLen;omega) (by have:=HBL.out;omega) (by have:=H1.out.own.lt;have:=H1.out.own.ge;simp;omega) ?_;intro v2 w5 hO5 hgr5 _ hor5;obtain ⟨b9,c9,e9, -⟩:=Ln.own_slice hO5;subst e9;have hk5:Keeps [(.slice bb s.r.body.length cb:Value).ownBlock] (W1.alloc (.cells #[Rec.byteV c] 5)) w5:=Keeps.grown hgr5 fun k e=>by rw [e];exact List.mem_singleton.2 rfl
     have h4:=H1.out.below ((Below.refl _ _).alloc (Nat.le_refl _) (.cells #[Rec.byteV c] 5));have hl:(s.r.body ++ [c]).length=s.r.body.length+1:=by simp
     obtain ⟨ho5,hs5⟩:=h4.own.setD (bd':=.slice b9 (s.r.body.length+1) c9) (body':=s.r.body ++ [c]) hk5 (by rw [hl,Rec.vals_app];exact hO5) (by
      rcases hor5 with e | e
      ·exact .inl e
      ·exact .inr ⟨_,e,Nat.le_refl _⟩)
     have hrow:w5.heap[g]?= _:=hk5.row h4.row (fun hm=>by
      have e:some g=(.slice bb s.r.body.length cb:Value).ownBlock:=by simpa using hm
      exact h4.own.lone.ne (i:=0) (j:=4) rfl (by decide) (by rw [e];rfl))
     have HR5:=Lib.hid hrow;have HO5:=Lib.hid ho5;have HS5:=Lib.hid ((Step.of_below ((Below.refl W1.heap.size W1).alloc (Nat.le_refl _) (.cells #[Rec.byteV c] 5))).trans hs5);have d18:=row_cellL hrow (k:=18) rfl;have y18:=Ln.row_frozen hrow 18;clear hO5 hgr5 hor5 hk5 h4 hl ho5 hs5 hrow c18 z18)
   have H6:=Lib.hid (show PR (w5.setCell ⟨g,18,none⟩ (.slice b9 (s.r.body.length+1) c9)) B g q v f (.slice b9 (s.r.body.length+1) c9) t o p b {s with fresh:=false,r:={s.r with body:=s.r.body ++ [c]}} from ⟨row_setL HR5.out 18 (.slice b9 (s.r.body.length+1) c9),HO5.out.set 18 (.slice b9 (s.r.body.length+1) c9)⟩)
   have HS6:=Lib.hid ((HS1.out.trans HS5.out).trans (Step.set g 18 (.slice b9 (s.r.body.length+1) c9) (by simp)));clear HR5 HO5 HS5 d18 y18 HS1;generalize w5.setCell ⟨g,18,none⟩ (.slice b9 (s.r.body.length+1) c9)=W6 at *;have c22:W6.cell? ⟨g,22,none⟩=some (.int .i64 ((k:Int)+1)):=by have:=H6.out.cs.c22;rw [HLE.out] at this;exact this
   have z22:=H6.out.marks 22;have c11:W6.cell? ⟨g,11,none⟩=some (.int .i64 2):=by have:=H6.out.cs.c11;rw [HST.out] at this;exact this
   have H7:=Lib.hid (H6.out.put 22 (.int .i64 (k:Int)) {s with fresh:=false,r:={s.r with body:=s.r.body ++ [c]},left:=k} rfl rfl rfl rfl rfl rfl)
   have HS7:=Lib.hid (HS6.out.trans (Step.set g 22 (.int .i64 (k:Int)) (by simp)));clear HS6 H1;clear H6;go_wp2;first | go_end0 | refine bodyPost_ret (results_none rfl _ _ _) rfl ?_
   exact ⟨rfl,_,_,_,_,_,_,H7.out,HS7.out⟩
  ·clear hl;have HST:=Lib.hid hst;have HLE:=Lib.hid hleft;clear hst hleft;have c11:w.cell? ⟨g,11,none⟩=some (.int .i64 4):=by have:=H.out.cs.c11;rw [HST.out] at this;exact this
   go_enter Tryz.func57,Tryz.ntmps57;go_upto_region 2 with fail
   generalize w.setCell ⟨g,23,none⟩ (.bool false)=W1 at *;clear c11 c23 z23;have c18:=H1.out.cs.c18;have z18:=H1.out.marks 18;go_upto_region 3 with
    (at_builtin;refine App.wpList_append_list _ rfl _ _ 34 rfl B 5 iB (.int .u8 0) 1 1 Tryz.underlying34 I1.out I2.out I3.out I4.out rfl (by decide) (.slice bb s.r.body.length cb) s.r.body.length (Rec.vals s.r.body) rfl (H1.out.own.D.alloc (.cells #[Rec.byteV c] 5)) (some ⟨W1.heap.size,0,none⟩) 1 1 [Rec.byteV c] rfl rfl (fun _=>⟨W1.heap.size,0,rfl,fun j u hu=>by rw [Nat.zero_add];exact (Rec.Bk.new W1 _ rfl 5 [Rec.byteV c]).c j u hu⟩) (fun u hu=>by rw [List.mem_singleton.1 hu];rfl) (by have:=HBL.out;unfold maxLen;omega) (by have:=HBL.out;omega) (by have:=H1.out.own.lt;have:=H1.out.own.ge;simp;omega) ?_;intro v2 w5 hO5 hgr5 _ hor5;obtain ⟨b9,c9,e9, -⟩:=Ln.own_slice hO5;subst e9;have hk5:Keeps [(.slice bb s.r.body.length cb:Value).ownBlock] (W1.alloc (.cells #[Rec.byteV c] 5)) w5:=Keeps.grown hgr5 fun k e=>by rw [e];exact List.mem_singleton.2 rfl
     have h4:=H1.out.below ((Below.refl _ _).alloc (Nat.le_refl _) (.cells #[Rec.byteV c] 5));have hl:(s.r.body ++ [c]).length=s.r.body.length+1:=by simp
     obtain ⟨ho5,hs5⟩:=h4.own.setD (bd':=.slice b9 (s.r.body.length+1) c9) (body':=s.r.body ++ [c]) hk5 (by rw [hl,Rec.vals_app];exact hO5) (by
      rcases hor5 with e | e
      ·exact .inl e
      ·exact .inr ⟨_,e,Nat.le_refl _⟩)
     have hrow:w5.heap[g]?= _:=hk5.row h4.row (fun hm=>by
      have e:some g=(.slice bb s.r.body.length cb:Value).ownBlock:=by simpa using hm
      exact h4.own.lone.ne (i:=0) (j:=4) rfl (by decide) (by rw [e];rfl))
     have HR5:=Lib.hid hrow;have HO5:=Lib.hid ho5;have HS5:=Lib.hid ((Step.of_below ((Below.refl W1.heap.size W1).alloc (Nat.le_refl _) (.cells #[Rec.byteV c] 5))).trans hs5);have d18:=row_cellL hrow (k:=18) rfl;have y18:=Ln.row_frozen hrow 18;clear hO5 hgr5 hor5 hk5 h4 hl ho5 hs5 hrow c18 z18)
   have H6:=Lib.hid (show PR (w5.setCell ⟨g,18,none⟩ (.slice b9 (s.r.body.length+1) c9)) B g q v f (.slice b9 (s.r.body.length+1) c9) t o p b {s with fresh:=false,r:={s.r with body:=s.r.body ++ [c]}} from ⟨row_setL HR5.out 18 (.slice b9 (s.r.body.length+1) c9),HO5.out.set 18 (.slice b9 (s.r.body.length+1) c9)⟩)
   have HS6:=Lib.hid ((HS1.out.trans HS5.out).trans (Step.set g 18 (.slice b9 (s.r.body.length+1) c9) (by simp)));clear HR5 HO5 HS5 d18 y18 HS1;generalize w5.setCell ⟨g,18,none⟩ (.slice b9 (s.r.body.length+1) c9)=W6 at *;have c22:W6.cell? ⟨g,22,none⟩=some (.int .i64 ((k:Int)+1)):=by have:=H6.out.cs.c22;rw [HLE.out] at this;exact this
   have z22:=H6.out.marks 22;have c11:W6.cell? ⟨g,11,none⟩=some (.int .i64 4):=by have:=H6.out.cs.c11;rw [HST.out] at this;exact this
   have H7:=Lib.hid (H6.out.put 22 (.int .i64 (k:Int)) {s with fresh:=false,r:={s.r with body:=s.r.body ++ [c]},left:=k} rfl rfl rfl rfl rfl rfl)
   have HS7:=Lib.hid (HS6.out.trans (Step.set g 22 (.int .i64 (k:Int)) (by simp)));clear HS6 H1;clear H6;go_wp2;first | go_end0 | refine bodyPost_ret (results_none rfl _ _ _) rfl ?_
   exact ⟨rfl,_,_,_,_,_,_,H7.out,HS7.out⟩
 ·have hleft:s.left=1:=by omega
  rcases hst0 with hst | hst
  ·have e:S.bodyB p b {s with fresh:=false} c=S.whole p b {s with fresh:=false,r:={s.r with body:=s.r.body ++ [c]},left:=0}:=by
    unfold S.bodyB;show (if 1<s.left then _ else if s.st=2 then S.whole p b {s with fresh:=false,r:={s.r with body:=s.r.body ++ [c]},left:=s.left-1} else _)= _;rw [if_neg hmore,if_pos hst,hleft]
   rw [e];clear e hmore hl;have HST:=Lib.hid hst;have HLE:=Lib.hid hleft;clear hst hleft;have c11:w.cell? ⟨g,11,none⟩=some (.int .i64 2):=by have:=H.out.cs.c11;rw [HST.out] at this;exact this
   go_enter Tryz.func57,Tryz.ntmps57;go_upto_region 2 with fail
   generalize w.setCell ⟨g,23,none⟩ (.bool false)=W1 at *;clear c11 c23 z23;have c18:=H1.out.cs.c18;have z18:=H1.out.marks 18;go_upto_region 3 with
    (at_builtin;refine App.wpList_append_list _ rfl _ _ 34 rfl B 5 iB (.int .u8 0) 1 1 Tryz.underlying34 I1.out I2.out I3.out I4.out rfl (by decide) (.slice bb s.r.body.length cb) s.r.body.length (Rec.vals s.r.body) rfl (H1.out.own.D.alloc (.cells #[Rec.byteV c] 5)) (some ⟨W1.heap.size,0,none⟩) 1 1 [Rec.byteV c] rfl rfl (fun _=>⟨W1.heap.size,0,rfl,fun j u hu=>by rw [Nat.zero_add];exact (Rec.Bk.new W1 _ rfl 5 [Rec.byteV c]).c j u hu⟩) (fun u hu=>by rw [List.mem_singleton.1 hu];rfl) (by have:=HBL.out;unfold maxLen;omega) (by have:=HBL.out;omega) (by have:=H1.out.own.lt;have:=H1.out.own.ge;simp;omega) ?_;intro v2 w5 hO5 hgr5 _ hor5;obtain ⟨b9,c9,e9, -⟩:=Ln.own_slice hO5;subst e9;have hk5:Keeps [(.slice bb s.r.body.length cb:Value).ownBlock] (W1.alloc (.cells #[Rec.byteV c] 5)) w5:=Keeps.grown hgr5 fun k e=>by rw [e];exact List.mem_singleton.2 rfl
     have h4:=H1.out.below ((Below.refl _ _).alloc (Nat.le_refl _) (.cells #[Rec.byteV c] 5));have hl:(s.r.body ++ [c]).length=s.r.body.length+1:=by simp
     obtain ⟨ho5,hs5⟩:=h4.own.setD (bd':=.slice b9 (s.r.body.length+1) c9) (body':=s.r.body ++ [c]) hk5 (by rw [hl,Rec.vals_app];exact hO5) (by
      rcases hor5 with e | e
      ·exact .inl e
      ·exact .inr ⟨_,e,Nat.le_refl _⟩)
     have hrow:w5.heap[g]?= _:=hk5.row h4.row (fun hm=>by
      have e:some g=(.slice bb s.r.body.length cb:Value).ownBlock:=by simpa using hm
      exact h4.own.lone.ne (i:=0) (j:=4) rfl (by decide) (by rw [e];rfl))
     have HR5:=Lib.hid hrow;have HO5:=Lib.hid ho5;have HS5:=Lib.hid ((Step.of_below ((Below.refl W1.heap.size W1).alloc (Nat.le_refl _) (.cells #[Rec.byteV c] 5))).trans hs5);have d18:=row_cellL hrow (k:=18) rfl;have y18:=Ln.row_frozen hrow 18;clear hO5 hgr5 hor5 hk5 h4 hl ho5 hs5 hrow c18 z18)
   have H6:=Lib.hid (show PR (w5.setCell ⟨g,18,none⟩ (.slice b9 (s.r.body.length+1) c9)) B g q v f (.slice b9 (s.r.body.length+1) c9) t o p b {s with fresh:=false,r:={s.r with body:=s.r.body ++ [c]}} from ⟨row_setL HR5.out 18 (.slice b9 (s.r.body.length+1) c9),HO5.out.set 18 (.slice b9 (s.r.body.length+1) c9)⟩)
   have HS6:=Lib.hid ((HS1.out.trans HS5.out).trans (Step.set g 18 (.slice b9 (s.r.body.length+1) c9) (by simp)));clear HR5 HO5 HS5 d18 y18 HS1;generalize w5.setCell ⟨g,18,none⟩ (.slice b9 (s.r.body.length+1) c9)=W6 at *;have c22:W6.cell? ⟨g,22,none⟩=some (.int .i64 1):=by have:=H6.out.cs.c22;rw [HLE.out] at this;exact this
   have z22:=H6.out.marks 22;have c11:W6.cell? ⟨g,11,none⟩=some (.int .i64 2):=by have:=H6.out.cs.c11;rw [HST.out] at this;exact this
   have H7:=Lib.hid (H6.out.put 22 (.int .i64 0) {s with fresh:=false,r:={s.r with body:=s.r.body ++ [c]},left:=0} rfl rfl rfl rfl rfl rfl)
   have HS7:=Lib.hid (HS6.out.trans (Step.set g 22 (.int .i64 0) (by simp)));clear HS6 H1;clear H6
   have HW:=Lib.hid (whole_any H7.out HOU.out)
   go_wp2_with (go_at_call 69;with_reducible refine HW.out.mono ?_;rintro r w7 ⟨rfl,q1,o1,hP,hS⟩);first | go_end0 | refine bodyPost_ret (results_none rfl _ _ _) rfl ?_
   exact ⟨rfl,_,_,_,_,_,_,hP,HS7.out.trans hS⟩
  ·have e:S.bodyB p b {s with fresh:=false} c={s with fresh:=false,r:={s.r with body:=s.r.body ++ [c]},left:=0,st:=5,rd:=nl p 0}:=by
    unfold S.bodyB;show (if 1<s.left then _ else if s.st=2 then _ else ({s with fresh:=false,r:={s.r with body:=s.r.body ++ [c]},left:=s.left-1,st:=5,rd:=nl p 0}:S))= _;rw [if_neg hmore,if_neg (by omega),hleft]
   rw [e];clear e hmore hl;have HST:=Lib.hid hst;have HLE:=Lib.hid hleft;clear hst hleft;have c11:w.cell? ⟨g,11,none⟩=some (.int .i64 4):=by have:=H.out.cs.c11;rw [HST.out] at this;exact this
   go_enter Tryz.func57,Tryz.ntmps57;go_upto_region 2 with fail
   generalize w.setCell ⟨g,23,none⟩ (.bool false)=W1 at *;clear c11 c23 z23;have c18:=H1.out.cs.c18;have z18:=H1.out.marks 18;go_upto_region 3 with
    (at_builtin;refine App.wpList_append_list _ rfl _ _ 34 rfl B 5 iB (.int .u8 0) 1 1 Tryz.underlying34 I1.out I2.out I3.out I4.out rfl (by decide) (.slice bb s.r.body.length cb) s.r.body.length (Rec.vals s.r.body) rfl (H1.out.own.D.alloc (.cells #[Rec.byteV c] 5)) (some ⟨W1.heap.size,0,none⟩) 1 1 [Rec.byteV c] rfl rfl (fun _=>⟨W1.heap.size,0,rfl,fun j u hu=>by rw [Nat.zero_add];exact (Rec.Bk.new W1 _ rfl 5 [Rec.byteV c]).c j u hu⟩) (fun u hu=>by rw [List.mem_singleton.1 hu];rfl) (by have:=HBL.out;unfold maxLen;omega) (by have:=HBL.out;omega) (by have:=H1.out.own.lt;have:=H1.out.own.ge;simp;omega) ?_;intro v2 w5 hO5 hgr5 _ hor5;obtain ⟨b9,c9,e9, -⟩:=Ln.own_slice hO5;subst e9;have hk5:Keeps [(.slice bb s.r.body.length cb:Value).ownBlock] (W1.alloc (.cells #[Rec.byteV c] 5)) w5:=Keeps.grown hgr5 fun k e=>by rw [e];exact List.mem_singleton.2 rfl
     have h4:=H1.out.below ((Below.refl _ _).alloc (Nat.le_refl _) (.cells #[Rec.byteV c] 5));have hl:(s.r.body ++ [c]).length=s.r.body.length+1:=by simp
     obtain ⟨ho5,hs5⟩:=h4.own.setD (bd':=.slice b9 (s.r.body.length+1) c9) (body':=s.r.body ++ [c]) hk5 (by rw [hl,Rec.vals_app];exact hO5) (by
      rcases hor5 with e | e
      ·exact .inl e
      ·exact .inr ⟨_,e,Nat.le_refl _⟩)
     have hrow:w5.heap[g]?= _:=hk5.row h4.row (fun hm=>by
      have e:some g=(.slice bb s.r.body.length cb:Value).ownBlock:=by simpa using hm
      exact h4.own.lone.ne (i:=0) (j:=4) rfl (by decide) (by rw [e];rfl))
     have HR5:=Lib.hid hrow;have HO5:=Lib.hid ho5;have HS5:=Lib.hid ((Step.of_below ((Below.refl W1.heap.size W1).alloc (Nat.le_refl _) (.cells #[Rec.byteV c] 5))).trans hs5);have d18:=row_cellL hrow (k:=18) rfl;have y18:=Ln.row_frozen hrow 18;clear hO5 hgr5 hor5 hk5 h4 hl ho5 hs5 hrow c18 z18)
   have H6:=Lib.hid (show PR (w5.setCell ⟨g,18,none⟩ (.slice b9 (s.r.body.length+1) c9)) B g q v f (.slice b9 (s.r.body.length+1) c9) t o p b {s with fresh:=false,r:={s.r with body:=s.r.body ++ [c]}} from ⟨row_setL HR5.out 18 (.slice b9 (s.r.body.length+1) c9),HO5.out.set 18 (.slice b9 (s.r.body.length+1) c9)⟩)
   have HS6:=Lib.hid ((HS1.out.trans HS5.out).trans (Step.set g 18 (.slice b9 (s.r.body.length+1) c9) (by simp)));clear HR5 HO5 HS5 d18 y18 HS1;generalize w5.setCell ⟨g,18,none⟩ (.slice b9 (s.r.body.length+1) c9)=W6 at *;have c22:W6.cell? ⟨g,22,none⟩=some (.int .i64 1):=by have:=H6.out.cs.c22;rw [HLE.out] at this;exact this
   have z22:=H6.out.marks 22;have c11:W6.cell? ⟨g,11,none⟩=some (.int .i64 4):=by have:=H6.out.cs.c11;rw [HST.out] at this;exact this
   have H7:=Lib.hid (H6.out.put 22 (.int .i64 0) {s with fresh:=false,r:={s.r with body:=s.r.body ++ [c]},left:=0} rfl rfl rfl rfl rfl rfl)
   have HS7:=Lib.hid (HS6.out.trans (Step.set g 22 (.int .i64 0) (by simp)));clear HS6 H1;clear H6;go_upto_region 4 with fail
   generalize W6.setCell ⟨g,22,none⟩ (.int .i64 0)=W7 at *;clear c22 z22 c11;have c0:=H7.out.cs.c0;have e11:=H7.out.cs.c11;have e12:=H7.out.cs.c12;have z11:=H7.out.marks 11;have z12:=H7.out.marks 12
   have HNL:=Lib.hid (rnew_line (p:=p) B 0 W7 (Nat.le_trans H7.out.own.ge (Nat.le_of_lt H7.out.own.lt)));go_wp2_with
    (go_at_call 55;with_reducible refine HNL.out.mono ?_;rintro r w8 ⟨q1,rfl,hq1,hr1,hb8⟩
     have d11:=(hb8.cell (p:=⟨g,11,none⟩) H7.out.own.lt).trans e11;have d12:=(hb8.cell (p:=⟨g,12,none⟩) H7.out.own.lt).trans e12;have y11:=(hb8.frozen (p:=⟨g,11,none⟩) H7.out.own.lt).trans z11;have y12:=(hb8.frozen (p:=⟨g,12,none⟩) H7.out.own.lt).trans z12
     have HR8:=Lib.hid ((H7.out.below hb8).row);have HO8:=Lib.hid (H7.out.own.line hb8 hr1 hq1);have HS8:=Lib.hid (HS7.out.trans (Step.line hb8 hq1));clear hb8 hr1 hq1 e11 e12 z11 z12)
   first | go_end0 | refine bodyPost_ret (results_none rfl _ _ _) rfl ?_
   exact ⟨rfl,_,_,_,_,_,_,⟨row_setL (row_setL HR8.out 11 (.int .i64 5)) 12 (ptr q1),(HO8.out.set 11 (.int .i64 5)).set 12 (ptr q1)⟩,HS8.out.trans ((Step.set g 11 (.int .i64 5) (by simp)).trans (Step.set g 12 (ptr q1) (by simp)))⟩
end code
end Go.Proofs.YtimoakmcelocfaaGreat.Par
