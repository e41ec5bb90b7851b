import Derived.Test.YtimoakmcelocfaaGreatAue
namespace Go.Proofs.YtimoakmcelocfaaGreat.Par
open Go.RowKit Base Txt Mem
structure Fits (s:S):Prop where
 lines:s.st=1∨s.st=6→s.lines≤1000
 fss:∀y∈s.r.fs,y.1.size≤1000000∧y.2.size≤1000000
 fsl:s.r.fs.length≤500
 tss:∀y∈s.r.ts,y.1.size≤1000000∧y.2.size≤1000000
 tsl:s.r.ts.length≤500
 body:s.r.body.length≤2000000
 out:s.out.length≤1000000000
theorem empty_of {x:ByteArray} (h:x.size=0):x=⟨#[]⟩:=by
 have:x.data.size=0:=h;cases x with
 | mk d=>
   have e:d= #[]:=Array.eq_empty_of_size_eq_zero this;rw [e]
theorem list_ne {x:ByteArray} (h:0<x.size):x.data.toList≠ []:=fun e=>by
 have:x.size=0:=by rw [←len,e];rfl
 omega
section code
set_option maxHeartbeats 4000000
set_option maxRecDepth 20000
attribute [local go_sem] Base.some_undef
variable {w:World} {B:Zone} {g q:Nat} {v f bd t o:Value} {p:Nat} {b:Bd} {s:S}
theorem ended_size (hp:p<4294967296) (h3:16≤b.x3∧b.x3≤1048576) (h4:0≤b.x4) (x:ByteArray) (hx:x.size≤5000) (h:PR w B g q v f bd t o p b s) (hst:s.st=3) (ok:Fits s):Calls Tryz.prog 72 #[ptr g,.string x] w fun r w'=>
 r=.returned (.tuple #[])∧∃q1 v1 f1 bd1 t1 o1,PR w' B g q1 v1 f1 bd1 t1 o1 p b (s.ended p b x.data.toList)∧Step (blks g q v f bd t o) (blks g q1 v1 f1 bd1 t1 o1) w w':=by
 have es:s.ended p b x.data.toList=s.chunk p b x.data.toList:=by unfold S.ended;rw [hst];rfl
 rw [es];have c11:=h.cs.c11;rw [hst] at c11;have H:=Lib.hid h;clear es
 have HC:=Lib.hid (chunk_any hp h3 h4 x hx h ok.body);clear h hst;go_enter Tryz.func72,Tryz.ntmps72
 go_wp2_with (go_at_call 83;with_reducible refine HC.out.mono ?_;rintro r w2 ⟨rfl,q1,v1,f1,bd1,t1,hP,hS⟩);go_end0;exact ⟨rfl,q1,v1,f1,bd1,t1,o,hP,hS⟩
theorem ended_fields (hp:p<4294967296) (h3:16≤b.x3∧b.x3≤1048576) (x:ByteArray) (hx:x.size≤5000) (h:PR w B g q v f bd t o p b s) (hst:s.st=1) (ok:Fits s):Calls Tryz.prog 72 #[ptr g,.string x] w fun r w'=>
 r=.returned (.tuple #[])∧∃q1 v1 f1 bd1 t1 o1,PR w' B g q1 v1 f1 bd1 t1 o1 p b (s.ended p b x.data.toList)∧Step (blks g q v f bd t o) (blks g q1 v1 f1 bd1 t1 o1) w w':=by
 have es:s.ended p b x.data.toList=s.fields p b x.data.toList:=by unfold S.ended;rw [hst];rfl
 rw [es];have c11:=h.cs.c11;rw [hst] at c11;have H:=Lib.hid h;clear es;rcases Nat.eq_zero_or_pos x.size with h0 | h0
 ·obtain rfl:=empty_of h0;have e:s.fields p b (⟨#[]⟩:ByteArray).data.toList=s.over p b:=by unfold S.fields;rfl
  rw [e]
  have HC:=Lib.hid (over_any hp h3 h ok.fsl ok.fss ok.out);clear h hst e;go_enter Tryz.func72,Tryz.ntmps72
  go_wp2_with (go_at_call 81;with_reducible refine HC.out.mono ?_;rintro r w2 ⟨rfl,q1,v1,f1,bd1,t1,o1,hP,hS⟩);refine bodyPost_ret (results_none rfl _ _ _) rfl ?_;exact ⟨rfl,_,_,_,_,_,_,hP,hS⟩
 ·have hne:=list_ne h0;obtain ⟨bf,cbf,eb, -⟩:=Ln.own_slice h.own.F;subst eb;have te:=Fd.first_no x h0
  have HQ:=Lib.hid ((H.out.drew 1).bk);unfold S.fields;rw [if_neg hne];have hfi:=fun w1 (hb:Below w.heap.size w w1)=>fieldF_any hp x hx b.x1 (h.below hb) (ok.lines (.inl hst)) ok.fss ok.fsl;have hlt:=h.own.lt;cases hfv:fieldV p s.lines s.r.fs x.data.toList b.x1 with
  | inl e=>
    rw [hfv] at hfi;have HFI0:=Lib.hid hfi;clear h hst hne h0 hfv hfi hlt;go_enter Tryz.func72,Tryz.ntmps72;go_upto_region 13 with fail
    refine Each.region 12 [78,79,80,81,82,83,84,85,86,87,88,89]
     [fun v _=>v=.pointer (some ⟨g,0,none⟩),
       fun v _=>v=.pointer (some ⟨g,0,none⟩),
       fun v _=>v=.pointer (some ⟨g,0,none⟩),
       fun v _=>v=.pointer (some ⟨g,13,none⟩),
       fun v _=>v=.pointer (some ⟨g,16,none⟩),
       fun v _=>v=.slice bf s.r.fs.length cbf,
       fun v _=>v=.string x,
       fun v _=>v=.pointer (some ⟨g,0,none⟩),
       fun v _=>v=.pointer (some ⟨g,0,none⟩),
       fun v _=>v=.pointer (some ⟨g,1,none⟩),
       fun v _=>v=.pointer (some ⟨g,2,none⟩),
       fun v _=>v=.int .i64 b.x1]
     (.act 12 (.quiet 13 .done)) (by kernel_rfl) (by kernel_rfl) (by kernel_rfl) (by kernel_rfl) (fun _ _ d _ _ h=>by cases d<;>exact h) (by rfl) (by rfl)
     ⟨Each.Lasts.eq _,Each.Lasts.eq _,Each.Lasts.eq _,Each.Lasts.eq _,Each.Lasts.eq _,Each.Lasts.eq _,Each.Lasts.eq _,Each.Lasts.eq _,Each.Lasts.eq _,Each.Lasts.eq _,Each.Lasts.eq _,Each.Lasts.eq _,trivial⟩ ?_ ?_
    ·refine ⟨?_,?_,?_,?_,?_,?_,?_,?_,?_,?_,?_,?_,trivial⟩
     ·refine Each.fine rfl (fun ev w1 hR hb hh=>?_);clear hh;have e0:=hR.old 0 rfl;simp only [Array.getD_eq_getD_getElem?,List.getElem?_toArray,List.getElem?_cons_zero,Option.getD_some] at e0;refine Each.Goes.same ?_;go_simp;try with_reducible rfl
     ·refine Each.fine rfl (fun ev w1 hR hb hh=>?_);clear hh;have e0:=hR.old 0 rfl;simp only [Array.getD_eq_getD_getElem?,List.getElem?_toArray,List.getElem?_cons_zero,Option.getD_some] at e0;refine Each.Goes.same ?_;go_simp;try with_reducible rfl
     ·refine Each.fine rfl (fun ev w1 hR hb hh=>?_);have e79:(ev (.tmp 79)=.pointer (some ⟨g,0,none⟩)):=hh.at 0;clear hh;refine Each.Goes.same ?_;go_simp;try with_reducible rfl
     ·refine Each.fine rfl (fun ev w1 hR hb hh=>?_);have e80:(ev (.tmp 80)=.pointer (some ⟨g,0,none⟩)):=hh.at 0;clear hh;refine Each.Goes.same ?_;go_simp;try with_reducible rfl
     ·refine Each.fine rfl (fun ev w1 hR hb hh=>?_);have e81:(ev (.tmp 81)=.pointer (some ⟨g,13,none⟩)):=hh.at 0;clear hh;refine Each.Goes.same ?_;go_simp;try with_reducible rfl
     ·refine Each.fine rfl (fun ev w1 hR hb hh=>?_);have e82:(ev (.tmp 82)=.pointer (some ⟨g,16,none⟩)):=hh.at 0;clear hh;have q16:=(HQ.out.below hb).c 16 _ rfl;refine Each.Goes.same ?_;go_simp;try with_reducible rfl
     ·refine Each.fine rfl (fun ev w1 hR hb hh=>?_);clear hh;have e1:=hR.old 1 rfl;simp only [Array.getD_eq_getD_getElem?,List.getElem?_toArray,List.getElem?_cons_succ,List.getElem?_cons_zero,Option.getD_some] at e1;refine Each.Goes.same ?_;go_simp;try with_reducible rfl
     ·refine Each.fine rfl (fun ev w1 hR hb hh=>?_);clear hh;have e0:=hR.old 0 rfl;simp only [Array.getD_eq_getD_getElem?,List.getElem?_toArray,List.getElem?_cons_zero,Option.getD_some] at e0;refine Each.Goes.same ?_;go_simp;try with_reducible rfl
     ·refine Each.fine rfl (fun ev w1 hR hb hh=>?_);have e85:(ev (.tmp 85)=.pointer (some ⟨g,0,none⟩)):=hh.at 0;clear hh;refine Each.Goes.same ?_;go_simp;try with_reducible rfl
     ·refine Each.fine rfl (fun ev w1 hR hb hh=>?_);have e86:(ev (.tmp 86)=.pointer (some ⟨g,0,none⟩)):=hh.at 0;clear hh;refine Each.Goes.same ?_;go_simp;try with_reducible rfl
     ·refine Each.fine rfl (fun ev w1 hR hb hh=>?_);have e87:(ev (.tmp 87)=.pointer (some ⟨g,1,none⟩)):=hh.at 0;clear hh;refine Each.Goes.same ?_;go_simp;try with_reducible rfl
     ·refine Each.fine rfl (fun ev w1 hR hb hh=>?_);have e88:(ev (.tmp 88)=.pointer (some ⟨g,2,none⟩)):=hh.at 0;clear hh;have q2:=(HQ.out.below hb).c 2 _ rfl;refine Each.Goes.same ?_;go_simp;try with_reducible rfl
    intro g1 w2 hb hf;have z78:(g1 78=.pointer (some ⟨g,0,none⟩)):=hf.at 0;have z83:(g1 83=.slice bf s.r.fs.length cbf):=hf.at 5;have z84:(g1 84=.string x):=hf.at 6;have z89:(g1 89=.int .i64 b.x1):=hf.at 11;clear hf;simp only [Each.putg,Act.put,List.setIfInBounds_toArray,List.set_cons_zero,List.set_cons_succ];rw [z78,z83,z84,z89];simp only [Tree.grow,Tree.put1,List.getElem?_cons_zero,List.getElem?_cons_succ]
    have H1:=Lib.hid (H.out.below hb)
    have HS1:=Lib.hid (Step.of_below hb (L:=blks g q v (.slice bf s.r.fs.length cbf) bd t o))
    have HFI:=Lib.hid (HFI0.out _ hb);clear hb HQ
    refine Tree.change (by rfl) (fun K hK=>?_)
    refine Each.oper_enter (g:=82) (args:=#[ptr g,.slice bf s.r.fs.length cbf,.string x,.int .i64 b.x1]) (by go_simp) (HFI.out.mono ?_);rintro r w3 ⟨rfl,hP,hS⟩;refine ⟨_,rfl,?_⟩;refine hK _ _ trivial ?_;clear hK K;simp only [Act.put,List.setIfInBounds_toArray,List.set_cons_zero,List.set_cons_succ];refine Tree.assign _ (by rfl) (by rfl) ?_;simp only [Act.put,Act.eval,Array.getD_eq_getD_getElem?,List.getElem?_toArray,List.getElem?_cons_zero,List.getElem?_cons_succ,Option.getD_some,List.setIfInBounds_toArray,List.set_cons_zero,List.set_cons_succ];refine Tree.done ?_;have c16:=hP.cs.c16;have z16:=hP.marks 16
    have HP2:=Lib.hid (hP.put 16 nil (S.fail {s with lines:=s.lines+1} e) rfl rfl rfl rfl rfl rfl)
    have HS2:=Lib.hid ((HS1.out.trans hS).trans (Step.set g 16 nil (by simp)));clear hP hS HFI H1 HS1;go_wp2;go_end0;exact ⟨rfl,_,_,_,_,_,_,HP2.out,HS2.out⟩
  | inr l=>
    rw [hfv] at hfi;have HFI0:=Lib.hid hfi;clear h hst hne h0 hfv hfi hlt;go_enter Tryz.func72,Tryz.ntmps72;go_upto_region 13 with fail
    refine Each.region 12 [78,79,80,81,82,83,84,85,86,87,88,89]
     [fun v _=>v=.pointer (some ⟨g,0,none⟩),
       fun v _=>v=.pointer (some ⟨g,0,none⟩),
       fun v _=>v=.pointer (some ⟨g,0,none⟩),
       fun v _=>v=.pointer (some ⟨g,13,none⟩),
       fun v _=>v=.pointer (some ⟨g,16,none⟩),
       fun v _=>v=.slice bf s.r.fs.length cbf,
       fun v _=>v=.string x,
       fun v _=>v=.pointer (some ⟨g,0,none⟩),
       fun v _=>v=.pointer (some ⟨g,0,none⟩),
       fun v _=>v=.pointer (some ⟨g,1,none⟩),
       fun v _=>v=.pointer (some ⟨g,2,none⟩),
       fun v _=>v=.int .i64 b.x1]
     (.act 12 (.quiet 13 .done)) (by kernel_rfl) (by kernel_rfl) (by kernel_rfl) (by kernel_rfl) (fun _ _ d _ _ h=>by cases d<;>exact h) (by rfl) (by rfl)
     ⟨Each.Lasts.eq _,Each.Lasts.eq _,Each.Lasts.eq _,Each.Lasts.eq _,Each.Lasts.eq _,Each.Lasts.eq _,Each.Lasts.eq _,Each.Lasts.eq _,Each.Lasts.eq _,Each.Lasts.eq _,Each.Lasts.eq _,Each.Lasts.eq _,trivial⟩ ?_ ?_
    ·refine ⟨?_,?_,?_,?_,?_,?_,?_,?_,?_,?_,?_,?_,trivial⟩
     ·refine Each.fine rfl (fun ev w1 hR hb hh=>?_);clear hh;have e0:=hR.old 0 rfl;simp only [Array.getD_eq_getD_getElem?,List.getElem?_toArray,List.getElem?_cons_zero,Option.getD_some] at e0;refine Each.Goes.same ?_;go_simp;try with_reducible rfl
     ·refine Each.fine rfl (fun ev w1 hR hb hh=>?_);clear hh;have e0:=hR.old 0 rfl;simp only [Array.getD_eq_getD_getElem?,List.getElem?_toArray,List.getElem?_cons_zero,Option.getD_some] at e0;refine Each.Goes.same ?_;go_simp;try with_reducible rfl
     ·refine Each.fine rfl (fun ev w1 hR hb hh=>?_);have e79:(ev (.tmp 79)=.pointer (some ⟨g,0,none⟩)):=hh.at 0;clear hh;refine Each.Goes.same ?_;go_simp;try with_reducible rfl
     ·refine Each.fine rfl (fun ev w1 hR hb hh=>?_);have e80:(ev (.tmp 80)=.pointer (some ⟨g,0,none⟩)):=hh.at 0;clear hh;refine Each.Goes.same ?_;go_simp;try with_reducible rfl
     ·refine Each.fine rfl (fun ev w1 hR hb hh=>?_);have e81:(ev (.tmp 81)=.pointer (some ⟨g,13,none⟩)):=hh.at 0;clear hh;refine Each.Goes.same ?_;go_simp;try with_reducible rfl
     ·refine Each.fine rfl (fun ev w1 hR hb hh=>?_);have e82:(ev (.tmp 82)=.pointer (some ⟨g,16,none⟩)):=hh.at 0;clear hh;have q16:=(HQ.out.below hb).c 16 _ rfl;refine Each.Goes.same ?_;go_simp;try with_reducible rfl
     ·refine Each.fine rfl (fun ev w1 hR hb hh=>?_);clear hh;have e1:=hR.old 1 rfl;simp only [Array.getD_eq_getD_getElem?,List.getElem?_toArray,List.getElem?_cons_succ,List.getElem?_cons_zero,Option.getD_some] at e1;refine Each.Goes.same ?_;go_simp;try with_reducible rfl
     ·refine Each.fine rfl (fun ev w1 hR hb hh=>?_);clear hh;have e0:=hR.old 0 rfl;simp only [Array.getD_eq_getD_getElem?,List.getElem?_toArray,List.getElem?_cons_zero,Option.getD_some] at e0;refine Each.Goes.same ?_;go_simp;try with_reducible rfl
     ·refine Each.fine rfl (fun ev w1 hR hb hh=>?_);have e85:(ev (.tmp 85)=.pointer (some ⟨g,0,none⟩)):=hh.at 0;clear hh;refine Each.Goes.same ?_;go_simp;try with_reducible rfl
     ·refine Each.fine rfl (fun ev w1 hR hb hh=>?_);have e86:(ev (.tmp 86)=.pointer (some ⟨g,0,none⟩)):=hh.at 0;clear hh;refine Each.Goes.same ?_;go_simp;try with_reducible rfl
     ·refine Each.fine rfl (fun ev w1 hR hb hh=>?_);have e87:(ev (.tmp 87)=.pointer (some ⟨g,1,none⟩)):=hh.at 0;clear hh;refine Each.Goes.same ?_;go_simp;try with_reducible rfl
     ·refine Each.fine rfl (fun ev w1 hR hb hh=>?_);have e88:(ev (.tmp 88)=.pointer (some ⟨g,2,none⟩)):=hh.at 0;clear hh;have q2:=(HQ.out.below hb).c 2 _ rfl;refine Each.Goes.same ?_;go_simp;try with_reducible rfl
    intro g1 w2 hb hf;have z78:(g1 78=.pointer (some ⟨g,0,none⟩)):=hf.at 0;have z83:(g1 83=.slice bf s.r.fs.length cbf):=hf.at 5;have z84:(g1 84=.string x):=hf.at 6;have z89:(g1 89=.int .i64 b.x1):=hf.at 11;clear hf;simp only [Each.putg,Act.put,List.setIfInBounds_toArray,List.set_cons_zero,List.set_cons_succ];rw [z78,z83,z84,z89];simp only [Tree.grow,Tree.put1,List.getElem?_cons_zero,List.getElem?_cons_succ]
    have H1:=Lib.hid (H.out.below hb)
    have HS1:=Lib.hid (Step.of_below hb (L:=blks g q v (.slice bf s.r.fs.length cbf) bd t o))
    have HFI:=Lib.hid (HFI0.out _ hb);clear hb HQ
    refine Tree.change (by rfl) (fun K hK=>?_)
    refine Each.oper_enter (g:=82) (args:=#[ptr g,.slice bf s.r.fs.length cbf,.string x,.int .i64 b.x1]) (by go_simp) (HFI.out.mono ?_);rintro r w3 ⟨u',rfl,hrow,how,hS⟩;obtain ⟨b9,c9,e9, -⟩:=Ln.own_slice how.F;subst e9;refine ⟨_,rfl,?_⟩;refine hK _ _ trivial ?_;clear hK K;simp only [Act.put,List.setIfInBounds_toArray,List.set_cons_zero,List.set_cons_succ];refine Tree.assign _ (by rfl) (by rfl) ?_;simp only [Act.put,Act.eval,Array.getD_eq_getD_getElem?,List.getElem?_toArray,List.getElem?_cons_zero,List.getElem?_cons_succ,Option.getD_some,List.setIfInBounds_toArray,List.set_cons_zero,List.set_cons_succ];refine Tree.done ?_;have c16:=(Cs.of hrow).c16;have z16:=Ln.row_frozen hrow 16
    have HR2:=Lib.hid (row_setL hrow 16 (.slice b9 l.length c9))
    have HO2:=Lib.hid (how.set 16 (.slice b9 l.length c9))
    have HS2:=Lib.hid ((HS1.out.trans hS).trans (Step.set g 16 (.slice b9 l.length c9) (by simp)));clear hrow how hS HFI H1 HS1;go_wp2;go_end0;exact ⟨rfl,_,_,_,_,_,_,⟨HR2.out,HO2.out⟩,HS2.out⟩
theorem ended_trail (hp:p<4294967296) (x:ByteArray) (hx:x.size≤5000) (h:PR w B g q v f bd t o p b s) (hst:s.st=6) (ok:Fits s):Calls Tryz.prog 72 #[ptr g,.string x] w fun r w'=>
 r=.returned (.tuple #[])∧∃q1 v1 f1 bd1 t1 o1,PR w' B g q1 v1 f1 bd1 t1 o1 p b (s.ended p b x.data.toList)∧Step (blks g q v f bd t o) (blks g q1 v1 f1 bd1 t1 o1) w w':=by
 have es:s.ended p b x.data.toList=s.trail p b x.data.toList:=by unfold S.ended;rw [hst];rfl
 rw [es];have c11:=h.cs.c11;rw [hst] at c11;have H:=Lib.hid h;clear es;rcases Nat.eq_zero_or_pos x.size with h0 | h0
 ·obtain rfl:=empty_of h0;have e:s.trail p b (⟨#[]⟩:ByteArray).data.toList=s.whole p b:=by unfold S.trail;rfl
  rw [e]
  have HC:=Lib.hid (whole_any h ok.out);clear h hst e;go_enter Tryz.func72,Tryz.ntmps72
  go_wp2_with (go_at_call 69;with_reducible refine HC.out.mono ?_;rintro r w2 ⟨rfl,q1,o1,hP,hS⟩);refine bodyPost_ret (results_none rfl _ _ _) rfl ?_;exact ⟨rfl,_,_,_,_,_,_,hP,hS⟩
 ·have hne:=list_ne h0;obtain ⟨bt,cbt,eb, -⟩:=Ln.own_slice h.own.T;subst eb;have te:=Fd.first_no x h0
  have HQ:=Lib.hid ((H.out.drew 1).bk);unfold S.trail;rw [if_neg hne];have hfi:=fun w1 (hb:Below w.heap.size w w1)=>fieldT_any hp x hx b.x5 (h.below hb) (ok.lines (.inr hst)) ok.tss ok.tsl;have hlt:=h.own.lt;cases hfv:fieldV p s.lines s.r.ts x.data.toList b.x5 with
  | inl e=>
    rw [hfv] at hfi;have HFI0:=Lib.hid hfi;clear h hst hne h0 hfv hfi hlt;go_enter Tryz.func72,Tryz.ntmps72;go_upto_region 18 with fail
    refine Each.region 12 [102,103,104,105,106,107,108,109,110,111,112,113]
     [fun v _=>v=.pointer (some ⟨g,0,none⟩),
       fun v _=>v=.pointer (some ⟨g,0,none⟩),
       fun v _=>v=.pointer (some ⟨g,0,none⟩),
       fun v _=>v=.pointer (some ⟨g,13,none⟩),
       fun v _=>v=.pointer (some ⟨g,19,none⟩),
       fun v _=>v=.slice bt s.r.ts.length cbt,
       fun v _=>v=.string x,
       fun v _=>v=.pointer (some ⟨g,0,none⟩),
       fun v _=>v=.pointer (some ⟨g,0,none⟩),
       fun v _=>v=.pointer (some ⟨g,1,none⟩),
       fun v _=>v=.pointer (some ⟨g,6,none⟩),
       fun v _=>v=.int .i64 b.x5]
     (.act 12 (.quiet 13 .done)) (by kernel_rfl) (by kernel_rfl) (by kernel_rfl) (by kernel_rfl) (fun _ _ d _ _ h=>by cases d<;>exact h) (by rfl) (by rfl)
     ⟨Each.Lasts.eq _,Each.Lasts.eq _,Each.Lasts.eq _,Each.Lasts.eq _,Each.Lasts.eq _,Each.Lasts.eq _,Each.Lasts.eq _,Each.Lasts.eq _,Each.Lasts.eq _,Each.Lasts.eq _,Each.Lasts.eq _,Each.Lasts.eq _,trivial⟩ ?_ ?_
    ·refine ⟨?_,?_,?_,?_,?_,?_,?_,?_,?_,?_,?_,?_,trivial⟩
     ·refine Each.fine rfl (fun ev w1 hR hb hh=>?_);clear hh;have e0:=hR.old 0 rfl;simp only [Array.getD_eq_getD_getElem?,List.getElem?_toArray,List.getElem?_cons_zero,Option.getD_some] at e0;refine Each.Goes.same ?_;go_simp;try with_reducible rfl
     ·refine Each.fine rfl (fun ev w1 hR hb hh=>?_);clear hh;have e0:=hR.old 0 rfl;simp only [Array.getD_eq_getD_getElem?,List.getElem?_toArray,List.getElem?_cons_zero,Option.getD_some] at e0;refine Each.Goes.same ?_;go_simp;try with_reducible rfl
     ·refine Each.fine rfl (fun ev w1 hR hb hh=>?_);have e103:(ev (.tmp 103)=.pointer (some ⟨g,0,none⟩)):=hh.at 0;clear hh;refine Each.Goes.same ?_;go_simp;try with_reducible rfl
     ·refine Each.fine rfl (fun ev w1 hR hb hh=>?_);have e104:(ev (.tmp 104)=.pointer (some ⟨g,0,none⟩)):=hh.at 0;clear hh;refine Each.Goes.same ?_;go_simp;try with_reducible rfl
     ·refine Each.fine rfl (fun ev w1 hR hb hh=>?_);have e105:(ev (.tmp 105)=.pointer (some ⟨g,13,none⟩)):=hh.at 0;clear hh;refine Each.Goes.same ?_;go_simp;try with_reducible rfl
     ·refine Each.fine rfl (fun ev w1 hR hb hh=>?_);have e106:(ev (.tmp 106)=.pointer (some ⟨g,19,none⟩)):=hh.at 0;clear hh;have q19:=(HQ.out.below hb).c 19 _ rfl;refine Each.Goes.same ?_;go_simp;try with_reducible rfl
     ·refine Each.fine rfl (fun ev w1 hR hb hh=>?_);clear hh;have e1:=hR.old 1 rfl;simp only [Array.getD_eq_getD_getElem?,List.getElem?_toArray,List.getElem?_cons_succ,List.getElem?_cons_zero,Option.getD_some] at e1;refine Each.Goes.same ?_;go_simp;try with_reducible rfl
     ·refine Each.fine rfl (fun ev w1 hR hb hh=>?_);clear hh;have e0:=hR.old 0 rfl;simp only [Array.getD_eq_getD_getElem?,List.getElem?_toArray,List.getElem?_cons_zero,Option.getD_some] at e0;refine Each.Goes.same ?_;go_simp;try with_reducible rfl
     ·refine Each.fine rfl (fun ev w1 hR hb hh=>?_);have e109:(ev (.tmp 109)=.pointer (some ⟨g,0,none⟩)):=hh.at 0;clear hh;refine Each.Goes.same ?_;go_simp;try with_reducible rfl
     ·refine Each.fine rfl (fun ev w1 hR hb hh=>?_);have e110:(ev (.tmp 110)=.pointer (some ⟨g,0,none⟩)):=hh.at 0;clear hh;refine Each.Goes.same ?_;go_simp;try with_reducible rfl
     ·refine Each.fine rfl (fun ev w1 hR hb hh=>?_);have e111:(ev (.tmp 111)=.pointer (some ⟨g,1,none⟩)):=hh.at 0;clear hh;refine Each.Goes.same ?_;go_simp;try with_reducible rfl
     ·refine Each.fine rfl (fun ev w1 hR hb hh=>?_);have e112:(ev (.tmp 112)=.pointer (some ⟨g,6,none⟩)):=hh.at 0;clear hh;have q6:=(HQ.out.below hb).c 6 _ rfl;refine Each.Goes.same ?_;go_simp;try with_reducible rfl
    intro g1 w2 hb hf;have z102:(g1 102=.pointer (some ⟨g,0,none⟩)):=hf.at 0;have z107:(g1 107=.slice bt s.r.ts.length cbt):=hf.at 5;have z108:(g1 108=.string x):=hf.at 6;have z113:(g1 113=.int .i64 b.x5):=hf.at 11;clear hf;simp only [Each.putg,Act.put,List.setIfInBounds_toArray,List.set_cons_zero,List.set_cons_succ];rw [z102,z107,z108,z113];simp only [Tree.grow,Tree.put1,List.getElem?_cons_zero,List.getElem?_cons_succ]
    have H1:=Lib.hid (H.out.below hb)
    have HS1:=Lib.hid (Step.of_below hb (L:=blks g q v f bd (.slice bt s.r.ts.length cbt) o))
    have HFI:=Lib.hid (HFI0.out _ hb);clear hb HQ
    refine Tree.change (by rfl) (fun K hK=>?_)
    refine Each.oper_enter (g:=82) (args:=#[ptr g,.slice bt s.r.ts.length cbt,.string x,.int .i64 b.x5]) (by go_simp) (HFI.out.mono ?_);rintro r w3 ⟨rfl,hP,hS⟩;refine ⟨_,rfl,?_⟩;refine hK _ _ trivial ?_;clear hK K;simp only [Act.put,List.setIfInBounds_toArray,List.set_cons_zero,List.set_cons_succ];refine Tree.assign _ (by rfl) (by rfl) ?_;simp only [Act.put,Act.eval,Array.getD_eq_getD_getElem?,List.getElem?_toArray,List.getElem?_cons_zero,List.getElem?_cons_succ,Option.getD_some,List.setIfInBounds_toArray,List.set_cons_zero,List.set_cons_succ];refine Tree.done ?_;have c19:=hP.cs.c19;have z19:=hP.marks 19
    have HP2:=Lib.hid (hP.put 19 nil (S.fail {s with lines:=s.lines+1} e) rfl rfl rfl rfl rfl rfl)
    have HS2:=Lib.hid ((HS1.out.trans hS).trans (Step.set g 19 nil (by simp)));clear hP hS HFI H1 HS1;go_wp2;go_end0;exact ⟨rfl,_,_,_,_,_,_,HP2.out,HS2.out⟩
  | inr l=>
    rw [hfv] at hfi;have HFI0:=Lib.hid hfi;clear h hst hne h0 hfv hfi hlt;go_enter Tryz.func72,Tryz.ntmps72;go_upto_region 18 with fail
    refine Each.region 12 [102,103,104,105,106,107,108,109,110,111,112,113]
     [fun v _=>v=.pointer (some ⟨g,0,none⟩),
       fun v _=>v=.pointer (some ⟨g,0,none⟩),
       fun v _=>v=.pointer (some ⟨g,0,none⟩),
       fun v _=>v=.pointer (some ⟨g,13,none⟩),
       fun v _=>v=.pointer (some ⟨g,19,none⟩),
       fun v _=>v=.slice bt s.r.ts.length cbt,
       fun v _=>v=.string x,
       fun v _=>v=.pointer (some ⟨g,0,none⟩),
       fun v _=>v=.pointer (some ⟨g,0,none⟩),
       fun v _=>v=.pointer (some ⟨g,1,none⟩),
       fun v _=>v=.pointer (some ⟨g,6,none⟩),
       fun v _=>v=.int .i64 b.x5]
     (.act 12 (.quiet 13 .done)) (by kernel_rfl) (by kernel_rfl) (by kernel_rfl) (by kernel_rfl) (fun _ _ d _ _ h=>by cases d<;>exact h) (by rfl) (by rfl)
     ⟨Each.Lasts.eq _,Each.Lasts.eq _,Each.Lasts.eq _,Each.Lasts.eq _,Each.Lasts.eq _,Each.Lasts.eq _,Each.Lasts.eq _,Each.Lasts.eq _,Each.Lasts.eq _,Each.Lasts.eq _,Each.Lasts.eq _,Each.Lasts.eq _,trivial⟩ ?_ ?_
    ·refine ⟨?_,?_,?_,?_,?_,?_,?_,?_,?_,?_,?_,?_,trivial⟩
     ·refine Each.fine rfl (fun ev w1 hR hb hh=>?_);clear hh;have e0:=hR.old 0 rfl;simp only [Array.getD_eq_getD_getElem?,List.getElem?_toArray,List.getElem?_cons_zero,Option.getD_some] at e0;refine Each.Goes.same ?_;go_simp;try with_reducible rfl
     ·refine Each.fine rfl (fun ev w1 hR hb hh=>?_);clear hh;have e0:=hR.old 0 rfl;simp only [Array.getD_eq_getD_getElem?,List.getElem?_toArray,List.getElem?_cons_zero,Option.getD_some] at e0;refine Each.Goes.same ?_;go_simp;try with_reducible rfl
     ·refine Each.fine rfl (fun ev w1 hR hb hh=>?_);have e103:(ev (.tmp 103)=.pointer (some ⟨g,0,none⟩)):=hh.at 0;clear hh;refine Each.Goes.same ?_;go_simp;try with_reducible rfl
     ·refine Each.fine rfl (fun ev w1 hR hb hh=>?_);have e104:(ev (.tmp 104)=.pointer (some ⟨g,0,none⟩)):=hh.at 0;clear hh;refine Each.Goes.same ?_;go_simp;try with_reducible rfl
     ·refine Each.fine rfl (fun ev w1 hR hb hh=>?_);have e105:(ev (.tmp 105)=.pointer (some ⟨g,13,none⟩)):=hh.at 0;clear hh;refine Each.Goes.same ?_;go_simp;try with_reducible rfl
     ·refine Each.fine rfl (fun ev w1 hR hb hh=>?_);have e106:(ev (.tmp 106)=.pointer (some ⟨g,19,none⟩)):=hh.at 0;clear hh;have q19:=(HQ.out.below hb).c 19 _ rfl;refine Each.Goes.same ?_;go_simp;try with_reducible rfl
     ·refine Each.fine rfl (fun ev w1 hR hb hh=>?_);clear hh;have e1:=hR.old 1 rfl;simp only [Array.getD_eq_getD_getElem?,List.getElem?_toArray,List.getElem?_cons_succ,List.getElem?_cons_zero,Option.getD_some] at e1;refine Each.Goes.same ?_;go_simp;try with_reducible rfl
     ·refine Each.fine rfl (fun ev w1 hR hb hh=>?_);clear hh;have e0:=hR.old 0 rfl;simp only [Array.getD_eq_getD_getElem?,List.getElem?_toArray,List.getElem?_cons_zero,Option.getD_some] at e0;refine Each.Goes.same ?_;go_simp;try with_reducible rfl
     ·refine Each.fine rfl (fun ev w1 hR hb hh=>?_);have e109:(ev (.tmp 109)=.pointer (some ⟨g,0,none⟩)):=hh.at 0;clear hh;refine Each.Goes.same ?_;go_simp;try with_reducible rfl
     ·refine Each.fine rfl (fun ev w1 hR hb hh=>?_);have e110:(ev (.tmp 110)=.pointer (some ⟨g,0,none⟩)):=hh.at 0;clear hh;refine Each.Goes.same ?_;go_simp;try with_reducible rfl
     ·refine Each.fine rfl (fun ev w1 hR hb hh=>?_);have e111:(ev (.tmp 111)=.pointer (some ⟨g,1,none⟩)):=hh.at 0;clear hh;refine Each.Goes.same ?_;go_simp;try with_reducible rfl
     ·refine Each.fine rfl (fun ev w1 hR hb hh=>?_);have e112:(ev (.tmp 112)=.pointer (some ⟨g,6,none⟩)):=hh.at 0;clear hh;have q6:=(HQ.out.below hb).c 6 _ rfl;refine Each.Goes.same ?_;go_simp;try with_reducible rfl
    intro g1 w2 hb hf;have z102:(g1 102=.pointer (some ⟨g,0,none⟩)):=hf.at 0;have z107:(g1 107=.slice bt s.r.ts.length cbt):=hf.at 5;have z108:(g1 108=.string x):=hf.at 6;have z113:(g1 113=.int .i64 b.x5):=hf.at 11;clear hf;simp only [Each.putg,Act.put,List.setIfInBounds_toArray,List.set_cons_zero,List.set_cons_succ];rw [z102,z107,z108,z113];simp only [Tree.grow,Tree.put1,List.getElem?_cons_zero,List.getElem?_cons_succ]
    have H1:=Lib.hid (H.out.below hb)
    have HS1:=Lib.hid (Step.of_below hb (L:=blks g q v f bd (.slice bt s.r.ts.length cbt) o))
    have HFI:=Lib.hid (HFI0.out _ hb);clear hb HQ
    refine Tree.change (by rfl) (fun K hK=>?_)
    refine Each.oper_enter (g:=82) (args:=#[ptr g,.slice bt s.r.ts.length cbt,.string x,.int .i64 b.x5]) (by go_simp) (HFI.out.mono ?_);rintro r w3 ⟨u',rfl,hrow,how,hS⟩;obtain ⟨b9,c9,e9, -⟩:=Ln.own_slice how.T;subst e9;refine ⟨_,rfl,?_⟩;refine hK _ _ trivial ?_;clear hK K;simp only [Act.put,List.setIfInBounds_toArray,List.set_cons_zero,List.set_cons_succ];refine Tree.assign _ (by rfl) (by rfl) ?_;simp only [Act.put,Act.eval,Array.getD_eq_getD_getElem?,List.getElem?_toArray,List.getElem?_cons_zero,List.getElem?_cons_succ,Option.getD_some,List.setIfInBounds_toArray,List.set_cons_zero,List.set_cons_succ];refine Tree.done ?_;have c19:=(Cs.of hrow).c19;have z19:=Ln.row_frozen hrow 19
    have HR2:=Lib.hid (row_setL hrow 19 (.slice b9 l.length c9))
    have HO2:=Lib.hid (how.set 19 (.slice b9 l.length c9))
    have HS2:=Lib.hid ((HS1.out.trans hS).trans (Step.set g 19 (.slice b9 l.length c9) (by simp)));clear hrow how hS HFI H1 HS1;go_wp2;go_end0;exact ⟨rfl,_,_,_,_,_,_,⟨HR2.out,HO2.out⟩,HS2.out⟩
theorem ended_first (hp:p<4294967296) (x:ByteArray) (hx:x.size≤5000) (h:PR w B g q v f bd t o p b s) (hst:s.st=0) (he:s.e=0):Calls Tryz.prog 72 #[ptr g,.string x] w fun r w'=>
 r=.returned (.tuple #[])∧∃q1 v1 f1 bd1 t1 o1,PR w' B g q1 v1 f1 bd1 t1 o1 p b (s.ended p b x.data.toList)∧Step (blks g q v f bd t o) (blks g q1 v1 f1 bd1 t1 o1) w w':=by
 have es:s.ended p b x.data.toList=s.first p b x.data.toList:=by unfold S.ended;rw [hst];rfl
 rw [es];have c11:=h.cs.c11;rw [hst] at c11;have H:=Lib.hid h;clear es;have c25:=h.cs.c25;rw [he] at c25;rcases Nat.eq_zero_or_pos x.size with h0 | h0
 ·obtain rfl:=empty_of h0;have c0:=h.cs.c0
  have HH:=Lib.hid (fun w=>Qk.rhas_any p hp 0 w);have c24:=h.cs.c24;have z24:=h.marks 24;cases hb:Qk.has p 0 with
  | true=>
    have e:s.first p b (⟨#[]⟩:ByteArray).data.toList={s with clean:=true}:=by show (if Qk.has p 0=true then ({s with clean:=true}:S) else s.fail 400)= _;rw [hb];rfl
    rw [e]
    have H2:=Lib.hid (h.put 24 (.bool true) {s with clean:=true} rfl rfl rfl rfl rfl rfl);rw [hb] at HH;clear h hst e hx h0;go_enter Tryz.func72,Tryz.ntmps72
    go_wp2_with (go_at_call 39;with_reducible refine (HH.out _).mono ?_;rintro r w2 ⟨rfl,hw⟩;rw [hw];clear hw);first | go_end0 | refine bodyPost_ret (results_none rfl _ _ _) rfl ?_
    exact ⟨rfl,_,_,_,_,_,_,H2.out,Step.set g 24 (.bool true) (by simp)⟩
  | false=>
    have e:s.first p b (⟨#[]⟩:ByteArray).data.toList=s.fail 400:=by show (if Qk.has p 0=true then ({s with clean:=true}:S) else s.fail 400)= _;rw [hb];rfl
    rw [e]
    have HFA:=Lib.hid (fail_at h 400 400 rfl);rw [hb] at HH;clear h hst e hx h0 c24 z24;go_enter Tryz.func72,Tryz.ntmps72
    go_upto_region 5 with (first
     |(go_at_call 56;with_reducible refine HFA.out.mono ?_;rintro r w2 ⟨rfl,hP,hS⟩)
     |(go_at_call 39;with_reducible refine (HH.out _).mono ?_;rintro r w2 ⟨rfl,hw⟩;rw [hw];clear hw))
    clear c0 c11 c25;have c25:=hP.cs.c25;have c24:=hP.cs.c24;have z24:=hP.marks 24;have c25':w2.cell? ⟨g,25,none⟩=some (.int .i64 400):=c25;clear c25
    have H2:=Lib.hid (hP.put 24 (.bool false) (s.fail 400) rfl rfl rfl rfl rfl rfl)
    have HS:=Lib.hid (hS.trans (Step.set g 24 (.bool false) (by simp)));clear hP hS HFA;go_wp2;first | go_end0 | refine bodyPost_ret (results_none rfl _ _ _) rfl ?_
    exact ⟨rfl,_,_,_,_,_,_,H2.out,HS.out⟩
 ·have hne:=list_ne h0;have te:=Fd.first_no x h0
  have HQ:=Lib.hid ((h.drew 1).bk)
  have hz:=fun w=>Rq.rrequest_any x p hp b.x0 b.x1 b.x2 b.x3 b.x4 b.x5 b.x6 b.x7 b.ch b.od w (by omega);unfold S.first;rw [if_neg hne];obtain ⟨⟨m1,t1,qk,qe⟩,hq⟩:∃Q,Rq.request (Rq.clOf p) b.od x.data.toList=Q:=⟨_,rfl⟩;rw [hq] at hz;simp only [Rq.rv] at hz;rw [hq];obtain ⟨qm,hqm⟩:∃qm,ba m1=qm:=⟨_,rfl⟩;obtain ⟨qt,hqt⟩:∃qt,ba t1=qt:=⟨_,rfl⟩;rw [hqm,hqt] at hz;have HZ:=Lib.hid hz;simp only [hqm,hqt];clear hz hq hqm hqt hne h0 hx c25 he hst h;by_cases hqe:qe=0
  ·subst hqe;rw [if_neg (by decide)]
   have HZ:=Lib.hid (show∀w,Calls Tryz.prog 80 #[.string x,.int .u32 (p:Int),.agg #[.int .i64 b.x0,.int .i64 b.x1,.int .i64 b.x2,.int .i64 b.x3,.int .i64 b.x4,.int .i64 b.x5,.int .i64 b.x6,.int .i64 b.x7,.bool b.ch,.bool b.od]] w fun e w'=>e=.returned (.tuple #[.string qm,.string qt,.int .i64 (qk:Int),.int .i64 0])∧Below w.heap.size w w' from fun w=>HZ.out w);go_enter Tryz.func72,Tryz.ntmps72;go_upto_region 6 with fail
   refine Each.region_all 19 [35,36,37,38,39,40,41,42,43,44,34,45,46,47,48,4,5,6,7]
    [fun v _=>v=.string x,
      fun v _=>v=.pointer (some ⟨g,0,none⟩),
      fun v _=>v=.pointer (some ⟨g,0,none⟩),
      fun v _=>v=.pointer (some ⟨g,0,none⟩),
      fun v _=>v=.int .u32 (p:Int),
      fun v _=>v=.pointer (some ⟨g,0,none⟩),
      fun v _=>v=.pointer (some ⟨g,0,none⟩),
      fun v _=>v=.pointer (some ⟨g,1,none⟩),
      fun v _=>v=.agg #[.int .i64 b.x0,.int .i64 b.x1,.int .i64 b.x2,.int .i64 b.x3,.int .i64 b.x4,.int .i64 b.x5,.int .i64 b.x6,.int .i64 b.x7,.bool b.ch,.bool b.od],
      fun v _=>v=.tuple #[.string qm,.string qt,.int .i64 (qk:Int),.int .i64 0],
      fun v _=>v=.tuple #[.string qm,.string qt,.int .i64 (qk:Int),.int .i64 0],
      fun v _=>v=.string qm,
      fun v _=>v=.string qt,
      fun v _=>v=.int .i64 (qk:Int),
      fun v _=>v=.int .i64 0,
      fun v _=>v=.string qm,
      fun v _=>v=.string qt,
      fun v _=>v=.int .i64 (qk:Int),
      fun v _=>v=.int .i64 0]
     (by kernel_rfl) (by kernel_rfl) (by kernel_rfl) (by kernel_rfl) (fun _ _ d _ _ h=>by cases d<;>exact h) (by rfl) (by rfl)
    ⟨Each.Lasts.eq _,Each.Lasts.eq _,Each.Lasts.eq _,Each.Lasts.eq _,Each.Lasts.eq _,Each.Lasts.eq _,Each.Lasts.eq _,Each.Lasts.eq _,Each.Lasts.eq _,Each.Lasts.eq _,Each.Lasts.eq _,Each.Lasts.eq _,Each.Lasts.eq _,Each.Lasts.eq _,Each.Lasts.eq _,Each.Lasts.eq _,Each.Lasts.eq _,Each.Lasts.eq _,Each.Lasts.eq _,trivial⟩ ?_ ?_
   ·refine ⟨?_,?_,?_,?_,?_,?_,?_,?_,?_,?_,?_,?_,?_,?_,?_,?_,?_,?_,?_,trivial⟩
    ·refine Each.fine rfl (fun ev w1 hR hb hh=>?_);clear hh;have e1:=hR.old 1 rfl;simp only [Array.getD_eq_getD_getElem?,List.getElem?_toArray,List.getElem?_cons_succ,List.getElem?_cons_zero,Option.getD_some] at e1;refine Each.Goes.same ?_;go_simp;try with_reducible rfl
    ·refine Each.fine rfl (fun ev w1 hR hb hh=>?_);clear hh;have e0:=hR.old 0 rfl;simp only [Array.getD_eq_getD_getElem?,List.getElem?_toArray,List.getElem?_cons_zero,Option.getD_some] at e0;refine Each.Goes.same ?_;go_simp;try with_reducible rfl
    ·refine Each.fine rfl (fun ev w1 hR hb hh=>?_);have e36:(ev (.tmp 36)=.pointer (some ⟨g,0,none⟩)):=hh.at 0;clear hh;refine Each.Goes.same ?_;go_simp;try with_reducible rfl
    ·refine Each.fine rfl (fun ev w1 hR hb hh=>?_);have e37:(ev (.tmp 37)=.pointer (some ⟨g,0,none⟩)):=hh.at 0;clear hh;refine Each.Goes.same ?_;go_simp;try with_reducible rfl
    ·refine Each.fine rfl (fun ev w1 hR hb hh=>?_);have e38:(ev (.tmp 38)=.pointer (some ⟨g,0,none⟩)):=hh.at 0;clear hh;have q0:=(HQ.out.below hb).c 0 _ rfl;refine Each.Goes.same ?_;go_simp;try with_reducible rfl
    ·refine Each.fine rfl (fun ev w1 hR hb hh=>?_);clear hh;have e0:=hR.old 0 rfl;simp only [Array.getD_eq_getD_getElem?,List.getElem?_toArray,List.getElem?_cons_zero,Option.getD_some] at e0;refine Each.Goes.same ?_;go_simp;try with_reducible rfl
    ·refine Each.fine rfl (fun ev w1 hR hb hh=>?_);have e40:(ev (.tmp 40)=.pointer (some ⟨g,0,none⟩)):=hh.at 0;clear hh;refine Each.Goes.same ?_;go_simp;try with_reducible rfl
    ·refine Each.fine rfl (fun ev w1 hR hb hh=>?_);have e41:(ev (.tmp 41)=.pointer (some ⟨g,0,none⟩)):=hh.at 0;clear hh;refine Each.Goes.same ?_;go_simp;try with_reducible rfl
    ·refine Each.fine rfl (fun ev w1 hR hb hh=>?_);have e42:(ev (.tmp 42)=.pointer (some ⟨g,1,none⟩)):=hh.at 0;clear hh;have q1:=(HQ.out.below hb).c 1 _ rfl;have q2:=(HQ.out.below hb).c 2 _ rfl;have q3:=(HQ.out.below hb).c 3 _ rfl;have q4:=(HQ.out.below hb).c 4 _ rfl;have q5:=(HQ.out.below hb).c 5 _ rfl;have q6:=(HQ.out.below hb).c 6 _ rfl;have q7:=(HQ.out.below hb).c 7 _ rfl;have q8:=(HQ.out.below hb).c 8 _ rfl;have q9:=(HQ.out.below hb).c 9 _ rfl;have q10:=(HQ.out.below hb).c 10 _ rfl;refine Each.Goes.same ?_;go_simp;try with_reducible rfl
    ·refine Each.fine rfl (fun ev w1 hR hb hh=>?_);have e35:(ev (.tmp 35)=.string x):=hh.at 0;have e39:(ev (.tmp 39)=.int .u32 (p:Int)):=hh.at 1;have e43:(ev (.tmp 43)=.agg #[.int .i64 b.x0,.int .i64 b.x1,.int .i64 b.x2,.int .i64 b.x3,.int .i64 b.x4,.int .i64 b.x5,.int .i64 b.x6,.int .i64 b.x7,.bool b.ch,.bool b.od]):=hh.at 2;clear hh;have ef:=hR.func
     refine Each.Goes.enter 80 #[.string x,.int .u32 (p:Int),.agg #[.int .i64 b.x0,.int .i64 b.x1,.int .i64 b.x2,.int .i64 b.x3,.int .i64 b.x4,.int .i64 b.x5,.int .i64 b.x6,.int .i64 b.x7,.bool b.ch,.bool b.od]] (by go_simp) ((HZ.out w1).mono ?_);rintro r w2 ⟨rfl,hb2⟩;exact ⟨_,rfl,hb2,rfl⟩
    ·refine Each.fine rfl (fun ev w1 hR hb hh=>?_);have e44:(ev (.tmp 44)=.tuple #[.string qm,.string qt,.int .i64 (qk:Int),.int .i64 0]):=hh.at 0;clear hh;refine Each.Goes.same ?_;go_simp;try with_reducible rfl
    ·refine Each.fine rfl (fun ev w1 hR hb hh=>?_);have e34:(ev (.tmp 34)=.tuple #[.string qm,.string qt,.int .i64 (qk:Int),.int .i64 0]):=hh.at 0;clear hh;refine Each.Goes.same ?_;go_simp;try with_reducible rfl
    ·refine Each.fine rfl (fun ev w1 hR hb hh=>?_);have e34:(ev (.tmp 34)=.tuple #[.string qm,.string qt,.int .i64 (qk:Int),.int .i64 0]):=hh.at 0;clear hh;refine Each.Goes.same ?_;go_simp;try with_reducible rfl
    ·refine Each.fine rfl (fun ev w1 hR hb hh=>?_);have e34:(ev (.tmp 34)=.tuple #[.string qm,.string qt,.int .i64 (qk:Int),.int .i64 0]):=hh.at 0;clear hh;refine Each.Goes.same ?_;go_simp;try with_reducible rfl
    ·refine Each.fine rfl (fun ev w1 hR hb hh=>?_);have e34:(ev (.tmp 34)=.tuple #[.string qm,.string qt,.int .i64 (qk:Int),.int .i64 0]):=hh.at 0;clear hh;refine Each.Goes.same ?_;go_simp;try with_reducible rfl
    ·refine Each.fine rfl (fun ev w1 hR hb hh=>?_);have e45:(ev (.tmp 45)=.string qm):=hh.at 0;clear hh;refine Each.Goes.same ?_;go_simp;try with_reducible rfl
    ·refine Each.fine rfl (fun ev w1 hR hb hh=>?_);have e46:(ev (.tmp 46)=.string qt):=hh.at 0;clear hh;refine Each.Goes.same ?_;go_simp;try with_reducible rfl
    ·refine Each.fine rfl (fun ev w1 hR hb hh=>?_);have e47:(ev (.tmp 47)=.int .i64 (qk:Int)):=hh.at 0;clear hh;refine Each.Goes.same ?_;go_simp;try with_reducible rfl
    ·refine Each.fine rfl (fun ev w1 hR hb hh=>?_);have e48:(ev (.tmp 48)=.int .i64 0):=hh.at 0;clear hh;refine Each.Goes.same ?_;go_simp;try with_reducible rfl
   intro g1 w2 hb hf;have z4:(g1 4=.string qm):=hf.at 15;have z5:(g1 5=.string qt):=hf.at 16;have z6:(g1 6=.int .i64 (qk:Int)):=hf.at 17;have z7:(g1 7=.int .i64 0):=hf.at 18;clear hf;simp only [Each.putg,Act.put,List.setIfInBounds_toArray,List.set_cons_zero,List.set_cons_succ];rw [z4];rw [z5];rw [z6];rw [z7]
   have H1:=Lib.hid (H.out.below hb);have HS1:=Lib.hid (Step.of_below hb (L:=blks g q v f bd t o));clear hb HQ
   have H2:=Lib.hid ((((H1.out.put 13 (.string qm) {s with r:={s.r with m:=qm}} rfl rfl rfl rfl rfl rfl).put 14 (.string qt) {s with r:={s.r with m:=qm,x:=qt}} rfl rfl rfl rfl rfl rfl).put 15 (.int .i64 (qk:Int)) {s with r:={s.r with m:=qm,x:=qt,k:=(qk:Int)}} rfl rfl rfl rfl rfl rfl).put 11 (.int .i64 1) {s with r:={s.r with m:=qm,x:=qt,k:=(qk:Int)},st:=1} rfl rfl rfl rfl rfl rfl)
   have HS2:=Lib.hid (HS1.out.trans ((((Step.set g 13 (.string qm) (by simp)).trans (Step.set g 14 (.string qt) (by simp))).trans (Step.set g 15 (.int .i64 (qk:Int)) (by simp))).trans (Step.set g 11 (.int .i64 1) (by simp))));clear c11;have c11:=H1.out.cs.c11;have c13:=H1.out.cs.c13;have c14:=H1.out.cs.c14;have c15:=H1.out.cs.c15;have z11:=H1.out.marks 11;have z13:=H1.out.marks 13;have z14:=H1.out.marks 14;have z15:=H1.out.marks 15;go_wp2;first | go_end0 | refine bodyPost_ret (results_none rfl _ _ _) rfl ?_
   exact ⟨rfl,_,_,_,_,_,_,H2.out,HS2.out⟩
  ·rw [if_pos hqe];have tz:¬(qe:Int)=0:=by omega
   have tz':((qe:Int)==0)=false:=beq_eq_false_iff_ne.2 tz;clear hqe;go_enter Tryz.func72,Tryz.ntmps72;go_upto_region 6 with fail
   refine Each.region_all 19 [35,36,37,38,39,40,41,42,43,44,34,45,46,47,48,4,5,6,7]
    [fun v _=>v=.string x,
      fun v _=>v=.pointer (some ⟨g,0,none⟩),
      fun v _=>v=.pointer (some ⟨g,0,none⟩),
      fun v _=>v=.pointer (some ⟨g,0,none⟩),
      fun v _=>v=.int .u32 (p:Int),
      fun v _=>v=.pointer (some ⟨g,0,none⟩),
      fun v _=>v=.pointer (some ⟨g,0,none⟩),
      fun v _=>v=.pointer (some ⟨g,1,none⟩),
      fun v _=>v=.agg #[.int .i64 b.x0,.int .i64 b.x1,.int .i64 b.x2,.int .i64 b.x3,.int .i64 b.x4,.int .i64 b.x5,.int .i64 b.x6,.int .i64 b.x7,.bool b.ch,.bool b.od],
      fun v _=>v=.tuple #[.string qm,.string qt,.int .i64 (qk:Int),.int .i64 (qe:Int)],
      fun v _=>v=.tuple #[.string qm,.string qt,.int .i64 (qk:Int),.int .i64 (qe:Int)],
      fun v _=>v=.string qm,
      fun v _=>v=.string qt,
      fun v _=>v=.int .i64 (qk:Int),
      fun v _=>v=.int .i64 (qe:Int),
      fun v _=>v=.string qm,
      fun v _=>v=.string qt,
      fun v _=>v=.int .i64 (qk:Int),
      fun v _=>v=.int .i64 (qe:Int)]
     (by kernel_rfl) (by kernel_rfl) (by kernel_rfl) (by kernel_rfl) (fun _ _ d _ _ h=>by cases d<;>exact h) (by rfl) (by rfl)
    ⟨Each.Lasts.eq _,Each.Lasts.eq _,Each.Lasts.eq _,Each.Lasts.eq _,Each.Lasts.eq _,Each.Lasts.eq _,Each.Lasts.eq _,Each.Lasts.eq _,Each.Lasts.eq _,Each.Lasts.eq _,Each.Lasts.eq _,Each.Lasts.eq _,Each.Lasts.eq _,Each.Lasts.eq _,Each.Lasts.eq _,Each.Lasts.eq _,Each.Lasts.eq _,Each.Lasts.eq _,Each.Lasts.eq _,trivial⟩ ?_ ?_
   ·refine ⟨?_,?_,?_,?_,?_,?_,?_,?_,?_,?_,?_,?_,?_,?_,?_,?_,?_,?_,?_,trivial⟩
    ·refine Each.fine rfl (fun ev w1 hR hb hh=>?_);clear hh;have e1:=hR.old 1 rfl;simp only [Array.getD_eq_getD_getElem?,List.getElem?_toArray,List.getElem?_cons_succ,List.getElem?_cons_zero,Option.getD_some] at e1;refine Each.Goes.same ?_;go_simp;try with_reducible rfl
    ·refine Each.fine rfl (fun ev w1 hR hb hh=>?_);clear hh;have e0:=hR.old 0 rfl;simp only [Array.getD_eq_getD_getElem?,List.getElem?_toArray,List.getElem?_cons_zero,Option.getD_some] at e0;refine Each.Goes.same ?_;go_simp;try with_reducible rfl
    ·refine Each.fine rfl (fun ev w1 hR hb hh=>?_);have e36:(ev (.tmp 36)=.pointer (some ⟨g,0,none⟩)):=hh.at 0;clear hh;refine Each.Goes.same ?_;go_simp;try with_reducible rfl
    ·refine Each.fine rfl (fun ev w1 hR hb hh=>?_);have e37:(ev (.tmp 37)=.pointer (some ⟨g,0,none⟩)):=hh.at 0;clear hh;refine Each.Goes.same ?_;go_simp;try with_reducible rfl
    ·refine Each.fine rfl (fun ev w1 hR hb hh=>?_);have e38:(ev (.tmp 38)=.pointer (some ⟨g,0,none⟩)):=hh.at 0;clear hh;have q0:=(HQ.out.below hb).c 0 _ rfl;refine Each.Goes.same ?_;go_simp;try with_reducible rfl
    ·refine Each.fine rfl (fun ev w1 hR hb hh=>?_);clear hh;have e0:=hR.old 0 rfl;simp only [Array.getD_eq_getD_getElem?,List.getElem?_toArray,List.getElem?_cons_zero,Option.getD_some] at e0;refine Each.Goes.same ?_;go_simp;try with_reducible rfl
    ·refine Each.fine rfl (fun ev w1 hR hb hh=>?_);have e40:(ev (.tmp 40)=.pointer (some ⟨g,0,none⟩)):=hh.at 0;clear hh;refine Each.Goes.same ?_;go_simp;try with_reducible rfl
    ·refine Each.fine rfl (fun ev w1 hR hb hh=>?_);have e41:(ev (.tmp 41)=.pointer (some ⟨g,0,none⟩)):=hh.at 0;clear hh;refine Each.Goes.same ?_;go_simp;try with_reducible rfl
    ·refine Each.fine rfl (fun ev w1 hR hb hh=>?_);have e42:(ev (.tmp 42)=.pointer (some ⟨g,1,none⟩)):=hh.at 0;clear hh;have q1:=(HQ.out.below hb).c 1 _ rfl;have q2:=(HQ.out.below hb).c 2 _ rfl;have q3:=(HQ.out.below hb).c 3 _ rfl;have q4:=(HQ.out.below hb).c 4 _ rfl;have q5:=(HQ.out.below hb).c 5 _ rfl;have q6:=(HQ.out.below hb).c 6 _ rfl;have q7:=(HQ.out.below hb).c 7 _ rfl;have q8:=(HQ.out.below hb).c 8 _ rfl;have q9:=(HQ.out.below hb).c 9 _ rfl;have q10:=(HQ.out.below hb).c 10 _ rfl;refine Each.Goes.same ?_;go_simp;try with_reducible rfl
    ·refine Each.fine rfl (fun ev w1 hR hb hh=>?_);have e35:(ev (.tmp 35)=.string x):=hh.at 0;have e39:(ev (.tmp 39)=.int .u32 (p:Int)):=hh.at 1;have e43:(ev (.tmp 43)=.agg #[.int .i64 b.x0,.int .i64 b.x1,.int .i64 b.x2,.int .i64 b.x3,.int .i64 b.x4,.int .i64 b.x5,.int .i64 b.x6,.int .i64 b.x7,.bool b.ch,.bool b.od]):=hh.at 2;clear hh;have ef:=hR.func
     refine Each.Goes.enter 80 #[.string x,.int .u32 (p:Int),.agg #[.int .i64 b.x0,.int .i64 b.x1,.int .i64 b.x2,.int .i64 b.x3,.int .i64 b.x4,.int .i64 b.x5,.int .i64 b.x6,.int .i64 b.x7,.bool b.ch,.bool b.od]] (by go_simp) ((HZ.out w1).mono ?_);rintro r w2 ⟨rfl,hb2⟩;exact ⟨_,rfl,hb2,rfl⟩
    ·refine Each.fine rfl (fun ev w1 hR hb hh=>?_);have e44:(ev (.tmp 44)=.tuple #[.string qm,.string qt,.int .i64 (qk:Int),.int .i64 (qe:Int)]):=hh.at 0;clear hh;refine Each.Goes.same ?_;go_simp;try with_reducible rfl
    ·refine Each.fine rfl (fun ev w1 hR hb hh=>?_);have e34:(ev (.tmp 34)=.tuple #[.string qm,.string qt,.int .i64 (qk:Int),.int .i64 (qe:Int)]):=hh.at 0;clear hh;refine Each.Goes.same ?_;go_simp;try with_reducible rfl
    ·refine Each.fine rfl (fun ev w1 hR hb hh=>?_);have e34:(ev (.tmp 34)=.tuple #[.string qm,.string qt,.int .i64 (qk:Int),.int .i64 (qe:Int)]):=hh.at 0;clear hh;refine Each.Goes.same ?_;go_simp;try with_reducible rfl
    ·refine Each.fine rfl (fun ev w1 hR hb hh=>?_);have e34:(ev (.tmp 34)=.tuple #[.string qm,.string qt,.int .i64 (qk:Int),.int .i64 (qe:Int)]):=hh.at 0;clear hh;refine Each.Goes.same ?_;go_simp;try with_reducible rfl
    ·refine Each.fine rfl (fun ev w1 hR hb hh=>?_);have e34:(ev (.tmp 34)=.tuple #[.string qm,.string qt,.int .i64 (qk:Int),.int .i64 (qe:Int)]):=hh.at 0;clear hh;refine Each.Goes.same ?_;go_simp;try with_reducible rfl
    ·refine Each.fine rfl (fun ev w1 hR hb hh=>?_);have e45:(ev (.tmp 45)=.string qm):=hh.at 0;clear hh;refine Each.Goes.same ?_;go_simp;try with_reducible rfl
    ·refine Each.fine rfl (fun ev w1 hR hb hh=>?_);have e46:(ev (.tmp 46)=.string qt):=hh.at 0;clear hh;refine Each.Goes.same ?_;go_simp;try with_reducible rfl
    ·refine Each.fine rfl (fun ev w1 hR hb hh=>?_);have e47:(ev (.tmp 47)=.int .i64 (qk:Int)):=hh.at 0;clear hh;refine Each.Goes.same ?_;go_simp;try with_reducible rfl
    ·refine Each.fine rfl (fun ev w1 hR hb hh=>?_);have e48:(ev (.tmp 48)=.int .i64 (qe:Int)):=hh.at 0;clear hh;refine Each.Goes.same ?_;go_simp;try with_reducible rfl
   intro g1 w2 hb hf;have z4:(g1 4=.string qm):=hf.at 15;have z5:(g1 5=.string qt):=hf.at 16;have z6:(g1 6=.int .i64 (qk:Int)):=hf.at 17;have z7:(g1 7=.int .i64 (qe:Int)):=hf.at 18;clear hf;simp only [Each.putg,Act.put,List.setIfInBounds_toArray,List.set_cons_zero,List.set_cons_succ];rw [z4];rw [z5];rw [z6];rw [z7]
   have HFA:=Lib.hid (fail_any (H.out.below hb) qe);have HS1:=Lib.hid (Step.of_below hb (L:=blks g q v f bd t o));clear hb HQ
   go_wp2_with (go_at_call 56;with_reducible refine HFA.out.mono ?_;rintro r w4 ⟨rfl,hP,hS⟩);first | go_end0 | refine bodyPost_ret (results_none rfl _ _ _) rfl ?_
   exact ⟨rfl,_,_,_,_,_,_,hP,HS1.out.trans hS⟩
theorem ended_behind (x:ByteArray) (h:PR w B g q v f bd t o p b s) (hst:s.st=5):Calls Tryz.prog 72 #[ptr g,.string x] w fun r w'=>
 r=.returned (.tuple #[])∧∃q1 v1 f1 bd1 t1 o1,PR w' B g q1 v1 f1 bd1 t1 o1 p b (s.ended p b x.data.toList)∧Step (blks g q v f bd t o) (blks g q1 v1 f1 bd1 t1 o1) w w':=by
 have es:s.ended p b x.data.toList={s with st:=3,rd:=nl p b.x0}:=by unfold S.ended;rw [hst];rfl
 rw [es];have c11:=h.cs.c11;rw [hst] at c11;have H:=Lib.hid h;clear es
 have HQ:=Lib.hid ((h.drew 1).bk)
 have HBW:=Lib.hid (show B≤(w.drewN 1).heap.size from Nat.le_trans h.own.ge (Nat.le_of_lt (h.drew 1).own.lt));clear h hst;go_enter Tryz.func72,Tryz.ntmps72;go_upto_region 21 with fail
 clear c11;refine Each.region_float 12 [122,123,124,125,126,127,128,129,130,131,132,133]
  [fun v _=>v=.pointer (some ⟨g,0,none⟩),
    fun v _=>v=.pointer (some ⟨g,0,none⟩),
    fun v _=>v=.pointer (some ⟨g,0,none⟩),
    fun v _=>v=.pointer (some ⟨g,0,none⟩),
    fun v _=>v=.pointer (some ⟨g,0,none⟩),
    fun v _=>v=.int .u32 (p:Int),
    fun v _=>v=.pointer (some ⟨g,0,none⟩),
    fun v _=>v=.pointer (some ⟨g,0,none⟩),
    fun v _=>v=.pointer (some ⟨g,1,none⟩),
    fun v _=>v=.pointer (some ⟨g,1,none⟩),
    fun v _=>v=.int .i64 b.x0,
    fun v u=>∃q1,v=ptr q1∧w.heap.size≤q1∧Ln.Rr u B q1 nil p (nl p (b.x0))]
  [] 6 (some 1) (.quiet 12 (.quiet 13 (.act 14 (.quiet 15 (.quiet 16 (.act 17 .done)))))) (.quiet 1 (.quiet 12 (.quiet 13 (.act 14 (.quiet 15 (.quiet 16 (.act 17 .done))))))) (by kernel_rfl) (by kernel_rfl) (by kernel_rfl) (by kernel_rfl) (fun k0 h=>by cases h;kernel_rfl) (fun _ _ d _ _ h=>by cases d<;>exact h) (by rfl) (by rfl)
  ⟨Each.Lasts.eq _,Each.Lasts.eq _,Each.Lasts.eq _,Each.Lasts.eq _,Each.Lasts.eq _,Each.Lasts.eq _,Each.Lasts.eq _,Each.Lasts.eq _,Each.Lasts.eq _,Each.Lasts.eq _,Each.Lasts.eq _,((fun _ _ _ hb h=>by obtain ⟨q1,e1,h1,h2⟩:=h;exact ⟨q1,e1,h1,rr_below h2 hb⟩)),trivial⟩ trivial (by rfl) ?_ ?_ ?_
 ·refine ⟨?_,?_,?_,?_,?_,?_,?_,?_,?_,?_,?_,?_,trivial⟩
  ·refine Each.fine rfl (fun ev w1 hR hb hh=>?_);clear hh;have e0:=hR.old 0 rfl;simp only [Array.getD_eq_getD_getElem?,List.getElem?_toArray,List.getElem?_cons_zero,Option.getD_some] at e0;refine Each.Goes.same ?_;go_simp;try with_reducible rfl
  ·refine Each.fine rfl (fun ev w1 hR hb hh=>?_);clear hh;have e0:=hR.old 0 rfl;simp only [Array.getD_eq_getD_getElem?,List.getElem?_toArray,List.getElem?_cons_zero,Option.getD_some] at e0;refine Each.Goes.same ?_;go_simp;try with_reducible rfl
  ·refine Each.fine rfl (fun ev w1 hR hb hh=>?_);clear hh;have e0:=hR.old 0 rfl;simp only [Array.getD_eq_getD_getElem?,List.getElem?_toArray,List.getElem?_cons_zero,Option.getD_some] at e0;refine Each.Goes.same ?_;go_simp;try with_reducible rfl
  ·refine Each.fine rfl (fun ev w1 hR hb hh=>?_);have e124:(ev (.tmp 124)=.pointer (some ⟨g,0,none⟩)):=hh.at 0;clear hh;refine Each.Goes.same ?_;go_simp;try with_reducible rfl
  ·refine Each.fine rfl (fun ev w1 hR hb hh=>?_);have e125:(ev (.tmp 125)=.pointer (some ⟨g,0,none⟩)):=hh.at 0;clear hh;refine Each.Goes.same ?_;go_simp;try with_reducible rfl
  ·refine Each.fine rfl (fun ev w1 hR hb hh=>?_);have e126:(ev (.tmp 126)=.pointer (some ⟨g,0,none⟩)):=hh.at 0;clear hh;have q0:=(HQ.out.below hb).c 0 _ rfl;refine Each.Goes.same ?_;go_simp;try with_reducible rfl
  ·refine Each.fine rfl (fun ev w1 hR hb hh=>?_);clear hh;have e0:=hR.old 0 rfl;simp only [Array.getD_eq_getD_getElem?,List.getElem?_toArray,List.getElem?_cons_zero,Option.getD_some] at e0;refine Each.Goes.same ?_;go_simp;try with_reducible rfl
  ·refine Each.fine rfl (fun ev w1 hR hb hh=>?_);have e128:(ev (.tmp 128)=.pointer (some ⟨g,0,none⟩)):=hh.at 0;clear hh;refine Each.Goes.same ?_;go_simp;try with_reducible rfl
  ·refine Each.fine rfl (fun ev w1 hR hb hh=>?_);have e129:(ev (.tmp 129)=.pointer (some ⟨g,0,none⟩)):=hh.at 0;clear hh;refine Each.Goes.same ?_;go_simp;try with_reducible rfl
  ·refine Each.fine rfl (fun ev w1 hR hb hh=>?_);have e130:(ev (.tmp 130)=.pointer (some ⟨g,1,none⟩)):=hh.at 0;clear hh;refine Each.Goes.same ?_;go_simp;try with_reducible rfl
  ·refine Each.fine rfl (fun ev w1 hR hb hh=>?_);have e131:(ev (.tmp 131)=.pointer (some ⟨g,1,none⟩)):=hh.at 0;clear hh;have q1:=(HQ.out.below hb).c 1 _ rfl;refine Each.Goes.same ?_;go_simp;try with_reducible rfl
  ·refine Each.fine rfl (fun ev w1 hR hb hh=>?_);have e127:(ev (.tmp 127)=.int .u32 (p:Int)):=hh.at 0;have e132:(ev (.tmp 132)=.int .i64 b.x0):=hh.at 1;clear hh;have ef:=hR.func
   refine Each.Goes.enter 55 #[.int .u32 (p:Int),.int .i64 (b.x0)] (by go_simp) ((rnew_line B (b.x0) w1 (Nat.le_trans HBW.out hb.size)).mono ?_);rintro r w2 ⟨q1,rfl,h1,h2,hb2⟩;exact ⟨_,rfl,hb2,q1,rfl,Nat.le_trans hb.size h1,h2⟩
 ·intro g1 w2 hb hf;have z122:(g1 122=.pointer (some ⟨g,0,none⟩)):=hf.at 0;have z123:(g1 123=.pointer (some ⟨g,0,none⟩)):=hf.at 1;have z133:((fun v u=>∃q1,v=ptr q1∧w.heap.size≤q1∧Ln.Rr u B q1 nil p (nl p (b.x0))) (g1 133) w2):=hf.at 11;clear hf;obtain ⟨q1,e1,hq1,hr1⟩:=z133;simp only [Each.putg,Act.put,List.setIfInBounds_toArray,List.set_cons_zero,List.set_cons_succ];rw [e1,z122,z123];simp only [Tree.grow,Tree.put1,List.getElem?_cons_zero,List.getElem?_cons_succ];refine Tree.quiet (by rfl) (ptr g) (fun _ _=>by go_simp) ?_;simp only [Act.put,List.setIfInBounds_toArray,List.set_cons_zero,List.set_cons_succ];refine Tree.quiet (by rfl) (.pointer (some ⟨g,11,none⟩)) (fun _ _=>by go_simp) ?_;simp only [Act.put,List.setIfInBounds_toArray,List.set_cons_zero,List.set_cons_succ];have h1:=H.out.below hb;have ho:=H.out.own.line hb hr1 hq1;have d11:=h1.cs.c11;have z11:=h1.marks 11
  refine Tree.change (by rfl) (fun K hK=>?_);go_simp;refine hK _ _ trivial ?_;clear hK K;refine Tree.quiet (by rfl) (ptr g) (fun _ _=>by go_simp) ?_;simp only [Act.put,List.setIfInBounds_toArray,List.set_cons_zero,List.set_cons_succ];refine Tree.quiet (by rfl) (.pointer (some ⟨g,12,none⟩)) (fun _ _=>by go_simp) ?_;simp only [Act.put,List.setIfInBounds_toArray,List.set_cons_zero,List.set_cons_succ];have c12:=h1.cs.c12;have z12:=h1.marks 12
  refine Tree.change (by rfl) (fun K hK=>?_);go_simp;refine hK _ _ trivial ?_;clear hK K;refine Tree.done ?_
  have HR:=Lib.hid (row_setL (row_setL h1.row 11 (.int .i64 3)) 12 (ptr q1))
  have HO:=Lib.hid ((ho.set 11 (.int .i64 3)).set 12 (ptr q1))
  have HS:=Lib.hid ((Step.line (g:=g) (q:=q) (v:=v) (f:=f) (bd:=bd) (t:=t) (o:=o) hb hq1).trans ((Step.set g 11 (.int .i64 3) (by simp)).trans (Step.set g 12 (ptr q1) (by simp))));clear HQ HBW hr1 hq1 c12 z12 d11 z11 h1 ho hb;go_wp2;first | go_end0 | refine bodyPost_ret (results_none rfl _ _ _) rfl ?_
  exact ⟨rfl,_,_,_,_,_,_,⟨HR.out,HO.out⟩,HS.out⟩
 ·intro k0 hk0 g1 w2 hb hf;cases hk0;have z122:(g1 122=.pointer (some ⟨g,0,none⟩)):=hf.at 0;have z133:((fun v u=>∃q1,v=ptr q1∧w.heap.size≤q1∧Ln.Rr u B q1 nil p (nl p (b.x0))) (g1 133) w2):=hf.at 11;clear hf;obtain ⟨q1,e1,hq1,hr1⟩:=z133;simp only [Each.putg,Act.put,List.setIfInBounds_toArray,List.set_cons_zero,List.set_cons_succ];rw [e1,z122];simp only [Tree.grow,Tree.put1,List.getElem?_cons_zero,List.getElem?_cons_succ];refine Tree.quiet (by rfl) (ptr g) (fun _ _=>by go_simp) ?_;simp only [Act.put,List.setIfInBounds_toArray,List.set_cons_zero,List.set_cons_succ];refine Tree.quiet (by rfl) (ptr g) (fun _ _=>by go_simp) ?_;simp only [Act.put,List.setIfInBounds_toArray,List.set_cons_zero,List.set_cons_succ];refine Tree.quiet (by rfl) (.pointer (some ⟨g,11,none⟩)) (fun _ _=>by go_simp) ?_;simp only [Act.put,List.setIfInBounds_toArray,List.set_cons_zero,List.set_cons_succ];have h1:=H.out.below hb;have ho:=H.out.own.line hb hr1 hq1;have d11:=h1.cs.c11;have z11:=h1.marks 11
  refine Tree.change (by rfl) (fun K hK=>?_);go_simp;refine hK _ _ trivial ?_;clear hK K;refine Tree.quiet (by rfl) (ptr g) (fun _ _=>by go_simp) ?_;simp only [Act.put,List.setIfInBounds_toArray,List.set_cons_zero,List.set_cons_succ];refine Tree.quiet (by rfl) (.pointer (some ⟨g,12,none⟩)) (fun _ _=>by go_simp) ?_;simp only [Act.put,List.setIfInBounds_toArray,List.set_cons_zero,List.set_cons_succ];have c12:=h1.cs.c12;have z12:=h1.marks 12
  refine Tree.change (by rfl) (fun K hK=>?_);go_simp;refine hK _ _ trivial ?_;clear hK K;refine Tree.done ?_
  have HR:=Lib.hid (row_setL (row_setL h1.row 11 (.int .i64 3)) 12 (ptr q1))
  have HO:=Lib.hid ((ho.set 11 (.int .i64 3)).set 12 (ptr q1))
  have HS:=Lib.hid ((Step.line (g:=g) (q:=q) (v:=v) (f:=f) (bd:=bd) (t:=t) (o:=o) hb hq1).trans ((Step.set g 11 (.int .i64 3) (by simp)).trans (Step.set g 12 (ptr q1) (by simp))));clear HQ HBW hr1 hq1 c12 z12 d11 z11 h1 ho hb;go_wp2;first | go_end0 | refine bodyPost_ret (results_none rfl _ _ _) rfl ?_
  exact ⟨rfl,_,_,_,_,_,_,⟨HR.out,HO.out⟩,HS.out⟩
end code
end Go.Proofs.YtimoakmcelocfaaGreat.Par
namespace Go.Proofs.YtimoakmcelocfaaGreat.Par
open Go.RowKit Base Txt Mem
section code
set_option maxHeartbeats 4000000
set_option maxRecDepth 20000
attribute [local go_sem] Base.some_undef
variable {w:World} {B:Zone} {g q:Nat} {v f bd t o:Value} {p:Nat} {b:Bd} {s:S}
theorem body_any (c:UInt8) (h:PR w B g q v f bd t o p b s) (hst0:s.st=2∨s.st=4) (hl:1≤s.left∧s.left≤2000000) (hbl:s.r.body.length≤2000000) (hout:s.out.length≤1000000000):Calls Tryz.prog 57 #[ptr g,.int .u8 (c.toNat:Int)] w fun r w'=>
 r=.returned (.tuple #[])∧∃q1 v1 f1 bd1 t1 o1,PR w' B g q1 v1 f1 bd1 t1 o1 p b (S.bodyB p b {s with fresh:=false} c)∧Step (blks g q v f bd t o) (blks g q1 v1 f1 bd1 t1 o1) w w':=by
 obtain ⟨iB,hi,hz0,hz1,hz2⟩:=info_parts byte_info;have I1:=Lib.hid hi;have I2:=Lib.hid hz0;have I3:=Lib.hid hz1;have I4:=Lib.hid hz2;obtain ⟨bb,cb,eb, -⟩:=Ln.own_slice h.own.D;subst eb;have H:=Lib.hid h;have HBL:=Lib.hid hbl;have HOU:=Lib.hid hout
 have H1:=Lib.hid (h.put 23 (.bool false) {s with fresh:=false} rfl rfl rfl rfl rfl rfl)
 have HS1:=Lib.hid (Step.set (w:=w) (L:=blks g q v f (.slice bb s.r.body.length cb) t o) g 23 (.bool false) (by simp));have c23:=h.cs.c23;have z23:=h.marks 23;clear hi hz0 hz1 hz2 hbl hout h;by_cases hmore:1<s.left
 ·obtain ⟨k,hleft⟩:∃k,s.left=k+1:=⟨s.left-1,by omega⟩;have e:S.bodyB p b {s with fresh:=false} c={s with fresh:=false,r:={s.r with body:=s.r.body ++ [c]},left:=k}:=by
   unfold S.bodyB;show (if 1<s.left then ({s with fresh:=false,r:={s.r with body:=s.r.body ++ [c]},left:=s.left-1}:S) else _)= _;rw [if_pos hmore,hleft];rfl
  rw [e];obtain ⟨a1,a2⟩:=Rec.wraps (k:Int) ⟨by omega,by omega⟩;have a3:(k:Int)+1-1=(k:Int):=by omega
  have t1:(0:Int)<(k:Int):=by omega
  have t1n:0<k:=by omega
  clear e hmore;rcases hst0 with hst | hst
  ·clear hl;have HST:=Lib.hid hst;have HLE:=Lib.hid hleft;clear hst hleft;have c11:w.cell? ⟨g,11,none⟩=some (.int .i64 2):=by have:=H.out.cs.c11;rw [HST.out] at this;exact this
   go_enter Tryz.func57,Tryz.ntmps57;go_upto_region 2 with fail
   generalize w.setCell ⟨g,23,none⟩ (.bool false)=W1 at *;clear c11 c23 z23;have c18:=H1.out.cs.c18;have z18:=H1.out.marks 18;go_upto_region 3 with
    (at_builtin;refine App.wpList_append_list _ rfl _ _ 34 rfl B 5 iB (.int .u8 0) 1 1 Tryz.underlying34 I1.out I2.out I3.out I4.out rfl (by decide) (.slice bb s.r.body.length cb) s.r.body.length (Rec.vals s.r.body) rfl (H1.out.own.D.alloc (.cells #[Rec.byteV c] 5)) (some ⟨W1.heap.size,0,none⟩) 1 1 [Rec.byteV c] rfl rfl (fun _=>⟨W1.heap.size,0,rfl,fun j u hu=>by rw [Nat.zero_add];exact (Rec.Bk.new W1 _ rfl 5 [Rec.byteV c]).c j u hu⟩) (fun u hu=>by rw [List.mem_singleton.1 hu];rfl) (by have:=HBL.out;unfold maxLen;omega) (by have:=HBL.out;omega) (by have:=H1.out.own.lt;have:=H1.out.own.ge;simp;omega) ?_;intro v2 w5 hO5 hgr5 _ hor5;obtain ⟨b9,c9,e9, -⟩:=Ln.own_slice hO5;subst e9;have hk5:Keeps [(.slice bb s.r.body.length cb:Value).ownBlock] (W1.alloc (.cells #[Rec.byteV c] 5)) w5:=Keeps.grown hgr5 fun k e=>by rw [e];exact List.mem_singleton.2 rfl
     have h4:=H1.out.below ((Below.refl _ _).alloc (Nat.le_refl _) (.cells #[Rec.byteV c] 5));have hl:(s.r.body ++ [c]).length=s.r.body.length+1:=by simp
     obtain ⟨ho5,hs5⟩:=h4.own.setD (bd':=.slice b9 (s.r.body.length+1) c9) (body':=s.r.body ++ [c]) hk5 (by rw [hl,Rec.vals_app];exact hO5) (by
      rcases hor5 with e | e
      ·exact .inl e
      ·exact .inr ⟨_,e,Nat.le_refl _⟩)
     have hrow:w5.heap[g]?= _:=hk5.row h4.row (fun hm=>by
      have e:some g=(.slice bb s.r.body.length cb:Value).ownBlock:=by simpa using hm
      exact h4.own.lone.ne (i:=0) (j:=4) rfl (by decide) (by rw [e];rfl))
     have HR5:=Lib.hid hrow;have HO5:=Lib.hid ho5;have HS5:=Lib.hid ((Step.of_below ((Below.refl W1.heap.size W1).alloc (Nat.le_refl _) (.cells #[Rec.byteV c] 5))).trans hs5);have d18:=row_cellL hrow (k:=18) rfl;have y18:=Ln.row_frozen hrow 18;clear hO5 hgr5 hor5 hk5 h4 hl ho5 hs5 hrow c18 z18)
   have H6:=Lib.hid (show PR (w5.setCell ⟨g,18,none⟩ (.slice b9 (s.r.body.length+1) c9)) B g q v f (.slice b9 (s.r.body.length+1) c9) t o p b {s with fresh:=false,r:={s.r with body:=s.r.body ++ [c]}} from ⟨row_setL HR5.out 18 (.slice b9 (s.r.body.length+1) c9),HO5.out.set 18 (.slice b9 (s.r.body.length+1) c9)⟩)
   have HS6:=Lib.hid ((HS1.out.trans HS5.out).trans (Step.set g 18 (.slice b9 (s.r.body.length+1) c9) (by simp)));clear HR5 HO5 HS5 d18 y18 HS1;generalize w5.setCell ⟨g,18,none⟩ (.slice b9 (s.r.body.length+1) c9)=W6 at *;have c22:W6.cell? ⟨g,22,none⟩=some (.int .i64 ((k:Int)+1)):=by have:=H6.out.cs.c22;rw [HLE.out] at this;exact this
   have z22:=H6.out.marks 22;have c11:W6.cell? ⟨g,11,none⟩=some (.int .i64 2):=by have:=H6.out.cs.c11;rw [HST.out] at this;exact this
   have H7:=Lib.hid (H6.out.put 22 (.int .i64 (k:Int)) {s with fresh:=false,r:={s.r with body:=s.r.body ++ [c]},left:=k} rfl rfl rfl rfl rfl rfl)
   have HS7:=Lib.hid (HS6.out.trans (Step.set g 22 (.int .i64 (k:Int)) (by simp)));clear HS6 H1;clear H6;go_wp2;first | go_end0 | refine bodyPost_ret (results_none rfl _ _ _) rfl ?_
   exact ⟨rfl,_,_,_,_,_,_,H7.out,HS7.out⟩
  ·clear hl;have HST:=Lib.hid hst;have HLE:=Lib.hid hleft;clear hst hleft;have c11:w.cell? ⟨g,11,none⟩=some (.int .i64 4):=by have:=H.out.cs.c11;rw [HST.out] at this;exact this
   go_enter Tryz.func57,Tryz.ntmps57;go_upto_region 2 with fail
   generalize w.setCell ⟨g,23,none⟩ (.bool false)=W1 at *;clear c11 c23 z23;have c18:=H1.out.cs.c18;have z18:=H1.out.marks 18;go_upto_region 3 with
    (at_builtin;refine App.wpList_append_list _ rfl _ _ 34 rfl B 5 iB (.int .u8 0) 1 1 Tryz.underlying34 I1.out I2.out I3.out I4.out rfl (by decide) (.slice bb s.r.body.length cb) s.r.body.length (Rec.vals s.r.body) rfl (H1.out.own.D.alloc (.cells #[Rec.byteV c] 5)) (some ⟨W1.heap.size,0,none⟩) 1 1 [Rec.byteV c] rfl rfl (fun _=>⟨W1.heap.size,0,rfl,fun j u hu=>by rw [Nat.zero_add];exact (Rec.Bk.new W1 _ rfl 5 [Rec.byteV c]).c j u hu⟩) (fun u hu=>by rw [List.mem_singleton.1 hu];rfl) (by have:=HBL.out;unfold maxLen;omega) (by have:=HBL.out;omega) (by have:=H1.out.own.lt;have:=H1.out.own.ge;simp;omega) ?_;intro v2 w5 hO5 hgr5 _ hor5;obtain ⟨b9,c9,e9, -⟩:=Ln.own_slice hO5;subst e9;have hk5:Keeps [(.slice bb s.r.body.length cb:Value).ownBlock] (W1.alloc (.cells #[Rec.byteV c] 5)) w5:=Keeps.grown hgr5 fun k e=>by rw [e];exact List.mem_singleton.2 rfl
     have h4:=H1.out.below ((Below.refl _ _).alloc (Nat.le_refl _) (.cells #[Rec.byteV c] 5));have hl:(s.r.body ++ [c]).length=s.r.body.length+1:=by simp
     obtain ⟨ho5,hs5⟩:=h4.own.setD (bd':=.slice b9 (s.r.body.length+1) c9) (body':=s.r.body ++ [c]) hk5 (by rw [hl,Rec.vals_app];exact hO5) (by
      rcases hor5 with e | e
      ·exact .inl e
      ·exact .inr ⟨_,e,Nat.le_refl _⟩)
     have hrow:w5.heap[g]?= _:=hk5.row h4.row (fun hm=>by
      have e:some g=(.slice bb s.r.body.length cb:Value).ownBlock:=by simpa using hm
      exact h4.own.lone.ne (i:=0) (j:=4) rfl (by decide) (by rw [e];rfl))
     have HR5:=Lib.hid hrow;have HO5:=Lib.hid ho5;have HS5:=Lib.hid ((Step.of_below ((Below.refl W1.heap.size W1).alloc (Nat.le_refl _) (.cells #[Rec.byteV c] 5))).trans hs5);have d18:=row_cellL hrow (k:=18) rfl;have y18:=Ln.row_frozen hrow 18;clear hO5 hgr5 hor5 hk5 h4 hl ho5 hs5 hrow c18 z18)
   have H6:=Lib.hid (show PR (w5.setCell ⟨g,18,none⟩ (.slice b9 (s.r.body.length+1) c9)) B g q v f (.slice b9 (s.r.body.length+1) c9) t o p b {s with fresh:=false,r:={s.r with body:=s.r.body ++ [c]}} from ⟨row_setL HR5.out 18 (.slice b9 (s.r.body.length+1) c9),HO5.out.set 18 (.slice b9 (s.r.body.length+1) c9)⟩)
   have HS6:=Lib.hid ((HS1.out.trans HS5.out).trans (Step.set g 18 (.slice b9 (s.r.body.length+1) c9) (by simp)));clear HR5 HO5 HS5 d18 y18 HS1;generalize w5.setCell ⟨g,18,none⟩ (.slice b9 (s.r.body.length+1) c9)=W6 at *;have c22:W6.cell? ⟨g,22,none⟩=some (.int .i64 ((k:Int)+1)):=by have:=H6.out.cs.c22;rw [HLE.out] at this;exact this
   have z22:=H6.out.marks 22;have c11:W6.cell? ⟨g,11,none⟩=some (.int .i64 4):=by have:=H6.out.cs.c11;rw [HST.out] at this;exact this
   have H7:=Lib.hid (H6.out.put 22 (.int .i64 (k:Int)) {s with fresh:=false,r:={s.r with body:=s.r.body ++ [c]},left:=k} rfl rfl rfl rfl rfl rfl)
   have HS7:=Lib.hid (HS6.out.trans (Step.set g 22 (.int .i64 (k:Int)) (by simp)));clear HS6 H1;clear H6;go_wp2;first | go_end0 | refine bodyPost_ret (results_none rfl _ _ _) rfl ?_
   exact ⟨rfl,_,_,_,_,_,_,H7.out,HS7.out⟩
 ·have hleft:s.left=1:=by omega
  rcases hst0 with hst | hst
  ·have e:S.bodyB p b {s with fresh:=false} c=S.whole p b {s with fresh:=false,r:={s.r with body:=s.r.body ++ [c]},left:=0}:=by
    unfold S.bodyB;show (if 1<s.left then _ else if s.st=2 then S.whole p b {s with fresh:=false,r:={s.r with body:=s.r.body ++ [c]},left:=s.left-1} else _)= _;rw [if_neg hmore,if_pos hst,hleft]
   rw [e];clear e hmore hl;have HST:=Lib.hid hst;have HLE:=Lib.hid hleft;clear hst hleft;have c11:w.cell? ⟨g,11,none⟩=some (.int .i64 2):=by have:=H.out.cs.c11;rw [HST.out] at this;exact this
   go_enter Tryz.func57,Tryz.ntmps57;go_upto_region 2 with fail
   generalize w.setCell ⟨g,23,none⟩ (.bool false)=W1 at *;clear c11 c23 z23;have c18:=H1.out.cs.c18;have z18:=H1.out.marks 18;go_upto_region 3 with
    (at_builtin;refine App.wpList_append_list _ rfl _ _ 34 rfl B 5 iB (.int .u8 0) 1 1 Tryz.underlying34 I1.out I2.out I3.out I4.out rfl (by decide) (.slice bb s.r.body.length cb) s.r.body.length (Rec.vals s.r.body) rfl (H1.out.own.D.alloc (.cells #[Rec.byteV c] 5)) (some ⟨W1.heap.size,0,none⟩) 1 1 [Rec.byteV c] rfl rfl (fun _=>⟨W1.heap.size,0,rfl,fun j u hu=>by rw [Nat.zero_add];exact (Rec.Bk.new W1 _ rfl 5 [Rec.byteV c]).c j u hu⟩) (fun u hu=>by rw [List.mem_singleton.1 hu];rfl) (by have:=HBL.out;unfold maxLen;omega) (by have:=HBL.out;omega) (by have:=H1.out.own.lt;have:=H1.out.own.ge;simp;omega) ?_;intro v2 w5 hO5 hgr5 _ hor5;obtain ⟨b9,c9,e9, -⟩:=Ln.own_slice hO5;subst e9;have hk5:Keeps [(.slice bb s.r.body.length cb:Value).ownBlock] (W1.alloc (.cells #[Rec.byteV c] 5)) w5:=Keeps.grown hgr5 fun k e=>by rw [e];exact List.mem_singleton.2 rfl
     have h4:=H1.out.below ((Below.refl _ _).alloc (Nat.le_refl _) (.cells #[Rec.byteV c] 5));have hl:(s.r.body ++ [c]).length=s.r.body.length+1:=by simp
     obtain ⟨ho5,hs5⟩:=h4.own.setD (bd':=.slice b9 (s.r.body.length+1) c9) (body':=s.r.body ++ [c]) hk5 (by rw [hl,Rec.vals_app];exact hO5) (by
      rcases hor5 with e | e
      ·exact .inl e
      ·exact .inr ⟨_,e,Nat.le_refl _⟩)
     have hrow:w5.heap[g]?= _:=hk5.row h4.row (fun hm=>by
      have e:some g=(.slice bb s.r.body.length cb:Value).ownBlock:=by simpa using hm
      exact h4.own.lone.ne (i:=0) (j:=4) rfl (by decide) (by rw [e];rfl))
     have HR5:=Lib.hid hrow;have HO5:=Lib.hid ho5;have HS5:=Lib.hid ((Step.of_below ((Below.refl W1.heap.size W1).alloc (Nat.le_refl _) (.cells #[Rec.byteV c] 5))).trans hs5);have d18:=row_cellL hrow (k:=18) rfl;have y18:=Ln.row_frozen hrow 18;clear hO5 hgr5 hor5 hk5 h4 hl ho5 hs5 hrow c18 z18)
   have H6:=Lib.hid (show PR (w5.setCell ⟨g,18,none⟩ (.slice b9 (s.r.body.length+1) c9)) B g q v f (.slice b9 (s.r.body.length+1) c9) t o p b {s with fresh:=false,r:={s.r with body:=s.r.body ++ [c]}} from ⟨row_setL HR5.out 18 (.slice b9 (s.r.body.length+1) c9),HO5.out.set 18 (.slice b9 (s.r.body.length+1) c9)⟩)
   have HS6:=Lib.hid ((HS1.out.trans HS5.out).trans (Step.set g 18 (.slice b9 (s.r.body.length+1) c9) (by simp)));clear HR5 HO5 HS5 d18 y18 HS1;generalize w5.setCell ⟨g,18,none⟩ (.slice b9 (s.r.body.length+1) c9)=W6 at *;have c22:W6.cell? ⟨g,22,none⟩=some (.int .i64 1):=by have:=H6.out.cs.c22;rw [HLE.out] at this;exact this
   have z22:=H6.out.marks 22;have c11:W6.cell? ⟨g,11,none⟩=some (.int .i64 2):=by have:=H6.out.cs.c11;rw [HST.out] at this;exact this
   have H7:=Lib.hid (H6.out.put 22 (.int .i64 0) {s with fresh:=false,r:={s.r with body:=s.r.body ++ [c]},left:=0} rfl rfl rfl rfl rfl rfl)
   have HS7:=Lib.hid (HS6.out.trans (Step.set g 22 (.int .i64 0) (by simp)));clear HS6 H1;clear H6
   have HW:=Lib.hid (whole_any H7.out HOU.out)
   go_wp2_with (go_at_call 69;with_reducible refine HW.out.mono ?_;rintro r w7 ⟨rfl,q1,o1,hP,hS⟩);first | go_end0 | refine bodyPost_ret (results_none rfl _ _ _) rfl ?_
   exact ⟨rfl,_,_,_,_,_,_,hP,HS7.out.trans hS⟩
  ·have e:S.bodyB p b {s with fresh:=false} c={s with fresh:=false,r:={s.r with body:=s.r.body ++ [c]},left:=0,st:=5,rd:=nl p 0}:=by
    unfold S.bodyB;show (if 1<s.left then _ else if s.st=2 then _ else ({s with fresh:=false,r:={s.r with body:=s.r.body ++ [c]},left:=s.left-1,st:=5,rd:=nl p 0}:S))= _;rw [if_neg hmore,if_neg (by omega),hleft]
   rw [e];clear e hmore hl;have HST:=Lib.hid hst;have HLE:=Lib.hid hleft;clear hst hleft;have c11:w.cell? ⟨g,11,none⟩=some (.int .i64 4):=by have:=H.out.cs.c11;rw [HST.out] at this;exact this
   go_enter Tryz.func57,Tryz.ntmps57;go_upto_region 2 with fail
   generalize w.setCell ⟨g,23,none⟩ (.bool false)=W1 at *;clear c11 c23 z23;have c18:=H1.out.cs.c18;have z18:=H1.out.marks 18;go_upto_region 3 with
    (at_builtin;refine App.wpList_append_list _ rfl _ _ 34 rfl B 5 iB (.int .u8 0) 1 1 Tryz.underlying34 I1.out I2.out I3.out I4.out rfl (by decide) (.slice bb s.r.body.length cb) s.r.body.length (Rec.vals s.r.body) rfl (H1.out.own.D.alloc (.cells #[Rec.byteV c] 5)) (some ⟨W1.heap.size,0,none⟩) 1 1 [Rec.byteV c] rfl rfl (fun _=>⟨W1.heap.size,0,rfl,fun j u hu=>by rw [Nat.zero_add];exact (Rec.Bk.new W1 _ rfl 5 [Rec.byteV c]).c j u hu⟩) (fun u hu=>by rw [List.mem_singleton.1 hu];rfl) (by have:=HBL.out;unfold maxLen;omega) (by have:=HBL.out;omega) (by have:=H1.out.own.lt;have:=H1.out.own.ge;simp;omega) ?_;intro v2 w5 hO5 hgr5 _ hor5;obtain ⟨b9,c9,e9, -⟩:=Ln.own_slice hO5;subst e9;have hk5:Keeps [(.slice bb s.r.body.length cb:Value).ownBlock] (W1.alloc (.cells #[Rec.byteV c] 5)) w5:=Keeps.grown hgr5 fun k e=>by rw [e];exact List.mem_singleton.2 rfl
     have h4:=H1.out.below ((Below.refl _ _).alloc (Nat.le_refl _) (.cells #[Rec.byteV c] 5));have hl:(s.r.body ++ [c]).length=s.r.body.length+1:=by simp
     obtain ⟨ho5,hs5⟩:=h4.own.setD (bd':=.slice b9 (s.r.body.length+1) c9) (body':=s.r.body ++ [c]) hk5 (by rw [hl,Rec.vals_app];exact hO5) (by
      rcases hor5 with e | e
      ·exact .inl e
      ·exact .inr ⟨_,e,Nat.le_refl _⟩)
     have hrow:w5.heap[g]?= _:=hk5.row h4.row (fun hm=>by
      have e:some g=(.slice bb s.r.body.length cb:Value).ownBlock:=by simpa using hm
      exact h4.own.lone.ne (i:=0) (j:=4) rfl (by decide) (by rw [e];rfl))
     have HR5:=Lib.hid hrow;have HO5:=Lib.hid ho5;have HS5:=Lib.hid ((Step.of_below ((Below.refl W1.heap.size W1).alloc (Nat.le_refl _) (.cells #[Rec.byteV c] 5))).trans hs5);have d18:=row_cellL hrow (k:=18) rfl;have y18:=Ln.row_frozen hrow 18;clear hO5 hgr5 hor5 hk5 h4 hl ho5 hs5 hrow c18 z18)
   have H6:=Lib.hid (show PR (w5.setCell ⟨g,18,none⟩ (.slice b9 (s.r.body.length+1) c9)) B g q v f (.slice b9 (s.r.body.length+1) c9) t o p b {s with fresh:=false,r:={s.r with body:=s.r.body ++ [c]}} from ⟨row_setL HR5.out 18 (.slice b9 (s.r.body.length+1) c9),HO5.out.set 18 (.slice b9 (s.r.body.length+1) c9)⟩)
   have HS6:=Lib.hid ((HS1.out.trans HS5.out).trans (Step.set g 18 (.slice b9 (s.r.body.length+1) c9) (by simp)));clear HR5 HO5 HS5 d18 y18 HS1;generalize w5.setCell ⟨g,18,none⟩ (.slice b9 (s.r.body.length+1) c9)=W6 at *;have c22:W6.cell? ⟨g,22,none⟩=some (.int .i64 1):=by have:=H6.out.cs.c22;rw [HLE.out] at this;exact this
   have z22:=H6.out.marks 22;have c11:W6.cell? ⟨g,11,none⟩=some (.int .i64 4):=by have:=H6.out.cs.c11;rw [HST.out] at this;exact this
   have H7:=Lib.hid (H6.out.put 22 (.int .i64 0) {s with fresh:=false,r:={s.r with body:=s.r.body ++ [c]},left:=0} rfl rfl rfl rfl rfl rfl)
   have HS7:=Lib.hid (HS6.out.trans (Step.set g 22 (.int .i64 0) (by simp)));clear HS6 H1;clear H6;go_upto_region 4 with fail
   generalize W6.setCell ⟨g,22,none⟩ (.int .i64 0)=W7 at *;clear c22 z22 c11;have c0:=H7.out.cs.c0;have e11:=H7.out.cs.c11;have e12:=H7.out.cs.c12;have z11:=H7.out.marks 11;have z12:=H7.out.marks 12
   have HNL:=Lib.hid (rnew_line (p:=p) B 0 W7 (Nat.le_trans H7.out.own.ge (Nat.le_of_lt H7.out.own.lt)));go_wp2_with
    (go_at_call 55;with_reducible refine HNL.out.mono ?_;rintro r w8 ⟨q1,rfl,hq1,hr1,hb8⟩
     have d11:=(hb8.cell (p:=⟨g,11,none⟩) H7.out.own.lt).trans e11;have d12:=(hb8.cell (p:=⟨g,12,none⟩) H7.out.own.lt).trans e12;have y11:=(hb8.frozen (p:=⟨g,11,none⟩) H7.out.own.lt).trans z11;have y12:=(hb8.frozen (p:=⟨g,12,none⟩) H7.out.own.lt).trans z12
     have HR8:=Lib.hid ((H7.out.below hb8).row);have HO8:=Lib.hid (H7.out.own.line hb8 hr1 hq1);have HS8:=Lib.hid (HS7.out.trans (Step.line hb8 hq1));clear hb8 hr1 hq1 e11 e12 z11 z12)
   first | go_end0 | refine bodyPost_ret (results_none rfl _ _ _) rfl ?_
   exact ⟨rfl,_,_,_,_,_,_,⟨row_setL (row_setL HR8.out 11 (.int .i64 5)) 12 (ptr q1),(HO8.out.set 11 (.int .i64 5)).set 12 (ptr q1)⟩,HS8.out.trans ((Step.set g 11 (.int .i64 5) (by simp)).trans (Step.set g 12 (ptr q1) (by simp)))⟩
end code
end Go.Proofs.YtimoakmcelocfaaGreat.Par
namespace Go.Proofs.YtimoakmcelocfaaGreat.Par
open Go.RowKit Base Txt Mem
section
variable {w w':World} {B:Zone} {g q:Nat} {v f bd t o:Value} {p:Nat} {rd:Ln.R} {fs ts:List Fld} {body:List UInt8} {out:List Rec.R}
theorem Own.reader (h:Own w B g q v f bd t o p rd fs body ts out) {v':Value} {rd':Ln.R} (hk:Ln.Kept q v.ownBlock w w') (hm:Ln.Moved w v.ownBlock v'.ownBlock) (hr:Ln.Rr w' B q v' p rd') :
 Own w' B g q v' f bd t o p rd' fs body ts out∧Step (blks g q v f bd t o) (blks g q v' f bd t o) w w'∧Keeps [some q,v.ownBlock] w w':=by
 have hk2:Keeps [some q,v.ownBlock] w w':=Keeps.of_kept hk (by simp) fun k e=>by simp [e]
 have hn:∀i j,i≠1→i≠2→(blks g q v f bd t o)[i]?=some (some j)→some j∉ [some q,v.ownBlock]:=fun i j h1 h2 hj hm=>by
  rcases (by simpa using hm:j=q∨some j=v.ownBlock) with e | e
  ·exact h1 (h.lone i 1 j hj (by rw [e];rfl))
  ·exact h2 (h.lone i 2 j hj (by rw [e];rfl))
 have e:blks g q v' f bd t o=(blks g q v f bd t o).set 2 v'.ownBlock:=rfl;have ho:v'.ownBlock=none∨(blks g q v f bd t o)[2]?=some v'.ownBlock∨∃k,v'.ownBlock=some k∧w.heap.size≤k:=by
  rcases hm with e | e | e
  ·exact .inr (.inl (by rw [e];rfl))
  ·exact .inl e
  ·exact .inr (.inr e)
 have hof:Of w (blks g q v f bd t o) (blks g q v' f bd t o):=by rw [e];exact Of.set 2 _ ho
 have hkL:Keeps (blks g q v f bd t o) w w':=hk2.mono fun k hk=>by
  rcases (by simpa using hk:k=q∨some k=v.ownBlock) with e | e
  ·simp [e]
  ·simp [e]
 obtain ⟨ps,h1,h2,h3⟩:=h.O
 refine ⟨⟨hr,hk2.own h.F fun j e=>hn 3 j (by decide) (by decide) (by rw [←e];rfl),hk2.own h.D fun j e=>hn 4 j (by decide) (by decide) (by rw [←e];rfl),hk2.own h.T fun j e=>hn 5 j (by decide) (by decide) (by rw [←e];rfl),
  ⟨ps,h1,fun x hx=>⟨(h2 x hx).1,by
    have hx2:=(h2 x hx).2.keeps hkL
    exact ⟨hx2.reads,fun k hb=>⟨fun hm=>by
     rcases hof k hm with e | e
     ·exact (hx2.far k hb).1 e
     ·exact absurd ((h2 x hx).2.far k hb).2 (by omega),(hx2.far k hb).2⟩,hx2.off⟩⟩,hk2.own h3 fun j e=>hn 6 j (by decide) (by decide) (by rw [←e];rfl)⟩,?_,h.ge,Nat.lt_of_lt_of_le h.lt hk2.size,h.zone.of hk2.size hof⟩,⟨hkL,hof⟩,hk2⟩
 rw [e];exact h.lone.set h.in 2 _ ho
theorem PR.reader {b:Bd} {s:S} (h:PR w B g q v f bd t o p b s) {v':Value} {rd':Ln.R} (hk:Ln.Kept q v.ownBlock w w') (hm:Ln.Moved w v.ownBlock v'.ownBlock) (hr:Ln.Rr w' B q v' p rd') :
 PR w' B g q v' f bd t o p b {s with rd:=rd'}∧Step (blks g q v f bd t o) (blks g q v' f bd t o) w w':=by
 obtain ⟨h1,h2,h3⟩:=h.own.reader hk hm hr;refine ⟨⟨h3.row h.row fun hm=>?_,h1⟩,h2⟩;rcases (by simpa using hm:g=q∨some g=v.ownBlock) with e | e
 ·exact absurd (h.own.lone 0 1 g rfl (by rw [e];rfl)) (by decide)
 ·exact absurd (h.own.lone 0 2 g rfl (by rw [e];rfl)) (by decide)
end
section code
set_option maxHeartbeats 4000000
set_option maxRecDepth 20000
attribute [local go_sem] Base.some_undef
variable {w:World} {B:Zone} {g q:Nat} {v f bd t o:Value} {p:Nat} {b:Bd} {s:S}
theorem long_any (hp:p<4294967296) (c:UInt8) (h:PR w B g q v f bd t o p b s) (hs:s.st=0∨s.st=1∨s.st=3∨s.st=5∨s.st=6) (hb:s.st=5→Qk.has p 29=false):Calls Tryz.prog 71 #[ptr g,.int .u8 (c.toNat:Int)] w fun r w'=>
 r=.returned (.tuple #[])∧PR w' B g q v nil nil nil o p b (s.fail (longE s.st))∧Step (blks g q v f bd t o) (blks g q v nil nil nil o) w w':=by
 have HH:=Lib.hid (fun w=>Qk.rhas_any p hp 29 w);rcases hs with hst | hst | hst | hst | hst
 ·have e:longE s.st=414:=by rw [hst];rfl
  rw [e];clear hb e;have c11:w.cell? ⟨g,11,none⟩=some (.int .i64 0):=by have:=h.cs.c11;rw [hst] at this;exact this
  have HFA:=Lib.hid (fail_at h 414 414 rfl);clear h hst;go_enter Tryz.func71,Tryz.ntmps71
  go_wp2_with (first
   |(go_at_call 56;with_reducible refine HFA.out.mono ?_;rintro r w2 ⟨rfl,hP,hS⟩)
   |(go_at_call 39;with_reducible refine (HH.out _).mono ?_;rintro r w3 ⟨rfl,hw⟩;rw [hw];clear hw))
  first | go_end0 | refine bodyPost_ret (results_none rfl _ _ _) rfl ?_
  exact ⟨rfl,hP,hS⟩
 ·have e:longE s.st=431:=by rw [hst];rfl
  rw [e];clear hb e;have c11:w.cell? ⟨g,11,none⟩=some (.int .i64 1):=by have:=h.cs.c11;rw [hst] at this;exact this
  have HFA:=Lib.hid (fail_at h 431 431 rfl);clear h hst;go_enter Tryz.func71,Tryz.ntmps71
  go_wp2_with (first
   |(go_at_call 56;with_reducible refine HFA.out.mono ?_;rintro r w2 ⟨rfl,hP,hS⟩)
   |(go_at_call 39;with_reducible refine (HH.out _).mono ?_;rintro r w3 ⟨rfl,hw⟩;rw [hw];clear hw))
  first | go_end0 | refine bodyPost_ret (results_none rfl _ _ _) rfl ?_
  exact ⟨rfl,hP,hS⟩
 ·have e:longE s.st=400:=by rw [hst];rfl
  rw [e];clear hb e;have c11:w.cell? ⟨g,11,none⟩=some (.int .i64 3):=by have:=h.cs.c11;rw [hst] at this;exact this
  have HFA:=Lib.hid (fail_at h 400 400 rfl);clear h hst;go_enter Tryz.func71,Tryz.ntmps71
  go_wp2_with (first
   |(go_at_call 56;with_reducible refine HFA.out.mono ?_;rintro r w2 ⟨rfl,hP,hS⟩)
   |(go_at_call 39;with_reducible refine (HH.out _).mono ?_;rintro r w3 ⟨rfl,hw⟩;rw [hw];clear hw))
  first | go_end0 | refine bodyPost_ret (results_none rfl _ _ _) rfl ?_
  exact ⟨rfl,hP,hS⟩
 ·have e:longE s.st=400:=by rw [hst];rfl
  rw [e];rw [hb hst] at HH;clear hb e;have c11:w.cell? ⟨g,11,none⟩=some (.int .i64 5):=by have:=h.cs.c11;rw [hst] at this;exact this
  have HFA:=Lib.hid (fail_at h 400 400 rfl);have c0:=h.cs.c0;clear h hst;go_enter Tryz.func71,Tryz.ntmps71
  go_wp2_with (first
   |(go_at_call 56;with_reducible refine HFA.out.mono ?_;rintro r w2 ⟨rfl,hP,hS⟩)
   |(go_at_call 39;with_reducible refine (HH.out _).mono ?_;rintro r w3 ⟨rfl,hw⟩;rw [hw];clear hw))
  first | go_end0 | refine bodyPost_ret (results_none rfl _ _ _) rfl ?_
  exact ⟨rfl,hP,hS⟩
 ·have e:longE s.st=431:=by rw [hst];rfl
  rw [e];clear hb e;have c11:w.cell? ⟨g,11,none⟩=some (.int .i64 6):=by have:=h.cs.c11;rw [hst] at this;exact this
  have HFA:=Lib.hid (fail_at h 431 431 rfl);clear h hst;go_enter Tryz.func71,Tryz.ntmps71
  go_wp2_with (first
   |(go_at_call 56;with_reducible refine HFA.out.mono ?_;rintro r w2 ⟨rfl,hP,hS⟩)
   |(go_at_call 39;with_reducible refine (HH.out _).mono ?_;rintro r w3 ⟨rfl,hw⟩;rw [hw];clear hw))
  first | go_end0 | refine bodyPost_ret (results_none rfl _ _ _) rfl ?_
  exact ⟨rfl,hP,hS⟩
end code
end Go.Proofs.YtimoakmcelocfaaGreat.Par
namespace Go.Proofs.YtimoakmcelocfaaGreat.Par
open Go.RowKit Base Txt Mem
def lined (st:Nat):Prop:=st=0∨st=1∨st=3∨st=5∨st=6
structure LineOk (p:Nat) (q:Ln.R):Prop where
 lf:q.lf=Qk.has p 1
 cr:q.cr=Qk.has p 2
 most:q.most≤4096
 len:q.B.length≤q.most
theorem how_plain (q:Ln.R) (c:UInt8) (h:q.CR=false):q.how c=0∨q.how c=1∨q.how c=3∨q.how c=4:=by
 unfold Ln.R.how;rw [h]
 repeat' split
 all_goals simp_all
theorem byte_L (q:Ln.R) (c:UInt8) (h:q.how c=1∨q.how c=2):(q.byte c).L=q.B:=by
 unfold Ln.R.how at h;unfold Ln.R.byte
 repeat' split
 all_goals first | rfl |(exfalso;simp_all)
section code
set_option maxHeartbeats 4000000
set_option maxRecDepth 20000
attribute [local go_sem] Base.some_undef
variable {w:World} {B:Zone} {g q:Nat} {v f bd t o:Value} {p:Nat} {b:Bd} {s:S}
theorem ended_any (hp:p<4294967296) (h3:16≤b.x3∧b.x3≤1048576) (h4:0≤b.x4) (x:ByteArray) (hx:x.size≤5000) (h:PR w B g q v f bd t o p b s) (hs:lined s.st) (he:s.e=0) (ok:Fits s):Calls Tryz.prog 72 #[ptr g,.string x] w fun r w'=>
 r=.returned (.tuple #[])∧∃q1 v1 f1 bd1 t1 o1,PR w' B g q1 v1 f1 bd1 t1 o1 p b (s.ended p b x.data.toList)∧Step (blks g q v f bd t o) (blks g q1 v1 f1 bd1 t1 o1) w w':=by
 rcases hs with hst | hst | hst | hst | hst
 ·exact ended_first hp x hx h hst he
 ·exact ended_fields hp h3 x hx h hst ok
 ·exact ended_size hp h3 h4 x hx h hst ok
 ·exact ended_behind x h hst
 ·exact ended_trail hp x hx h hst ok
theorem plain_any (hp:p<4294967296) (h3:16≤b.x3∧b.x3≤1048576) (h4:0≤b.x4) (c:UInt8) (h:PR w B g q v f bd t o p b s) (hs:lined s.st) (he:s.e=0) (ok:Fits s) (hl:LineOk p s.rd) (hcr:s.rd.CR=false) (h5:s.st=5→s.rd.how c=4→Qk.has p 29=false) :
 Calls Tryz.prog 57 #[ptr g,.int .u8 (c.toNat:Int)] w fun r w'=>r=.returned (.tuple #[])∧∃q1 v1 f1 bd1 t1 o1,PR w' B g q1 v1 f1 bd1 t1 o1 p b (s.plain p b c)∧Step (blks g q v f bd t o) (blks g q1 v1 f1 bd1 t1 o1) w w':=by
 have hbod:bodied s.st=false:=by rcases hs with e | e | e | e | e<;>rw [e]<;>rfl
 have t2:((s.st:Int)==2)=false:=beq_eq_false_iff_ne.2 (by rcases hs with e | e | e | e | e<;>omega)
 have t4:((s.st:Int)==4)=false:=beq_eq_false_iff_ne.2 (by rcases hs with e | e | e | e | e<;>omega);have n2:¬(s.st:Int)=2:=beq_eq_false_iff_ne.1 t2;have n4:¬(s.st:Int)=4:=beq_eq_false_iff_ne.1 t4;have m2:¬s.st=2:=by omega
 have m4:¬s.st=4:=by omega
 have H1:=Lib.hid (h.put 23 (.bool false) {s with fresh:=false} rfl rfl rfl rfl rfl rfl)
 have HS1:=Lib.hid (Step.set (w:=w) (L:=blks g q v f bd t o) g 23 (.bool false) (by simp));have c23:=h.cs.c23;have z23:=h.marks 23;have c11:=h.cs.c11;have hrb:=Ln.rbyte_any c s.rd hl.most p hp hl.lf hl.cr (w.setCell ⟨g,23,none⟩ (.bool false)) B q v H1.out.own.R;clear h;have hL:s.rd.how c=1→(s.rd.byte c).L.length≤5000:=fun e=>by rw [byte_L s.rd c (.inl e)];have:=hl.len;have:=hl.most;omega
 rcases how_plain s.rd c hcr with hw | hw | hw | hw
 ·have e:s.plain p b c={s with fresh:=false,rd:=s.rd.byte c}:=by unfold S.plain;simp [hbod,hw]
  rw [e];rw [hw] at hrb;have HRB:=Lib.hid hrb;clear e hw hL hrb h5 hbod hs he hl hcr ok;go_enter Tryz.func57,Tryz.ntmps57;go_upto_region 8 with fail
  generalize w.setCell ⟨g,23,none⟩ (.bool false)=W1 at *;clear c23 z23 c11;have c12:=H1.out.cs.c12;go_wp2_with
   (go_at_call 70;with_reducible refine HRB.out.mono ?_;rintro r w2 ⟨v2,rfl,hr2,hk2,hm2⟩
    obtain ⟨hP2,hS2⟩:=H1.out.reader hk2 hm2 hr2
    have HP2:=Lib.hid hP2;have HS2:=Lib.hid (HS1.out.trans hS2);clear hr2 hk2 hm2 hP2 hS2)
  first | go_end0 | refine bodyPost_ret (results_none rfl _ _ _) rfl ?_
  exact ⟨rfl,_,_,_,_,_,_,HP2.out,HS2.out⟩
 ·have e:s.plain p b c=S.ended p b {s with fresh:=false,rd:=s.rd.byte c} (s.rd.byte c).L:=by unfold S.plain;simp [hbod,hw]
  rw [e];rw [hw] at hrb;have HRB:=Lib.hid hrb;obtain ⟨x,hx⟩:∃x:ByteArray,ba (s.rd.byte c).L=x:=⟨_,rfl⟩;have hxl:(s.rd.byte c).L=x.data.toList:=by rw [←hx];simp [ba]
  have hxs:x.size≤5000:=by rw [←hx,ba_size];exact hL hw
  rw [hxl]
  have HEN:=Lib.hid (fun w2 q1 v1 (h:PR w2 B g q1 v1 f bd t o p b {s with fresh:=false,rd:=s.rd.byte c})=>ended_any hp h3 h4 x hxs h hs he ⟨ok.lines,ok.fss,ok.fsl,ok.tss,ok.tsl,ok.body,ok.out⟩);have HX:=Lib.hid hx;clear e hw hL hrb h5 hbod hs he hl hcr ok hx hxl hxs;go_enter Tryz.func57,Tryz.ntmps57;go_upto_region 8 with fail
  generalize w.setCell ⟨g,23,none⟩ (.bool false)=W1 at *;clear c23 z23 c11;have c12:=H1.out.cs.c12
  go_wp2_with (first
   |(go_at_call 72;with_reducible refine (HEN.out _ _ _ HP2.out).mono ?_;rintro r w3 ⟨rfl,q1,v1,f1,bd1,t1,o1,hP3,hS3⟩)
   |(go_at_call 70;with_reducible refine HRB.out.mono ?_;rintro r w2 ⟨v2,rfl,hr2,hk2,hm2⟩
     obtain ⟨hP2,hS2⟩:=H1.out.reader hk2 hm2 hr2
     have HP2:=Lib.hid hP2;have HS2:=Lib.hid (HS1.out.trans hS2);have c11:=hP2.cs.c11;have c12:=hP2.cs.c12;have y4:w2.cell? ⟨q,4,none⟩=some (.string x):=by rw [←HX.out];exact Ln.row_cell hr2.row (k:=4) rfl
     clear hr2 hk2 hm2 hP2 hS2))
  first | go_end0 | refine bodyPost_ret (results_none rfl _ _ _) rfl ?_
  exact ⟨rfl,_,_,_,_,_,_,hP3,HS2.out.trans hS3⟩
 ·have e:s.plain p b c=S.fail {s with fresh:=false,rd:=s.rd.byte c} 400:=by unfold S.plain;simp [hbod,hw]
  rw [e];rw [hw] at hrb;have HRB:=Lib.hid hrb
  have HFA:=Lib.hid (fun w2 q1 v1 (h:PR w2 B g q1 v1 f bd t o p b {s with fresh:=false,rd:=s.rd.byte c})=>fail_at h 400 400 rfl);clear e hw hL hrb h5 hbod hs he hl hcr ok;go_enter Tryz.func57,Tryz.ntmps57;go_upto_region 8 with fail
  generalize w.setCell ⟨g,23,none⟩ (.bool false)=W1 at *;clear c23 z23 c11;have c12:=H1.out.cs.c12
  go_wp2_with (first
   |(go_at_call 56;with_reducible refine (HFA.out _ _ _ HP2.out).mono ?_;rintro r w3 ⟨rfl,hP3,hS3⟩)
   |(go_at_call 70;with_reducible refine HRB.out.mono ?_;rintro r w2 ⟨v2,rfl,hr2,hk2,hm2⟩
     obtain ⟨hP2,hS2⟩:=H1.out.reader hk2 hm2 hr2
     have HP2:=Lib.hid hP2;have HS2:=Lib.hid (HS1.out.trans hS2);have c11:=hP2.cs.c11;have c12:=hP2.cs.c12;have y4:=Ln.row_cell hr2.row (k:=4) rfl;clear hr2 hk2 hm2 hP2 hS2))
  first | go_end0 | refine bodyPost_ret (results_none rfl _ _ _) rfl ?_
  exact ⟨rfl,_,_,_,_,_,_,hP3,HS2.out.trans hS3⟩
 ·have e:s.plain p b c=S.fail {s with fresh:=false,rd:=s.rd.byte c} (longE s.st):=by unfold S.plain;simp [hbod,hw]
  rw [e];have h6:=fun e=>h5 e hw;rw [hw] at hrb;have HRB:=Lib.hid hrb
  have HLO:=Lib.hid (fun w2 q1 v1 (h:PR w2 B g q1 v1 f bd t o p b {s with fresh:=false,rd:=s.rd.byte c})=>long_any hp c h hs h6);clear e hw hL hrb h5 h6 hbod hs he hl hcr ok;go_enter Tryz.func57,Tryz.ntmps57;go_upto_region 8 with fail
  generalize w.setCell ⟨g,23,none⟩ (.bool false)=W1 at *;clear c23 z23 c11;have c12:=H1.out.cs.c12
  go_wp2_with (first
   |(go_at_call 71;with_reducible refine (HLO.out _ _ _ HP2.out).mono ?_;rintro r w3 ⟨rfl,hP3,hS3⟩)
   |(go_at_call 70;with_reducible refine HRB.out.mono ?_;rintro r w2 ⟨v2,rfl,hr2,hk2,hm2⟩
     obtain ⟨hP2,hS2⟩:=H1.out.reader hk2 hm2 hr2
     have HP2:=Lib.hid hP2;have HS2:=Lib.hid (HS1.out.trans hS2);have c11:=hP2.cs.c11;have c12:=hP2.cs.c12;have y4:=Ln.row_cell hr2.row (k:=4) rfl;clear hr2 hk2 hm2 hP2 hS2))
  first | go_end0 | refine bodyPost_ret (results_none rfl _ _ _) rfl ?_
  exact ⟨rfl,_,_,_,_,_,_,hP3,HS2.out.trans hS3⟩
end code
end Go.Proofs.YtimoakmcelocfaaGreat.Par
namespace Go.Proofs.YtimoakmcelocfaaGreat.Par
open Go.RowKit Base Txt Mem
section code
set_option maxHeartbeats 4000000
set_option maxRecDepth 20000
attribute [local go_sem] Base.some_undef
variable {w:World} {B:Zone} {g q:Nat} {v f bd t o:Value} {p:Nat} {b:Bd} {s:S}
theorem count_any (c:UInt8) (G:S→S) (h:PR w B g q v f bd t o p b s) (he:s.e=0) (hh:s.head≤1000000)
 (HB0:∀(w2:World) (s2:S),(headed s.st=true∧s2={s with head:=s.head+1,clean:=false}∧¬b.x2<(s2.head:Int))∨(headed s.st=false∧s2={s with clean:=false})→PR w2 B g q v f bd t o p b s2→Calls Tryz.prog 57 #[ptr g,.int .u8 (c.toNat:Int)] w2 fun r w'=>
   r=.returned (.tuple #[])∧∃q1 v1 f1 bd1 t1 o1,PR w' B g q1 v1 f1 bd1 t1 o1 p b (G s2)∧Step (blks g q v f bd t o) (blks g q1 v1 f1 bd1 t1 o1) w2 w') :
 Calls Tryz.prog 37 #[ptr g,.int .u8 (c.toNat:Int)] w fun r w'=>r=.returned (.tuple #[])∧∃q1 v1 f1 bd1 t1 o1,PR w' B g q1 v1 f1 bd1 t1 o1 p b (s.count b G)∧Step (blks g q v f bd t o) (blks g q1 v1 f1 bd1 t1 o1) w w':=by
 have HB:=Lib.hid HB0;have H:=Lib.hid h;unfold S.count;rw [if_neg (by rw [he];decide)];by_cases hd:headed s.st=true
 ·rw [if_pos hd];have hst0:s.st=0∨s.st=1∨s.st=6:=by
   unfold headed at hd;simp only [Bool.or_eq_true,beq_iff_eq] at hd;rcases hd with (e | e) | e
   ·exact .inl e
   ·exact .inr (.inl e)
   ·exact .inr (.inr e)
  obtain ⟨a1,a2⟩:=Rec.wraps ((s.head:Int)+1) ⟨by omega,by omega⟩;obtain ⟨S1,hS1⟩:∃S1:S,{s with head:=s.head+1}=S1:=⟨_,rfl⟩
  have H1:=Lib.hid (h.put 21 (.int .i64 ((s.head:Int)+1)) {s with head:=s.head+1} rfl rfl rfl rfl rfl rfl)
  have HS1:=Lib.hid (Step.set (w:=w) (L:=blks g q v f bd t o) g 21 (.int .i64 ((s.head:Int)+1)) (by simp));have c21:=h.cs.c21;have z21:=h.marks 21;have HSS:=Lib.hid hS1;have hd1:((s.head+1:Nat):Int)=(S1.head:Int):=by rw [←hS1]
  have e2:({s with head:=s.head+1,clean:=false}:S)={S1 with clean:=false}:=by rw [←hS1]
  have HD:=Lib.hid hd;rw [hS1] at H1;rw [hd1,hS1,e2];clear h HB0 hS1 hd hh e2 hd1
  by_cases hov:b.x2<(S1.head:Int)
  ·rw [if_pos hov];have HT:=Lib.hid hov;clear hov;rcases hst0 with hst | hst | hst
   ·have c11:w.cell? ⟨g,11,none⟩=some (.int .i64 0):=by have:=H.out.cs.c11;rw [hst] at this;exact this
    have c25:w.cell? ⟨g,25,none⟩=some (.int .i64 0):=by have:=H.out.cs.c25;rw [he] at this;exact this
    clear hst he;go_enter Tryz.func37,Tryz.ntmps37;go_upto_region 3 with fail
    generalize w.setCell ⟨g,21,none⟩ (.int .i64 ((s.head:Int)+1))=W1 at *;clear c11 c25 c21 z21 a1 a2
    have HQ:=Lib.hid ((H1.out.drew 1).bk);refine Each.region_all 10 [35,36,37,38,39,40,41,42,43,44]
     [fun v _=>v=.pointer (some ⟨g,0,none⟩),
       fun v _=>v=.pointer (some ⟨g,0,none⟩),
       fun v _=>v=.pointer (some ⟨g,21,none⟩),
       fun v _=>v=.int .i64 (S1.head:Int),
       fun v _=>v=.pointer (some ⟨g,0,none⟩),
       fun v _=>v=.pointer (some ⟨g,0,none⟩),
       fun v _=>v=.pointer (some ⟨g,1,none⟩),
       fun v _=>v=.pointer (some ⟨g,3,none⟩),
       fun v _=>v=.int .i64 b.x2,
       fun v _=>v=.bool true]
      (by kernel_rfl) (by kernel_rfl) (by kernel_rfl) (by kernel_rfl) (fun _ _ d _ _ h=>by cases d<;>exact h) (by rfl) (by rfl)
     ⟨Each.Lasts.eq _,Each.Lasts.eq _,Each.Lasts.eq _,Each.Lasts.eq _,Each.Lasts.eq _,Each.Lasts.eq _,Each.Lasts.eq _,Each.Lasts.eq _,Each.Lasts.eq _,Each.Lasts.eq _,trivial⟩ ?_ ?_
    ·refine ⟨?_,?_,?_,?_,?_,?_,?_,?_,?_,?_,trivial⟩
     ·refine Each.fine rfl (fun ev w1 hR hb hh=>?_);clear hh;have e0:=hR.old 0 rfl;simp only [Array.getD_eq_getD_getElem?,List.getElem?_toArray,List.getElem?_cons_zero,Option.getD_some] at e0;refine Each.Goes.same ?_;go_simp;try with_reducible rfl
     ·refine Each.fine rfl (fun ev w1 hR hb hh=>?_);have e35:(ev (.tmp 35)=.pointer (some ⟨g,0,none⟩)):=hh.at 0;clear hh;refine Each.Goes.same ?_;go_simp;try with_reducible rfl
     ·refine Each.fine rfl (fun ev w1 hR hb hh=>?_);have e36:(ev (.tmp 36)=.pointer (some ⟨g,0,none⟩)):=hh.at 0;clear hh;refine Each.Goes.same ?_;go_simp;try with_reducible rfl
     ·refine Each.fine rfl (fun ev w1 hR hb hh=>?_);have e37:(ev (.tmp 37)=.pointer (some ⟨g,21,none⟩)):=hh.at 0;clear hh;have q21:=(HQ.out.below hb).c 21 _ rfl;refine Each.Goes.same ?_;go_simp;try with_reducible rfl
     ·refine Each.fine rfl (fun ev w1 hR hb hh=>?_);clear hh;have e0:=hR.old 0 rfl;simp only [Array.getD_eq_getD_getElem?,List.getElem?_toArray,List.getElem?_cons_zero,Option.getD_some] at e0;refine Each.Goes.same ?_;go_simp;try with_reducible rfl
     ·refine Each.fine rfl (fun ev w1 hR hb hh=>?_);have e39:(ev (.tmp 39)=.pointer (some ⟨g,0,none⟩)):=hh.at 0;clear hh;refine Each.Goes.same ?_;go_simp;try with_reducible rfl
     ·refine Each.fine rfl (fun ev w1 hR hb hh=>?_);have e40:(ev (.tmp 40)=.pointer (some ⟨g,0,none⟩)):=hh.at 0;clear hh;refine Each.Goes.same ?_;go_simp;try with_reducible rfl
     ·refine Each.fine rfl (fun ev w1 hR hb hh=>?_);have e41:(ev (.tmp 41)=.pointer (some ⟨g,1,none⟩)):=hh.at 0;clear hh;refine Each.Goes.same ?_;go_simp;try with_reducible rfl
     ·refine Each.fine rfl (fun ev w1 hR hb hh=>?_);have e42:(ev (.tmp 42)=.pointer (some ⟨g,3,none⟩)):=hh.at 0;clear hh;have q3:=(HQ.out.below hb).c 3 _ rfl;refine Each.Goes.same ?_;go_simp;try with_reducible rfl
     ·refine Each.fine rfl (fun ev w1 hR hb hh=>?_);have e38:(ev (.tmp 38)=.int .i64 (S1.head:Int)):=hh.at 0;have e43:(ev (.tmp 43)=.int .i64 b.x2):=hh.at 1;clear hh;have d1:=HT.out;refine Each.Goes.same ?_;go_simp;try with_reducible rfl
    intro g1 w2 hb hf;have z44:(g1 44=.bool true):=hf.at 9;clear hf;simp only [Each.putg,Act.put,List.setIfInBounds_toArray,List.set_cons_zero,List.set_cons_succ];rw [z44]
    have HFA:=Lib.hid (fail_at (H1.out.below hb) 431 431 rfl);have HS2:=Lib.hid (HS1.out.trans (Step.of_below hb));clear hb HQ
    go_wp2_with (go_at_call 56;with_reducible refine HFA.out.mono ?_;rintro r w3 ⟨rfl,hP,hS⟩);first | go_end0 | refine bodyPost_ret (results_none rfl _ _ _) rfl ?_
    exact ⟨rfl,_,_,_,_,_,_,hP,HS2.out.trans hS⟩
   ·have c11:w.cell? ⟨g,11,none⟩=some (.int .i64 1):=by have:=H.out.cs.c11;rw [hst] at this;exact this
    have c25:w.cell? ⟨g,25,none⟩=some (.int .i64 0):=by have:=H.out.cs.c25;rw [he] at this;exact this
    clear hst he;go_enter Tryz.func37,Tryz.ntmps37;go_upto_region 3 with fail
    generalize w.setCell ⟨g,21,none⟩ (.int .i64 ((s.head:Int)+1))=W1 at *;clear c11 c25 c21 z21 a1 a2
    have HQ:=Lib.hid ((H1.out.drew 1).bk);refine Each.region_all 10 [35,36,37,38,39,40,41,42,43,44]
     [fun v _=>v=.pointer (some ⟨g,0,none⟩),
       fun v _=>v=.pointer (some ⟨g,0,none⟩),
       fun v _=>v=.pointer (some ⟨g,21,none⟩),
       fun v _=>v=.int .i64 (S1.head:Int),
       fun v _=>v=.pointer (some ⟨g,0,none⟩),
       fun v _=>v=.pointer (some ⟨g,0,none⟩),
       fun v _=>v=.pointer (some ⟨g,1,none⟩),
       fun v _=>v=.pointer (some ⟨g,3,none⟩),
       fun v _=>v=.int .i64 b.x2,
       fun v _=>v=.bool true]
      (by kernel_rfl) (by kernel_rfl) (by kernel_rfl) (by kernel_rfl) (fun _ _ d _ _ h=>by cases d<;>exact h) (by rfl) (by rfl)
     ⟨Each.Lasts.eq _,Each.Lasts.eq _,Each.Lasts.eq _,Each.Lasts.eq _,Each.Lasts.eq _,Each.Lasts.eq _,Each.Lasts.eq _,Each.Lasts.eq _,Each.Lasts.eq _,Each.Lasts.eq _,trivial⟩ ?_ ?_
    ·refine ⟨?_,?_,?_,?_,?_,?_,?_,?_,?_,?_,trivial⟩
     ·refine Each.fine rfl (fun ev w1 hR hb hh=>?_);clear hh;have e0:=hR.old 0 rfl;simp only [Array.getD_eq_getD_getElem?,List.getElem?_toArray,List.getElem?_cons_zero,Option.getD_some] at e0;refine Each.Goes.same ?_;go_simp;try with_reducible rfl
     ·refine Each.fine rfl (fun ev w1 hR hb hh=>?_);have e35:(ev (.tmp 35)=.pointer (some ⟨g,0,none⟩)):=hh.at 0;clear hh;refine Each.Goes.same ?_;go_simp;try with_reducible rfl
     ·refine Each.fine rfl (fun ev w1 hR hb hh=>?_);have e36:(ev (.tmp 36)=.pointer (some ⟨g,0,none⟩)):=hh.at 0;clear hh;refine Each.Goes.same ?_;go_simp;try with_reducible rfl
     ·refine Each.fine rfl (fun ev w1 hR hb hh=>?_);have e37:(ev (.tmp 37)=.pointer (some ⟨g,21,none⟩)):=hh.at 0;clear hh;have q21:=(HQ.out.below hb).c 21 _ rfl;refine Each.Goes.same ?_;go_simp;try with_reducible rfl
     ·refine Each.fine rfl (fun ev w1 hR hb hh=>?_);clear hh;have e0:=hR.old 0 rfl;simp only [Array.getD_eq_getD_getElem?,List.getElem?_toArray,List.getElem?_cons_zero,Option.getD_some] at e0;refine Each.Goes.same ?_;go_simp;try with_reducible rfl
     ·refine Each.fine rfl (fun ev w1 hR hb hh=>?_);have e39:(ev (.tmp 39)=.pointer (some ⟨g,0,none⟩)):=hh.at 0;clear hh;refine Each.Goes.same ?_;go_simp;try with_reducible rfl
     ·refine Each.fine rfl (fun ev w1 hR hb hh=>?_);have e40:(ev (.tmp 40)=.pointer (some ⟨g,0,none⟩)):=hh.at 0;clear hh;refine Each.Goes.same ?_;go_simp;try with_reducible rfl
     ·refine Each.fine rfl (fun ev w1 hR hb hh=>?_);have e41:(ev (.tmp 41)=.pointer (some ⟨g,1,none⟩)):=hh.at 0;clear hh;refine Each.Goes.same ?_;go_simp;try with_reducible rfl
     ·refine Each.fine rfl (fun ev w1 hR hb hh=>?_);have e42:(ev (.tmp 42)=.pointer (some ⟨g,3,none⟩)):=hh.at 0;clear hh;have q3:=(HQ.out.below hb).c 3 _ rfl;refine Each.Goes.same ?_;go_simp;try with_reducible rfl
     ·refine Each.fine rfl (fun ev w1 hR hb hh=>?_);have e38:(ev (.tmp 38)=.int .i64 (S1.head:Int)):=hh.at 0;have e43:(ev (.tmp 43)=.int .i64 b.x2):=hh.at 1;clear hh;have d1:=HT.out;refine Each.Goes.same ?_;go_simp;try with_reducible rfl
    intro g1 w2 hb hf;have z44:(g1 44=.bool true):=hf.at 9;clear hf;simp only [Each.putg,Act.put,List.setIfInBounds_toArray,List.set_cons_zero,List.set_cons_succ];rw [z44]
    have HFA:=Lib.hid (fail_at (H1.out.below hb) 431 431 rfl);have HS2:=Lib.hid (HS1.out.trans (Step.of_below hb));clear hb HQ
    go_wp2_with (go_at_call 56;with_reducible refine HFA.out.mono ?_;rintro r w3 ⟨rfl,hP,hS⟩);first | go_end0 | refine bodyPost_ret (results_none rfl _ _ _) rfl ?_
    exact ⟨rfl,_,_,_,_,_,_,hP,HS2.out.trans hS⟩
   ·have c11:w.cell? ⟨g,11,none⟩=some (.int .i64 6):=by have:=H.out.cs.c11;rw [hst] at this;exact this
    have c25:w.cell? ⟨g,25,none⟩=some (.int .i64 0):=by have:=H.out.cs.c25;rw [he] at this;exact this
    clear hst he;go_enter Tryz.func37,Tryz.ntmps37;go_upto_region 3 with fail
    generalize w.setCell ⟨g,21,none⟩ (.int .i64 ((s.head:Int)+1))=W1 at *;clear c11 c25 c21 z21 a1 a2
    have HQ:=Lib.hid ((H1.out.drew 1).bk);refine Each.region_all 10 [35,36,37,38,39,40,41,42,43,44]
     [fun v _=>v=.pointer (some ⟨g,0,none⟩),
       fun v _=>v=.pointer (some ⟨g,0,none⟩),
       fun v _=>v=.pointer (some ⟨g,21,none⟩),
       fun v _=>v=.int .i64 (S1.head:Int),
       fun v _=>v=.pointer (some ⟨g,0,none⟩),
       fun v _=>v=.pointer (some ⟨g,0,none⟩),
       fun v _=>v=.pointer (some ⟨g,1,none⟩),
       fun v _=>v=.pointer (some ⟨g,3,none⟩),
       fun v _=>v=.int .i64 b.x2,
       fun v _=>v=.bool true]
      (by kernel_rfl) (by kernel_rfl) (by kernel_rfl) (by kernel_rfl) (fun _ _ d _ _ h=>by cases d<;>exact h) (by rfl) (by rfl)
     ⟨Each.Lasts.eq _,Each.Lasts.eq _,Each.Lasts.eq _,Each.Lasts.eq _,Each.Lasts.eq _,Each.Lasts.eq _,Each.Lasts.eq _,Each.Lasts.eq _,Each.Lasts.eq _,Each.Lasts.eq _,trivial⟩ ?_ ?_
    ·refine ⟨?_,?_,?_,?_,?_,?_,?_,?_,?_,?_,trivial⟩
     ·refine Each.fine rfl (fun ev w1 hR hb hh=>?_);clear hh;have e0:=hR.old 0 rfl;simp only [Array.getD_eq_getD_getElem?,List.getElem?_toArray,List.getElem?_cons_zero,Option.getD_some] at e0;refine Each.Goes.same ?_;go_simp;try with_reducible rfl
     ·refine Each.fine rfl (fun ev w1 hR hb hh=>?_);have e35:(ev (.tmp 35)=.pointer (some ⟨g,0,none⟩)):=hh.at 0;clear hh;refine Each.Goes.same ?_;go_simp;try with_reducible rfl
     ·refine Each.fine rfl (fun ev w1 hR hb hh=>?_);have e36:(ev (.tmp 36)=.pointer (some ⟨g,0,none⟩)):=hh.at 0;clear hh;refine Each.Goes.same ?_;go_simp;try with_reducible rfl
     ·refine Each.fine rfl (fun ev w1 hR hb hh=>?_);have e37:(ev (.tmp 37)=.pointer (some ⟨g,21,none⟩)):=hh.at 0;clear hh;have q21:=(HQ.out.below hb).c 21 _ rfl;refine Each.Goes.same ?_;go_simp;try with_reducible rfl
     ·refine Each.fine rfl (fun ev w1 hR hb hh=>?_);clear hh;have e0:=hR.old 0 rfl;simp only [Array.getD_eq_getD_getElem?,List.getElem?_toArray,List.getElem?_cons_zero,Option.getD_some] at e0;refine Each.Goes.same ?_;go_simp;try with_reducible rfl
     ·refine Each.fine rfl (fun ev w1 hR hb hh=>?_);have e39:(ev (.tmp 39)=.pointer (some ⟨g,0,none⟩)):=hh.at 0;clear hh;refine Each.Goes.same ?_;go_simp;try with_reducible rfl
     ·refine Each.fine rfl (fun ev w1 hR hb hh=>?_);have e40:(ev (.tmp 40)=.pointer (some ⟨g,0,none⟩)):=hh.at 0;clear hh;refine Each.Goes.same ?_;go_simp;try with_reducible rfl
     ·refine Each.fine rfl (fun ev w1 hR hb hh=>?_);have e41:(ev (.tmp 41)=.pointer (some ⟨g,1,none⟩)):=hh.at 0;clear hh;refine Each.Goes.same ?_;go_simp;try with_reducible rfl
     ·refine Each.fine rfl (fun ev w1 hR hb hh=>?_);have e42:(ev (.tmp 42)=.pointer (some ⟨g,3,none⟩)):=hh.at 0;clear hh;have q3:=(HQ.out.below hb).c 3 _ rfl;refine Each.Goes.same ?_;go_simp;try with_reducible rfl
     ·refine Each.fine rfl (fun ev w1 hR hb hh=>?_);have e38:(ev (.tmp 38)=.int .i64 (S1.head:Int)):=hh.at 0;have e43:(ev (.tmp 43)=.int .i64 b.x2):=hh.at 1;clear hh;have d1:=HT.out;refine Each.Goes.same ?_;go_simp;try with_reducible rfl
    intro g1 w2 hb hf;have z44:(g1 44=.bool true):=hf.at 9;clear hf;simp only [Each.putg,Act.put,List.setIfInBounds_toArray,List.set_cons_zero,List.set_cons_succ];rw [z44]
    have HFA:=Lib.hid (fail_at (H1.out.below hb) 431 431 rfl);have HS2:=Lib.hid (HS1.out.trans (Step.of_below hb));clear hb HQ
    go_wp2_with (go_at_call 56;with_reducible refine HFA.out.mono ?_;rintro r w3 ⟨rfl,hP,hS⟩);first | go_end0 | refine bodyPost_ret (results_none rfl _ _ _) rfl ?_
    exact ⟨rfl,_,_,_,_,_,_,hP,HS2.out.trans hS⟩
  ·rw [if_neg hov];have HT:=Lib.hid hov;clear hov;rcases hst0 with hst | hst | hst
   ·have c11:w.cell? ⟨g,11,none⟩=some (.int .i64 0):=by have:=H.out.cs.c11;rw [hst] at this;exact this
    have c25:w.cell? ⟨g,25,none⟩=some (.int .i64 0):=by have:=H.out.cs.c25;rw [he] at this;exact this
    clear hst he;go_enter Tryz.func37,Tryz.ntmps37;go_upto_region 3 with fail
    generalize w.setCell ⟨g,21,none⟩ (.int .i64 ((s.head:Int)+1))=W1 at *;clear c11 c25 c21 z21 a1 a2
    have HQ:=Lib.hid ((H1.out.drew 1).bk);refine Each.region_all 10 [35,36,37,38,39,40,41,42,43,44]
     [fun v _=>v=.pointer (some ⟨g,0,none⟩),
       fun v _=>v=.pointer (some ⟨g,0,none⟩),
       fun v _=>v=.pointer (some ⟨g,21,none⟩),
       fun v _=>v=.int .i64 (S1.head:Int),
       fun v _=>v=.pointer (some ⟨g,0,none⟩),
       fun v _=>v=.pointer (some ⟨g,0,none⟩),
       fun v _=>v=.pointer (some ⟨g,1,none⟩),
       fun v _=>v=.pointer (some ⟨g,3,none⟩),
       fun v _=>v=.int .i64 b.x2,
       fun v _=>v=.bool false]
      (by kernel_rfl) (by kernel_rfl) (by kernel_rfl) (by kernel_rfl) (fun _ _ d _ _ h=>by cases d<;>exact h) (by rfl) (by rfl)
     ⟨Each.Lasts.eq _,Each.Lasts.eq _,Each.Lasts.eq _,Each.Lasts.eq _,Each.Lasts.eq _,Each.Lasts.eq _,Each.Lasts.eq _,Each.Lasts.eq _,Each.Lasts.eq _,Each.Lasts.eq _,trivial⟩ ?_ ?_
    ·refine ⟨?_,?_,?_,?_,?_,?_,?_,?_,?_,?_,trivial⟩
     ·refine Each.fine rfl (fun ev w1 hR hb hh=>?_);clear hh;have e0:=hR.old 0 rfl;simp only [Array.getD_eq_getD_getElem?,List.getElem?_toArray,List.getElem?_cons_zero,Option.getD_some] at e0;refine Each.Goes.same ?_;go_simp;try with_reducible rfl
     ·refine Each.fine rfl (fun ev w1 hR hb hh=>?_);have e35:(ev (.tmp 35)=.pointer (some ⟨g,0,none⟩)):=hh.at 0;clear hh;refine Each.Goes.same ?_;go_simp;try with_reducible rfl
     ·refine Each.fine rfl (fun ev w1 hR hb hh=>?_);have e36:(ev (.tmp 36)=.pointer (some ⟨g,0,none⟩)):=hh.at 0;clear hh;refine Each.Goes.same ?_;go_simp;try with_reducible rfl
     ·refine Each.fine rfl (fun ev w1 hR hb hh=>?_);have e37:(ev (.tmp 37)=.pointer (some ⟨g,21,none⟩)):=hh.at 0;clear hh;have q21:=(HQ.out.below hb).c 21 _ rfl;refine Each.Goes.same ?_;go_simp;try with_reducible rfl
     ·refine Each.fine rfl (fun ev w1 hR hb hh=>?_);clear hh;have e0:=hR.old 0 rfl;simp only [Array.getD_eq_getD_getElem?,List.getElem?_toArray,List.getElem?_cons_zero,Option.getD_some] at e0;refine Each.Goes.same ?_;go_simp;try with_reducible rfl
     ·refine Each.fine rfl (fun ev w1 hR hb hh=>?_);have e39:(ev (.tmp 39)=.pointer (some ⟨g,0,none⟩)):=hh.at 0;clear hh;refine Each.Goes.same ?_;go_simp;try with_reducible rfl
     ·refine Each.fine rfl (fun ev w1 hR hb hh=>?_);have e40:(ev (.tmp 40)=.pointer (some ⟨g,0,none⟩)):=hh.at 0;clear hh;refine Each.Goes.same ?_;go_simp;try with_reducible rfl
     ·refine Each.fine rfl (fun ev w1 hR hb hh=>?_);have e41:(ev (.tmp 41)=.pointer (some ⟨g,1,none⟩)):=hh.at 0;clear hh;refine Each.Goes.same ?_;go_simp;try with_reducible rfl
     ·refine Each.fine rfl (fun ev w1 hR hb hh=>?_);have e42:(ev (.tmp 42)=.pointer (some ⟨g,3,none⟩)):=hh.at 0;clear hh;have q3:=(HQ.out.below hb).c 3 _ rfl;refine Each.Goes.same ?_;go_simp;try with_reducible rfl
     ·refine Each.fine rfl (fun ev w1 hR hb hh=>?_);have e38:(ev (.tmp 38)=.int .i64 (S1.head:Int)):=hh.at 0;have e43:(ev (.tmp 43)=.int .i64 b.x2):=hh.at 1;clear hh;have d1:=HT.out;refine Each.Goes.same ?_;go_simp;try with_reducible rfl
    intro g1 w2 hb hf;have z44:(g1 44=.bool false):=hf.at 9;clear hf;simp only [Each.putg,Act.put,List.setIfInBounds_toArray,List.set_cons_zero,List.set_cons_succ];rw [z44]
    have H2:=Lib.hid (H1.out.below hb);have HS2:=Lib.hid (HS1.out.trans (Step.of_below hb));clear hb HQ;have c24:=H2.out.cs.c24;have z24:=H2.out.marks 24
    have H3:=Lib.hid (H2.out.put 24 (.bool false) {S1 with clean:=false} rfl rfl rfl rfl rfl rfl)
    have HS3:=Lib.hid (HS2.out.trans (Step.set g 24 (.bool false) (by simp)))
    have HB3:=Lib.hid (HB.out _ {S1 with clean:=false} (.inl ⟨HD.out,by rw [←HSS.out],HT.out⟩) H3.out)
    go_wp2_with (go_at_call 57;with_reducible refine HB3.out.mono ?_;rintro r w3 ⟨rfl,q1,v1,f1,bd1,t1,o1,hP,hS⟩);first | go_end0 | refine bodyPost_ret (results_none rfl _ _ _) rfl ?_
    exact ⟨rfl,_,_,_,_,_,_,hP,HS3.out.trans hS⟩
   ·have c11:w.cell? ⟨g,11,none⟩=some (.int .i64 1):=by have:=H.out.cs.c11;rw [hst] at this;exact this
    have c25:w.cell? ⟨g,25,none⟩=some (.int .i64 0):=by have:=H.out.cs.c25;rw [he] at this;exact this
    clear hst he;go_enter Tryz.func37,Tryz.ntmps37;go_upto_region 3 with fail
    generalize w.setCell ⟨g,21,none⟩ (.int .i64 ((s.head:Int)+1))=W1 at *;clear c11 c25 c21 z21 a1 a2
    have HQ:=Lib.hid ((H1.out.drew 1).bk);refine Each.region_all 10 [35,36,37,38,39,40,41,42,43,44]
     [fun v _=>v=.pointer (some ⟨g,0,none⟩),
       fun v _=>v=.pointer (some ⟨g,0,none⟩),
       fun v _=>v=.pointer (some ⟨g,21,none⟩),
       fun v _=>v=.int .i64 (S1.head:Int),
       fun v _=>v=.pointer (some ⟨g,0,none⟩),
       fun v _=>v=.pointer (some ⟨g,0,none⟩),
       fun v _=>v=.pointer (some ⟨g,1,none⟩),
       fun v _=>v=.pointer (some ⟨g,3,none⟩),
       fun v _=>v=.int .i64 b.x2,
       fun v _=>v=.bool false]
      (by kernel_rfl) (by kernel_rfl) (by kernel_rfl) (by kernel_rfl) (fun _ _ d _ _ h=>by cases d<;>exact h) (by rfl) (by rfl)
     ⟨Each.Lasts.eq _,Each.Lasts.eq _,Each.Lasts.eq _,Each.Lasts.eq _,Each.Lasts.eq _,Each.Lasts.eq _,Each.Lasts.eq _,Each.Lasts.eq _,Each.Lasts.eq _,Each.Lasts.eq _,trivial⟩ ?_ ?_
    ·refine ⟨?_,?_,?_,?_,?_,?_,?_,?_,?_,?_,trivial⟩
     ·refine Each.fine rfl (fun ev w1 hR hb hh=>?_);clear hh;have e0:=hR.old 0 rfl;simp only [Array.getD_eq_getD_getElem?,List.getElem?_toArray,List.getElem?_cons_zero,Option.getD_some] at e0;refine Each.Goes.same ?_;go_simp;try with_reducible rfl
     ·refine Each.fine rfl (fun ev w1 hR hb hh=>?_);have e35:(ev (.tmp 35)=.pointer (some ⟨g,0,none⟩)):=hh.at 0;clear hh;refine Each.Goes.same ?_;go_simp;try with_reducible rfl
     ·refine Each.fine rfl (fun ev w1 hR hb hh=>?_);have e36:(ev (.tmp 36)=.pointer (some ⟨g,0,none⟩)):=hh.at 0;clear hh;refine Each.Goes.same ?_;go_simp;try with_reducible rfl
     ·refine Each.fine rfl (fun ev w1 hR hb hh=>?_);have e37:(ev (.tmp 37)=.pointer (some ⟨g,21,none⟩)):=hh.at 0;clear hh;have q21:=(HQ.out.below hb).c 21 _ rfl;refine Each.Goes.same ?_;go_simp;try with_reducible rfl
     ·refine Each.fine rfl (fun ev w1 hR hb hh=>?_);clear hh;have e0:=hR.old 0 rfl;simp only [Array.getD_eq_getD_getElem?,List.getElem?_toArray,List.getElem?_cons_zero,Option.getD_some] at e0;refine Each.Goes.same ?_;go_simp;try with_reducible rfl
     ·refine Each.fine rfl (fun ev w1 hR hb hh=>?_);have e39:(ev (.tmp 39)=.pointer (some ⟨g,0,none⟩)):=hh.at 0;clear hh;refine Each.Goes.same ?_;go_simp;try with_reducible rfl
     ·refine Each.fine rfl (fun ev w1 hR hb hh=>?_);have e40:(ev (.tmp 40)=.pointer (some ⟨g,0,none⟩)):=hh.at 0;clear hh;refine Each.Goes.same ?_;go_simp;try with_reducible rfl
     ·refine Each.fine rfl (fun ev w1 hR hb hh=>?_);have e41:(ev (.tmp 41)=.pointer (some ⟨g,1,none⟩)):=hh.at 0;clear hh;refine Each.Goes.same ?_;go_simp;try with_reducible rfl
     ·refine Each.fine rfl (fun ev w1 hR hb hh=>?_);have e42:(ev (.tmp 42)=.pointer (some ⟨g,3,none⟩)):=hh.at 0;clear hh;have q3:=(HQ.out.below hb).c 3 _ rfl;refine Each.Goes.same ?_;go_simp;try with_reducible rfl
     ·refine Each.fine rfl (fun ev w1 hR hb hh=>?_);have e38:(ev (.tmp 38)=.int .i64 (S1.head:Int)):=hh.at 0;have e43:(ev (.tmp 43)=.int .i64 b.x2):=hh.at 1;clear hh;have d1:=HT.out;refine Each.Goes.same ?_;go_simp;try with_reducible rfl
    intro g1 w2 hb hf;have z44:(g1 44=.bool false):=hf.at 9;clear hf;simp only [Each.putg,Act.put,List.setIfInBounds_toArray,List.set_cons_zero,List.set_cons_succ];rw [z44]
    have H2:=Lib.hid (H1.out.below hb);have HS2:=Lib.hid (HS1.out.trans (Step.of_below hb));clear hb HQ;have c24:=H2.out.cs.c24;have z24:=H2.out.marks 24
    have H3:=Lib.hid (H2.out.put 24 (.bool false) {S1 with clean:=false} rfl rfl rfl rfl rfl rfl)
    have HS3:=Lib.hid (HS2.out.trans (Step.set g 24 (.bool false) (by simp)))
    have HB3:=Lib.hid (HB.out _ {S1 with clean:=false} (.inl ⟨HD.out,by rw [←HSS.out],HT.out⟩) H3.out)
    go_wp2_with (go_at_call 57;with_reducible refine HB3.out.mono ?_;rintro r w3 ⟨rfl,q1,v1,f1,bd1,t1,o1,hP,hS⟩);first | go_end0 | refine bodyPost_ret (results_none rfl _ _ _) rfl ?_
    exact ⟨rfl,_,_,_,_,_,_,hP,HS3.out.trans hS⟩
   ·have c11:w.cell? ⟨g,11,none⟩=some (.int .i64 6):=by have:=H.out.cs.c11;rw [hst] at this;exact this
    have c25:w.cell? ⟨g,25,none⟩=some (.int .i64 0):=by have:=H.out.cs.c25;rw [he] at this;exact this
    clear hst he;go_enter Tryz.func37,Tryz.ntmps37;go_upto_region 3 with fail
    generalize w.setCell ⟨g,21,none⟩ (.int .i64 ((s.head:Int)+1))=W1 at *;clear c11 c25 c21 z21 a1 a2
    have HQ:=Lib.hid ((H1.out.drew 1).bk);refine Each.region_all 10 [35,36,37,38,39,40,41,42,43,44]
     [fun v _=>v=.pointer (some ⟨g,0,none⟩),
       fun v _=>v=.pointer (some ⟨g,0,none⟩),
       fun v _=>v=.pointer (some ⟨g,21,none⟩),
       fun v _=>v=.int .i64 (S1.head:Int),
       fun v _=>v=.pointer (some ⟨g,0,none⟩),
       fun v _=>v=.pointer (some ⟨g,0,none⟩),
       fun v _=>v=.pointer (some ⟨g,1,none⟩),
       fun v _=>v=.pointer (some ⟨g,3,none⟩),
       fun v _=>v=.int .i64 b.x2,
       fun v _=>v=.bool false]
      (by kernel_rfl) (by kernel_rfl) (by kernel_rfl) (by kernel_rfl) (fun _ _ d _ _ h=>by cases d<;>exact h) (by rfl) (by rfl)
     ⟨Each.Lasts.eq _,Each.Lasts.eq _,Each.Lasts.eq _,Each.Lasts.eq _,Each.Lasts.eq _,Each.Lasts.eq _,Each.Lasts.eq _,Each.Lasts.eq _,Each.Lasts.eq _,Each.Lasts.eq _,trivial⟩ ?_ ?_
    ·refine ⟨?_,?_,?_,?_,?_,?_,?_,?_,?_,?_,trivial⟩
     ·refine Each.fine rfl (fun ev w1 hR hb hh=>?_);clear hh;have e0:=hR.old 0 rfl;simp only [Array.getD_eq_getD_getElem?,List.getElem?_toArray,List.getElem?_cons_zero,Option.getD_some] at e0;refine Each.Goes.same ?_;go_simp;try with_reducible rfl
     ·refine Each.fine rfl (fun ev w1 hR hb hh=>?_);have e35:(ev (.tmp 35)=.pointer (some ⟨g,0,none⟩)):=hh.at 0;clear hh;refine Each.Goes.same ?_;go_simp;try with_reducible rfl
     ·refine Each.fine rfl (fun ev w1 hR hb hh=>?_);have e36:(ev (.tmp 36)=.pointer (some ⟨g,0,none⟩)):=hh.at 0;clear hh;refine Each.Goes.same ?_;go_simp;try with_reducible rfl
     ·refine Each.fine rfl (fun ev w1 hR hb hh=>?_);have e37:(ev (.tmp 37)=.pointer (some ⟨g,21,none⟩)):=hh.at 0;clear hh;have q21:=(HQ.out.below hb).c 21 _ rfl;refine Each.Goes.same ?_;go_simp;try with_reducible rfl
     ·refine Each.fine rfl (fun ev w1 hR hb hh=>?_);clear hh;have e0:=hR.old 0 rfl;simp only [Array.getD_eq_getD_getElem?,List.getElem?_toArray,List.getElem?_cons_zero,Option.getD_some] at e0;refine Each.Goes.same ?_;go_simp;try with_reducible rfl
     ·refine Each.fine rfl (fun ev w1 hR hb hh=>?_);have e39:(ev (.tmp 39)=.pointer (some ⟨g,0,none⟩)):=hh.at 0;clear hh;refine Each.Goes.same ?_;go_simp;try with_reducible rfl
     ·refine Each.fine rfl (fun ev w1 hR hb hh=>?_);have e40:(ev (.tmp 40)=.pointer (some ⟨g,0,none⟩)):=hh.at 0;clear hh;refine Each.Goes.same ?_;go_simp;try with_reducible rfl
     ·refine Each.fine rfl (fun ev w1 hR hb hh=>?_);have e41:(ev (.tmp 41)=.pointer (some ⟨g,1,none⟩)):=hh.at 0;clear hh;refine Each.Goes.same ?_;go_simp;try with_reducible rfl
     ·refine Each.fine rfl (fun ev w1 hR hb hh=>?_);have e42:(ev (.tmp 42)=.pointer (some ⟨g,3,none⟩)):=hh.at 0;clear hh;have q3:=(HQ.out.below hb).c 3 _ rfl;refine Each.Goes.same ?_;go_simp;try with_reducible rfl
     ·refine Each.fine rfl (fun ev w1 hR hb hh=>?_);have e38:(ev (.tmp 38)=.int .i64 (S1.head:Int)):=hh.at 0;have e43:(ev (.tmp 43)=.int .i64 b.x2):=hh.at 1;clear hh;have d1:=HT.out;refine Each.Goes.same ?_;go_simp;try with_reducible rfl
    intro g1 w2 hb hf;have z44:(g1 44=.bool false):=hf.at 9;clear hf;simp only [Each.putg,Act.put,List.setIfInBounds_toArray,List.set_cons_zero,List.set_cons_succ];rw [z44]
    have H2:=Lib.hid (H1.out.below hb);have HS2:=Lib.hid (HS1.out.trans (Step.of_below hb));clear hb HQ;have c24:=H2.out.cs.c24;have z24:=H2.out.marks 24
    have H3:=Lib.hid (H2.out.put 24 (.bool false) {S1 with clean:=false} rfl rfl rfl rfl rfl rfl)
    have HS3:=Lib.hid (HS2.out.trans (Step.set g 24 (.bool false) (by simp)))
    have HB3:=Lib.hid (HB.out _ {S1 with clean:=false} (.inl ⟨HD.out,by rw [←HSS.out],HT.out⟩) H3.out)
    go_wp2_with (go_at_call 57;with_reducible refine HB3.out.mono ?_;rintro r w3 ⟨rfl,q1,v1,f1,bd1,t1,o1,hP,hS⟩);first | go_end0 | refine bodyPost_ret (results_none rfl _ _ _) rfl ?_
    exact ⟨rfl,_,_,_,_,_,_,hP,HS3.out.trans hS⟩
 ·rw [if_neg hd];have hn:¬s.st=0∧¬s.st=1∧¬s.st=6:=by
   unfold headed at hd;simp only [Bool.or_eq_true,beq_iff_eq,not_or] at hd;exact ⟨hd.1.1,hd.1.2,hd.2⟩
  obtain ⟨n0,n1,n6⟩:=hn
  have t0:((s.st:Int)==0)=false:=beq_eq_false_iff_ne.2 (by omega)
  have t1:((s.st:Int)==1)=false:=beq_eq_false_iff_ne.2 (by omega)
  have t6:((s.st:Int)==6)=false:=beq_eq_false_iff_ne.2 (by omega);have m0:¬(s.st:Int)=0:=by omega
  have m1:¬(s.st:Int)=1:=by omega
  have m6:¬(s.st:Int)=6:=by omega
  have c11:=h.cs.c11;have c25:w.cell? ⟨g,25,none⟩=some (.int .i64 0):=by have:=h.cs.c25;rw [he] at this;exact this
  have c24:=h.cs.c24;have z24:=h.marks 24
  have H3:=Lib.hid (h.put 24 (.bool false) {s with clean:=false} rfl rfl rfl rfl rfl rfl)
  have HS3:=Lib.hid (Step.set (w:=w) (L:=blks g q v f bd t o) g 24 (.bool false) (by simp))
  have HB3:=Lib.hid (HB.out _ _ (.inr ⟨by simpa using hd,rfl⟩) H3.out);clear h HB0 hd hh he;go_enter Tryz.func37,Tryz.ntmps37
  go_wp2_with (go_at_call 57;with_reducible refine HB3.out.mono ?_;rintro r w3 ⟨rfl,q1,v1,f1,bd1,t1,o1,hP,hS⟩);first | go_end0 | refine bodyPost_ret (results_none rfl _ _ _) rfl ?_
  exact ⟨rfl,_,_,_,_,_,_,hP,HS3.out.trans hS⟩
end code
end Go.Proofs.YtimoakmcelocfaaGreat.Par
namespace Go.Proofs.YtimoakmcelocfaaGreat.Par
open Go.RowKit Base Txt Mem
structure PlainOk (p:Nat) (s:S) (c:UInt8):Prop where
 e:s.e=0
 fit:Fits s
 st:lined s.st∨s.st=2∨s.st=4
 left:bodied s.st=true→1≤s.left∧s.left≤2000000
 line:lined s.st→LineOk p s.rd∧s.rd.CR=false∧(s.st=5→s.rd.how c=4→Qk.has p 29=false)
theorem PlainOk.of {p:Nat} {s s2:S} {c:UInt8} (h:PlainOk p s c) {k:Nat} {cl:Bool} (h2:s2={s with head:=k,clean:=cl}):PlainOk p s2 c:=by subst h2;exact ⟨h.e,⟨h.fit.lines,h.fit.fss,h.fit.fsl,h.fit.tss,h.fit.tsl,h.fit.body,h.fit.out⟩,h.st,h.left,h.line⟩
section code
set_option maxHeartbeats 4000000
set_option maxRecDepth 20000
attribute [local go_sem] Base.some_undef
variable {w:World} {B:Zone} {g q:Nat} {v f bd t o:Value} {p:Nat} {b:Bd} {s:S}
theorem once_any (hp:p<4294967296) (h3:16≤b.x3∧b.x3≤1048576) (h4:0≤b.x4) (c:UInt8) (h:PR w B g q v f bd t o p b s) (ok:PlainOk p s c) :
 Calls Tryz.prog 57 #[ptr g,.int .u8 (c.toNat:Int)] w fun r w'=>r=.returned (.tuple #[])∧∃q1 v1 f1 bd1 t1 o1,PR w' B g q1 v1 f1 bd1 t1 o1 p b (s.plain p b c)∧Step (blks g q v f bd t o) (blks g q1 v1 f1 bd1 t1 o1) w w':=by
 have key:∀hst:s.st=2∨s.st=4,Calls Tryz.prog 57 #[ptr g,.int .u8 (c.toNat:Int)] w fun r w'=>
  r=.returned (.tuple #[])∧∃q1 v1 f1 bd1 t1 o1,PR w' B g q1 v1 f1 bd1 t1 o1 p b (s.plain p b c)∧Step (blks g q v f bd t o) (blks g q1 v1 f1 bd1 t1 o1) w w':=by
  intro hst;have hb:bodied s.st=true:=by rcases hst with e | e<;>rw [e]<;>rfl
  have e:s.plain p b c=S.bodyB p b {s with fresh:=false} c:=by unfold S.plain;simp [hb]
  rw [e];exact body_any c h hst (ok.left hb) ok.fit.body ok.fit.out
 rcases ok.st with hs | hs | hs
 ·obtain ⟨h5,h6,h7⟩:=ok.line hs;exact plain_any hp h3 h4 c h hs ok.e ok.fit h5 h6 h7
 ·exact key (.inl hs)
 ·exact key (.inr hs)
theorem countOnce_any (hp:p<4294967296) (h3:16≤b.x3∧b.x3≤1048576) (h4:0≤b.x4) (c:UInt8) (h:PR w B g q v f bd t o p b s) (ok:PlainOk p s c) (hh:s.head≤1000000) :
 Calls Tryz.prog 37 #[ptr g,.int .u8 (c.toNat:Int)] w fun r w'=>r=.returned (.tuple #[])∧∃q1 v1 f1 bd1 t1 o1,PR w' B g q1 v1 f1 bd1 t1 o1 p b (s.count b fun s=>s.plain p b c)∧Step (blks g q v f bd t o) (blks g q1 v1 f1 bd1 t1 o1) w w':=
 count_any c (fun s=>s.plain p b c) h ok.e hh fun w2 s2 hs h2=>once_any hp h3 h4 c h2 (by
  rcases hs with ⟨-,e, -⟩ | ⟨-,e⟩
  ·exact ok.of e
  ·exact ok.of (k:=s.head) (by rw [e]))
theorem again_any (hp:p<4294967296) (h3:16≤b.x3∧b.x3≤1048576) (h4:0≤b.x4) (c:UInt8) (was:Nat) (h:PR w B g q v f bd t o p b s) (ok:PlainOk p s c) (hh:s.head≤1000000) (hw:lined was) :
 Calls Tryz.prog 73 #[ptr g,.int .u8 (c.toNat:Int),.int .i64 (was:Int)] w fun r w'=>r=.returned (.tuple #[])∧∃q1 v1 f1 bd1 t1 o1,PR w' B g q1 v1 f1 bd1 t1 o1 p b (S.again p b s c was)∧Step (blks g q v f bd t o) (blks g q1 v1 f1 bd1 t1 o1) w w':=by
 have c11:=h.cs.c11;have c24:=h.cs.c24;have z24:=h.marks 24
 have H2:=Lib.hid (h.put 24 (.bool false) {s with clean:=false} rfl rfl rfl rfl rfl rfl)
 have HS2:=Lib.hid (Step.set (w:=w) (L:=blks g q v f bd t o) g 24 (.bool false) (by simp));have ok2:PlainOk p {s with clean:=false} c:=ok.of (k:=s.head) rfl
 have HBy:=Lib.hid (countOnce_any hp h3 h4 c h ok hh)
 have HC:=Lib.hid (countOnce_any hp h3 h4 c H2.out ok2 hh)
 have HP:=Lib.hid (once_any hp h3 h4 c H2.out ok2);clear ok ok2 hh;rcases hw with rfl | rfl | rfl | rfl | rfl
 ·rcases (by omega:s.st=0∨s.st=6∨(¬s.st=0∧¬s.st=6)) with hst | hst | ⟨n0,n6⟩
  ·have e:S.again p b s c 0=S.plain p b {s with clean:=false} c:=by simp [S.again,headed,hst]
   rw [e]
   replace c11:w.cell? ⟨g,11,none⟩=some (.int .i64 0):=by rw [hst] at c11;exact c11
   clear e h hst;go_enter Tryz.func73,Tryz.ntmps73
   go_wp2_with (go_at_call 57;with_reducible refine HP.out.mono ?_;rintro r w3 ⟨rfl,q1,v1,f1,bd1,t1,o1,hP,hS⟩);first | go_end0 | refine bodyPost_ret (results_none rfl _ _ _) rfl ?_
   exact ⟨rfl,_,_,_,_,_,_,hP,HS2.out.trans hS⟩
  ·have e:S.again p b s c 0=S.plain p b {s with clean:=false} c:=by simp [S.again,headed,hst]
   rw [e]
   replace c11:w.cell? ⟨g,11,none⟩=some (.int .i64 6):=by rw [hst] at c11;exact c11
   clear e h hst;go_enter Tryz.func73,Tryz.ntmps73
   go_wp2_with (go_at_call 57;with_reducible refine HP.out.mono ?_;rintro r w3 ⟨rfl,q1,v1,f1,bd1,t1,o1,hP,hS⟩);first | go_end0 | refine bodyPost_ret (results_none rfl _ _ _) rfl ?_
   exact ⟨rfl,_,_,_,_,_,_,hP,HS2.out.trans hS⟩
  ·have e:S.again p b s c 0=S.plain p b {s with clean:=false} c:=by simp [S.again,headed]
   rw [e]
   have t0:((s.st:Int)==0)=false:=beq_eq_false_iff_ne.2 (by omega)
   have t6:((s.st:Int)==6)=false:=beq_eq_false_iff_ne.2 (by omega);have m0:¬(s.st:Int)=0:=by omega
   have m6:¬(s.st:Int)=6:=by omega
   clear e h;go_enter Tryz.func73,Tryz.ntmps73
   go_wp2_with (go_at_call 57;with_reducible refine HP.out.mono ?_;rintro r w3 ⟨rfl,q1,v1,f1,bd1,t1,o1,hP,hS⟩);first | go_end0 | refine bodyPost_ret (results_none rfl _ _ _) rfl ?_
   exact ⟨rfl,_,_,_,_,_,_,hP,HS2.out.trans hS⟩
 ·rcases (by omega:s.st=0∨s.st=6∨(¬s.st=0∧¬s.st=6)) with hst | hst | ⟨n0,n6⟩
  ·have e:S.again p b s c 1=s.count b fun s=>s.plain p b c:=by simp [S.again,hst]
   rw [e]
   replace c11:w.cell? ⟨g,11,none⟩=some (.int .i64 0):=by rw [hst] at c11;exact c11
   clear e h hst;go_enter Tryz.func73,Tryz.ntmps73
   go_wp2_with (go_at_call 37;with_reducible refine HBy.out.mono ?_;rintro r w3 ⟨rfl,q1,v1,f1,bd1,t1,o1,hP,hS⟩);first | go_end0 | refine bodyPost_ret (results_none rfl _ _ _) rfl ?_
   exact ⟨rfl,_,_,_,_,_,_,hP,hS⟩
  ·have e:S.again p b s c 1=S.plain p b {s with clean:=false} c:=by simp [S.again,headed,hst]
   rw [e]
   replace c11:w.cell? ⟨g,11,none⟩=some (.int .i64 6):=by rw [hst] at c11;exact c11
   clear e h hst;go_enter Tryz.func73,Tryz.ntmps73
   go_wp2_with (go_at_call 57;with_reducible refine HP.out.mono ?_;rintro r w3 ⟨rfl,q1,v1,f1,bd1,t1,o1,hP,hS⟩);first | go_end0 | refine bodyPost_ret (results_none rfl _ _ _) rfl ?_
   exact ⟨rfl,_,_,_,_,_,_,hP,HS2.out.trans hS⟩
  ·have e:S.again p b s c 1=S.plain p b {s with clean:=false} c:=by simp [S.again,headed,n0]
   rw [e]
   have t0:((s.st:Int)==0)=false:=beq_eq_false_iff_ne.2 (by omega)
   have t6:((s.st:Int)==6)=false:=beq_eq_false_iff_ne.2 (by omega);have m0:¬(s.st:Int)=0:=by omega
   have m6:¬(s.st:Int)=6:=by omega
   clear e h;go_enter Tryz.func73,Tryz.ntmps73
   go_wp2_with (go_at_call 57;with_reducible refine HP.out.mono ?_;rintro r w3 ⟨rfl,q1,v1,f1,bd1,t1,o1,hP,hS⟩);first | go_end0 | refine bodyPost_ret (results_none rfl _ _ _) rfl ?_
   exact ⟨rfl,_,_,_,_,_,_,hP,HS2.out.trans hS⟩
 ·rcases (by omega:s.st=0∨s.st=6∨(¬s.st=0∧¬s.st=6)) with hst | hst | ⟨n0,n6⟩
  ·have e:S.again p b s c 3=s.count b fun s=>s.plain p b c:=by simp [S.again,hst]
   rw [e]
   replace c11:w.cell? ⟨g,11,none⟩=some (.int .i64 0):=by rw [hst] at c11;exact c11
   clear e h hst;go_enter Tryz.func73,Tryz.ntmps73
   go_wp2_with (go_at_call 37;with_reducible refine HBy.out.mono ?_;rintro r w3 ⟨rfl,q1,v1,f1,bd1,t1,o1,hP,hS⟩);first | go_end0 | refine bodyPost_ret (results_none rfl _ _ _) rfl ?_
   exact ⟨rfl,_,_,_,_,_,_,hP,hS⟩
  ·have e:S.again p b s c 3=S.count b (fun s=>s.plain p b c) {s with clean:=false}:=by simp [S.again,headed,hst]
   rw [e]
   replace c11:w.cell? ⟨g,11,none⟩=some (.int .i64 6):=by rw [hst] at c11;exact c11
   clear e h hst;go_enter Tryz.func73,Tryz.ntmps73
   go_wp2_with (go_at_call 37;with_reducible refine HC.out.mono ?_;rintro r w3 ⟨rfl,q1,v1,f1,bd1,t1,o1,hP,hS⟩);first | go_end0 | refine bodyPost_ret (results_none rfl _ _ _) rfl ?_
   exact ⟨rfl,_,_,_,_,_,_,hP,HS2.out.trans hS⟩
  ·have e:S.again p b s c 3=S.plain p b {s with clean:=false} c:=by simp [S.again,headed,n0,n6]
   rw [e]
   have t0:((s.st:Int)==0)=false:=beq_eq_false_iff_ne.2 (by omega)
   have t6:((s.st:Int)==6)=false:=beq_eq_false_iff_ne.2 (by omega);have m0:¬(s.st:Int)=0:=by omega
   have m6:¬(s.st:Int)=6:=by omega
   clear e h;go_enter Tryz.func73,Tryz.ntmps73
   go_wp2_with (go_at_call 57;with_reducible refine HP.out.mono ?_;rintro r w3 ⟨rfl,q1,v1,f1,bd1,t1,o1,hP,hS⟩);first | go_end0 | refine bodyPost_ret (results_none rfl _ _ _) rfl ?_
   exact ⟨rfl,_,_,_,_,_,_,hP,HS2.out.trans hS⟩
 ·rcases (by omega:s.st=0∨s.st=6∨(¬s.st=0∧¬s.st=6)) with hst | hst | ⟨n0,n6⟩
  ·have e:S.again p b s c 5=s.count b fun s=>s.plain p b c:=by simp [S.again,hst]
   rw [e]
   replace c11:w.cell? ⟨g,11,none⟩=some (.int .i64 0):=by rw [hst] at c11;exact c11
   clear e h hst;go_enter Tryz.func73,Tryz.ntmps73
   go_wp2_with (go_at_call 37;with_reducible refine HBy.out.mono ?_;rintro r w3 ⟨rfl,q1,v1,f1,bd1,t1,o1,hP,hS⟩);first | go_end0 | refine bodyPost_ret (results_none rfl _ _ _) rfl ?_
   exact ⟨rfl,_,_,_,_,_,_,hP,hS⟩
  ·have e:S.again p b s c 5=S.count b (fun s=>s.plain p b c) {s with clean:=false}:=by simp [S.again,headed,hst]
   rw [e]
   replace c11:w.cell? ⟨g,11,none⟩=some (.int .i64 6):=by rw [hst] at c11;exact c11
   clear e h hst;go_enter Tryz.func73,Tryz.ntmps73
   go_wp2_with (go_at_call 37;with_reducible refine HC.out.mono ?_;rintro r w3 ⟨rfl,q1,v1,f1,bd1,t1,o1,hP,hS⟩);first | go_end0 | refine bodyPost_ret (results_none rfl _ _ _) rfl ?_
   exact ⟨rfl,_,_,_,_,_,_,hP,HS2.out.trans hS⟩
  ·have e:S.again p b s c 5=S.plain p b {s with clean:=false} c:=by simp [S.again,headed,n0,n6]
   rw [e]
   have t0:((s.st:Int)==0)=false:=beq_eq_false_iff_ne.2 (by omega)
   have t6:((s.st:Int)==6)=false:=beq_eq_false_iff_ne.2 (by omega);have m0:¬(s.st:Int)=0:=by omega
   have m6:¬(s.st:Int)=6:=by omega
   clear e h;go_enter Tryz.func73,Tryz.ntmps73
   go_wp2_with (go_at_call 57;with_reducible refine HP.out.mono ?_;rintro r w3 ⟨rfl,q1,v1,f1,bd1,t1,o1,hP,hS⟩);first | go_end0 | refine bodyPost_ret (results_none rfl _ _ _) rfl ?_
   exact ⟨rfl,_,_,_,_,_,_,hP,HS2.out.trans hS⟩
 ·rcases (by omega:s.st=0∨s.st=6∨(¬s.st=0∧¬s.st=6)) with hst | hst | ⟨n0,n6⟩
  ·have e:S.again p b s c 6=s.count b fun s=>s.plain p b c:=by simp [S.again,hst]
   rw [e]
   replace c11:w.cell? ⟨g,11,none⟩=some (.int .i64 0):=by rw [hst] at c11;exact c11
   clear e h hst;go_enter Tryz.func73,Tryz.ntmps73
   go_wp2_with (go_at_call 37;with_reducible refine HBy.out.mono ?_;rintro r w3 ⟨rfl,q1,v1,f1,bd1,t1,o1,hP,hS⟩);first | go_end0 | refine bodyPost_ret (results_none rfl _ _ _) rfl ?_
   exact ⟨rfl,_,_,_,_,_,_,hP,hS⟩
  ·have e:S.again p b s c 6=S.plain p b {s with clean:=false} c:=by simp [S.again,headed,hst]
   rw [e]
   replace c11:w.cell? ⟨g,11,none⟩=some (.int .i64 6):=by rw [hst] at c11;exact c11
   clear e h hst;go_enter Tryz.func73,Tryz.ntmps73
   go_wp2_with (go_at_call 57;with_reducible refine HP.out.mono ?_;rintro r w3 ⟨rfl,q1,v1,f1,bd1,t1,o1,hP,hS⟩);first | go_end0 | refine bodyPost_ret (results_none rfl _ _ _) rfl ?_
   exact ⟨rfl,_,_,_,_,_,_,hP,HS2.out.trans hS⟩
  ·have e:S.again p b s c 6=S.plain p b {s with clean:=false} c:=by simp [S.again,headed,n0]
   rw [e]
   have t0:((s.st:Int)==0)=false:=beq_eq_false_iff_ne.2 (by omega)
   have t6:((s.st:Int)==6)=false:=beq_eq_false_iff_ne.2 (by omega);have m0:¬(s.st:Int)=0:=by omega
   have m6:¬(s.st:Int)=6:=by omega
   clear e h;go_enter Tryz.func73,Tryz.ntmps73
   go_wp2_with (go_at_call 57;with_reducible refine HP.out.mono ?_;rintro r w3 ⟨rfl,q1,v1,f1,bd1,t1,o1,hP,hS⟩);first | go_end0 | refine bodyPost_ret (results_none rfl _ _ _) rfl ?_
   exact ⟨rfl,_,_,_,_,_,_,hP,HS2.out.trans hS⟩
end code
end Go.Proofs.YtimoakmcelocfaaGreat.Par
namespace Go.Proofs.YtimoakmcelocfaaGreat.Par
open Go.RowKit Base Txt Mem
section code
set_option maxHeartbeats 4000000
set_option maxRecDepth 20000
attribute [local go_sem] Base.some_undef
variable {w:World} {B:Zone} {g q:Nat} {v f bd t o:Value} {p:Nat} {b:Bd} {s:S}
theorem longEnd_any (hp:p<4294967296) (h3:16≤b.x3∧b.x3≤1048576) (h4:0≤b.x4) (c:UInt8) (h:PR w B g q v f bd t o p b s) (hst:s.st=5) (hh:Qk.has p 29=true) (ok:PlainOk p {s with st:=3,rd:=nl p b.x0} c):Calls Tryz.prog 71 #[ptr g,.int .u8 (c.toNat:Int)] w fun r w'=>
 r=.returned (.tuple #[])∧∃q1 v1 f1 bd1 t1 o1,PR w' B g q1 v1 f1 bd1 t1 o1 p b (S.plain p b {s with st:=3,rd:=nl p b.x0} c)∧Step (blks g q v f bd t o) (blks g q1 v1 f1 bd1 t1 o1) w w':=by
 have HH:=Lib.hid (fun w=>Qk.rhas_any p hp 29 w);rw [hh] at HH;have c11:w.cell? ⟨g,11,none⟩=some (.int .i64 5):=by have:=h.cs.c11;rw [hst] at this;exact this
 have c0:=h.cs.c0;have H:=Lib.hid h
 have HO:=Lib.hid (fun w2 q1 (h:PR w2 B g q1 nil f bd t o p b {s with st:=3,rd:=nl p b.x0})=>once_any hp h3 h4 c h ok)
 have HQ:=Lib.hid ((h.drew 1).bk)
 have HBW:=Lib.hid (show B≤(w.drewN 1).heap.size from Nat.le_trans h.own.ge (Nat.le_of_lt (h.drew 1).own.lt));clear h hst ok hh;go_enter Tryz.func71,Tryz.ntmps71
 go_upto_region 2 with (go_at_call 39;with_reducible refine (HH.out _).mono ?_;rintro r w3 ⟨rfl,hw⟩;rw [hw];clear hw)
 clear c11 c0;refine Each.region_float 12 [19,20,21,22,23,24,25,26,27,28,29,30]
  [fun v _=>v=.pointer (some ⟨g,0,none⟩),
    fun v _=>v=.pointer (some ⟨g,0,none⟩),
    fun v _=>v=.pointer (some ⟨g,0,none⟩),
    fun v _=>v=.pointer (some ⟨g,0,none⟩),
    fun v _=>v=.pointer (some ⟨g,0,none⟩),
    fun v _=>v=.int .u32 (p:Int),
    fun v _=>v=.pointer (some ⟨g,0,none⟩),
    fun v _=>v=.pointer (some ⟨g,0,none⟩),
    fun v _=>v=.pointer (some ⟨g,1,none⟩),
    fun v _=>v=.pointer (some ⟨g,1,none⟩),
    fun v _=>v=.int .i64 b.x0,
    fun v u=>∃q1,v=ptr q1∧w.heap.size≤q1∧Ln.Rr u B q1 nil p (nl p (b.x0))]
  [] 6 (some 1) (.quiet 12 (.quiet 13 (.act 14 (.quiet 15 (.quiet 16 (.act 17 .done)))))) (.quiet 1 (.quiet 12 (.quiet 13 (.act 14 (.quiet 15 (.quiet 16 (.act 17 .done))))))) (by kernel_rfl) (by kernel_rfl) (by kernel_rfl) (by kernel_rfl) (fun k0 h=>by cases h;kernel_rfl) (fun _ _ d _ _ h=>by cases d<;>exact h) (by rfl) (by rfl)
  ⟨Each.Lasts.eq _,Each.Lasts.eq _,Each.Lasts.eq _,Each.Lasts.eq _,Each.Lasts.eq _,Each.Lasts.eq _,Each.Lasts.eq _,Each.Lasts.eq _,Each.Lasts.eq _,Each.Lasts.eq _,Each.Lasts.eq _,((fun _ _ _ hb h=>by obtain ⟨q1,e1,h1,h2⟩:=h;exact ⟨q1,e1,h1,rr_below h2 hb⟩)),trivial⟩ trivial (by rfl) ?_ ?_ ?_
 ·refine ⟨?_,?_,?_,?_,?_,?_,?_,?_,?_,?_,?_,?_,trivial⟩
  ·refine Each.fine rfl (fun ev w1 hR hb hh=>?_);clear hh;have e0:=hR.old 0 rfl;simp only [Array.getD_eq_getD_getElem?,List.getElem?_toArray,List.getElem?_cons_zero,Option.getD_some] at e0;refine Each.Goes.same ?_;go_simp;try with_reducible rfl
  ·refine Each.fine rfl (fun ev w1 hR hb hh=>?_);clear hh;have e0:=hR.old 0 rfl;simp only [Array.getD_eq_getD_getElem?,List.getElem?_toArray,List.getElem?_cons_zero,Option.getD_some] at e0;refine Each.Goes.same ?_;go_simp;try with_reducible rfl
  ·refine Each.fine rfl (fun ev w1 hR hb hh=>?_);clear hh;have e0:=hR.old 0 rfl;simp only [Array.getD_eq_getD_getElem?,List.getElem?_toArray,List.getElem?_cons_zero,Option.getD_some] at e0;refine Each.Goes.same ?_;go_simp;try with_reducible rfl
  ·refine Each.fine rfl (fun ev w1 hR hb hh=>?_);have e21:(ev (.tmp 21)=.pointer (some ⟨g,0,none⟩)):=hh.at 0;clear hh;refine Each.Goes.same ?_;go_simp;try with_reducible rfl
  ·refine Each.fine rfl (fun ev w1 hR hb hh=>?_);have e22:(ev (.tmp 22)=.pointer (some ⟨g,0,none⟩)):=hh.at 0;clear hh;refine Each.Goes.same ?_;go_simp;try with_reducible rfl
  ·refine Each.fine rfl (fun ev w1 hR hb hh=>?_);have e23:(ev (.tmp 23)=.pointer (some ⟨g,0,none⟩)):=hh.at 0;clear hh;have q0:=(HQ.out.below hb).c 0 _ rfl;refine Each.Goes.same ?_;go_simp;try with_reducible rfl
  ·refine Each.fine rfl (fun ev w1 hR hb hh=>?_);clear hh;have e0:=hR.old 0 rfl;simp only [Array.getD_eq_getD_getElem?,List.getElem?_toArray,List.getElem?_cons_zero,Option.getD_some] at e0;refine Each.Goes.same ?_;go_simp;try with_reducible rfl
  ·refine Each.fine rfl (fun ev w1 hR hb hh=>?_);have e25:(ev (.tmp 25)=.pointer (some ⟨g,0,none⟩)):=hh.at 0;clear hh;refine Each.Goes.same ?_;go_simp;try with_reducible rfl
  ·refine Each.fine rfl (fun ev w1 hR hb hh=>?_);have e26:(ev (.tmp 26)=.pointer (some ⟨g,0,none⟩)):=hh.at 0;clear hh;refine Each.Goes.same ?_;go_simp;try with_reducible rfl
  ·refine Each.fine rfl (fun ev w1 hR hb hh=>?_);have e27:(ev (.tmp 27)=.pointer (some ⟨g,1,none⟩)):=hh.at 0;clear hh;refine Each.Goes.same ?_;go_simp;try with_reducible rfl
  ·refine Each.fine rfl (fun ev w1 hR hb hh=>?_);have e28:(ev (.tmp 28)=.pointer (some ⟨g,1,none⟩)):=hh.at 0;clear hh;have q1:=(HQ.out.below hb).c 1 _ rfl;refine Each.Goes.same ?_;go_simp;try with_reducible rfl
  ·refine Each.fine rfl (fun ev w1 hR hb hh=>?_);have e24:(ev (.tmp 24)=.int .u32 (p:Int)):=hh.at 0;have e29:(ev (.tmp 29)=.int .i64 b.x0):=hh.at 1;clear hh;have ef:=hR.func
   refine Each.Goes.enter 55 #[.int .u32 (p:Int),.int .i64 (b.x0)] (by go_simp) ((rnew_line B (b.x0) w1 (Nat.le_trans HBW.out hb.size)).mono ?_);rintro r w2 ⟨q1,rfl,h1,h2,hb2⟩;exact ⟨_,rfl,hb2,q1,rfl,Nat.le_trans hb.size h1,h2⟩
 ·intro g1 w2 hb hf;have z19:(g1 19=.pointer (some ⟨g,0,none⟩)):=hf.at 0;have z20:(g1 20=.pointer (some ⟨g,0,none⟩)):=hf.at 1;have z30:((fun v u=>∃q1,v=ptr q1∧w.heap.size≤q1∧Ln.Rr u B q1 nil p (nl p (b.x0))) (g1 30) w2):=hf.at 11;clear hf;obtain ⟨q1,e1,hq1,hr1⟩:=z30;simp only [Each.putg,Act.put,List.setIfInBounds_toArray,List.set_cons_zero,List.set_cons_succ];rw [e1,z19,z20];simp only [Tree.grow,Tree.put1,List.getElem?_cons_zero,List.getElem?_cons_succ];refine Tree.quiet (by rfl) (ptr g) (fun _ _=>by go_simp) ?_;simp only [Act.put,List.setIfInBounds_toArray,List.set_cons_zero,List.set_cons_succ];refine Tree.quiet (by rfl) (.pointer (some ⟨g,11,none⟩)) (fun _ _=>by go_simp) ?_;simp only [Act.put,List.setIfInBounds_toArray,List.set_cons_zero,List.set_cons_succ];have h1:=H.out.below hb;have ho:=H.out.own.line hb hr1 hq1;have d11:=h1.cs.c11;have z11:=h1.marks 11
  refine Tree.change (by rfl) (fun K hK=>?_);go_simp;refine hK _ _ trivial ?_;clear hK K;refine Tree.quiet (by rfl) (ptr g) (fun _ _=>by go_simp) ?_;simp only [Act.put,List.setIfInBounds_toArray,List.set_cons_zero,List.set_cons_succ];refine Tree.quiet (by rfl) (.pointer (some ⟨g,12,none⟩)) (fun _ _=>by go_simp) ?_;simp only [Act.put,List.setIfInBounds_toArray,List.set_cons_zero,List.set_cons_succ];have c12:=h1.cs.c12;have z12:=h1.marks 12
  refine Tree.change (by rfl) (fun K hK=>?_);go_simp;refine hK _ _ trivial ?_;clear hK K;refine Tree.done ?_;have HP2:Hid (PR ((w2.setCell ⟨g,11,none⟩ (.int .i64 3)).setCell ⟨g,12,none⟩ (ptr q1)) B g q1 nil f bd t o p b {s with st:=3,rd:=nl p b.x0}):=Lib.hid ⟨row_setL (row_setL h1.row 11 (.int .i64 3)) 12 (ptr q1),(ho.set 11 (.int .i64 3)).set 12 (ptr q1)⟩
  have HS:=Lib.hid ((Step.line (g:=g) (q:=q) (v:=v) (f:=f) (bd:=bd) (t:=t) (o:=o) hb hq1).trans ((Step.set g 11 (.int .i64 3) (by simp)).trans (Step.set g 12 (ptr q1) (by simp))))
  have HON:=Lib.hid (HO.out _ _ HP2.out);clear HQ HBW hr1 hq1 c12 z12 d11 z11 h1 ho hb HP2;generalize (w2.setCell ⟨g,11,none⟩ (.int .i64 3)).setCell ⟨g,12,none⟩ (ptr q1)=W3 at *
  go_wp2_with (go_at_call 57;with_reducible refine HON.out.mono ?_;rintro r w4 ⟨rfl,q2,v2,f2,bd2,t2,o2,hP,hS⟩);first | go_end0 | refine bodyPost_ret (results_none rfl _ _ _) rfl ?_
  exact ⟨rfl,_,_,_,_,_,_,hP,HS.out.trans hS⟩
 ·intro k0 hk0 g1 w2 hb hf;cases hk0;have z19:(g1 19=.pointer (some ⟨g,0,none⟩)):=hf.at 0;have z30:((fun v u=>∃q1,v=ptr q1∧w.heap.size≤q1∧Ln.Rr u B q1 nil p (nl p (b.x0))) (g1 30) w2):=hf.at 11;clear hf;obtain ⟨q1,e1,hq1,hr1⟩:=z30;simp only [Each.putg,Act.put,List.setIfInBounds_toArray,List.set_cons_zero,List.set_cons_succ];rw [e1,z19];simp only [Tree.grow,Tree.put1,List.getElem?_cons_zero,List.getElem?_cons_succ];refine Tree.quiet (by rfl) (ptr g) (fun _ _=>by go_simp) ?_;simp only [Act.put,List.setIfInBounds_toArray,List.set_cons_zero,List.set_cons_succ];refine Tree.quiet (by rfl) (ptr g) (fun _ _=>by go_simp) ?_;simp only [Act.put,List.setIfInBounds_toArray,List.set_cons_zero,List.set_cons_succ];refine Tree.quiet (by rfl) (.pointer (some ⟨g,11,none⟩)) (fun _ _=>by go_simp) ?_;simp only [Act.put,List.setIfInBounds_toArray,List.set_cons_zero,List.set_cons_succ];have h1:=H.out.below hb;have ho:=H.out.own.line hb hr1 hq1;have d11:=h1.cs.c11;have z11:=h1.marks 11
  refine Tree.change (by rfl) (fun K hK=>?_);go_simp;refine hK _ _ trivial ?_;clear hK K;refine Tree.quiet (by rfl) (ptr g) (fun _ _=>by go_simp) ?_;simp only [Act.put,List.setIfInBounds_toArray,List.set_cons_zero,List.set_cons_succ];refine Tree.quiet (by rfl) (.pointer (some ⟨g,12,none⟩)) (fun _ _=>by go_simp) ?_;simp only [Act.put,List.setIfInBounds_toArray,List.set_cons_zero,List.set_cons_succ];have c12:=h1.cs.c12;have z12:=h1.marks 12
  refine Tree.change (by rfl) (fun K hK=>?_);go_simp;refine hK _ _ trivial ?_;clear hK K;refine Tree.done ?_;have HP2:Hid (PR ((w2.setCell ⟨g,11,none⟩ (.int .i64 3)).setCell ⟨g,12,none⟩ (ptr q1)) B g q1 nil f bd t o p b {s with st:=3,rd:=nl p b.x0}):=Lib.hid ⟨row_setL (row_setL h1.row 11 (.int .i64 3)) 12 (ptr q1),(ho.set 11 (.int .i64 3)).set 12 (ptr q1)⟩
  have HS:=Lib.hid ((Step.line (g:=g) (q:=q) (v:=v) (f:=f) (bd:=bd) (t:=t) (o:=o) hb hq1).trans ((Step.set g 11 (.int .i64 3) (by simp)).trans (Step.set g 12 (ptr q1) (by simp))))
  have HON:=Lib.hid (HO.out _ _ HP2.out);clear HQ HBW hr1 hq1 c12 z12 d11 z11 h1 ho hb HP2;generalize (w2.setCell ⟨g,11,none⟩ (.int .i64 3)).setCell ⟨g,12,none⟩ (ptr q1)=W3 at *
  go_wp2_with (go_at_call 57;with_reducible refine HON.out.mono ?_;rintro r w4 ⟨rfl,q2,v2,f2,bd2,t2,o2,hP,hS⟩);first | go_end0 | refine bodyPost_ret (results_none rfl _ _ _) rfl ?_
  exact ⟨rfl,_,_,_,_,_,_,hP,HS.out.trans hS⟩
end code
end Go.Proofs.YtimoakmcelocfaaGreat.Par
namespace Go.Proofs.YtimoakmcelocfaaGreat.Par
open Go.RowKit Base Txt Mem
theorem how_is (q:Ln.R) (c:UInt8):q.how c=0∨q.how c=1∨q.how c=2∨q.how c=3∨q.how c=4:=by
 unfold Ln.R.how
 repeat' split
 all_goals simp
section code
set_option maxHeartbeats 4000000
set_option maxRecDepth 20000
attribute [local go_sem] Base.some_undef
variable {w:World} {B:Zone} {g q:Nat} {v f bd t o:Value} {p:Nat} {b:Bd} {s:S}
theorem byte_any (hp:p<4294967296) (h3:16≤b.x3∧b.x3≤1048576) (h4:0≤b.x4) (c:UInt8) (h:PR w B g q v f bd t o p b s) (hs:lined s.st) (he:s.e=0) (ok:Fits s) (hl:LineOk p s.rd)
 (hlong:s.st=5→s.rd.how c=4→Qk.has p 29=true→PlainOk p {s with fresh:=false,rd:=nl p b.x0,st:=3} c)
 (hag:s.rd.how c=2→(S.ended p b {s with fresh:=false,rd:=s.rd.byte c} (s.rd.byte c).L).e=0→PlainOk p (S.ended p b {s with fresh:=false,rd:=s.rd.byte c} (s.rd.byte c).L) c∧(S.ended p b {s with fresh:=false,rd:=s.rd.byte c} (s.rd.byte c).L).head≤1000000) :
 Calls Tryz.prog 57 #[ptr g,.int .u8 (c.toNat:Int)] w fun r w'=>r=.returned (.tuple #[])∧∃q1 v1 f1 bd1 t1 o1,PR w' B g q1 v1 f1 bd1 t1 o1 p b (s.byte1 p b c)∧Step (blks g q v f bd t o) (blks g q1 v1 f1 bd1 t1 o1) w w':=by
 have hbod:bodied s.st=false:=by rcases hs with e | e | e | e | e<;>rw [e]<;>rfl
 have t2:((s.st:Int)==2)=false:=beq_eq_false_iff_ne.2 (by rcases hs with e | e | e | e | e<;>omega)
 have t4:((s.st:Int)==4)=false:=beq_eq_false_iff_ne.2 (by rcases hs with e | e | e | e | e<;>omega);have n2:¬(s.st:Int)=2:=beq_eq_false_iff_ne.1 t2;have n4:¬(s.st:Int)=4:=beq_eq_false_iff_ne.1 t4;have m2:¬s.st=2:=by omega
 have m4:¬s.st=4:=by omega
 have H1:=Lib.hid (h.put 23 (.bool false) {s with fresh:=false} rfl rfl rfl rfl rfl rfl)
 have HS1:=Lib.hid (Step.set (w:=w) (L:=blks g q v f bd t o) g 23 (.bool false) (by simp));have c23:=h.cs.c23;have z23:=h.marks 23;have c11:=h.cs.c11;have hrb:=Ln.rbyte_any c s.rd hl.most p hp hl.lf hl.cr (w.setCell ⟨g,23,none⟩ (.bool false)) B q v H1.out.own.R;clear h;have hL:(s.rd.how c=1∨s.rd.how c=2)→(s.rd.byte c).L.length≤5000:=fun e=>by rw [byte_L s.rd c e];have:=hl.len;have:=hl.most;omega
 rcases how_is s.rd c with hw | hw | hw | hw | hw
 ·have e:s.byte1 p b c={s with fresh:=false,rd:=s.rd.byte c}:=by unfold S.byte1;simp [hbod,hw]
  rw [e];rw [hw] at hrb;have HRB:=Lib.hid hrb;clear e hw hL hrb hbod hs he hl ok hlong hag;go_enter Tryz.func57,Tryz.ntmps57;go_upto_region 8 with fail
  generalize w.setCell ⟨g,23,none⟩ (.bool false)=W1 at *;clear c23 z23 c11;have c12:=H1.out.cs.c12;go_wp2_with
   (go_at_call 70;with_reducible refine HRB.out.mono ?_;rintro r w2 ⟨v2,rfl,hr2,hk2,hm2⟩
    obtain ⟨hP2,hS2⟩:=H1.out.reader hk2 hm2 hr2
    have HP2:=Lib.hid hP2;have HS2:=Lib.hid (HS1.out.trans hS2);clear hr2 hk2 hm2 hP2 hS2)
  first | go_end0 | refine bodyPost_ret (results_none rfl _ _ _) rfl ?_
  exact ⟨rfl,_,_,_,_,_,_,HP2.out,HS2.out⟩
 ·have e:s.byte1 p b c=S.ended p b {s with fresh:=false,rd:=s.rd.byte c} (s.rd.byte c).L:=by unfold S.byte1;simp [hbod,hw]
  rw [e];rw [hw] at hrb;have HRB:=Lib.hid hrb;obtain ⟨x,hx⟩:∃x:ByteArray,ba (s.rd.byte c).L=x:=⟨_,rfl⟩;have hxl:(s.rd.byte c).L=x.data.toList:=by rw [←hx];simp [ba]
  have hxs:x.size≤5000:=by rw [←hx,ba_size];exact hL (.inl hw)
  have HEN:=Lib.hid (fun w2 q1 v1 (h:PR w2 B g q1 v1 f bd t o p b {s with fresh:=false,rd:=s.rd.byte c})=>ended_any hp h3 h4 x hxs h hs he ⟨ok.lines,ok.fss,ok.fsl,ok.tss,ok.tsl,ok.body,ok.out⟩);have HX:=Lib.hid hx;rw [hxl];clear e hw hL hrb hbod hs he hl ok hlong hag hx hxl hxs;go_enter Tryz.func57,Tryz.ntmps57;go_upto_region 8 with fail
  generalize w.setCell ⟨g,23,none⟩ (.bool false)=W1 at *;clear c23 z23 c11;have c12:=H1.out.cs.c12
  go_wp2_with (first
   |(go_at_call 72;with_reducible refine (HEN.out _ _ _ HP2.out).mono ?_;rintro r w3 ⟨rfl,q1,v1,f1,bd1,t1,o1,hP3,hS3⟩)
   |(go_at_call 70;with_reducible refine HRB.out.mono ?_;rintro r w2 ⟨v2,rfl,hr2,hk2,hm2⟩
     obtain ⟨hP2,hS2⟩:=H1.out.reader hk2 hm2 hr2
     have HP2:=Lib.hid hP2;have HS2:=Lib.hid (HS1.out.trans hS2);have c11:=hP2.cs.c11;have c12:=hP2.cs.c12;have y4:w2.cell? ⟨q,4,none⟩=some (.string x):=by rw [←HX.out];exact Ln.row_cell hr2.row (k:=4) rfl
     clear hr2 hk2 hm2 hP2 hS2))
  first | go_end0 | refine bodyPost_ret (results_none rfl _ _ _) rfl ?_
  exact ⟨rfl,_,_,_,_,_,_,hP3,HS2.out.trans hS3⟩
 ·rw [hw] at hrb;have HRB:=Lib.hid hrb;obtain ⟨x,hx⟩:∃x:ByteArray,ba (s.rd.byte c).L=x:=⟨_,rfl⟩;have hxl:(s.rd.byte c).L=x.data.toList:=by rw [←hx];simp [ba]
  have hxs:x.size≤5000:=by rw [←hx,ba_size];exact hL (.inr hw)
  have HEN:=Lib.hid (fun w2 q1 v1 (h:PR w2 B g q1 v1 f bd t o p b {s with fresh:=false,rd:=s.rd.byte c})=>ended_any hp h3 h4 x hxs h hs he ⟨ok.lines,ok.fss,ok.fsl,ok.tss,ok.tsl,ok.body,ok.out⟩);have HX:=Lib.hid hx;rw [hxl] at hag;obtain ⟨s3,hs3⟩:∃s3,S.ended p b {s with fresh:=false,rd:=s.rd.byte c} x.data.toList=s3:=⟨_,rfl⟩;rw [hs3] at hag HEN;by_cases he3:s3.e=0
  ·obtain ⟨ok3,hh3⟩:=hag hw he3;have e:s.byte1 p b c=S.again p b s3 c s.st:=by
    unfold S.byte1;simp [hbod,hw,hxl,hs3,he3]
   rw [e]
   have HAG:=Lib.hid (fun w2 q1 v1 f1 bd1 t1 o1 (h:PR w2 B g q1 v1 f1 bd1 t1 o1 p b s3)=>again_any hp h3 h4 c s.st h ok3 hh3 hs);have HE2:=Lib.hid he3;clear e hw hL hrb hbod hs he hl ok hlong hag hx hxl hxs hs3 he3 ok3 hh3;go_enter Tryz.func57,Tryz.ntmps57;go_upto_region 8 with fail
   generalize w.setCell ⟨g,23,none⟩ (.bool false)=W1 at *;clear c23 z23 c11;have c12:=H1.out.cs.c12
   go_wp2_with (first
    |(go_at_call 73;with_reducible refine (HAG.out _ _ _ _ _ _ _ HP3.out).mono ?_;rintro r w4 ⟨rfl,q2,v3,f2,bd2,t2',o2,hP4,hS4⟩)
    |(go_at_call 72;with_reducible refine (HEN.out _ _ _ HP2.out).mono ?_;rintro r w3 ⟨rfl,q1,v1,f1,bd1,t1,o1,hP3,hS3⟩
      have HP3:=Lib.hid hP3;have HS3:=Lib.hid (HS2.out.trans hS3);have c25:w3.cell? ⟨g,25,none⟩=some (.int .i64 0):=by have:=hP3.cs.c25;rw [HE2.out] at this;exact this
      clear hP3 hS3)
    |(go_at_call 70;with_reducible refine HRB.out.mono ?_;rintro r w2 ⟨v2,rfl,hr2,hk2,hm2⟩
      obtain ⟨hP2,hS2⟩:=H1.out.reader hk2 hm2 hr2
      have HP2:=Lib.hid hP2;have HS2:=Lib.hid (HS1.out.trans hS2);have c11:=hP2.cs.c11;have c12:=hP2.cs.c12;have y4:w2.cell? ⟨q,4,none⟩=some (.string x):=by rw [←HX.out];exact Ln.row_cell hr2.row (k:=4) rfl
      clear hr2 hk2 hm2 hP2 hS2))
   first | go_end0 | refine bodyPost_ret (results_none rfl _ _ _) rfl ?_
   exact ⟨rfl,_,_,_,_,_,_,hP4,HS3.out.trans hS4⟩
  ·have e:s.byte1 p b c=s3:=by
    unfold S.byte1;simp [hbod,hw,hxl,hs3,he3]
   rw [e];obtain ⟨k,hk⟩:∃k,s3.e=k:=⟨_,rfl⟩
   have t5:((k:Int)==0)=false:=beq_eq_false_iff_ne.2 (by omega);have n5:¬(k:Int)=0:=by omega
   have n6:¬k=0:=by omega
   have HE2:=Lib.hid hk;clear e hw hL hrb hbod hs he hl ok hlong hag hx hxl hxs hs3 he3 hk;go_enter Tryz.func57,Tryz.ntmps57;go_upto_region 8 with fail
   generalize w.setCell ⟨g,23,none⟩ (.bool false)=W1 at *;clear c23 z23 c11;have c12:=H1.out.cs.c12
   go_wp2_with (first
    |(go_at_call 72;with_reducible refine (HEN.out _ _ _ HP2.out).mono ?_;rintro r w3 ⟨rfl,q1,v1,f1,bd1,t1,o1,hP3,hS3⟩
      have HP3:=Lib.hid hP3;have HS3:=Lib.hid (HS2.out.trans hS3);have c25:w3.cell? ⟨g,25,none⟩=some (.int .i64 (k:Int)):=by have:=hP3.cs.c25;rw [HE2.out] at this;exact this
      clear hP3 hS3)
    |(go_at_call 70;with_reducible refine HRB.out.mono ?_;rintro r w2 ⟨v2,rfl,hr2,hk2,hm2⟩
      obtain ⟨hP2,hS2⟩:=H1.out.reader hk2 hm2 hr2
      have HP2:=Lib.hid hP2;have HS2:=Lib.hid (HS1.out.trans hS2);have c11:=hP2.cs.c11;have c12:=hP2.cs.c12;have y4:w2.cell? ⟨q,4,none⟩=some (.string x):=by rw [←HX.out];exact Ln.row_cell hr2.row (k:=4) rfl
      clear hr2 hk2 hm2 hP2 hS2))
   first | go_end0 | refine bodyPost_ret (results_none rfl _ _ _) rfl ?_
   exact ⟨rfl,_,_,_,_,_,_,HP3.out,HS3.out⟩
 ·have e:s.byte1 p b c=S.fail {s with fresh:=false,rd:=s.rd.byte c} 400:=by unfold S.byte1;simp [hbod,hw]
  rw [e];rw [hw] at hrb;have HRB:=Lib.hid hrb
  have HFA:=Lib.hid (fun w2 q1 v1 (h:PR w2 B g q1 v1 f bd t o p b {s with fresh:=false,rd:=s.rd.byte c})=>fail_at h 400 400 rfl);clear e hw hL hrb hbod hs he hl ok hlong hag;go_enter Tryz.func57,Tryz.ntmps57;go_upto_region 8 with fail
  generalize w.setCell ⟨g,23,none⟩ (.bool false)=W1 at *;clear c23 z23 c11;have c12:=H1.out.cs.c12
  go_wp2_with (first
   |(go_at_call 56;with_reducible refine (HFA.out _ _ _ HP2.out).mono ?_;rintro r w3 ⟨rfl,hP3,hS3⟩)
   |(go_at_call 70;with_reducible refine HRB.out.mono ?_;rintro r w2 ⟨v2,rfl,hr2,hk2,hm2⟩
     obtain ⟨hP2,hS2⟩:=H1.out.reader hk2 hm2 hr2
     have HP2:=Lib.hid hP2;have HS2:=Lib.hid (HS1.out.trans hS2);clear hr2 hk2 hm2 hP2 hS2))
  first | go_end0 | refine bodyPost_ret (results_none rfl _ _ _) rfl ?_
  exact ⟨rfl,_,_,_,_,_,_,hP3,HS2.out.trans hS3⟩
 ·by_cases hce:(s.st==5&&Qk.has p 29)=true
  ·have hce2:s.st=5∧Qk.has p 29=true:=by simpa using hce
   have e:s.byte1 p b c=S.plain p b {s with fresh:=false,rd:=nl p b.x0,st:=3} c:=by unfold S.byte1;simp [bodied,hw,hce2.1,hce2.2]
   rw [e];have ok3:=hlong hce2.1 hw hce2.2;rw [hw] at hrb;have HRB:=Lib.hid hrb
   have HLO:=Lib.hid (fun w2 q1 v1 (h:PR w2 B g q1 v1 f bd t o p b {s with fresh:=false,rd:=s.rd.byte c})=>longEnd_any hp h3 h4 c h hce2.1 hce2.2 ok3);clear e hw hL hrb hbod hs he hl ok hlong hag hce hce2 ok3;go_enter Tryz.func57,Tryz.ntmps57;go_upto_region 8 with fail
   generalize w.setCell ⟨g,23,none⟩ (.bool false)=W1 at *;clear c23 z23 c11;have c12:=H1.out.cs.c12
   go_wp2_with (first
    |(go_at_call 71;with_reducible refine (HLO.out _ _ _ HP2.out).mono ?_;rintro r w3 ⟨rfl,q1,v1,f1,bd1,t1,o1,hP3,hS3⟩)
    |(go_at_call 70;with_reducible refine HRB.out.mono ?_;rintro r w2 ⟨v2,rfl,hr2,hk2,hm2⟩
      obtain ⟨hP2,hS2⟩:=H1.out.reader hk2 hm2 hr2
      have HP2:=Lib.hid hP2;have HS2:=Lib.hid (HS1.out.trans hS2);clear hr2 hk2 hm2 hP2 hS2))
   first | go_end0 | refine bodyPost_ret (results_none rfl _ _ _) rfl ?_
   exact ⟨rfl,_,_,_,_,_,_,hP3,HS2.out.trans hS3⟩
  ·have e:s.byte1 p b c=S.fail {s with fresh:=false,rd:=s.rd.byte c} (longE s.st):=by unfold S.byte1;simp [hbod,hw,hce]
   rw [e];have h6:s.st=5→Qk.has p 29=false:=fun e=>by
    cases h:Qk.has p 29 with
    | false=>rfl
    | true=>exact absurd (by rw [e,h];rfl) hce
   rw [hw] at hrb;have HRB:=Lib.hid hrb
   have HLO:=Lib.hid (fun w2 q1 v1 (h:PR w2 B g q1 v1 f bd t o p b {s with fresh:=false,rd:=s.rd.byte c})=>long_any hp c h hs h6);clear e hw hL hrb hbod hs he hl ok hlong hag hce h6;go_enter Tryz.func57,Tryz.ntmps57;go_upto_region 8 with fail
   generalize w.setCell ⟨g,23,none⟩ (.bool false)=W1 at *;clear c23 z23 c11;have c12:=H1.out.cs.c12
   go_wp2_with (first
    |(go_at_call 71;with_reducible refine (HLO.out _ _ _ HP2.out).mono ?_;rintro r w3 ⟨rfl,hP3,hS3⟩)
    |(go_at_call 70;with_reducible refine HRB.out.mono ?_;rintro r w2 ⟨v2,rfl,hr2,hk2,hm2⟩
      obtain ⟨hP2,hS2⟩:=H1.out.reader hk2 hm2 hr2
      have HP2:=Lib.hid hP2;have HS2:=Lib.hid (HS1.out.trans hS2);clear hr2 hk2 hm2 hP2 hS2))
   first | go_end0 | refine bodyPost_ret (results_none rfl _ _ _) rfl ?_
   exact ⟨rfl,_,_,_,_,_,_,hP3,HS2.out.trans hS3⟩
end code
end Go.Proofs.YtimoakmcelocfaaGreat.Par
namespace Go.Proofs.YtimoakmcelocfaaGreat.Par
open Go.RowKit Base Txt Mem
section
variable {p:Nat} {b:Bd} {x:Pg.T} {s:S}
theorem fits_of (h:Pg.R0 p b x s) (ok:x.Ok) (ho:s.out.length≤1000000000):Fits s:=by
 have k1:=ok.hl;have k2:=ok.bl;have k3:=ok.fsl;have k4:=ok.tsl;have k5:=ok.body;refine ⟨fun e=>?_,fun y hy=>?_,?_,fun y hy=>?_,?_,?_,ho⟩
 ·rcases e with e | e
  ·rw [h.hl (by omega)];omega
  ·rw [h.bl e];omega
 ·rw [h.r] at hy;have:=ok.fss y hy;omega
 ·rw [h.r];omega
 ·rw [h.r] at hy;have:=ok.tss y hy;omega
 ·rw [h.r];omega
 ·rw [h.r];omega
theorem lineOk_of (h:Pg.R0 p b x s) (ok:x.Ok) (hn:bodied s.st=false):LineOk p s.rd:=by
 have r:=h.rd hn;have h1:=ok.rd.len;have h2:=ok.rd.most;refine ⟨r.lf.trans h.lf,r.cr.trans h.cr,by rw [r.most];exact h2,?_⟩;rw [r.B,r.most];split
 ·exact Nat.zero_le _
 ·exact h1
theorem lined_of (h:Pg.R0 p b x s) (ok:x.Ok) (hn:bodied s.st=false):lined s.st:=by
 have h7:=ok.st;have ht:=h.st;have hn2:s.st≠2∧s.st≠4:=by constructor<;> (intro e;rw [e] at hn;exact absurd hn (by decide))
 unfold lined;omega
theorem plainOk_of (h:Pg.R0 p b x s) (ok:x.Ok) (hp:x.rd.pend=false) (h6:x.st≠6) (ho:s.out.length≤1000000000) (c:UInt8):PlainOk p s c:=by
 have h7:=ok.st;have ht:=h.st;refine ⟨h.e,fits_of h ok ho,?_,fun hb=>?_,fun hl=>?_⟩
 ·unfold lined;omega
 ·have h1:=h.left hb;have h2:=ok.left (by rw [Pg.bod h];exact hb);have h3:=ok.body;omega
 ·have hn:bodied s.st=false:=by rcases hl with e | e | e | e | e<;>rw [e]<;>rfl
  exact ⟨lineOk_of h ok hn,(h.rd hn).CR.trans hp,fun e=>absurd (ht.trans (by rw [e])) h6⟩
theorem ended_ok (h:Pg.R0 p b x s) (ok:x.Ok) (hb:b.right=true) (hn:bodied s.st=false) (hc:s.clean=false) (ho:s.out.length≤999999998) (c:UInt8) (h2:s.rd.how c=2)
 (he:(S.ended p b {s with fresh:=false,rd:=s.rd.byte c} (s.rd.byte c).L).e=0) :
 PlainOk p (S.ended p b {s with fresh:=false,rd:=s.rd.byte c} (s.rd.byte c).L) c∧(S.ended p b {s with fresh:=false,rd:=s.rd.byte c} (s.rd.byte c).L).head≤1000000:=by
 obtain ⟨n,hnx⟩:∃n,x.rd.clear.next c=n:=⟨_,rfl⟩;obtain ⟨k1, -,k3⟩:=Pg.took_sim h hn ok hc c hnx;have e2:n=2:=k1.symm.trans h2;subst e2
 have k4:=k3 (.inr rfl);have hb0:Pg.bodied x.st=false:=(Pg.bod h).trans hn;generalize hs2:S.ended p b {s with fresh:=false,rd:=s.rd.byte c} (s.rd.byte c).L=s2 at k4 he ⊢;generalize hq:Pg.ends (Pg.T.line p b {x with rd:=x.rd.byte c} (x.rd.byte c).line)=y at k4;rcases Pg.ends_cases hq with ⟨t2,g1,rfl⟩ | ⟨e,o,rfl⟩
 ·have k5:Pg.RR p b t2 s2:=k4;have hin:x.inLine p b c=(.live t2,false):=by
   unfold Pg.T.inLine;simp only [hnx,Int.reduceEq,if_false,BEq.rfl,Bool.not_true];rw [hq]
  have ok2:t2.Ok:=ok.inLine hb c (by rw [hin]);obtain ⟨g2,g3⟩:=Pg.inLine_again hb0 c hin;have hout:=Pg.inLine_out (p:=p) (b:=b) x c;rw [hin] at hout;have ho2:s2.out.length≤1000000000:=by rw [k5.out];have h1:t2.out.length≤x.out.length+1:=hout;rw [←h.out] at h1;omega
  exact ⟨plainOk_of k5.toR0 ok2 g2 g3 ho2 c,by rw [k5.head];have:=ok2.size;omega⟩
 ·exact absurd he k4.err
end
section code
set_option maxHeartbeats 4000000
variable {w:World} {B:Zone} {g q:Nat} {v f bd t o:Value} {p:Nat} {b:Bd} {s:S} {x:Pg.T}
theorem byte1_any (hp:p<4294967296) (hb:b.right=true) (c:UInt8) (h:PR w B g q v f bd t o p b s) (h0:Pg.R0 p b x s) (ok:x.Ok) (hc:s.clean=false) (ho:s.out.length≤999999998) :
 Calls Tryz.prog 57 #[ptr g,.int .u8 (c.toNat:Int)] w fun r w'=>r=.returned (.tuple #[])∧∃q1 v1 f1 bd1 t1 o1,PR w' B g q1 v1 f1 bd1 t1 o1 p b (s.byte1 p b c)∧Step (blks g q v f bd t o) (blks g q1 v1 f1 bd1 t1 o1) w w':=by
 obtain ⟨-, -, -,h3,h4, -⟩:=Pg.Bd.edges hb
 have hf:=fits_of h0 ok (by omega);by_cases hbd:bodied s.st=true
 ·have hst:s.st=2∨s.st=4:=by
   unfold bodied at hbd;simpa using hbd
  have e:s.byte1 p b c=S.bodyB p b {s with fresh:=false} c:=by unfold S.byte1;simp [hbd]
  rw [e];have h1:=h0.left hbd;have h2:=ok.left (by rw [Pg.bod h0];exact hbd);have h5:=ok.body;exact body_any c h hst ⟨by omega,by omega⟩ hf.body hf.out
 ·have hn:bodied s.st=false:=by simpa using hbd
  refine byte_any hp h3 h4.1 c h (lined_of h0 ok hn) h0.e hf (lineOk_of h0 ok hn) (fun h5 _ _=>?_) (fun h2 he=>ended_ok h0 ok hb hn hc ho c h2 he);have he:=Pg.enter_sim (t:=x) (s:={s with fresh:=false}) {h0 with} h5;exact plainOk_of he (ok.enter (.inl rfl) b.x0) rfl (by show (4:Nat)≠6;decide) (by show s.out.length≤_;omega) c
theorem byteS_any (hp:p<4294967296) (hb:b.right=true) (c:UInt8) (h:PR w B g q v f bd t o p b s) (hr:Pg.RR p b x s) (ok:x.Ok) (ho:s.out.length≤999999998) :
 Calls Tryz.prog 37 #[ptr g,.int .u8 (c.toNat:Int)] w fun r w'=>r=.returned (.tuple #[])∧∃q1 v1 f1 bd1 t1 o1,PR w' B g q1 v1 f1 bd1 t1 o1 p b (s.byte p b c)∧Step (blks g q v f bd t o) (blks g q1 v1 f1 bd1 t1 o1) w w':=by
 have h0:Pg.R0 p b ({x with cnt:=false}:Pg.T) {s with clean:=false}:=⟨hr.e,hr.st,hr.r,hr.out,hr.head,hr.hl,hr.bl,hr.bl0,hr.left,hr.rd,hr.fr,hr.lf,hr.cr,hr.most,hr.beh,hr.ch⟩;have ok0:({x with cnt:=false}:Pg.T).Ok:=ok.cleared;refine count_any c (fun s=>s.byte1 p b c) h hr.e (by rw [hr.head];have:=ok.size;omega) fun w2 s2 hs h2=>?_;rcases hs with ⟨hh,rfl,hx⟩ | ⟨hh,rfl⟩
 ·have h1:Pg.R0 p b ({x with cnt:=false}:Pg.T).counted {s with head:=s.head+1,clean:=false}:=h0.of_counted rfl;have esz:({x with cnt:=false}:Pg.T).counted.size=s.head+1:=h1.head.symm;exact byte1_any hp hb c h2 h1 (ok0.counted hb (by rw [esz];exact hx)) rfl ho
 ·exact byte1_any hp hb c h2 h0 ok0 rfl ho
end code
end Go.Proofs.YtimoakmcelocfaaGreat.Par
namespace Go.Proofs.YtimoakmcelocfaaGreat.Par
open Go.RowKit Base Txt Mem Each
abbrev ncells (p:Nat) (b:Bd) (cl:Bool) (e:Nat):List Value:=
 [.int .u32 (p:Int),.int .i64 b.x0,.int .i64 b.x1,.int .i64 b.x2,.int .i64 b.x3,.int .i64 b.x4,.int .i64 b.x5,.int .i64 b.x6,.int .i64 b.x7,.bool b.ch,.bool b.od,.int .i64 0,.pointer none,
   .string E0,.string E0,.int .i64 0,nil,.bool false,nil,nil,.int .i64 0,.int .i64 0,.int .i64 0,.bool false,.bool cl,.int .i64 (e:Int),nil]
structure Bad (w:World) (B:Zone) (g p:Nat) (b:Bd) (s:S):Prop where
 row:w.heap[g]?=some (.cells (ncells p b false 20).toArray 59 (0,0))
 e:s.e=20
 clean:s.clean=false
 out:s.out= []
 ge:B≤g
 zone:Clear w B.z [some g]
structure Rest (w:World) (B:Zone) (g q:Nat) (v f bd t:Value) (p:Nat) (b:Bd) (s:S):Prop where
 row:∃o,w.heap[g]?=some (.cells (pcells p b s q f bd t o).toArray 59 (0,0))
 own:Own w B g q v f bd t nil p s.rd s.r.fs s.r.body s.r.ts []
def Run (w:World) (B:Zone) (g p:Nat) (b:Bd) (L:List (Option Nat)) (s:S):Prop:=
 (∃q v f bd t o,L=blks g q v f bd t o∧PR w B g q v f bd t o p b s)∨(L= [some g]∧Bad w B g p b s)
def DAt (w:World) (B:Zone) (g p:Nat) (b:Bd) (L:List (Option Nat)) (s:S):Prop:=
 (∃q v f bd t,L=blks g q v f bd t nil∧Rest w B g q v f bd t p b s)∨(L= [some g]∧Bad w B g p b s)
def DQ (w:World) (B:Zone) (g p:Nat) (b:Bd) (L:List (Option Nat)) (x:Pg.Q):Prop:=∃s,Pg.RQ p b x s∧x.Fine b∧DAt w B g p b L s
theorem fine_of {b:Bd} {x:Pg.Q} (h:x.Ok b):x.Fine b:=by cases x<;>exact h
section
variable {w w':World} {B:Zone} {g q:Nat} {v f bd t o:Value} {p:Nat} {b:Bd} {L M:List (Option Nat)} {s:S} {x:Pg.Q} {rd:Ln.R} {fs ts:List Fld} {body:List UInt8} {out:List Rec.R}
theorem Own.less (h:Own w B g q v f bd t o p rd fs body ts out):Own w B g q v f bd t nil p rd fs body ts []:=by
 have e:blks g q v f bd t nil=(blks g q v f bd t o).set 6 none:=rfl;refine ⟨h.R,h.F,h.D,h.T,⟨[],rfl,(by intro x hx;cases hx),World.ownsRow_nil _ _ _ _⟩,?_,h.ge,h.lt,h.zone.of (Nat.le_refl _) (by rw [e];exact Of.set 6 none (.inl rfl))⟩;rw [e]
 exact h.lone.set h.in 6 none (.inl rfl)
theorem Run.tell (h:Run w B g p b L s):∃o L',w.cell? ⟨g,26,none⟩=some o∧DAt w B g p b L' s∧Pg.Told L' B w o s.out∧Step L L' w w:=by
 rcases h with ⟨q,v,f,bd,t,o,rfl,h⟩ | ⟨rfl,h⟩
 ·have hsub:∀k,some k∈blks g q v f bd t nil→some k∈blks g q v f bd t o:=fun k hk=>by
   simp only [List.mem_cons,List.not_mem_nil,or_false,Value.ownBlock,reduceCtorEq] at hk ⊢;rcases hk with e | e | e | e | e | e<;>simp [e]
  refine ⟨o,blks g q v f bd t nil,h.cs.c26,.inl ⟨q,v,f,bd,t,rfl,⟨o,h.row⟩,h.own.less⟩,⟨Pg.Outs.less h.own.O (fun k hk=>.inl (hsub k hk)),fun k e=>⟨fun hm=>?_,?_⟩,fun k e=>h.own.zone.off k (List.mem_of_getElem? (i:=6) (by rw [←e];rfl))⟩,⟨Keeps.refl,fun k hk=>.inl (hsub k hk)⟩⟩
  ·obtain ⟨i,hi⟩:=List.getElem?_of_mem hm;have h6:(blks g q v f bd t o)[6]?=some (some k):=by rw [←e];rfl
   rcases i with _ | _ | _ | _ | _ | _ | _ | i
   ·exact h.own.lone.ne (i:=0) (j:=6) (k:=k) hi (by decide) h6
   ·exact h.own.lone.ne (i:=1) (j:=6) (k:=k) hi (by decide) h6
   ·exact h.own.lone.ne (i:=2) (j:=6) (k:=k) hi (by decide) h6
   ·exact h.own.lone.ne (i:=3) (j:=6) (k:=k) hi (by decide) h6
   ·exact h.own.lone.ne (i:=4) (j:=6) (k:=k) hi (by decide) h6
   ·exact h.own.lone.ne (i:=5) (j:=6) (k:=k) hi (by decide) h6
   ·cases hi
   ·cases hi
  ·exact h.own.in k (List.mem_of_getElem? (i:=6) (by rw [←e];rfl))
 ·exact ⟨nil,[some g],row_cellL h.row rfl,.inr ⟨rfl,h⟩,by rw [h.out];exact ⟨⟨[],rfl,(by intro x hx;cases hx),World.ownsRow_nil _ _ _ _⟩,(fun k e=>by cases e),(fun k e=>by cases e)⟩,Step.refl⟩
theorem DAt.start (h:DAt w B g p b L s) (ho:s.out= []):w.frozen? ⟨g,26,none⟩=false∧(∃o,w.cell? ⟨g,26,none⟩=some o)∧Run (w.setCell ⟨g,26,none⟩ nil) B g p b L s∧Step L L w (w.setCell ⟨g,26,none⟩ nil):=by
 rcases h with ⟨q,v,f,bd,t,rfl,⟨o,hrow⟩,hown⟩ | ⟨rfl,h⟩
 ·refine ⟨Ln.row_frozen hrow 26,⟨o,row_cellL hrow rfl⟩,.inl ⟨q,v,f,bd,t,nil,rfl,row_setL hrow 26 nil,?_⟩,Step.set g 26 nil (by simp)⟩;rw [ho];exact hown.set 26 nil
 ·exact ⟨Ln.row_frozen h.row 26,⟨_,row_cellL h.row rfl⟩,.inr ⟨rfl,row_setL h.row 26 nil,h.e,h.clean,h.out,h.ge,h.zone.of (by simp) Of.refl⟩,Step.set g 26 nil (by simp)⟩
theorem Own.keepsD (h:Own w B g q v f bd t nil p rd fs body ts []) (hk:Keeps M w w') (hd:Dis (blks g q v f bd t nil) M):Own w' B g q v f bd t nil p rd fs body ts []:=
 ⟨⟨hk.row h.R.row (hd q (by simp)),hk.own h.R.own fun k e=>hd k (by simp [←e]),h.R.ge,h.R.ne⟩,hk.own h.F fun k e=>hd k (by simp [←e]),hk.own h.D fun k e=>hd k (by simp [←e]),hk.own h.T fun k e=>hd k (by simp [←e]),
   ⟨[],rfl,(by intro x hx;cases hx),World.ownsRow_nil _ _ _ _⟩,h.lone,h.ge,Nat.lt_of_lt_of_le h.lt hk.size,h.zone.of hk.size Of.refl⟩
theorem Own.rezoneD (h:Own w B g q v f bd t nil p rd fs body ts []) {Z:List (Option Nat)} (hz:Clear w Z (blks g q v f bd t nil)):Own w ⟨B.b,Z⟩ g q v f bd t nil p rd fs body ts []:=
 ⟨h.R,h.F,h.D,h.T,⟨[],rfl,(by intro x hx;cases hx),World.ownsRow_nil _ _ _ _⟩,h.lone,h.ge,h.lt,hz⟩
theorem DAt.keeps (h:DAt w B g p b L s) (hk:Keeps M w w') (hd:Dis L M):DAt w' B g p b L s:=by
 rcases h with ⟨q,v,f,bd,t,rfl,⟨o,hrow⟩,hown⟩ | ⟨rfl,h⟩
 ·exact .inl ⟨q,v,f,bd,t,rfl,⟨o,hk.row hrow (hd g (by simp))⟩,hown.keepsD hk hd⟩
 ·exact .inr ⟨rfl,hk.row h.row (hd g (by simp)),h.e,h.clean,h.out,h.ge,h.zone.of hk.size Of.refl⟩
theorem DAt.rezone (h:DAt w B g p b L s) {Z:List (Option Nat)} (hz:Clear w Z L):DAt w ⟨B.b,Z⟩ g p b L s:=by
 rcases h with ⟨q,v,f,bd,t,rfl,hrow,hown⟩ | ⟨rfl,h⟩
 ·exact .inl ⟨q,v,f,bd,t,rfl,hrow,hown.rezoneD hz⟩
 ·exact .inr ⟨rfl,h.row,h.e,h.clean,h.out,h.ge,hz⟩
theorem DAt.in (h:DAt w B g p b L s):In w L:=by
 rcases h with ⟨q,v,f,bd,t,rfl, -,hown⟩ | ⟨rfl,h⟩
 ·exact hown.in
 ·intro k hk;obtain rfl:k=g:=by simpa using hk
  exact Ln.row_lt h.row
theorem DAt.low (h:DAt w B g p b L s):∀k,some k∈L→B≤k:=by
 rcases h with ⟨q,v,f,bd,t,rfl, -,hown⟩ | ⟨rfl,h⟩
 ·exact hown.low
 ·intro k hk;obtain rfl:k=g:=by simpa using hk
  exact h.ge
theorem DAt.uniq {B':Zone} {p':Nat} {b':Bd} {s':S} {L':List (Option Nat)} (h:DAt w B g p b L s) (h':DAt w B' g p' b' L' s'):L=L':=by
 rcases h with ⟨q,v,f,bd,t,rfl,⟨o,h1⟩,h2⟩ | ⟨rfl,h⟩
 ·rcases h' with ⟨q',v',f',bd',t',rfl,⟨o',h1'⟩,h2'⟩ | ⟨rfl,h'⟩
  ·have e:=Pg.cells_inj h1 h1'
   have e12:ptr q=ptr q':=Option.some.inj (congrArg (fun l:List Value=>l[12]?) e)
   have e16:f=f':=Option.some.inj (congrArg (fun l:List Value=>l[16]?) e)
   have e18:bd=bd':=Option.some.inj (congrArg (fun l:List Value=>l[18]?) e)
   have e19:t=t':=Option.some.inj (congrArg (fun l:List Value=>l[19]?) e);have eq:q=q':=by simpa using e12
   subst eq e16 e18 e19;have hr:=h2.R.row.symm.trans h2'.R.row;have ev:v=v':=by
    simp only [Option.some.injEq,Obj.cells.injEq,and_true] at hr
    exact Option.some.inj (congrArg (fun a:Array Value=>a[2]?) hr)
   rw [ev]
  ·have e:=Pg.cells_inj h1 h'.row
   have e12:ptr q=.pointer none:=Option.some.inj (congrArg (fun l:List Value=>l[12]?) e);cases e12
 ·rcases h' with ⟨q',v',f',bd',t',rfl,⟨o',h1'⟩,h2'⟩ | ⟨rfl,h'⟩
  ·have e:=Pg.cells_inj h.row h1'
   have e12:Value.pointer none=ptr q':=Option.some.inj (congrArg (fun l:List Value=>l[12]?) e);cases e12
  ·rfl
theorem DQ.keeps (h:DQ w B g p b L x) (hk:Keeps M w w') (hd:Dis L M):DQ w' B g p b L x:=by obtain ⟨s,h1,h2,h3⟩:=h;exact ⟨s,h1,h2,h3.keeps hk hd⟩
theorem DQ.below (h:DQ w B g p b L x) (hb:Below w.heap.size w w'):DQ w' B g p b L x:=h.keeps (M:= []) (Keeps.of_below hb) (fun k _ hk=>by cases hk)
theorem DQ.rezone (h:DQ w B g p b L x) {Z:List (Option Nat)} (hz:Clear w Z L):DQ w ⟨B.b,Z⟩ g p b L x:=by obtain ⟨s,h1,h2,h3⟩:=h;exact ⟨s,h1,h2,h3.rezone hz⟩
theorem DQ.in (h:DQ w B g p b L x):In w L:=by obtain ⟨_,_,_,h3⟩:=h;exact h3.in
theorem DQ.low (h:DQ w B g p b L x):∀k,some k∈L→B≤k:=by obtain ⟨_,_,_,h3⟩:=h;exact h3.low
theorem DQ.uniq {B':Zone} {p':Nat} {b':Bd} {x':Pg.Q} {L':List (Option Nat)} (h:DQ w B g p b L x) (h':DQ w B' g p' b' L' x'):L=L':=by obtain ⟨_,_,_,h3⟩:=h;obtain ⟨_,_,_,h3'⟩:=h';exact h3.uniq h3'
theorem obj_dq {B:Zone} {g p p':Nat} {b b':Bd} {x x':Pg.Q}:Thing (fun w L=>∃Z,DQ w ⟨B.b,Z⟩ g p b L x) (fun w L=>∃Z,DQ w ⟨B.b,Z⟩ g p' b' L x') where
 keeps:=fun ⟨Z,h⟩ hk hd=>⟨Z,h.keeps hk hd⟩
 keeps':=fun ⟨Z,h⟩ hk hd=>⟨Z,h.keeps hk hd⟩
 inn:=fun ⟨_,h⟩=>h.in
 inn':=fun ⟨_,h⟩=>h.in
 uniq:=fun h h'=>by rcases h with ⟨_,h⟩ | ⟨_,h⟩<;>rcases h' with ⟨_,h'⟩ | ⟨_,h'⟩<;>exact h.uniq h'
end
section code
set_option maxHeartbeats 4000000
set_option maxRecDepth 20000
attribute [local go_sem] Base.some_undef
variable {w:World} {B:Zone} {g q:Nat} {v f bd t o:Value} {p:Nat} {b:Bd} {s:S} {x:Pg.Q} {L:List (Option Nat)}
theorem byteDead_any (c:UInt8) {e:Nat} (he:e≠0) (c25:w.cell? ⟨g,25,none⟩=some (.int .i64 (e:Int))) :
 Calls Tryz.prog 37 #[ptr g,.int .u8 (c.toNat:Int)] w fun r w'=>r=.returned (.tuple #[])∧w'=w:=by
 have t5:((e:Int)==0)=false:=beq_eq_false_iff_ne.2 (by omega);have n5:¬(e:Int)=0:=by omega
 go_enter Tryz.func37,Tryz.ntmps37;go_wp2;first | go_end0 | refine bodyPost_ret (results_none rfl _ _ _) rfl ?_
 exact ⟨rfl,rfl⟩
theorem byteRun_any (hp:p<4294967296) (c:UInt8) (h:Run w B g p b L s) (hr:Pg.RQ p b x s) (ok:x.Fine b) (ho:s.out.length≤999999998) :
 Calls Tryz.prog 37 #[ptr g,.int .u8 (c.toNat:Int)] w fun r w'=>r=.returned (.tuple #[])∧∃L',Run w' B g p b L' (s.byte p b c)∧Step L L' w w':=by
 cases x with
 | live y=>
   obtain ⟨ok1,ok2⟩:=ok;have hr:Pg.RR p b y s:=hr;rcases h with ⟨q,v,f,bd,t,o,rfl,h⟩ | ⟨rfl,h⟩
   ·refine (byteS_any hp ok2 c h hr ok1 ho).mono ?_;rintro r w' ⟨rfl,q1,v1,f1,bd1,t1,o1,hP,hS⟩;exact ⟨rfl,_,.inl ⟨q1,v1,f1,bd1,t1,o1,rfl,hP⟩,hS⟩
   ·exact absurd (hr.e.symm.trans h.e) (by decide)
 | dead e o=>
   have he:=hr.err;rw [S.byte_dead he];have key:∀c25:w.cell? ⟨g,25,none⟩=some (.int .i64 (s.e:Int)),Calls Tryz.prog 37 #[ptr g,.int .u8 (c.toNat:Int)] w fun r w'=>r=.returned (.tuple #[])∧∃L',Run w' B g p b L' s∧Step L L' w w':=by intro c25;refine (byteDead_any c he c25).mono ?_;rintro r w' ⟨rfl,rfl⟩;exact ⟨rfl,L,h,Step.refl⟩
   rcases h with ⟨q,v,f,bd,t,o,rfl,h1⟩ | ⟨rfl,h1⟩
   ·exact key h1.cs.c25
   ·exact key (by rw [h1.e];exact row_cellL h1.row rfl)
end code
end Go.Proofs.YtimoakmcelocfaaGreat.Par
namespace Go.Proofs.YtimoakmcelocfaaGreat.Par
open Go.RowKit Base Txt Mem Each
section
variable {w:World} {B:Zone} {g p:Nat} {b:Bd} {s:S} {x:Pg.Q} {L:List (Option Nat)}
theorem DAt.cell (h:DAt w B g p b L s):w.cell? ⟨g,25,none⟩=some (.int .i64 (s.e:Int))∧w.cell? ⟨g,24,none⟩=some (.bool s.clean):=by
 rcases h with ⟨q,v,f,bd,t,rfl,⟨o,hrow⟩,hown⟩ | ⟨rfl,h⟩
 ·exact ⟨row_cellL hrow rfl,row_cellL hrow rfl⟩
 ·rw [h.e,h.clean];exact ⟨row_cellL h.row rfl,row_cellL h.row rfl⟩
theorem DQ.e (h:DQ w B g p b L x):w.cell? ⟨g,25,none⟩=some (.int .i64 (x.err:Int)):=by obtain ⟨s,h1,h2,h3⟩:=h;rw [←(Pg.said_sim h1 h2).1];exact h3.cell.1
theorem DAt.told (h:DAt w B g p b L s):DAt w B g p b L {s with out:= []}:=by
 rcases h with ⟨q,v,f,bd,t,rfl,hrow,hown⟩ | ⟨rfl,h⟩
 ·exact .inl ⟨q,v,f,bd,t,rfl,hrow,hown⟩
 ·exact .inr ⟨rfl,h.row,h.e,h.clean,rfl,h.ge,h.zone⟩
end
section code
set_option maxHeartbeats 4000000
set_option maxRecDepth 20000
attribute [local go_sem] Base.some_undef
variable {w:World} {B:Zone} {g q:Nat} {v f bd t o:Value} {p:Nat} {b:Bd} {s:S} {x:Pg.Q} {L:List (Option Nat)}
theorem next_new (hrow:w.heap[g]?=some (.cells (ncells p b true 0).toArray 59 (0,0))) (hB:B≤g) (hz:B.z= []):Calls Tryz.prog 36 #[ptr g] w fun r w'=>
 r=.returned (.tuple #[])∧∃q1,PR w' B g q1 nil nil nil nil nil p b ⟨0,nl p b.x0,zero,0,0,0,false,true,0,[]⟩∧Keeps [some g] w w':=by
 have hlt:=Ln.row_lt hrow
 have HR1:=Lib.hid (show (((((((((((((w.setCell ⟨g,13,none⟩ (.string E0)).setCell ⟨g,14,none⟩ (.string E0)).setCell ⟨g,15,none⟩ (.int .i64 0)).setCell ⟨g,16,none⟩ (nil)).setCell ⟨g,17,none⟩ (.bool false)).setCell ⟨g,18,none⟩ (nil)).setCell ⟨g,19,none⟩ (nil)).setCell ⟨g,11,none⟩ (.int .i64 0)).setCell ⟨g,20,none⟩ (.int .i64 0)).setCell ⟨g,21,none⟩ (.int .i64 0)).setCell ⟨g,23,none⟩ (.bool false)).setCell ⟨g,24,none⟩ (.bool true))).heap[g]?=some (.cells (ncells p b true 0).toArray 59 (0,0)) from (row_setL (row_setL (row_setL (row_setL (row_setL (row_setL (row_setL (row_setL (row_setL (row_setL (row_setL (row_setL hrow 13 (.string E0)) 14 (.string E0)) 15 (.int .i64 0)) 16 (nil)) 17 (.bool false)) 18 (nil)) 19 (nil)) 11 (.int .i64 0)) 20 (.int .i64 0)) 21 (.int .i64 0)) 23 (.bool false)) 24 (.bool true)))
 have HK1:=Lib.hid (show Keeps [some g] w ((((((((((((w.setCell ⟨g,13,none⟩ (.string E0)).setCell ⟨g,14,none⟩ (.string E0)).setCell ⟨g,15,none⟩ (.int .i64 0)).setCell ⟨g,16,none⟩ (nil)).setCell ⟨g,17,none⟩ (.bool false)).setCell ⟨g,18,none⟩ (nil)).setCell ⟨g,19,none⟩ (nil)).setCell ⟨g,11,none⟩ (.int .i64 0)).setCell ⟨g,20,none⟩ (.int .i64 0)).setCell ⟨g,21,none⟩ (.int .i64 0)).setCell ⟨g,23,none⟩ (.bool false)).setCell ⟨g,24,none⟩ (.bool true)) from ((((((((((((Keeps.set (L:= [some g]) g 13 (.string E0) (by simp)).trans (Keeps.set (L:= [some g]) g 14 (.string E0) (by simp)) Of.refl).trans (Keeps.set (L:= [some g]) g 15 (.int .i64 0) (by simp)) Of.refl).trans (Keeps.set (L:= [some g]) g 16 (nil) (by simp)) Of.refl).trans (Keeps.set (L:= [some g]) g 17 (.bool false) (by simp)) Of.refl).trans (Keeps.set (L:= [some g]) g 18 (nil) (by simp)) Of.refl).trans (Keeps.set (L:= [some g]) g 19 (nil) (by simp)) Of.refl).trans (Keeps.set (L:= [some g]) g 11 (.int .i64 0) (by simp)) Of.refl).trans (Keeps.set (L:= [some g]) g 20 (.int .i64 0) (by simp)) Of.refl).trans (Keeps.set (L:= [some g]) g 21 (.int .i64 0) (by simp)) Of.refl).trans (Keeps.set (L:= [some g]) g 23 (.bool false) (by simp)) Of.refl).trans (Keeps.set (L:= [some g]) g 24 (.bool true) (by simp)) Of.refl));have c11:=row_cellL hrow (k:=11) rfl;have z11:=Ln.row_frozen hrow 11;have c13:=row_cellL hrow (k:=13) rfl;have z13:=Ln.row_frozen hrow 13;have c14:=row_cellL hrow (k:=14) rfl;have z14:=Ln.row_frozen hrow 14;have c15:=row_cellL hrow (k:=15) rfl;have z15:=Ln.row_frozen hrow 15;have c16:=row_cellL hrow (k:=16) rfl;have z16:=Ln.row_frozen hrow 16;have c17:=row_cellL hrow (k:=17) rfl;have z17:=Ln.row_frozen hrow 17;have c18:=row_cellL hrow (k:=18) rfl;have z18:=Ln.row_frozen hrow 18;have c19:=row_cellL hrow (k:=19) rfl;have z19:=Ln.row_frozen hrow 19;have c20:=row_cellL hrow (k:=20) rfl;have z20:=Ln.row_frozen hrow 20;have c21:=row_cellL hrow (k:=21) rfl;have z21:=Ln.row_frozen hrow 21;have c23:=row_cellL hrow (k:=23) rfl;have z23:=Ln.row_frozen hrow 23;have c24:=row_cellL hrow (k:=24) rfl;have z24:=Ln.row_frozen hrow 24;have HB:=Lib.hid hB;have HZ:=Lib.hid hz;clear hrow hB hlt hz;go_enter Tryz.func36,Tryz.ntmps36;go_upto_region 1 with fail
 generalize ((((((((((((w.setCell ⟨g,13,none⟩ (.string E0)).setCell ⟨g,14,none⟩ (.string E0)).setCell ⟨g,15,none⟩ (.int .i64 0)).setCell ⟨g,16,none⟩ (nil)).setCell ⟨g,17,none⟩ (.bool false)).setCell ⟨g,18,none⟩ (nil)).setCell ⟨g,19,none⟩ (nil)).setCell ⟨g,11,none⟩ (.int .i64 0)).setCell ⟨g,20,none⟩ (.int .i64 0)).setCell ⟨g,21,none⟩ (.int .i64 0)).setCell ⟨g,23,none⟩ (.bool false)).setCell ⟨g,24,none⟩ (.bool true))=W1 at *;clear c13 z13 c14 z14 c15 z15 c16 z16 c17 z17 c18 z18 c19 z19 c11 z11 c20 z20 c21 z21 c23 z23 c24 z24
 have HRD:=Lib.hid (show (W1.drewN 1).heap[g]?=some (.cells (ncells p b true 0).toArray 59 (0,0)) from HR1.out)
 have HQ:=Lib.hid (show Rec.Bk (W1.drewN 1) g (ncells p b true 0) from ⟨fun _ _ hu=>row_cellL HRD.out hu,fun k _=>Ln.row_frozen HRD.out k,Ln.row_lt HRD.out⟩)
 have HBW:=Lib.hid (show B≤(W1.drewN 1).heap.size from Nat.le_trans HB.out (Nat.le_of_lt (Ln.row_lt HRD.out)));refine Each.region 11 [21,22,23,24,25,26,27,28,29,30,31]
  [fun v _=>v=.pointer (some ⟨g,0,none⟩),
    fun v _=>v=.pointer (some ⟨g,0,none⟩),
    fun v _=>v=.pointer (some ⟨g,0,none⟩),
    fun v _=>v=.pointer (some ⟨g,0,none⟩),
    fun v _=>v=.int .u32 (p:Int),
    fun v _=>v=.pointer (some ⟨g,0,none⟩),
    fun v _=>v=.pointer (some ⟨g,0,none⟩),
    fun v _=>v=.pointer (some ⟨g,1,none⟩),
    fun v _=>v=.pointer (some ⟨g,1,none⟩),
    fun v _=>v=.int .i64 b.x0,
    fun v w=>∃q1,v=ptr q1∧W1.heap.size≤q1∧Ln.Rr w B.b q1 nil p (nl p (b.x0))]
  (.quiet 11 (.quiet 12 (.act 13 .done))) (by kernel_rfl) (by kernel_rfl) (by kernel_rfl) (by kernel_rfl) (fun _ _ d _ _ h=>by cases d<;>exact h) (by rfl) (by rfl)
  ⟨Each.Lasts.eq _,Each.Lasts.eq _,Each.Lasts.eq _,Each.Lasts.eq _,Each.Lasts.eq _,Each.Lasts.eq _,Each.Lasts.eq _,Each.Lasts.eq _,Each.Lasts.eq _,Each.Lasts.eq _,((fun _ _ _ hb h=>by obtain ⟨q1,e1,h1,h2⟩:=h;exact ⟨q1,e1,h1,rr_below h2 hb⟩)),trivial⟩ ?_ ?_
 ·refine ⟨?_,?_,?_,?_,?_,?_,?_,?_,?_,?_,?_,trivial⟩
  ·refine Each.fine rfl (fun ev w1 hR hb hh=>?_);clear hh;have e0:=hR.old 0 rfl;simp only [Array.getD_eq_getD_getElem?,List.getElem?_toArray,List.getElem?_cons_zero,Option.getD_some] at e0;refine Each.Goes.same ?_;go_simp;try with_reducible rfl
  ·refine Each.fine rfl (fun ev w1 hR hb hh=>?_);clear hh;have e0:=hR.old 0 rfl;simp only [Array.getD_eq_getD_getElem?,List.getElem?_toArray,List.getElem?_cons_zero,Option.getD_some] at e0;refine Each.Goes.same ?_;go_simp;try with_reducible rfl
  ·refine Each.fine rfl (fun ev w1 hR hb hh=>?_);have e22:(ev (.tmp 22)=.pointer (some ⟨g,0,none⟩)):=hh.at 0;clear hh;refine Each.Goes.same ?_;go_simp;try with_reducible rfl
  ·refine Each.fine rfl (fun ev w1 hR hb hh=>?_);have e23:(ev (.tmp 23)=.pointer (some ⟨g,0,none⟩)):=hh.at 0;clear hh;refine Each.Goes.same ?_;go_simp;try with_reducible rfl
  ·refine Each.fine rfl (fun ev w1 hR hb hh=>?_);have e24:(ev (.tmp 24)=.pointer (some ⟨g,0,none⟩)):=hh.at 0;clear hh;have q0:=(HQ.out.below hb).c 0 _ rfl;refine Each.Goes.same ?_;go_simp;try with_reducible rfl
  ·refine Each.fine rfl (fun ev w1 hR hb hh=>?_);clear hh;have e0:=hR.old 0 rfl;simp only [Array.getD_eq_getD_getElem?,List.getElem?_toArray,List.getElem?_cons_zero,Option.getD_some] at e0;refine Each.Goes.same ?_;go_simp;try with_reducible rfl
  ·refine Each.fine rfl (fun ev w1 hR hb hh=>?_);have e26:(ev (.tmp 26)=.pointer (some ⟨g,0,none⟩)):=hh.at 0;clear hh;refine Each.Goes.same ?_;go_simp;try with_reducible rfl
  ·refine Each.fine rfl (fun ev w1 hR hb hh=>?_);have e27:(ev (.tmp 27)=.pointer (some ⟨g,0,none⟩)):=hh.at 0;clear hh;refine Each.Goes.same ?_;go_simp;try with_reducible rfl
  ·refine Each.fine rfl (fun ev w1 hR hb hh=>?_);have e28:(ev (.tmp 28)=.pointer (some ⟨g,1,none⟩)):=hh.at 0;clear hh;refine Each.Goes.same ?_;go_simp;try with_reducible rfl
  ·refine Each.fine rfl (fun ev w1 hR hb hh=>?_);have e29:(ev (.tmp 29)=.pointer (some ⟨g,1,none⟩)):=hh.at 0;clear hh;have q1:=(HQ.out.below hb).c 1 _ rfl;refine Each.Goes.same ?_;go_simp;try with_reducible rfl
  ·refine Each.fine rfl (fun ev w1 hR hb hh=>?_);have e25:(ev (.tmp 25)=.int .u32 (p:Int)):=hh.at 0;have e30:(ev (.tmp 30)=.int .i64 b.x0):=hh.at 1;clear hh;have ef:=hR.func
   refine Each.Goes.enter 55 #[.int .u32 (p:Int),.int .i64 (b.x0)] (by go_simp) ((rnew_line B.b (b.x0) w1 (Nat.le_trans HBW.out hb.size)).mono ?_);rintro r w2 ⟨q1,rfl,h1,h2,hb2⟩;exact ⟨_,rfl,hb2,q1,rfl,Nat.le_trans hb.size h1,h2⟩
 intro g1 w2 hb hf;have z21:(g1 21=.pointer (some ⟨g,0,none⟩)):=hf.at 0;have z31:((fun v w=>∃q1,v=ptr q1∧W1.heap.size≤q1∧Ln.Rr w B.b q1 nil p (nl p (b.x0))) (g1 31) w2):=hf.at 10;clear hf;obtain ⟨q1,e1,hq1,hr1⟩:=z31;simp only [Each.putg,Act.put,List.setIfInBounds_toArray,List.set_cons_zero,List.set_cons_succ];rw [e1,z21];simp only [Tree.grow,Tree.put1,List.getElem?_cons_zero,List.getElem?_cons_succ];refine Tree.quiet (by rfl) (ptr g) (fun _ _=>by go_simp) ?_;simp only [Act.put,List.setIfInBounds_toArray,List.set_cons_zero,List.set_cons_succ];refine Tree.quiet (by rfl) (.pointer (some ⟨g,12,none⟩)) (fun _ _=>by go_simp) ?_;simp only [Act.put,List.setIfInBounds_toArray,List.set_cons_zero,List.set_cons_succ];have hrow2:=(hb.block g (Ln.row_lt HR1.out)).trans HR1.out;have c12:=row_cellL hrow2 (k:=12) rfl;have z12:=Ln.row_frozen hrow2 12
 refine Tree.change (by rfl) (fun K hK=>?_);go_simp;refine hK _ _ trivial ?_;clear hK K;refine Tree.done ?_;have HR2:=Lib.hid hrow2;have HRR:=Lib.hid hr1;have HQ1:=Lib.hid hq1;have HB2:=Lib.hid hb;clear HQ HBW HRD hr1 hq1 hrow2 c12 z12 hb;go_wp2;go_end0;have hgq:g≠q1:=by have:=Ln.row_lt HR1.out;have:=HQ1.out;omega
 have hk:Keeps [some g] w2 (w2.setCell ⟨g,12,none⟩ (ptr q1)):=Keeps.set g 12 _ (by simp);refine ⟨rfl,q1,⟨row_setL HR2.out 12 (ptr q1),⟨⟨hk.row HRR.out.row (by simpa using fun e=>hgq e.symm),hk.own HRR.out.own (by simp [Value.ownBlock]),HRR.out.ge,HRR.out.ne⟩,World.ownsRow_nil _ _ _ _,World.ownsRow_nil _ _ _ _,World.ownsRow_nil _ _ _ _,⟨[],rfl,(by intro x hx;cases hx),World.ownsRow_nil _ _ _ _⟩,?_,HB.out,by have:=Ln.row_lt HR2.out;simpa using this,by rw [HZ.out];exact Clear.nil⟩⟩,(HK1.out.trans (Keeps.of_below HB2.out) Of.refl).trans hk Of.refl⟩;intro i j k hi hj;rcases i with _ | _ | _ | _ | _ | _ | _ | i<;>rcases j with _ | _ | _ | _ | _ | _ | _ | j<;>simp [Value.ownBlock] at hi hj ⊢<;>omega
theorem fine_new (p:Nat) (b:Bd):(Pg.Q.new p b).Fine b:=fine_of (Pg.Q.new_ok p b)
theorem dnew_any (hp:p<4294967296) (w:World):Calls Tryz.prog 20 #[.int .u32 (p:Int),.agg #[.int .i64 b.x0,.int .i64 b.x1,.int .i64 b.x2,.int .i64 b.x3,.int .i64 b.x4,.int .i64 b.x5,.int .i64 b.x6,.int .i64 b.x7,.bool b.ch,.bool b.od]] w fun r w'=>
 ∃g L',r=.returned (ptr g)∧w.heap.size≤g∧DQ w' ⟨w.heap.size,[]⟩ g p b L' (Pg.Q.new p b)∧Below w.heap.size w w':=by
 have hqr:=fun w=>Qk.rright_any p hp w;have hbr:=fun w=>Bnd.rright_any b.x0 b.x1 b.x2 b.x3 b.x4 b.x5 b.x6 b.x7 b.ch b.od w
 have HB0:=Lib.hid (((Below.refl _ _).alloc (Nat.le_refl _) (.cells #[.int .i64 b.x0,.int .i64 b.x1,.int .i64 b.x2,.int .i64 b.x3,.int .i64 b.x4,.int .i64 b.x5,.int .i64 b.x6,.int .i64 b.x7,.bool b.ch,.bool b.od] 24)):Below w.heap.size w _)
 have HZ0:=Lib.hid (Rec.Bk.new w w.heap.size rfl 24 [.int .i64 b.x0,.int .i64 b.x1,.int .i64 b.x2,.int .i64 b.x3,.int .i64 b.x4,.int .i64 b.x5,.int .i64 b.x6,.int .i64 b.x7,.bool b.ch,.bool b.od])
 have HSZ:=Lib.hid (show w.heap.size<(w.alloc (.cells #[.int .i64 b.x0,.int .i64 b.x1,.int .i64 b.x2,.int .i64 b.x3,.int .i64 b.x4,.int .i64 b.x5,.int .i64 b.x6,.int .i64 b.x7,.bool b.ch,.bool b.od] 24)).heap.size by simp)
 have HSIM:=Lib.hid (Pg.new_sim (p:=p) (b:=b));have HFI:=Lib.hid (fine_new p b);have hnew:Pg.Q.new p b=if (b.right&&decide (p<1073741824))=true then .live (Pg.T.new p b) else .dead 20 []:=rfl
 have hsn:S.new p b=if (b.right&&decide (p<1073741824))=true then ⟨0,nl p b.x0,zero,0,0,0,false,true,0,[]⟩ else ⟨0,nl p b.x0,zero,0,0,0,false,false,20,[]⟩:=rfl
 generalize Pg.Q.new p b=X at HSIM HFI hnew ⊢;generalize S.new p b=s0 at HSIM hsn;have good:b.right=true→p<1073741824→s0=⟨0,nl p b.x0,zero,0,0,0,false,true,0,[]⟩:=fun h1 h2=>by rw [hsn,if_pos (by rw [h1,decide_eq_true h2];rfl)]
 have bad:¬(b.right=true∧p<1073741824)→s0=⟨0,nl p b.x0,zero,0,0,0,false,false,20,[]⟩:=fun h=>by rw [hsn,if_neg (by simpa using h)]
 clear hnew hsn;by_cases hok:b.right=true∧p<1073741824
 ·have es:=good hok.1 hok.2;subst es;rw [decide_eq_true hok.2] at hqr;rw [show Bnd.right b.x0 b.x1 b.x2 b.x3 b.x4 b.x5 b.x6 b.x7=true from hok.1] at hbr;have HQR:=Lib.hid hqr;have HBR:=Lib.hid hbr;clear hqr hbr good bad hok;go_enter Tryz.func20,Tryz.ntmps20;go_upto_region 1 with fail
  generalize w.alloc (.cells #[.int .i64 b.x0,.int .i64 b.x1,.int .i64 b.x2,.int .i64 b.x3,.int .i64 b.x4,.int .i64 b.x5,.int .i64 b.x6,.int .i64 b.x7,.bool b.ch,.bool b.od] 24)=W0 at *;have y0:=HZ0.out.c 0 _ rfl;have y1:=HZ0.out.c 1 _ rfl;have y2:=HZ0.out.c 2 _ rfl;have y3:=HZ0.out.c 3 _ rfl;have y4:=HZ0.out.c 4 _ rfl;have y5:=HZ0.out.c 5 _ rfl;have y6:=HZ0.out.c 6 _ rfl;have y7:=HZ0.out.c 7 _ rfl;have y8:=HZ0.out.c 8 _ rfl;have y9:=HZ0.out.c 9 _ rfl
  have HG:=Lib.hid (Nat.le_of_lt HSZ.out)
  have HR4:=Lib.hid (heap_alloc_new W0 (.cells #[.int .u32 (p:Int),.int .i64 b.x0,.int .i64 b.x1,.int .i64 b.x2,.int .i64 b.x3,.int .i64 b.x4,.int .i64 b.x5,.int .i64 b.x6,.int .i64 b.x7,.bool b.ch,.bool b.od,.int .i64 0,.pointer none,.string E0,.string E0,.int .i64 0,nil,.bool false,nil,nil,.int .i64 0,.int .i64 0,.int .i64 0,.bool false,.bool true,.int .i64 0,nil] 59))
  have HB4:=Lib.hid (HB0.out.alloc HG.out (.cells #[.int .u32 (p:Int),.int .i64 b.x0,.int .i64 b.x1,.int .i64 b.x2,.int .i64 b.x3,.int .i64 b.x4,.int .i64 b.x5,.int .i64 b.x6,.int .i64 b.x7,.bool b.ch,.bool b.od,.int .i64 0,.pointer none,.string E0,.string E0,.int .i64 0,nil,.bool false,nil,nil,.int .i64 0,.int .i64 0,.int .i64 0,.bool false,.bool true,.int .i64 0,nil] 59))
  have HX4:=Lib.hid (HZ0.out.alloc (.cells #[.int .u32 (p:Int),.int .i64 b.x0,.int .i64 b.x1,.int .i64 b.x2,.int .i64 b.x3,.int .i64 b.x4,.int .i64 b.x5,.int .i64 b.x6,.int .i64 b.x7,.bool b.ch,.bool b.od,.int .i64 0,.pointer none,.string E0,.string E0,.int .i64 0,nil,.bool false,nil,nil,.int .i64 0,.int .i64 0,.int .i64 0,.bool false,.bool true,.int .i64 0,nil] 59))
  have HLT:=Lib.hid (show W0.heap.size<(W0.alloc (.cells #[.int .u32 (p:Int),.int .i64 b.x0,.int .i64 b.x1,.int .i64 b.x2,.int .i64 b.x3,.int .i64 b.x4,.int .i64 b.x5,.int .i64 b.x6,.int .i64 b.x7,.bool b.ch,.bool b.od,.int .i64 0,.pointer none,.string E0,.string E0,.int .i64 0,nil,.bool false,nil,nil,.int .i64 0,.int .i64 0,.int .i64 0,.bool false,.bool true,.int .i64 0,nil] 59)).heap.size by simp);go_upto_region 2 with fail
  generalize hgg:W0.heap.size=g at *;generalize W0.alloc (.cells #[.int .u32 (p:Int),.int .i64 b.x0,.int .i64 b.x1,.int .i64 b.x2,.int .i64 b.x3,.int .i64 b.x4,.int .i64 b.x5,.int .i64 b.x6,.int .i64 b.x7,.bool b.ch,.bool b.od,.int .i64 0,.pointer none,.string E0,.string E0,.int .i64 0,nil,.bool false,nil,nil,.int .i64 0,.int .i64 0,.int .i64 0,.bool false,.bool true,.int .i64 0,nil] 59)=W2 at *;clear y0 y1 y2 y3 y4 y5 y6 y7 y8 y9;have x0:=HX4.out.c 0 _ rfl;have x1:=HX4.out.c 1 _ rfl;have x2:=HX4.out.c 2 _ rfl;have x3:=HX4.out.c 3 _ rfl;have x4:=HX4.out.c 4 _ rfl;have x5:=HX4.out.c 5 _ rfl;have x6:=HX4.out.c 6 _ rfl;have x7:=HX4.out.c 7 _ rfl;have x8:=HX4.out.c 8 _ rfl;have x9:=HX4.out.c 9 _ rfl
  go_wp2_with (first
   |(go_at_call 36;with_reducible refine (next_new (B:=⟨w.heap.size,[]⟩) HR5.out HG.out rfl).mono ?_;rintro r w5 ⟨rfl,q1,hP,hK⟩)
   |(go_at_call 17;with_reducible refine (HQR.out _).mono ?_;rintro r w4 ⟨rfl,hw⟩;rw [hw];clear hw)
   |(go_at_call 16;with_reducible refine (HBR.out _).mono ?_;rintro r w3 ⟨rfl,hb3⟩
     have HB3:=Lib.hid hb3
     have HR5:=Lib.hid ((hb3.block g HLT.out).trans HR4.out);clear hb3))
  go_ret;have hbw:=Base.below_step HB4.out HB3.out;exact ⟨g,_,rfl,HG.out,⟨_,HSIM.out,HFI.out,.inl ⟨q1,nil,nil,nil,nil,rfl,⟨nil,hP.row⟩,hP.own⟩⟩,hbw.trans (hK.below hbw.size (fun k hk=>by rw [Option.some.inj (List.mem_singleton.1 hk)];exact HG.out))⟩
 ·have es:=bad hok;subst es;have hbr':b.right=false∨(b.right=true∧decide (p<1073741824)=false):=by
   cases h:b.right with
   | false=>exact .inl rfl
   | true=>exact .inr ⟨rfl,decide_eq_false fun e=>hok ⟨h,e⟩⟩
  clear good bad hok;have HQR:=Lib.hid hqr;have HBR:=Lib.hid hbr;clear hqr hbr;have key:∀(W0:World) (W:World),Below w.heap.size w W→w.heap.size≤W0.heap.size→W0.heap.size<W.heap.size→W.heap[W0.heap.size]?=some (.cells (ncells p b true 0).toArray 59 (0,0))→
   ∃g L',(Ending.returned (ptr W0.heap.size))=.returned (ptr g)∧w.heap.size≤g∧DQ ((W.setCell ⟨W0.heap.size,25,none⟩ (.int .i64 20)).setCell ⟨W0.heap.size,24,none⟩ (.bool false)) ⟨w.heap.size,[]⟩ g p b L' X∧Below w.heap.size w ((W.setCell ⟨W0.heap.size,25,none⟩ (.int .i64 20)).setCell ⟨W0.heap.size,24,none⟩ (.bool false)):=by
   intro W0 W hb hg hlt hr;have hk:Keeps [some W0.heap.size] W ((W.setCell ⟨W0.heap.size,25,none⟩ (.int .i64 20)).setCell ⟨W0.heap.size,24,none⟩ (.bool false)):=(Keeps.set _ 25 _ (by simp)).trans (Keeps.set _ 24 _ (by simp)) Of.refl;exact ⟨W0.heap.size,[some W0.heap.size],rfl,hg,⟨_,HSIM.out,HFI.out,.inr ⟨rfl,row_setL (row_setL hr 25 (.int .i64 20)) 24 (.bool false),rfl,rfl,rfl,hg,Clear.nil⟩⟩,hb.trans (hk.below hb.size (fun k hk=>by rw [Option.some.inj (List.mem_singleton.1 hk)];exact hg))⟩
  have KEY:=Lib.hid key;clear key HSIM HFI;rcases hbr' with h1 | ⟨h1,h2⟩
  ·rw [show Bnd.right b.x0 b.x1 b.x2 b.x3 b.x4 b.x5 b.x6 b.x7=false from h1] at HBR;clear HQR h1;go_enter Tryz.func20,Tryz.ntmps20;go_upto_region 1 with fail
   generalize w.alloc (.cells #[.int .i64 b.x0,.int .i64 b.x1,.int .i64 b.x2,.int .i64 b.x3,.int .i64 b.x4,.int .i64 b.x5,.int .i64 b.x6,.int .i64 b.x7,.bool b.ch,.bool b.od] 24)=W0 at *;have y0:=HZ0.out.c 0 _ rfl;have y1:=HZ0.out.c 1 _ rfl;have y2:=HZ0.out.c 2 _ rfl;have y3:=HZ0.out.c 3 _ rfl;have y4:=HZ0.out.c 4 _ rfl;have y5:=HZ0.out.c 5 _ rfl;have y6:=HZ0.out.c 6 _ rfl;have y7:=HZ0.out.c 7 _ rfl;have y8:=HZ0.out.c 8 _ rfl;have y9:=HZ0.out.c 9 _ rfl
   have HG:=Lib.hid (Nat.le_of_lt HSZ.out)
   have HR4:=Lib.hid (heap_alloc_new W0 (.cells #[.int .u32 (p:Int),.int .i64 b.x0,.int .i64 b.x1,.int .i64 b.x2,.int .i64 b.x3,.int .i64 b.x4,.int .i64 b.x5,.int .i64 b.x6,.int .i64 b.x7,.bool b.ch,.bool b.od,.int .i64 0,.pointer none,.string E0,.string E0,.int .i64 0,nil,.bool false,nil,nil,.int .i64 0,.int .i64 0,.int .i64 0,.bool false,.bool true,.int .i64 0,nil] 59))
   have HB4:=Lib.hid (HB0.out.alloc HG.out (.cells #[.int .u32 (p:Int),.int .i64 b.x0,.int .i64 b.x1,.int .i64 b.x2,.int .i64 b.x3,.int .i64 b.x4,.int .i64 b.x5,.int .i64 b.x6,.int .i64 b.x7,.bool b.ch,.bool b.od,.int .i64 0,.pointer none,.string E0,.string E0,.int .i64 0,nil,.bool false,nil,nil,.int .i64 0,.int .i64 0,.int .i64 0,.bool false,.bool true,.int .i64 0,nil] 59))
   have HX4:=Lib.hid (HZ0.out.alloc (.cells #[.int .u32 (p:Int),.int .i64 b.x0,.int .i64 b.x1,.int .i64 b.x2,.int .i64 b.x3,.int .i64 b.x4,.int .i64 b.x5,.int .i64 b.x6,.int .i64 b.x7,.bool b.ch,.bool b.od,.int .i64 0,.pointer none,.string E0,.string E0,.int .i64 0,nil,.bool false,nil,nil,.int .i64 0,.int .i64 0,.int .i64 0,.bool false,.bool true,.int .i64 0,nil] 59))
   have HLT:=Lib.hid (show W0.heap.size<(W0.alloc (.cells #[.int .u32 (p:Int),.int .i64 b.x0,.int .i64 b.x1,.int .i64 b.x2,.int .i64 b.x3,.int .i64 b.x4,.int .i64 b.x5,.int .i64 b.x6,.int .i64 b.x7,.bool b.ch,.bool b.od,.int .i64 0,.pointer none,.string E0,.string E0,.int .i64 0,nil,.bool false,nil,nil,.int .i64 0,.int .i64 0,.int .i64 0,.bool false,.bool true,.int .i64 0,nil] 59)).heap.size by simp);go_upto_region 2 with fail
   generalize W0.alloc (.cells #[.int .u32 (p:Int),.int .i64 b.x0,.int .i64 b.x1,.int .i64 b.x2,.int .i64 b.x3,.int .i64 b.x4,.int .i64 b.x5,.int .i64 b.x6,.int .i64 b.x7,.bool b.ch,.bool b.od,.int .i64 0,.pointer none,.string E0,.string E0,.int .i64 0,nil,.bool false,nil,nil,.int .i64 0,.int .i64 0,.int .i64 0,.bool false,.bool true,.int .i64 0,nil] 59)=W2 at *;clear y0 y1 y2 y3 y4 y5 y6 y7 y8 y9;have x0:=HX4.out.c 0 _ rfl;have x1:=HX4.out.c 1 _ rfl;have x2:=HX4.out.c 2 _ rfl;have x3:=HX4.out.c 3 _ rfl;have x4:=HX4.out.c 4 _ rfl;have x5:=HX4.out.c 5 _ rfl;have x6:=HX4.out.c 6 _ rfl;have x7:=HX4.out.c 7 _ rfl;have x8:=HX4.out.c 8 _ rfl;have x9:=HX4.out.c 9 _ rfl;go_upto_region 3 with
    (go_at_call 16;with_reducible refine (HBR.out _).mono ?_;rintro r w3 ⟨rfl,hb3⟩
     have HB3:=Lib.hid hb3;have hr5:=(hb3.block _ HLT.out).trans HR4.out;have d25:=row_cellL hr5 (k:=25) rfl;have e25:=Ln.row_frozen hr5 25;have d24:=row_cellL hr5 (k:=24) rfl;have e24:=Ln.row_frozen hr5 24;have HR5:=Lib.hid hr5;clear hb3 hr5)
   clear x0 x1 x2 x3 x4 x5 x6 x7 x8 x9;go_wp2_with fail;go_ret;exact KEY.out W0 _ (Base.below_step HB4.out HB3.out) HG.out (Nat.lt_of_lt_of_le HLT.out HB3.out.size) HR5.out
  ·rw [show Bnd.right b.x0 b.x1 b.x2 b.x3 b.x4 b.x5 b.x6 b.x7=true from h1] at HBR;rw [h2] at HQR;clear h1 h2;go_enter Tryz.func20,Tryz.ntmps20;go_upto_region 1 with fail
   generalize w.alloc (.cells #[.int .i64 b.x0,.int .i64 b.x1,.int .i64 b.x2,.int .i64 b.x3,.int .i64 b.x4,.int .i64 b.x5,.int .i64 b.x6,.int .i64 b.x7,.bool b.ch,.bool b.od] 24)=W0 at *;have y0:=HZ0.out.c 0 _ rfl;have y1:=HZ0.out.c 1 _ rfl;have y2:=HZ0.out.c 2 _ rfl;have y3:=HZ0.out.c 3 _ rfl;have y4:=HZ0.out.c 4 _ rfl;have y5:=HZ0.out.c 5 _ rfl;have y6:=HZ0.out.c 6 _ rfl;have y7:=HZ0.out.c 7 _ rfl;have y8:=HZ0.out.c 8 _ rfl;have y9:=HZ0.out.c 9 _ rfl
   have HG:=Lib.hid (Nat.le_of_lt HSZ.out)
   have HR4:=Lib.hid (heap_alloc_new W0 (.cells #[.int .u32 (p:Int),.int .i64 b.x0,.int .i64 b.x1,.int .i64 b.x2,.int .i64 b.x3,.int .i64 b.x4,.int .i64 b.x5,.int .i64 b.x6,.int .i64 b.x7,.bool b.ch,.bool b.od,.int .i64 0,.pointer none,.string E0,.string E0,.int .i64 0,nil,.bool false,nil,nil,.int .i64 0,.int .i64 0,.int .i64 0,.bool false,.bool true,.int .i64 0,nil] 59))
   have HB4:=Lib.hid (HB0.out.alloc HG.out (.cells #[.int .u32 (p:Int),.int .i64 b.x0,.int .i64 b.x1,.int .i64 b.x2,.int .i64 b.x3,.int .i64 b.x4,.int .i64 b.x5,.int .i64 b.x6,.int .i64 b.x7,.bool b.ch,.bool b.od,.int .i64 0,.pointer none,.string E0,.string E0,.int .i64 0,nil,.bool false,nil,nil,.int .i64 0,.int .i64 0,.int .i64 0,.bool false,.bool true,.int .i64 0,nil] 59))
   have HX4:=Lib.hid (HZ0.out.alloc (.cells #[.int .u32 (p:Int),.int .i64 b.x0,.int .i64 b.x1,.int .i64 b.x2,.int .i64 b.x3,.int .i64 b.x4,.int .i64 b.x5,.int .i64 b.x6,.int .i64 b.x7,.bool b.ch,.bool b.od,.int .i64 0,.pointer none,.string E0,.string E0,.int .i64 0,nil,.bool false,nil,nil,.int .i64 0,.int .i64 0,.int .i64 0,.bool false,.bool true,.int .i64 0,nil] 59))
   have HLT:=Lib.hid (show W0.heap.size<(W0.alloc (.cells #[.int .u32 (p:Int),.int .i64 b.x0,.int .i64 b.x1,.int .i64 b.x2,.int .i64 b.x3,.int .i64 b.x4,.int .i64 b.x5,.int .i64 b.x6,.int .i64 b.x7,.bool b.ch,.bool b.od,.int .i64 0,.pointer none,.string E0,.string E0,.int .i64 0,nil,.bool false,nil,nil,.int .i64 0,.int .i64 0,.int .i64 0,.bool false,.bool true,.int .i64 0,nil] 59)).heap.size by simp);go_upto_region 2 with fail
   generalize W0.alloc (.cells #[.int .u32 (p:Int),.int .i64 b.x0,.int .i64 b.x1,.int .i64 b.x2,.int .i64 b.x3,.int .i64 b.x4,.int .i64 b.x5,.int .i64 b.x6,.int .i64 b.x7,.bool b.ch,.bool b.od,.int .i64 0,.pointer none,.string E0,.string E0,.int .i64 0,nil,.bool false,nil,nil,.int .i64 0,.int .i64 0,.int .i64 0,.bool false,.bool true,.int .i64 0,nil] 59)=W2 at *;clear y0 y1 y2 y3 y4 y5 y6 y7 y8 y9;have x0:=HX4.out.c 0 _ rfl;have x1:=HX4.out.c 1 _ rfl;have x2:=HX4.out.c 2 _ rfl;have x3:=HX4.out.c 3 _ rfl;have x4:=HX4.out.c 4 _ rfl;have x5:=HX4.out.c 5 _ rfl;have x6:=HX4.out.c 6 _ rfl;have x7:=HX4.out.c 7 _ rfl;have x8:=HX4.out.c 8 _ rfl;have x9:=HX4.out.c 9 _ rfl
   go_upto_region 3 with (first
    |(go_at_call 17;with_reducible refine (HQR.out _).mono ?_;rintro r w4 ⟨rfl,hw⟩;rw [hw];clear hw)
    |(go_at_call 16;with_reducible refine (HBR.out _).mono ?_;rintro r w3 ⟨rfl,hb3⟩
      have HB3:=Lib.hid hb3;have hr5:=(hb3.block _ HLT.out).trans HR4.out;have d25:=row_cellL hr5 (k:=25) rfl;have e25:=Ln.row_frozen hr5 25;have d24:=row_cellL hr5 (k:=24) rfl;have e24:=Ln.row_frozen hr5 24;have HR5:=Lib.hid hr5;clear hb3 hr5))
   clear x0 x1 x2 x3 x4 x5 x6 x7 x8 x9;go_wp2_with fail;go_ret;exact KEY.out W0 _ (Base.below_step HB4.out HB3.out) HG.out (Nat.lt_of_lt_of_le HLT.out HB3.out.size) HR5.out
end code
end Go.Proofs.YtimoakmcelocfaaGreat.Par
namespace Go.Proofs.YtimoakmcelocfaaGreat.Pg
open Go.RowKit Base Txt Par
def T.pre (o:List Rec.R) (t:T):T:={t with out:=o++t.out}
def Q.pre (o:List Rec.R):Q→Q
 | .live t=>.live (t.pre o)
 | .dead e x=>.dead e (o++x)
section
variable {p:Nat} {b:Bd} {t:T} {o:List Rec.R} {s:List UInt8} {c:UInt8}
end
end Go.Proofs.YtimoakmcelocfaaGreat.Pg
namespace Go.Proofs.YtimoakmcelocfaaGreat.Flt
open Go.RowKit Base Txt Par Pg
section
variable {p:Nat} {b:Bd} {t:T} {s:List UInt8} {c:UInt8}
theorem line_bad_out (h:(t.line p b s).1≠0):(t.line p b s).2.out=t.out:=by
 revert h;unfold T.line;split
 ·unfold T.first;split
  ·intro _;rfl
  ·dsimp only;split
   ·intro h;exact absurd rfl h
   ·intro _;rfl
 ·split
  ·unfold T.fields;split
   ·unfold T.endHead;dsimp only;split
    ·intro _;rfl
    ·split
     ·intro _;rfl
     ·split
      ·intro h;exact absurd rfl h
      ·intro _;rfl
   ·intro _;rfl
  ·split
   ·unfold T.chunk;dsimp only;split
    ·intro _;rfl
    ·split
     ·intro _;rfl
     ·split
      ·intro _;rfl
      ·intro _;rfl
   ·split
    ·unfold T.trail;split
     ·intro h;exact absurd rfl h
     ·intro _;rfl
    ·intro _;rfl
theorem inLine_bad_out {e:Nat} {o:List Rec.R} {u:Bool} (h:t.inLine p b c=(.dead e o,u)):o=t.out:=by
 unfold T.inLine at h;dsimp only at h;split at h
 ·cases h
 ·split at h
  ·cases h;rfl
  ·split at h
   ·split at h
    ·cases h
    ·cases h;rfl
   ·have h1:=congrArg Prod.fst h;unfold ends at h1;dsimp only at h1;split at h1
    ·cases h1
    ·rename_i h0;have:=line_bad_out h0;cases h1;exact this
theorem look_bad_out {e:Nat} {o:List Rec.R} {u:Bool} (h:t.look p b c=(.dead e o,u)):o=t.out:=by
 unfold T.look at h;split at h
 ·cases h
 ·split at h
  ·split at h
   ·cases h;rfl
   ·have:=inLine_bad_out h
    rwa [counted_out] at this
  ·exact inLine_bad_out h
theorem strict_used (hs:t.Strict):(t.inLine 0 b c).2=true:=by
 have h2:t.rd.clear.next c≠2:=by
  unfold Ln.M.next;have e1:t.rd.clear.cr=false:=hs.cr;rw [e1];simp only [Bool.false_eq_true,if_false]
  repeat' split
  all_goals decide
 unfold T.inLine;obtain ⟨how,hh⟩:∃how,t.rd.clear.next c=how:=⟨_,rfl⟩;simp only [hh] at h2 ⊢;split
 ·rfl
 ·split
  ·rfl
  ·split
   ·rw [none0 29,Bool.and_false];rfl
   ·simp only [Bool.not_eq_true',beq_eq_false_iff_ne];exact h2
theorem strict_look (hs:t.Strict):(t.look 0 b c).2=true:=by
 unfold T.look;split
 ·rfl
 ·split
  ·split
   ·rfl
   ·exact strict_used ⟨by rw [counted_rd];exact hs.lf,by rw [counted_rd];exact hs.cr⟩
  ·exact strict_used hs
theorem strict_bad {e:Nat} {o:List Rec.R} (hs:t.Strict) (h:t.take 0 b c=.dead e o):o=t.out:=by
 unfold T.take at h;have hs0:({t with cnt:=false}:T).Strict:=⟨hs.lf,hs.cr⟩;have hu:=strict_look (b:=b) (c:=c) hs0;rcases hq:({t with cnt:=false}:T).look 0 b c with ⟨q,u⟩;rw [hq] at h hu;cases q with
 | dead e1 o1=>
   have:=look_bad_out hq
   cases u<;> (cases h;exact this)
 | live t1=>
   have hu:u=true:=hu;subst hu;cases h
end
end Go.Proofs.YtimoakmcelocfaaGreat.Flt
namespace Go.Proofs.YtimoakmcelocfaaGreat.Par
open Go.RowKit Base Txt Mem Each
section code
set_option maxHeartbeats 4000000
set_option maxRecDepth 20000
attribute [local go_sem] Base.some_undef
variable {w:World} {B:Zone} {g q:Nat} {v f bd t o:Value} {p:Nat} {b:Bd} {s:S} {x:Pg.Q} {L:List (Option Nat)}
theorem dfeed_any (hp:p<4294967296) (h:DQ w B g p b L x) (xo:x.out= []) (a:Option Addr) (ca:Nat) (ls:List (List UInt8)) (hl:Pg.Parts L w a ls) (hn:ls.length≤1000000) (hout:2*ls.flatten.length≤999999998) :
 Calls Tryz.prog 21 #[ptr g,.slice a ls.length ca] w fun r w'=>∃o L',r=.returned o∧DQ w' B g p b L' (x.feed p b ls.flatten).told∧Pg.Told L' B w' o (x.feed p b ls.flatten).out∧Step L L' w w':=by
 obtain ⟨s,hr,ok,hd⟩:=h;have ho:s.out= []:=(Pg.said_sim hr ok).2.1.trans xo;obtain ⟨z26,⟨o0,c26⟩,hrun,hst⟩:=hd.start ho;have HR:=Lib.hid hr;have HOK:=Lib.hid ok;have HU:=Lib.hid hrun;have HS0:=Lib.hid hst;have HL:=Lib.hid (hl.step hst);have HOU:=Lib.hid hout;have HXO:=Lib.hid xo;obtain ⟨n,hnn⟩:∃n,ls.length=n:=⟨_,rfl⟩;have HN:=Lib.hid hnn;have hn1:n≤1000000:=by omega
 rw [hnn];clear hd hr ok hrun hst hl hout xo ho hn hnn;go_enter Tryz.func21,Tryz.ntmps21;go_upto_region 3 with fail
 generalize w.setCell ⟨g,26,none⟩ nil=W1 at *;clear z26 c26
 go_loopw [5] (fun i wr=>∃k:Nat,k≤n∧i=.int .i64 k∧Hid (∃Lr,Run wr B g p b Lr (s.feed p b (ls.take k).flatten)∧Step L Lr W1 wr)) (fun i _=>n-(intOf i).toNat)
 case atStart=>exact ⟨0,Nat.zero_le _,rfl,Lib.hid ⟨L,HU.out,Step.refl⟩⟩
 case round=>
  obtain ⟨k,hk,rfl,hR⟩:=hrel;rcases Nat.lt_or_ge k n with hlt | hge
  ·obtain ⟨Lr,hA,hS⟩:=hR.out;have hkl:k<ls.length:=by rw [HN.out];exact hlt
   obtain ⟨bk,off,rfl, -, -, -⟩:=HL.out.cells (by omega);have htk:(ls.take (k+1)).flatten=(ls.take k).flatten++ls[k]:=by rw [List.take_succ_eq_append_getElem hkl,List.flatten_append];simp
   have hsum:(ls.take (k+1)).flatten.length≤ls.flatten.length:=by have:=congrArg List.length (congrArg List.flatten (List.take_append_drop (k+1) ls));rw [List.flatten_append,List.length_append] at this;omega
   rw [htk,List.length_append] at hsum;have t1:(k:Int)<(n:Int):=by omega
   have HTK:=Lib.hid htk;obtain ⟨pl,hpl⟩:∃pl,ls[k]=pl:=⟨_,rfl⟩;rw [hpl] at hsum HTK;obtain ⟨m,hm⟩:∃m,pl.length=m:=⟨_,rfl⟩;rw [hm] at hsum;have HM:=Lib.hid hm;obtain ⟨q0,hq0⟩:∃q0,(ls.take k).flatten=q0:=⟨_,rfl⟩;rw [hq0] at hA hsum HTK;have hsum2:2*(q0.length+m)≤999999998:=by have:=HOU.out;omega
   have HSUM:=Lib.hid hsum2;have hm9:m≤1000000000:=by omega
   have HCE:=Lib.hid (show∀(wq:World) (Lq:List (Option Nat)),Step L Lq W1 wq→∃ak ck,wq.cell? ⟨bk,off+k,none⟩=some (.slice ak m ck)∧Pg.Bts Lq wq ak pl from fun wq Lq hS=>by obtain ⟨bk',off',e, -, -,hc⟩:=(HL.out.step hS).cells (by omega);cases e;obtain ⟨ak,ck,h1,h2⟩:=hc k hkl;rw [hpl,hm] at h1;rw [hpl] at h2;exact ⟨ak,ck,h1,h2⟩)
   have HA:=Lib.hid hA;have HS:=Lib.hid hS;clear hA hS hsum hsum2 htk hpl hm hR hq0 hkl;go_upto_region 6 with fail
   go_loopw [6] (fun j wq=>∃i:Nat,i≤m∧j=.int .i64 i∧Hid (∃Lq,Run wq B g p b Lq (s.feed p b (q0++pl.take i))∧Step L Lq W1 wq)) (fun j _=>m-(intOf j).toNat)
   case atStart=>exact ⟨0,Nat.zero_le _,rfl,Lib.hid ⟨Lr,by rw [List.take_zero,List.append_nil];exact HA.out,HS.out⟩⟩
   case round=>
    obtain ⟨i,hi,rfl,hR2⟩:=hrel;rcases Nat.lt_or_ge i m with hilt | hige
    ·obtain ⟨Lq,hA2,hS2⟩:=hR2.out;have hil:i<pl.length:=by rw [HM.out];exact hilt
     obtain ⟨ak,ck,hcell,hbt⟩:=HCE.out _ _ hS2
     obtain ⟨zb,zo,rfl,hzb,hz⟩:=hbt.nums.2 (by omega);have hbyte:=hz i hil;have hti:pl.take (i+1)=pl.take i ++ [pl[i]]:=List.take_succ_eq_append_getElem hil;have hgi:(pl.map fun c=>(c.toNat:Int))[i]?.getD 0=(pl[i].toNat:Int):=by simp [hil]
     rw [hgi] at hbyte;have HTI:=Lib.hid hti;obtain ⟨c,hc⟩:∃c,pl[i]=c:=⟨_,rfl⟩;rw [hc] at hbyte HTI;have t2:(i:Int)<(m:Int):=by omega
     obtain ⟨hr3,ok3⟩:=Pg.feed_sim (q0++pl.take i) HR.out HOK.out;have hou3:(s.feed p b (q0++pl.take i)).out.length≤999999998:=by rw [(Pg.said_sim hr3 ok3).2.1];have h1:=Pg.Q.feed_out (p:=p) (b:=b) (q0++pl.take i) x;have h2:=HSUM.out;rw [HXO.out,List.length_append,List.length_take] at h1;simp only [List.length_nil] at h1;omega
     have HTA:=Lib.hid (byteRun_any hp c hA2 hr3 ok3 hou3);have HS2:=Lib.hid hS2;clear hA2 hS2 hz hzb hti hgi hc hr3 ok3 hou3 hR2 hbt
     go_wp2_with (go_at_call 37;with_reducible refine HTA.out.mono ?_;rintro r w5 ⟨rfl,L5,hA5,hS5⟩);go_roundw
     case rel=>exact ⟨i+1,by omega,by go_num,Lib.hid ⟨L5,by rw [HTI.out,←List.append_assoc,S.feed_app];exact hA5,HS2.out.trans hS5⟩⟩
     case measure=>simp [intOf];omega
    ·obtain rfl:i=m:=by omega
     have t2:¬(i:Int)<(i:Int):=by omega
     obtain ⟨Lq,hA2,hS2⟩:=hR2.out;obtain ⟨ak,ck,hcell,hbt⟩:=HCE.out _ _ hS2
     have e:pl.take i=pl:=List.take_of_length_le (by rw [HM.out];exact Nat.le_refl _);rw [e,←HTK.out] at hA2;have HA2:=Lib.hid hA2;have HS2:=Lib.hid hS2;clear hA2 hS2 e hR2 hbt;go_wp2_with fail;go_roundw
     case rel=>exact ⟨k+1,by omega,by go_num,Lib.hid ⟨Lq,HA2.out,HS2.out⟩⟩
     case measure=>simp [intOf];omega
  ·obtain rfl:k=n:=by omega
   have t1:¬(k:Int)<(k:Int):=by omega
   obtain ⟨Lr,hA,hS⟩:=hR.out
   have e:ls.take k=ls:=List.take_of_length_le (by rw [HN.out];exact Nat.le_refl _);rw [e] at hA;obtain ⟨o,L2,c26,hA2,hT2,hS2⟩:=hA.tell;obtain ⟨hr3,ok3⟩:=Pg.feed_sim ls.flatten HR.out HOK.out;have e2:=(Pg.said_sim hr3 ok3).2.1;rw [e2] at hT2
   have HA2:=Lib.hid (show DQ wr B g p b L2 (x.feed p b ls.flatten).told from ⟨_,Pg.told_sim hr3,Pg.told_fine ok3,hA2.told⟩);have HT2:=Lib.hid hT2;have HS2:=Lib.hid ((HS0.out.trans hS).trans hS2);clear hA hS hR e hA2 hT2 hS2 hr3 ok3 e2;go_wp2_with fail;go_ret;exact ⟨o,rfl,L2,HA2.out,HT2.out,HS2.out⟩
theorem qnew_out:(Pg.Q.new p b).out= []:=by unfold Pg.Q.new;split<;>rfl
end code
end Go.Proofs.YtimoakmcelocfaaGreat.Par
namespace Go.Proofs.YtimoakmcelocfaaGreat.DF
open Go.RowKit Base Txt Mem Par Pg Each Flt
def vd (code:Nat):Int:=if code=0 then 1 else 2
abbrev dcells (g1 g2 code:Nat) (pt:Bool):List Value:= [ptr g1,ptr g2,.int .i64 (vd code),.int .i64 (code:Int),.bool pt]
structure DF (w:World) (B g g1 g2 p:Nat) (b:Bd) (L1 L2:List (Option Nat)) (f:F):Prop where
 row:w.heap[g]?=some (.cells (dcells g1 g2 f.code f.parted).toArray 85 (0,0))
 x:∃Z,DQ w ⟨B,Z⟩ g1 0 b L1 f.x
 y:∃Z,DQ w ⟨B,Z⟩ g2 p b L2 f.y
 dis:Dis L1 L2
 n1:some g∉L1
 n2:some g∉L2
 ge:B≤g
 xo:f.x.out= []
 yo:f.y.out= []
abbrev blksD (g:Nat) (L1 L2:List (Option Nat)):List (Option Nat):=some g::(L1++L2)
section
variable {w w' w0 w1:World} {B g g1 g2 p:Nat} {b:Bd} {L1 L2 M M1 M2 N1 N2 Z:List (Option Nat)} {f f':F} {V U:Value} {out out2:List Rec.R}
theorem DF.keeps (h:DF w B g g1 g2 p b L1 L2 f) (hk:Keeps M w w') (hd:Dis (blksD g L1 L2) M):DF w' B g g1 g2 p b L1 L2 f:=
 ⟨hk.row h.row (hd g (by simp)),h.x.imp fun _ h1=>h1.keeps hk fun k hk=>hd k (by simp [hk]),h.y.imp fun _ h1=>h1.keeps hk fun k hk=>hd k (by simp [hk]),h.dis,h.n1,h.n2,h.ge,h.xo,h.yo⟩
theorem DF.in (h:DF w B g g1 g2 p b L1 L2 f):In w (blksD g L1 L2):=by
 intro k hk;obtain ⟨_,hx⟩:=h.x;obtain ⟨_,hy⟩:=h.y;simp only [List.mem_cons,List.mem_append,Option.some.injEq] at hk;rcases hk with rfl | hk | hk
 ·exact Ln.row_lt h.row
 ·exact hx.in k hk
 ·exact hy.in k hk
theorem DF.c (h:DF w B g g1 g2 p b L1 L2 f):w.cell? ⟨g,0,none⟩=some (ptr g1)∧w.cell? ⟨g,1,none⟩=some (ptr g2)∧w.cell? ⟨g,2,none⟩=some (.int .i64 (vd f.code))∧w.cell? ⟨g,3,none⟩=some (.int .i64 (f.code:Int))∧w.cell? ⟨g,4,none⟩=some (.bool f.parted):=
 ⟨row_cellL h.row rfl,row_cellL h.row rfl,row_cellL h.row rfl,row_cellL h.row rfl,row_cellL h.row rfl⟩
structure DS (w0:World) (B g g1 g2 p:Nat) (b:Bd) (Z L1 L2:List (Option Nat)) (f:F) (V:Value) (out:List Rec.R) (N1 N2:List (Option Nat)) (w:World):Prop where
 fat:DF w B g g1 g2 p b N1 N2 f
 outs:Outs (V.ownBlock::blksD g N1 N2) ⟨w0.heap.size,Z⟩ w V out
 far:∀k,V.ownBlock=some k→some k∉blksD g N1 N2
 zone:Clear w Z (V.ownBlock::blksD g N1 N2)
 keeps:Keeps (blksD g L1 L2) w0 w
 of:Of w0 (blksD g L1 L2) (blksD g N1 N2)
theorem DS.start (h:DF w B g g1 g2 p b L1 L2 f) (hz:Clear w Z (blksD g L1 L2)):DS w B g g1 g2 p b Z L1 L2 f (.slice none 0 0) [] L1 L2 w:=
 ⟨h,⟨[],rfl,(by intro x hx;cases hx),World.ownsRow_nil _ _ _ _⟩,(fun k e=>by cases e),clear_sub hz (fun k hk=>by
   rcases List.mem_cons.1 hk with e | e
   ·cases e
   ·exact e),Keeps.refl,Of.refl⟩
theorem DS.off (h:DS w0 B g g1 g2 p b Z L1 L2 f V out N1 N2 w):Clear w (V.ownBlock::Z) (blksD g N1 N2):=by
 obtain ⟨ps,h1,h2,h3⟩:=h.outs;refine ⟨fun k hk=>?_,fun k hk hz=>?_⟩
 ·rcases List.mem_cons.1 hk with e | e
  ·exact (World.ownsRow.lt h3 k e.symm).2
  ·exact h.zone.inz k e
 ·rcases List.mem_cons.1 hz with e | e
  ·exact h.far k e.symm hk
  ·exact h.zone.off k (List.mem_cons_of_mem _ hk) e
theorem DS.next (h:DS w0 B g g1 g2 p b Z L1 L2 f V out N1 N2 w) (hf:DF w1 B g g1 g2 p b M1 M2 f') (ht:Pg.Told (blksD g M1 M2) ⟨B,V.ownBlock::Z⟩ w1 U out2) (hs:Step (blksD g N1 N2) (blksD g M1 M2) w w1) (hn:out.length+out2.length≤1000000000) :
 ∃V' w2,(Builtin.append_ #[51,51] 51 #[V,U]).run Tryz.prog w1=.ok V' w2∧DS w0 B g g1 g2 p b Z L1 L2 f' V' (out++out2) M1 M2 w2:=by
 have o1:=outs_step h.outs hs h.far;obtain ⟨qs,q1,q2,q3⟩:=ht.outs
 have o2:Outs (V.ownBlock::blksD g M1 M2) ⟨B,Z⟩ w1 U out2:=⟨qs,q1,fun x hx=>⟨(q2 x hx).1,(q2 x hx).2.reads,fun k hb=>⟨fun hm=>by
  rcases List.mem_cons.1 hm with e | e
  ·exact (q2 x hx).2.off k hb (by rw [e];exact List.mem_cons_self ..)
  ·exact ((q2 x hx).2.far k hb).1 e,((q2 x hx).2.far k hb).2⟩,fun k hb hz=>(q2 x hx).2.off k hb (List.mem_cons_of_mem _ hz)⟩,q3⟩
 have hsz:=Nat.le_trans h.keeps.size hs.keeps.size;obtain ⟨V',w2,hrun,o3,hk,hor⟩:=outs_append o1 o2 hn hsz;have hVb:∀k,V.ownBlock=some k→w0.heap.size≤k∧k<w.heap.size:=fun k e=>by obtain ⟨ps, -, -,h3⟩:=h.outs;exact World.ownsRow.lt h3 k e
 have hVM:∀k,V.ownBlock=some k→some k∉blksD g M1 M2:=fun k e hm=>by
  rcases hs.of k hm with e1 | e1
  ·exact h.far k e e1
  ·have:=(hVb k e).2;omega
 have hV'M:∀k,V'.ownBlock=some k→some k∉blksD g M1 M2:=fun k e hm=>by
  rcases hor with e1 | e1
  ·exact hVM k (e1 ▸ e) hm
  ·rw [e1] at e;cases e;have:=hf.in _ hm;omega
 have hdis:Dis (blksD g M1 M2) [V.ownBlock]:=fun k hk hm=>by
  have e:some k=V.ownBlock:=by simpa using hm
  exact hVM k e.symm hk
 refine ⟨V',w2,hrun,hf.keeps hk hdis,o3,hV'M,⟨fun k hz=>Nat.lt_of_lt_of_le (h.zone.inz k hz) (Nat.le_trans hs.keeps.size hk.size),fun k hk' hz=>?_⟩,(h.keeps.trans hs.keeps h.of).trans hk (fun k hk=>.inr ?_),h.of.trans hs.of h.keeps.size⟩
 ·rcases List.mem_cons.1 hk' with e | e
  ·rcases hor with e1 | e1
   ·exact h.zone.off k (by rw [e,e1];exact List.mem_cons_self ..) hz
   ·rw [e1] at e;have:=h.zone.inz k hz;have:=hs.keeps.size;cases e;omega
  ·rcases hs.of k e with e1 | e1
   ·exact h.zone.off k (List.mem_cons_of_mem _ e1) hz
   ·have:=h.zone.inz k hz;omega
 ·have e:some k=V.ownBlock:=by simpa using hk
  exact (hVb k e.symm).1
end
structure Pair (w0 w:World) (g1 g2 p:Nat) (b:Bd) (L1 L2:List (Option Nat)):Prop where
 x:∃Z,DQ w ⟨w0.heap.size,Z⟩ g1 0 b L1 (Q.new 0 b)
 y:∃Z,DQ w ⟨w0.heap.size,Z⟩ g2 p b L2 (Q.new p b)
 dis:Dis L1 L2
 bel:Below w0.heap.size w0 w
theorem own_lower' {w:World} {B B':Nat} {e:TypeId} {size n:Nat} {v:Value} {xs:List Value} (h:w.ownsRow B e size v n xs) (hB:B'≤B):w.ownsRow B' e size v n xs:=by
 refine ⟨h.1,?_⟩;rcases h.2 with h0 | ⟨b,cap,cur,rfl,hb,rest⟩
 ·exact .inl h0
 ·exact .inr ⟨b,cap,cur,rfl,Nat.le_trans hB hb,rest⟩
theorem dq_lower {w:World} {B B' g p:Nat} {b:Bd} {L Z:List (Option Nat)} {x:Q} (h:DQ w ⟨B,Z⟩ g p b L x) (hB:B'≤B):DQ w ⟨B',Z⟩ g p b L x:=by
 obtain ⟨s,h1,h2,h3⟩:=h;refine ⟨s,h1,h2,?_⟩;rcases h3 with ⟨q,v,f,bd,t,rfl,⟨o,hrow⟩,hown⟩ | ⟨rfl,h3⟩
 ·exact .inl ⟨q,v,f,bd,t,rfl,⟨o,hrow⟩,⟨⟨hown.R.row,own_lower' hown.R.own hB,Nat.le_trans hB hown.R.ge,hown.R.ne⟩,own_lower' hown.F hB,own_lower' hown.D hB,own_lower' hown.T hB,⟨[],rfl,(by intro x hx;cases hx),World.ownsRow_nil _ _ _ _⟩,hown.lone,Nat.le_trans hB hown.ge,hown.lt,hown.zone⟩⟩
 ·exact .inr ⟨rfl,h3.row,h3.e,h3.clean,h3.out,Nat.le_trans hB h3.ge,h3.zone⟩
theorem Pair.first {w0 w1 w2:World} {g1 g2 p:Nat} {b:Bd} {L1 L2:List (Option Nat)} {B:Nat} (hB:w0.heap.size≤B) (h1:DQ w1 ⟨B,[]⟩ g1 0 b L1 (Q.new 0 b)) (h2:DQ w2 ⟨w1.heap.size,[]⟩ g2 p b L2 (Q.new p b)) (hb1:Below w0.heap.size w0 w1) (hb2:Below w1.heap.size w1 w2):Pair w0 w2 g1 g2 p b L1 L2:=
 ⟨⟨_,(dq_lower h1 hB).below hb2⟩,⟨_,dq_lower h2 hb1.size⟩,fun k hk hk'=>by
   have:=h1.in k hk;have:w1.heap.size≤k:=h2.low k hk'
   omega,Base.below_step hb1 hb2⟩
theorem Pair.filter {w0 w w':World} {g1 g2 p:Nat} {b:Bd} {L1 L2:List (Option Nat)} (h:Pair w0 w g1 g2 p b L1 L2) (hk:Below w.heap.size w w') (hrow:w'.heap[w.heap.size]?=some (.cells (dcells g1 g2 (Q.new p b).err false).toArray 85 (0,0))) (B:Nat) (hB:B≤w0.heap.size):DF w' B w.heap.size g1 g2 p b L1 L2 (F.new p b):=by obtain ⟨Z1,h1⟩:=h.x;obtain ⟨Z2,h2⟩:=h.y;exact ⟨hrow,⟨Z1,(dq_lower h1 hB).below hk⟩,⟨Z2,(dq_lower h2 hB).below hk⟩,h.dis,fun hm=>Nat.lt_irrefl _ (h1.in _ hm),fun hm=>Nat.lt_irrefl _ (h2.in _ hm),Nat.le_trans hB h.bel.size,qnew_out,qnew_out⟩
section code
set_option maxHeartbeats 8000000
set_option maxRecDepth 20000
attribute [local go_sem] Base.some_undef
variable {p:Nat} {b:Bd}
theorem new_any (hp:p<4294967296) (w:World):Calls Tryz.prog 48 #[.int .u32 (p:Int),.agg #[.int .i64 b.x0,.int .i64 b.x1,.int .i64 b.x2,.int .i64 b.x3,.int .i64 b.x4,.int .i64 b.x5,.int .i64 b.x6,.int .i64 b.x7,.bool b.ch,.bool b.od]] w fun r w'=>
 ∃g g1 g2 L1 L2,r=.returned (ptr g)∧DF w' w.heap.size g g1 g2 p b L1 L2 (F.new p b)∧Below w.heap.size w w':=by
 have hqr:=fun w=>Qk.rright_any p hp w;have hbr:=fun w=>show Calls Tryz.prog 16 #[.agg #[.int .i64 b.x0,.int .i64 b.x1,.int .i64 b.x2,.int .i64 b.x3,.int .i64 b.x4,.int .i64 b.x5,.int .i64 b.x6,.int .i64 b.x7,.bool b.ch,.bool b.od]] w fun e w'=>e=.returned (.bool b.right)∧Below w.heap.size w w' from Bnd.rright_any b.x0 b.x1 b.x2 b.x3 b.x4 b.x5 b.x6 b.x7 b.ch b.od w
 have HE:Hid ((Q.new p b).err=if (b.right&&decide (p<1073741824))=true then 0 else 20):=Lib.hid (by unfold Q.new;split<;>rfl);obtain ⟨a1,ha1⟩:∃a,decide (p<1073741824)=a:=⟨_,rfl⟩;obtain ⟨a2,ha2⟩:∃a,b.right=a:=⟨_,rfl⟩;rw [ha1] at hqr HE;rw [ha2] at hbr HE;have HQ:=Lib.hid hqr;have HBR:=Lib.hid hbr;clear ha1 ha2 hqr hbr
 have HB0:=Lib.hid (((Below.refl _ _).alloc (Nat.le_refl _) (.cells #[.int .i64 b.x0,.int .i64 b.x1,.int .i64 b.x2,.int .i64 b.x3,.int .i64 b.x4,.int .i64 b.x5,.int .i64 b.x6,.int .i64 b.x7,.bool b.ch,.bool b.od] 24)):Below w.heap.size w _)
 have HZ0:=Lib.hid (Rec.Bk.new w w.heap.size rfl 24 [.int .i64 b.x0,.int .i64 b.x1,.int .i64 b.x2,.int .i64 b.x3,.int .i64 b.x4,.int .i64 b.x5,.int .i64 b.x6,.int .i64 b.x7,.bool b.ch,.bool b.od])
 have HSZ:=Lib.hid (show w.heap.size<(w.alloc (.cells #[.int .i64 b.x0,.int .i64 b.x1,.int .i64 b.x2,.int .i64 b.x3,.int .i64 b.x4,.int .i64 b.x5,.int .i64 b.x6,.int .i64 b.x7,.bool b.ch,.bool b.od] 24)).heap.size by simp)
 have HN0:=Lib.hid (show∀w:World,Calls Tryz.prog 20 #[.int .u32 0,.agg #[.int .i64 b.x0,.int .i64 b.x1,.int .i64 b.x2,.int .i64 b.x3,.int .i64 b.x4,.int .i64 b.x5,.int .i64 b.x6,.int .i64 b.x7,.bool b.ch,.bool b.od]] w fun r w'=>∃g L',r=.returned (ptr g)∧w.heap.size≤g∧DQ w' ⟨w.heap.size,[]⟩ g 0 b L' (Q.new 0 b)∧Below w.heap.size w w' from fun w=>dnew_any (p:=0) (b:=b) (by decide) w)
 have HN1:=Lib.hid (fun w=>dnew_any (p:=p) (b:=b) hp w);go_enter Tryz.func48,Tryz.ntmps48;go_upto_region 1 with fail
 generalize w.alloc (.cells #[.int .i64 b.x0,.int .i64 b.x1,.int .i64 b.x2,.int .i64 b.x3,.int .i64 b.x4,.int .i64 b.x5,.int .i64 b.x6,.int .i64 b.x7,.bool b.ch,.bool b.od] 24)=W0 at *;generalize hgB:w.heap.size=gB at *;have HGB:=Lib.hid hgB;clear hgB;have y0:=HZ0.out.c 0 _ rfl;have y1:=HZ0.out.c 1 _ rfl;have y2:=HZ0.out.c 2 _ rfl;have y3:=HZ0.out.c 3 _ rfl;have y4:=HZ0.out.c 4 _ rfl;have y5:=HZ0.out.c 5 _ rfl;have y6:=HZ0.out.c 6 _ rfl;have y7:=HZ0.out.c 7 _ rfl;have y8:=HZ0.out.c 8 _ rfl;have y9:=HZ0.out.c 9 _ rfl
 go_region_with (first
  |(go_at_call 20;with_reducible refine (HN0.out _).mono ?_;rintro r wx ⟨gx,Lx,rfl,hgx,hax,hbx⟩
    have HAX:=Lib.hid hax;have HBX:=Lib.hid hbx;first
     | have HZX:=Lib.hid (HZY.out.below hbx)
     | have HZX:=Lib.hid ((HZ0.out.below (Base.below_drewN (Below.refl W0.heap.size W0) 1)).below hbx)
    have x0:=HZX.out.c 0 _ rfl;have x1:=HZX.out.c 1 _ rfl;have x2:=HZX.out.c 2 _ rfl;have x3:=HZX.out.c 3 _ rfl;have x4:=HZX.out.c 4 _ rfl;have x5:=HZX.out.c 5 _ rfl;have x6:=HZX.out.c 6 _ rfl;have x7:=HZX.out.c 7 _ rfl;have x8:=HZX.out.c 8 _ rfl;have x9:=HZX.out.c 9 _ rfl;clear hax hbx hgx)
  |(go_at_call 20;with_reducible refine (HN1.out _).mono ?_;rintro r wy ⟨gy,Ly,rfl,hgy,hay,hby⟩
    have HAY:=Lib.hid hay;have HBY:=Lib.hid hby;first
     | have HZY:=Lib.hid (HZX.out.below hby)
     | have HZY:=Lib.hid ((HZ0.out.below (Base.below_drewN (Below.refl W0.heap.size W0) 1)).below hby)
    have v0:=HZY.out.c 0 _ rfl;have v1:=HZY.out.c 1 _ rfl;have v2:=HZY.out.c 2 _ rfl;have v3:=HZY.out.c 3 _ rfl;have v4:=HZY.out.c 4 _ rfl;have v5:=HZY.out.c 5 _ rfl;have v6:=HZY.out.c 6 _ rfl;have v7:=HZY.out.c 7 _ rfl;have v8:=HZY.out.c 8 _ rfl;have v9:=HZY.out.c 9 _ rfl;clear hay hby hgy))
 all_goals
  have HPR:=Lib.hid (Pair.first (w0:=W0) (Nat.le_refl W0.heap.size) HAX.out HAY.out ((Base.below_drewN (Below.refl W0.heap.size W0) 1).trans HBX.out) HBY.out);clear y0 y1 y2 y3 y4 y5 y6 y7 y8 y9 x0 x1 x2 x3 x4 x5 x6 x7 x8 x9 v0 v1 v2 v3 v4 v5 v6 v7 v8 v9
  have HR:=Lib.hid (heap_alloc_new wy (.cells #[ptr gx,ptr gy,.int .i64 1,.int .i64 0,.bool false] 85))
  have HF:=Lib.hid (Rec.Bk.new wy wy.heap.size rfl 85 [ptr gx,ptr gy,.int .i64 1,.int .i64 0,.bool false])
  have HAL:Hid (Below wy.heap.size wy (wy.alloc (.cells #[ptr gx,ptr gy,.int .i64 1,.int .i64 0,.bool false] 85))):=Lib.hid ((Below.refl _ _).alloc (Nat.le_refl _) _)
  have HZB:=Lib.hid (HZY.out.below HAL.out);generalize wy.alloc (.cells #[ptr gx,ptr gy,.int .i64 1,.int .i64 0,.bool false] 85)=W2 at *;have z0:=HZB.out.c 0 _ rfl;have z1:=HZB.out.c 1 _ rfl;have z2:=HZB.out.c 2 _ rfl;have z3:=HZB.out.c 3 _ rfl;have z4:=HZB.out.c 4 _ rfl;have z5:=HZB.out.c 5 _ rfl;have z6:=HZB.out.c 6 _ rfl;have z7:=HZB.out.c 7 _ rfl;have z8:=HZB.out.c 8 _ rfl;have z9:=HZB.out.c 9 _ rfl
  have HBW:=Lib.hid (show Below gB w wy from HB0.out.trans (HPR.out.bel.mono (Nat.le_of_lt HSZ.out)))
  have HGW:=Lib.hid (show gB≤wy.heap.size from by have:=HBW.out.size;have:=HGB.out;omega)
  have HFIN:Hid (∀(W9:World) (e:Nat),Below wy.heap.size wy W9→(Q.new p b).err=e→W9.heap[wy.heap.size]?=some (.cells (dcells gx gy e false).toArray 85 (0,0))→∃g g1 g2 L1 L2,(Ending.returned (ptr wy.heap.size))=.returned (ptr g)∧DF W9 gB g g1 g2 p b L1 L2 (F.new p b)∧Below gB w W9):=Lib.hid (fun W9 e hb he hr=>⟨_,gx,gy,Lx,Ly,rfl,HPR.out.filter hb (by rw [he];exact hr) gB (Nat.le_of_lt HSZ.out),HBW.out.trans (hb.mono HGW.out)⟩)
  clear HAX HAY HBX HBY HZX HZY HZ0 HPR HBW;by_cases hok:(a2&&a1)=true
  ·obtain ⟨rfl,rfl⟩:a2=true∧a1=true:=by simpa using hok
   clear hok
   go_wp2_with (first
    |(go_at_call 16;with_reducible refine (HBR.out _).mono ?_;rintro r w5 ⟨rfl,hb5⟩
      replace HR:=Lib.hid ((Keeps.of_below hb5:Keeps [] _ _).row HR.out (by simp));replace HAL:=Lib.hid (Base.below_step HAL.out hb5)
      clear hb5)
    |(go_at_call 17;with_reducible refine (HQ.out _).mono ?_;rintro r w6 ⟨rfl,hw⟩;rw [hw];clear hw))
   go_ret;rw [HGB.out];exact HFIN.out _ 0 HAL.out HE.out HR.out
  ·have he20:(Q.new p b).err=20:=HE.out.trans (if_neg hok);have H20:=Lib.hid he20;have hz:a2=false∨(a2=true∧a1=false):=by
    revert hok;cases a2<;>cases a1<;>simp
   clear hok he20 HE;rcases hz with rfl | ⟨rfl,rfl⟩;all_goals
    go_wp2_with (first
     |(go_at_call 16;with_reducible refine (HBR.out _).mono ?_;rintro r w5 ⟨rfl,hb5⟩
       replace HR:=Lib.hid ((Keeps.of_below hb5:Keeps [] _ _).row HR.out (by simp));replace HAL:=Lib.hid (Base.below_step HAL.out hb5);replace HF:=Lib.hid (HF.out.below hb5)
       have d2:=HF.out.c 2 _ rfl;have d3:=HF.out.c 3 _ rfl;have m2:=Ln.row_frozen HR.out 2;have m3:=Ln.row_frozen HR.out 3;clear hb5)
     |(go_at_call 17;with_reducible refine (HQ.out _).mono ?_;rintro r w6 ⟨rfl,hw⟩;rw [hw];clear hw))
    go_ret;rw [HGB.out]
    exact HFIN.out _ 20 ((HAL.out.setCell (p:=⟨wy.heap.size,2,none⟩) (Nat.le_refl _) _).setCell (p:=⟨wy.heap.size,3,none⟩) (Nat.le_refl _) _) H20.out (row_setL (row_setL HR.out 2 (.int .i64 2)) 3 (.int .i64 20))
end code
end Go.Proofs.YtimoakmcelocfaaGreat.DF
namespace Go.Proofs.YtimoakmcelocfaaGreat.DF
open Go.RowKit Base Txt Mem Par Pg Each Flt
def Bt1 (M:List (Option Nat)) (ch:UInt8):Fact:=fun v w=>∃k,v=.slice (some ⟨k,0,none⟩) 1 1∧Bts M w (some ⟨k,0,none⟩) [ch]
def One2 (M:List (Option Nat)) (ch:UInt8):Fact:=fun v w=>∃k k2,v=.slice (some ⟨k,0,none⟩) 1 1∧k<w.heap.size∧some k∉M∧w.cell? ⟨k,0,none⟩=some (.slice (some ⟨k2,0,none⟩) 1 1)∧Bts M w (some ⟨k2,0,none⟩) [ch]
section
variable {w w':World} {B g g1 g2 p:Nat} {b:Bd} {L1 L2:List (Option Nat)} {f:F} {ch:UInt8}
theorem Bt1.lasts {l:List Oper} {A' C':World→List (Option Nat)→Prop} {i1 i2 k:Nat}:LastsTwo l A' C' L1 L2 i1 i2 k (Bt1 (L1++L2) ch):=
 LastsTwo.keeps fun _ _ _ _ hM hk ⟨j,e,h⟩=>⟨j,e,bts_keeps h (hk.mono hM)⟩
theorem One2.lasts {l:List Oper} {A' C':World→List (Option Nat)→Prop} {i1 i2 k:Nat}:LastsTwo l A' C' L1 L2 i1 i2 k (One2 (L1++L2) ch):=
 LastsTwo.keeps fun _ _ _ _ hM hk ⟨j,j2,e,h1,h2,h3,h4⟩=>⟨j,j2,e,Nat.lt_of_lt_of_le h1 hk.size,h2,(hk.cell (p:=⟨j,0,none⟩) h1 fun hm=>h2 (hM j hm)).trans h3,bts_keeps h4 (hk.mono hM)⟩
theorem Bt1.made {M:List (Option Nat)} {W w1:World} (hin:∀k,some k∈M→k<W.heap.size) (hk:Keeps M W w1) (ch:UInt8) (ty:TypeId):Bt1 M ch (.slice (some ⟨w1.heap.size,0,none⟩) 1 1) (w1.alloc (.cells #[.int .u8 (ch.toNat:Int)] ty)):=
 ⟨w1.heap.size,rfl,Bts.lit (fun k hm=>Nat.lt_of_lt_of_le (hin k hm) hk.size) [ch] _ rfl ty _⟩
theorem One2.made {M:List (Option Nat)} {W w1:World} {k2:Nat} (hin:∀k,some k∈M→k<W.heap.size) (hk:Keeps M W w1) (hb:Bts M w1 (some ⟨k2,0,none⟩) [ch]) (ty:TypeId):One2 M ch (.slice (some ⟨w1.heap.size,0,none⟩) 1 1) (w1.alloc (.cells #[.slice (some ⟨k2,0,none⟩) 1 1] ty)):=by
 refine ⟨w1.heap.size,k2,rfl,by simp,fun hm=>?_,?_,hb.alloc _⟩
 ·have:=hin _ hm;have:=hk.size;omega
 ·exact (cell_of_row (w1.alloc (.cells #[.slice (some ⟨k2,0,none⟩) 1 1] ty)) w1.heap.size 0 _ ty (0,0) (heap_alloc_new w1 _)).trans rfl
theorem dfeed_one {X:Q} {Z:List (Option Nat)} {L:List (Option Nat)} (hp:p<4294967296) (hA:DQ w ⟨B,Z⟩ g p b L X) (xo:X.out= []) (k k2:Nat) (hc:w.cell? ⟨k,0,none⟩=some (.slice (some ⟨k2,0,none⟩) 1 1)) (hk:k<w.heap.size) (hkL:some k∉L)
 (hbt:Bts L w (some ⟨k2,0,none⟩) [ch]) (Z':List (Option Nat)) (hz:Clear w Z' L):Calls Tryz.prog 21 #[ptr g,.slice (some ⟨k,0,none⟩) 1 1] w fun r w'=>∃v L',r=.returned v∧DQ w' ⟨B,Z'⟩ g p b L' (X.byte p b ch).told∧Pg.Told L' ⟨B,Z'⟩ w' v (X.byte p b ch).out∧Step L L' w w':=by
 have hpa:Parts L w (some ⟨k,0,none⟩) [[ch]]:=⟨fun _=>⟨k,0,rfl,hk,hkL,fun j hj=>by
  obtain rfl:j=0:=by have:j<1:=hj;omega
  exact ⟨_,1,hc,hbt⟩⟩⟩
 have:=dfeed_any hp (hA.rezone hz) xo (some ⟨k,0,none⟩) 1 [[ch]] hpa (by simp) (by simp);exact this
theorem just_look (hj:f.Just p b) (h0:f.code=0) (ch:UInt8):((f.x.byte 0 b ch).err=0∧(f.y.byte p b ch).err=0∧Rec.all (f.x.byte 0 b ch).out (f.y.byte p b ch).out=true)∨((f.x.byte 0 b ch).err≠0∧(f.x.byte 0 b ch).out= []):=by
 rcases hj with ⟨-, -,t,h3,h4,h5,h6,h7,h8,s,h9⟩ | ⟨h1, -⟩
 ·have e1:f.x.byte 0 b ch=t.take 0 b ch:=by rw [h3];rfl
  have e2:f.y.byte p b ch=(t.wide p).take p b ch:=by rw [h6];rfl
  rw [e1,e2];cases ht:t.take 0 b ch with
  | live t2=>
    obtain ⟨k1, -⟩:=take_wide (p:=p) ht h4;rw [k1];exact .inl ⟨rfl,rfl,all_self _⟩
  | dead e o=>
    have hs:=take_sim h9 h7 h8 ch;rw [ht] at hs;obtain ⟨-,k2, -, -⟩:=hs;exact .inr ⟨k2,(strict_bad h4 ht).trans h5⟩
 ·exact absurd h0 h1
end
section code
set_option maxHeartbeats 8000000
set_option maxRecDepth 20000
attribute [local go_sem] Base.some_undef
variable {w:World} {B g g1 g2 p:Nat} {b:Bd} {L1 L2:List (Option Nat)} {f:F}
abbrev DHas (B g p:Nat) (b:Bd) (X:Q):World→List (Option Nat)→Prop:=fun w L=>∃Z,DQ w ⟨B,Z⟩ g p b L X
theorem told_err (x:Q):x.told.err=x.err:=by cases x<;>rfl
theorem byte_any (hp:p<4294967296) (h:DF w B g g1 g2 p b L1 L2 f) (hj:f.code=0→f.Just p b) (Z:List (Option Nat)) (hZ:Clear w Z (blksD g L1 L2)) (ch:UInt8) :
 Calls Tryz.prog 66 #[ptr g,.int .u8 (ch.toNat:Int)] w fun r w'=>∃v M1 M2,r=.returned v∧DF w' B g g1 g2 p b M1 M2 (f.byte p b ch).1∧Pg.Told (blksD g M1 M2) ⟨B,Z⟩ w' v (f.byte p b ch).2∧Step (blksD g L1 L2) (blksD g M1 M2) w w':=by
 by_cases h0:f.code=0
 ·have hjl:=just_look (hj h0) h0 ch;unfold F.byte;rw [if_pos h0];obtain ⟨X',hX⟩:∃X',f.x.byte 0 b ch=X':=⟨_,rfl⟩;obtain ⟨Y',hY⟩:∃Y',f.y.byte p b ch=Y':=⟨_,rfl⟩;rw [hX,hY] at hjl;have hdw:Below w.heap.size w (w.drewN 1):=Base.below_drewN (Below.refl w.heap.size w) 1;have HX:=Lib.hid hX;have HY:=Lib.hid hY;have HJ:=Lib.hid hjl;have HXO:=Lib.hid h.xo;have HYO:=Lib.hid h.yo
  have HTA:=Lib.hid (show Thing (DHas B g1 0 b f.x) (DHas B g1 0 b X'.told) from obj_dq (B:=⟨B,[]⟩))
  have HTC:=Lib.hid (show Thing (DHas B g2 p b f.y) (DHas B g2 p b Y'.told) from obj_dq (B:=⟨B,[]⟩))
  have HA0:=Lib.hid (show DHas B g1 0 b f.x w L1 from h.x);have HC0:=Lib.hid (show DHas B g2 p b f.y w L2 from h.y);have HD:=Lib.hid h.dis;have HN1:=Lib.hid h.n1;have HN2:=Lib.hid h.n2;have HZC:=Lib.hid hZ;have HGE:=Lib.hid h.ge;have hrow:=h.row;unfold dcells at hrow;rw [show vd f.code=1 from if_pos h0] at hrow
  have HF0:=Lib.hid (show Fix (L1++L2) w g [ptr g1,ptr g2,.int .i64 1,.int .i64 (f.code:Int),.bool f.parted] from ⟨⟨_,hrow⟩,fun hm=>(List.mem_append.1 hm).elim h.n1 h.n2⟩)
  have HF:=Lib.hid (HF0.out.below (Keeps.of_below hdw));have HROW:=Lib.hid h.row
  have HIN:=Lib.hid (show∀k,some k∈L1++L2→k<(w.drewN 1).heap.size from fun k hk=>h.in k (List.mem_cons_of_mem _ hk))
  have HGL:=Lib.hid (show g<(w.drewN 1).heap.size from Ln.row_lt h.row);have elk:f.look p b ch=(F.judge ⟨X'.told,Y'.told,f.code,f.parted⟩ X'.err Y'.err (Rec.all X'.out Y'.out),if Rec.all X'.out Y'.out=true then X'.out else []):=by unfold F.look;rw [hX,hY]
  have HFX:=Lib.hid (show Fits X'.out from hX ▸ byte_fits (by rw [h.xo];intro r hr;cases hr) (by obtain ⟨_,_,_,h1,_⟩:=h.x;exact h1) ch)
  have HFY:=Lib.hid (show Fits Y'.out from hY ▸ byte_fits (by rw [h.yo];intro r hr;cases hr) (by obtain ⟨_,_,_,h1,_⟩:=h.y;exact h1) ch)
  have HLX:=Lib.hid (show X'.out.length≤2 from hX ▸ (by have:=Q.byte_out (p:=0) (b:=b) f.x ch;rw [h.xo] at this;simpa using this));have HLY:=Lib.hid (show Y'.out.length≤2 from hY ▸ (by have:=Q.byte_out (p:=p) (b:=b) f.y ch;rw [h.yo] at this;simpa using this));rw [elk];obtain ⟨F',hF'⟩:∃F',F.judge ⟨X'.told,Y'.told,f.code,f.parted⟩ X'.err Y'.err (Rec.all X'.out Y'.out)=F':=⟨_,rfl⟩;obtain ⟨O',hO'⟩:∃O',(if Rec.all X'.out Y'.out=true then X'.out else [])=O':=⟨_,rfl⟩;rw [hF',hO'];have HFJ:=Lib.hid hF';have HOJ:=Lib.hid hO';clear hF' hO';have c2:w.cell? ⟨g,2,none⟩=some (.int .i64 1):=row_cellL hrow rfl;have H00:=Lib.hid h0;clear h hZ hj hX hY elk hdw hjl hrow h0;go_enter Tryz.func66,Tryz.ntmps66;go_upto_region 3 with fail
  clear c2;refine Each.region_two 18 [12,13,14,15,16,17,18,19,20,21,22,23,24,25,26,27,5,6]
   [fun v _=>v=.pointer (some ⟨g,0,none⟩),
     fun v _=>v=.pointer (some ⟨g,0,none⟩),
     fun v _=>v=.pointer (some ⟨g,0,none⟩),
     fun v _=>v=.pointer (some ⟨g1,0,none⟩),
     fun v _=>v=.int .u8 (ch.toNat:Int),
     Bt1 (L1++L2) ch,
     One2 (L1++L2) ch,
     ToldBy (DHas B g1 0 b X'.told) (DHas B g2 p b f.y) (DHas B g2 p b Y'.told) L2 (some g::Z) B X'.out,
     fun v _=>v=.pointer (some ⟨g,0,none⟩),
     fun v _=>v=.pointer (some ⟨g,0,none⟩),
     fun v _=>v=.pointer (some ⟨g,1,none⟩),
     fun v _=>v=.pointer (some ⟨g2,0,none⟩),
     fun v _=>v=.int .u8 (ch.toNat:Int),
     Bt1 (L1++L2) ch,
     One2 (L1++L2) ch,
     ToldBy (DHas B g2 p b Y'.told) (DHas B g1 0 b f.x) (DHas B g1 0 b X'.told) L1 (some g::Z) B Y'.out,
     ToldBy (DHas B g1 0 b X'.told) (DHas B g2 p b f.y) (DHas B g2 p b Y'.told) L2 (some g::Z) B X'.out,
     ToldBy (DHas B g2 p b Y'.told) (DHas B g1 0 b f.x) (DHas B g1 0 b X'.told) L1 (some g::Z) B Y'.out]
   7 15 HTA.out HTC.out HA0.out HC0.out HD.out (by kernel_rfl) (by kernel_rfl) (by kernel_rfl) (by kernel_rfl) (fun _ _ d _ _ h=>by cases d<;>exact h) (by rfl) (by rfl) (by rfl)
   ⟨(Each.LastsTwo.pure _ _),(Each.LastsTwo.pure _ _),(Each.LastsTwo.pure _ _),(Each.LastsTwo.pure _ _),(Each.LastsTwo.pure _ _),Bt1.lasts,One2.lasts,ToldBy.first HTA.out HTC.out (.inl rfl),(Each.LastsTwo.pure _ _),(Each.LastsTwo.pure _ _),(Each.LastsTwo.pure _ _),(Each.LastsTwo.pure _ _),(Each.LastsTwo.pure _ _),Bt1.lasts,One2.lasts,ToldBy.second HTA.out HTC.out (.inl rfl),ToldBy.first HTA.out HTC.out (.inr (by rfl)),ToldBy.second HTA.out HTC.out (.inr (by rfl)),trivial⟩ ?_ ?_
  ·refine ⟨?_,?_,?_,?_,?_,?_,?_,?_,?_,?_,?_,?_,?_,?_,?_,?_,?_,?_,trivial⟩
   ·refine Each.fine_two (by decide) (by decide) rfl (fun ev w1 hR hb hh=>?_);clear hh;have e0:=hR.old 0 rfl;simp only [Array.getD_eq_getD_getElem?,List.getElem?_toArray,List.getElem?_cons_zero,Option.getD_some] at e0;refine Each.Goes.same ?_;go_simp;try with_reducible rfl
   ·refine Each.fine_two (by decide) (by decide) rfl (fun ev w1 hR hb hh=>?_);have e12:(ev (.tmp 12)=.pointer (some ⟨g,0,none⟩)):=hh.at 0;clear hh;refine Each.Goes.same ?_;go_simp;try with_reducible rfl
   ·refine Each.fine_two (by decide) (by decide) rfl (fun ev w1 hR hb hh=>?_);have e13:(ev (.tmp 13)=.pointer (some ⟨g,0,none⟩)):=hh.at 0;clear hh;refine Each.Goes.same ?_;go_simp;try with_reducible rfl
   ·refine Each.fine_two (by decide) (by decide) rfl (fun ev w1 hR hb hh=>?_);have e14:(ev (.tmp 14)=.pointer (some ⟨g,0,none⟩)):=hh.at 0;clear hh;have q0:=(HF.out.below hb).c 0 _ rfl;refine Each.Goes.same ?_;go_simp;try with_reducible rfl
   ·refine Each.fine_two (by decide) (by decide) rfl (fun ev w1 hR hb hh=>?_);clear hh;have e1:=hR.old 1 rfl;simp only [Array.getD_eq_getD_getElem?,List.getElem?_toArray,List.getElem?_cons_succ,List.getElem?_cons_zero,Option.getD_some] at e1;refine Each.Goes.same ?_;go_simp;try with_reducible rfl
   ·refine Each.fine_two (by decide) (by decide) rfl (fun ev w1 hR hb hh=>?_);have e16:(ev (.tmp 16)=.int .u8 (ch.toNat:Int)):=hh.at 0;clear hh
    exact Each.Goes.value (.slice (some ⟨w1.heap.size,0,none⟩) 1 1) (w1.alloc (.cells #[.int .u8 (ch.toNat:Int)] 5)) (by go_simp) ((Below.refl _ _).alloc (Nat.le_refl _) _) (Bt1.made HIN.out hb ch _)
   ·refine Each.fine_two (by decide) (by decide) rfl (fun ev w1 hR hb hh=>?_);have e17:((Bt1 (L1++L2) ch) (ev (.tmp 17)) w1):=hh.at 0;clear hh;obtain ⟨k2,e17,hbt⟩:=e17
    exact Each.Goes.value (.slice (some ⟨w1.heap.size,0,none⟩) 1 1) (w1.alloc (.cells #[.slice (some ⟨k2,0,none⟩) 1 1] 34)) (by go_simp) ((Below.refl _ _).alloc (Nat.le_refl _) _) (One2.made HIN.out hb hbt _)
   ·refine Each.fine_first rfl (fun ev w1 M2 hR hb hA hC hd hh=>?_);have e15:(ev (.tmp 15)=.pointer (some ⟨g1,0,none⟩)):=hh.at 0;have e18:((One2 (L1++L2) ch) (ev (.tmp 18)) w1):=hh.at 1;clear hh;have ef:=hR.func;obtain ⟨k,k2,e18,hkl,hkn,hkc,hbt0⟩:=e18;obtain ⟨Z1,hA⟩:=hA;have hsz:=hb.size;have hi2:In w1 L2:=fun k hk=>Nat.lt_of_lt_of_le (HIN.out k (List.mem_append_right _ hk)) hsz
    have hcl:Clear w1 (L2++(M2++(some g::Z))) L1:=clear_app (clear_dis hi2 HD.out) (clear_app (clear_dis (HTC.out.in hC) hd) (clear_cons (Nat.lt_of_lt_of_le HGL.out hsz) HN1.out ⟨fun k hk=>Nat.lt_of_lt_of_le (HZC.out.inz k hk) hsz,fun k hk=>HZC.out.off k (List.mem_cons_of_mem _ (List.mem_append_left _ hk))⟩));have hbt:Bts L1 w1 (some ⟨k2,0,none⟩) [ch]:=bts_sub hbt0 fun k hk=>List.mem_append_left _ hk
    refine Each.GoesR.enter 21 #[ptr g1,.slice (some ⟨k,0,none⟩) 1 1] (by go_simp) ((dfeed_one (p:=0) (by decide) hA HXO.out k k2 hkc hkl (fun hm=>hkn (List.mem_append_left _ hm)) hbt _ hcl).mono ?_);rintro r w2 ⟨v,N1,rfl,h1,h2,h3⟩;rw [HX.out] at h1 h2;exact ⟨v,rfl,⟨N1,⟨_,h1⟩,h3⟩,N1,M2,⟨_,h1⟩,HTC.out.now hC h3.keeps hd.symm,(HD.out.symm.of hi2 h3.of).symm,h2⟩
   ·refine Each.fine_two (by decide) (by decide) rfl (fun ev w1 hR hb hh=>?_);clear hh;have e0:=hR.old 0 rfl;simp only [Array.getD_eq_getD_getElem?,List.getElem?_toArray,List.getElem?_cons_zero,Option.getD_some] at e0;refine Each.Goes.same ?_;go_simp;try with_reducible rfl
   ·refine Each.fine_two (by decide) (by decide) rfl (fun ev w1 hR hb hh=>?_);have e20:(ev (.tmp 20)=.pointer (some ⟨g,0,none⟩)):=hh.at 0;clear hh;refine Each.Goes.same ?_;go_simp;try with_reducible rfl
   ·refine Each.fine_two (by decide) (by decide) rfl (fun ev w1 hR hb hh=>?_);have e21:(ev (.tmp 21)=.pointer (some ⟨g,0,none⟩)):=hh.at 0;clear hh;refine Each.Goes.same ?_;go_simp;try with_reducible rfl
   ·refine Each.fine_two (by decide) (by decide) rfl (fun ev w1 hR hb hh=>?_);have e22:(ev (.tmp 22)=.pointer (some ⟨g,1,none⟩)):=hh.at 0;clear hh;have q1:=(HF.out.below hb).c 1 _ rfl;refine Each.Goes.same ?_;go_simp;try with_reducible rfl
   ·refine Each.fine_two (by decide) (by decide) rfl (fun ev w1 hR hb hh=>?_);clear hh;have e1:=hR.old 1 rfl;simp only [Array.getD_eq_getD_getElem?,List.getElem?_toArray,List.getElem?_cons_succ,List.getElem?_cons_zero,Option.getD_some] at e1;refine Each.Goes.same ?_;go_simp;try with_reducible rfl
   ·refine Each.fine_two (by decide) (by decide) rfl (fun ev w1 hR hb hh=>?_);have e24:(ev (.tmp 24)=.int .u8 (ch.toNat:Int)):=hh.at 0;clear hh
    exact Each.Goes.value (.slice (some ⟨w1.heap.size,0,none⟩) 1 1) (w1.alloc (.cells #[.int .u8 (ch.toNat:Int)] 5)) (by go_simp) ((Below.refl _ _).alloc (Nat.le_refl _) _) (Bt1.made HIN.out hb ch _)
   ·refine Each.fine_two (by decide) (by decide) rfl (fun ev w1 hR hb hh=>?_);have e25:((Bt1 (L1++L2) ch) (ev (.tmp 25)) w1):=hh.at 0;clear hh;obtain ⟨k2,e25,hbt⟩:=e25
    exact Each.Goes.value (.slice (some ⟨w1.heap.size,0,none⟩) 1 1) (w1.alloc (.cells #[.slice (some ⟨k2,0,none⟩) 1 1] 34)) (by go_simp) ((Below.refl _ _).alloc (Nat.le_refl _) _) (One2.made HIN.out hb hbt _)
   ·refine Each.fine_second (by decide) rfl (fun ev w1 M1 hR hb hC hA hd hh=>?_);have e23:(ev (.tmp 23)=.pointer (some ⟨g2,0,none⟩)):=hh.at 0;have e26:((One2 (L1++L2) ch) (ev (.tmp 26)) w1):=hh.at 1;clear hh;have ef:=hR.func;obtain ⟨k,k2,e26,hkl,hkn,hkc,hbt0⟩:=e26;obtain ⟨Z1,hC⟩:=hC;have hsz:=hb.size;have hi2:In w1 L1:=fun k hk=>Nat.lt_of_lt_of_le (HIN.out k (List.mem_append_left _ hk)) hsz
    have hcl:Clear w1 (L1++(M1++(some g::Z))) L2:=clear_app (clear_dis hi2 HD.out.symm) (clear_app (clear_dis (HTA.out.in hA) hd) (clear_cons (Nat.lt_of_lt_of_le HGL.out hsz) HN2.out ⟨fun k hk=>Nat.lt_of_lt_of_le (HZC.out.inz k hk) hsz,fun k hk=>HZC.out.off k (List.mem_cons_of_mem _ (List.mem_append_right _ hk))⟩));have hbt:Bts L2 w1 (some ⟨k2,0,none⟩) [ch]:=bts_sub hbt0 fun k hk=>List.mem_append_right _ hk
    refine Each.GoesR.enter 21 #[ptr g2,.slice (some ⟨k,0,none⟩) 1 1] (by go_simp) ((dfeed_one hp hC HYO.out k k2 hkc hkl (fun hm=>hkn (List.mem_append_right _ hm)) hbt _ hcl).mono ?_);rintro r w2 ⟨v,N1,rfl,h1,h2,h3⟩;rw [HY.out] at h1 h2;exact ⟨v,rfl,⟨N1,⟨_,h1⟩,h3⟩,N1,M1,⟨_,h1⟩,HTA.out.now hA h3.keeps hd.symm,(HD.out.of hi2 h3.of).symm,h2⟩
   ·refine Each.fine_two (by decide) (by decide) rfl (fun ev w1 hR hb hh=>?_);have e19:((ToldBy (DHas B g1 0 b X'.told) (DHas B g2 p b f.y) (DHas B g2 p b Y'.told) L2 (some g::Z) B X'.out) (ev (.tmp 19)) w1):=hh.at 0;clear hh;exact Each.Goes.value (ev (.tmp 19)) w1 (by go_simp) (Below.refl _ _) e19
   ·refine Each.fine_two (by decide) (by decide) rfl (fun ev w1 hR hb hh=>?_);have e27:((ToldBy (DHas B g2 p b Y'.told) (DHas B g1 0 b f.x) (DHas B g1 0 b X'.told) L1 (some g::Z) B Y'.out) (ev (.tmp 27)) w1):=hh.at 0;clear hh;exact Each.Goes.value (ev (.tmp 27)) w1 (by go_simp) (Below.refl _ _) e27
  intro ga w2 M1 M2 hA hC hd hof1 hof2 hb hf;have z5:(ToldBy (DHas B g1 0 b X'.told) (DHas B g2 p b f.y) (DHas B g2 p b Y'.told) L2 (some g::Z) B X'.out) (ga 5) w2:=hf.at 16;have z6:(ToldBy (DHas B g2 p b Y'.told) (DHas B g1 0 b f.x) (DHas B g1 0 b X'.told) L1 (some g::Z) B Y'.out) (ga 6) w2:=hf.at 17;clear hf;obtain ⟨N1,K2,hA5,hC5,hd5,ht5⟩:=z5;obtain ⟨N2,K1,hA6,hC6,hd6,ht6⟩:=z6;have u1:N1=M1:=HTA.out.uniq (.inr hA5) hA;have u2:N2=M2:=HTC.out.uniq (.inr hA6) hC;have u3:K2=M2:=HTC.out.uniq hC5 hC;have u4:K1=M1:=HTA.out.uniq hC6 hA;subst u1 u2 u3 u4;obtain ⟨a5,c5,e5,hr5⟩:=told_recs ht5;obtain ⟨a6,c6,e6,hr6⟩:=told_recs ht6;have hk2:Keeps (blksD g L1 L2) w w2:=hb.mono fun k hk=>List.mem_cons_of_mem _ hk;have hn1:some g∉K1:=fun hm=>by
   rcases hof1 g hm with e | e
   ·exact HN1.out e
   ·exact absurd HGL.out (Nat.not_lt.2 e)
  have hn2:some g∉K2:=fun hm=>by
   rcases hof2 g hm with e | e
   ·exact HN2.out e
   ·exact absurd HGL.out (Nat.not_lt.2 e)
  have hof:Of w (blksD g L1 L2) (blksD g K1 K2):=fun k hk=>by
   simp only [List.mem_cons,List.mem_append] at hk ⊢;rcases hk with hk | hk | hk
   ·exact .inl (.inl hk)
   ·exact (hof1 k hk).imp (fun e=>.inr (.inl e)) id
   ·exact (hof2 k hk).imp (fun e=>.inr (.inr e)) id
  have HS2:=Lib.hid (show Step (blksD g L1 L2) (blksD g K1 K2) w w2 from ⟨hk2,hof⟩)
  have HFA:=Lib.hid (show DF w2 B g g1 g2 p b K1 K2 ⟨X'.told,Y'.told,f.code,f.parted⟩ from ⟨hb.row HROW.out HF0.out.off,hA5,hA6,hd,hn1,hn2,HGE.out,Pg.told_out _,Pg.told_out _⟩);have HT5:=Lib.hid ht5;have HR5:=Lib.hid hr5;have HR6:=Lib.hid hr6;clear hA hC hd hof1 hof2 hb hA5 hC5 hd5 hA6 hC6 hd6 ht6 hr5 hr6 hn1 hn2 hof hk2 ht5;simp only [Each.putg,Act.put,List.setIfInBounds_toArray,List.set_cons_zero,List.set_cons_succ];rw [e5,e6];obtain ⟨n5,hn5⟩:∃n,X'.out.length=n:=⟨_,rfl⟩;obtain ⟨n6,hn6⟩:∃n,Y'.out.length=n:=⟨_,rfl⟩;have c0:w2.cell? ⟨g,0,none⟩=some (ptr g1):=HFA.out.c.1;have c1:w2.cell? ⟨g,1,none⟩=some (ptr g2):=HFA.out.c.2.1;have q1:w2.cell? ⟨g1,25,none⟩=some (.int .i64 (X'.err:Int)):=by obtain ⟨_,hq⟩:=HFA.out.x;rw [←told_err X'];exact hq.e
  have q2:w2.cell? ⟨g2,25,none⟩=some (.int .i64 (Y'.err:Int)):=by obtain ⟨_,hq⟩:=HFA.out.y;rw [←told_err Y'];exact hq.e
  rcases HJ.out with ⟨hx0,hy0,hal⟩ | ⟨hx0,hxo⟩
  ·have HALL:=Lib.hid (show Calls Tryz.prog 22 #[.slice a5 n5 c5,.slice a6 n6 c6] w2 fun e w'=>e=.returned (.bool true)∧Below w2.heap.size w2 w' from by
    rw [←hn5,←hn6,←hal];exact Rec.rall_any a5 X'.out.length c5 X'.out a6 Y'.out.length c6 Y'.out w2 HR5.out HR6.out (by have:=HLX.out;omega) (by have:=HLY.out;omega) HFX.out HFY.out)
   rw [hn5,hn6];rw [e5,hn5] at HT5;rw [hx0] at q1;rw [hy0] at q2;have ej:F.judge ⟨X'.told,Y'.told,f.code,f.parted⟩ X'.err Y'.err (Rec.all X'.out Y'.out)=⟨X'.told,Y'.told,f.code,f.parted⟩:=by rw [hx0,hy0,hal];rfl
   have eo:(if Rec.all X'.out Y'.out=true then X'.out else [])=X'.out:=by rw [hal,if_pos rfl]
   have HFE:=Lib.hid (HFJ.out.symm.trans ej);have HOE:=Lib.hid (HOJ.out.symm.trans eo);clear ej eo hal HFJ HOJ hx0 hy0 hn5 hn6 e5 e6 HR5 HR6
   go_wp2_with (go_at_call 22;with_reducible refine HALL.out.mono ?_;rintro r w3 ⟨rfl,hb3⟩;have HB3:=Lib.hid hb3;clear hb3);go_ret;rw [HFE.out,HOE.out]
   exact ⟨_,K1,K2,rfl,HFA.out.keeps (Keeps.of_below HB3.out:Keeps [] w2 w3) (fun _ _ hm=>by cases hm),((told_widen (L':=blksD g K1 K2) (HT5.out.keeps (Keeps.of_below HB3.out:Keeps [] w2 w3) (fun _ hm=>by cases hm)) (fun k hk=>by
    simp only [List.mem_cons,List.mem_append] at hk ⊢;rcases hk with hk | hk | hk
    ·exact .inr (.inr (.inr (.inl hk)))
    ·exact .inl hk
    ·exact .inr (.inr (.inl hk)))).rezone (Z:=Z) fun k hk=>.inl (by simp [hk])),HS2.out.trans (Step.of_below HB3.out)⟩
  ·have n1:((X'.err:Int) != 0)=true:=by
    rw [bne_iff_ne];omega
   have n1':¬(X'.err:Int)=0:=by omega
   have e2:(Y'.err==0)=((Y'.err:Int)==0):=by rw [Bool.eq_iff_iff,beq_iff_eq,beq_iff_eq];omega
   have ej:F.judge ⟨X'.told,Y'.told,f.code,f.parted⟩ X'.err Y'.err (Rec.all X'.out Y'.out)=⟨X'.told,Y'.told,X'.err,((Y'.err:Int)==0)⟩:=by unfold F.judge;rw [if_pos hx0,e2]
   have eo:(if Rec.all X'.out Y'.out=true then X'.out else [])= []:=by rw [hxo];split<;>rfl
   have HFE:=Lib.hid (HFJ.out.symm.trans ej);have HOE:=Lib.hid (HOJ.out.symm.trans eo);clear HFJ HOJ;have HX0:=Lib.hid hx0;have HR:=Lib.hid HFA.out.row;have d2:=HFA.out.c.2.2.1;have d3:=HFA.out.c.2.2.2.1;have d4:=HFA.out.c.2.2.2.2;have m2:=Ln.row_frozen HR.out 2;have m3:=Ln.row_frozen HR.out 3;have m4:=Ln.row_frozen HR.out 4;obtain ⟨xe,hxe⟩:∃xe:Int,(X'.err:Int)=xe:=⟨_,rfl⟩;obtain ⟨ye,hye⟩:∃ye:Int,(Y'.err:Int)=ye:=⟨_,rfl⟩;have HXE:=Lib.hid hxe;have HYE:=Lib.hid hye;rw [hye] at HFE;rw [hxe] at q1 n1 n1';rw [hye] at q2;clear ej eo hx0 hxo hn5 hn6 e5 e6 HR5 HR6 e2 HT5 hxe hye;go_upto_region 6 with fail
   go_region;all_goals
    go_wp2;go_ret;have hrow5:((((w2.setCell ⟨g,2,none⟩ (.int .i64 2)).setCell ⟨g,3,none⟩ (.int .i64 xe)).setCell ⟨g,4,none⟩ (.bool (ye==0))).drew).heap[g]?=some (.cells (dcells g1 g2 X'.err (ye==0)).toArray 85 (0,0)):=by
     unfold dcells;rw [show vd X'.err=2 from if_neg HX0.out,HXE.out]
     exact row_setL (row_setL (row_setL HR.out 2 (.int .i64 2)) 3 (.int .i64 xe)) 4 (.bool (ye==0))
    have hk5:Keeps [some g] w2 ((((w2.setCell ⟨g,2,none⟩ (.int .i64 2)).setCell ⟨g,3,none⟩ (.int .i64 xe)).setCell ⟨g,4,none⟩ (.bool (ye==0))).drew):=(((Keeps.set g 2 (.int .i64 2) (by simp)).trans (Keeps.set g 3 (.int .i64 xe) (by simp)) Of.refl).trans (Keeps.set g 4 (.bool (ye==0)) (by simp)) Of.refl).trans ((Keeps.of_below (Below.refl _ _).drew:Keeps [] _ _).mono (fun k hk=>by cases hk)) Of.refl;have hd5:Dis (K1++K2) [some g]:=fun k hk hm=>by
     have e:k=g:=by simpa using hm
     rw [e] at hk;exact (List.mem_append.1 hk).elim HFA.out.n1 HFA.out.n2
    rw [HFE.out,HOE.out]
    exact ⟨_,rfl,K1,K2,⟨hrow5,HFA.out.x.imp fun _ h1=>h1.keeps hk5 fun k hk=>hd5 k (List.mem_append_left _ hk),HFA.out.y.imp fun _ h1=>h1.keeps hk5 fun k hk=>hd5 k (List.mem_append_right _ hk),HFA.out.dis,HFA.out.n1,HFA.out.n2,HGE.out,Pg.told_out _,Pg.told_out _⟩,told_nil _ _ _,HS2.out.trans ⟨hk5.mono (fun k hk=>by
     have e:k=g:=by simpa using hk
     rw [e];simp),Of.refl⟩⟩
 ·have c2:w.cell? ⟨g,2,none⟩=some (.int .i64 2):=by have:=h.c.2.2.1;rw [show vd f.code=2 from if_neg h0] at this;exact this
  unfold F.byte;rw [if_neg h0];have H:=Lib.hid h;clear h hj hZ;go_enter Tryz.func66,Tryz.ntmps66;go_wp2;go_ret;exact ⟨_,L1,L2,rfl,H.out,told_nil _ _ _,Step.refl⟩
end code
end Go.Proofs.YtimoakmcelocfaaGreat.DF
namespace Go.Proofs.YtimoakmcelocfaaGreat.DF
open Go.RowKit Base Txt Mem Par Pg Each Flt
section
variable {w w':World} {p:Nat} {b:Bd} {f:F}
theorem just_on (hj:f.code=0→f.Just p b) (l:List UInt8):(F.feed p b f l).1.code=0→(F.feed p b f l).1.Just p b:=by
 intro h;by_cases h0:f.code=0
 ·exact just_feed l (hj h0)
 ·rw [F.feed_blocked p b f h0] at h;exact absurd h h0
theorem parts_step {L L':List (Option Nat)} {a:Option Addr} {ls:List (List UInt8)} (h:Parts L w a ls) (hk:Keeps L w w') (ho:Of w L L'):Parts L' w' a ls:=by
 refine ⟨fun h0=>?_⟩;obtain ⟨bk,off,e,hlt,hn,hc⟩:=h.cells h0;refine ⟨bk,off,e,Nat.lt_of_lt_of_le hlt hk.size,fun hm=>?_,fun k hkl=>?_⟩
 ·rcases ho bk hm with e | e
  ·exact hn e
  ·omega
 ·obtain ⟨ak,ck,c1,c2⟩:=hc k hkl;exact ⟨ak,ck,(hk.cell (p:=⟨bk,off+k,none⟩) hlt hn).trans c1,c2.step ⟨hk,ho⟩⟩
end
section code
set_option maxHeartbeats 4000000
set_option maxRecDepth 20000
attribute [local go_sem] Base.some_undef
variable {w:World} {B g g1 g2 p:Nat} {b:Bd} {L1 L2:List (Option Nat)} {f:F}
theorem feed_any (hp:p<4294967296) (h:DF w B g g1 g2 p b L1 L2 f) (hj:f.code=0→f.Just p b) (Z:List (Option Nat)) (hZ:Clear w Z (blksD g L1 L2)) (a:Option Addr) (ca:Nat) (ls:List (List UInt8)) (hl:Parts (blksD g L1 L2) w a ls) (hn:ls.length≤1000000) (hlen:ls.flatten.length≤400000000) :
 Calls Tryz.prog 49 #[ptr g,.slice a ls.length ca] w fun r w'=>∃V,r=.returned V∧∃M1 M2,DS w B g g1 g2 p b Z L1 L2 (F.feed p b f ls.flatten).1 V (F.feed p b f ls.flatten).2 M1 M2 w':=by
 have HL:=Lib.hid hl;have HOU:=Lib.hid hlen;have HXO:=Lib.hid h.xo;have HJU:=Lib.hid hj
 have HS0:=Lib.hid (DS.start h hZ);obtain ⟨R,hR⟩:∃R,F.feed p b f ls.flatten=R:=⟨_,rfl⟩;rw [hR];have HR:=Lib.hid hR;obtain ⟨n,hnn⟩:∃n,ls.length=n:=⟨_,rfl⟩;have HN:=Lib.hid hnn;have hn1:n≤1000000:=by omega
 rw [hnn];clear h hl hlen hn hnn hZ hR hj;go_enter Tryz.func49,Tryz.ntmps49;go_upto_region 3 with fail
 go_loopw [5,6] (fun V i wr=>∃k:Nat,k≤n∧i=.int .i64 k∧Hid (∃N1 N2,DS w B g g1 g2 p b Z L1 L2 (F.feed p b f (ls.take k).flatten).1 V (F.feed p b f (ls.take k).flatten).2 N1 N2 wr)) (fun _ i _=>n-(intOf i).toNat)
 case atStart=>exact ⟨0,Nat.zero_le _,rfl,Lib.hid ⟨L1,L2,HS0.out⟩⟩
 case round=>
  obtain ⟨k,hk,rfl,hR⟩:=hrel;rcases Nat.lt_or_ge k n with hlt | hge
  ·obtain ⟨N1,N2,hA⟩:=hR.out
   have hPP:=Lib.hid (parts_step HL.out hA.keeps hA.of);have hkl:k<ls.length:=by rw [HN.out];exact hlt
   obtain ⟨bk,off,ea,hbk,hnb,hc⟩:=hPP.out.cells (by rw [HN.out];omega);obtain ⟨ak,ck,hcell,hB⟩:=hc k hkl;have htk:(ls.take (k+1)).flatten=(ls.take k).flatten++ls[k]:=by rw [List.take_succ_eq_append_getElem hkl,List.flatten_append];simp
   have hsum:(ls.take (k+1)).flatten.length≤ls.flatten.length:=by have:=congrArg List.length (congrArg List.flatten (List.take_append_drop (k+1) ls));rw [List.flatten_append,List.length_append] at this;omega
   rw [htk,List.length_append] at hsum;have t1:(k:Int)<(n:Int):=by omega
   have HTK:=Lib.hid htk;obtain ⟨pl,hpl⟩:∃pl,ls[k]=pl:=⟨_,rfl⟩;rw [hpl] at hcell hB hsum HTK;obtain ⟨m,hm⟩:∃m,pl.length=m:=⟨_,rfl⟩;rw [hm] at hcell hsum;have HM:=Lib.hid hm;obtain ⟨q,hq⟩:∃q,(ls.take k).flatten=q:=⟨_,rfl⟩;rw [hq] at hA hsum HTK;have hsum2:q.length+m≤400000000:=by have:=HOU.out;omega
   have HSUM:=Lib.hid hsum2;have hm9:m≤400000000:=by omega
   have HA:=Lib.hid hA;have HB:=Lib.hid hB
   have HC:Hid (∀(wq:World) (N1' N2':List (Option Nat)) (f':F) (V':Value) (o':List Rec.R),DS w B g g1 g2 p b Z L1 L2 f' V' o' N1' N2' wq→wq.cell? ⟨bk,off+k,none⟩=some (.slice ak m ck)∧Bts (blksD g N1' N2') wq ak pl):=Lib.hid (by
    intro wq N1' N2' f' V' o' hq';have h9:=parts_step HL.out hq'.keeps hq'.of
    obtain ⟨bk9,off9,ea9,hbk9,hnb9,hc9⟩:=h9.cells (by rw [HN.out];omega);rw [ea] at ea9;cases ea9;obtain ⟨ak9,ck9,hcell9,hB9⟩:=hc9 k hkl
    obtain ⟨bk0,off0,ea0,hbk0,hnb0,hc0⟩:=HL.out.cells (by rw [HN.out];omega);rw [ea] at ea0;cases ea0;obtain ⟨ak0,ck0,hcell0, -⟩:=hc0 k hkl;have e1:=(hA.keeps.cell (p:=⟨bk,off+k,none⟩) hbk0 hnb0).trans hcell0;have e2:=(hq'.keeps.cell (p:=⟨bk,off+k,none⟩) hbk0 hnb0).trans hcell0;rw [hcell] at e1;have e3:=hcell9.symm.trans e2;rw [hpl] at e1 e2 e3 hcell9 hB9;rw [hm] at e1 e2 e3 hcell9;simp only [Option.some.injEq,Value.slice.injEq,true_and] at e1 e3;obtain ⟨rfl,rfl⟩:=e1;obtain ⟨rfl,rfl⟩:=e3;exact ⟨e2,hB9⟩)
   subst ea;clear hA hB hq hsum hsum2 htk hpl hm hc hR hnb hbk hcell hPP;go_upto_region 6 with fail
   obtain ⟨wA,hwA⟩:∃x,x=wr:=⟨_,rfl⟩;subst hwA
   go_loopw [5,7] (fun V j wq=>∃i:Nat,i≤m∧j=.int .i64 i∧Hid (∃N1 N2,DS w B g g1 g2 p b Z L1 L2 (F.feed p b f (q++pl.take i)).1 V (F.feed p b f (q++pl.take i)).2 N1 N2 wq)) (fun _ j _=>m-(intOf j).toNat)
   case atStart=>exact ⟨0,Nat.zero_le _,rfl,Lib.hid ⟨N1,N2,by rw [List.take_zero,List.append_nil];exact HA.out⟩⟩
   case round=>
    obtain ⟨i,hi,rfl,hR2⟩:=hrel;obtain ⟨V,hV0⟩:∃x,x=u5:=⟨_,rfl⟩;subst hV0;rcases Nat.lt_or_ge i m with hilt | hige
    ·obtain ⟨P1,P2,hA2⟩:=hR2.out;have hil:i<pl.length:=by rw [HM.out];exact hilt
     have hti:pl.take (i+1)=pl.take i ++ [pl[i]]:=List.take_succ_eq_append_getElem hil;obtain ⟨f2,hf2⟩:∃f2,(F.feed p b f (q++pl.take i)).1=f2:=⟨_,rfl⟩;obtain ⟨o2,ho2⟩:∃o2,(F.feed p b f (q++pl.take i)).2=o2:=⟨_,rfl⟩;have hol:=(feed_len p b (q++pl.take i) f HXO.out).1;rw [ho2,List.length_append,List.length_take] at hol;have hol2:o2.length≤800000002:=by have:=HSUM.out;omega
     rw [hf2,ho2] at hA2;obtain ⟨hcell,hbq⟩:=HC.out _ _ _ _ _ _ hA2
     obtain ⟨zb,zo,rfl,hzb,hz⟩:=hbq.nums.2 (by omega);obtain ⟨c,hc⟩:∃c,pl[i]=c:=⟨_,rfl⟩;have hz1:=hz i hil;rw [List.getElem?_map,List.getElem?_eq_getElem hil,hc] at hz1;have hz2:wr.cell? ⟨zb,zo+i,none⟩=some (.int .u8 (c.toNat:Int)):=hz1;rw [hc] at hti
     have hj2:f2.code=0→f2.Just p b:=hf2 ▸ just_on HJU.out (q++pl.take i)
     have HLK:=Lib.hid (byte_any hp hA2.fat hj2 (V.ownBlock::Z) hA2.off c);have hfs:F.feed p b f (q++pl.take (i+1))=((f2.byte p b c).1,o2++(f2.byte p b c).2):=by rw [hti,←List.append_assoc,F.feed_snoc,hf2,ho2]
     have HFS:=Lib.hid hfs;have hl2:(f2.byte p b c).2.length≤2:=by
      unfold F.byte;split
      ·exact look_len hA2.fat.xo c
      ·exact Nat.zero_le _
     have HOL:=Lib.hid (show o2.length+(f2.byte p b c).2.length≤1000000000 by omega);have HA2:=Lib.hid hA2;have t2:(i:Int)<(m:Int):=by omega
     clear hA2 hzb hz hz1 hti hf2 ho2 hol hol2 hbq hfs hl2 hR2 hc hj2 hil
     go_wp2_with (first
      |(at_builtin;(refine App.wpList_append_run rfl _ _ 51 rfl V U rfl rfl V' w6 hrun ?_))
      |(go_at_call 66;with_reducible refine HLK.out.mono ?_;rintro r w5 ⟨U,M1,M2,rfl,hf5,ht5,hs5⟩
        obtain ⟨V',w6,hrun,hS6⟩:=HA2.out.next hf5 ht5 hs5 HOL.out;have HS6:=Lib.hid hS6;clear hf5 ht5 hs5 hS6))
     go_roundw
     case rel=>exact ⟨i+1,by omega,by go_num,Lib.hid ⟨M1,M2,by rw [HFS.out];exact HS6.out⟩⟩
     case measure=>simp [intOf];omega
    ·obtain rfl:i=m:=by omega
     have t2:¬(i:Int)<(i:Int):=by omega
     obtain ⟨P1,P2,hA2⟩:=hR2.out
     have e:pl.take i=pl:=List.take_of_length_le (by rw [HM.out];exact Nat.le_refl _);rw [e,←HTK.out] at hA2;obtain ⟨hcell, -⟩:=HC.out _ _ _ _ _ _ hA2;have HA2:=Lib.hid hA2;clear hA2 e hR2;go_wp2_with fail;go_roundw
     case rel=>exact ⟨k+1,by omega,by go_num,Lib.hid ⟨P1,P2,HA2.out⟩⟩
     case measure=>simp [intOf];omega
  ·obtain rfl:k=n:=by omega
   have t1:¬(k:Int)<(k:Int):=by omega
   obtain ⟨N1,N2,hA⟩:=hR.out
   have e:ls.take k=ls:=List.take_of_length_le (by rw [HN.out];exact Nat.le_refl _);rw [e,HR.out] at hA;have HA:=Lib.hid hA;clear hA hR e;go_wp2_with fail;go_ret;exact ⟨_,rfl,N1,N2,HA.out⟩
end code
end Go.Proofs.YtimoakmcelocfaaGreat.DF
