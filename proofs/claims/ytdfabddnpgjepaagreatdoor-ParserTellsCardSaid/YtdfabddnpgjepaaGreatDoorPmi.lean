import Derived.Test.YtdfabddnpgjepaaGreatDoorPmh
set_option linter.unusedSimpArgs false
open Array renaming getD_eq_getD_getElem?→Ag
open Bool renaming or_eq_true→Az
open Go.Act renaming put→Ab
open Go.Lib renaming hid→Bx
open Go.Proofs.Tryz renaming prog→EW,underlying22→F0
open Go.Proofs.YtdfabddnpgjepaaGreatDoor.Base renaming below_drewN→Ak,below_step→Al,some_undef→Am
open Go.Proofs.YtdfabddnpgjepaaGreatDoor.Each renaming fine→AP,putg→AU,region_all→AW
open Go.Proofs.YtdfabddnpgjepaaGreatDoor.Each.Goes renaming enter→AG
open Go.Proofs.YtdfabddnpgjepaaGreatDoor.Each.Lasts renaming eq→AK
open Go.Proofs.YtdfabddnpgjepaaGreatDoor.Ln renaming own_slice→CT,row_frozen→CV
open Go.Proofs.YtdfabddnpgjepaaGreatDoor.Mem.Keeps renaming of_below→Bo,set→Bp
open Go.Proofs.YtdfabddnpgjepaaGreatDoor.Mem.Of renaming refl→Dq
open Go.Proofs.YtdfabddnpgjepaaGreatDoor.Par.S renaming again→DJ
open Go.Proofs.YtdfabddnpgjepaaGreatDoor.Par.Step renaming of_below→DP,set→DS
open Go.Proofs.YtdfabddnpgjepaaGreatDoor.Qk renaming has→D0,rhas_any→D4
open Go.Proofs.YtdfabddnpgjepaaGreatDoor.Rec renaming Bk→D5,R→D7,byteV→D8,vals→DB,wraps→DD
open Go.Proofs.YtdfabddnpgjepaaGreatDoor.Rec.Bk renaming new→D6
open Go.Proofs.YtdfabddnpgjepaaGreatDoor.Tree renaming change→Ec,done→Ed,grow→Ee,put1→Ef,quiet→Eg
open Go.RowKit.Below renaming refl→An
open Go.World renaming ownsRow_nil→FV
open Go.World.ownsRow renaming lt→FU
open List renaming append_nil→BH,getElem?_cons_succ→BY,getElem?_cons_zero→BZ,getElem?_eq_getElem→Ca,getElem?_map→Cd,getElem?_toArray→Cg,length_append→Cr,length_drop→Cu,length_take→C0,mem_cons→C6,mem_of_getElem?→C8,mem_singleton→CB,not_mem_nil→CD,setIfInBounds_toArray→CH,set_cons_succ→CJ,set_cons_zero→CK,take_of_length_le→CN,take_succ_eq_append_getElem→CO
open Nat renaming eq_zero_or_pos→CZ,le_of_lt→Da,le_refl→Db,le_trans→Dd,lt_of_lt_of_le→Df,lt_or_ge→Dg,zero_add→Di,zero_le→Dj
open Option renaming getD_some→Ds,some→Du
open Go.Value renaming int→ZZ,string→ZY,slice→ZX,bool→ZW,pointer→ZV,agg→ZU,tuple→ZT
open Go.IntKind renaming i64→ZS,u8→ZR,u32→ZQ
namespace Go.Proofs.YtdfabddnpgjepaaGreatDoor.Par
open Go.RowKit Base Txt Mem
structure Fits (s:S):Prop where
 lines:s.st=1∨s.st=6->s.lines<=1000
 fss:∀y∈s.r.fs,y.1.size<=1000000/\y.2.size<=1000000
 fsl:s.r.fs.length<=500
 tss:∀y∈s.r.ts,y.1.size<=1000000/\y.2.size<=1000000
 tsl:s.r.ts.length<=500
 body:s.r.body.length<=2000000
 out:s.out.length<=1000000000
theorem empty_of {x:ByteArray} (h:x.size=0):x=⟨#[]⟩:=by
 have:x.data.size=0:=h;cases x with
 | mk d=>
   have e:d= #[]:=Array.eq_empty_of_size_eq_zero this;rw [e]
theorem list_ne {x:ByteArray} (h:0<x.size):x.data.toList≠ []:=λe=>by
 have:x.size=0:=by rw [←len,e];rfl
 omega
section
set_option maxHeartbeats 4000000
set_option maxRecDepth 20000
attribute [local go_sem] Am
variable {w:World} {B:Zone} {g q:Nat} {v f bd t o:Value} {p:Nat} {b:Bd} {s:S}
theorem ended_size (hp:p<4294967296) (h3:16<=b.x3/\b.x3<=1048576) (h4:0<=b.x4) (x:ByteArray) (hx:x.size<=5000) (h:PR w B g q v f bd t o p b s) (hst:s.st=3) (ok:Fits s):Calls EW 161 #[ptr g,ZY x] w λr w'=>
 r=.returned (ZT #[])/\∃q1 v1 f1 bd1 t1 o1,PR w' B g q1 v1 f1 bd1 t1 o1 p b (s.ended p b x.data.toList)/\Step (blks g q v f bd t o) (blks g q1 v1 f1 bd1 t1 o1) w w':=by
 have es:s.ended p b x.data.toList=s.chunk p b x.data.toList:=by unfold S.ended;rw [hst];rfl
 rw [es];have c11:=h.cs.c11;rw [hst] at c11;have H:=Bx h;clear es
 have HC:=Bx (chunk_any hp h3 h4 x hx h ok.body);clear h hst;go_enter Tryz.func161,Tryz.ntmps161
 go_wp2_with (go_at_call 190;with_reducible refine HC.out.mono ?_;rintro r w2 ⟨rfl,q1,v1,f1,bd1,t1,hP,hS⟩);go_end0;exact ⟨rfl,q1,v1,f1,bd1,t1,o,hP,hS⟩
theorem XX2R2 {P:Prop} (h:P:=by
 refine ⟨?_,?_,?_,?_,?_,?_,?_,?_,?_,?_,?_,?_,trivial⟩
 all_goals (refine AP rfl (λev w1 hR hb hh=>?_);have e0:=hR.old 0 rfl;have e1:=hR.old 1 rfl;simp only [Ag,Cg,BY,BZ,Ds] at e0 e1;have q16:=(HQ.out.below hb).c 16 _ rfl;have q2:=(HQ.out.below hb).c 2 _ rfl;exact Each.std)):P:=h
theorem ended_fields (hp:p<4294967296) (h3:16<=b.x3/\b.x3<=1048576) (x:ByteArray) (hx:x.size<=5000) (h:PR w B g q v f bd t o p b s) (hst:s.st=1) (ok:Fits s):Calls EW 161 #[ptr g,ZY x] w λr w'=>
 r=.returned (ZT #[])/\∃q1 v1 f1 bd1 t1 o1,PR w' B g q1 v1 f1 bd1 t1 o1 p b (s.ended p b x.data.toList)/\Step (blks g q v f bd t o) (blks g q1 v1 f1 bd1 t1 o1) w w':=by
 have es:s.ended p b x.data.toList=s.fields p b x.data.toList:=by unfold S.ended;rw [hst];rfl
 rw [es];have c11:=h.cs.c11;rw [hst] at c11;have H:=Bx h;clear es;rcases CZ x.size with h0 | h0
 ·obtain rfl:=empty_of h0;have e:s.fields p b (⟨#[]⟩:ByteArray).data.toList=s.over p b:=by unfold S.fields;rfl
  rw [e]
  have HC:=Bx (over_any hp h3 h ok.fsl ok.fss ok.out);clear h hst e;go_enter Tryz.func161,Tryz.ntmps161
  go_wp2_with (go_at_call 188;with_reducible refine HC.out.mono ?_;rintro r w2 ⟨rfl,q1,v1,f1,bd1,t1,o1,hP,hS⟩);refine bodyPost_ret (results_none rfl _ _ _) rfl ?_;exact ⟨rfl,_,_,_,_,_,_,hP,hS⟩
 ·have hne:=list_ne h0;obtain ⟨bf,cbf,eb, -⟩:=CT h.own.F;subst eb;have te:=Fd.first_no x h0
  have HQ:=Bx ((H.out.drew 1).bk);unfold S.fields;rw [if_neg hne];have hfi:=λw1 (hb:Below w.heap.size w w1)=>fieldF_any hp x hx b.x1 (h.below hb) (ok.lines (.inl hst)) ok.fss ok.fsl;have hlt:=h.own.lt;cases hfv:fieldV p s.lines s.r.fs x.data.toList b.x1 with
  | inl e=>
    rw [hfv] at hfi;have HFI0:=Bx hfi;clear h hst hne h0 hfv hfi hlt;go_enter Tryz.func161,Tryz.ntmps161;go_upto_region 13 with fail
    refine Each.region 12 [78,79,80,81,82,83,84,85,86,87,88,89] [eP g 0,eP g 0,eP g 0,eP g 13,eP g 16,eQ (.slice bf s.r.fs.length cbf),eQ (ZY x),eP g 0,eP g 0,eP g 1,eP g 2,eQ (ZZ ZS b.x1)] (.act 12 (.quiet 13 .done)) (by kernel_rfl) (by kernel_rfl) (by kernel_rfl) (by kernel_rfl) (λ_ _ d _ _ h=>by cases d<;>exact h) (by rfl) (by rfl) (by repeat first | exact trivial | refine ⟨AK _,?_⟩) ?_ ?_
    ·exact XX2R2
    intro g1 w2 hb hf;have z78:g1 78= _:=hf.at 0;have z83:g1 83= _:=hf.at 5;have z84:g1 84= _:=hf.at 6;have z89:g1 89= _:=hf.at 11;clear hf;simp only [AU,Ab,CH,CK,CJ];rw [z78,z83,z84,z89];simp only [Ee,Ef,BZ,BY]
    have H1:=Bx (H.out.below hb)
    have HS1:=Bx (DP hb (L:=blks g q v (.slice bf s.r.fs.length cbf) bd t o))
    have HFI:=Bx (HFI0.out _ hb);clear hb HQ
    refine Ec (by rfl) (λK hK=>?_)
    refine Each.oper_enter (g:=189) (args:=#[ptr g,.slice bf s.r.fs.length cbf,ZY x,ZZ ZS b.x1]) (by go_simp) (HFI.out.mono ?_);rintro r w3 ⟨rfl,hP,hS⟩;refine ⟨_,rfl,?_⟩;refine hK _ _ trivial ?_;clear hK K;simp only [Ab,CH,CK,CJ];refine Tree.assign _ (by rfl) (by rfl) ?_;simp only [Ab,Act.eval,Ag,Cg,BZ,BY,Ds,CH,CK,CJ];refine Ed ?_;have c16:=hP.cs.c16;have z16:=hP.marks 16
    have HP2:=Bx (hP.put 16 nil (S.fail {s with lines:=s.lines+1} e) rfl rfl rfl rfl rfl rfl)
    have HS2:=Bx ((HS1.out.trans hS).trans (DS g 16 nil (by simp)));clear hP hS HFI H1 HS1;go_wp2;go_end0;exact ⟨rfl,_,_,_,_,_,_,HP2.out,HS2.out⟩
  | inr l=>
    rw [hfv] at hfi;have HFI0:=Bx hfi;clear h hst hne h0 hfv hfi hlt;go_enter Tryz.func161,Tryz.ntmps161;go_upto_region 13 with fail
    refine Each.region 12 [78,79,80,81,82,83,84,85,86,87,88,89] [eP g 0,eP g 0,eP g 0,eP g 13,eP g 16,eQ (.slice bf s.r.fs.length cbf),eQ (ZY x),eP g 0,eP g 0,eP g 1,eP g 2,eQ (ZZ ZS b.x1)] (.act 12 (.quiet 13 .done)) (by kernel_rfl) (by kernel_rfl) (by kernel_rfl) (by kernel_rfl) (λ_ _ d _ _ h=>by cases d<;>exact h) (by rfl) (by rfl) (by repeat first | exact trivial | refine ⟨AK _,?_⟩) ?_ ?_
    ·exact XX2R2
    intro g1 w2 hb hf;have z78:g1 78= _:=hf.at 0;have z83:g1 83= _:=hf.at 5;have z84:g1 84= _:=hf.at 6;have z89:g1 89= _:=hf.at 11;clear hf;simp only [AU,Ab,CH,CK,CJ];rw [z78,z83,z84,z89];simp only [Ee,Ef,BZ,BY]
    have H1:=Bx (H.out.below hb)
    have HS1:=Bx (DP hb (L:=blks g q v (.slice bf s.r.fs.length cbf) bd t o))
    have HFI:=Bx (HFI0.out _ hb);clear hb HQ
    refine Ec (by rfl) (λK hK=>?_)
    refine Each.oper_enter (g:=189) (args:=#[ptr g,.slice bf s.r.fs.length cbf,ZY x,ZZ ZS b.x1]) (by go_simp) (HFI.out.mono ?_);rintro r w3 ⟨u',rfl,hrow,how,hS⟩;obtain ⟨b9,c9,e9, -⟩:=CT how.F;subst e9;refine ⟨_,rfl,?_⟩;refine hK _ _ trivial ?_;clear hK K;simp only [Ab,CH,CK,CJ];refine Tree.assign _ (by rfl) (by rfl) ?_;simp only [Ab,Act.eval,Ag,Cg,BZ,BY,Ds,CH,CK,CJ];refine Ed ?_;have c16:=(Cs.of hrow).c16;have z16:=CV hrow 16
    have HR2:=Bx (row_setL hrow 16 (.slice b9 l.length c9))
    have HO2:=Bx (how.set 16 (.slice b9 l.length c9))
    have HS2:=Bx ((HS1.out.trans hS).trans (DS g 16 (.slice b9 l.length c9) (by simp)));clear hrow how hS HFI H1 HS1;go_wp2;go_end0;exact ⟨rfl,_,_,_,_,_,_,⟨HR2.out,HO2.out⟩,HS2.out⟩
theorem XX2Cw {P:Prop} (h:P:=by
 refine ⟨?_,?_,?_,?_,?_,?_,?_,?_,?_,?_,?_,?_,trivial⟩
 all_goals (refine AP rfl (λev w1 hR hb hh=>?_);have e0:=hR.old 0 rfl;have e1:=hR.old 1 rfl;simp only [Ag,Cg,BY,BZ,Ds] at e0 e1;have q19:=(HQ.out.below hb).c 19 _ rfl;have q6:=(HQ.out.below hb).c 6 _ rfl;exact Each.std)):P:=h
theorem ended_trail (hp:p<4294967296) (x:ByteArray) (hx:x.size<=5000) (h:PR w B g q v f bd t o p b s) (hst:s.st=6) (ok:Fits s):Calls EW 161 #[ptr g,ZY x] w λr w'=>
 r=.returned (ZT #[])/\∃q1 v1 f1 bd1 t1 o1,PR w' B g q1 v1 f1 bd1 t1 o1 p b (s.ended p b x.data.toList)/\Step (blks g q v f bd t o) (blks g q1 v1 f1 bd1 t1 o1) w w':=by
 have es:s.ended p b x.data.toList=s.trail p b x.data.toList:=by unfold S.ended;rw [hst];rfl
 rw [es];have c11:=h.cs.c11;rw [hst] at c11;have H:=Bx h;clear es;rcases CZ x.size with h0 | h0
 ·obtain rfl:=empty_of h0;have e:s.trail p b (⟨#[]⟩:ByteArray).data.toList=s.whole p b:=by unfold S.trail;rfl
  rw [e]
  have HC:=Bx (whole_any h ok.out);clear h hst e;go_enter Tryz.func161,Tryz.ntmps161
  go_wp2_with (go_at_call 158;with_reducible refine HC.out.mono ?_;rintro r w2 ⟨rfl,q1,o1,hP,hS⟩);refine bodyPost_ret (results_none rfl _ _ _) rfl ?_;exact ⟨rfl,_,_,_,_,_,_,hP,hS⟩
 ·have hne:=list_ne h0;obtain ⟨bt,cbt,eb, -⟩:=CT h.own.T;subst eb;have te:=Fd.first_no x h0
  have HQ:=Bx ((H.out.drew 1).bk);unfold S.trail;rw [if_neg hne];have hfi:=λw1 (hb:Below w.heap.size w w1)=>fieldT_any hp x hx b.x5 (h.below hb) (ok.lines (.inr hst)) ok.tss ok.tsl;have hlt:=h.own.lt;cases hfv:fieldV p s.lines s.r.ts x.data.toList b.x5 with
  | inl e=>
    rw [hfv] at hfi;have HFI0:=Bx hfi;clear h hst hne h0 hfv hfi hlt;go_enter Tryz.func161,Tryz.ntmps161;go_upto_region 18 with fail
    refine Each.region 12 [102,103,104,105,106,107,108,109,110,111,112,113] [eP g 0,eP g 0,eP g 0,eP g 13,eP g 19,eQ (.slice bt s.r.ts.length cbt),eQ (ZY x),eP g 0,eP g 0,eP g 1,eP g 6,eQ (ZZ ZS b.x5)] (.act 12 (.quiet 13 .done)) (by kernel_rfl) (by kernel_rfl) (by kernel_rfl) (by kernel_rfl) (λ_ _ d _ _ h=>by cases d<;>exact h) (by rfl) (by rfl) (by repeat first | exact trivial | refine ⟨AK _,?_⟩) ?_ ?_
    ·exact XX2Cw
    intro g1 w2 hb hf;have z102:g1 102= _:=hf.at 0;have z107:g1 107= _:=hf.at 5;have z108:g1 108= _:=hf.at 6;have z113:g1 113= _:=hf.at 11;clear hf;simp only [AU,Ab,CH,CK,CJ];rw [z102,z107,z108,z113];simp only [Ee,Ef,BZ,BY]
    have H1:=Bx (H.out.below hb)
    have HS1:=Bx (DP hb (L:=blks g q v f bd (.slice bt s.r.ts.length cbt) o))
    have HFI:=Bx (HFI0.out _ hb);clear hb HQ
    refine Ec (by rfl) (λK hK=>?_)
    refine Each.oper_enter (g:=189) (args:=#[ptr g,.slice bt s.r.ts.length cbt,ZY x,ZZ ZS b.x5]) (by go_simp) (HFI.out.mono ?_);rintro r w3 ⟨rfl,hP,hS⟩;refine ⟨_,rfl,?_⟩;refine hK _ _ trivial ?_;clear hK K;simp only [Ab,CH,CK,CJ];refine Tree.assign _ (by rfl) (by rfl) ?_;simp only [Ab,Act.eval,Ag,Cg,BZ,BY,Ds,CH,CK,CJ];refine Ed ?_;have c19:=hP.cs.c19;have z19:=hP.marks 19
    have HP2:=Bx (hP.put 19 nil (S.fail {s with lines:=s.lines+1} e) rfl rfl rfl rfl rfl rfl)
    have HS2:=Bx ((HS1.out.trans hS).trans (DS g 19 nil (by simp)));clear hP hS HFI H1 HS1;go_wp2;go_end0;exact ⟨rfl,_,_,_,_,_,_,HP2.out,HS2.out⟩
  | inr l=>
    rw [hfv] at hfi;have HFI0:=Bx hfi;clear h hst hne h0 hfv hfi hlt;go_enter Tryz.func161,Tryz.ntmps161;go_upto_region 18 with fail
    refine Each.region 12 [102,103,104,105,106,107,108,109,110,111,112,113] [eP g 0,eP g 0,eP g 0,eP g 13,eP g 19,eQ (.slice bt s.r.ts.length cbt),eQ (ZY x),eP g 0,eP g 0,eP g 1,eP g 6,eQ (ZZ ZS b.x5)] (.act 12 (.quiet 13 .done)) (by kernel_rfl) (by kernel_rfl) (by kernel_rfl) (by kernel_rfl) (λ_ _ d _ _ h=>by cases d<;>exact h) (by rfl) (by rfl) (by repeat first | exact trivial | refine ⟨AK _,?_⟩) ?_ ?_
    ·exact XX2Cw
    intro g1 w2 hb hf;have z102:g1 102= _:=hf.at 0;have z107:g1 107= _:=hf.at 5;have z108:g1 108= _:=hf.at 6;have z113:g1 113= _:=hf.at 11;clear hf;simp only [AU,Ab,CH,CK,CJ];rw [z102,z107,z108,z113];simp only [Ee,Ef,BZ,BY]
    have H1:=Bx (H.out.below hb)
    have HS1:=Bx (DP hb (L:=blks g q v f bd (.slice bt s.r.ts.length cbt) o))
    have HFI:=Bx (HFI0.out _ hb);clear hb HQ
    refine Ec (by rfl) (λK hK=>?_)
    refine Each.oper_enter (g:=189) (args:=#[ptr g,.slice bt s.r.ts.length cbt,ZY x,ZZ ZS b.x5]) (by go_simp) (HFI.out.mono ?_);rintro r w3 ⟨u',rfl,hrow,how,hS⟩;obtain ⟨b9,c9,e9, -⟩:=CT how.T;subst e9;refine ⟨_,rfl,?_⟩;refine hK _ _ trivial ?_;clear hK K;simp only [Ab,CH,CK,CJ];refine Tree.assign _ (by rfl) (by rfl) ?_;simp only [Ab,Act.eval,Ag,Cg,BZ,BY,Ds,CH,CK,CJ];refine Ed ?_;have c19:=(Cs.of hrow).c19;have z19:=CV hrow 19
    have HR2:=Bx (row_setL hrow 19 (.slice b9 l.length c9))
    have HO2:=Bx (how.set 19 (.slice b9 l.length c9))
    have HS2:=Bx ((HS1.out.trans hS).trans (DS g 19 (.slice b9 l.length c9) (by simp)));clear hrow how hS HFI H1 HS1;go_wp2;go_end0;exact ⟨rfl,_,_,_,_,_,_,⟨HR2.out,HO2.out⟩,HS2.out⟩
theorem XX5kR {P:Prop} (h:P:=by
 go_wp2;first | go_end0 | refine bodyPost_ret (results_none rfl _ _ _) rfl ?_
 first
  |exact ⟨rfl,_,_,_,_,_,_,H2.out,HS.out⟩
  |exact ⟨rfl,_,_,_,_,_,_,H2.out,HS2.out⟩
  |exact ⟨rfl,_,_,_,_,_,_,H7.out,HS7.out⟩):P:=h
theorem ended_first (hp:p<4294967296) (x:ByteArray) (hx:x.size<=5000) (h:PR w B g q v f bd t o p b s) (hst:s.st=0) (he:s.e=0):Calls EW 161 #[ptr g,ZY x] w λr w'=>
 r=.returned (ZT #[])/\∃q1 v1 f1 bd1 t1 o1,PR w' B g q1 v1 f1 bd1 t1 o1 p b (s.ended p b x.data.toList)/\Step (blks g q v f bd t o) (blks g q1 v1 f1 bd1 t1 o1) w w':=by
 have es:s.ended p b x.data.toList=s.first p b x.data.toList:=by unfold S.ended;rw [hst];rfl
 rw [es];have c11:=h.cs.c11;rw [hst] at c11;have H:=Bx h;clear es;have c25:=h.cs.c25;rw [he] at c25;rcases CZ x.size with h0 | h0
 ·obtain rfl:=empty_of h0;have c0:=h.cs.c0
  have HH:=Bx (λw=>D4 p hp 0 w);have c24:=h.cs.c24;have z24:=h.marks 24;cases hb:D0 p 0 with
  | true=>
    have e:s.first p b (⟨#[]⟩:ByteArray).data.toList={s with clean:=true}:=by show (if D0 p 0=true then ({s with clean:=true}:S) else s.fail 400)= _;rw [hb];rfl
    rw [e]
    have H2:=Bx (h.put 24 (ZW true) {s with clean:=true} rfl rfl rfl rfl rfl rfl);rw [hb] at HH;clear h hst e hx h0;go_enter Tryz.func161,Tryz.ntmps161
    go_wp2_with (go_at_call 44;with_reducible refine Cm (HH.out _) ?_);first | go_end0 | refine bodyPost_ret (results_none rfl _ _ _) rfl ?_
    exact ⟨rfl,_,_,_,_,_,_,H2.out,DS g 24 (ZW true) (by simp)⟩
  | false=>
    have e:s.first p b (⟨#[]⟩:ByteArray).data.toList=s.fail 400:=by show (if D0 p 0=true then ({s with clean:=true}:S) else s.fail 400)= _;rw [hb];rfl
    rw [e]
    have HFA:=Bx (fail_at h 400 400 rfl);rw [hb] at HH;clear h hst e hx h0 c24 z24;go_enter Tryz.func161,Tryz.ntmps161
    go_upto_region 5 with (first
     |(go_at_call 115;with_reducible refine HFA.out.mono ?_;rintro r w2 ⟨rfl,hP,hS⟩)
     |(go_at_call 44;with_reducible refine Cm (HH.out _) ?_))
    clear c0 c11 c25;have c25:=hP.cs.c25;have c24:=hP.cs.c24;have z24:=hP.marks 24;have c25':w2.cell? ⟨g,25,none⟩=some (ZZ ZS 400):=c25;clear c25
    have H2:=Bx (hP.put 24 (ZW false) (s.fail 400) rfl rfl rfl rfl rfl rfl)
    have HS:=Bx (hS.trans (DS g 24 (ZW false) (by simp)));clear hP hS HFA;exact XX5kR
 ·have hne:=list_ne h0;have te:=Fd.first_no x h0
  have HQ:=Bx ((h.drew 1).bk)
  have hz:=λw=>Rq.rrequest_any x p hp b.x0 b.x1 b.x2 b.x3 b.x4 b.x5 b.x6 b.x7 b.ch b.od w (by omega);unfold S.first;rw [if_neg hne];obtain ⟨⟨m1,t1,qk,qe⟩,hq⟩:∃Q,Rq.request (Rq.clOf p) b.od x.data.toList=Q:=⟨_,rfl⟩;rw [hq] at hz;simp only [Rq.rv] at hz;rw [hq];obtain ⟨qm,hqm⟩:∃qm,ba m1=qm:=⟨_,rfl⟩;obtain ⟨qt,hqt⟩:∃qt,ba t1=qt:=⟨_,rfl⟩;rw [hqm,hqt] at hz;have HZ:=Bx hz;simp only [hqm,hqt];clear hz hq hqm hqt hne h0 hx c25 he hst h;by_cases hqe:qe=0
  ·subst hqe;rw [if_neg (by decide)]
   have HZ:=Bx (show∀w,Calls EW 187 #[ZY x,ZZ ZQ (p:Int),ZU #[ZZ ZS b.x0,ZZ ZS b.x1,ZZ ZS b.x2,ZZ ZS b.x3,ZZ ZS b.x4,ZZ ZS b.x5,ZZ ZS b.x6,ZZ ZS b.x7,ZW b.ch,ZW b.od]] w λe w'=>e=.returned (ZT #[ZY qm,ZY qt,ZZ ZS (qk:Int),ZZ ZS 0])/\Below w.heap.size w w' from λw=>HZ.out w);go_enter Tryz.func161,Tryz.ntmps161;go_upto_region 6 with fail
   refine AW 19 [35,36,37,38,39,40,41,42,43,44,34,45,46,47,48,4,5,6,7] [eQ (ZY x),eP g 0,eP g 0,eP g 0,eQ (ZZ ZQ (p:Int)),eP g 0,eP g 0,eP g 1,eQ (ZU #[ZZ ZS b.x0,ZZ ZS b.x1,ZZ ZS b.x2,ZZ ZS b.x3,ZZ ZS b.x4,ZZ ZS b.x5,ZZ ZS b.x6,ZZ ZS b.x7,ZW b.ch,ZW b.od]),eQ (ZT #[ZY qm,ZY qt,ZZ ZS (qk:Int),ZZ ZS 0]),eQ (ZT #[ZY qm,ZY qt,ZZ ZS (qk:Int),ZZ ZS 0]),eQ (ZY qm),eQ (ZY qt),eQ (ZZ ZS (qk:Int)),eQ (ZZ ZS 0),eQ (ZY qm),eQ (ZY qt),eQ (ZZ ZS (qk:Int)),eQ (ZZ ZS 0)] (by kernel_rfl) (by kernel_rfl) (by kernel_rfl) (by kernel_rfl) (λ_ _ d _ _ h=>by cases d<;>exact h) (by rfl) (by rfl) (by repeat first | exact trivial | refine ⟨AK _,?_⟩) ?_ ?_
   ·refine ⟨?_,?_,?_,?_,?_,?_,?_,?_,?_,?_,?_,?_,?_,?_,?_,?_,?_,?_,?_,trivial⟩
    ·exact XXoMs
    ·exact XXoMs
    ·exact XXoMs
    ·exact XXoMs
    ·exact XXoMs
    ·exact XXoMs
    ·exact XXoMs
    ·exact XXoMs
    ·exact XXoMs
    ·refine AP rfl (λev w1 hR hb hh=>?_);have e35:ev (.tmp 35)= _:=hh.at 0;have e39:ev (.tmp 39)= _:=hh.at 1;have e43:ev (.tmp 43)= _:=hh.at 2;clear hh;have ef:=hR.func
     refine AG 187 #[ZY x,ZZ ZQ (p:Int),ZU #[ZZ ZS b.x0,ZZ ZS b.x1,ZZ ZS b.x2,ZZ ZS b.x3,ZZ ZS b.x4,ZZ ZS b.x5,ZZ ZS b.x6,ZZ ZS b.x7,ZW b.ch,ZW b.od]] (by go_simp) ((HZ.out w1).mono ?_);exact XXUgj
    ·exact XXoMs
    ·exact XXoMs
    ·exact XXoMs
    ·exact XXoMs
    ·exact XXoMs
    ·exact XXoMs
    ·exact XXoMs
    ·exact XXoMs
    ·exact XXoMs
   intro g1 w2 hb hf;have z4:g1 4= _:=hf.at 15;have z5:g1 5= _:=hf.at 16;have z6:g1 6= _:=hf.at 17;have z7:g1 7= _:=hf.at 18;clear hf;simp only [AU,Ab,CH,CK,CJ];rw [z4];rw [z5];rw [z6];rw [z7]
   have H1:=Bx (H.out.below hb);have HS1:=Bx (DP hb (L:=blks g q v f bd t o));clear hb HQ
   have H2:=Bx ((((H1.out.put 13 (ZY qm) {s with r:={s.r with m:=qm}} rfl rfl rfl rfl rfl rfl).put 14 (ZY qt) {s with r:={s.r with m:=qm,x:=qt}} rfl rfl rfl rfl rfl rfl).put 15 (ZZ ZS (qk:Int)) {s with r:={s.r with m:=qm,x:=qt,k:=(qk:Int)}} rfl rfl rfl rfl rfl rfl).put 11 (ZZ ZS 1) {s with r:={s.r with m:=qm,x:=qt,k:=(qk:Int)},st:=1} rfl rfl rfl rfl rfl rfl)
   have HS2:=Bx (HS1.out.trans ((((DS g 13 (ZY qm) (by simp)).trans (DS g 14 (ZY qt) (by simp))).trans (DS g 15 (ZZ ZS (qk:Int)) (by simp))).trans (DS g 11 (ZZ ZS 1) (by simp))));clear c11;have c11:=H1.out.cs.c11;have c13:=H1.out.cs.c13;have c14:=H1.out.cs.c14;have c15:=H1.out.cs.c15;have z11:=H1.out.marks 11;have z13:=H1.out.marks 13;have z14:=H1.out.marks 14;have z15:=H1.out.marks 15;exact XX5kR
  ·rw [if_pos hqe];have tz:¬(qe:Int)=0:=by omega
   have tz':((qe:Int)==0)=false:=beq_eq_false_iff_ne.2 tz;clear hqe;go_enter Tryz.func161,Tryz.ntmps161;go_upto_region 6 with fail
   refine AW 19 [35,36,37,38,39,40,41,42,43,44,34,45,46,47,48,4,5,6,7] [eQ (ZY x),eP g 0,eP g 0,eP g 0,eQ (ZZ ZQ (p:Int)),eP g 0,eP g 0,eP g 1,eQ (ZU #[ZZ ZS b.x0,ZZ ZS b.x1,ZZ ZS b.x2,ZZ ZS b.x3,ZZ ZS b.x4,ZZ ZS b.x5,ZZ ZS b.x6,ZZ ZS b.x7,ZW b.ch,ZW b.od]),eQ (ZT #[ZY qm,ZY qt,ZZ ZS (qk:Int),ZZ ZS (qe:Int)]),eQ (ZT #[ZY qm,ZY qt,ZZ ZS (qk:Int),ZZ ZS (qe:Int)]),eQ (ZY qm),eQ (ZY qt),eQ (ZZ ZS (qk:Int)),eQ (ZZ ZS (qe:Int)),eQ (ZY qm),eQ (ZY qt),eQ (ZZ ZS (qk:Int)),eQ (ZZ ZS (qe:Int))] (by kernel_rfl) (by kernel_rfl) (by kernel_rfl) (by kernel_rfl) (λ_ _ d _ _ h=>by cases d<;>exact h) (by rfl) (by rfl) (by repeat first | exact trivial | refine ⟨AK _,?_⟩) ?_ ?_
   ·refine ⟨?_,?_,?_,?_,?_,?_,?_,?_,?_,?_,?_,?_,?_,?_,?_,?_,?_,?_,?_,trivial⟩
    ·exact XXoMs
    ·exact XXoMs
    ·exact XXoMs
    ·exact XXoMs
    ·exact XXoMs
    ·exact XXoMs
    ·exact XXoMs
    ·exact XXoMs
    ·exact XXoMs
    ·refine AP rfl (λev w1 hR hb hh=>?_);have e35:ev (.tmp 35)= _:=hh.at 0;have e39:ev (.tmp 39)= _:=hh.at 1;have e43:ev (.tmp 43)= _:=hh.at 2;clear hh;have ef:=hR.func
     refine AG 187 #[ZY x,ZZ ZQ (p:Int),ZU #[ZZ ZS b.x0,ZZ ZS b.x1,ZZ ZS b.x2,ZZ ZS b.x3,ZZ ZS b.x4,ZZ ZS b.x5,ZZ ZS b.x6,ZZ ZS b.x7,ZW b.ch,ZW b.od]] (by go_simp) ((HZ.out w1).mono ?_);exact XXUgj
    ·exact XXoMs
    ·exact XXoMs
    ·exact XXoMs
    ·exact XXoMs
    ·exact XXoMs
    ·exact XXoMs
    ·exact XXoMs
    ·exact XXoMs
    ·exact XXoMs
   intro g1 w2 hb hf;have z4:g1 4= _:=hf.at 15;have z5:g1 5= _:=hf.at 16;have z6:g1 6= _:=hf.at 17;have z7:g1 7= _:=hf.at 18;clear hf;simp only [AU,Ab,CH,CK,CJ];rw [z4];rw [z5];rw [z6];rw [z7]
   have HFA:=Bx (fail_any (H.out.below hb) qe);have HS1:=Bx (DP hb (L:=blks g q v f bd t o));clear hb HQ
   go_wp2_with (go_at_call 115;with_reducible refine HFA.out.mono ?_;rintro r w4 ⟨rfl,hP,hS⟩);first | go_end0 | refine bodyPost_ret (results_none rfl _ _ _) rfl ?_
   exact ⟨rfl,_,_,_,_,_,_,hP,HS1.out.trans hS⟩
theorem XXwO9 {P:Prop} (h:P:=by
 refine Eg (by rfl) (ptr g) (λ_ _=>by go_simp) ?_;simp only [Ab,CH,CK,CJ];refine Eg (by rfl) (ZV (some ⟨g,11,none⟩)) (λ_ _=>by go_simp) ?_;simp only [Ab,CH,CK,CJ];have h1:=H.out.below hb;have ho:=H.out.own.line hb hr1 hq1;have d11:=h1.cs.c11;have z11:=h1.marks 11
 refine Ec (by rfl) (λK hK=>?_);go_simp;refine hK _ _ trivial ?_;clear hK K;refine Eg (by rfl) (ptr g) (λ_ _=>by go_simp) ?_;simp only [Ab,CH,CK,CJ];refine Eg (by rfl) (ZV (some ⟨g,12,none⟩)) (λ_ _=>by go_simp) ?_;simp only [Ab,CH,CK,CJ];have c12:=h1.cs.c12;have z12:=h1.marks 12
 refine Ec (by rfl) (λK hK=>?_);go_simp;refine hK _ _ trivial ?_;clear hK K;refine Ed ?_
 have HR:=Bx (row_setL (row_setL h1.row 11 (ZZ ZS 3)) 12 (ptr q1))
 have HO:=Bx ((ho.set 11 (ZZ ZS 3)).set 12 (ptr q1))
 have HS:=Bx ((Step.line (g:=g) (q:=q) (v:=v) (f:=f) (bd:=bd) (t:=t) (o:=o) hb hq1).trans ((DS g 11 (ZZ ZS 3) (by simp)).trans (DS g 12 (ptr q1) (by simp))));clear HQ HBW hr1 hq1 c12 z12 d11 z11 h1 ho hb;go_wp2;first | go_end0 | refine bodyPost_ret (results_none rfl _ _ _) rfl ?_
 exact ⟨rfl,_,_,_,_,_,_,⟨HR.out,HO.out⟩,HS.out⟩):P:=h
theorem ended_behind (x:ByteArray) (h:PR w B g q v f bd t o p b s) (hst:s.st=5):Calls EW 161 #[ptr g,ZY x] w λr w'=>
 r=.returned (ZT #[])/\∃q1 v1 f1 bd1 t1 o1,PR w' B g q1 v1 f1 bd1 t1 o1 p b (s.ended p b x.data.toList)/\Step (blks g q v f bd t o) (blks g q1 v1 f1 bd1 t1 o1) w w':=by
 have es:s.ended p b x.data.toList={s with st:=3,rd:=nl p b.x0}:=by unfold S.ended;rw [hst];rfl
 rw [es];have c11:=h.cs.c11;rw [hst] at c11;have H:=Bx h;clear es
 have HQ:=Bx ((h.drew 1).bk)
 have HBW:=Bx (show B<=(w.drewN 1).heap.size from Dd h.own.ge (Da (h.drew 1).own.lt));clear h hst;go_enter Tryz.func161,Tryz.ntmps161;go_upto_region 21 with fail
 clear c11;refine Each.region_float 12 [122,123,124,125,126,127,128,129,130,131,132,133] [eP g 0,eP g 0,eP g 0,eP g 0,eP g 0,eQ (ZZ ZQ (p:Int)),eP g 0,eP g 0,eP g 1,eP g 1,eQ (ZZ ZS b.x0),λv u=>∃q1,v=ptr q1/\w.heap.size<=q1/\Ln.Rr u B q1 nil p (nl p (b.x0))] [] 6 (some 1) (.quiet 12 (.quiet 13 (.act 14 (.quiet 15 (.quiet 16 (.act 17 .done)))))) (.quiet 1 (.quiet 12 (.quiet 13 (.act 14 (.quiet 15 (.quiet 16 (.act 17 .done))))))) (by kernel_rfl) (by kernel_rfl) (by kernel_rfl) (by kernel_rfl) (λk0 h=>by cases h;kernel_rfl) (λ_ _ d _ _ h=>by cases d<;>exact h) (by rfl) (by rfl) ⟨AK _,AK _,AK _,AK _,AK _,AK _,AK _,AK _,AK _,AK _,AK _,((λ_ _ _ hb h=>by obtain ⟨q1,e1,h1,h2⟩:=h;exact ⟨q1,e1,h1,rr_below h2 hb⟩)),trivial⟩ trivial (by rfl) ?_ ?_ ?_
 ·refine ⟨?_,?_,?_,?_,?_,?_,?_,?_,?_,?_,?_,?_,trivial⟩
  ·exact XXSdZ
  ·exact XXSdZ
  ·exact XXSdZ
  ·exact XXSdZ
  ·exact XXSdZ
  ·exact XXSdZ
  ·exact XXSdZ
  ·exact XXSdZ
  ·exact XXSdZ
  ·exact XXSdZ
  ·exact XXSdZ
  ·refine AP rfl (λev w1 hR hb hh=>?_);have e127:ev (.tmp 127)= _:=hh.at 0;have e132:ev (.tmp 132)= _:=hh.at 1;exact XXJwx
 ·intro g1 w2 hb hf;have z122:g1 122= _:=hf.at 0;have z123:g1 123= _:=hf.at 1;have z133:=hf.at 11;clear hf;obtain ⟨q1,e1,hq1,hr1⟩:=z133;simp only [AU,Ab,CH,CK,CJ];rw [e1,z122,z123];simp only [Ee,Ef,BZ,BY];exact XXwO9
 ·intro k0 hk0 g1 w2 hb hf;cases hk0;have z122:g1 122= _:=hf.at 0;have z133:=hf.at 11;clear hf;obtain ⟨q1,e1,hq1,hr1⟩:=z133;simp only [AU,Ab,CH,CK,CJ];rw [e1,z122];simp only [Ee,Ef,BZ,BY];refine Eg (by rfl) (ptr g) (λ_ _=>by go_simp) ?_;simp only [Ab,CH,CK,CJ];exact XXwO9
end
end Go.Proofs.YtdfabddnpgjepaaGreatDoor.Par
namespace Go.Proofs.YtdfabddnpgjepaaGreatDoor.Par
open Go.RowKit Base Txt Mem
section
set_option maxHeartbeats 4000000
set_option maxRecDepth 20000
attribute [local go_sem] Am
variable {w:World} {B:Zone} {g q:Nat} {v f bd t o:Value} {p:Nat} {b:Bd} {s:S}
theorem body_any (c:UInt8) (h:PR w B g q v f bd t o p b s) (hst0:s.st=2∨s.st=4) (hl:1<=s.left/\s.left<=2000000) (hbl:s.r.body.length<=2000000) (hout:s.out.length<=1000000000):Calls EW 116 #[ptr g,ZZ ZR (c.toNat:Int)] w λr w'=>
 r=.returned (ZT #[])/\∃q1 v1 f1 bd1 t1 o1,PR w' B g q1 v1 f1 bd1 t1 o1 p b (S.bodyB p b {s with fresh:=false} c)/\Step (blks g q v f bd t o) (blks g q1 v1 f1 bd1 t1 o1) w w':=by
 obtain ⟨iB,hi,hz0,hz1,hz2⟩:=info_parts byte_info;have I1:=Bx hi;have I2:=Bx hz0;have I3:=Bx hz1;have I4:=Bx hz2;obtain ⟨bb,cb,eb, -⟩:=CT h.own.D;subst eb;have H:=Bx h;have HBL:=Bx hbl;have HOU:=Bx hout
 have H1:=Bx (h.put 23 (ZW false) {s with fresh:=false} rfl rfl rfl rfl rfl rfl)
 have HS1:=Bx (DS (w:=w) (L:=blks g q v f (.slice bb s.r.body.length cb) t o) g 23 (ZW false) (by simp));have c23:=h.cs.c23;have z23:=h.marks 23;clear hi hz0 hz1 hz2 hbl hout h;by_cases hmore:1<s.left
 ·obtain ⟨k,hleft⟩:∃k,s.left=k+1:=⟨s.left-1,by omega⟩;have e:S.bodyB p b {s with fresh:=false} c={s with fresh:=false,r:={s.r with body:=s.r.body ++ [c]},left:=k}:=by
   unfold S.bodyB;show (if 1<s.left then ({s with fresh:=false,r:={s.r with body:=s.r.body ++ [c]},left:=s.left-1}:S) else _)= _;rw [if_pos hmore,hleft];rfl
  rw [e];obtain ⟨a1,a2⟩:=DD (k:Int) ⟨by omega,by omega⟩;have a3:(k:Int)+1-1=(k:Int):=by omega
  have t1:(0:Int)<(k:Int):=by omega
  have t1n:0<k:=by omega
  clear e hmore;rcases hst0 with hst | hst
  ·clear hl;have HST:=Bx hst;have HLE:=Bx hleft;clear hst hleft;have c11:w.cell? ⟨g,11,none⟩=some (ZZ ZS 2):=by have:=H.out.cs.c11;rw [HST.out] at this;exact this
   go_enter Tryz.func116,Tryz.ntmps116;go_upto_region 2 with fail
   generalize w.setCell ⟨g,23,none⟩ (ZW false)=W1 at *;clear c11 c23 z23;have c18:=H1.out.cs.c18;have z18:=H1.out.marks 18;go_upto_region 3 with
    (at_builtin;refine App.wpList_append_list _ rfl _ _ 22 rfl B 5 iB (.int .u8 0) 1 1 F0 I1.out I2.out I3.out I4.out rfl (by decide) (.slice bb s.r.body.length cb) s.r.body.length (DB s.r.body) rfl (H1.out.own.D.alloc (.cells #[D8 c] 5)) (some ⟨W1.heap.size,0,none⟩) 1 1 [D8 c] rfl rfl (λ_=>⟨W1.heap.size,0,rfl,λj u hu=>by rw [Di];exact (D6 W1 _ rfl 5 [D8 c]).c j u hu⟩) (λu hu=>by rw [CB.1 hu];rfl) (by have:=HBL.out;unfold maxLen;omega) (by have:=HBL.out;omega) (by have:=H1.out.own.lt;have:=H1.out.own.ge;simp;omega) ?_;intro v2 w5 hO5 hgr5 _ hor5;obtain ⟨b9,c9,e9, -⟩:=CT hO5;subst e9;have hk5:Keeps [(.slice bb s.r.body.length cb:Value).ownBlock] (W1.alloc (.cells #[D8 c] 5)) w5:=Keeps.grown hgr5 λk e=>by rw [e];exact CB.2 rfl
     have h4:=H1.out.below ((An _ _).alloc (Db _) (.cells #[D8 c] 5));have hl:(s.r.body ++ [c]).length=s.r.body.length+1:=by simp
     obtain ⟨ho5,hs5⟩:=h4.own.setD (bd':=.slice b9 (s.r.body.length+1) c9) (body':=s.r.body ++ [c]) hk5 (by rw [hl,Rec.vals_app];exact hO5) (by
      rcases hor5 with e | e
      ·exact .inl e
      ·exact .inr ⟨_,e,Db _⟩)
     have hrow:w5.heap[g]?= _:=hk5.row h4.row (λhm=>by
      have e:some g=(.slice bb s.r.body.length cb:Value).ownBlock:=by simpa using hm
      exact h4.own.lone.ne (i:=0) (j:=4) rfl (by decide) (by rw [e];rfl))
     have HR5:=Bx hrow;have HO5:=Bx ho5;have HS5:=Bx ((DP ((An W1.heap.size W1).alloc (Db _) (.cells #[D8 c] 5))).trans hs5);have d18:=row_cellL hrow (k:=18) rfl;have y18:=CV hrow 18;clear hO5 hgr5 hor5 hk5 h4 hl ho5 hs5 hrow c18 z18)
   have H6:=Bx (show PR (w5.setCell ⟨g,18,none⟩ (.slice b9 (s.r.body.length+1) c9)) B g q v f (.slice b9 (s.r.body.length+1) c9) t o p b {s with fresh:=false,r:={s.r with body:=s.r.body ++ [c]}} from ⟨row_setL HR5.out 18 (.slice b9 (s.r.body.length+1) c9),HO5.out.set 18 (.slice b9 (s.r.body.length+1) c9)⟩)
   have HS6:=Bx ((HS1.out.trans HS5.out).trans (DS g 18 (.slice b9 (s.r.body.length+1) c9) (by simp)));clear HR5 HO5 HS5 d18 y18 HS1;generalize w5.setCell ⟨g,18,none⟩ (.slice b9 (s.r.body.length+1) c9)=W6 at *;have c22:W6.cell? ⟨g,22,none⟩=some (ZZ ZS ((k:Int)+1)):=by have:=H6.out.cs.c22;rw [HLE.out] at this;exact this
   have z22:=H6.out.marks 22;have c11:W6.cell? ⟨g,11,none⟩=some (ZZ ZS 2):=by have:=H6.out.cs.c11;rw [HST.out] at this;exact this
   have H7:=Bx (H6.out.put 22 (ZZ ZS (k:Int)) {s with fresh:=false,r:={s.r with body:=s.r.body ++ [c]},left:=k} rfl rfl rfl rfl rfl rfl)
   have HS7:=Bx (HS6.out.trans (DS g 22 (ZZ ZS (k:Int)) (by simp)));clear HS6 H1;clear H6;exact XX5kR
  ·clear hl;have HST:=Bx hst;have HLE:=Bx hleft;clear hst hleft;have c11:w.cell? ⟨g,11,none⟩=some (ZZ ZS 4):=by have:=H.out.cs.c11;rw [HST.out] at this;exact this
   go_enter Tryz.func116,Tryz.ntmps116;go_upto_region 2 with fail
   generalize w.setCell ⟨g,23,none⟩ (ZW false)=W1 at *;clear c11 c23 z23;have c18:=H1.out.cs.c18;have z18:=H1.out.marks 18;go_upto_region 3 with
    (at_builtin;refine App.wpList_append_list _ rfl _ _ 22 rfl B 5 iB (.int .u8 0) 1 1 F0 I1.out I2.out I3.out I4.out rfl (by decide) (.slice bb s.r.body.length cb) s.r.body.length (DB s.r.body) rfl (H1.out.own.D.alloc (.cells #[D8 c] 5)) (some ⟨W1.heap.size,0,none⟩) 1 1 [D8 c] rfl rfl (λ_=>⟨W1.heap.size,0,rfl,λj u hu=>by rw [Di];exact (D6 W1 _ rfl 5 [D8 c]).c j u hu⟩) (λu hu=>by rw [CB.1 hu];rfl) (by have:=HBL.out;unfold maxLen;omega) (by have:=HBL.out;omega) (by have:=H1.out.own.lt;have:=H1.out.own.ge;simp;omega) ?_;intro v2 w5 hO5 hgr5 _ hor5;obtain ⟨b9,c9,e9, -⟩:=CT hO5;subst e9;have hk5:Keeps [(.slice bb s.r.body.length cb:Value).ownBlock] (W1.alloc (.cells #[D8 c] 5)) w5:=Keeps.grown hgr5 λk e=>by rw [e];exact CB.2 rfl
     have h4:=H1.out.below ((An _ _).alloc (Db _) (.cells #[D8 c] 5));have hl:(s.r.body ++ [c]).length=s.r.body.length+1:=by simp
     obtain ⟨ho5,hs5⟩:=h4.own.setD (bd':=.slice b9 (s.r.body.length+1) c9) (body':=s.r.body ++ [c]) hk5 (by rw [hl,Rec.vals_app];exact hO5) (by
      rcases hor5 with e | e
      ·exact .inl e
      ·exact .inr ⟨_,e,Db _⟩)
     have hrow:w5.heap[g]?= _:=hk5.row h4.row (λhm=>by
      have e:some g=(.slice bb s.r.body.length cb:Value).ownBlock:=by simpa using hm
      exact h4.own.lone.ne (i:=0) (j:=4) rfl (by decide) (by rw [e];rfl))
     have HR5:=Bx hrow;have HO5:=Bx ho5;have HS5:=Bx ((DP ((An W1.heap.size W1).alloc (Db _) (.cells #[D8 c] 5))).trans hs5);have d18:=row_cellL hrow (k:=18) rfl;have y18:=CV hrow 18;clear hO5 hgr5 hor5 hk5 h4 hl ho5 hs5 hrow c18 z18)
   have H6:=Bx (show PR (w5.setCell ⟨g,18,none⟩ (.slice b9 (s.r.body.length+1) c9)) B g q v f (.slice b9 (s.r.body.length+1) c9) t o p b {s with fresh:=false,r:={s.r with body:=s.r.body ++ [c]}} from ⟨row_setL HR5.out 18 (.slice b9 (s.r.body.length+1) c9),HO5.out.set 18 (.slice b9 (s.r.body.length+1) c9)⟩)
   have HS6:=Bx ((HS1.out.trans HS5.out).trans (DS g 18 (.slice b9 (s.r.body.length+1) c9) (by simp)));clear HR5 HO5 HS5 d18 y18 HS1;generalize w5.setCell ⟨g,18,none⟩ (.slice b9 (s.r.body.length+1) c9)=W6 at *;have c22:W6.cell? ⟨g,22,none⟩=some (ZZ ZS ((k:Int)+1)):=by have:=H6.out.cs.c22;rw [HLE.out] at this;exact this
   have z22:=H6.out.marks 22;have c11:W6.cell? ⟨g,11,none⟩=some (ZZ ZS 4):=by have:=H6.out.cs.c11;rw [HST.out] at this;exact this
   have H7:=Bx (H6.out.put 22 (ZZ ZS (k:Int)) {s with fresh:=false,r:={s.r with body:=s.r.body ++ [c]},left:=k} rfl rfl rfl rfl rfl rfl)
   have HS7:=Bx (HS6.out.trans (DS g 22 (ZZ ZS (k:Int)) (by simp)));clear HS6 H1;clear H6;exact XX5kR
 ·have hleft:s.left=1:=by omega
  rcases hst0 with hst | hst
  ·have e:S.bodyB p b {s with fresh:=false} c=S.whole p b {s with fresh:=false,r:={s.r with body:=s.r.body ++ [c]},left:=0}:=by
    unfold S.bodyB;show (if 1<s.left then _ else if s.st=2 then S.whole p b {s with fresh:=false,r:={s.r with body:=s.r.body ++ [c]},left:=s.left-1} else _)= _;rw [if_neg hmore,if_pos hst,hleft]
   rw [e];clear e hmore hl;have HST:=Bx hst;have HLE:=Bx hleft;clear hst hleft;have c11:w.cell? ⟨g,11,none⟩=some (ZZ ZS 2):=by have:=H.out.cs.c11;rw [HST.out] at this;exact this
   go_enter Tryz.func116,Tryz.ntmps116;go_upto_region 2 with fail
   generalize w.setCell ⟨g,23,none⟩ (ZW false)=W1 at *;clear c11 c23 z23;have c18:=H1.out.cs.c18;have z18:=H1.out.marks 18;go_upto_region 3 with
    (at_builtin;refine App.wpList_append_list _ rfl _ _ 22 rfl B 5 iB (.int .u8 0) 1 1 F0 I1.out I2.out I3.out I4.out rfl (by decide) (.slice bb s.r.body.length cb) s.r.body.length (DB s.r.body) rfl (H1.out.own.D.alloc (.cells #[D8 c] 5)) (some ⟨W1.heap.size,0,none⟩) 1 1 [D8 c] rfl rfl (λ_=>⟨W1.heap.size,0,rfl,λj u hu=>by rw [Di];exact (D6 W1 _ rfl 5 [D8 c]).c j u hu⟩) (λu hu=>by rw [CB.1 hu];rfl) (by have:=HBL.out;unfold maxLen;omega) (by have:=HBL.out;omega) (by have:=H1.out.own.lt;have:=H1.out.own.ge;simp;omega) ?_;intro v2 w5 hO5 hgr5 _ hor5;obtain ⟨b9,c9,e9, -⟩:=CT hO5;subst e9;have hk5:Keeps [(.slice bb s.r.body.length cb:Value).ownBlock] (W1.alloc (.cells #[D8 c] 5)) w5:=Keeps.grown hgr5 λk e=>by rw [e];exact CB.2 rfl
     have h4:=H1.out.below ((An _ _).alloc (Db _) (.cells #[D8 c] 5));have hl:(s.r.body ++ [c]).length=s.r.body.length+1:=by simp
     obtain ⟨ho5,hs5⟩:=h4.own.setD (bd':=.slice b9 (s.r.body.length+1) c9) (body':=s.r.body ++ [c]) hk5 (by rw [hl,Rec.vals_app];exact hO5) (by
      rcases hor5 with e | e
      ·exact .inl e
      ·exact .inr ⟨_,e,Db _⟩)
     have hrow:w5.heap[g]?= _:=hk5.row h4.row (λhm=>by
      have e:some g=(.slice bb s.r.body.length cb:Value).ownBlock:=by simpa using hm
      exact h4.own.lone.ne (i:=0) (j:=4) rfl (by decide) (by rw [e];rfl))
     have HR5:=Bx hrow;have HO5:=Bx ho5;have HS5:=Bx ((DP ((An W1.heap.size W1).alloc (Db _) (.cells #[D8 c] 5))).trans hs5);have d18:=row_cellL hrow (k:=18) rfl;have y18:=CV hrow 18;clear hO5 hgr5 hor5 hk5 h4 hl ho5 hs5 hrow c18 z18)
   have H6:=Bx (show PR (w5.setCell ⟨g,18,none⟩ (.slice b9 (s.r.body.length+1) c9)) B g q v f (.slice b9 (s.r.body.length+1) c9) t o p b {s with fresh:=false,r:={s.r with body:=s.r.body ++ [c]}} from ⟨row_setL HR5.out 18 (.slice b9 (s.r.body.length+1) c9),HO5.out.set 18 (.slice b9 (s.r.body.length+1) c9)⟩)
   have HS6:=Bx ((HS1.out.trans HS5.out).trans (DS g 18 (.slice b9 (s.r.body.length+1) c9) (by simp)));clear HR5 HO5 HS5 d18 y18 HS1;generalize w5.setCell ⟨g,18,none⟩ (.slice b9 (s.r.body.length+1) c9)=W6 at *;have c22:W6.cell? ⟨g,22,none⟩=some (ZZ ZS 1):=by have:=H6.out.cs.c22;rw [HLE.out] at this;exact this
   have z22:=H6.out.marks 22;have c11:W6.cell? ⟨g,11,none⟩=some (ZZ ZS 2):=by have:=H6.out.cs.c11;rw [HST.out] at this;exact this
   have H7:=Bx (H6.out.put 22 (ZZ ZS 0) {s with fresh:=false,r:={s.r with body:=s.r.body ++ [c]},left:=0} rfl rfl rfl rfl rfl rfl)
   have HS7:=Bx (HS6.out.trans (DS g 22 (ZZ ZS 0) (by simp)));clear HS6 H1;clear H6
   have HW:=Bx (whole_any H7.out HOU.out)
   go_wp2_with (go_at_call 158;with_reducible refine HW.out.mono ?_;rintro r w7 ⟨rfl,q1,o1,hP,hS⟩);first | go_end0 | refine bodyPost_ret (results_none rfl _ _ _) rfl ?_
   exact ⟨rfl,_,_,_,_,_,_,hP,HS7.out.trans hS⟩
  ·have e:S.bodyB p b {s with fresh:=false} c={s with fresh:=false,r:={s.r with body:=s.r.body ++ [c]},left:=0,st:=5,rd:=nl p 0}:=by
    unfold S.bodyB;show (if 1<s.left then _ else if s.st=2 then _ else ({s with fresh:=false,r:={s.r with body:=s.r.body ++ [c]},left:=s.left-1,st:=5,rd:=nl p 0}:S))= _;rw [if_neg hmore,if_neg (by omega),hleft]
   rw [e];clear e hmore hl;have HST:=Bx hst;have HLE:=Bx hleft;clear hst hleft;have c11:w.cell? ⟨g,11,none⟩=some (ZZ ZS 4):=by have:=H.out.cs.c11;rw [HST.out] at this;exact this
   go_enter Tryz.func116,Tryz.ntmps116;go_upto_region 2 with fail
   generalize w.setCell ⟨g,23,none⟩ (ZW false)=W1 at *;clear c11 c23 z23;have c18:=H1.out.cs.c18;have z18:=H1.out.marks 18;go_upto_region 3 with
    (at_builtin;refine App.wpList_append_list _ rfl _ _ 22 rfl B 5 iB (.int .u8 0) 1 1 F0 I1.out I2.out I3.out I4.out rfl (by decide) (.slice bb s.r.body.length cb) s.r.body.length (DB s.r.body) rfl (H1.out.own.D.alloc (.cells #[D8 c] 5)) (some ⟨W1.heap.size,0,none⟩) 1 1 [D8 c] rfl rfl (λ_=>⟨W1.heap.size,0,rfl,λj u hu=>by rw [Di];exact (D6 W1 _ rfl 5 [D8 c]).c j u hu⟩) (λu hu=>by rw [CB.1 hu];rfl) (by have:=HBL.out;unfold maxLen;omega) (by have:=HBL.out;omega) (by have:=H1.out.own.lt;have:=H1.out.own.ge;simp;omega) ?_;intro v2 w5 hO5 hgr5 _ hor5;obtain ⟨b9,c9,e9, -⟩:=CT hO5;subst e9;have hk5:Keeps [(.slice bb s.r.body.length cb:Value).ownBlock] (W1.alloc (.cells #[D8 c] 5)) w5:=Keeps.grown hgr5 λk e=>by rw [e];exact CB.2 rfl
     have h4:=H1.out.below ((An _ _).alloc (Db _) (.cells #[D8 c] 5));have hl:(s.r.body ++ [c]).length=s.r.body.length+1:=by simp
     obtain ⟨ho5,hs5⟩:=h4.own.setD (bd':=.slice b9 (s.r.body.length+1) c9) (body':=s.r.body ++ [c]) hk5 (by rw [hl,Rec.vals_app];exact hO5) (by
      rcases hor5 with e | e
      ·exact .inl e
      ·exact .inr ⟨_,e,Db _⟩)
     have hrow:w5.heap[g]?= _:=hk5.row h4.row (λhm=>by
      have e:some g=(.slice bb s.r.body.length cb:Value).ownBlock:=by simpa using hm
      exact h4.own.lone.ne (i:=0) (j:=4) rfl (by decide) (by rw [e];rfl))
     have HR5:=Bx hrow;have HO5:=Bx ho5;have HS5:=Bx ((DP ((An W1.heap.size W1).alloc (Db _) (.cells #[D8 c] 5))).trans hs5);have d18:=row_cellL hrow (k:=18) rfl;have y18:=CV hrow 18;clear hO5 hgr5 hor5 hk5 h4 hl ho5 hs5 hrow c18 z18)
   have H6:=Bx (show PR (w5.setCell ⟨g,18,none⟩ (.slice b9 (s.r.body.length+1) c9)) B g q v f (.slice b9 (s.r.body.length+1) c9) t o p b {s with fresh:=false,r:={s.r with body:=s.r.body ++ [c]}} from ⟨row_setL HR5.out 18 (.slice b9 (s.r.body.length+1) c9),HO5.out.set 18 (.slice b9 (s.r.body.length+1) c9)⟩)
   have HS6:=Bx ((HS1.out.trans HS5.out).trans (DS g 18 (.slice b9 (s.r.body.length+1) c9) (by simp)));clear HR5 HO5 HS5 d18 y18 HS1;generalize w5.setCell ⟨g,18,none⟩ (.slice b9 (s.r.body.length+1) c9)=W6 at *;have c22:W6.cell? ⟨g,22,none⟩=some (ZZ ZS 1):=by have:=H6.out.cs.c22;rw [HLE.out] at this;exact this
   have z22:=H6.out.marks 22;have c11:W6.cell? ⟨g,11,none⟩=some (ZZ ZS 4):=by have:=H6.out.cs.c11;rw [HST.out] at this;exact this
   have H7:=Bx (H6.out.put 22 (ZZ ZS 0) {s with fresh:=false,r:={s.r with body:=s.r.body ++ [c]},left:=0} rfl rfl rfl rfl rfl rfl)
   have HS7:=Bx (HS6.out.trans (DS g 22 (ZZ ZS 0) (by simp)));clear HS6 H1;clear H6;go_upto_region 4 with fail
   generalize W6.setCell ⟨g,22,none⟩ (ZZ ZS 0)=W7 at *;clear c22 z22 c11;have c0:=H7.out.cs.c0;have e11:=H7.out.cs.c11;have e12:=H7.out.cs.c12;have z11:=H7.out.marks 11;have z12:=H7.out.marks 12
   have HNL:=Bx (rnew_line (p:=p) B 0 W7 (Dd H7.out.own.ge (Da H7.out.own.lt)));go_wp2_with
    (go_at_call 113;with_reducible refine HNL.out.mono ?_;rintro r w8 ⟨q1,rfl,hq1,hr1,hb8⟩
     have d11:=(hb8.cell (p:=⟨g,11,none⟩) H7.out.own.lt).trans e11;have d12:=(hb8.cell (p:=⟨g,12,none⟩) H7.out.own.lt).trans e12;have y11:=(hb8.frozen (p:=⟨g,11,none⟩) H7.out.own.lt).trans z11;have y12:=(hb8.frozen (p:=⟨g,12,none⟩) H7.out.own.lt).trans z12
     have HR8:=Bx ((H7.out.below hb8).row);have HO8:=Bx (H7.out.own.line hb8 hr1 hq1);have HS8:=Bx (HS7.out.trans (Step.line hb8 hq1));clear hb8 hr1 hq1 e11 e12 z11 z12)
   first | go_end0 | refine bodyPost_ret (results_none rfl _ _ _) rfl ?_
   exact ⟨rfl,_,_,_,_,_,_,⟨row_setL (row_setL HR8.out 11 (ZZ ZS 5)) 12 (ptr q1),(HO8.out.set 11 (ZZ ZS 5)).set 12 (ptr q1)⟩,HS8.out.trans ((DS g 11 (ZZ ZS 5) (by simp)).trans (DS g 12 (ptr q1) (by simp)))⟩
end
end Go.Proofs.YtdfabddnpgjepaaGreatDoor.Par
namespace Go.Proofs.YtdfabddnpgjepaaGreatDoor.Par
open Go.RowKit Base Txt Mem
section
variable {w w':World} {B:Zone} {g q:Nat} {v f bd t o:Value} {p:Nat} {rd:Ln.R} {fs ts:List Fld} {body:List UInt8} {out:List D7}
theorem Own.reader (h:Own w B g q v f bd t o p rd fs body ts out) {v':Value} {rd':Ln.R} (hk:Ln.Kept q v.ownBlock w w') (hm:Ln.Moved w v.ownBlock v'.ownBlock) (hr:Ln.Rr w' B q v' p rd') :
 Own w' B g q v' f bd t o p rd' fs body ts out/\Step (blks g q v f bd t o) (blks g q v' f bd t o) w w'/\Keeps [some q,v.ownBlock] w w':=by
 have hk2:Keeps [some q,v.ownBlock] w w':=Keeps.of_kept hk (by simp) λk e=>by simp [e]
 have hn:∀i j,i≠1->i≠2->(blks g q v f bd t o)[i]?=some (some j)->some j∉ [some q,v.ownBlock]:=λi j h1 h2 hj hm=>by exact XXVqF
 have e:blks g q v' f bd t o=(blks g q v f bd t o).set 2 v'.ownBlock:=rfl;have ho:v'.ownBlock=none∨(blks g q v f bd t o)[2]?=some v'.ownBlock∨∃k,v'.ownBlock=some k/\w.heap.size<=k:=by
  rcases hm with e | e | e
  ·exact .inr (.inl (by rw [e];rfl))
  ·exact .inl e
  ·exact .inr (.inr e)
 have hof:Of w (blks g q v f bd t o) (blks g q v' f bd t o):=by rw [e];exact Of.set 2 _ ho
 have hkL:Keeps (blks g q v f bd t o) w w':=hk2.mono λk hk=>by
  rcases (by simpa using hk:k=q∨some k=v.ownBlock) with e | e
  ·simp [e]
  ·simp [e]
 obtain ⟨ps,h1,h2,h3⟩:=h.O
 refine ⟨⟨hr,hk2.own h.F λj e=>hn 3 j (by decide) (by decide) (by rw [←e];rfl),hk2.own h.D λj e=>hn 4 j (by decide) (by decide) (by rw [←e];rfl),hk2.own h.T λj e=>hn 5 j (by decide) (by decide) (by rw [←e];rfl),
  ⟨ps,h1,λx hx=>⟨(h2 x hx).1,by
    have hx2:=(h2 x hx).2.keeps hkL
    exact ⟨hx2.reads,λk hb=>⟨λhm=>by
     rcases hof k hm with e | e
     ·exact (hx2.far k hb).1 e
     ·exact absurd ((h2 x hx).2.far k hb).2 (by omega),(hx2.far k hb).2⟩,hx2.off⟩⟩,hk2.own h3 λj e=>hn 6 j (by decide) (by decide) (by rw [←e];rfl)⟩,?_,h.ge,Df h.lt hk2.size,h.zone.of hk2.size hof⟩,⟨hkL,hof⟩,hk2⟩
 rw [e];exact h.lone.set h.in 2 _ ho
theorem PR.reader {b:Bd} {s:S} (h:PR w B g q v f bd t o p b s) {v':Value} {rd':Ln.R} (hk:Ln.Kept q v.ownBlock w w') (hm:Ln.Moved w v.ownBlock v'.ownBlock) (hr:Ln.Rr w' B q v' p rd') :
 PR w' B g q v' f bd t o p b {s with rd:=rd'}/\Step (blks g q v f bd t o) (blks g q v' f bd t o) w w':=by
 obtain ⟨h1,h2,h3⟩:=h.own.reader hk hm hr;refine ⟨⟨h3.row h.row λhm=>?_,h1⟩,h2⟩;rcases (by simpa using hm:g=q∨some g=v.ownBlock) with e | e
 ·exact absurd (h.own.lone 0 1 g rfl (by rw [e];rfl)) (by decide)
 ·exact absurd (h.own.lone 0 2 g rfl (by rw [e];rfl)) (by decide)
end
section
set_option maxHeartbeats 4000000
set_option maxRecDepth 20000
attribute [local go_sem] Am
variable {w:World} {B:Zone} {g q:Nat} {v f bd t o:Value} {p:Nat} {b:Bd} {s:S}
theorem XXxcF {P:Prop} (h:P:=by
 clear h hst;go_enter Tryz.func160,Tryz.ntmps160
 go_wp2_with (first
  |(go_at_call 115;with_reducible refine HFA.out.mono ?_;rintro r w2 ⟨rfl,hP,hS⟩)
  |(go_at_call 44;with_reducible refine Cm (HH.out _) ?_))
 first | go_end0 | refine bodyPost_ret (results_none rfl _ _ _) rfl ?_
 exact ⟨rfl,hP,hS⟩):P:=h
theorem long_any (hp:p<4294967296) (c:UInt8) (h:PR w B g q v f bd t o p b s) (hs:s.st=0∨s.st=1∨s.st=3∨s.st=5∨s.st=6) (hb:s.st=5->D0 p 29=false):Calls EW 160 #[ptr g,ZZ ZR (c.toNat:Int)] w λr w'=>
 r=.returned (ZT #[])/\PR w' B g q v nil nil nil o p b (s.fail (longE s.st))/\Step (blks g q v f bd t o) (blks g q v nil nil nil o) w w':=by
 have HH:=Bx (λw=>D4 p hp 29 w);rcases hs with hst | hst | hst | hst | hst
 ·have e:longE s.st=414:=by rw [hst];rfl
  rw [e];clear hb e;have c11:w.cell? ⟨g,11,none⟩=some (ZZ ZS 0):=by have:=h.cs.c11;rw [hst] at this;exact this
  have HFA:=Bx (fail_at h 414 414 rfl);exact XXxcF
 ·have e:longE s.st=431:=by rw [hst];rfl
  rw [e];clear hb e;have c11:w.cell? ⟨g,11,none⟩=some (ZZ ZS 1):=by have:=h.cs.c11;rw [hst] at this;exact this
  have HFA:=Bx (fail_at h 431 431 rfl);exact XXxcF
 ·have e:longE s.st=400:=by rw [hst];rfl
  rw [e];clear hb e;have c11:w.cell? ⟨g,11,none⟩=some (ZZ ZS 3):=by have:=h.cs.c11;rw [hst] at this;exact this
  have HFA:=Bx (fail_at h 400 400 rfl);exact XXxcF
 ·have e:longE s.st=400:=by rw [hst];rfl
  rw [e];rw [hb hst] at HH;clear hb e;have c11:w.cell? ⟨g,11,none⟩=some (ZZ ZS 5):=by have:=h.cs.c11;rw [hst] at this;exact this
  have HFA:=Bx (fail_at h 400 400 rfl);have c0:=h.cs.c0;exact XXxcF
 ·have e:longE s.st=431:=by rw [hst];rfl
  rw [e];clear hb e;have c11:w.cell? ⟨g,11,none⟩=some (ZZ ZS 6):=by have:=h.cs.c11;rw [hst] at this;exact this
  have HFA:=Bx (fail_at h 431 431 rfl);exact XXxcF
end
end Go.Proofs.YtdfabddnpgjepaaGreatDoor.Par
namespace Go.Proofs.YtdfabddnpgjepaaGreatDoor.Par
open Go.RowKit Base Txt Mem
def lined (st:Nat):Prop:=st=0∨st=1∨st=3∨st=5∨st=6
structure LineOk (p:Nat) (q:Ln.R):Prop where
 lf:q.lf=D0 p 1
 cr:q.cr=D0 p 2
 most:q.most<=4096
 len:q.B.length<=q.most
theorem how_plain (q:Ln.R) (c:UInt8) (h:q.CR=false):q.how c=0∨q.how c=1∨q.how c=3∨q.how c=4:=by
 unfold Ln.R.how;rw [h]
 repeat' split
 all_goals simp_all
theorem byte_L (q:Ln.R) (c:UInt8) (h:q.how c=1∨q.how c=2):(q.byte c).L=q.B:=by
 unfold Ln.R.how at h;unfold Ln.R.byte
 repeat' split
 all_goals first | rfl |(exfalso;simp_all)
section
set_option maxHeartbeats 4000000
set_option maxRecDepth 20000
attribute [local go_sem] Am
variable {w:World} {B:Zone} {g q:Nat} {v f bd t o:Value} {p:Nat} {b:Bd} {s:S}
theorem ended_any (hp:p<4294967296) (h3:16<=b.x3/\b.x3<=1048576) (h4:0<=b.x4) (x:ByteArray) (hx:x.size<=5000) (h:PR w B g q v f bd t o p b s) (hs:lined s.st) (he:s.e=0) (ok:Fits s):Calls EW 161 #[ptr g,ZY x] w λr w'=>
 r=.returned (ZT #[])/\∃q1 v1 f1 bd1 t1 o1,PR w' B g q1 v1 f1 bd1 t1 o1 p b (s.ended p b x.data.toList)/\Step (blks g q v f bd t o) (blks g q1 v1 f1 bd1 t1 o1) w w':=by
 rcases hs with hst | hst | hst | hst | hst
 ·exact ended_first hp x hx h hst he
 ·exact ended_fields hp h3 x hx h hst ok
 ·exact ended_size hp h3 h4 x hx h hst ok
 ·exact ended_behind x h hst
 ·exact ended_trail hp x hx h hst ok
theorem XXRMR {P:Prop} (h:P:=by
 go_enter Tryz.func116,Tryz.ntmps116;go_upto_region 8 with fail
 generalize w.setCell ⟨g,23,none⟩ (ZW false)=W1 at *;clear c23 z23 c11;have c12:=H1.out.cs.c12
 go_wp2_with (first
  |(go_at_call 161;with_reducible refine (HEN.out _ _ _ HP2.out).mono ?_;rintro r w3 ⟨rfl,q1,v1,f1,bd1,t1,o1,hP3,hS3⟩)
  |(go_at_call 159;with_reducible refine HRB.out.mono ?_;rintro r w2 ⟨v2,rfl,hr2,hk2,hm2⟩
    obtain ⟨hP2,hS2⟩:=H1.out.reader hk2 hm2 hr2
    have HP2:=Bx hP2;have HS2:=Bx (HS1.out.trans hS2);have c11:=hP2.cs.c11;have c12:=hP2.cs.c12;have y4:w2.cell? ⟨q,4,none⟩=some (ZY x):=by rw [←HX.out];exact Ln.row_cell hr2.row (k:=4) rfl
    clear hr2 hk2 hm2 hP2 hS2))
 first | go_end0 | refine bodyPost_ret (results_none rfl _ _ _) rfl ?_
 exact ⟨rfl,_,_,_,_,_,_,hP3,HS2.out.trans hS3⟩):P:=h
theorem XXKEP {P:Prop} (h:P:=by
 go_enter Tryz.func116,Tryz.ntmps116;go_upto_region 8 with fail
 generalize w.setCell ⟨g,23,none⟩ (ZW false)=W1 at *;clear c23 z23 c11;have c12:=H1.out.cs.c12;go_wp2_with
  (go_at_call 159;with_reducible refine HRB.out.mono ?_;rintro r w2 ⟨v2,rfl,hr2,hk2,hm2⟩
   obtain ⟨hP2,hS2⟩:=H1.out.reader hk2 hm2 hr2
   have HP2:=Bx hP2;have HS2:=Bx (HS1.out.trans hS2);clear hr2 hk2 hm2 hP2 hS2)
 first | go_end0 | refine bodyPost_ret (results_none rfl _ _ _) rfl ?_
 exact ⟨rfl,_,_,_,_,_,_,HP2.out,HS2.out⟩):P:=h
theorem XXtPE {P:Prop} (h:P:=by exact ⟨rfl,_,_,_,_,_,_,hP3,HS2.out.trans hS3⟩):P:=h
theorem plain_any (hp:p<4294967296) (h3:16<=b.x3/\b.x3<=1048576) (h4:0<=b.x4) (c:UInt8) (h:PR w B g q v f bd t o p b s) (hs:lined s.st) (he:s.e=0) (ok:Fits s) (hl:LineOk p s.rd) (hcr:s.rd.CR=false) (h5:s.st=5->s.rd.how c=4->D0 p 29=false) :
 Calls EW 116 #[ptr g,ZZ ZR (c.toNat:Int)] w λr w'=>r=.returned (ZT #[])/\∃q1 v1 f1 bd1 t1 o1,PR w' B g q1 v1 f1 bd1 t1 o1 p b (s.plain p b c)/\Step (blks g q v f bd t o) (blks g q1 v1 f1 bd1 t1 o1) w w':=by
 have hbod:bodied s.st=false:=by rcases hs with e | e | e | e | e<;>rw [e]<;>rfl
 have t2:((s.st:Int)==2)=false:=beq_eq_false_iff_ne.2 (by rcases hs with e | e | e | e | e<;>omega)
 have t4:((s.st:Int)==4)=false:=beq_eq_false_iff_ne.2 (by rcases hs with e | e | e | e | e<;>omega);have n2:¬(s.st:Int)=2:=beq_eq_false_iff_ne.1 t2;have n4:¬(s.st:Int)=4:=beq_eq_false_iff_ne.1 t4;have m2:¬s.st=2:=by omega
 have m4:¬s.st=4:=by omega
 have H1:=Bx (h.put 23 (ZW false) {s with fresh:=false} rfl rfl rfl rfl rfl rfl)
 have HS1:=Bx (DS (w:=w) (L:=blks g q v f bd t o) g 23 (ZW false) (by simp));have c23:=h.cs.c23;have z23:=h.marks 23;have c11:=h.cs.c11;have hrb:=Ln.rbyte_any c s.rd hl.most p hp hl.lf hl.cr (w.setCell ⟨g,23,none⟩ (ZW false)) B q v H1.out.own.R;clear h;have hL:s.rd.how c=1->(s.rd.byte c).L.length<=5000:=λe=>by rw [byte_L s.rd c (.inl e)];have:=hl.len;have:=hl.most;omega
 rcases how_plain s.rd c hcr with hw | hw | hw | hw
 ·have e:s.plain p b c={s with fresh:=false,rd:=s.rd.byte c}:=by unfold S.plain;simp [hbod,hw]
  rw [e];rw [hw] at hrb;have HRB:=Bx hrb;clear e hw hL hrb h5 hbod hs he hl hcr ok;exact XXKEP
 ·have e:s.plain p b c=S.ended p b {s with fresh:=false,rd:=s.rd.byte c} (s.rd.byte c).L:=by unfold S.plain;simp [hbod,hw]
  rw [e];rw [hw] at hrb;have HRB:=Bx hrb;obtain ⟨x,hx⟩:∃x:ByteArray,ba (s.rd.byte c).L=x:=⟨_,rfl⟩;have hxl:(s.rd.byte c).L=x.data.toList:=by rw [←hx];simp [ba]
  have hxs:x.size<=5000:=by rw [←hx,ba_size];exact hL hw
  rw [hxl]
  have HEN:=Bx (λw2 q1 v1 (h:PR w2 B g q1 v1 f bd t o p b {s with fresh:=false,rd:=s.rd.byte c})=>ended_any hp h3 h4 x hxs h hs he ⟨ok.lines,ok.fss,ok.fsl,ok.tss,ok.tsl,ok.body,ok.out⟩);have HX:=Bx hx;clear e hw hL hrb h5 hbod hs he hl hcr ok hx hxl hxs;exact XXRMR
 ·have e:s.plain p b c=S.fail {s with fresh:=false,rd:=s.rd.byte c} 400:=by unfold S.plain;simp [hbod,hw]
  rw [e];rw [hw] at hrb;have HRB:=Bx hrb
  have HFA:=Bx (λw2 q1 v1 (h:PR w2 B g q1 v1 f bd t o p b {s with fresh:=false,rd:=s.rd.byte c})=>fail_at h 400 400 rfl);clear e hw hL hrb h5 hbod hs he hl hcr ok;go_enter Tryz.func116,Tryz.ntmps116;go_upto_region 8 with fail
  generalize w.setCell ⟨g,23,none⟩ (ZW false)=W1 at *;clear c23 z23 c11;have c12:=H1.out.cs.c12
  go_wp2_with (first
   |(go_at_call 115;with_reducible refine (HFA.out _ _ _ HP2.out).mono ?_;rintro r w3 ⟨rfl,hP3,hS3⟩)
   |(go_at_call 159;with_reducible refine HRB.out.mono ?_;rintro r w2 ⟨v2,rfl,hr2,hk2,hm2⟩
     obtain ⟨hP2,hS2⟩:=H1.out.reader hk2 hm2 hr2
     have HP2:=Bx hP2;have HS2:=Bx (HS1.out.trans hS2);have c11:=hP2.cs.c11;have c12:=hP2.cs.c12;have y4:=Ln.row_cell hr2.row (k:=4) rfl;clear hr2 hk2 hm2 hP2 hS2))
  first | go_end0 | refine bodyPost_ret (results_none rfl _ _ _) rfl ?_
  exact XXtPE
 ·have e:s.plain p b c=S.fail {s with fresh:=false,rd:=s.rd.byte c} (longE s.st):=by unfold S.plain;simp [hbod,hw]
  rw [e];have h6:=λe=>h5 e hw;rw [hw] at hrb;have HRB:=Bx hrb
  have HLO:=Bx (λw2 q1 v1 (h:PR w2 B g q1 v1 f bd t o p b {s with fresh:=false,rd:=s.rd.byte c})=>long_any hp c h hs h6);clear e hw hL hrb h5 h6 hbod hs he hl hcr ok;go_enter Tryz.func116,Tryz.ntmps116;go_upto_region 8 with fail
  generalize w.setCell ⟨g,23,none⟩ (ZW false)=W1 at *;clear c23 z23 c11;have c12:=H1.out.cs.c12
  go_wp2_with (first
   |(go_at_call 160;with_reducible refine (HLO.out _ _ _ HP2.out).mono ?_;rintro r w3 ⟨rfl,hP3,hS3⟩)
   |(go_at_call 159;with_reducible refine HRB.out.mono ?_;rintro r w2 ⟨v2,rfl,hr2,hk2,hm2⟩
     obtain ⟨hP2,hS2⟩:=H1.out.reader hk2 hm2 hr2
     have HP2:=Bx hP2;have HS2:=Bx (HS1.out.trans hS2);have c11:=hP2.cs.c11;have c12:=hP2.cs.c12;have y4:=Ln.row_cell hr2.row (k:=4) rfl;clear hr2 hk2 hm2 hP2 hS2))
  first | go_end0 | refine bodyPost_ret (results_none rfl _ _ _) rfl ?_
  exact XXtPE
end
end Go.Proofs.YtdfabddnpgjepaaGreatDoor.Par
namespace Go.Proofs.YtdfabddnpgjepaaGreatDoor.Par
open Go.RowKit Base Txt Mem
section
set_option maxHeartbeats 4000000
set_option maxRecDepth 20000
attribute [local go_sem] Am
variable {w:World} {B:Zone} {g q:Nat} {v f bd t o:Value} {p:Nat} {b:Bd} {s:S}
theorem XXdM0 {P:Prop} (h:P:=by
 have c25:w.cell? ⟨g,25,none⟩=some (ZZ ZS 0):=by have:=H.out.cs.c25;rw [he] at this;exact this
 clear hst he;go_enter Tryz.func72,Tryz.ntmps72;go_upto_region 3 with fail
 generalize w.setCell ⟨g,21,none⟩ (ZZ ZS ((s.head:Int)+1))=W1 at *;clear c11 c25 c21 z21 a1 a2
 have HQ:=Bx ((H1.out.drew 1).bk);refine AW 10 [35,36,37,38,39,40,41,42,43,44] [eP g 0,eP g 0,eP g 21,eQ (ZZ ZS (S1.head:Int)),eP g 0,eP g 0,eP g 1,eP g 3,eQ (ZZ ZS b.x2),eQ (ZW false)] (by kernel_rfl) (by kernel_rfl) (by kernel_rfl) (by kernel_rfl) (λ_ _ d _ _ h=>by cases d<;>exact h) (by rfl) (by rfl) (by repeat first | exact trivial | refine ⟨AK _,?_⟩) ?_ ?_
 ·refine ⟨?_,?_,?_,?_,?_,?_,?_,?_,?_,?_,trivial⟩
  all_goals (refine AP rfl (λev w1 hR hb hh=>?_);have e0:=hR.old 0 rfl;simp only [Ag,Cg,BY,BZ,Ds] at e0;have q21:=(HQ.out.below hb).c 21 _ rfl;have q3:=(HQ.out.below hb).c 3 _ rfl;have d1:=HT.out;exact Each.std)
 intro g1 w2 hb hf;have z44:g1 44= _:=hf.at 9;clear hf;simp only [AU,Ab,CH,CK,CJ];rw [z44]
 have H2:=Bx (H1.out.below hb);have HS2:=Bx (HS1.out.trans (DP hb));clear hb HQ;have c24:=H2.out.cs.c24;have z24:=H2.out.marks 24
 have H3:=Bx (H2.out.put 24 (ZW false) {S1 with clean:=false} rfl rfl rfl rfl rfl rfl)
 have HS3:=Bx (HS2.out.trans (DS g 24 (ZW false) (by simp)))
 have HB3:=Bx (HB.out _ {S1 with clean:=false} (.inl ⟨HD.out,by rw [←HSS.out],HT.out⟩) H3.out)
 go_wp2_with (go_at_call 116;with_reducible refine HB3.out.mono ?_;rintro r w3 ⟨rfl,q1,v1,f1,bd1,t1,o1,hP,hS⟩);first | go_end0 | refine bodyPost_ret (results_none rfl _ _ _) rfl ?_
 exact ⟨rfl,_,_,_,_,_,_,hP,HS3.out.trans hS⟩):P:=h
theorem XXUQs {P:Prop} (h:P:=by
 have c25:w.cell? ⟨g,25,none⟩=some (ZZ ZS 0):=by have:=H.out.cs.c25;rw [he] at this;exact this
 clear hst he;go_enter Tryz.func72,Tryz.ntmps72;go_upto_region 3 with fail
 generalize w.setCell ⟨g,21,none⟩ (ZZ ZS ((s.head:Int)+1))=W1 at *;clear c11 c25 c21 z21 a1 a2
 have HQ:=Bx ((H1.out.drew 1).bk);refine AW 10 [35,36,37,38,39,40,41,42,43,44] [eP g 0,eP g 0,eP g 21,eQ (ZZ ZS (S1.head:Int)),eP g 0,eP g 0,eP g 1,eP g 3,eQ (ZZ ZS b.x2),eQ (ZW true)] (by kernel_rfl) (by kernel_rfl) (by kernel_rfl) (by kernel_rfl) (λ_ _ d _ _ h=>by cases d<;>exact h) (by rfl) (by rfl) (by repeat first | exact trivial | refine ⟨AK _,?_⟩) ?_ ?_
 ·refine ⟨?_,?_,?_,?_,?_,?_,?_,?_,?_,?_,trivial⟩
  all_goals (refine AP rfl (λev w1 hR hb hh=>?_);have e0:=hR.old 0 rfl;simp only [Ag,Cg,BY,BZ,Ds] at e0;have q21:=(HQ.out.below hb).c 21 _ rfl;have q3:=(HQ.out.below hb).c 3 _ rfl;have d1:=HT.out;exact Each.std)
 intro g1 w2 hb hf;have z44:g1 44= _:=hf.at 9;clear hf;simp only [AU,Ab,CH,CK,CJ];rw [z44]
 have HFA:=Bx (fail_at (H1.out.below hb) 431 431 rfl);have HS2:=Bx (HS1.out.trans (DP hb));clear hb HQ
 go_wp2_with (go_at_call 115;with_reducible refine HFA.out.mono ?_;rintro r w3 ⟨rfl,hP,hS⟩);first | go_end0 | refine bodyPost_ret (results_none rfl _ _ _) rfl ?_
 exact ⟨rfl,_,_,_,_,_,_,hP,HS2.out.trans hS⟩):P:=h
theorem count_any (c:UInt8) (G:S->S) (h:PR w B g q v f bd t o p b s) (he:s.e=0) (hh:s.head<=1000000)
 (HB0:∀(w2:World) (s2:S),(headed s.st=true/\s2={s with head:=s.head+1,clean:=false}/\¬b.x2<(s2.head:Int))∨(headed s.st=false/\s2={s with clean:=false})->PR w2 B g q v f bd t o p b s2->Calls EW 116 #[ptr g,ZZ ZR (c.toNat:Int)] w2 λr w'=>
   r=.returned (ZT #[])/\∃q1 v1 f1 bd1 t1 o1,PR w' B g q1 v1 f1 bd1 t1 o1 p b (G s2)/\Step (blks g q v f bd t o) (blks g q1 v1 f1 bd1 t1 o1) w2 w') :
 Calls EW 72 #[ptr g,ZZ ZR (c.toNat:Int)] w λr w'=>r=.returned (ZT #[])/\∃q1 v1 f1 bd1 t1 o1,PR w' B g q1 v1 f1 bd1 t1 o1 p b (s.count b G)/\Step (blks g q v f bd t o) (blks g q1 v1 f1 bd1 t1 o1) w w':=by
 have HB:=Bx HB0;have H:=Bx h;unfold S.count;rw [if_neg (by rw [he];decide)];by_cases hd:headed s.st=true
 ·rw [if_pos hd];have hst0:s.st=0∨s.st=1∨s.st=6:=by
   unfold headed at hd;simp only [Az,beq_iff_eq] at hd;rcases hd with (e | e) | e
   ·exact .inl e
   ·exact .inr (.inl e)
   ·exact .inr (.inr e)
  obtain ⟨a1,a2⟩:=DD ((s.head:Int)+1) ⟨by omega,by omega⟩;obtain ⟨S1,hS1⟩:∃S1:S,{s with head:=s.head+1}=S1:=⟨_,rfl⟩
  have H1:=Bx (h.put 21 (ZZ ZS ((s.head:Int)+1)) {s with head:=s.head+1} rfl rfl rfl rfl rfl rfl)
  have HS1:=Bx (DS (w:=w) (L:=blks g q v f bd t o) g 21 (ZZ ZS ((s.head:Int)+1)) (by simp));have c21:=h.cs.c21;have z21:=h.marks 21;have HSS:=Bx hS1;have hd1:((s.head+1:Nat):Int)=(S1.head:Int):=by rw [←hS1]
  have e2:({s with head:=s.head+1,clean:=false}:S)={S1 with clean:=false}:=by rw [←hS1]
  have HD:=Bx hd;rw [hS1] at H1;rw [hd1,hS1,e2];clear h HB0 hS1 hd hh e2 hd1
  by_cases hov:b.x2<(S1.head:Int)
  ·rw [if_pos hov];have HT:=Bx hov;clear hov;rcases hst0 with hst | hst | hst
   ·have c11:w.cell? ⟨g,11,none⟩=some (ZZ ZS 0):=by have:=H.out.cs.c11;rw [hst] at this;exact this
    exact XXUQs
   ·have c11:w.cell? ⟨g,11,none⟩=some (ZZ ZS 1):=by have:=H.out.cs.c11;rw [hst] at this;exact this
    exact XXUQs
   ·have c11:w.cell? ⟨g,11,none⟩=some (ZZ ZS 6):=by have:=H.out.cs.c11;rw [hst] at this;exact this
    exact XXUQs
  ·rw [if_neg hov];have HT:=Bx hov;clear hov;rcases hst0 with hst | hst | hst
   ·have c11:w.cell? ⟨g,11,none⟩=some (ZZ ZS 0):=by have:=H.out.cs.c11;rw [hst] at this;exact this
    exact XXdM0
   ·have c11:w.cell? ⟨g,11,none⟩=some (ZZ ZS 1):=by have:=H.out.cs.c11;rw [hst] at this;exact this
    exact XXdM0
   ·have c11:w.cell? ⟨g,11,none⟩=some (ZZ ZS 6):=by have:=H.out.cs.c11;rw [hst] at this;exact this
    exact XXdM0
 ·rw [if_neg hd];have hn:¬s.st=0/\¬s.st=1/\¬s.st=6:=by
   unfold headed at hd;simp only [Az,beq_iff_eq,not_or] at hd;exact ⟨hd.1.1,hd.1.2,hd.2⟩
  obtain ⟨n0,n1,n6⟩:=hn
  have t0:((s.st:Int)==0)=false:=beq_eq_false_iff_ne.2 (by omega)
  have t1:((s.st:Int)==1)=false:=beq_eq_false_iff_ne.2 (by omega)
  have t6:((s.st:Int)==6)=false:=beq_eq_false_iff_ne.2 (by omega);have m0:¬(s.st:Int)=0:=by omega
  have m1:¬(s.st:Int)=1:=by omega
  have m6:¬(s.st:Int)=6:=by omega
  have c11:=h.cs.c11;have c25:w.cell? ⟨g,25,none⟩=some (ZZ ZS 0):=by have:=h.cs.c25;rw [he] at this;exact this
  have c24:=h.cs.c24;have z24:=h.marks 24
  have H3:=Bx (h.put 24 (ZW false) {s with clean:=false} rfl rfl rfl rfl rfl rfl)
  have HS3:=Bx (DS (w:=w) (L:=blks g q v f bd t o) g 24 (ZW false) (by simp))
  have HB3:=Bx (HB.out _ _ (.inr ⟨by simpa using hd,rfl⟩) H3.out);clear h HB0 hd hh he;go_enter Tryz.func72,Tryz.ntmps72
  go_wp2_with (go_at_call 116;with_reducible refine HB3.out.mono ?_;rintro r w3 ⟨rfl,q1,v1,f1,bd1,t1,o1,hP,hS⟩);first | go_end0 | refine bodyPost_ret (results_none rfl _ _ _) rfl ?_
  exact ⟨rfl,_,_,_,_,_,_,hP,HS3.out.trans hS⟩
end
end Go.Proofs.YtdfabddnpgjepaaGreatDoor.Par
namespace Go.Proofs.YtdfabddnpgjepaaGreatDoor.Par
open Go.RowKit Base Txt Mem
structure PlainOk (p:Nat) (s:S) (c:UInt8):Prop where
 e:s.e=0
 fit:Fits s
 st:lined s.st∨s.st=2∨s.st=4
 left:bodied s.st=true->1<=s.left/\s.left<=2000000
 line:lined s.st->LineOk p s.rd/\s.rd.CR=false/\(s.st=5->s.rd.how c=4->D0 p 29=false)
theorem PlainOk.of {p:Nat} {s s2:S} {c:UInt8} (h:PlainOk p s c) {k:Nat} {cl:Bool} (h2:s2={s with head:=k,clean:=cl}):PlainOk p s2 c:=by subst h2;exact ⟨h.e,⟨h.fit.lines,h.fit.fss,h.fit.fsl,h.fit.tss,h.fit.tsl,h.fit.body,h.fit.out⟩,h.st,h.left,h.line⟩
section
set_option maxHeartbeats 4000000
set_option maxRecDepth 20000
attribute [local go_sem] Am
variable {w:World} {B:Zone} {g q:Nat} {v f bd t o:Value} {p:Nat} {b:Bd} {s:S}
theorem once_any (hp:p<4294967296) (h3:16<=b.x3/\b.x3<=1048576) (h4:0<=b.x4) (c:UInt8) (h:PR w B g q v f bd t o p b s) (ok:PlainOk p s c) :
 Calls EW 116 #[ptr g,ZZ ZR (c.toNat:Int)] w λr w'=>r=.returned (ZT #[])/\∃q1 v1 f1 bd1 t1 o1,PR w' B g q1 v1 f1 bd1 t1 o1 p b (s.plain p b c)/\Step (blks g q v f bd t o) (blks g q1 v1 f1 bd1 t1 o1) w w':=by
 have key:∀hst:s.st=2∨s.st=4,Calls EW 116 #[ptr g,ZZ ZR (c.toNat:Int)] w λr w'=>
  r=.returned (ZT #[])/\∃q1 v1 f1 bd1 t1 o1,PR w' B g q1 v1 f1 bd1 t1 o1 p b (s.plain p b c)/\Step (blks g q v f bd t o) (blks g q1 v1 f1 bd1 t1 o1) w w':=by
  intro hst;have hb:bodied s.st=true:=by rcases hst with e | e<;>rw [e]<;>rfl
  have e:s.plain p b c=S.bodyB p b {s with fresh:=false} c:=by unfold S.plain;simp [hb]
  rw [e];exact body_any c h hst (ok.left hb) ok.fit.body ok.fit.out
 rcases ok.st with hs | hs | hs
 ·obtain ⟨h5,h6,h7⟩:=ok.line hs;exact plain_any hp h3 h4 c h hs ok.e ok.fit h5 h6 h7
 ·exact key (.inl hs)
 ·exact key (.inr hs)
theorem countOnce_any (hp:p<4294967296) (h3:16<=b.x3/\b.x3<=1048576) (h4:0<=b.x4) (c:UInt8) (h:PR w B g q v f bd t o p b s) (ok:PlainOk p s c) (hh:s.head<=1000000) :
 Calls EW 72 #[ptr g,ZZ ZR (c.toNat:Int)] w λr w'=>r=.returned (ZT #[])/\∃q1 v1 f1 bd1 t1 o1,PR w' B g q1 v1 f1 bd1 t1 o1 p b (s.count b λs=>s.plain p b c)/\Step (blks g q v f bd t o) (blks g q1 v1 f1 bd1 t1 o1) w w':=
 count_any c (λs=>s.plain p b c) h ok.e hh λw2 s2 hs h2=>once_any hp h3 h4 c h2 (by
  rcases hs with ⟨-,e, -⟩ | ⟨-,e⟩
  ·exact ok.of e
  ·exact ok.of (k:=s.head) (by rw [e]))
theorem XXjbB {P:Prop} (h:P:=by
 go_enter Tryz.func162,Tryz.ntmps162
 go_wp2_with (go_at_call 116;with_reducible refine HP.out.mono ?_;rintro r w3 ⟨rfl,q1,v1,f1,bd1,t1,o1,hP,hS⟩);first | go_end0 | refine bodyPost_ret (results_none rfl _ _ _) rfl ?_
 exact ⟨rfl,_,_,_,_,_,_,hP,HS2.out.trans hS⟩):P:=h
theorem XXPkf {P:Prop} (h:P:=by
 rw [e]
 replace c11:w.cell? ⟨g,11,none⟩=some (ZZ ZS 0):=by rw [hst] at c11;exact c11
 clear e h hst;go_enter Tryz.func162,Tryz.ntmps162
 go_wp2_with (go_at_call 72;with_reducible refine HBy.out.mono ?_;rintro r w3 ⟨rfl,q1,v1,f1,bd1,t1,o1,hP,hS⟩);first | go_end0 | refine bodyPost_ret (results_none rfl _ _ _) rfl ?_
 exact ⟨rfl,_,_,_,_,_,_,hP,hS⟩):P:=h
theorem XX9Mt {P:Prop} (h:P:=by
 rw [e]
 replace c11:w.cell? ⟨g,11,none⟩=some (ZZ ZS 6):=by rw [hst] at c11;exact c11
 clear e h hst;go_enter Tryz.func162,Tryz.ntmps162
 go_wp2_with (go_at_call 72;with_reducible refine HC.out.mono ?_;rintro r w3 ⟨rfl,q1,v1,f1,bd1,t1,o1,hP,hS⟩);first | go_end0 | refine bodyPost_ret (results_none rfl _ _ _) rfl ?_
 exact ⟨rfl,_,_,_,_,_,_,hP,HS2.out.trans hS⟩):P:=h
theorem again_any (hp:p<4294967296) (h3:16<=b.x3/\b.x3<=1048576) (h4:0<=b.x4) (c:UInt8) (was:Nat) (h:PR w B g q v f bd t o p b s) (ok:PlainOk p s c) (hh:s.head<=1000000) (hw:lined was) :
 Calls EW 162 #[ptr g,ZZ ZR (c.toNat:Int),ZZ ZS (was:Int)] w λr w'=>r=.returned (ZT #[])/\∃q1 v1 f1 bd1 t1 o1,PR w' B g q1 v1 f1 bd1 t1 o1 p b (DJ p b s c was)/\Step (blks g q v f bd t o) (blks g q1 v1 f1 bd1 t1 o1) w w':=by
 have c11:=h.cs.c11;have c24:=h.cs.c24;have z24:=h.marks 24
 have H2:=Bx (h.put 24 (ZW false) {s with clean:=false} rfl rfl rfl rfl rfl rfl)
 have HS2:=Bx (DS (w:=w) (L:=blks g q v f bd t o) g 24 (ZW false) (by simp));have ok2:PlainOk p {s with clean:=false} c:=ok.of (k:=s.head) rfl
 have HBy:=Bx (countOnce_any hp h3 h4 c h ok hh)
 have HC:=Bx (countOnce_any hp h3 h4 c H2.out ok2 hh)
 have HP:=Bx (once_any hp h3 h4 c H2.out ok2);clear ok ok2 hh;rcases hw with rfl | rfl | rfl | rfl | rfl
 ·rcases (by omega:s.st=0∨s.st=6∨(¬s.st=0/\¬s.st=6)) with hst | hst | ⟨n0,n6⟩
  ·have e:DJ p b s c 0=S.plain p b {s with clean:=false} c:=by simp [DJ,headed,hst]
   rw [e]
   replace c11:w.cell? ⟨g,11,none⟩=some (ZZ ZS 0):=by rw [hst] at c11;exact c11
   clear e h hst;exact XXjbB
  ·have e:DJ p b s c 0=S.plain p b {s with clean:=false} c:=by simp [DJ,headed,hst]
   rw [e]
   replace c11:w.cell? ⟨g,11,none⟩=some (ZZ ZS 6):=by rw [hst] at c11;exact c11
   clear e h hst;exact XXjbB
  ·have e:DJ p b s c 0=S.plain p b {s with clean:=false} c:=by simp [DJ,headed]
   rw [e]
   have t0:((s.st:Int)==0)=false:=beq_eq_false_iff_ne.2 (by omega)
   have t6:((s.st:Int)==6)=false:=beq_eq_false_iff_ne.2 (by omega);have m0:¬(s.st:Int)=0:=by omega
   have m6:¬(s.st:Int)=6:=by omega
   clear e h;exact XXjbB
 ·rcases (by omega:s.st=0∨s.st=6∨(¬s.st=0/\¬s.st=6)) with hst | hst | ⟨n0,n6⟩
  ·have e:DJ p b s c 1=s.count b λs=>s.plain p b c:=by simp [DJ,hst]
   exact XXPkf
  ·have e:DJ p b s c 1=S.plain p b {s with clean:=false} c:=by simp [DJ,headed,hst]
   rw [e]
   replace c11:w.cell? ⟨g,11,none⟩=some (ZZ ZS 6):=by rw [hst] at c11;exact c11
   clear e h hst;exact XXjbB
  ·have e:DJ p b s c 1=S.plain p b {s with clean:=false} c:=by simp [DJ,headed,n0]
   rw [e]
   have t0:((s.st:Int)==0)=false:=beq_eq_false_iff_ne.2 (by omega)
   have t6:((s.st:Int)==6)=false:=beq_eq_false_iff_ne.2 (by omega);have m0:¬(s.st:Int)=0:=by omega
   have m6:¬(s.st:Int)=6:=by omega
   clear e h;exact XXjbB
 ·rcases (by omega:s.st=0∨s.st=6∨(¬s.st=0/\¬s.st=6)) with hst | hst | ⟨n0,n6⟩
  ·have e:DJ p b s c 3=s.count b λs=>s.plain p b c:=by simp [DJ,hst]
   exact XXPkf
  ·have e:DJ p b s c 3=S.count b (λs=>s.plain p b c) {s with clean:=false}:=by simp [DJ,headed,hst]
   exact XX9Mt
  ·have e:DJ p b s c 3=S.plain p b {s with clean:=false} c:=by simp [DJ,headed,n0,n6]
   rw [e]
   have t0:((s.st:Int)==0)=false:=beq_eq_false_iff_ne.2 (by omega)
   have t6:((s.st:Int)==6)=false:=beq_eq_false_iff_ne.2 (by omega);have m0:¬(s.st:Int)=0:=by omega
   have m6:¬(s.st:Int)=6:=by omega
   clear e h;exact XXjbB
 ·rcases (by omega:s.st=0∨s.st=6∨(¬s.st=0/\¬s.st=6)) with hst | hst | ⟨n0,n6⟩
  ·have e:DJ p b s c 5=s.count b λs=>s.plain p b c:=by simp [DJ,hst]
   exact XXPkf
  ·have e:DJ p b s c 5=S.count b (λs=>s.plain p b c) {s with clean:=false}:=by simp [DJ,headed,hst]
   exact XX9Mt
  ·have e:DJ p b s c 5=S.plain p b {s with clean:=false} c:=by simp [DJ,headed,n0,n6]
   rw [e]
   have t0:((s.st:Int)==0)=false:=beq_eq_false_iff_ne.2 (by omega)
   have t6:((s.st:Int)==6)=false:=beq_eq_false_iff_ne.2 (by omega);have m0:¬(s.st:Int)=0:=by omega
   have m6:¬(s.st:Int)=6:=by omega
   clear e h;exact XXjbB
 ·rcases (by omega:s.st=0∨s.st=6∨(¬s.st=0/\¬s.st=6)) with hst | hst | ⟨n0,n6⟩
  ·have e:DJ p b s c 6=s.count b λs=>s.plain p b c:=by simp [DJ,hst]
   exact XXPkf
  ·have e:DJ p b s c 6=S.plain p b {s with clean:=false} c:=by simp [DJ,headed,hst]
   rw [e]
   replace c11:w.cell? ⟨g,11,none⟩=some (ZZ ZS 6):=by rw [hst] at c11;exact c11
   clear e h hst;exact XXjbB
  ·have e:DJ p b s c 6=S.plain p b {s with clean:=false} c:=by simp [DJ,headed,n0]
   rw [e]
   have t0:((s.st:Int)==0)=false:=beq_eq_false_iff_ne.2 (by omega)
   have t6:((s.st:Int)==6)=false:=beq_eq_false_iff_ne.2 (by omega);have m0:¬(s.st:Int)=0:=by omega
   have m6:¬(s.st:Int)=6:=by omega
   clear e h;exact XXjbB
end
end Go.Proofs.YtdfabddnpgjepaaGreatDoor.Par
namespace Go.Proofs.YtdfabddnpgjepaaGreatDoor.Par
open Go.RowKit Base Txt Mem
section
set_option maxHeartbeats 4000000
set_option maxRecDepth 20000
attribute [local go_sem] Am
variable {w:World} {B:Zone} {g q:Nat} {v f bd t o:Value} {p:Nat} {b:Bd} {s:S}
theorem XXxfD {P:Prop} (h:P:=by
 refine Eg (by rfl) (ptr g) (λ_ _=>by go_simp) ?_;simp only [Ab,CH,CK,CJ];refine Eg (by rfl) (ZV (some ⟨g,11,none⟩)) (λ_ _=>by go_simp) ?_;simp only [Ab,CH,CK,CJ];have h1:=H.out.below hb;have ho:=H.out.own.line hb hr1 hq1;have d11:=h1.cs.c11;have z11:=h1.marks 11
 refine Ec (by rfl) (λK hK=>?_);go_simp;refine hK _ _ trivial ?_;clear hK K;refine Eg (by rfl) (ptr g) (λ_ _=>by go_simp) ?_;simp only [Ab,CH,CK,CJ];refine Eg (by rfl) (ZV (some ⟨g,12,none⟩)) (λ_ _=>by go_simp) ?_;simp only [Ab,CH,CK,CJ];have c12:=h1.cs.c12;have z12:=h1.marks 12
 refine Ec (by rfl) (λK hK=>?_);go_simp;refine hK _ _ trivial ?_;clear hK K;refine Ed ?_;have HP2:Hid (PR ((w2.setCell ⟨g,11,none⟩ (ZZ ZS 3)).setCell ⟨g,12,none⟩ (ptr q1)) B g q1 nil f bd t o p b {s with st:=3,rd:=nl p b.x0}):=Bx ⟨row_setL (row_setL h1.row 11 (ZZ ZS 3)) 12 (ptr q1),(ho.set 11 (ZZ ZS 3)).set 12 (ptr q1)⟩
 have HS:=Bx ((Step.line (g:=g) (q:=q) (v:=v) (f:=f) (bd:=bd) (t:=t) (o:=o) hb hq1).trans ((DS g 11 (ZZ ZS 3) (by simp)).trans (DS g 12 (ptr q1) (by simp))))
 have HON:=Bx (HO.out _ _ HP2.out);clear HQ HBW hr1 hq1 c12 z12 d11 z11 h1 ho hb HP2;generalize (w2.setCell ⟨g,11,none⟩ (ZZ ZS 3)).setCell ⟨g,12,none⟩ (ptr q1)=W3 at *
 go_wp2_with (go_at_call 116;with_reducible refine HON.out.mono ?_;rintro r w4 ⟨rfl,q2,v2,f2,bd2,t2,o2,hP,hS⟩);first | go_end0 | refine bodyPost_ret (results_none rfl _ _ _) rfl ?_
 exact ⟨rfl,_,_,_,_,_,_,hP,HS.out.trans hS⟩):P:=h
theorem longEnd_any (hp:p<4294967296) (h3:16<=b.x3/\b.x3<=1048576) (h4:0<=b.x4) (c:UInt8) (h:PR w B g q v f bd t o p b s) (hst:s.st=5) (hh:D0 p 29=true) (ok:PlainOk p {s with st:=3,rd:=nl p b.x0} c):Calls EW 160 #[ptr g,ZZ ZR (c.toNat:Int)] w λr w'=>
 r=.returned (ZT #[])/\∃q1 v1 f1 bd1 t1 o1,PR w' B g q1 v1 f1 bd1 t1 o1 p b (S.plain p b {s with st:=3,rd:=nl p b.x0} c)/\Step (blks g q v f bd t o) (blks g q1 v1 f1 bd1 t1 o1) w w':=by
 have HH:=Bx (λw=>D4 p hp 29 w);rw [hh] at HH;have c11:w.cell? ⟨g,11,none⟩=some (ZZ ZS 5):=by have:=h.cs.c11;rw [hst] at this;exact this
 have c0:=h.cs.c0;have H:=Bx h
 have HO:=Bx (λw2 q1 (h:PR w2 B g q1 nil f bd t o p b {s with st:=3,rd:=nl p b.x0})=>once_any hp h3 h4 c h ok)
 have HQ:=Bx ((h.drew 1).bk)
 have HBW:=Bx (show B<=(w.drewN 1).heap.size from Dd h.own.ge (Da (h.drew 1).own.lt));clear h hst ok hh;go_enter Tryz.func160,Tryz.ntmps160
 go_upto_region 2 with (go_at_call 44;with_reducible refine Cm (HH.out _) ?_)
 clear c11 c0;refine Each.region_float 12 [19,20,21,22,23,24,25,26,27,28,29,30] [eP g 0,eP g 0,eP g 0,eP g 0,eP g 0,eQ (ZZ ZQ (p:Int)),eP g 0,eP g 0,eP g 1,eP g 1,eQ (ZZ ZS b.x0),λv u=>∃q1,v=ptr q1/\w.heap.size<=q1/\Ln.Rr u B q1 nil p (nl p (b.x0))] [] 6 (some 1) (.quiet 12 (.quiet 13 (.act 14 (.quiet 15 (.quiet 16 (.act 17 .done)))))) (.quiet 1 (.quiet 12 (.quiet 13 (.act 14 (.quiet 15 (.quiet 16 (.act 17 .done))))))) (by kernel_rfl) (by kernel_rfl) (by kernel_rfl) (by kernel_rfl) (λk0 h=>by cases h;kernel_rfl) (λ_ _ d _ _ h=>by cases d<;>exact h) (by rfl) (by rfl) ⟨AK _,AK _,AK _,AK _,AK _,AK _,AK _,AK _,AK _,AK _,AK _,((λ_ _ _ hb h=>by obtain ⟨q1,e1,h1,h2⟩:=h;exact ⟨q1,e1,h1,rr_below h2 hb⟩)),trivial⟩ trivial (by rfl) ?_ ?_ ?_
 ·refine ⟨?_,?_,?_,?_,?_,?_,?_,?_,?_,?_,?_,?_,trivial⟩
  ·exact XXSdZ
  ·exact XXSdZ
  ·exact XXSdZ
  ·exact XXSdZ
  ·exact XXSdZ
  ·exact XXSdZ
  ·exact XXSdZ
  ·exact XXSdZ
  ·exact XXSdZ
  ·exact XXSdZ
  ·exact XXSdZ
  ·refine AP rfl (λev w1 hR hb hh=>?_);have e24:ev (.tmp 24)= _:=hh.at 0;have e29:ev (.tmp 29)= _:=hh.at 1;exact XXJwx
 ·intro g1 w2 hb hf;have z19:g1 19= _:=hf.at 0;have z20:g1 20= _:=hf.at 1;have z30:=hf.at 11;clear hf;obtain ⟨q1,e1,hq1,hr1⟩:=z30;simp only [AU,Ab,CH,CK,CJ];rw [e1,z19,z20];simp only [Ee,Ef,BZ,BY];exact XXxfD
 ·intro k0 hk0 g1 w2 hb hf;cases hk0;have z19:g1 19= _:=hf.at 0;have z30:=hf.at 11;clear hf;obtain ⟨q1,e1,hq1,hr1⟩:=z30;simp only [AU,Ab,CH,CK,CJ];rw [e1,z19];simp only [Ee,Ef,BZ,BY];refine Eg (by rfl) (ptr g) (λ_ _=>by go_simp) ?_;simp only [Ab,CH,CK,CJ];exact XXxfD
end
end Go.Proofs.YtdfabddnpgjepaaGreatDoor.Par
namespace Go.Proofs.YtdfabddnpgjepaaGreatDoor.Par
open Go.RowKit Base Txt Mem
theorem how_is (q:Ln.R) (c:UInt8):q.how c=0∨q.how c=1∨q.how c=2∨q.how c=3∨q.how c=4:=by
 unfold Ln.R.how
 repeat' split
 all_goals simp
section
set_option maxHeartbeats 4000000
set_option maxRecDepth 20000
attribute [local go_sem] Am
variable {w:World} {B:Zone} {g q:Nat} {v f bd t o:Value} {p:Nat} {b:Bd} {s:S}
theorem byte_any (hp:p<4294967296) (h3:16<=b.x3/\b.x3<=1048576) (h4:0<=b.x4) (c:UInt8) (h:PR w B g q v f bd t o p b s) (hs:lined s.st) (he:s.e=0) (ok:Fits s) (hl:LineOk p s.rd)
 (hlong:s.st=5->s.rd.how c=4->D0 p 29=true->PlainOk p {s with fresh:=false,rd:=nl p b.x0,st:=3} c)
 (hag:s.rd.how c=2->(S.ended p b {s with fresh:=false,rd:=s.rd.byte c} (s.rd.byte c).L).e=0->PlainOk p (S.ended p b {s with fresh:=false,rd:=s.rd.byte c} (s.rd.byte c).L) c/\(S.ended p b {s with fresh:=false,rd:=s.rd.byte c} (s.rd.byte c).L).head<=1000000) :
 Calls EW 116 #[ptr g,ZZ ZR (c.toNat:Int)] w λr w'=>r=.returned (ZT #[])/\∃q1 v1 f1 bd1 t1 o1,PR w' B g q1 v1 f1 bd1 t1 o1 p b (s.byte1 p b c)/\Step (blks g q v f bd t o) (blks g q1 v1 f1 bd1 t1 o1) w w':=by
 have hbod:bodied s.st=false:=by rcases hs with e | e | e | e | e<;>rw [e]<;>rfl
 have t2:((s.st:Int)==2)=false:=beq_eq_false_iff_ne.2 (by rcases hs with e | e | e | e | e<;>omega)
 have t4:((s.st:Int)==4)=false:=beq_eq_false_iff_ne.2 (by rcases hs with e | e | e | e | e<;>omega);have n2:¬(s.st:Int)=2:=beq_eq_false_iff_ne.1 t2;have n4:¬(s.st:Int)=4:=beq_eq_false_iff_ne.1 t4;have m2:¬s.st=2:=by omega
 have m4:¬s.st=4:=by omega
 have H1:=Bx (h.put 23 (ZW false) {s with fresh:=false} rfl rfl rfl rfl rfl rfl)
 have HS1:=Bx (DS (w:=w) (L:=blks g q v f bd t o) g 23 (ZW false) (by simp));have c23:=h.cs.c23;have z23:=h.marks 23;have c11:=h.cs.c11;have hrb:=Ln.rbyte_any c s.rd hl.most p hp hl.lf hl.cr (w.setCell ⟨g,23,none⟩ (ZW false)) B q v H1.out.own.R;clear h;have hL:(s.rd.how c=1∨s.rd.how c=2)->(s.rd.byte c).L.length<=5000:=λe=>by rw [byte_L s.rd c e];have:=hl.len;have:=hl.most;omega
 rcases how_is s.rd c with hw | hw | hw | hw | hw
 ·have e:s.byte1 p b c={s with fresh:=false,rd:=s.rd.byte c}:=by unfold S.byte1;simp [hbod,hw]
  rw [e];rw [hw] at hrb;have HRB:=Bx hrb;clear e hw hL hrb hbod hs he hl ok hlong hag;exact XXKEP
 ·have e:s.byte1 p b c=S.ended p b {s with fresh:=false,rd:=s.rd.byte c} (s.rd.byte c).L:=by unfold S.byte1;simp [hbod,hw]
  rw [e];rw [hw] at hrb;have HRB:=Bx hrb;obtain ⟨x,hx⟩:∃x:ByteArray,ba (s.rd.byte c).L=x:=⟨_,rfl⟩;have hxl:(s.rd.byte c).L=x.data.toList:=by rw [←hx];simp [ba]
  have hxs:x.size<=5000:=by rw [←hx,ba_size];exact hL (.inl hw)
  have HEN:=Bx (λw2 q1 v1 (h:PR w2 B g q1 v1 f bd t o p b {s with fresh:=false,rd:=s.rd.byte c})=>ended_any hp h3 h4 x hxs h hs he ⟨ok.lines,ok.fss,ok.fsl,ok.tss,ok.tsl,ok.body,ok.out⟩);have HX:=Bx hx;rw [hxl];clear e hw hL hrb hbod hs he hl ok hlong hag hx hxl hxs;exact XXRMR
 ·rw [hw] at hrb;have HRB:=Bx hrb;obtain ⟨x,hx⟩:∃x:ByteArray,ba (s.rd.byte c).L=x:=⟨_,rfl⟩;have hxl:(s.rd.byte c).L=x.data.toList:=by rw [←hx];simp [ba]
  have hxs:x.size<=5000:=by rw [←hx,ba_size];exact hL (.inr hw)
  have HEN:=Bx (λw2 q1 v1 (h:PR w2 B g q1 v1 f bd t o p b {s with fresh:=false,rd:=s.rd.byte c})=>ended_any hp h3 h4 x hxs h hs he ⟨ok.lines,ok.fss,ok.fsl,ok.tss,ok.tsl,ok.body,ok.out⟩);have HX:=Bx hx;rw [hxl] at hag;obtain ⟨s3,hs3⟩:∃s3,S.ended p b {s with fresh:=false,rd:=s.rd.byte c} x.data.toList=s3:=⟨_,rfl⟩;rw [hs3] at hag HEN;by_cases he3:s3.e=0
  ·obtain ⟨ok3,hh3⟩:=hag hw he3;have e:s.byte1 p b c=DJ p b s3 c s.st:=by
    unfold S.byte1;simp [hbod,hw,hxl,hs3,he3]
   rw [e]
   have HAG:=Bx (λw2 q1 v1 f1 bd1 t1 o1 (h:PR w2 B g q1 v1 f1 bd1 t1 o1 p b s3)=>again_any hp h3 h4 c s.st h ok3 hh3 hs);have HE2:=Bx he3;clear e hw hL hrb hbod hs he hl ok hlong hag hx hxl hxs hs3 he3 ok3 hh3;go_enter Tryz.func116,Tryz.ntmps116;go_upto_region 8 with fail
   generalize w.setCell ⟨g,23,none⟩ (ZW false)=W1 at *;clear c23 z23 c11;have c12:=H1.out.cs.c12
   go_wp2_with (first
    |(go_at_call 162;with_reducible refine (HAG.out _ _ _ _ _ _ _ HP3.out).mono ?_;rintro r w4 ⟨rfl,q2,v3,f2,bd2,t2',o2,hP4,hS4⟩)
    |(go_at_call 161;with_reducible refine (HEN.out _ _ _ HP2.out).mono ?_;rintro r w3 ⟨rfl,q1,v1,f1,bd1,t1,o1,hP3,hS3⟩
      have HP3:=Bx hP3;have HS3:=Bx (HS2.out.trans hS3);have c25:w3.cell? ⟨g,25,none⟩=some (ZZ ZS 0):=by have:=hP3.cs.c25;rw [HE2.out] at this;exact this
      clear hP3 hS3)
    |(go_at_call 159;with_reducible refine HRB.out.mono ?_;rintro r w2 ⟨v2,rfl,hr2,hk2,hm2⟩
      obtain ⟨hP2,hS2⟩:=H1.out.reader hk2 hm2 hr2
      have HP2:=Bx hP2;have HS2:=Bx (HS1.out.trans hS2);have c11:=hP2.cs.c11;have c12:=hP2.cs.c12;have y4:w2.cell? ⟨q,4,none⟩=some (ZY x):=by rw [←HX.out];exact Ln.row_cell hr2.row (k:=4) rfl
      clear hr2 hk2 hm2 hP2 hS2))
   first | go_end0 | refine bodyPost_ret (results_none rfl _ _ _) rfl ?_
   exact ⟨rfl,_,_,_,_,_,_,hP4,HS3.out.trans hS4⟩
  ·have e:s.byte1 p b c=s3:=by
    unfold S.byte1;simp [hbod,hw,hxl,hs3,he3]
   rw [e];obtain ⟨k,hk⟩:∃k,s3.e=k:=⟨_,rfl⟩
   have t5:((k:Int)==0)=false:=beq_eq_false_iff_ne.2 (by omega);have n5:¬(k:Int)=0:=by omega
   have n6:¬k=0:=by omega
   have HE2:=Bx hk;clear e hw hL hrb hbod hs he hl ok hlong hag hx hxl hxs hs3 he3 hk;go_enter Tryz.func116,Tryz.ntmps116;go_upto_region 8 with fail
   generalize w.setCell ⟨g,23,none⟩ (ZW false)=W1 at *;clear c23 z23 c11;have c12:=H1.out.cs.c12
   go_wp2_with (first
    |(go_at_call 161;with_reducible refine (HEN.out _ _ _ HP2.out).mono ?_;rintro r w3 ⟨rfl,q1,v1,f1,bd1,t1,o1,hP3,hS3⟩
      have HP3:=Bx hP3;have HS3:=Bx (HS2.out.trans hS3);have c25:w3.cell? ⟨g,25,none⟩=some (ZZ ZS (k:Int)):=by have:=hP3.cs.c25;rw [HE2.out] at this;exact this
      clear hP3 hS3)
    |(go_at_call 159;with_reducible refine HRB.out.mono ?_;rintro r w2 ⟨v2,rfl,hr2,hk2,hm2⟩
      obtain ⟨hP2,hS2⟩:=H1.out.reader hk2 hm2 hr2
      have HP2:=Bx hP2;have HS2:=Bx (HS1.out.trans hS2);have c11:=hP2.cs.c11;have c12:=hP2.cs.c12;have y4:w2.cell? ⟨q,4,none⟩=some (ZY x):=by rw [←HX.out];exact Ln.row_cell hr2.row (k:=4) rfl
      clear hr2 hk2 hm2 hP2 hS2))
   first | go_end0 | refine bodyPost_ret (results_none rfl _ _ _) rfl ?_
   exact ⟨rfl,_,_,_,_,_,_,HP3.out,HS3.out⟩
 ·have e:s.byte1 p b c=S.fail {s with fresh:=false,rd:=s.rd.byte c} 400:=by unfold S.byte1;simp [hbod,hw]
  rw [e];rw [hw] at hrb;have HRB:=Bx hrb
  have HFA:=Bx (λw2 q1 v1 (h:PR w2 B g q1 v1 f bd t o p b {s with fresh:=false,rd:=s.rd.byte c})=>fail_at h 400 400 rfl);clear e hw hL hrb hbod hs he hl ok hlong hag;go_enter Tryz.func116,Tryz.ntmps116;go_upto_region 8 with fail
  generalize w.setCell ⟨g,23,none⟩ (ZW false)=W1 at *;clear c23 z23 c11;have c12:=H1.out.cs.c12
  go_wp2_with (first
   |(go_at_call 115;with_reducible refine (HFA.out _ _ _ HP2.out).mono ?_;rintro r w3 ⟨rfl,hP3,hS3⟩)
   |(go_at_call 159;with_reducible refine HRB.out.mono ?_;rintro r w2 ⟨v2,rfl,hr2,hk2,hm2⟩
     obtain ⟨hP2,hS2⟩:=H1.out.reader hk2 hm2 hr2
     have HP2:=Bx hP2;have HS2:=Bx (HS1.out.trans hS2);clear hr2 hk2 hm2 hP2 hS2))
  first | go_end0 | refine bodyPost_ret (results_none rfl _ _ _) rfl ?_
  exact XXtPE
 ·by_cases hce:(s.st==5&&D0 p 29)=true
  ·have hce2:s.st=5/\D0 p 29=true:=by simpa using hce
   have e:s.byte1 p b c=S.plain p b {s with fresh:=false,rd:=nl p b.x0,st:=3} c:=by unfold S.byte1;simp [bodied,hw,hce2.1,hce2.2]
   rw [e];have ok3:=hlong hce2.1 hw hce2.2;rw [hw] at hrb;have HRB:=Bx hrb
   have HLO:=Bx (λw2 q1 v1 (h:PR w2 B g q1 v1 f bd t o p b {s with fresh:=false,rd:=s.rd.byte c})=>longEnd_any hp h3 h4 c h hce2.1 hce2.2 ok3);clear e hw hL hrb hbod hs he hl ok hlong hag hce hce2 ok3;go_enter Tryz.func116,Tryz.ntmps116;go_upto_region 8 with fail
   generalize w.setCell ⟨g,23,none⟩ (ZW false)=W1 at *;clear c23 z23 c11;have c12:=H1.out.cs.c12
   go_wp2_with (first
    |(go_at_call 160;with_reducible refine (HLO.out _ _ _ HP2.out).mono ?_;rintro r w3 ⟨rfl,q1,v1,f1,bd1,t1,o1,hP3,hS3⟩)
    |(go_at_call 159;with_reducible refine HRB.out.mono ?_;rintro r w2 ⟨v2,rfl,hr2,hk2,hm2⟩
      obtain ⟨hP2,hS2⟩:=H1.out.reader hk2 hm2 hr2
      have HP2:=Bx hP2;have HS2:=Bx (HS1.out.trans hS2);clear hr2 hk2 hm2 hP2 hS2))
   first | go_end0 | refine bodyPost_ret (results_none rfl _ _ _) rfl ?_
   exact XXtPE
  ·have e:s.byte1 p b c=S.fail {s with fresh:=false,rd:=s.rd.byte c} (longE s.st):=by unfold S.byte1;simp [hbod,hw,hce]
   rw [e];have h6:s.st=5->D0 p 29=false:=λe=>by
    cases h:D0 p 29 with
    | false=>rfl
    | true=>exact absurd (by rw [e,h];rfl) hce
   rw [hw] at hrb;have HRB:=Bx hrb
   have HLO:=Bx (λw2 q1 v1 (h:PR w2 B g q1 v1 f bd t o p b {s with fresh:=false,rd:=s.rd.byte c})=>long_any hp c h hs h6);clear e hw hL hrb hbod hs he hl ok hlong hag hce h6;go_enter Tryz.func116,Tryz.ntmps116;go_upto_region 8 with fail
   generalize w.setCell ⟨g,23,none⟩ (ZW false)=W1 at *;clear c23 z23 c11;have c12:=H1.out.cs.c12
   go_wp2_with (first
    |(go_at_call 160;with_reducible refine (HLO.out _ _ _ HP2.out).mono ?_;rintro r w3 ⟨rfl,hP3,hS3⟩)
    |(go_at_call 159;with_reducible refine HRB.out.mono ?_;rintro r w2 ⟨v2,rfl,hr2,hk2,hm2⟩
      obtain ⟨hP2,hS2⟩:=H1.out.reader hk2 hm2 hr2
      have HP2:=Bx hP2;have HS2:=Bx (HS1.out.trans hS2);clear hr2 hk2 hm2 hP2 hS2))
   first | go_end0 | refine bodyPost_ret (results_none rfl _ _ _) rfl ?_
   exact XXtPE
end
end Go.Proofs.YtdfabddnpgjepaaGreatDoor.Par
namespace Go.Proofs.YtdfabddnpgjepaaGreatDoor.Par
open Go.RowKit Base Txt Mem
section
variable {p:Nat} {b:Bd} {x:Pg.T} {s:S}
theorem fits_of (h:Pg.R0 p b x s) (ok:x.Ok) (ho:s.out.length<=1000000000):Fits s:=by
 have k1:=ok.hl;have k2:=ok.bl;have k3:=ok.fsl;have k4:=ok.tsl;have k5:=ok.body;refine ⟨λe=>?_,λy hy=>?_,?_,λy hy=>?_,?_,?_,ho⟩
 ·rcases e with e | e
  ·rw [h.hl (by omega)];omega
  ·rw [h.bl e];omega
 ·rw [h.r] at hy;have:=ok.fss y hy;omega
 ·rw [h.r];omega
 ·rw [h.r] at hy;have:=ok.tss y hy;omega
 ·rw [h.r];omega
 ·rw [h.r];omega
theorem lineOk_of (h:Pg.R0 p b x s) (ok:x.Ok) (hn:bodied s.st=false):LineOk p s.rd:=by
 have r:=h.rd hn;have h1:=ok.rd.len;have h2:=ok.rd.most;refine ⟨r.lf.trans h.lf,r.cr.trans h.cr,by rw [r.most];exact h2,?_⟩;rw [r.B,r.most];split
 ·exact Dj _
 ·exact h1
theorem lined_of (h:Pg.R0 p b x s) (ok:x.Ok) (hn:bodied s.st=false):lined s.st:=by
 have h7:=ok.st;have ht:=h.st;have hn2:s.st≠2/\s.st≠4:=by constructor<;> (intro e;rw [e] at hn;exact absurd hn (by decide))
 unfold lined;omega
theorem plainOk_of (h:Pg.R0 p b x s) (ok:x.Ok) (hp:x.rd.pend=false) (h6:x.st≠6) (ho:s.out.length<=1000000000) (c:UInt8):PlainOk p s c:=by
 have h7:=ok.st;have ht:=h.st;refine ⟨h.e,fits_of h ok ho,?_,λhb=>?_,λhl=>?_⟩
 ·unfold lined;omega
 ·have h1:=h.left hb;have h2:=ok.left (by rw [Pg.bod h];exact hb);have h3:=ok.body;omega
 ·have hn:bodied s.st=false:=by rcases hl with e | e | e | e | e<;>rw [e]<;>rfl
  exact ⟨lineOk_of h ok hn,(h.rd hn).CR.trans hp,λe=>absurd (ht.trans (by rw [e])) h6⟩
theorem ended_ok (h:Pg.R0 p b x s) (ok:x.Ok) (hb:b.right=true) (hn:bodied s.st=false) (hc:s.clean=false) (ho:s.out.length<=999999998) (c:UInt8) (h2:s.rd.how c=2)
 (he:(S.ended p b {s with fresh:=false,rd:=s.rd.byte c} (s.rd.byte c).L).e=0) :
 PlainOk p (S.ended p b {s with fresh:=false,rd:=s.rd.byte c} (s.rd.byte c).L) c/\(S.ended p b {s with fresh:=false,rd:=s.rd.byte c} (s.rd.byte c).L).head<=1000000:=by
 obtain ⟨n,hnx⟩:∃n,x.rd.clear.next c=n:=⟨_,rfl⟩;obtain ⟨k1, -,k3⟩:=Pg.took_sim h hn ok hc c hnx;have e2:n=2:=k1.symm.trans h2;subst e2
 have k4:=k3 (.inr rfl);have hb0:Pg.bodied x.st=false:=(Pg.bod h).trans hn;generalize hs2:S.ended p b {s with fresh:=false,rd:=s.rd.byte c} (s.rd.byte c).L=s2 at k4 he ⊢;generalize hq:Pg.ends (Pg.T.line p b {x with rd:=x.rd.byte c} (x.rd.byte c).line)=y at k4;rcases Pg.ends_cases hq with ⟨t2,g1,rfl⟩ | ⟨e,o,rfl⟩
 ·have k5:Pg.RR p b t2 s2:=k4;have hin:x.inLine p b c=(.live t2,false):=by
   unfold Pg.T.inLine;simp only [hnx,Int.reduceEq,if_false,BEq.rfl,Bool.not_true];rw [hq]
  have ok2:t2.Ok:=ok.inLine hb c (by rw [hin]);obtain ⟨g2,g3⟩:=Pg.inLine_again hb0 c hin;have hout:=Pg.inLine_out (p:=p) (b:=b) x c;rw [hin] at hout;have ho2:s2.out.length<=1000000000:=by rw [k5.out];have h1:t2.out.length<=x.out.length+1:=hout;rw [←h.out] at h1;omega
  exact ⟨plainOk_of k5.toR0 ok2 g2 g3 ho2 c,by rw [k5.head];have:=ok2.size;omega⟩
 ·exact absurd he k4.err
end
section
set_option maxHeartbeats 4000000
variable {w:World} {B:Zone} {g q:Nat} {v f bd t o:Value} {p:Nat} {b:Bd} {s:S} {x:Pg.T}
theorem byte1_any (hp:p<4294967296) (hb:b.right=true) (c:UInt8) (h:PR w B g q v f bd t o p b s) (h0:Pg.R0 p b x s) (ok:x.Ok) (hc:s.clean=false) (ho:s.out.length<=999999998) :
 Calls EW 116 #[ptr g,ZZ ZR (c.toNat:Int)] w λr w'=>r=.returned (ZT #[])/\∃q1 v1 f1 bd1 t1 o1,PR w' B g q1 v1 f1 bd1 t1 o1 p b (s.byte1 p b c)/\Step (blks g q v f bd t o) (blks g q1 v1 f1 bd1 t1 o1) w w':=by
 obtain ⟨-, -, -,h3,h4, -⟩:=Pg.Bd.edges hb
 have hf:=fits_of h0 ok (by omega);by_cases hbd:bodied s.st=true
 ·have hst:s.st=2∨s.st=4:=by
   unfold bodied at hbd;simpa using hbd
  have e:s.byte1 p b c=S.bodyB p b {s with fresh:=false} c:=by unfold S.byte1;simp [hbd]
  rw [e];have h1:=h0.left hbd;have h2:=ok.left (by rw [Pg.bod h0];exact hbd);have h5:=ok.body;exact body_any c h hst ⟨by omega,by omega⟩ hf.body hf.out
 ·have hn:bodied s.st=false:=by simpa using hbd
  refine byte_any hp h3 h4.1 c h (lined_of h0 ok hn) h0.e hf (lineOk_of h0 ok hn) (λh5 _ _=>?_) (λh2 he=>ended_ok h0 ok hb hn hc ho c h2 he);have he:=Pg.enter_sim (t:=x) (s:={s with fresh:=false}) {h0 with} h5;exact plainOk_of he (ok.enter (.inl rfl) b.x0) rfl (by show (4:Nat)≠6;decide) (by show s.out.length<=_;omega) c
theorem byteS_any (hp:p<4294967296) (hb:b.right=true) (c:UInt8) (h:PR w B g q v f bd t o p b s) (hr:Pg.RR p b x s) (ok:x.Ok) (ho:s.out.length<=999999998) :
 Calls EW 72 #[ptr g,ZZ ZR (c.toNat:Int)] w λr w'=>r=.returned (ZT #[])/\∃q1 v1 f1 bd1 t1 o1,PR w' B g q1 v1 f1 bd1 t1 o1 p b (s.byte p b c)/\Step (blks g q v f bd t o) (blks g q1 v1 f1 bd1 t1 o1) w w':=by
 have h0:Pg.R0 p b ({x with cnt:=false}:Pg.T) {s with clean:=false}:=⟨hr.e,hr.st,hr.r,hr.out,hr.head,hr.hl,hr.bl,hr.bl0,hr.left,hr.rd,hr.fr,hr.lf,hr.cr,hr.most,hr.beh,hr.ch⟩;have ok0:({x with cnt:=false}:Pg.T).Ok:=ok.cleared;refine count_any c (λs=>s.byte1 p b c) h hr.e (by rw [hr.head];have:=ok.size;omega) λw2 s2 hs h2=>?_;rcases hs with ⟨hh,rfl,hx⟩ | ⟨hh,rfl⟩
 ·have h1:Pg.R0 p b ({x with cnt:=false}:Pg.T).counted {s with head:=s.head+1,clean:=false}:=h0.of_counted rfl;have esz:({x with cnt:=false}:Pg.T).counted.size=s.head+1:=h1.head.symm;exact byte1_any hp hb c h2 h1 (ok0.counted hb (by rw [esz];exact hx)) rfl ho
 ·exact byte1_any hp hb c h2 h0 ok0 rfl ho
end
end Go.Proofs.YtdfabddnpgjepaaGreatDoor.Par
namespace Go.Proofs.YtdfabddnpgjepaaGreatDoor.Par
open Go.RowKit Base Txt Mem Each
abbrev ncells (p:Nat) (b:Bd) (cl:Bool) (e:Nat):List Value:=
 [ZZ ZQ (p:Int),ZZ ZS b.x0,ZZ ZS b.x1,ZZ ZS b.x2,ZZ ZS b.x3,ZZ ZS b.x4,ZZ ZS b.x5,ZZ ZS b.x6,ZZ ZS b.x7,ZW b.ch,ZW b.od,ZZ ZS 0,ZV none,
   ZY E0,ZY E0,ZZ ZS 0,nil,ZW false,nil,nil,ZZ ZS 0,ZZ ZS 0,ZZ ZS 0,ZW false,ZW cl,ZZ ZS (e:Int),nil]
structure Bad (w:World) (B:Zone) (g p:Nat) (b:Bd) (s:S):Prop where
 row:w.heap[g]?=some (.cells (ncells p b false 20).toArray 60 (0,0))
 e:s.e=20
 clean:s.clean=false
 out:s.out= []
 ge:B<=g
 zone:Clear w B.z [some g]
structure Rest (w:World) (B:Zone) (g q:Nat) (v f bd t:Value) (p:Nat) (b:Bd) (s:S):Prop where
 row:∃o,w.heap[g]?=some (.cells (pcells p b s q f bd t o).toArray 60 (0,0))
 own:Own w B g q v f bd t nil p s.rd s.r.fs s.r.body s.r.ts []
def Run (w:World) (B:Zone) (g p:Nat) (b:Bd) (L:List (Option Nat)) (s:S):Prop:=
 (∃q v f bd t o,L=blks g q v f bd t o/\PR w B g q v f bd t o p b s)∨(L= [some g]/\Bad w B g p b s)
def DAt (w:World) (B:Zone) (g p:Nat) (b:Bd) (L:List (Option Nat)) (s:S):Prop:=
 (∃q v f bd t,L=blks g q v f bd t nil/\Rest w B g q v f bd t p b s)∨(L= [some g]/\Bad w B g p b s)
def DQ (w:World) (B:Zone) (g p:Nat) (b:Bd) (L:List (Option Nat)) (x:Pg.Q):Prop:=∃s,Pg.RQ p b x s/\x.Fine b/\DAt w B g p b L s
theorem fine_of {b:Bd} {x:Pg.Q} (h:x.Ok b):x.Fine b:=by cases x<;>exact h
section
variable {w w':World} {B:Zone} {g q:Nat} {v f bd t o:Value} {p:Nat} {b:Bd} {L M:List (Option Nat)} {s:S} {x:Pg.Q} {rd:Ln.R} {fs ts:List Fld} {body:List UInt8} {out:List D7}
theorem Own.less (h:Own w B g q v f bd t o p rd fs body ts out):Own w B g q v f bd t nil p rd fs body ts []:=by
 have e:blks g q v f bd t nil=(blks g q v f bd t o).set 6 none:=rfl;refine ⟨h.R,h.F,h.D,h.T,⟨[],rfl,(by intro x hx;cases hx),FV _ _ _ _⟩,?_,h.ge,h.lt,h.zone.of (Db _) (by rw [e];exact Of.set 6 none (.inl rfl))⟩;rw [e]
 exact h.lone.set h.in 6 none (.inl rfl)
theorem Run.tell (h:Run w B g p b L s):∃o L',w.cell? ⟨g,26,none⟩=some o/\DAt w B g p b L' s/\Pg.Told L' B w o s.out/\Step L L' w w:=by
 rcases h with ⟨q,v,f,bd,t,o,rfl,h⟩ | ⟨rfl,h⟩
 ·have hsub:∀k,some k∈blks g q v f bd t nil->some k∈blks g q v f bd t o:=λk hk=>by
   exact XX5KD
  refine ⟨o,blks g q v f bd t nil,h.cs.c26,.inl ⟨q,v,f,bd,t,rfl,⟨o,h.row⟩,h.own.less⟩,⟨Pg.Outs.less h.own.O (λk hk=>.inl (hsub k hk)),λk e=>⟨λhm=>?_,?_⟩,λk e=>h.own.zone.off k (C8 (i:=6) (by rw [←e];rfl))⟩,⟨Keeps.refl,λk hk=>.inl (hsub k hk)⟩⟩
  ·exact XXTkD
  ·exact h.own.in k (C8 (i:=6) (by rw [←e];rfl))
 ·exact ⟨nil,[some g],row_cellL h.row rfl,.inr ⟨rfl,h⟩,by rw [h.out];exact ⟨⟨[],rfl,(by intro x hx;cases hx),FV _ _ _ _⟩,(λk e=>by cases e),(λk e=>by cases e)⟩,Step.refl⟩
theorem DAt.start (h:DAt w B g p b L s) (ho:s.out= []):w.frozen? ⟨g,26,none⟩=false/\(∃o,w.cell? ⟨g,26,none⟩=some o)/\Run (w.setCell ⟨g,26,none⟩ nil) B g p b L s/\Step L L w (w.setCell ⟨g,26,none⟩ nil):=by
 rcases h with ⟨q,v,f,bd,t,rfl,⟨o,hrow⟩,hown⟩ | ⟨rfl,h⟩
 ·refine ⟨CV hrow 26,⟨o,row_cellL hrow rfl⟩,.inl ⟨q,v,f,bd,t,nil,rfl,row_setL hrow 26 nil,?_⟩,DS g 26 nil (by simp)⟩;rw [ho];exact hown.set 26 nil
 ·exact ⟨CV h.row 26,⟨_,row_cellL h.row rfl⟩,.inr ⟨rfl,row_setL h.row 26 nil,h.e,h.clean,h.out,h.ge,h.zone.of (by simp) Dq⟩,DS g 26 nil (by simp)⟩
theorem Own.keepsD (h:Own w B g q v f bd t nil p rd fs body ts []) (hk:Keeps M w w') (hd:Dis (blks g q v f bd t nil) M):Own w' B g q v f bd t nil p rd fs body ts []:=
 ⟨⟨hk.row h.R.row (hd q (by simp)),hk.own h.R.own λk e=>hd k (by simp [←e]),h.R.ge,h.R.ne⟩,hk.own h.F λk e=>hd k (by simp [←e]),hk.own h.D λk e=>hd k (by simp [←e]),hk.own h.T λk e=>hd k (by simp [←e]),
   ⟨[],rfl,(by intro x hx;cases hx),FV _ _ _ _⟩,h.lone,h.ge,Df h.lt hk.size,h.zone.of hk.size Dq⟩
theorem Own.rezoneD (h:Own w B g q v f bd t nil p rd fs body ts []) {Z:List (Option Nat)} (hz:Clear w Z (blks g q v f bd t nil)):Own w ⟨B.b,Z⟩ g q v f bd t nil p rd fs body ts []:=
 ⟨h.R,h.F,h.D,h.T,⟨[],rfl,(by intro x hx;cases hx),FV _ _ _ _⟩,h.lone,h.ge,h.lt,hz⟩
theorem DAt.keeps (h:DAt w B g p b L s) (hk:Keeps M w w') (hd:Dis L M):DAt w' B g p b L s:=by
 rcases h with ⟨q,v,f,bd,t,rfl,⟨o,hrow⟩,hown⟩ | ⟨rfl,h⟩
 ·exact .inl ⟨q,v,f,bd,t,rfl,⟨o,hk.row hrow (hd g (by simp))⟩,hown.keepsD hk hd⟩
 ·exact .inr ⟨rfl,hk.row h.row (hd g (by simp)),h.e,h.clean,h.out,h.ge,h.zone.of hk.size Dq⟩
theorem DAt.rezone (h:DAt w B g p b L s) {Z:List (Option Nat)} (hz:Clear w Z L):DAt w ⟨B.b,Z⟩ g p b L s:=by
 rcases h with ⟨q,v,f,bd,t,rfl,hrow,hown⟩ | ⟨rfl,h⟩
 ·exact .inl ⟨q,v,f,bd,t,rfl,hrow,hown.rezoneD hz⟩
 ·exact .inr ⟨rfl,h.row,h.e,h.clean,h.out,h.ge,hz⟩
theorem DAt.in (h:DAt w B g p b L s):In w L:=by
 rcases h with ⟨q,v,f,bd,t,rfl, -,hown⟩ | ⟨rfl,h⟩
 ·exact hown.in
 ·intro k hk;obtain rfl:k=g:=by simpa using hk
  exact Ln.row_lt h.row
theorem DAt.low (h:DAt w B g p b L s):∀k,some k∈L->B<=k:=by
 rcases h with ⟨q,v,f,bd,t,rfl, -,hown⟩ | ⟨rfl,h⟩
 ·exact hown.low
 ·intro k hk;obtain rfl:k=g:=by simpa using hk
  exact h.ge
theorem DAt.uniq {B':Zone} {p':Nat} {b':Bd} {s':S} {L':List (Option Nat)} (h:DAt w B g p b L s) (h':DAt w B' g p' b' L' s'):L=L':=by
 rcases h with ⟨q,v,f,bd,t,rfl,⟨o,h1⟩,h2⟩ | ⟨rfl,h⟩
 ·rcases h' with ⟨q',v',f',bd',t',rfl,⟨o',h1'⟩,h2'⟩ | ⟨rfl,h'⟩
  ·have e:=Pg.cells_inj h1 h1'
   have e12:ptr q=ptr q':=Du.inj (congrArg (λl:List Value=>l[12]?) e)
   have e16:f=f':=Du.inj (congrArg (λl:List Value=>l[16]?) e)
   have e18:bd=bd':=Du.inj (congrArg (λl:List Value=>l[18]?) e)
   have e19:t=t':=Du.inj (congrArg (λl:List Value=>l[19]?) e);have eq:q=q':=by simpa using e12
   subst eq e16 e18 e19;have hr:=h2.R.row.symm.trans h2'.R.row;have ev:v=v':=by
    simp only [Du.injEq,Obj.cells.injEq,and_true] at hr
    exact Du.inj (congrArg (λa:Array Value=>a[2]?) hr)
   rw [ev]
  ·have e:=Pg.cells_inj h1 h'.row
   have e12:ptr q=ZV none:=Du.inj (congrArg (λl:List Value=>l[12]?) e);cases e12
 ·rcases h' with ⟨q',v',f',bd',t',rfl,⟨o',h1'⟩,h2'⟩ | ⟨rfl,h'⟩
  ·have e:=Pg.cells_inj h.row h1'
   have e12:Value.pointer none=ptr q':=Du.inj (congrArg (λl:List Value=>l[12]?) e);cases e12
  ·rfl
theorem DQ.keeps (h:DQ w B g p b L x) (hk:Keeps M w w') (hd:Dis L M):DQ w' B g p b L x:=by obtain ⟨s,h1,h2,h3⟩:=h;exact ⟨s,h1,h2,h3.keeps hk hd⟩
theorem DQ.below (h:DQ w B g p b L x) (hb:Below w.heap.size w w'):DQ w' B g p b L x:=h.keeps (M:= []) (Bo hb) (λk _ hk=>by cases hk)
theorem DQ.rezone (h:DQ w B g p b L x) {Z:List (Option Nat)} (hz:Clear w Z L):DQ w ⟨B.b,Z⟩ g p b L x:=by obtain ⟨s,h1,h2,h3⟩:=h;exact ⟨s,h1,h2,h3.rezone hz⟩
theorem DQ.in (h:DQ w B g p b L x):In w L:=by obtain ⟨_,_,_,h3⟩:=h;exact h3.in
theorem DQ.low (h:DQ w B g p b L x):∀k,some k∈L->B<=k:=by obtain ⟨_,_,_,h3⟩:=h;exact h3.low
theorem DQ.uniq {B':Zone} {p':Nat} {b':Bd} {x':Pg.Q} {L':List (Option Nat)} (h:DQ w B g p b L x) (h':DQ w B' g p' b' L' x'):L=L':=by obtain ⟨_,_,_,h3⟩:=h;obtain ⟨_,_,_,h3'⟩:=h';exact h3.uniq h3'
theorem obj_dq {B:Zone} {g p p':Nat} {b b':Bd} {x x':Pg.Q}:Thing (λw L=>∃Z,DQ w ⟨B.b,Z⟩ g p b L x) (λw L=>∃Z,DQ w ⟨B.b,Z⟩ g p' b' L x') where
 keeps:=λ⟨Z,h⟩ hk hd=>⟨Z,h.keeps hk hd⟩
 keeps':=λ⟨Z,h⟩ hk hd=>⟨Z,h.keeps hk hd⟩
 inn:=λ⟨_,h⟩=>h.in
 inn':=λ⟨_,h⟩=>h.in
 uniq:=λh h'=>by rcases h with ⟨_,h⟩ | ⟨_,h⟩<;>rcases h' with ⟨_,h'⟩ | ⟨_,h'⟩<;>exact h.uniq h'
end
section
set_option maxHeartbeats 4000000
set_option maxRecDepth 20000
attribute [local go_sem] Am
variable {w:World} {B:Zone} {g q:Nat} {v f bd t o:Value} {p:Nat} {b:Bd} {s:S} {x:Pg.Q} {L:List (Option Nat)}
theorem byteDead_any (c:UInt8) {e:Nat} (he:e≠0) (c25:w.cell? ⟨g,25,none⟩=some (ZZ ZS (e:Int))) :
 Calls EW 72 #[ptr g,ZZ ZR (c.toNat:Int)] w λr w'=>r=.returned (ZT #[])/\w'=w:=by
 have t5:((e:Int)==0)=false:=beq_eq_false_iff_ne.2 (by omega);have n5:¬(e:Int)=0:=by omega
 go_enter Tryz.func72,Tryz.ntmps72;go_wp2;first | go_end0 | refine bodyPost_ret (results_none rfl _ _ _) rfl ?_
 exact ⟨rfl,rfl⟩
theorem byteRun_any (hp:p<4294967296) (c:UInt8) (h:Run w B g p b L s) (hr:Pg.RQ p b x s) (ok:x.Fine b) (ho:s.out.length<=999999998) :
 Calls EW 72 #[ptr g,ZZ ZR (c.toNat:Int)] w λr w'=>r=.returned (ZT #[])/\∃L',Run w' B g p b L' (s.byte p b c)/\Step L L' w w':=by
 cases x with
 | live y=>
   obtain ⟨ok1,ok2⟩:=ok;have hr:Pg.RR p b y s:=hr;rcases h with ⟨q,v,f,bd,t,o,rfl,h⟩ | ⟨rfl,h⟩
   ·refine (byteS_any hp ok2 c h hr ok1 ho).mono ?_;rintro r w' ⟨rfl,q1,v1,f1,bd1,t1,o1,hP,hS⟩;exact ⟨rfl,_,.inl ⟨q1,v1,f1,bd1,t1,o1,rfl,hP⟩,hS⟩
   ·exact absurd (hr.e.symm.trans h.e) (by decide)
 | dead e o=>
   have he:=hr.err;rw [S.byte_dead he];have key:∀c25:w.cell? ⟨g,25,none⟩=some (ZZ ZS (s.e:Int)),Calls EW 72 #[ptr g,ZZ ZR (c.toNat:Int)] w λr w'=>r=.returned (ZT #[])/\∃L',Run w' B g p b L' s/\Step L L' w w':=by intro c25;refine (byteDead_any c he c25).mono ?_;rintro r w' ⟨rfl,rfl⟩;exact ⟨rfl,L,h,Step.refl⟩
   rcases h with ⟨q,v,f,bd,t,o,rfl,h1⟩ | ⟨rfl,h1⟩
   ·exact key h1.cs.c25
   ·exact key (by rw [h1.e];exact row_cellL h1.row rfl)
end
end Go.Proofs.YtdfabddnpgjepaaGreatDoor.Par
namespace Go.Proofs.YtdfabddnpgjepaaGreatDoor.Par
open Go.RowKit Base Txt Mem Each
section
variable {w:World} {B:Zone} {g p:Nat} {b:Bd} {s:S} {x:Pg.Q} {L:List (Option Nat)}
theorem DAt.cell (h:DAt w B g p b L s):w.cell? ⟨g,25,none⟩=some (ZZ ZS (s.e:Int))/\w.cell? ⟨g,24,none⟩=some (ZW s.clean):=by
 rcases h with ⟨q,v,f,bd,t,rfl,⟨o,hrow⟩,hown⟩ | ⟨rfl,h⟩
 ·exact ⟨row_cellL hrow rfl,row_cellL hrow rfl⟩
 ·rw [h.e,h.clean];exact ⟨row_cellL h.row rfl,row_cellL h.row rfl⟩
theorem DQ.e (h:DQ w B g p b L x):w.cell? ⟨g,25,none⟩=some (ZZ ZS (x.err:Int)):=by obtain ⟨s,h1,h2,h3⟩:=h;rw [←(Pg.said_sim h1 h2).1];exact h3.cell.1
theorem DQ.cl (h:DQ w B g p b L x):w.cell? ⟨g,24,none⟩=some (ZW x.clean):=by obtain ⟨s,h1,h2,h3⟩:=h;rw [←(Pg.said_sim h1 h2).2.2.2.2];exact h3.cell.2
theorem DAt.told (h:DAt w B g p b L s):DAt w B g p b L {s with out:= []}:=by
 rcases h with ⟨q,v,f,bd,t,rfl,hrow,hown⟩ | ⟨rfl,h⟩
 ·exact .inl ⟨q,v,f,bd,t,rfl,hrow,hown⟩
 ·exact .inr ⟨rfl,h.row,h.e,h.clean,rfl,h.ge,h.zone⟩
theorem Rest.draft {q:Nat} {v f bd t:Value} {y:Pg.T} (h:Rest w B g q v f bd t p b s) (hr:s.r=y.r) (ok:y.Ok):Rec.Reads w (ZU #[ZY s.r.m,ZY s.r.x,ZZ ZS s.r.k,f,ZW s.r.ch,bd,t]) s.r/\Rec.Fit s.r:=by obtain ⟨A1,c1,e1,h1⟩:=Flds.of_own h.own.F;obtain ⟨A2,c2,e2,h2⟩:=Rec.nums_of_own h.own.D;obtain ⟨A3,c3,e3,h3⟩:=Flds.of_own h.own.T;subst e1 e2 e3;refine ⟨⟨_,_,_,_,_,_,rfl,h1,h2,h3⟩,?_⟩;rw [hr];have k1:=ok.fsl;have k2:=ok.tsl;have k3:=ok.hl;have k4:=ok.bl;have k5:=ok.body;have k6:=ok.m;have k7:=ok.x;exact ⟨by omega,by omega,by omega,λy hy=>by have:=ok.fss y hy;omega,by omega,by omega,λy hy=>by have:=ok.tss y hy;omega⟩
end
section
set_option maxHeartbeats 4000000
set_option maxRecDepth 20000
attribute [local go_sem] Am
variable {w:World} {B:Zone} {g q:Nat} {v f bd t o:Value} {p:Nat} {b:Bd} {s:S} {x:Pg.Q} {L:List (Option Nat)}
theorem next_new (hrow:w.heap[g]?=some (.cells (ncells p b true 0).toArray 60 (0,0))) (hB:B<=g) (hz:B.z= []):Calls EW 70 #[ptr g] w λr w'=>
 r=.returned (ZT #[])/\∃q1,PR w' B g q1 nil nil nil nil nil p b ⟨0,nl p b.x0,zero,0,0,0,false,true,0,[]⟩/\Keeps [some g] w w':=by
 have hlt:=Ln.row_lt hrow
 have HR1:=Bx (show (((((((((((((w.setCell ⟨g,13,none⟩ (ZY E0)).setCell ⟨g,14,none⟩ (ZY E0)).setCell ⟨g,15,none⟩ (ZZ ZS 0)).setCell ⟨g,16,none⟩ (nil)).setCell ⟨g,17,none⟩ (ZW false)).setCell ⟨g,18,none⟩ (nil)).setCell ⟨g,19,none⟩ (nil)).setCell ⟨g,11,none⟩ (ZZ ZS 0)).setCell ⟨g,20,none⟩ (ZZ ZS 0)).setCell ⟨g,21,none⟩ (ZZ ZS 0)).setCell ⟨g,23,none⟩ (ZW false)).setCell ⟨g,24,none⟩ (ZW true))).heap[g]?=some (.cells (ncells p b true 0).toArray 60 (0,0)) from (row_setL (row_setL (row_setL (row_setL (row_setL (row_setL (row_setL (row_setL (row_setL (row_setL (row_setL (row_setL hrow 13 (ZY E0)) 14 (ZY E0)) 15 (ZZ ZS 0)) 16 (nil)) 17 (ZW false)) 18 (nil)) 19 (nil)) 11 (ZZ ZS 0)) 20 (ZZ ZS 0)) 21 (ZZ ZS 0)) 23 (ZW false)) 24 (ZW true)))
 have HK1:=Bx (show Keeps [some g] w ((((((((((((w.setCell ⟨g,13,none⟩ (ZY E0)).setCell ⟨g,14,none⟩ (ZY E0)).setCell ⟨g,15,none⟩ (ZZ ZS 0)).setCell ⟨g,16,none⟩ (nil)).setCell ⟨g,17,none⟩ (ZW false)).setCell ⟨g,18,none⟩ (nil)).setCell ⟨g,19,none⟩ (nil)).setCell ⟨g,11,none⟩ (ZZ ZS 0)).setCell ⟨g,20,none⟩ (ZZ ZS 0)).setCell ⟨g,21,none⟩ (ZZ ZS 0)).setCell ⟨g,23,none⟩ (ZW false)).setCell ⟨g,24,none⟩ (ZW true)) from ((((((((((((Bp (L:= [some g]) g 13 (ZY E0) (by simp)).trans (Bp (L:= [some g]) g 14 (ZY E0) (by simp)) Dq).trans (Bp (L:= [some g]) g 15 (ZZ ZS 0) (by simp)) Dq).trans (Bp (L:= [some g]) g 16 (nil) (by simp)) Dq).trans (Bp (L:= [some g]) g 17 (ZW false) (by simp)) Dq).trans (Bp (L:= [some g]) g 18 (nil) (by simp)) Dq).trans (Bp (L:= [some g]) g 19 (nil) (by simp)) Dq).trans (Bp (L:= [some g]) g 11 (ZZ ZS 0) (by simp)) Dq).trans (Bp (L:= [some g]) g 20 (ZZ ZS 0) (by simp)) Dq).trans (Bp (L:= [some g]) g 21 (ZZ ZS 0) (by simp)) Dq).trans (Bp (L:= [some g]) g 23 (ZW false) (by simp)) Dq).trans (Bp (L:= [some g]) g 24 (ZW true) (by simp)) Dq));have c11:=row_cellL hrow (k:=11) rfl;have z11:=CV hrow 11;have c13:=row_cellL hrow (k:=13) rfl;have z13:=CV hrow 13;have c14:=row_cellL hrow (k:=14) rfl;have z14:=CV hrow 14;have c15:=row_cellL hrow (k:=15) rfl;have z15:=CV hrow 15;have c16:=row_cellL hrow (k:=16) rfl;have z16:=CV hrow 16;have c17:=row_cellL hrow (k:=17) rfl;have z17:=CV hrow 17;have c18:=row_cellL hrow (k:=18) rfl;have z18:=CV hrow 18;have c19:=row_cellL hrow (k:=19) rfl;have z19:=CV hrow 19;have c20:=row_cellL hrow (k:=20) rfl;have z20:=CV hrow 20;have c21:=row_cellL hrow (k:=21) rfl;have z21:=CV hrow 21;have c23:=row_cellL hrow (k:=23) rfl;have z23:=CV hrow 23;have c24:=row_cellL hrow (k:=24) rfl;have z24:=CV hrow 24;have HB:=Bx hB;have HZ:=Bx hz;clear hrow hB hlt hz;go_enter Tryz.func70,Tryz.ntmps70;go_upto_region 1 with fail
 generalize ((((((((((((w.setCell ⟨g,13,none⟩ (ZY E0)).setCell ⟨g,14,none⟩ (ZY E0)).setCell ⟨g,15,none⟩ (ZZ ZS 0)).setCell ⟨g,16,none⟩ (nil)).setCell ⟨g,17,none⟩ (ZW false)).setCell ⟨g,18,none⟩ (nil)).setCell ⟨g,19,none⟩ (nil)).setCell ⟨g,11,none⟩ (ZZ ZS 0)).setCell ⟨g,20,none⟩ (ZZ ZS 0)).setCell ⟨g,21,none⟩ (ZZ ZS 0)).setCell ⟨g,23,none⟩ (ZW false)).setCell ⟨g,24,none⟩ (ZW true))=W1 at *;clear c13 z13 c14 z14 c15 z15 c16 z16 c17 z17 c18 z18 c19 z19 c11 z11 c20 z20 c21 z21 c23 z23 c24 z24
 have HRD:=Bx (show (W1.drewN 1).heap[g]?=some (.cells (ncells p b true 0).toArray 60 (0,0)) from HR1.out)
 have HQ:=Bx (show D5 (W1.drewN 1) g (ncells p b true 0) from ⟨λ_ _ hu=>row_cellL HRD.out hu,λk _=>CV HRD.out k,Ln.row_lt HRD.out⟩)
 have HBW:=Bx (show B<=(W1.drewN 1).heap.size from Dd HB.out (Da (Ln.row_lt HRD.out)));refine Each.region 11 [21,22,23,24,25,26,27,28,29,30,31] [eP g 0,eP g 0,eP g 0,eP g 0,eQ (ZZ ZQ (p:Int)),eP g 0,eP g 0,eP g 1,eP g 1,eQ (ZZ ZS b.x0),λv w=>∃q1,v=ptr q1/\W1.heap.size<=q1/\Ln.Rr w B.b q1 nil p (nl p (b.x0))] (.quiet 11 (.quiet 12 (.act 13 .done))) (by kernel_rfl) (by kernel_rfl) (by kernel_rfl) (by kernel_rfl) (λ_ _ d _ _ h=>by cases d<;>exact h) (by rfl) (by rfl) ⟨AK _,AK _,AK _,AK _,AK _,AK _,AK _,AK _,AK _,AK _,((λ_ _ _ hb h=>by obtain ⟨q1,e1,h1,h2⟩:=h;exact ⟨q1,e1,h1,rr_below h2 hb⟩)),trivial⟩ ?_ ?_
 ·refine ⟨?_,?_,?_,?_,?_,?_,?_,?_,?_,?_,?_,trivial⟩
  ·exact XXSdZ
  ·exact XXSdZ
  ·exact XXSdZ
  ·exact XXSdZ
  ·exact XXSdZ
  ·exact XXSdZ
  ·exact XXSdZ
  ·exact XXSdZ
  ·exact XXSdZ
  ·exact XXSdZ
  ·refine AP rfl (λev w1 hR hb hh=>?_);have e25:ev (.tmp 25)= _:=hh.at 0;have e30:ev (.tmp 30)= _:=hh.at 1;clear hh;have ef:=hR.func
   refine AG 113 #[ZZ ZQ (p:Int),ZZ ZS (b.x0)] (by go_simp) ((rnew_line B.b (b.x0) w1 (Dd HBW.out hb.size)).mono ?_);rintro r w2 ⟨q1,rfl,h1,h2,hb2⟩;exact ⟨_,rfl,hb2,q1,rfl,Dd hb.size h1,h2⟩
 intro g1 w2 hb hf;have z21:g1 21= _:=hf.at 0;have z31:=hf.at 10;clear hf;obtain ⟨q1,e1,hq1,hr1⟩:=z31;simp only [AU,Ab,CH,CK,CJ];rw [e1,z21];simp only [Ee,Ef,BZ,BY];refine Eg (by rfl) (ptr g) (λ_ _=>by go_simp) ?_;simp only [Ab,CH,CK,CJ];refine Eg (by rfl) (ZV (some ⟨g,12,none⟩)) (λ_ _=>by go_simp) ?_;simp only [Ab,CH,CK,CJ];have hrow2:=(hb.block g (Ln.row_lt HR1.out)).trans HR1.out;have c12:=row_cellL hrow2 (k:=12) rfl;have z12:=CV hrow2 12
 refine Ec (by rfl) (λK hK=>?_);go_simp;refine hK _ _ trivial ?_;clear hK K;refine Ed ?_;have HR2:=Bx hrow2;have HRR:=Bx hr1;have HQ1:=Bx hq1;have HB2:=Bx hb;clear HQ HBW HRD hr1 hq1 hrow2 c12 z12 hb;go_wp2;go_end0;have hgq:g≠q1:=by have:=Ln.row_lt HR1.out;have:=HQ1.out;omega
 have hk:Keeps [some g] w2 (w2.setCell ⟨g,12,none⟩ (ptr q1)):=Bp g 12 _ (by simp);refine ⟨rfl,q1,⟨row_setL HR2.out 12 (ptr q1),⟨⟨hk.row HRR.out.row (by simpa using λe=>hgq e.symm),hk.own HRR.out.own (by simp [Value.ownBlock]),HRR.out.ge,HRR.out.ne⟩,FV _ _ _ _,FV _ _ _ _,FV _ _ _ _,⟨[],rfl,(by intro x hx;cases hx),FV _ _ _ _⟩,?_,HB.out,by have:=Ln.row_lt HR2.out;simpa using this,by rw [HZ.out];exact Clear.nil⟩⟩,(HK1.out.trans (Bo HB2.out) Dq).trans hk Dq⟩;intro i j k hi hj;rcases i with _ | _ | _ | _ | _ | _ | _ | i<;>rcases j with _ | _ | _ | _ | _ | _ | _ | j<;>simp [Value.ownBlock] at hi hj ⊢<;>omega
theorem fine_new (p:Nat) (b:Bd):(Pg.Q.new p b).Fine b:=fine_of (Pg.Q.new_ok p b)
theorem XX9L8 {P:Prop} (h:P:=by
 clear x0 x1 x2 x3 x4 x5 x6 x7 x8 x9;go_wp2_with fail;go_ret
 exact KEY.out W0 _ (Al HB4.out HB3.out) HG.out (Df HLT.out HB3.out.size) HR5.out):P:=h
theorem dnew_any (hp:p<4294967296) (w:World):Calls EW 16 #[ZZ ZQ (p:Int),ZU #[ZZ ZS b.x0,ZZ ZS b.x1,ZZ ZS b.x2,ZZ ZS b.x3,ZZ ZS b.x4,ZZ ZS b.x5,ZZ ZS b.x6,ZZ ZS b.x7,ZW b.ch,ZW b.od]] w λr w'=>
 ∃g L',r=.returned (ptr g)/\w.heap.size<=g/\DQ w' ⟨w.heap.size,[]⟩ g p b L' (Pg.Q.new p b)/\Below w.heap.size w w':=by
 have hqr:=λw=>Qk.rright_any p hp w;have hbr:=λw=>Bnd.rright_any b.x0 b.x1 b.x2 b.x3 b.x4 b.x5 b.x6 b.x7 b.ch b.od w
 have HB0:=Bx (((An _ _).alloc (Db _) (.cells #[ZZ ZS b.x0,ZZ ZS b.x1,ZZ ZS b.x2,ZZ ZS b.x3,ZZ ZS b.x4,ZZ ZS b.x5,ZZ ZS b.x6,ZZ ZS b.x7,ZW b.ch,ZW b.od] 29)):Below w.heap.size w _)
 have HZ0:=Bx (D6 w w.heap.size rfl 29 [ZZ ZS b.x0,ZZ ZS b.x1,ZZ ZS b.x2,ZZ ZS b.x3,ZZ ZS b.x4,ZZ ZS b.x5,ZZ ZS b.x6,ZZ ZS b.x7,ZW b.ch,ZW b.od])
 have HSZ:=Bx (show w.heap.size<(w.alloc (.cells #[ZZ ZS b.x0,ZZ ZS b.x1,ZZ ZS b.x2,ZZ ZS b.x3,ZZ ZS b.x4,ZZ ZS b.x5,ZZ ZS b.x6,ZZ ZS b.x7,ZW b.ch,ZW b.od] 29)).heap.size by simp)
 have HSIM:=Bx (Pg.new_sim (p:=p) (b:=b));have HFI:=Bx (fine_new p b);have hnew:Pg.Q.new p b=if (b.right&&decide (p<1073741824))=true then .live (Pg.T.new p b) else .dead 20 []:=rfl
 have hsn:S.new p b=if (b.right&&decide (p<1073741824))=true then ⟨0,nl p b.x0,zero,0,0,0,false,true,0,[]⟩ else ⟨0,nl p b.x0,zero,0,0,0,false,false,20,[]⟩:=rfl
 generalize Pg.Q.new p b=X at HSIM HFI hnew ⊢;generalize S.new p b=s0 at HSIM hsn;have good:b.right=true->p<1073741824->s0=⟨0,nl p b.x0,zero,0,0,0,false,true,0,[]⟩:=λh1 h2=>by rw [hsn,if_pos (by rw [h1,decide_eq_true h2];rfl)]
 have bad:¬(b.right=true/\p<1073741824)->s0=⟨0,nl p b.x0,zero,0,0,0,false,false,20,[]⟩:=λh=>by rw [hsn,if_neg (by simpa using h)]
 clear hnew hsn;by_cases hok:b.right=true/\p<1073741824
 ·have es:=good hok.1 hok.2;subst es;rw [decide_eq_true hok.2] at hqr;rw [show Bnd.right b.x0 b.x1 b.x2 b.x3 b.x4 b.x5 b.x6 b.x7=true from hok.1] at hbr;have HQR:=Bx hqr;have HBR:=Bx hbr;clear hqr hbr good bad hok;go_enter Tryz.func16,Tryz.ntmps16;go_upto_region 1 with fail
  generalize w.alloc (.cells #[ZZ ZS b.x0,ZZ ZS b.x1,ZZ ZS b.x2,ZZ ZS b.x3,ZZ ZS b.x4,ZZ ZS b.x5,ZZ ZS b.x6,ZZ ZS b.x7,ZW b.ch,ZW b.od] 29)=W0 at *;have y0:=HZ0.out.c 0 _ rfl;have y1:=HZ0.out.c 1 _ rfl;have y2:=HZ0.out.c 2 _ rfl;have y3:=HZ0.out.c 3 _ rfl;have y4:=HZ0.out.c 4 _ rfl;have y5:=HZ0.out.c 5 _ rfl;have y6:=HZ0.out.c 6 _ rfl;have y7:=HZ0.out.c 7 _ rfl;have y8:=HZ0.out.c 8 _ rfl;have y9:=HZ0.out.c 9 _ rfl
  have HG:=Bx (Da HSZ.out)
  have HR4:=Bx (heap_alloc_new W0 (.cells #[ZZ ZQ (p:Int),ZZ ZS b.x0,ZZ ZS b.x1,ZZ ZS b.x2,ZZ ZS b.x3,ZZ ZS b.x4,ZZ ZS b.x5,ZZ ZS b.x6,ZZ ZS b.x7,ZW b.ch,ZW b.od,ZZ ZS 0,ZV none,ZY E0,ZY E0,ZZ ZS 0,nil,ZW false,nil,nil,ZZ ZS 0,ZZ ZS 0,ZZ ZS 0,ZW false,ZW true,ZZ ZS 0,nil] 60))
  have HB4:=Bx (HB0.out.alloc HG.out (.cells #[ZZ ZQ (p:Int),ZZ ZS b.x0,ZZ ZS b.x1,ZZ ZS b.x2,ZZ ZS b.x3,ZZ ZS b.x4,ZZ ZS b.x5,ZZ ZS b.x6,ZZ ZS b.x7,ZW b.ch,ZW b.od,ZZ ZS 0,ZV none,ZY E0,ZY E0,ZZ ZS 0,nil,ZW false,nil,nil,ZZ ZS 0,ZZ ZS 0,ZZ ZS 0,ZW false,ZW true,ZZ ZS 0,nil] 60))
  have HX4:=Bx (HZ0.out.alloc (.cells #[ZZ ZQ (p:Int),ZZ ZS b.x0,ZZ ZS b.x1,ZZ ZS b.x2,ZZ ZS b.x3,ZZ ZS b.x4,ZZ ZS b.x5,ZZ ZS b.x6,ZZ ZS b.x7,ZW b.ch,ZW b.od,ZZ ZS 0,ZV none,ZY E0,ZY E0,ZZ ZS 0,nil,ZW false,nil,nil,ZZ ZS 0,ZZ ZS 0,ZZ ZS 0,ZW false,ZW true,ZZ ZS 0,nil] 60))
  have HLT:=Bx (show W0.heap.size<(W0.alloc (.cells #[ZZ ZQ (p:Int),ZZ ZS b.x0,ZZ ZS b.x1,ZZ ZS b.x2,ZZ ZS b.x3,ZZ ZS b.x4,ZZ ZS b.x5,ZZ ZS b.x6,ZZ ZS b.x7,ZW b.ch,ZW b.od,ZZ ZS 0,ZV none,ZY E0,ZY E0,ZZ ZS 0,nil,ZW false,nil,nil,ZZ ZS 0,ZZ ZS 0,ZZ ZS 0,ZW false,ZW true,ZZ ZS 0,nil] 60)).heap.size by simp);go_upto_region 2 with fail
  generalize hgg:W0.heap.size=g at *;generalize W0.alloc (.cells #[ZZ ZQ (p:Int),ZZ ZS b.x0,ZZ ZS b.x1,ZZ ZS b.x2,ZZ ZS b.x3,ZZ ZS b.x4,ZZ ZS b.x5,ZZ ZS b.x6,ZZ ZS b.x7,ZW b.ch,ZW b.od,ZZ ZS 0,ZV none,ZY E0,ZY E0,ZZ ZS 0,nil,ZW false,nil,nil,ZZ ZS 0,ZZ ZS 0,ZZ ZS 0,ZW false,ZW true,ZZ ZS 0,nil] 60)=W2 at *;clear y0 y1 y2 y3 y4 y5 y6 y7 y8 y9;have x0:=HX4.out.c 0 _ rfl;have x1:=HX4.out.c 1 _ rfl;have x2:=HX4.out.c 2 _ rfl;have x3:=HX4.out.c 3 _ rfl;have x4:=HX4.out.c 4 _ rfl;have x5:=HX4.out.c 5 _ rfl;have x6:=HX4.out.c 6 _ rfl;have x7:=HX4.out.c 7 _ rfl;have x8:=HX4.out.c 8 _ rfl;have x9:=HX4.out.c 9 _ rfl
  go_wp2_with (first
   |(go_at_call 70;with_reducible refine (next_new (B:=⟨w.heap.size,[]⟩) HR5.out HG.out rfl).mono ?_;rintro r w5 ⟨rfl,q1,hP,hK⟩)
   |(go_at_call 69;with_reducible refine Cm (HQR.out _) ?_)
   |(go_at_call 43;with_reducible refine (HBR.out _).mono ?_;rintro r w3 ⟨rfl,hb3⟩
     have HB3:=Bx hb3
     have HR5:=Bx ((hb3.block g HLT.out).trans HR4.out);clear hb3))
  go_ret;have hbw:=Al HB4.out HB3.out;exact ⟨g,_,rfl,HG.out,⟨_,HSIM.out,HFI.out,.inl ⟨q1,nil,nil,nil,nil,rfl,⟨nil,hP.row⟩,hP.own⟩⟩,hbw.trans (hK.below hbw.size (λk hk=>by rw [Du.inj (CB.1 hk)];exact HG.out))⟩
 ·have es:=bad hok;subst es;have hbr':b.right=false∨(b.right=true/\decide (p<1073741824)=false):=by
   cases h:b.right with
   | false=>exact .inl rfl
   | true=>exact .inr ⟨rfl,decide_eq_false λe=>hok ⟨h,e⟩⟩
  clear good bad hok;have HQR:=Bx hqr;have HBR:=Bx hbr;clear hqr hbr;have key:∀(W0:World) (W:World),Below w.heap.size w W->w.heap.size<=W0.heap.size->W0.heap.size<W.heap.size->W.heap[W0.heap.size]?=some (.cells (ncells p b true 0).toArray 60 (0,0))->
   ∃g L',(Ending.returned (ptr W0.heap.size))=.returned (ptr g)/\w.heap.size<=g/\DQ ((W.setCell ⟨W0.heap.size,25,none⟩ (ZZ ZS 20)).setCell ⟨W0.heap.size,24,none⟩ (ZW false)) ⟨w.heap.size,[]⟩ g p b L' X/\Below w.heap.size w ((W.setCell ⟨W0.heap.size,25,none⟩ (ZZ ZS 20)).setCell ⟨W0.heap.size,24,none⟩ (ZW false)):=by
   intro W0 W hb hg hlt hr;have hk:Keeps [some W0.heap.size] W ((W.setCell ⟨W0.heap.size,25,none⟩ (ZZ ZS 20)).setCell ⟨W0.heap.size,24,none⟩ (ZW false)):=(Bp _ 25 _ (by simp)).trans (Bp _ 24 _ (by simp)) Dq;exact ⟨W0.heap.size,[some W0.heap.size],rfl,hg,⟨_,HSIM.out,HFI.out,.inr ⟨rfl,row_setL (row_setL hr 25 (ZZ ZS 20)) 24 (ZW false),rfl,rfl,rfl,hg,Clear.nil⟩⟩,hb.trans (hk.below hb.size (λk hk=>by rw [Du.inj (CB.1 hk)];exact hg))⟩
  have KEY:=Bx key;clear key HSIM HFI;rcases hbr' with h1 | ⟨h1,h2⟩
  ·rw [show Bnd.right b.x0 b.x1 b.x2 b.x3 b.x4 b.x5 b.x6 b.x7=false from h1] at HBR;clear HQR h1;go_enter Tryz.func16,Tryz.ntmps16;go_upto_region 1 with fail
   generalize w.alloc (.cells #[ZZ ZS b.x0,ZZ ZS b.x1,ZZ ZS b.x2,ZZ ZS b.x3,ZZ ZS b.x4,ZZ ZS b.x5,ZZ ZS b.x6,ZZ ZS b.x7,ZW b.ch,ZW b.od] 29)=W0 at *;have y0:=HZ0.out.c 0 _ rfl;have y1:=HZ0.out.c 1 _ rfl;have y2:=HZ0.out.c 2 _ rfl;have y3:=HZ0.out.c 3 _ rfl;have y4:=HZ0.out.c 4 _ rfl;have y5:=HZ0.out.c 5 _ rfl;have y6:=HZ0.out.c 6 _ rfl;have y7:=HZ0.out.c 7 _ rfl;have y8:=HZ0.out.c 8 _ rfl;have y9:=HZ0.out.c 9 _ rfl
   have HG:=Bx (Da HSZ.out)
   have HR4:=Bx (heap_alloc_new W0 (.cells #[ZZ ZQ (p:Int),ZZ ZS b.x0,ZZ ZS b.x1,ZZ ZS b.x2,ZZ ZS b.x3,ZZ ZS b.x4,ZZ ZS b.x5,ZZ ZS b.x6,ZZ ZS b.x7,ZW b.ch,ZW b.od,ZZ ZS 0,ZV none,ZY E0,ZY E0,ZZ ZS 0,nil,ZW false,nil,nil,ZZ ZS 0,ZZ ZS 0,ZZ ZS 0,ZW false,ZW true,ZZ ZS 0,nil] 60))
   have HB4:=Bx (HB0.out.alloc HG.out (.cells #[ZZ ZQ (p:Int),ZZ ZS b.x0,ZZ ZS b.x1,ZZ ZS b.x2,ZZ ZS b.x3,ZZ ZS b.x4,ZZ ZS b.x5,ZZ ZS b.x6,ZZ ZS b.x7,ZW b.ch,ZW b.od,ZZ ZS 0,ZV none,ZY E0,ZY E0,ZZ ZS 0,nil,ZW false,nil,nil,ZZ ZS 0,ZZ ZS 0,ZZ ZS 0,ZW false,ZW true,ZZ ZS 0,nil] 60))
   have HX4:=Bx (HZ0.out.alloc (.cells #[ZZ ZQ (p:Int),ZZ ZS b.x0,ZZ ZS b.x1,ZZ ZS b.x2,ZZ ZS b.x3,ZZ ZS b.x4,ZZ ZS b.x5,ZZ ZS b.x6,ZZ ZS b.x7,ZW b.ch,ZW b.od,ZZ ZS 0,ZV none,ZY E0,ZY E0,ZZ ZS 0,nil,ZW false,nil,nil,ZZ ZS 0,ZZ ZS 0,ZZ ZS 0,ZW false,ZW true,ZZ ZS 0,nil] 60))
   have HLT:=Bx (show W0.heap.size<(W0.alloc (.cells #[ZZ ZQ (p:Int),ZZ ZS b.x0,ZZ ZS b.x1,ZZ ZS b.x2,ZZ ZS b.x3,ZZ ZS b.x4,ZZ ZS b.x5,ZZ ZS b.x6,ZZ ZS b.x7,ZW b.ch,ZW b.od,ZZ ZS 0,ZV none,ZY E0,ZY E0,ZZ ZS 0,nil,ZW false,nil,nil,ZZ ZS 0,ZZ ZS 0,ZZ ZS 0,ZW false,ZW true,ZZ ZS 0,nil] 60)).heap.size by simp);go_upto_region 2 with fail
   generalize W0.alloc (.cells #[ZZ ZQ (p:Int),ZZ ZS b.x0,ZZ ZS b.x1,ZZ ZS b.x2,ZZ ZS b.x3,ZZ ZS b.x4,ZZ ZS b.x5,ZZ ZS b.x6,ZZ ZS b.x7,ZW b.ch,ZW b.od,ZZ ZS 0,ZV none,ZY E0,ZY E0,ZZ ZS 0,nil,ZW false,nil,nil,ZZ ZS 0,ZZ ZS 0,ZZ ZS 0,ZW false,ZW true,ZZ ZS 0,nil] 60)=W2 at *;clear y0 y1 y2 y3 y4 y5 y6 y7 y8 y9;have x0:=HX4.out.c 0 _ rfl;have x1:=HX4.out.c 1 _ rfl;have x2:=HX4.out.c 2 _ rfl;have x3:=HX4.out.c 3 _ rfl;have x4:=HX4.out.c 4 _ rfl;have x5:=HX4.out.c 5 _ rfl;have x6:=HX4.out.c 6 _ rfl;have x7:=HX4.out.c 7 _ rfl;have x8:=HX4.out.c 8 _ rfl;have x9:=HX4.out.c 9 _ rfl;go_upto_region 3 with
    (go_at_call 43;with_reducible refine (HBR.out _).mono ?_;rintro r w3 ⟨rfl,hb3⟩
     have HB3:=Bx hb3;have hr5:=(hb3.block _ HLT.out).trans HR4.out;have d25:=row_cellL hr5 (k:=25) rfl;have e25:=CV hr5 25;have d24:=row_cellL hr5 (k:=24) rfl;have e24:=CV hr5 24;have HR5:=Bx hr5;clear hb3 hr5)
   exact XX9L8
  ·rw [show Bnd.right b.x0 b.x1 b.x2 b.x3 b.x4 b.x5 b.x6 b.x7=true from h1] at HBR;rw [h2] at HQR;clear h1 h2;go_enter Tryz.func16,Tryz.ntmps16;go_upto_region 1 with fail
   generalize w.alloc (.cells #[ZZ ZS b.x0,ZZ ZS b.x1,ZZ ZS b.x2,ZZ ZS b.x3,ZZ ZS b.x4,ZZ ZS b.x5,ZZ ZS b.x6,ZZ ZS b.x7,ZW b.ch,ZW b.od] 29)=W0 at *;have y0:=HZ0.out.c 0 _ rfl;have y1:=HZ0.out.c 1 _ rfl;have y2:=HZ0.out.c 2 _ rfl;have y3:=HZ0.out.c 3 _ rfl;have y4:=HZ0.out.c 4 _ rfl;have y5:=HZ0.out.c 5 _ rfl;have y6:=HZ0.out.c 6 _ rfl;have y7:=HZ0.out.c 7 _ rfl;have y8:=HZ0.out.c 8 _ rfl;have y9:=HZ0.out.c 9 _ rfl
   have HG:=Bx (Da HSZ.out)
   have HR4:=Bx (heap_alloc_new W0 (.cells #[ZZ ZQ (p:Int),ZZ ZS b.x0,ZZ ZS b.x1,ZZ ZS b.x2,ZZ ZS b.x3,ZZ ZS b.x4,ZZ ZS b.x5,ZZ ZS b.x6,ZZ ZS b.x7,ZW b.ch,ZW b.od,ZZ ZS 0,ZV none,ZY E0,ZY E0,ZZ ZS 0,nil,ZW false,nil,nil,ZZ ZS 0,ZZ ZS 0,ZZ ZS 0,ZW false,ZW true,ZZ ZS 0,nil] 60))
   have HB4:=Bx (HB0.out.alloc HG.out (.cells #[ZZ ZQ (p:Int),ZZ ZS b.x0,ZZ ZS b.x1,ZZ ZS b.x2,ZZ ZS b.x3,ZZ ZS b.x4,ZZ ZS b.x5,ZZ ZS b.x6,ZZ ZS b.x7,ZW b.ch,ZW b.od,ZZ ZS 0,ZV none,ZY E0,ZY E0,ZZ ZS 0,nil,ZW false,nil,nil,ZZ ZS 0,ZZ ZS 0,ZZ ZS 0,ZW false,ZW true,ZZ ZS 0,nil] 60))
   have HX4:=Bx (HZ0.out.alloc (.cells #[ZZ ZQ (p:Int),ZZ ZS b.x0,ZZ ZS b.x1,ZZ ZS b.x2,ZZ ZS b.x3,ZZ ZS b.x4,ZZ ZS b.x5,ZZ ZS b.x6,ZZ ZS b.x7,ZW b.ch,ZW b.od,ZZ ZS 0,ZV none,ZY E0,ZY E0,ZZ ZS 0,nil,ZW false,nil,nil,ZZ ZS 0,ZZ ZS 0,ZZ ZS 0,ZW false,ZW true,ZZ ZS 0,nil] 60))
   have HLT:=Bx (show W0.heap.size<(W0.alloc (.cells #[ZZ ZQ (p:Int),ZZ ZS b.x0,ZZ ZS b.x1,ZZ ZS b.x2,ZZ ZS b.x3,ZZ ZS b.x4,ZZ ZS b.x5,ZZ ZS b.x6,ZZ ZS b.x7,ZW b.ch,ZW b.od,ZZ ZS 0,ZV none,ZY E0,ZY E0,ZZ ZS 0,nil,ZW false,nil,nil,ZZ ZS 0,ZZ ZS 0,ZZ ZS 0,ZW false,ZW true,ZZ ZS 0,nil] 60)).heap.size by simp);go_upto_region 2 with fail
   generalize W0.alloc (.cells #[ZZ ZQ (p:Int),ZZ ZS b.x0,ZZ ZS b.x1,ZZ ZS b.x2,ZZ ZS b.x3,ZZ ZS b.x4,ZZ ZS b.x5,ZZ ZS b.x6,ZZ ZS b.x7,ZW b.ch,ZW b.od,ZZ ZS 0,ZV none,ZY E0,ZY E0,ZZ ZS 0,nil,ZW false,nil,nil,ZZ ZS 0,ZZ ZS 0,ZZ ZS 0,ZW false,ZW true,ZZ ZS 0,nil] 60)=W2 at *;clear y0 y1 y2 y3 y4 y5 y6 y7 y8 y9;have x0:=HX4.out.c 0 _ rfl;have x1:=HX4.out.c 1 _ rfl;have x2:=HX4.out.c 2 _ rfl;have x3:=HX4.out.c 3 _ rfl;have x4:=HX4.out.c 4 _ rfl;have x5:=HX4.out.c 5 _ rfl;have x6:=HX4.out.c 6 _ rfl;have x7:=HX4.out.c 7 _ rfl;have x8:=HX4.out.c 8 _ rfl;have x9:=HX4.out.c 9 _ rfl
   go_upto_region 3 with (first
    |(go_at_call 69;with_reducible refine Cm (HQR.out _) ?_)
    |(go_at_call 43;with_reducible refine (HBR.out _).mono ?_;rintro r w3 ⟨rfl,hb3⟩
      have HB3:=Bx hb3;have hr5:=(hb3.block _ HLT.out).trans HR4.out;have d25:=row_cellL hr5 (k:=25) rfl;have e25:=CV hr5 25;have d24:=row_cellL hr5 (k:=24) rfl;have e24:=CV hr5 24;have HR5:=Bx hr5;clear hb3 hr5))
   exact XX9L8
theorem dclean_any (h:DQ w B g p b L x):Calls EW 26 #[ptr g] w λr w'=>r=.returned (ZW x.clean)/\w'=w:=by have c24:=h.cl;clear h;generalize x.clean=cl at *;go_enter Tryz.func26,Tryz.ntmps26;go_wp2;go_ret;exact ⟨rfl,rfl⟩
theorem dwaits_any (h:DQ w B g p b L x):Calls EW 22 #[ptr g] w λr w'=>r=.returned (ZW x.waits)/\Below w.heap.size w w':=by
 obtain ⟨s,hr,ok,hd⟩:=h;rw [←(Pg.said_sim hr ok).2.2.1];by_cases he:s.e=0
 ·cases x with
  | dead e o=>exact absurd he hr.err
  | live y=>
    have hr:Pg.RR p b y s:=hr;rcases hd with ⟨q,v,f,bd,t,rfl,hd⟩ | ⟨rfl,hd⟩
    ·obtain ⟨o,hrow⟩:=hd.row
     have HE:=Bx (Rec.rexpects_any _ s.r w (hd.draft hr.r ok.1).1 (hd.draft hr.r ok.1).2);have cs:=Cs.of hrow;have c25:w.cell? ⟨g,25,none⟩=some (ZZ ZS 0):=by have:=cs.c25;rw [he] at this;exact this
     have c13:=cs.c13;have c14:=cs.c14;have c15:=cs.c15;have c16:=cs.c16;have c17:=cs.c17;have c18:=cs.c18;have c19:=cs.c19;have c23:=cs.c23;unfold S.waits;rw [he];cases hf:s.fresh with
     | true=>
       rw [hf] at c23;generalize Rec.expects s.r=ex at *;clear hd hrow cs hr ok he hf;go_enter Tryz.func22,Tryz.ntmps22
       go_wp2_with (go_at_call 77;with_reducible refine HE.out.mono ?_;rintro r w4 ⟨rfl,hb4⟩);go_ret;exact ⟨by cases ex<;>rfl,hb4⟩
     | false=>
       rw [hf] at c23;clear hd hrow cs hr ok he hf HE;go_enter Tryz.func22,Tryz.ntmps22;exact XXinr
    ·exact absurd (he.symm.trans hd.e) (by decide)
 ·have c25:=hd.cell.1
  have t5:((s.e:Int)==0)=false:=beq_eq_false_iff_ne.2 (by omega);have n5:¬(s.e:Int)=0:=by omega
  have e:s.waits=false:=by unfold S.waits;rw [decide_eq_false he];rfl
  rw [e];clear hd hr ok he e;go_enter Tryz.func22,Tryz.ntmps22;exact XXinr
theorem dheld_any (h:DQ w B g p b L x):Calls EW 24 #[ptr g] w λr w'=>r=.returned (ZZ ZS (x.held:Int))/\Below w.heap.size w w':=by
 obtain ⟨s,hr,ok,hd⟩:=h;rw [←(Pg.said_sim hr ok).2.2.2.1];by_cases he:s.e=0
 ·cases x with
  | dead e o=>exact absurd he hr.err
  | live y=>
    have hr:Pg.RR p b y s:=hr;rcases hd with ⟨q,v,f,bd,t,rfl,hd⟩ | ⟨rfl,hd⟩
    ·obtain ⟨o,hrow⟩:=hd.row;have hfit:=(hd.draft hr.r ok.1).2;have hsz:=Pg.size_small hfit
     have HE:=Bx (Rec.rsize_any _ s.r w (hd.draft hr.r ok.1).1 hfit);have cs:=Cs.of hrow;have c25:w.cell? ⟨g,25,none⟩=some (ZZ ZS 0):=by have:=cs.c25;rw [he] at this;exact this
     have c13:=cs.c13;have c14:=cs.c14;have c15:=cs.c15;have c16:=cs.c16;have c17:=cs.c17;have c18:=cs.c18;have c19:=cs.c19;unfold S.held;rw [if_pos he];by_cases hb:bodied s.st=true
     ·rw [if_pos hb,Nat.add_zero];have hst:s.st=2∨s.st=4:=by unfold bodied at hb;simpa using hb
      have HB9:=Bx (λ(w2:World) (hb:Below w.heap.size w w2)=>(hb.block g hd.own.lt).trans hrow);generalize Rec.size s.r=n2 at *;rcases hst with hst | hst
      ·have HS9:=Bx hst;clear hd hrow cs hr ok he hb hst hfit hsz;go_enter Tryz.func24,Tryz.ntmps24
       go_wp2_with (go_at_call 81;with_reducible refine HE.out.mono ?_;rintro r w4 ⟨rfl,hb4⟩
                    have d11:w4.cell? ⟨g,11,none⟩=some (ZZ ZS 2):=by have:=(Cs.of (HB9.out _ hb4)).c11;rw [HS9.out] at this;exact this)
       go_ret;exact ⟨rfl,hb4⟩
      ·have HS9:=Bx hst;clear hd hrow cs hr ok he hb hst hfit hsz;go_enter Tryz.func24,Tryz.ntmps24
       go_wp2_with (go_at_call 81;with_reducible refine HE.out.mono ?_;rintro r w4 ⟨rfl,hb4⟩
                    have d11:w4.cell? ⟨g,11,none⟩=some (ZZ ZS 4):=by have:=(Cs.of (HB9.out _ hb4)).c11;rw [HS9.out] at this;exact this)
       go_ret;exact ⟨rfl,hb4⟩
     ·rw [if_neg hb];have hb':bodied s.st=false:=by simpa using hb
      have hn2:s.st≠2/\s.st≠4:=by constructor<;> (intro e;rw [e] at hb';exact absurd hb' (by decide))
      have t2:((s.st:Int)==2)=false:=beq_eq_false_iff_ne.2 (by omega)
      have t4:((s.st:Int)==4)=false:=beq_eq_false_iff_ne.2 (by omega);have b2:((s.st:Int) != 2)=true:=by show (!((s.st:Int)==2))=true;rw [t2];rfl
      have b4:((s.st:Int) != 4)=true:=by show (!((s.st:Int)==4))=true;rw [t4];rfl
      have n2:¬(s.st:Int)=2:=by omega
      have n4:¬(s.st:Int)=4:=by omega
      have hlk:=lineOk_of hr.toR0 ok.1 hb';have hbl:s.rd.B.length<=4096:=Dd hlk.len hlk.most;obtain ⟨av,cv,ev, -⟩:=CT hd.own.R.own;subst ev
      have HB9:=Bx (λ(w2:World) (hb:Below w.heap.size w w2)=>(hb.block g hd.own.lt).trans hrow)
      have HB8:=Bx (λ(w2:World) (hb:Below w.heap.size w w2)=>(hb.block q (Ln.row_lt hd.own.R.row)).trans hd.own.R.row);obtain ⟨a1,a2⟩:=DD ((Rec.size s.r:Int)+(s.rd.B.length:Int)) ⟨by omega,by omega⟩;generalize Rec.size s.r=z2 at *;generalize hbn:s.rd.B.length=z3 at *;have HZ3:=Bx hbn
      have HCC:=Bx (λ(w2:World) (hb:Below w.heap.size w w2)=>(⟨(Cs.of (HB9.out w2 hb)).c11,(Cs.of (HB9.out w2 hb)).c12,by have:=Ln.row_cell (HB8.out w2 hb) (k:=2) rfl;exact this⟩:w2.cell? ⟨g,11,none⟩=some (ZZ ZS (s.st:Int))/\w2.cell? ⟨g,12,none⟩=some (ptr q)/\w2.cell? ⟨q,2,none⟩=some (.slice av z3 cv)));clear hd hrow cs hr ok he hb hb' hn2 hfit hsz hlk hbl hbn HB9 HB8;go_enter Tryz.func24,Tryz.ntmps24
      go_wp2_with (go_at_call 81;with_reducible refine HE.out.mono ?_;rintro r w4 ⟨rfl,hb4⟩
                   obtain ⟨d11,d12,d2⟩:=HCC.out _ hb4)
      go_ret;exact ⟨rfl,hb4⟩
    ·exact absurd (he.symm.trans hd.e) (by decide)
 ·have c25:=hd.cell.1
  have t5:((s.e:Int)==0)=false:=beq_eq_false_iff_ne.2 (by omega);have n5:¬(s.e:Int)=0:=by omega
  have e:s.held=0:=by unfold S.held;rw [if_neg he]
  rw [e];clear hd hr ok he e;go_enter Tryz.func24,Tryz.ntmps24;exact XXinr
end
end Go.Proofs.YtdfabddnpgjepaaGreatDoor.Par
namespace Go.Proofs.YtdfabddnpgjepaaGreatDoor.Flt
open Go.RowKit Base Txt Par Pg
section
variable {p:Nat} {b:Bd} {t:T} {s:List UInt8} {c:UInt8}
end
end Go.Proofs.YtdfabddnpgjepaaGreatDoor.Flt
namespace Go.Proofs.YtdfabddnpgjepaaGreatDoor.Par
open Go.RowKit Base Txt Mem Each
section
set_option maxHeartbeats 4000000
set_option maxRecDepth 20000
attribute [local go_sem] Am
variable {w:World} {B:Zone} {g q:Nat} {v f bd t o:Value} {p:Nat} {b:Bd} {s:S} {x:Pg.Q} {L:List (Option Nat)}
theorem dfeed_any (hp:p<4294967296) (h:DQ w B g p b L x) (xo:x.out= []) (a:Option Addr) (ca:Nat) (ls:List (List UInt8)) (hl:Pg.Parts L w a ls) (hn:ls.length<=1000000) (hout:2*ls.flatten.length<=999999998) :
 Calls EW 18 #[ptr g,.slice a ls.length ca] w λr w'=>∃o L',r=.returned o/\DQ w' B g p b L' (x.feed p b ls.flatten).told/\Pg.Told L' B w' o (x.feed p b ls.flatten).out/\Step L L' w w':=by
 obtain ⟨s,hr,ok,hd⟩:=h;have ho:s.out= []:=(Pg.said_sim hr ok).2.1.trans xo;obtain ⟨z26,⟨o0,c26⟩,hrun,hst⟩:=hd.start ho;have HR:=Bx hr;have HOK:=Bx ok;have HU:=Bx hrun;have HS0:=Bx hst;have HL:=Bx (hl.step hst);have HOU:=Bx hout;have HXO:=Bx xo;obtain ⟨n,hnn⟩:∃n,ls.length=n:=⟨_,rfl⟩;have HN:=Bx hnn;have hn1:n<=1000000:=by omega
 rw [hnn];clear hd hr ok hrun hst hl hout xo ho hn hnn;go_enter Tryz.func18,Tryz.ntmps18;go_upto_region 3 with fail
 generalize w.setCell ⟨g,26,none⟩ nil=W1 at *;clear z26 c26
 go_loopw [5] (λi wr=>∃k:Nat,k<=n/\i=ZZ ZS k/\Hid (∃Lr,Run wr B g p b Lr (s.feed p b (ls.take k).flatten)/\Step L Lr W1 wr)) (λi _=>n-(intOf i).toNat)
 case atStart=>exact ⟨0,Dj _,rfl,Bx ⟨L,HU.out,Step.refl⟩⟩
 case round=>
  obtain ⟨k,hk,rfl,hR⟩:=hrel;rcases Dg k n with hlt | hge
  ·obtain ⟨Lr,hA,hS⟩:=hR.out;have hkl:k<ls.length:=by rw [HN.out];exact hlt
   obtain ⟨bk,off,rfl, -, -, -⟩:=HL.out.cells (by omega);have htk:(ls.take (k+1)).flatten=(ls.take k).flatten++ls[k]:=by rw [CO hkl,List.flatten_append];simp
   have hsum:(ls.take (k+1)).flatten.length<=ls.flatten.length:=by exact XX086
   rw [htk,Cr] at hsum;have t1:(k:Int)<(n:Int):=by omega
   have HTK:=Bx htk;obtain ⟨pl,hpl⟩:∃pl,ls[k]=pl:=⟨_,rfl⟩;rw [hpl] at hsum HTK;obtain ⟨m,hm⟩:∃m,pl.length=m:=⟨_,rfl⟩;rw [hm] at hsum;have HM:=Bx hm;obtain ⟨q0,hq0⟩:∃q0,(ls.take k).flatten=q0:=⟨_,rfl⟩;rw [hq0] at hA hsum HTK;have hsum2:2*(q0.length+m)<=999999998:=by have:=HOU.out;omega
   have HSUM:=Bx hsum2;have hm9:m<=1000000000:=by omega
   have HCE:=Bx (show∀(wq:World) (Lq:List (Option Nat)),Step L Lq W1 wq->∃ak ck,wq.cell? ⟨bk,off+k,none⟩=some (.slice ak m ck)/\Pg.Bts Lq wq ak pl from λwq Lq hS=>by obtain ⟨bk',off',e, -, -,hc⟩:=(HL.out.step hS).cells (by omega);cases e;obtain ⟨ak,ck,h1,h2⟩:=hc k hkl;rw [hpl,hm] at h1;rw [hpl] at h2;exact ⟨ak,ck,h1,h2⟩)
   have HA:=Bx hA;have HS:=Bx hS;clear hA hS hsum hsum2 htk hpl hm hR hq0 hkl;go_upto_region 6 with fail
   go_loopw [6] (λj wq=>∃i:Nat,i<=m/\j=ZZ ZS i/\Hid (∃Lq,Run wq B g p b Lq (s.feed p b (q0++pl.take i))/\Step L Lq W1 wq)) (λj _=>m-(intOf j).toNat)
   case atStart=>exact ⟨0,Dj _,rfl,Bx ⟨Lr,by rw [List.take_zero,BH];exact HA.out,HS.out⟩⟩
   case round=>
    obtain ⟨i,hi,rfl,hR2⟩:=hrel;rcases Dg i m with hilt | hige
    ·obtain ⟨Lq,hA2,hS2⟩:=hR2.out;have hil:i<pl.length:=by rw [HM.out];exact hilt
     obtain ⟨ak,ck,hcell,hbt⟩:=HCE.out _ _ hS2
     obtain ⟨zb,zo,rfl,hzb,hz⟩:=hbt.nums.2 (by omega);have hbyte:=hz i hil;have hti:pl.take (i+1)=pl.take i ++ [pl[i]]:=CO hil;have hgi:(pl.map λc=>(c.toNat:Int))[i]?.getD 0=(pl[i].toNat:Int):=by simp [hil]
     rw [hgi] at hbyte;have HTI:=Bx hti;obtain ⟨c,hc⟩:∃c,pl[i]=c:=⟨_,rfl⟩;rw [hc] at hbyte HTI;have t2:(i:Int)<(m:Int):=by omega
     obtain ⟨hr3,ok3⟩:=Pg.feed_sim (q0++pl.take i) HR.out HOK.out;have hou3:(s.feed p b (q0++pl.take i)).out.length<=999999998:=by rw [(Pg.said_sim hr3 ok3).2.1];have h1:=Pg.Q.feed_out (p:=p) (b:=b) (q0++pl.take i) x;have h2:=HSUM.out;rw [HXO.out,Cr,C0] at h1;simp only [List.length_nil] at h1;omega
     have HTA:=Bx (byteRun_any hp c hA2 hr3 ok3 hou3);have HS2:=Bx hS2;clear hA2 hS2 hz hzb hti hgi hc hr3 ok3 hou3 hR2 hbt
     go_wp2_with (go_at_call 72;with_reducible refine HTA.out.mono ?_;rintro r w5 ⟨rfl,L5,hA5,hS5⟩);go_roundw
     case rel=>exact ⟨i+1,by omega,by go_num,Bx ⟨L5,by rw [HTI.out,←List.append_assoc,S.feed_app];exact hA5,HS2.out.trans hS5⟩⟩
     case measure=>simp [intOf];omega
    ·obtain rfl:i=m:=by omega
     have t2:¬(i:Int)<(i:Int):=by omega
     obtain ⟨Lq,hA2,hS2⟩:=hR2.out;obtain ⟨ak,ck,hcell,hbt⟩:=HCE.out _ _ hS2
     have e:pl.take i=pl:=CN (by rw [HM.out];exact Db _);rw [e,←HTK.out] at hA2;have HA2:=Bx hA2;have HS2:=Bx hS2;clear hA2 hS2 e hR2 hbt;exact XXMED
  ·obtain rfl:k=n:=by omega
   have t1:¬(k:Int)<(k:Int):=by omega
   obtain ⟨Lr,hA,hS⟩:=hR.out
   have e:ls.take k=ls:=CN (by rw [HN.out];exact Db _);rw [e] at hA;obtain ⟨o,L2,c26,hA2,hT2,hS2⟩:=hA.tell;obtain ⟨hr3,ok3⟩:=Pg.feed_sim ls.flatten HR.out HOK.out;have e2:=(Pg.said_sim hr3 ok3).2.1;rw [e2] at hT2
   have HA2:=Bx (show DQ wr B g p b L2 (x.feed p b ls.flatten).told from ⟨_,Pg.told_sim hr3,Pg.told_fine ok3,hA2.told⟩);have HT2:=Bx hT2;have HS2:=Bx ((HS0.out.trans hS).trans hS2);clear hA hS hR e hA2 hT2 hS2 hr3 ok3 e2;go_wp2_with fail;go_ret;exact ⟨o,rfl,L2,HA2.out,HT2.out,HS2.out⟩
theorem qnew_out:(Pg.Q.new p b).out= []:=by unfold Pg.Q.new;split<;>rfl
theorem feed_fits (l:List UInt8):∀{x:Pg.Q},Flt.Fits x.out->x.Fine b->Flt.Fits (x.feed p b l).out:=by
 induction l with
 | nil=>intro x h _;exact h
 | cons c l ih=>intro x h ok;exact ih (Flt.byte_fits h ok c) (ok.byte c)
end
end Go.Proofs.YtdfabddnpgjepaaGreatDoor.Par
namespace Go.Proofs.YtdfabddnpgjepaaGreatDoor.Tel
open Go.RowKit Base Txt Mem Par Pg Each
def OneA (M:List (Option Nat)) (ad:Option Addr) (cc:Nat):Fact:=λv w=>∃k,v=ZX (some ⟨k,0,none⟩) 1 1/\k<w.heap.size/\some k∉M/\w.cell? ⟨k,0,none⟩=some (.slice ad 1 cc)
section
variable {w w':World} {B g p:Nat} {b:Bd} {L1 L2:List (Option Nat)} {ch:UInt8} {ad:Option Addr} {cc:Nat}
theorem OneA.lasts {l:List Oper} {A' C':World->List (Option Nat)->Prop} {i1 i2 k:Nat}:LastsTwo l A' C' L1 L2 i1 i2 k (OneA (L1++L2) ad cc):=
 LastsTwo.keeps λ_ _ _ _ hM hk ⟨j,e,h1,h2,h3⟩=>⟨j,e,Df h1 hk.size,h2,(hk.cell (p:=⟨j,0,none⟩) h1 λhm=>h2 (hM j hm)).trans h3⟩
theorem OneA.made {M:List (Option Nat)} {W w1:World} (hin:∀k,some k∈M->k<W.heap.size) (hk:Keeps M W w1) (ad:Option Addr) (cc:Nat) (ty:TypeId):OneA M ad cc (ZX (some ⟨w1.heap.size,0,none⟩) 1 1) (w1.alloc (.cells #[.slice ad 1 cc] ty)):=by
 refine ⟨w1.heap.size,rfl,by simp,λhm=>?_,?_⟩
 ·have:=hin _ hm;have:=hk.size;omega
 ·exact (cell_of_row (w1.alloc (.cells #[.slice ad 1 cc] ty)) w1.heap.size 0 _ ty (0,0) (heap_alloc_new w1 _)).trans rfl
theorem bts_at {L:List (Option Nat)} {yb yo:Nat} {l:List UInt8} (h:Bts [] w (some ⟨yb,yo,none⟩) l) (k:Nat) (hk:k<l.length) (hn:some yb∉L):Bts L w (some ⟨yb,yo+k,none⟩) [l[k]]:=by
 have hf:=(h.far _ rfl).2;refine ⟨⟨rfl,λ_=>⟨yb,yo+k,rfl,hf,λj hj=>?_⟩⟩,λad e=>?_⟩
 ·obtain rfl:j=0:=by
   have:j<1:=hj;omega
  obtain ⟨b',o',e, -,hc⟩:=h.nums.2 (by omega);cases e;rw [Nat.add_zero,hc k hk,Cd,Ca hk];rfl
 ·cases e;exact ⟨hn,hf⟩
structure Rd3 (w:World) (a:Option Addr) (n c:Nat):Prop where
 le:n<=c/\n<=3000
 rd:0<n->∃yb yo l,a=some ⟨yb,yo,none⟩/\l.length=n/\Bts [] w a l
theorem Rd3.below {a:Option Addr} {n c:Nat} (h:Rd3 w a n c) (hb:Below w.heap.size w w'):Rd3 w' a n c:=
 ⟨h.le,λh0=>by obtain ⟨yb,yo,l,e,h1,h2⟩:=h.rd h0;exact ⟨yb,yo,l,e,h1,h2.step (DP hb)⟩⟩
theorem nums_bytes {g:Nat} {l:List UInt8} (h:By.Bytes w g l) (hlt:g<w.heap.size):Nums .u8 w (some ⟨g,0,none⟩) l.length (nums l):=
 ⟨by simp [nums],λ_=>⟨g,0,rfl,hlt,λk hk=>by
   rw [Di,(h k hk).1]
   simp [nums,hk]⟩⟩
theorem Rd3.bytes {g c:Nat} {l:List UInt8} (h:By.Bytes w g l) (hlt:g<w.heap.size) (n:Nat) (hn:l.length=n) (h1:n<=c) (h2:n<=3000):Rd3 w (some ⟨g,0,none⟩) n c:=
 ⟨⟨h1,h2⟩,λ_=>⟨g,0,l,rfl,hn,⟨nums_bytes h hlt,λad e=>by cases e;exact ⟨by simp,hlt⟩⟩⟩⟩
theorem Rd3.lie {a:Option Addr} {n c:Nat} (h:Rd3 w a n c):∃l:List UInt8,l.length=n/\(0<n->∃b off,a=some ⟨b,off,none⟩/\∀j u,(DB l)[j]?=some u->w.cell? ⟨b,off+j,none⟩=some u):=by
 rcases CZ n with h0 | h0
 ·exact ⟨[],by rw [h0];rfl,λh=>by omega⟩
 ·obtain ⟨yb,yo,l,e,hl,hb⟩:=h.rd h0;refine ⟨l,hl,λ_=>?_⟩
  have:=Rec.vals_lie hb.nums (by omega);exact this
theorem Rd3.cut {yb yo n c:Nat} (h:Rd3 w (some ⟨yb,yo,none⟩) n c) (k m d:Nat) (hk:k+m<=n) (hd:m<=d):Rd3 w (some ⟨yb,yo+k,none⟩) m d:=
 ⟨⟨hd,by have:=h.le.2;omega⟩,λh0=>by
   obtain ⟨b',o',l,e,hl,hb⟩:=h.rd (by omega);cases e;refine ⟨yb,yo+k,(l.drop k).take m,rfl,by rw [C0,Cu];omega,⟨⟨by simp,λ_=>⟨yb,yo+k,rfl,(hb.far _ rfl).2,λj hj=>?_⟩⟩,λad e=>by cases e;exact ⟨by simp,(hb.far _ rfl).2⟩⟩⟩;have hj2:j<m:=by rw [C0] at hj;omega
   obtain ⟨b',o',e, -,hc⟩:=hb.nums.2 (by omega);cases e
   rw [Nat.add_assoc,hc (k+j) (by omega),Cd,Cd,List.getElem?_take_of_lt hj2,List.getElem?_drop]⟩
theorem own_row {e:TypeId} {n:Nat} {v:Value} {xs:List Value} (h:w.ownsRow B e 1 v n xs) (h0:0<n):∃g tc ys,v=ZX (some ⟨g,0,none⟩) n tc/\B<=g/\n<=tc/\tc<=maxLen/\w.heap[g]?=some (.cells (List.toArray ys) e (0,0))/\ys.take n=xs:=by
 rcases h.2 with ⟨-,e0⟩ | ⟨g,cap,cur,rfl,h1,h2,h3,h4,h5,h6⟩
 ·omega
 ·exact ⟨g,cap,cur.toList,rfl,h1,h3,h4,h2,by rw [Nat.mul_one] at h6;exact h6⟩
theorem rd_row {e:TypeId} {n c:Nat} {ys:List Value} {l:List UInt8} (hr:w.heap[g]?=some (.cells (List.toArray ys) e (0,0))) (ht:ys.take n=DB l) (hl:l.length=n) (h1:n<=c) (h2:n<=3000):Rd3 w (some ⟨g,0,none⟩) n c:=
 ⟨⟨h1,h2⟩,λ_=>⟨g,0,l,rfl,hl,⟨⟨by simp,λ_=>⟨g,0,rfl,Ln.row_lt hr,λk hk=>by
   rw [Di];refine row_cellL hr ?_;rw [←List.getElem?_take_of_lt (show k<n by omega),ht]
   simp [DB,D8,hk]⟩⟩,λad e2=>by cases e2;exact ⟨by simp,Ln.row_lt hr⟩⟩⟩⟩
theorem rd_own {e:TypeId} {n:Nat} {v:Value} {l:List UInt8} (h:w.ownsRow B e 1 v n (DB l)) (hl:l.length=n) (h2:n<=3000):∃a c,v=.slice a n c/\Rd3 w a n c:=by
 rcases h.2 with ⟨e1,e0⟩ | ⟨g,cap,cur,rfl,h1,h2',h3,h4,h5,h6⟩
 ·subst e0;exact ⟨none,0,e1,⟨Db _,by omega⟩,λh=>absurd h (Nat.lt_irrefl _)⟩
 ·exact ⟨_,cap,rfl,rd_row (ys:=cur.toList) h2' (by rw [Nat.mul_one] at h6;exact h6) hl h3 h2⟩
theorem own_slice {e:TypeId} {n:Nat} {v:Value} {xs:List Value} (h:w.ownsRow B e 1 v n xs):∃a c,v=.slice a n c:=by
 rcases h.2 with ⟨e1,e0⟩ | ⟨g,cap,cur,rfl,h1,h2',h3,h4,h5,h6⟩
 ·subst e0;exact ⟨none,0,e1⟩
 ·exact ⟨_,cap,rfl⟩
theorem vals_app (l l':List UInt8):DB l++DB l'=DB (l++l'):=by unfold DB;rw [List.map_append]
theorem vals_len (l:List UInt8):(DB l).length=l.length:=by simp [DB]
theorem vals_set {n:Nat} {ys:List Value} {l:List UInt8} (ht:ys.take n=DB l) (m:Nat) (x:UInt8):(ys.set m (ZZ ZR (x.toNat:Int))).take n=DB (l.set m x):=by rw [List.take_set,ht];unfold DB;rw [List.map_set]
end
end Go.Proofs.YtdfabddnpgjepaaGreatDoor.Tel
namespace Go.Proofs.YtdfabddnpgjepaaGreatDoor.Tel
open Go.RowKit Base Txt Mem Par Pg Each
theorem Rd3.lies {w:World} {a:Option Addr} {n c:Nat} (h:Rd3 w a n c):∃l:List UInt8,l.length=n/\∀w',Below w.heap.size w w'->(0<n->∃b off,a=some ⟨b,off,none⟩/\∀j u,(DB l)[j]?=some u->w'.cell? ⟨b,off+j,none⟩=some u):=by
 rcases CZ n with h0 | h0
 ·exact ⟨[],by rw [h0];rfl,λ_ _ h=>by omega⟩
 ·obtain ⟨yb,yo,l,e,hl,hb⟩:=h.rd h0;refine ⟨l,hl,λw' hw _=>?_⟩
  have:=Rec.vals_lie (hb.step (DP hw):Bts [] w' a l).nums (by omega);exact this
theorem tail_of {w:World} {yb yo n cap m:Nat} (h:Rd3 w (some ⟨yb,yo,none⟩) n cap) (hm:m<n):∃(k:Nat) (A2:Option Addr),IntKind.i64.wrap ((m:Int)+1)=(k:Int)/\(0:Int)<=(k:Int)/\(k:Int)<=(n:Int)/\(k:Int)<=(cap:Int)/\k<=n/\m+(n-k)<=3000/\
 (if cap=k then A2=some ⟨yb,yo,none⟩ else A2=some ⟨yb,yo+k,none⟩)/\Rd3 w A2 (n-k) (cap-k):=by
 obtain ⟨h1,h2⟩:=h.le;have e:IntKind.i64.wrap ((m:Int)+1)=((m+1:Nat):Int):=by rw [wrap_in ((m:Int)+1) (by omega) (by omega),Int.natCast_add];rfl
 obtain ⟨k,hk⟩:∃k,m+1=k:=⟨_,rfl⟩;rw [hk] at e;by_cases hc:cap=k
 ·exact ⟨k,some ⟨yb,yo,none⟩,e,Int.natCast_nonneg k,Int.ofNat_le.2 (by omega),Int.ofNat_le.2 (by omega),by omega,by omega,by rw [if_pos hc],⟨by omega,by omega⟩,λh0=>absurd h0 (by omega)⟩
 ·exact ⟨k,some ⟨yb,yo+k,none⟩,e,Int.natCast_nonneg k,Int.ofNat_le.2 (by omega),Int.ofNat_le.2 (by omega),by omega,by omega,by rw [if_neg hc],h.cut k (n-k) (cap-k) (by omega) (by omega)⟩
section
set_option maxHeartbeats 8000000
set_option maxRecDepth 100000
attribute [local go_sem] Am
theorem XX08E {P:Prop} (h:P:=by
 have m1:=CV HR.out m
 have c1:wt.cell? ⟨gt,m,none⟩=some (ZZ ZR ((l[m]'(by rw [HL.out];exact HMM.out)).toNat:Int)):=row_cellL HR.out (by rw [←List.getElem?_take_of_lt HMM.out,HYS.out];simp [DB,D8,HL.out,HMM.out])
 go_wp2_with fail;go_ret
 exact ⟨_,n,tc,rfl,rd_row (row_setL HR.out m (ZZ ZR (x.toNat:Int))) (vals_set HYS.out m x) (by rw [List.length_set];exact HL.out) HTC.out (by omega),HBT.out.setCell (p:=⟨gt,m,none⟩) HGE.out _⟩):P:=h
theorem XXXrL {P:Prop} (h:P:=by
 obtain ⟨a9,c9,rfl,hr9⟩:=rd_own hown (by simp only [Cr];omega) (by omega);have HR9:=Bx hr9;clear hown hr9;go_wp2_with fail;go_ret
 exact ⟨a9,_,c9,rfl,HR9.out,HB9.out⟩):P:=h
theorem change_any (ba:Option Addr) (n cap:Nat) (at_:Nat) (x:UInt8) (how:Nat) (ma:Option Addr) (mn mcap:Nat) (w:World) (hb:Rd3 w ba n cap) (hn:n<=2600) (hm:Rd3 w ma mn mcap) (hmn:mn<=8) (ha:at_<65536) (hh:how<256) :
 Calls EW 14 #[.slice ba n cap,.int .u16 (at_:Int),ZZ ZR (x.toNat:Int),ZZ ZR (how:Int),.slice ma mn mcap] w λe w'=>∃a m c,e=.returned (.slice a m c)/\Rd3 w' a m c/\Below w.heap.size w w':=by
 obtain ⟨i0,hi0,hz0,hz1,hz2⟩:=info_parts Txt.byte_info;have G1:=Bx hi0;have G2:=Bx hz0;have G3:=Bx hz1;have G4:=Bx hz2;clear hi0 hz0 hz1 hz2;obtain ⟨l,hl,hlie⟩:=hb.lie
 have HL:=Bx hl;have HN:=Bx hlie;have HB:=Bx hb;have HM:=Bx hm;have HX:=Bx (And.intro hn hmn);have HA:=Bx ha;clear hlie hb hm ha hl;go_enter Tryz.func14,Tryz.ntmps14;go_upto_region 2 with
  (at_builtin;refine App.wpList_append_list _ rfl _ _ 22 rfl w.heap.size 5 i0 (.int .u8 0) 1 1 F0 G1.out G2.out G3.out G4.out rfl (by decide) (.slice none 0 0) 0 [] rfl ⟨rfl,.inl ⟨rfl,rfl⟩⟩ ba n cap (DB l) rfl (by rw [Nat.mul_one,vals_len];exact HL.out) HN.out (Rec.vals_one l) (by unfold maxLen;omega) (by omega) (Db _) ?_;intro vt wt hown hgr hni _
   have HOT:=Bx hown;have HBT:=Bx ((An w.heap.size w).grown hgr (Db _) (λg e=>by cases e));clear hown hgr hni)
 have hot:=HOT.out;rw [Di,List.nil_append] at hot;rcases CZ n with h0 | h0
 ·subst h0;obtain ⟨ta,tc,rfl⟩:=own_slice hot;clear hot;go_wp2_with fail;go_ret;exact ⟨ma,mn,mcap,rfl,HM.out.below HBT.out,HBT.out⟩
 obtain ⟨gt,tc,ys,rfl,hge,htc, -,hrow,hys⟩:=own_row hot h0;obtain ⟨yb,yo, -,rfl, -, -⟩:=HB.out.rd h0;obtain ⟨m,hm,hr⟩:∃m:Nat,m<n/\Int.tmod (at_:Int) (n:Int)=(m:Int):=⟨at_%n,Nat.mod_lt _ h0,by rw [Int.tmod_eq_emod_of_nonneg (by omega)];omega⟩;have t0:¬(n:Int)=0:=by omega
 have tm:(m:Int)<(n:Int):=by omega
 have HGE:=Bx hge;have HTC:=Bx htc;have HR:=Bx hrow;have HYS:=Bx hys;have HMM:=Bx hm;have ha1:=HA.out;clear hot hge htc hrow hys HOT h0;have hw4:(how:Int)%4=((how%4:Nat):Int):=by omega
 have hk4:how%4<4:=Nat.mod_lt _ (by decide);have hq:Int.tmod (how:Int) 4=((how%4:Nat):Int):=by rw [Int.tmod_eq_emod_of_nonneg (by omega)];exact hw4
 generalize how%4=q at *;go_upto_region 5 with fail
 rcases (show q=0∨q=1∨q=2∨q=3 by omega) with rfl | rfl | rfl | rfl
 ·exact XX08E
 ·exact XX08E
 ·have hwd:=Ak HBT.out 1;have hcp:=HB.out.le;obtain ⟨l1,hl1,hn1⟩:=(show Rd3 w (some ⟨yb,yo,none⟩) m cap from by simpa using HB.out.cut 0 m cap (by omega) (by omega)).lies;obtain ⟨l2,hl2,hn2⟩:=(show Rd3 w (some ⟨yb,yo+m,none⟩) (n-m) (cap-m) from HB.out.cut m (n-m) (cap-m) (by omega) (by omega)).lies;obtain ⟨lm,hlm,hnm⟩:=HM.out.lies;have s0:(0:Int)<=(m:Int):=by omega
  have s1:(m:Int)<=(cap:Int):=by omega
  have s2:(m:Int)<=(n:Int):=by omega
  have s3:(n:Int)<=(cap:Int):=by omega
  have s4:¬cap=m:=by omega
  go_upto_region 11 with fail
  refine Tree.region (.quiet 0 (.quiet 1 (.quiet 4 (.quiet 6 (.quiet 7 (.quiet 2 (.quiet 8 (.act 3 (.act 5 (.act 9 (.quiet 10 .done))))))))))) (λ_=>True) (by kernel_rfl) (by kernel_rfl) (λ_ _ d _ _ h=>by cases d<;>exact h) trivial ?_;simp only [Ee,Ef,BZ,BY];generalize wt.drewN 1=W at *;refine Eg (by rfl) (.slice (some ⟨yb,yo,none⟩) n cap) (λ_ _=>by go_simp) ?_;simp only [Ab,CH,CK,CJ];refine Eg (by rfl) (.int .i64 (m:Int)) (λ_ _=>by go_simp) ?_;simp only [Ab,CH,CK,CJ];refine Eg (by rfl) (.slice ma mn mcap) (λ_ _=>by go_simp) ?_;simp only [Ab,CH,CK,CJ];refine Eg (by rfl) (.slice (some ⟨yb,yo,none⟩) n cap) (λ_ _=>by go_simp) ?_;simp only [Ab,CH,CK,CJ];refine Eg (by rfl) (.int .i64 (m:Int)) (λ_ _=>by go_simp) ?_;simp only [Ab,CH,CK,CJ];refine Eg (by rfl) (.slice (some ⟨yb,yo,none⟩) m cap) (λ_ _=>by go_simp) ?_;simp only [Ab,CH,CK,CJ];refine Eg (by rfl) (.slice (some ⟨yb,yo+m,none⟩) (n-m) (cap-m)) (λ_ _=>by go_simp) ?_;simp only [Ab,CH,CK,CJ];obtain ⟨v7,w7,hrun,hown,hgr, -⟩:=App.run_append_list W 22 22 w.heap.size 5 i0 (.int .u8 0) 1 1 F0 G1.out G2.out G3.out G4.out rfl (by decide) (.slice none 0 0) (0) [] ⟨rfl,.inl ⟨rfl,rfl⟩⟩ (some ⟨yb,yo,none⟩) (m) (cap) (DB l1) (by rw [Nat.mul_one,vals_len];exact hl1) (hn1 _ hwd) (Rec.vals_one l1) (by unfold maxLen;omega) (by omega) hwd.size
  have HB7:=Bx (hwd.grown hgr hwd.size (λg e=>by cases e))
  refine Ec (by rfl) (λK hK=>?_);refine Each.oper_append _ _ _ rfl (by rfl) (by rfl) hrun ?_;refine hK _ _ trivial ?_;clear hK K hrun hgr;simp only [Ab,CH,CK,CJ];have HO7:=Bx hown;clear hown;obtain ⟨v8,w8,hrun,hown,hgr, -⟩:=App.run_append_list w7 22 22 w.heap.size 5 i0 (.int .u8 0) 1 1 F0 G1.out G2.out G3.out G4.out rfl (by decide) v7 (0+m) ([]++DB l1) HO7.out ma (mn) (mcap) (DB lm) (by rw [Nat.mul_one,vals_len];exact hlm) (hnm _ HB7.out) (Rec.vals_one lm) (by unfold maxLen;omega) (by omega) HB7.out.size
  have HB8:=Bx (HB7.out.grown hgr HB7.out.size (λk e=>(FU HO7.out k e).1))
  refine Ec (by rfl) (λK hK=>?_);refine Each.oper_append _ _ _ rfl (by rfl) (by rfl) hrun ?_;refine hK _ _ trivial ?_;clear hK K hrun hgr;simp only [Ab,CH,CK,CJ];have HO8:=Bx hown;clear hown;obtain ⟨v9,w9,hrun,hown,hgr, -⟩:=App.run_append_list w8 22 22 w.heap.size 5 i0 (.int .u8 0) 1 1 F0 G1.out G2.out G3.out G4.out rfl (by decide) v8 (0+m+mn) ([]++DB l1++DB lm) HO8.out (some ⟨yb,yo+m,none⟩) (n-m) (cap-m) (DB l2) (by rw [Nat.mul_one,vals_len];exact hl2) (hn2 _ HB8.out) (Rec.vals_one l2) (by unfold maxLen;omega) (by omega) HB8.out.size
  have HB9:=Bx (HB8.out.grown hgr HB8.out.size (λk e=>(FU HO8.out k e).1))
  refine Ec (by rfl) (λK hK=>?_);refine Each.oper_append _ _ _ rfl (by rfl) (by rfl) hrun ?_;refine hK _ _ trivial ?_;clear hK K hrun hgr;simp only [Ab,CH,CK,CJ];refine Tree.assign _ (by rfl) (by rfl) ?_;simp only [Ab,Act.eval,Ag,Cg,BZ,BY,Ds,CH,CK,CJ];refine Ed ?_;rw [List.nil_append,vals_app,vals_app] at hown;exact XXXrL
 ·have hwd:=Ak HBT.out 1;have hcp:=HB.out.le;obtain ⟨k,A2,s5,s6,s7,s8,hkn,hk3,hA2,hR2⟩:=tail_of HB.out HMM.out;obtain ⟨l1,hl1,hn1⟩:=(show Rd3 w (some ⟨yb,yo,none⟩) m cap from by simpa using HB.out.cut 0 m cap (by omega) (by omega)).lies;obtain ⟨l2,hl2,hn2⟩:=hR2.lies;have s0:(0:Int)<=(m:Int):=Int.natCast_nonneg m;have s1:(m:Int)<=(cap:Int):=by omega
  have s2:(m:Int)<=(n:Int):=by omega
  have s3:(n:Int)<=(cap:Int):=by omega
  have s4:¬cap=m:=by omega
  clear hR2;go_upto_region 6 with fail
  refine Tree.region (.quiet 0 (.quiet 1 (.quiet 4 (.quiet 5 (.quiet 6 (.quiet 2 (.quiet 7 (.act 3 (.act 8 (.quiet 9 .done)))))))))) (λ_=>True) (by kernel_rfl) (by kernel_rfl) (λ_ _ d _ _ h=>by cases d<;>exact h) trivial ?_;simp only [Ee,Ef,BZ,BY];generalize wt.drewN 1=W at *;refine Eg (by rfl) (.slice (some ⟨yb,yo,none⟩) n cap) (λ_ _=>by go_simp) ?_;simp only [Ab,CH,CK,CJ];refine Eg (by rfl) (.int .i64 (m:Int)) (λ_ _=>by go_simp) ?_;simp only [Ab,CH,CK,CJ];refine Eg (by rfl) (.slice (some ⟨yb,yo,none⟩) n cap) (λ_ _=>by go_simp) ?_;simp only [Ab,CH,CK,CJ];refine Eg (by rfl) (.int .i64 (m:Int)) (λ_ _=>by go_simp) ?_;simp only [Ab,CH,CK,CJ];refine Eg (by rfl) (.int .i64 (k:Int)) (λ_ _=>by go_simp;try rw [s5]) ?_;simp only [Ab,CH,CK,CJ];refine Eg (by rfl) (.slice (some ⟨yb,yo,none⟩) m cap) (λ_ _=>by go_simp) ?_;simp only [Ab,CH,CK,CJ];refine Eg (by rfl) (.slice A2 (n-k) (cap-k)) (λ_ _=>by (by_cases h:cap=k);(·rw [if_pos h] at hA2;subst hA2;go_simp);(·rw [if_neg h] at hA2;subst hA2;go_simp)) ?_;simp only [Ab,CH,CK,CJ];obtain ⟨v7,w7,hrun,hown,hgr, -⟩:=App.run_append_list W 22 22 w.heap.size 5 i0 (.int .u8 0) 1 1 F0 G1.out G2.out G3.out G4.out rfl (by decide) (.slice none 0 0) (0) [] ⟨rfl,.inl ⟨rfl,rfl⟩⟩ (some ⟨yb,yo,none⟩) (m) (cap) (DB l1) (by rw [Nat.mul_one,vals_len];exact hl1) (hn1 _ hwd) (Rec.vals_one l1) (by unfold maxLen;omega) (by omega) hwd.size
  have HB7:=Bx (hwd.grown hgr hwd.size (λg e=>by cases e))
  refine Ec (by rfl) (λK hK=>?_);refine Each.oper_append _ _ _ rfl (by rfl) (by rfl) hrun ?_;refine hK _ _ trivial ?_;clear hK K hrun hgr;simp only [Ab,CH,CK,CJ];have HO7:=Bx hown;clear hown;obtain ⟨v9,w9,hrun,hown,hgr, -⟩:=App.run_append_list w7 22 22 w.heap.size 5 i0 (.int .u8 0) 1 1 F0 G1.out G2.out G3.out G4.out rfl (by decide) v7 (0+m) ([]++DB l1) HO7.out A2 (n-k) (cap-k) (DB l2) (by rw [Nat.mul_one,vals_len];exact hl2) (hn2 _ HB7.out) (Rec.vals_one l2) (by unfold maxLen;omega) (by omega) HB7.out.size
  have HB9:=Bx (HB7.out.grown hgr HB7.out.size (λk e=>(FU HO7.out k e).1))
  refine Ec (by rfl) (λK hK=>?_);refine Each.oper_append _ _ _ rfl (by rfl) (by rfl) hrun ?_;refine hK _ _ trivial ?_;clear hK K hrun hgr;simp only [Ab,CH,CK,CJ];refine Tree.assign _ (by rfl) (by rfl) ?_;simp only [Ab,Act.eval,Ag,Cg,BZ,BY,Ds,CH,CK,CJ];refine Ed ?_;rw [List.nil_append,vals_app] at hown;exact XXXrL
end
end Go.Proofs.YtdfabddnpgjepaaGreatDoor.Tel
namespace Go.Proofs.YtdfabddnpgjepaaGreatDoor.Tel
open Go.RowKit Base Txt Mem Par Pg Each Flt
theorem own_lower' {w:World} {B B':Nat} {e:TypeId} {size n:Nat} {v:Value} {xs:List Value} (h:w.ownsRow B e size v n xs) (hB:B'<=B):w.ownsRow B' e size v n xs:=by
 refine ⟨h.1,?_⟩;rcases h.2 with h0 | ⟨b,cap,cur,rfl,hb,rest⟩
 ·exact .inl h0
 ·exact .inr ⟨b,cap,cur,rfl,Dd hB hb,rest⟩
theorem at_lower {w:World} {B B' g p:Nat} {b:Bd} {L Z:List (Option Nat)} {x:Q} (h:At w ⟨B,Z⟩ g p b L x) (ho:x.out= []) (hB:B'<=B):At w ⟨B',Z⟩ g p b L x:=by
 cases x with
 | live s=>
   obtain ⟨q,v,f,bd,t,o,rfl,h1,h2⟩:=h;have ho:s.out= []:=ho;rw [ho] at h2;refine ⟨q,v,f,bd,t,o,rfl,h1,?_⟩;rw [ho];exact ⟨⟨h2.R.row,own_lower' h2.R.own hB,Dd hB h2.R.ge,h2.R.ne⟩,own_lower' h2.F hB,own_lower' h2.D hB,own_lower' h2.TR hB,outs_of (own_lower' (outs_nil (B:=⟨B,Z⟩) h2.O) hB),h2.lone,Dd hB h2.ge,h2.lt,h2.zone⟩
 | dead e out=>
   obtain ⟨o,rfl,h⟩:=h;have ho:out= []:=ho;subst ho;exact ⟨o,rfl,h.row,outs_of (own_lower' (outs_nil (B:=⟨B,Z⟩) h.O) hB),h.ne,Dd hB h.ge,h.lt,h.bad,h.zone⟩
theorem dq_lower {w:World} {B B' g p:Nat} {b:Bd} {L Z:List (Option Nat)} {x:Q} (h:DQ w ⟨B,Z⟩ g p b L x) (hB:B'<=B):DQ w ⟨B',Z⟩ g p b L x:=by
 obtain ⟨s,h1,h2,h3⟩:=h;refine ⟨s,h1,h2,?_⟩;rcases h3 with ⟨q,v,f,bd,t,rfl,⟨o,hrow⟩,hown⟩ | ⟨rfl,h3⟩
 ·exact .inl ⟨q,v,f,bd,t,rfl,⟨o,hrow⟩,⟨⟨hown.R.row,own_lower' hown.R.own hB,Dd hB hown.R.ge,hown.R.ne⟩,own_lower' hown.F hB,own_lower' hown.D hB,own_lower' hown.T hB,⟨[],rfl,(by intro x hx;cases hx),FV _ _ _ _⟩,hown.lone,Dd hB hown.ge,hown.lt,hown.zone⟩⟩
 ·exact .inr ⟨rfl,h3.row,h3.e,h3.clean,h3.out,Dd hB h3.ge,h3.zone⟩
abbrev Has (B g p:Nat) (b:Bd) (X:Q):World->List (Option Nat)->Prop:=λw L=>∃Z,At w ⟨B,Z⟩ g p b L X
abbrev DHas (B g p:Nat) (b:Bd) (X:Q):World->List (Option Nat)->Prop:=λw L=>∃Z,DQ w ⟨B,Z⟩ g p b L X
structure TX (w0 w:World) (B g1 g2 p:Nat) (b:Bd) (x:Q) (L1 L2:List (Option Nat)):Prop where
 hx:Has B g1 p b x w L1
 hy:DHas B g2 p b x w L2
 dis:Dis L1 L2
 ok:x.Ok b
 xo:x.out= []
 bel:Below B w0 w
theorem TX.first {w0 w1 w2:World} {g1 g2 p:Nat} {b:Bd} {L1 L2:List (Option Nat)} {B:Nat} (hB:w0.heap.size<=B) (h1:At w1 ⟨B,[]⟩ g1 p b L1 (Q.new p b)) (h2:DQ w2 ⟨w1.heap.size,[]⟩ g2 p b L2 (Q.new p b)) (hb1:Below w0.heap.size w0 w1) (hb2:Below w1.heap.size w1 w2):TX w0 w2 w0.heap.size g1 g2 p b (Q.new p b) L1 L2:=
 ⟨⟨_,(at_lower h1 qnew_out hB).below hb2⟩,⟨_,dq_lower h2 hb1.size⟩,λk hk hk'=>by
   have:=h1.in k hk;have:w1.heap.size<=k:=h2.low k hk'
   omega,Q.new_ok p b,qnew_out,Al hb1 hb2⟩
theorem dfeed_by {w:World} {B g p:Nat} {b:Bd} {ch:UInt8} {ad:Option Addr} {cc:Nat} {X:Q} {Z:List (Option Nat)} {L:List (Option Nat)} (hp:p<4294967296) (hA:DQ w ⟨B,Z⟩ g p b L X) (xo:X.out= []) (k:Nat) (hc:w.cell? ⟨k,0,none⟩=some (.slice ad 1 cc)) (hk:k<w.heap.size) (hkL:some k∉L)
 (hbt:Bts L w ad [ch]) (Z':List (Option Nat)) (hz:Clear w Z' L):Calls EW 18 #[ptr g,ZX (some ⟨k,0,none⟩) 1 1] w λr w'=>∃v L',r=.returned v/\DQ w' ⟨B,Z'⟩ g p b L' (X.byte p b ch).told/\Pg.Told L' ⟨B,Z'⟩ w' v (X.byte p b ch).out/\Step L L' w w':=by
 have hpa:Parts L w (some ⟨k,0,none⟩) [[ch]]:=⟨λ_=>⟨k,0,rfl,hk,hkL,λj hj=>by
  obtain rfl:j=0:=by have:j<1:=hj;omega
  exact ⟨_,cc,hc,hbt⟩⟩⟩
 have:=dfeed_any hp (hA.rezone hz) xo (some ⟨k,0,none⟩) 1 [[ch]] hpa (by simp) (by simp);exact this
theorem feed_by {w:World} {B g p:Nat} {b:Bd} {ch:UInt8} {ad:Option Addr} {cc:Nat} {X:Q} {Z:List (Option Nat)} {L:List (Option Nat)} (hp:p<4294967296) (hA:At w ⟨B,Z⟩ g p b L X) (ok:X.Ok b) (xo:X.out= []) (k:Nat) (hc:w.cell? ⟨k,0,none⟩=some (.slice ad 1 cc)) (hk:k<w.heap.size) (hkL:some k∉L)
 (hbt:Bts L w ad [ch]) (Z':List (Option Nat)) (hz:Clear w Z' L):Calls EW 17 #[ptr g,ZX (some ⟨k,0,none⟩) 1 1] w λr w'=>∃v L',r=.returned v/\At w' ⟨B,Z'⟩ g p b L' (X.byte p b ch).told/\Pg.Told L' ⟨B,Z'⟩ w' v (X.byte p b ch).out/\Step L L' w w':=by
 have hpa:Parts L w (some ⟨k,0,none⟩) [[ch]]:=⟨λ_=>⟨k,0,rfl,hk,hkL,λj hj=>by
  obtain rfl:j=0:=by have:j<1:=hj;omega
  exact ⟨_,cc,hc,hbt⟩⟩⟩
 have:=Pg.feed_any hp X (hA.rezone xo hz) ok (some ⟨k,0,none⟩) 1 [[ch]] hpa (by simp) (by rw [xo];simp);exact this
theorem byte_fits' {p:Nat} {b:Bd} {x:Q} (ho:x.out= []) (ok:x.Ok b) (c:UInt8):Flt.Fits (x.byte p b c).out/\(x.byte p b c).out.length<=2:=by
 have h1:x.feed p b [c]=x.byte p b c:=rfl;refine ⟨?_,?_⟩
 ·rw [←h1];exact feed_fits [c] (by rw [ho];intro r hr;cases hr) (fine_of ok)
 ·rw [←h1];have:=Q.feed_out (p:=p) (b:=b) [c] x;rw [ho] at this;simpa using this
end Go.Proofs.YtdfabddnpgjepaaGreatDoor.Tel
