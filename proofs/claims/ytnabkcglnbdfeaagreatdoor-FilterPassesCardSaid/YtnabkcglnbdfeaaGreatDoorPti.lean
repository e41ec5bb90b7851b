import Derived.Test.YtnabkcglnbdfeaaGreatDoorPth
set_option linter.unusedSimpArgs false
open Array renaming getD_eq_getD_getElem?→Ag
open Bool renaming or_eq_true→AB
open Go.Act renaming put→Ab
open Go.Lib renaming hid→BN
open Go.Proofs.Tryz renaming prog→Gq,underlying22→GI
open Go.Proofs.YtnabkcglnbdfeaaGreatDoor.Base renaming below_drewN→Ak,below_step→Al,some_undef→An
open Go.Proofs.YtnabkcglnbdfeaaGreatDoor.Chk renaming sizeV→AK
open Go.Proofs.YtnabkcglnbdfeaaGreatDoor.Each renaming Goes→AO,fine→AY,putg→Be,region_all→Bg
open Go.Proofs.YtnabkcglnbdfeaaGreatDoor.Each.Goes renaming enter→AP
open Go.Proofs.YtnabkcglnbdfeaaGreatDoor.Each.Lasts renaming eq→AT
open Go.Proofs.YtnabkcglnbdfeaaGreatDoor.Flt.F renaming feed→Bj
open Go.Proofs.YtnabkcglnbdfeaaGreatDoor.Ln renaming own_slice→Dw,row_frozen→Dy
open Go.Proofs.YtnabkcglnbdfeaaGreatDoor.Mem.Keeps renaming of_below→BD,set→BF
open Go.Proofs.YtnabkcglnbdfeaaGreatDoor.Mem.Of renaming refl→DT
open Go.Proofs.YtnabkcglnbdfeaaGreatDoor.Par.S renaming again→E4
open Go.Proofs.YtnabkcglnbdfeaaGreatDoor.Par.Step renaming of_below→EH,set→EJ
open Go.Proofs.YtnabkcglnbdfeaaGreatDoor.Qk renaming has→Ei,rhas_any→Ek
open Go.Proofs.YtnabkcglnbdfeaaGreatDoor.Rec renaming Bk→El,R→Eo,byteV→Ep,wraps→Et
open Go.Proofs.YtnabkcglnbdfeaaGreatDoor.Rec.Bk renaming new→Em
open Go.Proofs.YtnabkcglnbdfeaaGreatDoor.Tree renaming change→Fi,done→Fj,grow→Fk,put1→Fl,quiet→Fm
open Go.RowKit.Below renaming refl→Ao
open Go.World renaming ownsRow_nil→Hp
open Go.World.ownsRow renaming lt→Ho
open List renaming append_nil→Cb,getElem?_cons_succ→Cy,getElem?_cons_zero→Cz,getElem?_eq_getElem→C0,getElem?_toArray→C6,length_append→CG,length_drop→CI,length_take→CO,mem_cons→CV,mem_of_getElem?→CZ,mem_singleton→Dc,not_mem_nil→De,setIfInBounds_toArray→Di,set_cons_succ→Dk,set_cons_zero→Dl,take_append_drop→Do,take_of_length_le→Dp,take_succ_eq_append_getElem→Dq
open Nat renaming eq_zero_or_pos→D3,le_of_lt→D4,le_refl→D5,le_trans→D7,lt_of_lt_of_le→D8,lt_or_ge→D9,zero_add→DB,zero_le→DC
open Option renaming getD_some→DV,some→DX
open Go.Value renaming int→ZZ,string→ZY,slice→ZX,bool→ZW,pointer→ZV,agg→ZU,tuple→ZT
open Go.IntKind renaming i64→ZS,u8→ZR,u32→ZQ
namespace Go.Proofs.YtnabkcglnbdfeaaGreatDoor.Par
open Go.RowKit Base Txt Mem
structure Fits (s:S):Prop where
 lines:s.st=1∨s.st=6->s.lines<=1000
 fss:∀y∈s.r.fs,y.1.size<=1000000/\y.2.size<=1000000
 fsl:s.r.fs.length<=500
 tss:∀y∈s.r.ts,y.1.size<=1000000/\y.2.size<=1000000
 tsl:s.r.ts.length<=500
 body:s.r.body.length<=2000000
 out:s.out.length<=1000000000
theorem empty_of {x:ByteArray} (h:x.size=0):x=⟨#[]⟩:=by
 have:x.data.size=0:=h;cases x with
 | mk d=>
   have e:d= #[]:=Array.eq_empty_of_size_eq_zero this;rw [e]
theorem list_ne {x:ByteArray} (h:0<x.size):x.data.toList≠ []:=λe=>by
 have:x.size=0:=by rw [←len,e];rfl
 omega
section
set_option maxHeartbeats 4000000
set_option maxRecDepth 20000
attribute [local go_sem] An
variable {w:World} {B:Zone} {g q:Nat} {v f bd t o:Value} {p:Nat} {b:Bd} {s:S}
theorem ended_size (hp:p<4294967296) (h3:16<=b.x3/\b.x3<=1048576) (h4:0<=b.x4) (x:ByteArray) (hx:x.size<=5000) (h:PR w B g q v f bd t o p b s) (hst:s.st=3) (ok:Fits s):Calls Gq 164 #[ptr g,ZY x] w λr w'=>
 r=.returned (ZT #[])/\∃q1 v1 f1 bd1 t1 o1,PR w' B g q1 v1 f1 bd1 t1 o1 p b (s.ended p b x.data.toList)/\Step (blks g q v f bd t o) (blks g q1 v1 f1 bd1 t1 o1) w w':=by
 have es:s.ended p b x.data.toList=s.chunk p b x.data.toList:=by unfold S.ended;rw [hst];rfl
 rw [es];have c11:=h.cs.c11;rw [hst] at c11;have H:=BN h;clear es
 have HC:=BN (chunk_any hp h3 h4 x hx h ok.body);clear h hst;go_enter Tryz.func164,Tryz.ntmps164
 go_wp2_with (go_at_call 193;with_reducible refine HC.out.mono ?_;rintro r w2 ⟨rfl,q1,v1,f1,bd1,t1,hP,hS⟩);go_end0;exact ⟨rfl,q1,v1,f1,bd1,t1,o,hP,hS⟩
theorem XX2R2 {P:Prop} (h:P:=by
 refine ⟨?_,?_,?_,?_,?_,?_,?_,?_,?_,?_,?_,?_,trivial⟩
 all_goals (refine AY rfl (λev w1 hR hb hh=>?_);have e0:=hR.old 0 rfl;have e1:=hR.old 1 rfl;simp only [Ag,C6,Cy,Cz,DV] at e0 e1;have q16:=(HQ.out.below hb).c 16 _ rfl;have q2:=(HQ.out.below hb).c 2 _ rfl;exact Each.std)):P:=h
theorem ended_fields (hp:p<4294967296) (h3:16<=b.x3/\b.x3<=1048576) (x:ByteArray) (hx:x.size<=5000) (h:PR w B g q v f bd t o p b s) (hst:s.st=1) (ok:Fits s):Calls Gq 164 #[ptr g,ZY x] w λr w'=>
 r=.returned (ZT #[])/\∃q1 v1 f1 bd1 t1 o1,PR w' B g q1 v1 f1 bd1 t1 o1 p b (s.ended p b x.data.toList)/\Step (blks g q v f bd t o) (blks g q1 v1 f1 bd1 t1 o1) w w':=by
 have es:s.ended p b x.data.toList=s.fields p b x.data.toList:=by unfold S.ended;rw [hst];rfl
 rw [es];have c11:=h.cs.c11;rw [hst] at c11;have H:=BN h;clear es;rcases D3 x.size with h0 | h0
 ·obtain rfl:=empty_of h0;have e:s.fields p b (⟨#[]⟩:ByteArray).data.toList=s.over p b:=by unfold S.fields;rfl
  rw [e]
  have HC:=BN (over_any hp h3 h ok.fsl ok.fss ok.out);clear h hst e;go_enter Tryz.func164,Tryz.ntmps164
  go_wp2_with (go_at_call 191;with_reducible refine HC.out.mono ?_;rintro r w2 ⟨rfl,q1,v1,f1,bd1,t1,o1,hP,hS⟩);refine bodyPost_ret (results_none rfl _ _ _) rfl ?_;exact ⟨rfl,_,_,_,_,_,_,hP,hS⟩
 ·have hne:=list_ne h0;obtain ⟨bf,cbf,eb, -⟩:=Dw h.own.F;subst eb;have te:=Fd.first_no x h0
  have HQ:=BN ((H.out.drew 1).bk);unfold S.fields;rw [if_neg hne];have hfi:=λw1 (hb:Below w.heap.size w w1)=>fieldF_any hp x hx b.x1 (h.below hb) (ok.lines (.inl hst)) ok.fss ok.fsl;have hlt:=h.own.lt;cases hfv:fieldV p s.lines s.r.fs x.data.toList b.x1 with
  | inl e=>
    rw [hfv] at hfi;have HFI0:=BN hfi;clear h hst hne h0 hfv hfi hlt;go_enter Tryz.func164,Tryz.ntmps164;go_upto_region 13 with fail
    refine Each.region 12 [78,79,80,81,82,83,84,85,86,87,88,89] [eP g 0,eP g 0,eP g 0,eP g 13,eP g 16,eQ (.slice bf s.r.fs.length cbf),eQ (ZY x),eP g 0,eP g 0,eP g 1,eP g 2,eQ (ZZ ZS b.x1)] (.act 12 (.quiet 13 .done)) (by kernel_rfl) (by kernel_rfl) (by kernel_rfl) (by kernel_rfl) (λ_ _ d _ _ h=>by cases d<;>exact h) (by rfl) (by rfl) (by repeat first | exact trivial | refine ⟨AT _,?_⟩) ?_ ?_
    ·exact XX2R2
    intro g1 w2 hb hf;have z78:g1 78= _:=hf.at 0;have z83:g1 83= _:=hf.at 5;have z84:g1 84= _:=hf.at 6;have z89:g1 89= _:=hf.at 11;clear hf;simp only [Be,Ab,Di,Dl,Dk];rw [z78,z83,z84,z89];simp only [Fk,Fl,Cz,Cy]
    have H1:=BN (H.out.below hb)
    have HS1:=BN (EH hb (L:=blks g q v (.slice bf s.r.fs.length cbf) bd t o))
    have HFI:=BN (HFI0.out _ hb);clear hb HQ
    refine Fi (by rfl) (λK hK=>?_)
    refine Each.oper_enter (g:=192) (args:=#[ptr g,.slice bf s.r.fs.length cbf,ZY x,ZZ ZS b.x1]) (by go_simp) (HFI.out.mono ?_);rintro r w3 ⟨rfl,hP,hS⟩;refine ⟨_,rfl,?_⟩;refine hK _ _ trivial ?_;clear hK K;simp only [Ab,Di,Dl,Dk];refine Tree.assign _ (by rfl) (by rfl) ?_;simp only [Ab,Act.eval,Ag,C6,Cz,Cy,DV,Di,Dl,Dk];refine Fj ?_;have c16:=hP.cs.c16;have z16:=hP.marks 16
    have HP2:=BN (hP.put 16 nil (S.fail {s with lines:=s.lines+1} e) rfl rfl rfl rfl rfl rfl)
    have HS2:=BN ((HS1.out.trans hS).trans (EJ g 16 nil (by simp)));clear hP hS HFI H1 HS1;go_wp2;go_end0;exact ⟨rfl,_,_,_,_,_,_,HP2.out,HS2.out⟩
  | inr l=>
    rw [hfv] at hfi;have HFI0:=BN hfi;clear h hst hne h0 hfv hfi hlt;go_enter Tryz.func164,Tryz.ntmps164;go_upto_region 13 with fail
    refine Each.region 12 [78,79,80,81,82,83,84,85,86,87,88,89] [eP g 0,eP g 0,eP g 0,eP g 13,eP g 16,eQ (.slice bf s.r.fs.length cbf),eQ (ZY x),eP g 0,eP g 0,eP g 1,eP g 2,eQ (ZZ ZS b.x1)] (.act 12 (.quiet 13 .done)) (by kernel_rfl) (by kernel_rfl) (by kernel_rfl) (by kernel_rfl) (λ_ _ d _ _ h=>by cases d<;>exact h) (by rfl) (by rfl) (by repeat first | exact trivial | refine ⟨AT _,?_⟩) ?_ ?_
    ·exact XX2R2
    intro g1 w2 hb hf;have z78:g1 78= _:=hf.at 0;have z83:g1 83= _:=hf.at 5;have z84:g1 84= _:=hf.at 6;have z89:g1 89= _:=hf.at 11;clear hf;simp only [Be,Ab,Di,Dl,Dk];rw [z78,z83,z84,z89];simp only [Fk,Fl,Cz,Cy]
    have H1:=BN (H.out.below hb)
    have HS1:=BN (EH hb (L:=blks g q v (.slice bf s.r.fs.length cbf) bd t o))
    have HFI:=BN (HFI0.out _ hb);clear hb HQ
    refine Fi (by rfl) (λK hK=>?_)
    refine Each.oper_enter (g:=192) (args:=#[ptr g,.slice bf s.r.fs.length cbf,ZY x,ZZ ZS b.x1]) (by go_simp) (HFI.out.mono ?_);rintro r w3 ⟨u',rfl,hrow,how,hS⟩;obtain ⟨b9,c9,e9, -⟩:=Dw how.F;subst e9;refine ⟨_,rfl,?_⟩;refine hK _ _ trivial ?_;clear hK K;simp only [Ab,Di,Dl,Dk];refine Tree.assign _ (by rfl) (by rfl) ?_;simp only [Ab,Act.eval,Ag,C6,Cz,Cy,DV,Di,Dl,Dk];refine Fj ?_;have c16:=(Cs.of hrow).c16;have z16:=Dy hrow 16
    have HR2:=BN (row_setL hrow 16 (.slice b9 l.length c9))
    have HO2:=BN (how.set 16 (.slice b9 l.length c9))
    have HS2:=BN ((HS1.out.trans hS).trans (EJ g 16 (.slice b9 l.length c9) (by simp)));clear hrow how hS HFI H1 HS1;go_wp2;go_end0;exact ⟨rfl,_,_,_,_,_,_,⟨HR2.out,HO2.out⟩,HS2.out⟩
theorem XX2Cw {P:Prop} (h:P:=by
 refine ⟨?_,?_,?_,?_,?_,?_,?_,?_,?_,?_,?_,?_,trivial⟩
 all_goals (refine AY rfl (λev w1 hR hb hh=>?_);have e0:=hR.old 0 rfl;have e1:=hR.old 1 rfl;simp only [Ag,C6,Cy,Cz,DV] at e0 e1;have q19:=(HQ.out.below hb).c 19 _ rfl;have q6:=(HQ.out.below hb).c 6 _ rfl;exact Each.std)):P:=h
theorem ended_trail (hp:p<4294967296) (x:ByteArray) (hx:x.size<=5000) (h:PR w B g q v f bd t o p b s) (hst:s.st=6) (ok:Fits s):Calls Gq 164 #[ptr g,ZY x] w λr w'=>
 r=.returned (ZT #[])/\∃q1 v1 f1 bd1 t1 o1,PR w' B g q1 v1 f1 bd1 t1 o1 p b (s.ended p b x.data.toList)/\Step (blks g q v f bd t o) (blks g q1 v1 f1 bd1 t1 o1) w w':=by
 have es:s.ended p b x.data.toList=s.trail p b x.data.toList:=by unfold S.ended;rw [hst];rfl
 rw [es];have c11:=h.cs.c11;rw [hst] at c11;have H:=BN h;clear es;rcases D3 x.size with h0 | h0
 ·obtain rfl:=empty_of h0;have e:s.trail p b (⟨#[]⟩:ByteArray).data.toList=s.whole p b:=by unfold S.trail;rfl
  rw [e]
  have HC:=BN (whole_any h ok.out);clear h hst e;go_enter Tryz.func164,Tryz.ntmps164
  go_wp2_with (go_at_call 161;with_reducible refine HC.out.mono ?_;rintro r w2 ⟨rfl,q1,o1,hP,hS⟩);refine bodyPost_ret (results_none rfl _ _ _) rfl ?_;exact ⟨rfl,_,_,_,_,_,_,hP,hS⟩
 ·have hne:=list_ne h0;obtain ⟨bt,cbt,eb, -⟩:=Dw h.own.T;subst eb;have te:=Fd.first_no x h0
  have HQ:=BN ((H.out.drew 1).bk);unfold S.trail;rw [if_neg hne];have hfi:=λw1 (hb:Below w.heap.size w w1)=>fieldT_any hp x hx b.x5 (h.below hb) (ok.lines (.inr hst)) ok.tss ok.tsl;have hlt:=h.own.lt;cases hfv:fieldV p s.lines s.r.ts x.data.toList b.x5 with
  | inl e=>
    rw [hfv] at hfi;have HFI0:=BN hfi;clear h hst hne h0 hfv hfi hlt;go_enter Tryz.func164,Tryz.ntmps164;go_upto_region 18 with fail
    refine Each.region 12 [102,103,104,105,106,107,108,109,110,111,112,113] [eP g 0,eP g 0,eP g 0,eP g 13,eP g 19,eQ (.slice bt s.r.ts.length cbt),eQ (ZY x),eP g 0,eP g 0,eP g 1,eP g 6,eQ (ZZ ZS b.x5)] (.act 12 (.quiet 13 .done)) (by kernel_rfl) (by kernel_rfl) (by kernel_rfl) (by kernel_rfl) (λ_ _ d _ _ h=>by cases d<;>exact h) (by rfl) (by rfl) (by repeat first | exact trivial | refine ⟨AT _,?_⟩) ?_ ?_
    ·exact XX2Cw
    intro g1 w2 hb hf;have z102:g1 102= _:=hf.at 0;have z107:g1 107= _:=hf.at 5;have z108:g1 108= _:=hf.at 6;have z113:g1 113= _:=hf.at 11;clear hf;simp only [Be,Ab,Di,Dl,Dk];rw [z102,z107,z108,z113];simp only [Fk,Fl,Cz,Cy]
    have H1:=BN (H.out.below hb)
    have HS1:=BN (EH hb (L:=blks g q v f bd (.slice bt s.r.ts.length cbt) o))
    have HFI:=BN (HFI0.out _ hb);clear hb HQ
    refine Fi (by rfl) (λK hK=>?_)
    refine Each.oper_enter (g:=192) (args:=#[ptr g,.slice bt s.r.ts.length cbt,ZY x,ZZ ZS b.x5]) (by go_simp) (HFI.out.mono ?_);rintro r w3 ⟨rfl,hP,hS⟩;refine ⟨_,rfl,?_⟩;refine hK _ _ trivial ?_;clear hK K;simp only [Ab,Di,Dl,Dk];refine Tree.assign _ (by rfl) (by rfl) ?_;simp only [Ab,Act.eval,Ag,C6,Cz,Cy,DV,Di,Dl,Dk];refine Fj ?_;have c19:=hP.cs.c19;have z19:=hP.marks 19
    have HP2:=BN (hP.put 19 nil (S.fail {s with lines:=s.lines+1} e) rfl rfl rfl rfl rfl rfl)
    have HS2:=BN ((HS1.out.trans hS).trans (EJ g 19 nil (by simp)));clear hP hS HFI H1 HS1;go_wp2;go_end0;exact ⟨rfl,_,_,_,_,_,_,HP2.out,HS2.out⟩
  | inr l=>
    rw [hfv] at hfi;have HFI0:=BN hfi;clear h hst hne h0 hfv hfi hlt;go_enter Tryz.func164,Tryz.ntmps164;go_upto_region 18 with fail
    refine Each.region 12 [102,103,104,105,106,107,108,109,110,111,112,113] [eP g 0,eP g 0,eP g 0,eP g 13,eP g 19,eQ (.slice bt s.r.ts.length cbt),eQ (ZY x),eP g 0,eP g 0,eP g 1,eP g 6,eQ (ZZ ZS b.x5)] (.act 12 (.quiet 13 .done)) (by kernel_rfl) (by kernel_rfl) (by kernel_rfl) (by kernel_rfl) (λ_ _ d _ _ h=>by cases d<;>exact h) (by rfl) (by rfl) (by repeat first | exact trivial | refine ⟨AT _,?_⟩) ?_ ?_
    ·exact XX2Cw
    intro g1 w2 hb hf;have z102:g1 102= _:=hf.at 0;have z107:g1 107= _:=hf.at 5;have z108:g1 108= _:=hf.at 6;have z113:g1 113= _:=hf.at 11;clear hf;simp only [Be,Ab,Di,Dl,Dk];rw [z102,z107,z108,z113];simp only [Fk,Fl,Cz,Cy]
    have H1:=BN (H.out.below hb)
    have HS1:=BN (EH hb (L:=blks g q v f bd (.slice bt s.r.ts.length cbt) o))
    have HFI:=BN (HFI0.out _ hb);clear hb HQ
    refine Fi (by rfl) (λK hK=>?_)
    refine Each.oper_enter (g:=192) (args:=#[ptr g,.slice bt s.r.ts.length cbt,ZY x,ZZ ZS b.x5]) (by go_simp) (HFI.out.mono ?_);rintro r w3 ⟨u',rfl,hrow,how,hS⟩;obtain ⟨b9,c9,e9, -⟩:=Dw how.T;subst e9;refine ⟨_,rfl,?_⟩;refine hK _ _ trivial ?_;clear hK K;simp only [Ab,Di,Dl,Dk];refine Tree.assign _ (by rfl) (by rfl) ?_;simp only [Ab,Act.eval,Ag,C6,Cz,Cy,DV,Di,Dl,Dk];refine Fj ?_;have c19:=(Cs.of hrow).c19;have z19:=Dy hrow 19
    have HR2:=BN (row_setL hrow 19 (.slice b9 l.length c9))
    have HO2:=BN (how.set 19 (.slice b9 l.length c9))
    have HS2:=BN ((HS1.out.trans hS).trans (EJ g 19 (.slice b9 l.length c9) (by simp)));clear hrow how hS HFI H1 HS1;go_wp2;go_end0;exact ⟨rfl,_,_,_,_,_,_,⟨HR2.out,HO2.out⟩,HS2.out⟩
theorem XX5kR {P:Prop} (h:P:=by
 go_wp2;first | go_end0 | refine bodyPost_ret (results_none rfl _ _ _) rfl ?_
 first
  |exact ⟨rfl,_,_,_,_,_,_,H2.out,HS.out⟩
  |exact ⟨rfl,_,_,_,_,_,_,H2.out,HS2.out⟩
  |exact ⟨rfl,_,_,_,_,_,_,H7.out,HS7.out⟩):P:=h
theorem ended_first (hp:p<4294967296) (x:ByteArray) (hx:x.size<=5000) (h:PR w B g q v f bd t o p b s) (hst:s.st=0) (he:s.e=0):Calls Gq 164 #[ptr g,ZY x] w λr w'=>
 r=.returned (ZT #[])/\∃q1 v1 f1 bd1 t1 o1,PR w' B g q1 v1 f1 bd1 t1 o1 p b (s.ended p b x.data.toList)/\Step (blks g q v f bd t o) (blks g q1 v1 f1 bd1 t1 o1) w w':=by
 have es:s.ended p b x.data.toList=s.first p b x.data.toList:=by unfold S.ended;rw [hst];rfl
 rw [es];have c11:=h.cs.c11;rw [hst] at c11;have H:=BN h;clear es;have c25:=h.cs.c25;rw [he] at c25;rcases D3 x.size with h0 | h0
 ·obtain rfl:=empty_of h0;have c0:=h.cs.c0
  have HH:=BN (λw=>Ek p hp 0 w);have c24:=h.cs.c24;have z24:=h.marks 24;cases hb:Ei p 0 with
  | true=>
    have e:s.first p b (⟨#[]⟩:ByteArray).data.toList={s with clean:=true}:=by show (if Ei p 0=true then ({s with clean:=true}:S) else s.fail 400)= _;rw [hb];rfl
    rw [e]
    have H2:=BN (h.put 24 (ZW true) {s with clean:=true} rfl rfl rfl rfl rfl rfl);rw [hb] at HH;clear h hst e hx h0;go_enter Tryz.func164,Tryz.ntmps164
    go_wp2_with (go_at_call 53;with_reducible refine Cm (HH.out _) ?_);first | go_end0 | refine bodyPost_ret (results_none rfl _ _ _) rfl ?_
    exact ⟨rfl,_,_,_,_,_,_,H2.out,EJ g 24 (ZW true) (by simp)⟩
  | false=>
    have e:s.first p b (⟨#[]⟩:ByteArray).data.toList=s.fail 400:=by show (if Ei p 0=true then ({s with clean:=true}:S) else s.fail 400)= _;rw [hb];rfl
    rw [e]
    have HFA:=BN (fail_at h 400 400 rfl);rw [hb] at HH;clear h hst e hx h0 c24 z24;go_enter Tryz.func164,Tryz.ntmps164
    go_upto_region 5 with (first
     |(go_at_call 118;with_reducible refine HFA.out.mono ?_;rintro r w2 ⟨rfl,hP,hS⟩)
     |(go_at_call 53;with_reducible refine Cm (HH.out _) ?_))
    clear c0 c11 c25;have c25:=hP.cs.c25;have c24:=hP.cs.c24;have z24:=hP.marks 24;have c25':w2.cell? ⟨g,25,none⟩=some (ZZ ZS 400):=c25;clear c25
    have H2:=BN (hP.put 24 (ZW false) (s.fail 400) rfl rfl rfl rfl rfl rfl)
    have HS:=BN (hS.trans (EJ g 24 (ZW false) (by simp)));clear hP hS HFA;exact XX5kR
 ·have hne:=list_ne h0;have te:=Fd.first_no x h0
  have HQ:=BN ((h.drew 1).bk)
  have hz:=λw=>Rq.rrequest_any x p hp b.x0 b.x1 b.x2 b.x3 b.x4 b.x5 b.x6 b.x7 b.ch b.od w (by omega);unfold S.first;rw [if_neg hne];obtain ⟨⟨m1,t1,qk,qe⟩,hq⟩:∃Q,Rq.request (Rq.clOf p) b.od x.data.toList=Q:=⟨_,rfl⟩;rw [hq] at hz;simp only [Rq.rv] at hz;rw [hq];obtain ⟨qm,hqm⟩:∃qm,ba m1=qm:=⟨_,rfl⟩;obtain ⟨qt,hqt⟩:∃qt,ba t1=qt:=⟨_,rfl⟩;rw [hqm,hqt] at hz;have HZ:=BN hz;simp only [hqm,hqt];clear hz hq hqm hqt hne h0 hx c25 he hst h;by_cases hqe:qe=0
  ·subst hqe;rw [if_neg (by decide)]
   have HZ:=BN (show∀w,Calls Gq 190 #[ZY x,ZZ ZQ (p:Int),ZU #[ZZ ZS b.x0,ZZ ZS b.x1,ZZ ZS b.x2,ZZ ZS b.x3,ZZ ZS b.x4,ZZ ZS b.x5,ZZ ZS b.x6,ZZ ZS b.x7,ZW b.ch,ZW b.od]] w λe w'=>e=.returned (ZT #[ZY qm,ZY qt,ZZ ZS (qk:Int),ZZ ZS 0])/\Below w.heap.size w w' from λw=>HZ.out w);go_enter Tryz.func164,Tryz.ntmps164;go_upto_region 6 with fail
   refine Bg 19 [35,36,37,38,39,40,41,42,43,44,34,45,46,47,48,4,5,6,7] [eQ (ZY x),eP g 0,eP g 0,eP g 0,eQ (ZZ ZQ (p:Int)),eP g 0,eP g 0,eP g 1,eQ (ZU #[ZZ ZS b.x0,ZZ ZS b.x1,ZZ ZS b.x2,ZZ ZS b.x3,ZZ ZS b.x4,ZZ ZS b.x5,ZZ ZS b.x6,ZZ ZS b.x7,ZW b.ch,ZW b.od]),eQ (ZT #[ZY qm,ZY qt,ZZ ZS (qk:Int),ZZ ZS 0]),eQ (ZT #[ZY qm,ZY qt,ZZ ZS (qk:Int),ZZ ZS 0]),eQ (ZY qm),eQ (ZY qt),eQ (ZZ ZS (qk:Int)),eQ (ZZ ZS 0),eQ (ZY qm),eQ (ZY qt),eQ (ZZ ZS (qk:Int)),eQ (ZZ ZS 0)] (by kernel_rfl) (by kernel_rfl) (by kernel_rfl) (by kernel_rfl) (λ_ _ d _ _ h=>by cases d<;>exact h) (by rfl) (by rfl) (by repeat first | exact trivial | refine ⟨AT _,?_⟩) ?_ ?_
   ·refine ⟨?_,?_,?_,?_,?_,?_,?_,?_,?_,?_,?_,?_,?_,?_,?_,?_,?_,?_,?_,trivial⟩
    ·exact XXoMs
    ·exact XXoMs
    ·exact XXoMs
    ·exact XXoMs
    ·exact XXoMs
    ·exact XXoMs
    ·exact XXoMs
    ·exact XXoMs
    ·exact XXoMs
    ·refine AY rfl (λev w1 hR hb hh=>?_);have e35:ev (.tmp 35)= _:=hh.at 0;have e39:ev (.tmp 39)= _:=hh.at 1;have e43:ev (.tmp 43)= _:=hh.at 2;clear hh;have ef:=hR.func
     refine AP 190 #[ZY x,ZZ ZQ (p:Int),ZU #[ZZ ZS b.x0,ZZ ZS b.x1,ZZ ZS b.x2,ZZ ZS b.x3,ZZ ZS b.x4,ZZ ZS b.x5,ZZ ZS b.x6,ZZ ZS b.x7,ZW b.ch,ZW b.od]] (by go_simp) ((HZ.out w1).mono ?_);exact XXUgj
    ·exact XXoMs
    ·exact XXoMs
    ·exact XXoMs
    ·exact XXoMs
    ·exact XXoMs
    ·exact XXoMs
    ·exact XXoMs
    ·exact XXoMs
    ·exact XXoMs
   intro g1 w2 hb hf;have z4:g1 4= _:=hf.at 15;have z5:g1 5= _:=hf.at 16;have z6:g1 6= _:=hf.at 17;have z7:g1 7= _:=hf.at 18;clear hf;simp only [Be,Ab,Di,Dl,Dk];rw [z4];rw [z5];rw [z6];rw [z7]
   have H1:=BN (H.out.below hb);have HS1:=BN (EH hb (L:=blks g q v f bd t o));clear hb HQ
   have H2:=BN ((((H1.out.put 13 (ZY qm) {s with r:={s.r with m:=qm}} rfl rfl rfl rfl rfl rfl).put 14 (ZY qt) {s with r:={s.r with m:=qm,x:=qt}} rfl rfl rfl rfl rfl rfl).put 15 (ZZ ZS (qk:Int)) {s with r:={s.r with m:=qm,x:=qt,k:=(qk:Int)}} rfl rfl rfl rfl rfl rfl).put 11 (ZZ ZS 1) {s with r:={s.r with m:=qm,x:=qt,k:=(qk:Int)},st:=1} rfl rfl rfl rfl rfl rfl)
   have HS2:=BN (HS1.out.trans ((((EJ g 13 (ZY qm) (by simp)).trans (EJ g 14 (ZY qt) (by simp))).trans (EJ g 15 (ZZ ZS (qk:Int)) (by simp))).trans (EJ g 11 (ZZ ZS 1) (by simp))));clear c11;have c11:=H1.out.cs.c11;have c13:=H1.out.cs.c13;have c14:=H1.out.cs.c14;have c15:=H1.out.cs.c15;have z11:=H1.out.marks 11;have z13:=H1.out.marks 13;have z14:=H1.out.marks 14;have z15:=H1.out.marks 15;exact XX5kR
  ·rw [if_pos hqe];have tz:¬(qe:Int)=0:=by omega
   have tz':((qe:Int)==0)=false:=beq_eq_false_iff_ne.2 tz;clear hqe;go_enter Tryz.func164,Tryz.ntmps164;go_upto_region 6 with fail
   refine Bg 19 [35,36,37,38,39,40,41,42,43,44,34,45,46,47,48,4,5,6,7] [eQ (ZY x),eP g 0,eP g 0,eP g 0,eQ (ZZ ZQ (p:Int)),eP g 0,eP g 0,eP g 1,eQ (ZU #[ZZ ZS b.x0,ZZ ZS b.x1,ZZ ZS b.x2,ZZ ZS b.x3,ZZ ZS b.x4,ZZ ZS b.x5,ZZ ZS b.x6,ZZ ZS b.x7,ZW b.ch,ZW b.od]),eQ (ZT #[ZY qm,ZY qt,ZZ ZS (qk:Int),ZZ ZS (qe:Int)]),eQ (ZT #[ZY qm,ZY qt,ZZ ZS (qk:Int),ZZ ZS (qe:Int)]),eQ (ZY qm),eQ (ZY qt),eQ (ZZ ZS (qk:Int)),eQ (ZZ ZS (qe:Int)),eQ (ZY qm),eQ (ZY qt),eQ (ZZ ZS (qk:Int)),eQ (ZZ ZS (qe:Int))] (by kernel_rfl) (by kernel_rfl) (by kernel_rfl) (by kernel_rfl) (λ_ _ d _ _ h=>by cases d<;>exact h) (by rfl) (by rfl) (by repeat first | exact trivial | refine ⟨AT _,?_⟩) ?_ ?_
   ·refine ⟨?_,?_,?_,?_,?_,?_,?_,?_,?_,?_,?_,?_,?_,?_,?_,?_,?_,?_,?_,trivial⟩
    ·exact XXoMs
    ·exact XXoMs
    ·exact XXoMs
    ·exact XXoMs
    ·exact XXoMs
    ·exact XXoMs
    ·exact XXoMs
    ·exact XXoMs
    ·exact XXoMs
    ·refine AY rfl (λev w1 hR hb hh=>?_);have e35:ev (.tmp 35)= _:=hh.at 0;have e39:ev (.tmp 39)= _:=hh.at 1;have e43:ev (.tmp 43)= _:=hh.at 2;clear hh;have ef:=hR.func
     refine AP 190 #[ZY x,ZZ ZQ (p:Int),ZU #[ZZ ZS b.x0,ZZ ZS b.x1,ZZ ZS b.x2,ZZ ZS b.x3,ZZ ZS b.x4,ZZ ZS b.x5,ZZ ZS b.x6,ZZ ZS b.x7,ZW b.ch,ZW b.od]] (by go_simp) ((HZ.out w1).mono ?_);exact XXUgj
    ·exact XXoMs
    ·exact XXoMs
    ·exact XXoMs
    ·exact XXoMs
    ·exact XXoMs
    ·exact XXoMs
    ·exact XXoMs
    ·exact XXoMs
    ·exact XXoMs
   intro g1 w2 hb hf;have z4:g1 4= _:=hf.at 15;have z5:g1 5= _:=hf.at 16;have z6:g1 6= _:=hf.at 17;have z7:g1 7= _:=hf.at 18;clear hf;simp only [Be,Ab,Di,Dl,Dk];rw [z4];rw [z5];rw [z6];rw [z7]
   have HFA:=BN (fail_any (H.out.below hb) qe);have HS1:=BN (EH hb (L:=blks g q v f bd t o));clear hb HQ
   go_wp2_with (go_at_call 118;with_reducible refine HFA.out.mono ?_;rintro r w4 ⟨rfl,hP,hS⟩);first | go_end0 | refine bodyPost_ret (results_none rfl _ _ _) rfl ?_
   exact ⟨rfl,_,_,_,_,_,_,hP,HS1.out.trans hS⟩
theorem XXwO9 {P:Prop} (h:P:=by
 refine Fm (by rfl) (ptr g) (λ_ _=>by go_simp) ?_;simp only [Ab,Di,Dl,Dk];refine Fm (by rfl) (ZV (some ⟨g,11,none⟩)) (λ_ _=>by go_simp) ?_;simp only [Ab,Di,Dl,Dk];have h1:=H.out.below hb;have ho:=H.out.own.line hb hr1 hq1;have d11:=h1.cs.c11;have z11:=h1.marks 11
 refine Fi (by rfl) (λK hK=>?_);go_simp;refine hK _ _ trivial ?_;clear hK K;refine Fm (by rfl) (ptr g) (λ_ _=>by go_simp) ?_;simp only [Ab,Di,Dl,Dk];refine Fm (by rfl) (ZV (some ⟨g,12,none⟩)) (λ_ _=>by go_simp) ?_;simp only [Ab,Di,Dl,Dk];have c12:=h1.cs.c12;have z12:=h1.marks 12
 refine Fi (by rfl) (λK hK=>?_);go_simp;refine hK _ _ trivial ?_;clear hK K;refine Fj ?_
 have HR:=BN (row_setL (row_setL h1.row 11 (ZZ ZS 3)) 12 (ptr q1))
 have HO:=BN ((ho.set 11 (ZZ ZS 3)).set 12 (ptr q1))
 have HS:=BN ((Step.line (g:=g) (q:=q) (v:=v) (f:=f) (bd:=bd) (t:=t) (o:=o) hb hq1).trans ((EJ g 11 (ZZ ZS 3) (by simp)).trans (EJ g 12 (ptr q1) (by simp))));clear HQ HBW hr1 hq1 c12 z12 d11 z11 h1 ho hb;go_wp2;first | go_end0 | refine bodyPost_ret (results_none rfl _ _ _) rfl ?_
 exact ⟨rfl,_,_,_,_,_,_,⟨HR.out,HO.out⟩,HS.out⟩):P:=h
theorem ended_behind (x:ByteArray) (h:PR w B g q v f bd t o p b s) (hst:s.st=5):Calls Gq 164 #[ptr g,ZY x] w λr w'=>
 r=.returned (ZT #[])/\∃q1 v1 f1 bd1 t1 o1,PR w' B g q1 v1 f1 bd1 t1 o1 p b (s.ended p b x.data.toList)/\Step (blks g q v f bd t o) (blks g q1 v1 f1 bd1 t1 o1) w w':=by
 have es:s.ended p b x.data.toList={s with st:=3,rd:=nl p b.x0}:=by unfold S.ended;rw [hst];rfl
 rw [es];have c11:=h.cs.c11;rw [hst] at c11;have H:=BN h;clear es
 have HQ:=BN ((h.drew 1).bk)
 have HBW:=BN (show B<=(w.drewN 1).heap.size from D7 h.own.ge (D4 (h.drew 1).own.lt));clear h hst;go_enter Tryz.func164,Tryz.ntmps164;go_upto_region 21 with fail
 clear c11;refine Each.region_float 12 [122,123,124,125,126,127,128,129,130,131,132,133] [eP g 0,eP g 0,eP g 0,eP g 0,eP g 0,eQ (ZZ ZQ (p:Int)),eP g 0,eP g 0,eP g 1,eP g 1,eQ (ZZ ZS b.x0),λv u=>∃q1,v=ptr q1/\w.heap.size<=q1/\Ln.Rr u B q1 nil p (nl p (b.x0))] [] 6 (some 1) (.quiet 12 (.quiet 13 (.act 14 (.quiet 15 (.quiet 16 (.act 17 .done)))))) (.quiet 1 (.quiet 12 (.quiet 13 (.act 14 (.quiet 15 (.quiet 16 (.act 17 .done))))))) (by kernel_rfl) (by kernel_rfl) (by kernel_rfl) (by kernel_rfl) (λk0 h=>by cases h;kernel_rfl) (λ_ _ d _ _ h=>by cases d<;>exact h) (by rfl) (by rfl) ⟨AT _,AT _,AT _,AT _,AT _,AT _,AT _,AT _,AT _,AT _,AT _,((λ_ _ _ hb h=>by obtain ⟨q1,e1,h1,h2⟩:=h;exact ⟨q1,e1,h1,rr_below h2 hb⟩)),trivial⟩ trivial (by rfl) ?_ ?_ ?_
 ·refine ⟨?_,?_,?_,?_,?_,?_,?_,?_,?_,?_,?_,?_,trivial⟩
  ·exact XXSdZ
  ·exact XXSdZ
  ·exact XXSdZ
  ·exact XXSdZ
  ·exact XXSdZ
  ·exact XXSdZ
  ·exact XXSdZ
  ·exact XXSdZ
  ·exact XXSdZ
  ·exact XXSdZ
  ·exact XXSdZ
  ·refine AY rfl (λev w1 hR hb hh=>?_);have e127:ev (.tmp 127)= _:=hh.at 0;have e132:ev (.tmp 132)= _:=hh.at 1;exact XXHuz
 ·intro g1 w2 hb hf;have z122:g1 122= _:=hf.at 0;have z123:g1 123= _:=hf.at 1;have z133:=hf.at 11;clear hf;obtain ⟨q1,e1,hq1,hr1⟩:=z133;simp only [Be,Ab,Di,Dl,Dk];rw [e1,z122,z123];simp only [Fk,Fl,Cz,Cy];exact XXwO9
 ·intro k0 hk0 g1 w2 hb hf;cases hk0;have z122:g1 122= _:=hf.at 0;have z133:=hf.at 11;clear hf;obtain ⟨q1,e1,hq1,hr1⟩:=z133;simp only [Be,Ab,Di,Dl,Dk];rw [e1,z122];simp only [Fk,Fl,Cz,Cy];refine Fm (by rfl) (ptr g) (λ_ _=>by go_simp) ?_;simp only [Ab,Di,Dl,Dk];exact XXwO9
end
end Go.Proofs.YtnabkcglnbdfeaaGreatDoor.Par
namespace Go.Proofs.YtnabkcglnbdfeaaGreatDoor.Par
open Go.RowKit Base Txt Mem
section
set_option maxHeartbeats 4000000
set_option maxRecDepth 20000
attribute [local go_sem] An
variable {w:World} {B:Zone} {g q:Nat} {v f bd t o:Value} {p:Nat} {b:Bd} {s:S}
theorem body_any (c:UInt8) (h:PR w B g q v f bd t o p b s) (hst0:s.st=2∨s.st=4) (hl:1<=s.left/\s.left<=2000000) (hbl:s.r.body.length<=2000000) (hout:s.out.length<=1000000000):Calls Gq 119 #[ptr g,ZZ ZR (c.toNat:Int)] w λr w'=>
 r=.returned (ZT #[])/\∃q1 v1 f1 bd1 t1 o1,PR w' B g q1 v1 f1 bd1 t1 o1 p b (S.bodyB p b {s with fresh:=false} c)/\Step (blks g q v f bd t o) (blks g q1 v1 f1 bd1 t1 o1) w w':=by
 obtain ⟨iB,hi,hz0,hz1,hz2⟩:=info_parts byte_info;have I1:=BN hi;have I2:=BN hz0;have I3:=BN hz1;have I4:=BN hz2;obtain ⟨bb,cb,eb, -⟩:=Dw h.own.D;subst eb;have H:=BN h;have HBL:=BN hbl;have HOU:=BN hout
 have H1:=BN (h.put 23 (ZW false) {s with fresh:=false} rfl rfl rfl rfl rfl rfl)
 have HS1:=BN (EJ (w:=w) (L:=blks g q v f (.slice bb s.r.body.length cb) t o) g 23 (ZW false) (by simp));have c23:=h.cs.c23;have z23:=h.marks 23;clear hi hz0 hz1 hz2 hbl hout h;by_cases hmore:1<s.left
 ·obtain ⟨k,hleft⟩:∃k,s.left=k+1:=⟨s.left-1,by omega⟩;have e:S.bodyB p b {s with fresh:=false} c={s with fresh:=false,r:={s.r with body:=s.r.body ++ [c]},left:=k}:=by
   unfold S.bodyB;show (if 1<s.left then ({s with fresh:=false,r:={s.r with body:=s.r.body ++ [c]},left:=s.left-1}:S) else _)= _;rw [if_pos hmore,hleft];rfl
  rw [e];obtain ⟨a1,a2⟩:=Et (k:Int) ⟨by omega,by omega⟩;have a3:(k:Int)+1-1=(k:Int):=by omega
  have t1:(0:Int)<(k:Int):=by omega
  have t1n:0<k:=by omega
  clear e hmore;rcases hst0 with hst | hst
  ·clear hl;have HST:=BN hst;have HLE:=BN hleft;clear hst hleft;have c11:w.cell? ⟨g,11,none⟩=some (ZZ ZS 2):=by have:=H.out.cs.c11;rw [HST.out] at this;exact this
   go_enter Tryz.func119,Tryz.ntmps119;go_upto_region 2 with fail
   generalize w.setCell ⟨g,23,none⟩ (ZW false)=W1 at *;clear c11 c23 z23;have c18:=H1.out.cs.c18;have z18:=H1.out.marks 18;go_upto_region 3 with
    (at_builtin;refine App.wpList_append_list _ rfl _ _ 22 rfl B 5 iB (.int .u8 0) 1 1 GI I1.out I2.out I3.out I4.out rfl (by decide) (.slice bb s.r.body.length cb) s.r.body.length (Rec.vals s.r.body) rfl (H1.out.own.D.alloc (.cells #[Ep c] 5)) (some ⟨W1.heap.size,0,none⟩) 1 1 [Ep c] rfl rfl (λ_=>⟨W1.heap.size,0,rfl,λj u hu=>by rw [DB];exact (Em W1 _ rfl 5 [Ep c]).c j u hu⟩) (λu hu=>by rw [Dc.1 hu];rfl) (by have:=HBL.out;unfold maxLen;omega) (by have:=HBL.out;omega) (by have:=H1.out.own.lt;have:=H1.out.own.ge;simp;omega) ?_;intro v2 w5 hO5 hgr5 _ hor5;obtain ⟨b9,c9,e9, -⟩:=Dw hO5;subst e9;have hk5:Keeps [(.slice bb s.r.body.length cb:Value).ownBlock] (W1.alloc (.cells #[Ep c] 5)) w5:=Keeps.grown hgr5 λk e=>by rw [e];exact Dc.2 rfl
     have h4:=H1.out.below ((Ao _ _).alloc (D5 _) (.cells #[Ep c] 5));have hl:(s.r.body ++ [c]).length=s.r.body.length+1:=by simp
     obtain ⟨ho5,hs5⟩:=h4.own.setD (bd':=.slice b9 (s.r.body.length+1) c9) (body':=s.r.body ++ [c]) hk5 (by rw [hl,Rec.vals_app];exact hO5) (by
      rcases hor5 with e | e
      ·exact .inl e
      ·exact .inr ⟨_,e,D5 _⟩)
     have hrow:w5.heap[g]?= _:=hk5.row h4.row (λhm=>by
      have e:some g=(.slice bb s.r.body.length cb:Value).ownBlock:=by simpa using hm
      exact h4.own.lone.ne (i:=0) (j:=4) rfl (by decide) (by rw [e];rfl))
     have HR5:=BN hrow;have HO5:=BN ho5;have HS5:=BN ((EH ((Ao W1.heap.size W1).alloc (D5 _) (.cells #[Ep c] 5))).trans hs5);have d18:=row_cellL hrow (k:=18) rfl;have y18:=Dy hrow 18;clear hO5 hgr5 hor5 hk5 h4 hl ho5 hs5 hrow c18 z18)
   have H6:=BN (show PR (w5.setCell ⟨g,18,none⟩ (.slice b9 (s.r.body.length+1) c9)) B g q v f (.slice b9 (s.r.body.length+1) c9) t o p b {s with fresh:=false,r:={s.r with body:=s.r.body ++ [c]}} from ⟨row_setL HR5.out 18 (.slice b9 (s.r.body.length+1) c9),HO5.out.set 18 (.slice b9 (s.r.body.length+1) c9)⟩)
   have HS6:=BN ((HS1.out.trans HS5.out).trans (EJ g 18 (.slice b9 (s.r.body.length+1) c9) (by simp)));clear HR5 HO5 HS5 d18 y18 HS1;generalize w5.setCell ⟨g,18,none⟩ (.slice b9 (s.r.body.length+1) c9)=W6 at *;have c22:W6.cell? ⟨g,22,none⟩=some (ZZ ZS ((k:Int)+1)):=by have:=H6.out.cs.c22;rw [HLE.out] at this;exact this
   have z22:=H6.out.marks 22;have c11:W6.cell? ⟨g,11,none⟩=some (ZZ ZS 2):=by have:=H6.out.cs.c11;rw [HST.out] at this;exact this
   have H7:=BN (H6.out.put 22 (ZZ ZS (k:Int)) {s with fresh:=false,r:={s.r with body:=s.r.body ++ [c]},left:=k} rfl rfl rfl rfl rfl rfl)
   have HS7:=BN (HS6.out.trans (EJ g 22 (ZZ ZS (k:Int)) (by simp)));clear HS6 H1;clear H6;exact XX5kR
  ·clear hl;have HST:=BN hst;have HLE:=BN hleft;clear hst hleft;have c11:w.cell? ⟨g,11,none⟩=some (ZZ ZS 4):=by have:=H.out.cs.c11;rw [HST.out] at this;exact this
   go_enter Tryz.func119,Tryz.ntmps119;go_upto_region 2 with fail
   generalize w.setCell ⟨g,23,none⟩ (ZW false)=W1 at *;clear c11 c23 z23;have c18:=H1.out.cs.c18;have z18:=H1.out.marks 18;go_upto_region 3 with
    (at_builtin;refine App.wpList_append_list _ rfl _ _ 22 rfl B 5 iB (.int .u8 0) 1 1 GI I1.out I2.out I3.out I4.out rfl (by decide) (.slice bb s.r.body.length cb) s.r.body.length (Rec.vals s.r.body) rfl (H1.out.own.D.alloc (.cells #[Ep c] 5)) (some ⟨W1.heap.size,0,none⟩) 1 1 [Ep c] rfl rfl (λ_=>⟨W1.heap.size,0,rfl,λj u hu=>by rw [DB];exact (Em W1 _ rfl 5 [Ep c]).c j u hu⟩) (λu hu=>by rw [Dc.1 hu];rfl) (by have:=HBL.out;unfold maxLen;omega) (by have:=HBL.out;omega) (by have:=H1.out.own.lt;have:=H1.out.own.ge;simp;omega) ?_;intro v2 w5 hO5 hgr5 _ hor5;obtain ⟨b9,c9,e9, -⟩:=Dw hO5;subst e9;have hk5:Keeps [(.slice bb s.r.body.length cb:Value).ownBlock] (W1.alloc (.cells #[Ep c] 5)) w5:=Keeps.grown hgr5 λk e=>by rw [e];exact Dc.2 rfl
     have h4:=H1.out.below ((Ao _ _).alloc (D5 _) (.cells #[Ep c] 5));have hl:(s.r.body ++ [c]).length=s.r.body.length+1:=by simp
     obtain ⟨ho5,hs5⟩:=h4.own.setD (bd':=.slice b9 (s.r.body.length+1) c9) (body':=s.r.body ++ [c]) hk5 (by rw [hl,Rec.vals_app];exact hO5) (by
      rcases hor5 with e | e
      ·exact .inl e
      ·exact .inr ⟨_,e,D5 _⟩)
     have hrow:w5.heap[g]?= _:=hk5.row h4.row (λhm=>by
      have e:some g=(.slice bb s.r.body.length cb:Value).ownBlock:=by simpa using hm
      exact h4.own.lone.ne (i:=0) (j:=4) rfl (by decide) (by rw [e];rfl))
     have HR5:=BN hrow;have HO5:=BN ho5;have HS5:=BN ((EH ((Ao W1.heap.size W1).alloc (D5 _) (.cells #[Ep c] 5))).trans hs5);have d18:=row_cellL hrow (k:=18) rfl;have y18:=Dy hrow 18;clear hO5 hgr5 hor5 hk5 h4 hl ho5 hs5 hrow c18 z18)
   have H6:=BN (show PR (w5.setCell ⟨g,18,none⟩ (.slice b9 (s.r.body.length+1) c9)) B g q v f (.slice b9 (s.r.body.length+1) c9) t o p b {s with fresh:=false,r:={s.r with body:=s.r.body ++ [c]}} from ⟨row_setL HR5.out 18 (.slice b9 (s.r.body.length+1) c9),HO5.out.set 18 (.slice b9 (s.r.body.length+1) c9)⟩)
   have HS6:=BN ((HS1.out.trans HS5.out).trans (EJ g 18 (.slice b9 (s.r.body.length+1) c9) (by simp)));clear HR5 HO5 HS5 d18 y18 HS1;generalize w5.setCell ⟨g,18,none⟩ (.slice b9 (s.r.body.length+1) c9)=W6 at *;have c22:W6.cell? ⟨g,22,none⟩=some (ZZ ZS ((k:Int)+1)):=by have:=H6.out.cs.c22;rw [HLE.out] at this;exact this
   have z22:=H6.out.marks 22;have c11:W6.cell? ⟨g,11,none⟩=some (ZZ ZS 4):=by have:=H6.out.cs.c11;rw [HST.out] at this;exact this
   have H7:=BN (H6.out.put 22 (ZZ ZS (k:Int)) {s with fresh:=false,r:={s.r with body:=s.r.body ++ [c]},left:=k} rfl rfl rfl rfl rfl rfl)
   have HS7:=BN (HS6.out.trans (EJ g 22 (ZZ ZS (k:Int)) (by simp)));clear HS6 H1;clear H6;exact XX5kR
 ·have hleft:s.left=1:=by omega
  rcases hst0 with hst | hst
  ·have e:S.bodyB p b {s with fresh:=false} c=S.whole p b {s with fresh:=false,r:={s.r with body:=s.r.body ++ [c]},left:=0}:=by
    unfold S.bodyB;show (if 1<s.left then _ else if s.st=2 then S.whole p b {s with fresh:=false,r:={s.r with body:=s.r.body ++ [c]},left:=s.left-1} else _)= _;rw [if_neg hmore,if_pos hst,hleft]
   rw [e];clear e hmore hl;have HST:=BN hst;have HLE:=BN hleft;clear hst hleft;have c11:w.cell? ⟨g,11,none⟩=some (ZZ ZS 2):=by have:=H.out.cs.c11;rw [HST.out] at this;exact this
   go_enter Tryz.func119,Tryz.ntmps119;go_upto_region 2 with fail
   generalize w.setCell ⟨g,23,none⟩ (ZW false)=W1 at *;clear c11 c23 z23;have c18:=H1.out.cs.c18;have z18:=H1.out.marks 18;go_upto_region 3 with
    (at_builtin;refine App.wpList_append_list _ rfl _ _ 22 rfl B 5 iB (.int .u8 0) 1 1 GI I1.out I2.out I3.out I4.out rfl (by decide) (.slice bb s.r.body.length cb) s.r.body.length (Rec.vals s.r.body) rfl (H1.out.own.D.alloc (.cells #[Ep c] 5)) (some ⟨W1.heap.size,0,none⟩) 1 1 [Ep c] rfl rfl (λ_=>⟨W1.heap.size,0,rfl,λj u hu=>by rw [DB];exact (Em W1 _ rfl 5 [Ep c]).c j u hu⟩) (λu hu=>by rw [Dc.1 hu];rfl) (by have:=HBL.out;unfold maxLen;omega) (by have:=HBL.out;omega) (by have:=H1.out.own.lt;have:=H1.out.own.ge;simp;omega) ?_;intro v2 w5 hO5 hgr5 _ hor5;obtain ⟨b9,c9,e9, -⟩:=Dw hO5;subst e9;have hk5:Keeps [(.slice bb s.r.body.length cb:Value).ownBlock] (W1.alloc (.cells #[Ep c] 5)) w5:=Keeps.grown hgr5 λk e=>by rw [e];exact Dc.2 rfl
     have h4:=H1.out.below ((Ao _ _).alloc (D5 _) (.cells #[Ep c] 5));have hl:(s.r.body ++ [c]).length=s.r.body.length+1:=by simp
     obtain ⟨ho5,hs5⟩:=h4.own.setD (bd':=.slice b9 (s.r.body.length+1) c9) (body':=s.r.body ++ [c]) hk5 (by rw [hl,Rec.vals_app];exact hO5) (by
      rcases hor5 with e | e
      ·exact .inl e
      ·exact .inr ⟨_,e,D5 _⟩)
     have hrow:w5.heap[g]?= _:=hk5.row h4.row (λhm=>by
      have e:some g=(.slice bb s.r.body.length cb:Value).ownBlock:=by simpa using hm
      exact h4.own.lone.ne (i:=0) (j:=4) rfl (by decide) (by rw [e];rfl))
     have HR5:=BN hrow;have HO5:=BN ho5;have HS5:=BN ((EH ((Ao W1.heap.size W1).alloc (D5 _) (.cells #[Ep c] 5))).trans hs5);have d18:=row_cellL hrow (k:=18) rfl;have y18:=Dy hrow 18;clear hO5 hgr5 hor5 hk5 h4 hl ho5 hs5 hrow c18 z18)
   have H6:=BN (show PR (w5.setCell ⟨g,18,none⟩ (.slice b9 (s.r.body.length+1) c9)) B g q v f (.slice b9 (s.r.body.length+1) c9) t o p b {s with fresh:=false,r:={s.r with body:=s.r.body ++ [c]}} from ⟨row_setL HR5.out 18 (.slice b9 (s.r.body.length+1) c9),HO5.out.set 18 (.slice b9 (s.r.body.length+1) c9)⟩)
   have HS6:=BN ((HS1.out.trans HS5.out).trans (EJ g 18 (.slice b9 (s.r.body.length+1) c9) (by simp)));clear HR5 HO5 HS5 d18 y18 HS1;generalize w5.setCell ⟨g,18,none⟩ (.slice b9 (s.r.body.length+1) c9)=W6 at *;have c22:W6.cell? ⟨g,22,none⟩=some (ZZ ZS 1):=by have:=H6.out.cs.c22;rw [HLE.out] at this;exact this
   have z22:=H6.out.marks 22;have c11:W6.cell? ⟨g,11,none⟩=some (ZZ ZS 2):=by have:=H6.out.cs.c11;rw [HST.out] at this;exact this
   have H7:=BN (H6.out.put 22 (ZZ ZS 0) {s with fresh:=false,r:={s.r with body:=s.r.body ++ [c]},left:=0} rfl rfl rfl rfl rfl rfl)
   have HS7:=BN (HS6.out.trans (EJ g 22 (ZZ ZS 0) (by simp)));clear HS6 H1;clear H6
   have HW:=BN (whole_any H7.out HOU.out)
   go_wp2_with (go_at_call 161;with_reducible refine HW.out.mono ?_;rintro r w7 ⟨rfl,q1,o1,hP,hS⟩);first | go_end0 | refine bodyPost_ret (results_none rfl _ _ _) rfl ?_
   exact ⟨rfl,_,_,_,_,_,_,hP,HS7.out.trans hS⟩
  ·have e:S.bodyB p b {s with fresh:=false} c={s with fresh:=false,r:={s.r with body:=s.r.body ++ [c]},left:=0,st:=5,rd:=nl p 0}:=by
    unfold S.bodyB;show (if 1<s.left then _ else if s.st=2 then _ else ({s with fresh:=false,r:={s.r with body:=s.r.body ++ [c]},left:=s.left-1,st:=5,rd:=nl p 0}:S))= _;rw [if_neg hmore,if_neg (by omega),hleft]
   rw [e];clear e hmore hl;have HST:=BN hst;have HLE:=BN hleft;clear hst hleft;have c11:w.cell? ⟨g,11,none⟩=some (ZZ ZS 4):=by have:=H.out.cs.c11;rw [HST.out] at this;exact this
   go_enter Tryz.func119,Tryz.ntmps119;go_upto_region 2 with fail
   generalize w.setCell ⟨g,23,none⟩ (ZW false)=W1 at *;clear c11 c23 z23;have c18:=H1.out.cs.c18;have z18:=H1.out.marks 18;go_upto_region 3 with
    (at_builtin;refine App.wpList_append_list _ rfl _ _ 22 rfl B 5 iB (.int .u8 0) 1 1 GI I1.out I2.out I3.out I4.out rfl (by decide) (.slice bb s.r.body.length cb) s.r.body.length (Rec.vals s.r.body) rfl (H1.out.own.D.alloc (.cells #[Ep c] 5)) (some ⟨W1.heap.size,0,none⟩) 1 1 [Ep c] rfl rfl (λ_=>⟨W1.heap.size,0,rfl,λj u hu=>by rw [DB];exact (Em W1 _ rfl 5 [Ep c]).c j u hu⟩) (λu hu=>by rw [Dc.1 hu];rfl) (by have:=HBL.out;unfold maxLen;omega) (by have:=HBL.out;omega) (by have:=H1.out.own.lt;have:=H1.out.own.ge;simp;omega) ?_;intro v2 w5 hO5 hgr5 _ hor5;obtain ⟨b9,c9,e9, -⟩:=Dw hO5;subst e9;have hk5:Keeps [(.slice bb s.r.body.length cb:Value).ownBlock] (W1.alloc (.cells #[Ep c] 5)) w5:=Keeps.grown hgr5 λk e=>by rw [e];exact Dc.2 rfl
     have h4:=H1.out.below ((Ao _ _).alloc (D5 _) (.cells #[Ep c] 5));have hl:(s.r.body ++ [c]).length=s.r.body.length+1:=by simp
     obtain ⟨ho5,hs5⟩:=h4.own.setD (bd':=.slice b9 (s.r.body.length+1) c9) (body':=s.r.body ++ [c]) hk5 (by rw [hl,Rec.vals_app];exact hO5) (by
      rcases hor5 with e | e
      ·exact .inl e
      ·exact .inr ⟨_,e,D5 _⟩)
     have hrow:w5.heap[g]?= _:=hk5.row h4.row (λhm=>by
      have e:some g=(.slice bb s.r.body.length cb:Value).ownBlock:=by simpa using hm
      exact h4.own.lone.ne (i:=0) (j:=4) rfl (by decide) (by rw [e];rfl))
     have HR5:=BN hrow;have HO5:=BN ho5;have HS5:=BN ((EH ((Ao W1.heap.size W1).alloc (D5 _) (.cells #[Ep c] 5))).trans hs5);have d18:=row_cellL hrow (k:=18) rfl;have y18:=Dy hrow 18;clear hO5 hgr5 hor5 hk5 h4 hl ho5 hs5 hrow c18 z18)
   have H6:=BN (show PR (w5.setCell ⟨g,18,none⟩ (.slice b9 (s.r.body.length+1) c9)) B g q v f (.slice b9 (s.r.body.length+1) c9) t o p b {s with fresh:=false,r:={s.r with body:=s.r.body ++ [c]}} from ⟨row_setL HR5.out 18 (.slice b9 (s.r.body.length+1) c9),HO5.out.set 18 (.slice b9 (s.r.body.length+1) c9)⟩)
   have HS6:=BN ((HS1.out.trans HS5.out).trans (EJ g 18 (.slice b9 (s.r.body.length+1) c9) (by simp)));clear HR5 HO5 HS5 d18 y18 HS1;generalize w5.setCell ⟨g,18,none⟩ (.slice b9 (s.r.body.length+1) c9)=W6 at *;have c22:W6.cell? ⟨g,22,none⟩=some (ZZ ZS 1):=by have:=H6.out.cs.c22;rw [HLE.out] at this;exact this
   have z22:=H6.out.marks 22;have c11:W6.cell? ⟨g,11,none⟩=some (ZZ ZS 4):=by have:=H6.out.cs.c11;rw [HST.out] at this;exact this
   have H7:=BN (H6.out.put 22 (ZZ ZS 0) {s with fresh:=false,r:={s.r with body:=s.r.body ++ [c]},left:=0} rfl rfl rfl rfl rfl rfl)
   have HS7:=BN (HS6.out.trans (EJ g 22 (ZZ ZS 0) (by simp)));clear HS6 H1;clear H6;go_upto_region 4 with fail
   generalize W6.setCell ⟨g,22,none⟩ (ZZ ZS 0)=W7 at *;clear c22 z22 c11;have c0:=H7.out.cs.c0;have e11:=H7.out.cs.c11;have e12:=H7.out.cs.c12;have z11:=H7.out.marks 11;have z12:=H7.out.marks 12
   have HNL:=BN (rnew_line (p:=p) B 0 W7 (D7 H7.out.own.ge (D4 H7.out.own.lt)));go_wp2_with
    (go_at_call 116;with_reducible refine HNL.out.mono ?_;rintro r w8 ⟨q1,rfl,hq1,hr1,hb8⟩
     have d11:=(hb8.cell (p:=⟨g,11,none⟩) H7.out.own.lt).trans e11;have d12:=(hb8.cell (p:=⟨g,12,none⟩) H7.out.own.lt).trans e12;have y11:=(hb8.frozen (p:=⟨g,11,none⟩) H7.out.own.lt).trans z11;have y12:=(hb8.frozen (p:=⟨g,12,none⟩) H7.out.own.lt).trans z12
     have HR8:=BN ((H7.out.below hb8).row);have HO8:=BN (H7.out.own.line hb8 hr1 hq1);have HS8:=BN (HS7.out.trans (Step.line hb8 hq1));clear hb8 hr1 hq1 e11 e12 z11 z12)
   first | go_end0 | refine bodyPost_ret (results_none rfl _ _ _) rfl ?_
   exact ⟨rfl,_,_,_,_,_,_,⟨row_setL (row_setL HR8.out 11 (ZZ ZS 5)) 12 (ptr q1),(HO8.out.set 11 (ZZ ZS 5)).set 12 (ptr q1)⟩,HS8.out.trans ((EJ g 11 (ZZ ZS 5) (by simp)).trans (EJ g 12 (ptr q1) (by simp)))⟩
end
end Go.Proofs.YtnabkcglnbdfeaaGreatDoor.Par
namespace Go.Proofs.YtnabkcglnbdfeaaGreatDoor.Par
open Go.RowKit Base Txt Mem
section
variable {w w':World} {B:Zone} {g q:Nat} {v f bd t o:Value} {p:Nat} {rd:Ln.R} {fs ts:List Fld} {body:List UInt8} {out:List Eo}
theorem Own.reader (h:Own w B g q v f bd t o p rd fs body ts out) {v':Value} {rd':Ln.R} (hk:Ln.Kept q v.ownBlock w w') (hm:Ln.Moved w v.ownBlock v'.ownBlock) (hr:Ln.Rr w' B q v' p rd') :
 Own w' B g q v' f bd t o p rd' fs body ts out/\Step (blks g q v f bd t o) (blks g q v' f bd t o) w w'/\Keeps [some q,v.ownBlock] w w':=by
 have hk2:Keeps [some q,v.ownBlock] w w':=Keeps.of_kept hk (by simp) λk e=>by simp [e]
 have hn:∀i j,i≠1->i≠2->(blks g q v f bd t o)[i]?=some (some j)->some j∉ [some q,v.ownBlock]:=λi j h1 h2 hj hm=>by exact XXVqF
 have e:blks g q v' f bd t o=(blks g q v f bd t o).set 2 v'.ownBlock:=rfl;have ho:v'.ownBlock=none∨(blks g q v f bd t o)[2]?=some v'.ownBlock∨∃k,v'.ownBlock=some k/\w.heap.size<=k:=by
  rcases hm with e | e | e
  ·exact .inr (.inl (by rw [e];rfl))
  ·exact .inl e
  ·exact .inr (.inr e)
 have hof:Of w (blks g q v f bd t o) (blks g q v' f bd t o):=by rw [e];exact Of.set 2 _ ho
 have hkL:Keeps (blks g q v f bd t o) w w':=hk2.mono λk hk=>by
  rcases (by simpa using hk:k=q∨some k=v.ownBlock) with e | e
  ·simp [e]
  ·simp [e]
 obtain ⟨ps,h1,h2,h3⟩:=h.O
 refine ⟨⟨hr,hk2.own h.F λj e=>hn 3 j (by decide) (by decide) (by rw [←e];rfl),hk2.own h.D λj e=>hn 4 j (by decide) (by decide) (by rw [←e];rfl),hk2.own h.T λj e=>hn 5 j (by decide) (by decide) (by rw [←e];rfl),
  ⟨ps,h1,λx hx=>⟨(h2 x hx).1,by
    have hx2:=(h2 x hx).2.keeps hkL
    exact ⟨hx2.reads,λk hb=>⟨λhm=>by
     rcases hof k hm with e | e
     ·exact (hx2.far k hb).1 e
     ·exact absurd ((h2 x hx).2.far k hb).2 (by omega),(hx2.far k hb).2⟩,hx2.off⟩⟩,hk2.own h3 λj e=>hn 6 j (by decide) (by decide) (by rw [←e];rfl)⟩,?_,h.ge,D8 h.lt hk2.size,h.zone.of hk2.size hof⟩,⟨hkL,hof⟩,hk2⟩
 rw [e];exact h.lone.set h.in 2 _ ho
theorem PR.reader {b:Bd} {s:S} (h:PR w B g q v f bd t o p b s) {v':Value} {rd':Ln.R} (hk:Ln.Kept q v.ownBlock w w') (hm:Ln.Moved w v.ownBlock v'.ownBlock) (hr:Ln.Rr w' B q v' p rd') :
 PR w' B g q v' f bd t o p b {s with rd:=rd'}/\Step (blks g q v f bd t o) (blks g q v' f bd t o) w w':=by
 obtain ⟨h1,h2,h3⟩:=h.own.reader hk hm hr;refine ⟨⟨h3.row h.row λhm=>?_,h1⟩,h2⟩;rcases (by simpa using hm:g=q∨some g=v.ownBlock) with e | e
 ·exact absurd (h.own.lone 0 1 g rfl (by rw [e];rfl)) (by decide)
 ·exact absurd (h.own.lone 0 2 g rfl (by rw [e];rfl)) (by decide)
end
section
set_option maxHeartbeats 4000000
set_option maxRecDepth 20000
attribute [local go_sem] An
variable {w:World} {B:Zone} {g q:Nat} {v f bd t o:Value} {p:Nat} {b:Bd} {s:S}
theorem XXk4O {P:Prop} (h:P:=by
 clear h hst;go_enter Tryz.func163,Tryz.ntmps163
 go_wp2_with (first
  |(go_at_call 118;with_reducible refine HFA.out.mono ?_;rintro r w2 ⟨rfl,hP,hS⟩)
  |(go_at_call 53;with_reducible refine Cm (HH.out _) ?_))
 first | go_end0 | refine bodyPost_ret (results_none rfl _ _ _) rfl ?_
 exact ⟨rfl,hP,hS⟩):P:=h
theorem long_any (hp:p<4294967296) (c:UInt8) (h:PR w B g q v f bd t o p b s) (hs:s.st=0∨s.st=1∨s.st=3∨s.st=5∨s.st=6) (hb:s.st=5->Ei p 29=false):Calls Gq 163 #[ptr g,ZZ ZR (c.toNat:Int)] w λr w'=>
 r=.returned (ZT #[])/\PR w' B g q v nil nil nil o p b (s.fail (longE s.st))/\Step (blks g q v f bd t o) (blks g q v nil nil nil o) w w':=by
 have HH:=BN (λw=>Ek p hp 29 w);rcases hs with hst | hst | hst | hst | hst
 ·have e:longE s.st=414:=by rw [hst];rfl
  rw [e];clear hb e;have c11:w.cell? ⟨g,11,none⟩=some (ZZ ZS 0):=by have:=h.cs.c11;rw [hst] at this;exact this
  have HFA:=BN (fail_at h 414 414 rfl);exact XXk4O
 ·have e:longE s.st=431:=by rw [hst];rfl
  rw [e];clear hb e;have c11:w.cell? ⟨g,11,none⟩=some (ZZ ZS 1):=by have:=h.cs.c11;rw [hst] at this;exact this
  have HFA:=BN (fail_at h 431 431 rfl);exact XXk4O
 ·have e:longE s.st=400:=by rw [hst];rfl
  rw [e];clear hb e;have c11:w.cell? ⟨g,11,none⟩=some (ZZ ZS 3):=by have:=h.cs.c11;rw [hst] at this;exact this
  have HFA:=BN (fail_at h 400 400 rfl);exact XXk4O
 ·have e:longE s.st=400:=by rw [hst];rfl
  rw [e];rw [hb hst] at HH;clear hb e;have c11:w.cell? ⟨g,11,none⟩=some (ZZ ZS 5):=by have:=h.cs.c11;rw [hst] at this;exact this
  have HFA:=BN (fail_at h 400 400 rfl);have c0:=h.cs.c0;exact XXk4O
 ·have e:longE s.st=431:=by rw [hst];rfl
  rw [e];clear hb e;have c11:w.cell? ⟨g,11,none⟩=some (ZZ ZS 6):=by have:=h.cs.c11;rw [hst] at this;exact this
  have HFA:=BN (fail_at h 431 431 rfl);exact XXk4O
end
end Go.Proofs.YtnabkcglnbdfeaaGreatDoor.Par
namespace Go.Proofs.YtnabkcglnbdfeaaGreatDoor.Par
open Go.RowKit Base Txt Mem
def lined (st:Nat):Prop:=st=0∨st=1∨st=3∨st=5∨st=6
structure LineOk (p:Nat) (q:Ln.R):Prop where
 lf:q.lf=Ei p 1
 cr:q.cr=Ei p 2
 most:q.most<=4096
 len:q.B.length<=q.most
theorem how_plain (q:Ln.R) (c:UInt8) (h:q.CR=false):q.how c=0∨q.how c=1∨q.how c=3∨q.how c=4:=by
 unfold Ln.R.how;rw [h]
 repeat' split
 all_goals simp_all
theorem byte_L (q:Ln.R) (c:UInt8) (h:q.how c=1∨q.how c=2):(q.byte c).L=q.B:=by
 unfold Ln.R.how at h;unfold Ln.R.byte
 repeat' split
 all_goals first | rfl |(exfalso;simp_all)
section
set_option maxHeartbeats 4000000
set_option maxRecDepth 20000
attribute [local go_sem] An
variable {w:World} {B:Zone} {g q:Nat} {v f bd t o:Value} {p:Nat} {b:Bd} {s:S}
theorem ended_any (hp:p<4294967296) (h3:16<=b.x3/\b.x3<=1048576) (h4:0<=b.x4) (x:ByteArray) (hx:x.size<=5000) (h:PR w B g q v f bd t o p b s) (hs:lined s.st) (he:s.e=0) (ok:Fits s):Calls Gq 164 #[ptr g,ZY x] w λr w'=>
 r=.returned (ZT #[])/\∃q1 v1 f1 bd1 t1 o1,PR w' B g q1 v1 f1 bd1 t1 o1 p b (s.ended p b x.data.toList)/\Step (blks g q v f bd t o) (blks g q1 v1 f1 bd1 t1 o1) w w':=by
 rcases hs with hst | hst | hst | hst | hst
 ·exact ended_first hp x hx h hst he
 ·exact ended_fields hp h3 x hx h hst ok
 ·exact ended_size hp h3 h4 x hx h hst ok
 ·exact ended_behind x h hst
 ·exact ended_trail hp x hx h hst ok
theorem XXTyB {P:Prop} (h:P:=by
 go_enter Tryz.func119,Tryz.ntmps119;go_upto_region 8 with fail
 generalize w.setCell ⟨g,23,none⟩ (ZW false)=W1 at *;clear c23 z23 c11;have c12:=H1.out.cs.c12
 go_wp2_with (first
  |(go_at_call 164;with_reducible refine (HEN.out _ _ _ HP2.out).mono ?_;rintro r w3 ⟨rfl,q1,v1,f1,bd1,t1,o1,hP3,hS3⟩)
  |(go_at_call 162;with_reducible refine HRB.out.mono ?_;rintro r w2 ⟨v2,rfl,hr2,hk2,hm2⟩
    obtain ⟨hP2,hS2⟩:=H1.out.reader hk2 hm2 hr2
    have HP2:=BN hP2;have HS2:=BN (HS1.out.trans hS2);have c11:=hP2.cs.c11;have c12:=hP2.cs.c12;have y4:w2.cell? ⟨q,4,none⟩=some (ZY x):=by rw [←HX.out];exact Ln.row_cell hr2.row (k:=4) rfl
    clear hr2 hk2 hm2 hP2 hS2))
 first | go_end0 | refine bodyPost_ret (results_none rfl _ _ _) rfl ?_
 exact ⟨rfl,_,_,_,_,_,_,hP3,HS2.out.trans hS3⟩):P:=h
theorem XXHvt {P:Prop} (h:P:=by
 go_enter Tryz.func119,Tryz.ntmps119;go_upto_region 8 with fail
 generalize w.setCell ⟨g,23,none⟩ (ZW false)=W1 at *;clear c23 z23 c11;have c12:=H1.out.cs.c12;go_wp2_with
  (go_at_call 162;with_reducible refine HRB.out.mono ?_;rintro r w2 ⟨v2,rfl,hr2,hk2,hm2⟩
   obtain ⟨hP2,hS2⟩:=H1.out.reader hk2 hm2 hr2
   have HP2:=BN hP2;have HS2:=BN (HS1.out.trans hS2);clear hr2 hk2 hm2 hP2 hS2)
 first | go_end0 | refine bodyPost_ret (results_none rfl _ _ _) rfl ?_
 exact ⟨rfl,_,_,_,_,_,_,HP2.out,HS2.out⟩):P:=h
theorem XXtPE {P:Prop} (h:P:=by exact ⟨rfl,_,_,_,_,_,_,hP3,HS2.out.trans hS3⟩):P:=h
theorem plain_any (hp:p<4294967296) (h3:16<=b.x3/\b.x3<=1048576) (h4:0<=b.x4) (c:UInt8) (h:PR w B g q v f bd t o p b s) (hs:lined s.st) (he:s.e=0) (ok:Fits s) (hl:LineOk p s.rd) (hcr:s.rd.CR=false) (h5:s.st=5->s.rd.how c=4->Ei p 29=false) :
 Calls Gq 119 #[ptr g,ZZ ZR (c.toNat:Int)] w λr w'=>r=.returned (ZT #[])/\∃q1 v1 f1 bd1 t1 o1,PR w' B g q1 v1 f1 bd1 t1 o1 p b (s.plain p b c)/\Step (blks g q v f bd t o) (blks g q1 v1 f1 bd1 t1 o1) w w':=by
 have hbod:bodied s.st=false:=by rcases hs with e | e | e | e | e<;>rw [e]<;>rfl
 have t2:((s.st:Int)==2)=false:=beq_eq_false_iff_ne.2 (by rcases hs with e | e | e | e | e<;>omega)
 have t4:((s.st:Int)==4)=false:=beq_eq_false_iff_ne.2 (by rcases hs with e | e | e | e | e<;>omega);have n2:¬(s.st:Int)=2:=beq_eq_false_iff_ne.1 t2;have n4:¬(s.st:Int)=4:=beq_eq_false_iff_ne.1 t4;have m2:¬s.st=2:=by omega
 have m4:¬s.st=4:=by omega
 have H1:=BN (h.put 23 (ZW false) {s with fresh:=false} rfl rfl rfl rfl rfl rfl)
 have HS1:=BN (EJ (w:=w) (L:=blks g q v f bd t o) g 23 (ZW false) (by simp));have c23:=h.cs.c23;have z23:=h.marks 23;have c11:=h.cs.c11;have hrb:=Ln.rbyte_any c s.rd hl.most p hp hl.lf hl.cr (w.setCell ⟨g,23,none⟩ (ZW false)) B q v H1.out.own.R;clear h;have hL:s.rd.how c=1->(s.rd.byte c).L.length<=5000:=λe=>by rw [byte_L s.rd c (.inl e)];have:=hl.len;have:=hl.most;omega
 rcases how_plain s.rd c hcr with hw | hw | hw | hw
 ·have e:s.plain p b c={s with fresh:=false,rd:=s.rd.byte c}:=by unfold S.plain;simp [hbod,hw]
  rw [e];rw [hw] at hrb;have HRB:=BN hrb;clear e hw hL hrb h5 hbod hs he hl hcr ok;exact XXHvt
 ·have e:s.plain p b c=S.ended p b {s with fresh:=false,rd:=s.rd.byte c} (s.rd.byte c).L:=by unfold S.plain;simp [hbod,hw]
  rw [e];rw [hw] at hrb;have HRB:=BN hrb;obtain ⟨x,hx⟩:∃x:ByteArray,ba (s.rd.byte c).L=x:=⟨_,rfl⟩;have hxl:(s.rd.byte c).L=x.data.toList:=by rw [←hx];simp [ba]
  have hxs:x.size<=5000:=by rw [←hx,ba_size];exact hL hw
  rw [hxl]
  have HEN:=BN (λw2 q1 v1 (h:PR w2 B g q1 v1 f bd t o p b {s with fresh:=false,rd:=s.rd.byte c})=>ended_any hp h3 h4 x hxs h hs he ⟨ok.lines,ok.fss,ok.fsl,ok.tss,ok.tsl,ok.body,ok.out⟩);have HX:=BN hx;clear e hw hL hrb h5 hbod hs he hl hcr ok hx hxl hxs;exact XXTyB
 ·have e:s.plain p b c=S.fail {s with fresh:=false,rd:=s.rd.byte c} 400:=by unfold S.plain;simp [hbod,hw]
  rw [e];rw [hw] at hrb;have HRB:=BN hrb
  have HFA:=BN (λw2 q1 v1 (h:PR w2 B g q1 v1 f bd t o p b {s with fresh:=false,rd:=s.rd.byte c})=>fail_at h 400 400 rfl);clear e hw hL hrb h5 hbod hs he hl hcr ok;go_enter Tryz.func119,Tryz.ntmps119;go_upto_region 8 with fail
  generalize w.setCell ⟨g,23,none⟩ (ZW false)=W1 at *;clear c23 z23 c11;have c12:=H1.out.cs.c12
  go_wp2_with (first
   |(go_at_call 118;with_reducible refine (HFA.out _ _ _ HP2.out).mono ?_;rintro r w3 ⟨rfl,hP3,hS3⟩)
   |(go_at_call 162;with_reducible refine HRB.out.mono ?_;rintro r w2 ⟨v2,rfl,hr2,hk2,hm2⟩
     obtain ⟨hP2,hS2⟩:=H1.out.reader hk2 hm2 hr2
     have HP2:=BN hP2;have HS2:=BN (HS1.out.trans hS2);have c11:=hP2.cs.c11;have c12:=hP2.cs.c12;have y4:=Ln.row_cell hr2.row (k:=4) rfl;clear hr2 hk2 hm2 hP2 hS2))
  first | go_end0 | refine bodyPost_ret (results_none rfl _ _ _) rfl ?_
  exact XXtPE
 ·have e:s.plain p b c=S.fail {s with fresh:=false,rd:=s.rd.byte c} (longE s.st):=by unfold S.plain;simp [hbod,hw]
  rw [e];have h6:=λe=>h5 e hw;rw [hw] at hrb;have HRB:=BN hrb
  have HLO:=BN (λw2 q1 v1 (h:PR w2 B g q1 v1 f bd t o p b {s with fresh:=false,rd:=s.rd.byte c})=>long_any hp c h hs h6);clear e hw hL hrb h5 h6 hbod hs he hl hcr ok;go_enter Tryz.func119,Tryz.ntmps119;go_upto_region 8 with fail
  generalize w.setCell ⟨g,23,none⟩ (ZW false)=W1 at *;clear c23 z23 c11;have c12:=H1.out.cs.c12
  go_wp2_with (first
   |(go_at_call 163;with_reducible refine (HLO.out _ _ _ HP2.out).mono ?_;rintro r w3 ⟨rfl,hP3,hS3⟩)
   |(go_at_call 162;with_reducible refine HRB.out.mono ?_;rintro r w2 ⟨v2,rfl,hr2,hk2,hm2⟩
     obtain ⟨hP2,hS2⟩:=H1.out.reader hk2 hm2 hr2
     have HP2:=BN hP2;have HS2:=BN (HS1.out.trans hS2);have c11:=hP2.cs.c11;have c12:=hP2.cs.c12;have y4:=Ln.row_cell hr2.row (k:=4) rfl;clear hr2 hk2 hm2 hP2 hS2))
  first | go_end0 | refine bodyPost_ret (results_none rfl _ _ _) rfl ?_
  exact XXtPE
end
end Go.Proofs.YtnabkcglnbdfeaaGreatDoor.Par
namespace Go.Proofs.YtnabkcglnbdfeaaGreatDoor.Par
open Go.RowKit Base Txt Mem
section
set_option maxHeartbeats 4000000
set_option maxRecDepth 20000
attribute [local go_sem] An
variable {w:World} {B:Zone} {g q:Nat} {v f bd t o:Value} {p:Nat} {b:Bd} {s:S}
theorem XXJOm {P:Prop} (h:P:=by
 have c25:w.cell? ⟨g,25,none⟩=some (ZZ ZS 0):=by have:=H.out.cs.c25;rw [he] at this;exact this
 clear hst he;go_enter Tryz.func76,Tryz.ntmps76;go_upto_region 3 with fail
 generalize w.setCell ⟨g,21,none⟩ (ZZ ZS ((s.head:Int)+1))=W1 at *;clear c11 c25 c21 z21 a1 a2
 have HQ:=BN ((H1.out.drew 1).bk);refine Bg 10 [35,36,37,38,39,40,41,42,43,44] [eP g 0,eP g 0,eP g 21,eQ (ZZ ZS (S1.head:Int)),eP g 0,eP g 0,eP g 1,eP g 3,eQ (ZZ ZS b.x2),eQ (ZW false)] (by kernel_rfl) (by kernel_rfl) (by kernel_rfl) (by kernel_rfl) (λ_ _ d _ _ h=>by cases d<;>exact h) (by rfl) (by rfl) (by repeat first | exact trivial | refine ⟨AT _,?_⟩) ?_ ?_
 ·refine ⟨?_,?_,?_,?_,?_,?_,?_,?_,?_,?_,trivial⟩
  all_goals (refine AY rfl (λev w1 hR hb hh=>?_);have e0:=hR.old 0 rfl;simp only [Ag,C6,Cy,Cz,DV] at e0;have q21:=(HQ.out.below hb).c 21 _ rfl;have q3:=(HQ.out.below hb).c 3 _ rfl;have d1:=HT.out;exact Each.std)
 intro g1 w2 hb hf;have z44:g1 44= _:=hf.at 9;clear hf;simp only [Be,Ab,Di,Dl,Dk];rw [z44]
 have H2:=BN (H1.out.below hb);have HS2:=BN (HS1.out.trans (EH hb));clear hb HQ;have c24:=H2.out.cs.c24;have z24:=H2.out.marks 24
 have H3:=BN (H2.out.put 24 (ZW false) {S1 with clean:=false} rfl rfl rfl rfl rfl rfl)
 have HS3:=BN (HS2.out.trans (EJ g 24 (ZW false) (by simp)))
 have HB3:=BN (HB.out _ {S1 with clean:=false} (.inl ⟨HD.out,by rw [←HSS.out],HT.out⟩) H3.out)
 go_wp2_with (go_at_call 119;with_reducible refine HB3.out.mono ?_;rintro r w3 ⟨rfl,q1,v1,f1,bd1,t1,o1,hP,hS⟩);first | go_end0 | refine bodyPost_ret (results_none rfl _ _ _) rfl ?_
 exact ⟨rfl,_,_,_,_,_,_,hP,HS3.out.trans hS⟩):P:=h
theorem XXrum {P:Prop} (h:P:=by
 have c25:w.cell? ⟨g,25,none⟩=some (ZZ ZS 0):=by have:=H.out.cs.c25;rw [he] at this;exact this
 clear hst he;go_enter Tryz.func76,Tryz.ntmps76;go_upto_region 3 with fail
 generalize w.setCell ⟨g,21,none⟩ (ZZ ZS ((s.head:Int)+1))=W1 at *;clear c11 c25 c21 z21 a1 a2
 have HQ:=BN ((H1.out.drew 1).bk);refine Bg 10 [35,36,37,38,39,40,41,42,43,44] [eP g 0,eP g 0,eP g 21,eQ (ZZ ZS (S1.head:Int)),eP g 0,eP g 0,eP g 1,eP g 3,eQ (ZZ ZS b.x2),eQ (ZW true)] (by kernel_rfl) (by kernel_rfl) (by kernel_rfl) (by kernel_rfl) (λ_ _ d _ _ h=>by cases d<;>exact h) (by rfl) (by rfl) (by repeat first | exact trivial | refine ⟨AT _,?_⟩) ?_ ?_
 ·refine ⟨?_,?_,?_,?_,?_,?_,?_,?_,?_,?_,trivial⟩
  all_goals (refine AY rfl (λev w1 hR hb hh=>?_);have e0:=hR.old 0 rfl;simp only [Ag,C6,Cy,Cz,DV] at e0;have q21:=(HQ.out.below hb).c 21 _ rfl;have q3:=(HQ.out.below hb).c 3 _ rfl;have d1:=HT.out;exact Each.std)
 intro g1 w2 hb hf;have z44:g1 44= _:=hf.at 9;clear hf;simp only [Be,Ab,Di,Dl,Dk];rw [z44]
 have HFA:=BN (fail_at (H1.out.below hb) 431 431 rfl);have HS2:=BN (HS1.out.trans (EH hb));clear hb HQ
 go_wp2_with (go_at_call 118;with_reducible refine HFA.out.mono ?_;rintro r w3 ⟨rfl,hP,hS⟩);first | go_end0 | refine bodyPost_ret (results_none rfl _ _ _) rfl ?_
 exact ⟨rfl,_,_,_,_,_,_,hP,HS2.out.trans hS⟩):P:=h
theorem count_any (c:UInt8) (G:S->S) (h:PR w B g q v f bd t o p b s) (he:s.e=0) (hh:s.head<=1000000)
 (HB0:∀(w2:World) (s2:S),(headed s.st=true/\s2={s with head:=s.head+1,clean:=false}/\¬b.x2<(s2.head:Int))∨(headed s.st=false/\s2={s with clean:=false})->PR w2 B g q v f bd t o p b s2->Calls Gq 119 #[ptr g,ZZ ZR (c.toNat:Int)] w2 λr w'=>
   r=.returned (ZT #[])/\∃q1 v1 f1 bd1 t1 o1,PR w' B g q1 v1 f1 bd1 t1 o1 p b (G s2)/\Step (blks g q v f bd t o) (blks g q1 v1 f1 bd1 t1 o1) w2 w') :
 Calls Gq 76 #[ptr g,ZZ ZR (c.toNat:Int)] w λr w'=>r=.returned (ZT #[])/\∃q1 v1 f1 bd1 t1 o1,PR w' B g q1 v1 f1 bd1 t1 o1 p b (s.count b G)/\Step (blks g q v f bd t o) (blks g q1 v1 f1 bd1 t1 o1) w w':=by
 have HB:=BN HB0;have H:=BN h;unfold S.count;rw [if_neg (by rw [he];decide)];by_cases hd:headed s.st=true
 ·rw [if_pos hd];have hst0:s.st=0∨s.st=1∨s.st=6:=by
   unfold headed at hd;simp only [AB,beq_iff_eq] at hd;rcases hd with (e | e) | e
   ·exact .inl e
   ·exact .inr (.inl e)
   ·exact .inr (.inr e)
  obtain ⟨a1,a2⟩:=Et ((s.head:Int)+1) ⟨by omega,by omega⟩;obtain ⟨S1,hS1⟩:∃S1:S,{s with head:=s.head+1}=S1:=⟨_,rfl⟩
  have H1:=BN (h.put 21 (ZZ ZS ((s.head:Int)+1)) {s with head:=s.head+1} rfl rfl rfl rfl rfl rfl)
  have HS1:=BN (EJ (w:=w) (L:=blks g q v f bd t o) g 21 (ZZ ZS ((s.head:Int)+1)) (by simp));have c21:=h.cs.c21;have z21:=h.marks 21;have HSS:=BN hS1;have hd1:((s.head+1:Nat):Int)=(S1.head:Int):=by rw [←hS1]
  have e2:({s with head:=s.head+1,clean:=false}:S)={S1 with clean:=false}:=by rw [←hS1]
  have HD:=BN hd;rw [hS1] at H1;rw [hd1,hS1,e2];clear h HB0 hS1 hd hh e2 hd1
  by_cases hov:b.x2<(S1.head:Int)
  ·rw [if_pos hov];have HT:=BN hov;clear hov;rcases hst0 with hst | hst | hst
   ·have c11:w.cell? ⟨g,11,none⟩=some (ZZ ZS 0):=by have:=H.out.cs.c11;rw [hst] at this;exact this
    exact XXrum
   ·have c11:w.cell? ⟨g,11,none⟩=some (ZZ ZS 1):=by have:=H.out.cs.c11;rw [hst] at this;exact this
    exact XXrum
   ·have c11:w.cell? ⟨g,11,none⟩=some (ZZ ZS 6):=by have:=H.out.cs.c11;rw [hst] at this;exact this
    exact XXrum
  ·rw [if_neg hov];have HT:=BN hov;clear hov;rcases hst0 with hst | hst | hst
   ·have c11:w.cell? ⟨g,11,none⟩=some (ZZ ZS 0):=by have:=H.out.cs.c11;rw [hst] at this;exact this
    exact XXJOm
   ·have c11:w.cell? ⟨g,11,none⟩=some (ZZ ZS 1):=by have:=H.out.cs.c11;rw [hst] at this;exact this
    exact XXJOm
   ·have c11:w.cell? ⟨g,11,none⟩=some (ZZ ZS 6):=by have:=H.out.cs.c11;rw [hst] at this;exact this
    exact XXJOm
 ·rw [if_neg hd];have hn:¬s.st=0/\¬s.st=1/\¬s.st=6:=by
   unfold headed at hd;simp only [AB,beq_iff_eq,not_or] at hd;exact ⟨hd.1.1,hd.1.2,hd.2⟩
  obtain ⟨n0,n1,n6⟩:=hn
  have t0:((s.st:Int)==0)=false:=beq_eq_false_iff_ne.2 (by omega)
  have t1:((s.st:Int)==1)=false:=beq_eq_false_iff_ne.2 (by omega)
  have t6:((s.st:Int)==6)=false:=beq_eq_false_iff_ne.2 (by omega);have m0:¬(s.st:Int)=0:=by omega
  have m1:¬(s.st:Int)=1:=by omega
  have m6:¬(s.st:Int)=6:=by omega
  have c11:=h.cs.c11;have c25:w.cell? ⟨g,25,none⟩=some (ZZ ZS 0):=by have:=h.cs.c25;rw [he] at this;exact this
  have c24:=h.cs.c24;have z24:=h.marks 24
  have H3:=BN (h.put 24 (ZW false) {s with clean:=false} rfl rfl rfl rfl rfl rfl)
  have HS3:=BN (EJ (w:=w) (L:=blks g q v f bd t o) g 24 (ZW false) (by simp))
  have HB3:=BN (HB.out _ _ (.inr ⟨by simpa using hd,rfl⟩) H3.out);clear h HB0 hd hh he;go_enter Tryz.func76,Tryz.ntmps76
  go_wp2_with (go_at_call 119;with_reducible refine HB3.out.mono ?_;rintro r w3 ⟨rfl,q1,v1,f1,bd1,t1,o1,hP,hS⟩);first | go_end0 | refine bodyPost_ret (results_none rfl _ _ _) rfl ?_
  exact ⟨rfl,_,_,_,_,_,_,hP,HS3.out.trans hS⟩
end
end Go.Proofs.YtnabkcglnbdfeaaGreatDoor.Par
namespace Go.Proofs.YtnabkcglnbdfeaaGreatDoor.Par
open Go.RowKit Base Txt Mem
structure PlainOk (p:Nat) (s:S) (c:UInt8):Prop where
 e:s.e=0
 fit:Fits s
 st:lined s.st∨s.st=2∨s.st=4
 left:bodied s.st=true->1<=s.left/\s.left<=2000000
 line:lined s.st->LineOk p s.rd/\s.rd.CR=false/\(s.st=5->s.rd.how c=4->Ei p 29=false)
theorem PlainOk.of {p:Nat} {s s2:S} {c:UInt8} (h:PlainOk p s c) {k:Nat} {cl:Bool} (h2:s2={s with head:=k,clean:=cl}):PlainOk p s2 c:=by subst h2;exact ⟨h.e,⟨h.fit.lines,h.fit.fss,h.fit.fsl,h.fit.tss,h.fit.tsl,h.fit.body,h.fit.out⟩,h.st,h.left,h.line⟩
section
set_option maxHeartbeats 4000000
set_option maxRecDepth 20000
attribute [local go_sem] An
variable {w:World} {B:Zone} {g q:Nat} {v f bd t o:Value} {p:Nat} {b:Bd} {s:S}
theorem once_any (hp:p<4294967296) (h3:16<=b.x3/\b.x3<=1048576) (h4:0<=b.x4) (c:UInt8) (h:PR w B g q v f bd t o p b s) (ok:PlainOk p s c) :
 Calls Gq 119 #[ptr g,ZZ ZR (c.toNat:Int)] w λr w'=>r=.returned (ZT #[])/\∃q1 v1 f1 bd1 t1 o1,PR w' B g q1 v1 f1 bd1 t1 o1 p b (s.plain p b c)/\Step (blks g q v f bd t o) (blks g q1 v1 f1 bd1 t1 o1) w w':=by
 have key:∀hst:s.st=2∨s.st=4,Calls Gq 119 #[ptr g,ZZ ZR (c.toNat:Int)] w λr w'=>
  r=.returned (ZT #[])/\∃q1 v1 f1 bd1 t1 o1,PR w' B g q1 v1 f1 bd1 t1 o1 p b (s.plain p b c)/\Step (blks g q v f bd t o) (blks g q1 v1 f1 bd1 t1 o1) w w':=by
  intro hst;have hb:bodied s.st=true:=by rcases hst with e | e<;>rw [e]<;>rfl
  have e:s.plain p b c=S.bodyB p b {s with fresh:=false} c:=by unfold S.plain;simp [hb]
  rw [e];exact body_any c h hst (ok.left hb) ok.fit.body ok.fit.out
 rcases ok.st with hs | hs | hs
 ·obtain ⟨h5,h6,h7⟩:=ok.line hs;exact plain_any hp h3 h4 c h hs ok.e ok.fit h5 h6 h7
 ·exact key (.inl hs)
 ·exact key (.inr hs)
theorem countOnce_any (hp:p<4294967296) (h3:16<=b.x3/\b.x3<=1048576) (h4:0<=b.x4) (c:UInt8) (h:PR w B g q v f bd t o p b s) (ok:PlainOk p s c) (hh:s.head<=1000000) :
 Calls Gq 76 #[ptr g,ZZ ZR (c.toNat:Int)] w λr w'=>r=.returned (ZT #[])/\∃q1 v1 f1 bd1 t1 o1,PR w' B g q1 v1 f1 bd1 t1 o1 p b (s.count b λs=>s.plain p b c)/\Step (blks g q v f bd t o) (blks g q1 v1 f1 bd1 t1 o1) w w':=
 count_any c (λs=>s.plain p b c) h ok.e hh λw2 s2 hs h2=>once_any hp h3 h4 c h2 (by
  rcases hs with ⟨-,e, -⟩ | ⟨-,e⟩
  ·exact ok.of e
  ·exact ok.of (k:=s.head) (by rw [e]))
theorem XXPyT {P:Prop} (h:P:=by
 go_enter Tryz.func165,Tryz.ntmps165
 go_wp2_with (go_at_call 119;with_reducible refine HP.out.mono ?_;rintro r w3 ⟨rfl,q1,v1,f1,bd1,t1,o1,hP,hS⟩);first | go_end0 | refine bodyPost_ret (results_none rfl _ _ _) rfl ?_
 exact ⟨rfl,_,_,_,_,_,_,hP,HS2.out.trans hS⟩):P:=h
theorem XXxuh {P:Prop} (h:P:=by
 rw [e]
 replace c11:w.cell? ⟨g,11,none⟩=some (ZZ ZS 0):=by rw [hst] at c11;exact c11
 clear e h hst;go_enter Tryz.func165,Tryz.ntmps165
 go_wp2_with (go_at_call 76;with_reducible refine HBy.out.mono ?_;rintro r w3 ⟨rfl,q1,v1,f1,bd1,t1,o1,hP,hS⟩);first | go_end0 | refine bodyPost_ret (results_none rfl _ _ _) rfl ?_
 exact ⟨rfl,_,_,_,_,_,_,hP,hS⟩):P:=h
theorem XX6kf {P:Prop} (h:P:=by
 rw [e]
 replace c11:w.cell? ⟨g,11,none⟩=some (ZZ ZS 6):=by rw [hst] at c11;exact c11
 clear e h hst;go_enter Tryz.func165,Tryz.ntmps165
 go_wp2_with (go_at_call 76;with_reducible refine HC.out.mono ?_;rintro r w3 ⟨rfl,q1,v1,f1,bd1,t1,o1,hP,hS⟩);first | go_end0 | refine bodyPost_ret (results_none rfl _ _ _) rfl ?_
 exact ⟨rfl,_,_,_,_,_,_,hP,HS2.out.trans hS⟩):P:=h
theorem again_any (hp:p<4294967296) (h3:16<=b.x3/\b.x3<=1048576) (h4:0<=b.x4) (c:UInt8) (was:Nat) (h:PR w B g q v f bd t o p b s) (ok:PlainOk p s c) (hh:s.head<=1000000) (hw:lined was) :
 Calls Gq 165 #[ptr g,ZZ ZR (c.toNat:Int),ZZ ZS (was:Int)] w λr w'=>r=.returned (ZT #[])/\∃q1 v1 f1 bd1 t1 o1,PR w' B g q1 v1 f1 bd1 t1 o1 p b (E4 p b s c was)/\Step (blks g q v f bd t o) (blks g q1 v1 f1 bd1 t1 o1) w w':=by
 have c11:=h.cs.c11;have c24:=h.cs.c24;have z24:=h.marks 24
 have H2:=BN (h.put 24 (ZW false) {s with clean:=false} rfl rfl rfl rfl rfl rfl)
 have HS2:=BN (EJ (w:=w) (L:=blks g q v f bd t o) g 24 (ZW false) (by simp));have ok2:PlainOk p {s with clean:=false} c:=ok.of (k:=s.head) rfl
 have HBy:=BN (countOnce_any hp h3 h4 c h ok hh)
 have HC:=BN (countOnce_any hp h3 h4 c H2.out ok2 hh)
 have HP:=BN (once_any hp h3 h4 c H2.out ok2);clear ok ok2 hh;rcases hw with rfl | rfl | rfl | rfl | rfl
 ·rcases (by omega:s.st=0∨s.st=6∨(¬s.st=0/\¬s.st=6)) with hst | hst | ⟨n0,n6⟩
  ·have e:E4 p b s c 0=S.plain p b {s with clean:=false} c:=by simp [E4,headed,hst]
   rw [e]
   replace c11:w.cell? ⟨g,11,none⟩=some (ZZ ZS 0):=by rw [hst] at c11;exact c11
   clear e h hst;exact XXPyT
  ·have e:E4 p b s c 0=S.plain p b {s with clean:=false} c:=by simp [E4,headed,hst]
   rw [e]
   replace c11:w.cell? ⟨g,11,none⟩=some (ZZ ZS 6):=by rw [hst] at c11;exact c11
   clear e h hst;exact XXPyT
  ·have e:E4 p b s c 0=S.plain p b {s with clean:=false} c:=by simp [E4,headed]
   rw [e]
   have t0:((s.st:Int)==0)=false:=beq_eq_false_iff_ne.2 (by omega)
   have t6:((s.st:Int)==6)=false:=beq_eq_false_iff_ne.2 (by omega);have m0:¬(s.st:Int)=0:=by omega
   have m6:¬(s.st:Int)=6:=by omega
   clear e h;exact XXPyT
 ·rcases (by omega:s.st=0∨s.st=6∨(¬s.st=0/\¬s.st=6)) with hst | hst | ⟨n0,n6⟩
  ·have e:E4 p b s c 1=s.count b λs=>s.plain p b c:=by simp [E4,hst]
   exact XXxuh
  ·have e:E4 p b s c 1=S.plain p b {s with clean:=false} c:=by simp [E4,headed,hst]
   rw [e]
   replace c11:w.cell? ⟨g,11,none⟩=some (ZZ ZS 6):=by rw [hst] at c11;exact c11
   clear e h hst;exact XXPyT
  ·have e:E4 p b s c 1=S.plain p b {s with clean:=false} c:=by simp [E4,headed,n0]
   rw [e]
   have t0:((s.st:Int)==0)=false:=beq_eq_false_iff_ne.2 (by omega)
   have t6:((s.st:Int)==6)=false:=beq_eq_false_iff_ne.2 (by omega);have m0:¬(s.st:Int)=0:=by omega
   have m6:¬(s.st:Int)=6:=by omega
   clear e h;exact XXPyT
 ·rcases (by omega:s.st=0∨s.st=6∨(¬s.st=0/\¬s.st=6)) with hst | hst | ⟨n0,n6⟩
  ·have e:E4 p b s c 3=s.count b λs=>s.plain p b c:=by simp [E4,hst]
   exact XXxuh
  ·have e:E4 p b s c 3=S.count b (λs=>s.plain p b c) {s with clean:=false}:=by simp [E4,headed,hst]
   exact XX6kf
  ·have e:E4 p b s c 3=S.plain p b {s with clean:=false} c:=by simp [E4,headed,n0,n6]
   rw [e]
   have t0:((s.st:Int)==0)=false:=beq_eq_false_iff_ne.2 (by omega)
   have t6:((s.st:Int)==6)=false:=beq_eq_false_iff_ne.2 (by omega);have m0:¬(s.st:Int)=0:=by omega
   have m6:¬(s.st:Int)=6:=by omega
   clear e h;exact XXPyT
 ·rcases (by omega:s.st=0∨s.st=6∨(¬s.st=0/\¬s.st=6)) with hst | hst | ⟨n0,n6⟩
  ·have e:E4 p b s c 5=s.count b λs=>s.plain p b c:=by simp [E4,hst]
   exact XXxuh
  ·have e:E4 p b s c 5=S.count b (λs=>s.plain p b c) {s with clean:=false}:=by simp [E4,headed,hst]
   exact XX6kf
  ·have e:E4 p b s c 5=S.plain p b {s with clean:=false} c:=by simp [E4,headed,n0,n6]
   rw [e]
   have t0:((s.st:Int)==0)=false:=beq_eq_false_iff_ne.2 (by omega)
   have t6:((s.st:Int)==6)=false:=beq_eq_false_iff_ne.2 (by omega);have m0:¬(s.st:Int)=0:=by omega
   have m6:¬(s.st:Int)=6:=by omega
   clear e h;exact XXPyT
 ·rcases (by omega:s.st=0∨s.st=6∨(¬s.st=0/\¬s.st=6)) with hst | hst | ⟨n0,n6⟩
  ·have e:E4 p b s c 6=s.count b λs=>s.plain p b c:=by simp [E4,hst]
   exact XXxuh
  ·have e:E4 p b s c 6=S.plain p b {s with clean:=false} c:=by simp [E4,headed,hst]
   rw [e]
   replace c11:w.cell? ⟨g,11,none⟩=some (ZZ ZS 6):=by rw [hst] at c11;exact c11
   clear e h hst;exact XXPyT
  ·have e:E4 p b s c 6=S.plain p b {s with clean:=false} c:=by simp [E4,headed,n0]
   rw [e]
   have t0:((s.st:Int)==0)=false:=beq_eq_false_iff_ne.2 (by omega)
   have t6:((s.st:Int)==6)=false:=beq_eq_false_iff_ne.2 (by omega);have m0:¬(s.st:Int)=0:=by omega
   have m6:¬(s.st:Int)=6:=by omega
   clear e h;exact XXPyT
end
end Go.Proofs.YtnabkcglnbdfeaaGreatDoor.Par
namespace Go.Proofs.YtnabkcglnbdfeaaGreatDoor.Par
open Go.RowKit Base Txt Mem
section
set_option maxHeartbeats 4000000
set_option maxRecDepth 20000
attribute [local go_sem] An
variable {w:World} {B:Zone} {g q:Nat} {v f bd t o:Value} {p:Nat} {b:Bd} {s:S}
theorem XXNHr {P:Prop} (h:P:=by
 refine Fm (by rfl) (ptr g) (λ_ _=>by go_simp) ?_;simp only [Ab,Di,Dl,Dk];refine Fm (by rfl) (ZV (some ⟨g,11,none⟩)) (λ_ _=>by go_simp) ?_;simp only [Ab,Di,Dl,Dk];have h1:=H.out.below hb;have ho:=H.out.own.line hb hr1 hq1;have d11:=h1.cs.c11;have z11:=h1.marks 11
 refine Fi (by rfl) (λK hK=>?_);go_simp;refine hK _ _ trivial ?_;clear hK K;refine Fm (by rfl) (ptr g) (λ_ _=>by go_simp) ?_;simp only [Ab,Di,Dl,Dk];refine Fm (by rfl) (ZV (some ⟨g,12,none⟩)) (λ_ _=>by go_simp) ?_;simp only [Ab,Di,Dl,Dk];have c12:=h1.cs.c12;have z12:=h1.marks 12
 refine Fi (by rfl) (λK hK=>?_);go_simp;refine hK _ _ trivial ?_;clear hK K;refine Fj ?_;have HP2:Hid (PR ((w2.setCell ⟨g,11,none⟩ (ZZ ZS 3)).setCell ⟨g,12,none⟩ (ptr q1)) B g q1 nil f bd t o p b {s with st:=3,rd:=nl p b.x0}):=BN ⟨row_setL (row_setL h1.row 11 (ZZ ZS 3)) 12 (ptr q1),(ho.set 11 (ZZ ZS 3)).set 12 (ptr q1)⟩
 have HS:=BN ((Step.line (g:=g) (q:=q) (v:=v) (f:=f) (bd:=bd) (t:=t) (o:=o) hb hq1).trans ((EJ g 11 (ZZ ZS 3) (by simp)).trans (EJ g 12 (ptr q1) (by simp))))
 have HON:=BN (HO.out _ _ HP2.out);clear HQ HBW hr1 hq1 c12 z12 d11 z11 h1 ho hb HP2;generalize (w2.setCell ⟨g,11,none⟩ (ZZ ZS 3)).setCell ⟨g,12,none⟩ (ptr q1)=W3 at *
 go_wp2_with (go_at_call 119;with_reducible refine HON.out.mono ?_;rintro r w4 ⟨rfl,q2,v2,f2,bd2,t2,o2,hP,hS⟩);first | go_end0 | refine bodyPost_ret (results_none rfl _ _ _) rfl ?_
 exact ⟨rfl,_,_,_,_,_,_,hP,HS.out.trans hS⟩):P:=h
theorem longEnd_any (hp:p<4294967296) (h3:16<=b.x3/\b.x3<=1048576) (h4:0<=b.x4) (c:UInt8) (h:PR w B g q v f bd t o p b s) (hst:s.st=5) (hh:Ei p 29=true) (ok:PlainOk p {s with st:=3,rd:=nl p b.x0} c):Calls Gq 163 #[ptr g,ZZ ZR (c.toNat:Int)] w λr w'=>
 r=.returned (ZT #[])/\∃q1 v1 f1 bd1 t1 o1,PR w' B g q1 v1 f1 bd1 t1 o1 p b (S.plain p b {s with st:=3,rd:=nl p b.x0} c)/\Step (blks g q v f bd t o) (blks g q1 v1 f1 bd1 t1 o1) w w':=by
 have HH:=BN (λw=>Ek p hp 29 w);rw [hh] at HH;have c11:w.cell? ⟨g,11,none⟩=some (ZZ ZS 5):=by have:=h.cs.c11;rw [hst] at this;exact this
 have c0:=h.cs.c0;have H:=BN h
 have HO:=BN (λw2 q1 (h:PR w2 B g q1 nil f bd t o p b {s with st:=3,rd:=nl p b.x0})=>once_any hp h3 h4 c h ok)
 have HQ:=BN ((h.drew 1).bk)
 have HBW:=BN (show B<=(w.drewN 1).heap.size from D7 h.own.ge (D4 (h.drew 1).own.lt));clear h hst ok hh;go_enter Tryz.func163,Tryz.ntmps163
 go_upto_region 2 with (go_at_call 53;with_reducible refine Cm (HH.out _) ?_)
 clear c11 c0;refine Each.region_float 12 [19,20,21,22,23,24,25,26,27,28,29,30] [eP g 0,eP g 0,eP g 0,eP g 0,eP g 0,eQ (ZZ ZQ (p:Int)),eP g 0,eP g 0,eP g 1,eP g 1,eQ (ZZ ZS b.x0),λv u=>∃q1,v=ptr q1/\w.heap.size<=q1/\Ln.Rr u B q1 nil p (nl p (b.x0))] [] 6 (some 1) (.quiet 12 (.quiet 13 (.act 14 (.quiet 15 (.quiet 16 (.act 17 .done)))))) (.quiet 1 (.quiet 12 (.quiet 13 (.act 14 (.quiet 15 (.quiet 16 (.act 17 .done))))))) (by kernel_rfl) (by kernel_rfl) (by kernel_rfl) (by kernel_rfl) (λk0 h=>by cases h;kernel_rfl) (λ_ _ d _ _ h=>by cases d<;>exact h) (by rfl) (by rfl) ⟨AT _,AT _,AT _,AT _,AT _,AT _,AT _,AT _,AT _,AT _,AT _,((λ_ _ _ hb h=>by obtain ⟨q1,e1,h1,h2⟩:=h;exact ⟨q1,e1,h1,rr_below h2 hb⟩)),trivial⟩ trivial (by rfl) ?_ ?_ ?_
 ·refine ⟨?_,?_,?_,?_,?_,?_,?_,?_,?_,?_,?_,?_,trivial⟩
  ·exact XXSdZ
  ·exact XXSdZ
  ·exact XXSdZ
  ·exact XXSdZ
  ·exact XXSdZ
  ·exact XXSdZ
  ·exact XXSdZ
  ·exact XXSdZ
  ·exact XXSdZ
  ·exact XXSdZ
  ·exact XXSdZ
  ·refine AY rfl (λev w1 hR hb hh=>?_);have e24:ev (.tmp 24)= _:=hh.at 0;have e29:ev (.tmp 29)= _:=hh.at 1;exact XXHuz
 ·intro g1 w2 hb hf;have z19:g1 19= _:=hf.at 0;have z20:g1 20= _:=hf.at 1;have z30:=hf.at 11;clear hf;obtain ⟨q1,e1,hq1,hr1⟩:=z30;simp only [Be,Ab,Di,Dl,Dk];rw [e1,z19,z20];simp only [Fk,Fl,Cz,Cy];exact XXNHr
 ·intro k0 hk0 g1 w2 hb hf;cases hk0;have z19:g1 19= _:=hf.at 0;have z30:=hf.at 11;clear hf;obtain ⟨q1,e1,hq1,hr1⟩:=z30;simp only [Be,Ab,Di,Dl,Dk];rw [e1,z19];simp only [Fk,Fl,Cz,Cy];refine Fm (by rfl) (ptr g) (λ_ _=>by go_simp) ?_;simp only [Ab,Di,Dl,Dk];exact XXNHr
end
end Go.Proofs.YtnabkcglnbdfeaaGreatDoor.Par
namespace Go.Proofs.YtnabkcglnbdfeaaGreatDoor.Par
open Go.RowKit Base Txt Mem
theorem how_is (q:Ln.R) (c:UInt8):q.how c=0∨q.how c=1∨q.how c=2∨q.how c=3∨q.how c=4:=by
 unfold Ln.R.how
 repeat' split
 all_goals simp
section
set_option maxHeartbeats 4000000
set_option maxRecDepth 20000
attribute [local go_sem] An
variable {w:World} {B:Zone} {g q:Nat} {v f bd t o:Value} {p:Nat} {b:Bd} {s:S}
theorem byte_any (hp:p<4294967296) (h3:16<=b.x3/\b.x3<=1048576) (h4:0<=b.x4) (c:UInt8) (h:PR w B g q v f bd t o p b s) (hs:lined s.st) (he:s.e=0) (ok:Fits s) (hl:LineOk p s.rd)
 (hlong:s.st=5->s.rd.how c=4->Ei p 29=true->PlainOk p {s with fresh:=false,rd:=nl p b.x0,st:=3} c)
 (hag:s.rd.how c=2->(S.ended p b {s with fresh:=false,rd:=s.rd.byte c} (s.rd.byte c).L).e=0->PlainOk p (S.ended p b {s with fresh:=false,rd:=s.rd.byte c} (s.rd.byte c).L) c/\(S.ended p b {s with fresh:=false,rd:=s.rd.byte c} (s.rd.byte c).L).head<=1000000) :
 Calls Gq 119 #[ptr g,ZZ ZR (c.toNat:Int)] w λr w'=>r=.returned (ZT #[])/\∃q1 v1 f1 bd1 t1 o1,PR w' B g q1 v1 f1 bd1 t1 o1 p b (s.byte1 p b c)/\Step (blks g q v f bd t o) (blks g q1 v1 f1 bd1 t1 o1) w w':=by
 have hbod:bodied s.st=false:=by rcases hs with e | e | e | e | e<;>rw [e]<;>rfl
 have t2:((s.st:Int)==2)=false:=beq_eq_false_iff_ne.2 (by rcases hs with e | e | e | e | e<;>omega)
 have t4:((s.st:Int)==4)=false:=beq_eq_false_iff_ne.2 (by rcases hs with e | e | e | e | e<;>omega);have n2:¬(s.st:Int)=2:=beq_eq_false_iff_ne.1 t2;have n4:¬(s.st:Int)=4:=beq_eq_false_iff_ne.1 t4;have m2:¬s.st=2:=by omega
 have m4:¬s.st=4:=by omega
 have H1:=BN (h.put 23 (ZW false) {s with fresh:=false} rfl rfl rfl rfl rfl rfl)
 have HS1:=BN (EJ (w:=w) (L:=blks g q v f bd t o) g 23 (ZW false) (by simp));have c23:=h.cs.c23;have z23:=h.marks 23;have c11:=h.cs.c11;have hrb:=Ln.rbyte_any c s.rd hl.most p hp hl.lf hl.cr (w.setCell ⟨g,23,none⟩ (ZW false)) B q v H1.out.own.R;clear h;have hL:(s.rd.how c=1∨s.rd.how c=2)->(s.rd.byte c).L.length<=5000:=λe=>by rw [byte_L s.rd c e];have:=hl.len;have:=hl.most;omega
 rcases how_is s.rd c with hw | hw | hw | hw | hw
 ·have e:s.byte1 p b c={s with fresh:=false,rd:=s.rd.byte c}:=by unfold S.byte1;simp [hbod,hw]
  rw [e];rw [hw] at hrb;have HRB:=BN hrb;clear e hw hL hrb hbod hs he hl ok hlong hag;exact XXHvt
 ·have e:s.byte1 p b c=S.ended p b {s with fresh:=false,rd:=s.rd.byte c} (s.rd.byte c).L:=by unfold S.byte1;simp [hbod,hw]
  rw [e];rw [hw] at hrb;have HRB:=BN hrb;obtain ⟨x,hx⟩:∃x:ByteArray,ba (s.rd.byte c).L=x:=⟨_,rfl⟩;have hxl:(s.rd.byte c).L=x.data.toList:=by rw [←hx];simp [ba]
  have hxs:x.size<=5000:=by rw [←hx,ba_size];exact hL (.inl hw)
  have HEN:=BN (λw2 q1 v1 (h:PR w2 B g q1 v1 f bd t o p b {s with fresh:=false,rd:=s.rd.byte c})=>ended_any hp h3 h4 x hxs h hs he ⟨ok.lines,ok.fss,ok.fsl,ok.tss,ok.tsl,ok.body,ok.out⟩);have HX:=BN hx;rw [hxl];clear e hw hL hrb hbod hs he hl ok hlong hag hx hxl hxs;exact XXTyB
 ·rw [hw] at hrb;have HRB:=BN hrb;obtain ⟨x,hx⟩:∃x:ByteArray,ba (s.rd.byte c).L=x:=⟨_,rfl⟩;have hxl:(s.rd.byte c).L=x.data.toList:=by rw [←hx];simp [ba]
  have hxs:x.size<=5000:=by rw [←hx,ba_size];exact hL (.inr hw)
  have HEN:=BN (λw2 q1 v1 (h:PR w2 B g q1 v1 f bd t o p b {s with fresh:=false,rd:=s.rd.byte c})=>ended_any hp h3 h4 x hxs h hs he ⟨ok.lines,ok.fss,ok.fsl,ok.tss,ok.tsl,ok.body,ok.out⟩);have HX:=BN hx;rw [hxl] at hag;obtain ⟨s3,hs3⟩:∃s3,S.ended p b {s with fresh:=false,rd:=s.rd.byte c} x.data.toList=s3:=⟨_,rfl⟩;rw [hs3] at hag HEN;by_cases he3:s3.e=0
  ·obtain ⟨ok3,hh3⟩:=hag hw he3;have e:s.byte1 p b c=E4 p b s3 c s.st:=by
    unfold S.byte1;simp [hbod,hw,hxl,hs3,he3]
   rw [e]
   have HAG:=BN (λw2 q1 v1 f1 bd1 t1 o1 (h:PR w2 B g q1 v1 f1 bd1 t1 o1 p b s3)=>again_any hp h3 h4 c s.st h ok3 hh3 hs);have HE2:=BN he3;clear e hw hL hrb hbod hs he hl ok hlong hag hx hxl hxs hs3 he3 ok3 hh3;go_enter Tryz.func119,Tryz.ntmps119;go_upto_region 8 with fail
   generalize w.setCell ⟨g,23,none⟩ (ZW false)=W1 at *;clear c23 z23 c11;have c12:=H1.out.cs.c12
   go_wp2_with (first
    |(go_at_call 165;with_reducible refine (HAG.out _ _ _ _ _ _ _ HP3.out).mono ?_;rintro r w4 ⟨rfl,q2,v3,f2,bd2,t2',o2,hP4,hS4⟩)
    |(go_at_call 164;with_reducible refine (HEN.out _ _ _ HP2.out).mono ?_;rintro r w3 ⟨rfl,q1,v1,f1,bd1,t1,o1,hP3,hS3⟩
      have HP3:=BN hP3;have HS3:=BN (HS2.out.trans hS3);have c25:w3.cell? ⟨g,25,none⟩=some (ZZ ZS 0):=by have:=hP3.cs.c25;rw [HE2.out] at this;exact this
      clear hP3 hS3)
    |(go_at_call 162;with_reducible refine HRB.out.mono ?_;rintro r w2 ⟨v2,rfl,hr2,hk2,hm2⟩
      obtain ⟨hP2,hS2⟩:=H1.out.reader hk2 hm2 hr2
      have HP2:=BN hP2;have HS2:=BN (HS1.out.trans hS2);have c11:=hP2.cs.c11;have c12:=hP2.cs.c12;have y4:w2.cell? ⟨q,4,none⟩=some (ZY x):=by rw [←HX.out];exact Ln.row_cell hr2.row (k:=4) rfl
      clear hr2 hk2 hm2 hP2 hS2))
   first | go_end0 | refine bodyPost_ret (results_none rfl _ _ _) rfl ?_
   exact ⟨rfl,_,_,_,_,_,_,hP4,HS3.out.trans hS4⟩
  ·have e:s.byte1 p b c=s3:=by
    unfold S.byte1;simp [hbod,hw,hxl,hs3,he3]
   rw [e];obtain ⟨k,hk⟩:∃k,s3.e=k:=⟨_,rfl⟩
   have t5:((k:Int)==0)=false:=beq_eq_false_iff_ne.2 (by omega);have n5:¬(k:Int)=0:=by omega
   have n6:¬k=0:=by omega
   have HE2:=BN hk;clear e hw hL hrb hbod hs he hl ok hlong hag hx hxl hxs hs3 he3 hk;go_enter Tryz.func119,Tryz.ntmps119;go_upto_region 8 with fail
   generalize w.setCell ⟨g,23,none⟩ (ZW false)=W1 at *;clear c23 z23 c11;have c12:=H1.out.cs.c12
   go_wp2_with (first
    |(go_at_call 164;with_reducible refine (HEN.out _ _ _ HP2.out).mono ?_;rintro r w3 ⟨rfl,q1,v1,f1,bd1,t1,o1,hP3,hS3⟩
      have HP3:=BN hP3;have HS3:=BN (HS2.out.trans hS3);have c25:w3.cell? ⟨g,25,none⟩=some (ZZ ZS (k:Int)):=by have:=hP3.cs.c25;rw [HE2.out] at this;exact this
      clear hP3 hS3)
    |(go_at_call 162;with_reducible refine HRB.out.mono ?_;rintro r w2 ⟨v2,rfl,hr2,hk2,hm2⟩
      obtain ⟨hP2,hS2⟩:=H1.out.reader hk2 hm2 hr2
      have HP2:=BN hP2;have HS2:=BN (HS1.out.trans hS2);have c11:=hP2.cs.c11;have c12:=hP2.cs.c12;have y4:w2.cell? ⟨q,4,none⟩=some (ZY x):=by rw [←HX.out];exact Ln.row_cell hr2.row (k:=4) rfl
      clear hr2 hk2 hm2 hP2 hS2))
   first | go_end0 | refine bodyPost_ret (results_none rfl _ _ _) rfl ?_
   exact ⟨rfl,_,_,_,_,_,_,HP3.out,HS3.out⟩
 ·have e:s.byte1 p b c=S.fail {s with fresh:=false,rd:=s.rd.byte c} 400:=by unfold S.byte1;simp [hbod,hw]
  rw [e];rw [hw] at hrb;have HRB:=BN hrb
  have HFA:=BN (λw2 q1 v1 (h:PR w2 B g q1 v1 f bd t o p b {s with fresh:=false,rd:=s.rd.byte c})=>fail_at h 400 400 rfl);clear e hw hL hrb hbod hs he hl ok hlong hag;go_enter Tryz.func119,Tryz.ntmps119;go_upto_region 8 with fail
  generalize w.setCell ⟨g,23,none⟩ (ZW false)=W1 at *;clear c23 z23 c11;have c12:=H1.out.cs.c12
  go_wp2_with (first
   |(go_at_call 118;with_reducible refine (HFA.out _ _ _ HP2.out).mono ?_;rintro r w3 ⟨rfl,hP3,hS3⟩)
   |(go_at_call 162;with_reducible refine HRB.out.mono ?_;rintro r w2 ⟨v2,rfl,hr2,hk2,hm2⟩
     obtain ⟨hP2,hS2⟩:=H1.out.reader hk2 hm2 hr2
     have HP2:=BN hP2;have HS2:=BN (HS1.out.trans hS2);clear hr2 hk2 hm2 hP2 hS2))
  first | go_end0 | refine bodyPost_ret (results_none rfl _ _ _) rfl ?_
  exact XXtPE
 ·by_cases hce:(s.st==5&&Ei p 29)=true
  ·have hce2:s.st=5/\Ei p 29=true:=by simpa using hce
   have e:s.byte1 p b c=S.plain p b {s with fresh:=false,rd:=nl p b.x0,st:=3} c:=by unfold S.byte1;simp [bodied,hw,hce2.1,hce2.2]
   rw [e];have ok3:=hlong hce2.1 hw hce2.2;rw [hw] at hrb;have HRB:=BN hrb
   have HLO:=BN (λw2 q1 v1 (h:PR w2 B g q1 v1 f bd t o p b {s with fresh:=false,rd:=s.rd.byte c})=>longEnd_any hp h3 h4 c h hce2.1 hce2.2 ok3);clear e hw hL hrb hbod hs he hl ok hlong hag hce hce2 ok3;go_enter Tryz.func119,Tryz.ntmps119;go_upto_region 8 with fail
   generalize w.setCell ⟨g,23,none⟩ (ZW false)=W1 at *;clear c23 z23 c11;have c12:=H1.out.cs.c12
   go_wp2_with (first
    |(go_at_call 163;with_reducible refine (HLO.out _ _ _ HP2.out).mono ?_;rintro r w3 ⟨rfl,q1,v1,f1,bd1,t1,o1,hP3,hS3⟩)
    |(go_at_call 162;with_reducible refine HRB.out.mono ?_;rintro r w2 ⟨v2,rfl,hr2,hk2,hm2⟩
      obtain ⟨hP2,hS2⟩:=H1.out.reader hk2 hm2 hr2
      have HP2:=BN hP2;have HS2:=BN (HS1.out.trans hS2);clear hr2 hk2 hm2 hP2 hS2))
   first | go_end0 | refine bodyPost_ret (results_none rfl _ _ _) rfl ?_
   exact XXtPE
  ·have e:s.byte1 p b c=S.fail {s with fresh:=false,rd:=s.rd.byte c} (longE s.st):=by unfold S.byte1;simp [hbod,hw,hce]
   rw [e];have h6:s.st=5->Ei p 29=false:=λe=>by
    cases h:Ei p 29 with
    | false=>rfl
    | true=>exact absurd (by rw [e,h];rfl) hce
   rw [hw] at hrb;have HRB:=BN hrb
   have HLO:=BN (λw2 q1 v1 (h:PR w2 B g q1 v1 f bd t o p b {s with fresh:=false,rd:=s.rd.byte c})=>long_any hp c h hs h6);clear e hw hL hrb hbod hs he hl ok hlong hag hce h6;go_enter Tryz.func119,Tryz.ntmps119;go_upto_region 8 with fail
   generalize w.setCell ⟨g,23,none⟩ (ZW false)=W1 at *;clear c23 z23 c11;have c12:=H1.out.cs.c12
   go_wp2_with (first
    |(go_at_call 163;with_reducible refine (HLO.out _ _ _ HP2.out).mono ?_;rintro r w3 ⟨rfl,hP3,hS3⟩)
    |(go_at_call 162;with_reducible refine HRB.out.mono ?_;rintro r w2 ⟨v2,rfl,hr2,hk2,hm2⟩
      obtain ⟨hP2,hS2⟩:=H1.out.reader hk2 hm2 hr2
      have HP2:=BN hP2;have HS2:=BN (HS1.out.trans hS2);clear hr2 hk2 hm2 hP2 hS2))
   first | go_end0 | refine bodyPost_ret (results_none rfl _ _ _) rfl ?_
   exact XXtPE
end
end Go.Proofs.YtnabkcglnbdfeaaGreatDoor.Par
namespace Go.Proofs.YtnabkcglnbdfeaaGreatDoor.Par
open Go.RowKit Base Txt Mem
section
variable {p:Nat} {b:Bd} {x:Pg.T} {s:S}
theorem fits_of (h:Pg.R0 p b x s) (ok:x.Ok) (ho:s.out.length<=1000000000):Fits s:=by
 have k1:=ok.hl;have k2:=ok.bl;have k3:=ok.fsl;have k4:=ok.tsl;have k5:=ok.body;refine ⟨λe=>?_,λy hy=>?_,?_,λy hy=>?_,?_,?_,ho⟩
 ·rcases e with e | e
  ·rw [h.hl (by omega)];omega
  ·rw [h.bl e];omega
 ·rw [h.r] at hy;have:=ok.fss y hy;omega
 ·rw [h.r];omega
 ·rw [h.r] at hy;have:=ok.tss y hy;omega
 ·rw [h.r];omega
 ·rw [h.r];omega
theorem lineOk_of (h:Pg.R0 p b x s) (ok:x.Ok) (hn:bodied s.st=false):LineOk p s.rd:=by
 have r:=h.rd hn;have h1:=ok.rd.len;have h2:=ok.rd.most;refine ⟨r.lf.trans h.lf,r.cr.trans h.cr,by rw [r.most];exact h2,?_⟩;rw [r.B,r.most];split
 ·exact DC _
 ·exact h1
theorem lined_of (h:Pg.R0 p b x s) (ok:x.Ok) (hn:bodied s.st=false):lined s.st:=by
 have h7:=ok.st;have ht:=h.st;have hn2:s.st≠2/\s.st≠4:=by constructor<;> (intro e;rw [e] at hn;exact absurd hn (by decide))
 unfold lined;omega
theorem plainOk_of (h:Pg.R0 p b x s) (ok:x.Ok) (hp:x.rd.pend=false) (h6:x.st≠6) (ho:s.out.length<=1000000000) (c:UInt8):PlainOk p s c:=by
 have h7:=ok.st;have ht:=h.st;refine ⟨h.e,fits_of h ok ho,?_,λhb=>?_,λhl=>?_⟩
 ·unfold lined;omega
 ·have h1:=h.left hb;have h2:=ok.left (by rw [Pg.bod h];exact hb);have h3:=ok.body;omega
 ·have hn:bodied s.st=false:=by rcases hl with e | e | e | e | e<;>rw [e]<;>rfl
  exact ⟨lineOk_of h ok hn,(h.rd hn).CR.trans hp,λe=>absurd (ht.trans (by rw [e])) h6⟩
theorem ended_ok (h:Pg.R0 p b x s) (ok:x.Ok) (hb:b.right=true) (hn:bodied s.st=false) (hc:s.clean=false) (ho:s.out.length<=999999998) (c:UInt8) (h2:s.rd.how c=2)
 (he:(S.ended p b {s with fresh:=false,rd:=s.rd.byte c} (s.rd.byte c).L).e=0) :
 PlainOk p (S.ended p b {s with fresh:=false,rd:=s.rd.byte c} (s.rd.byte c).L) c/\(S.ended p b {s with fresh:=false,rd:=s.rd.byte c} (s.rd.byte c).L).head<=1000000:=by
 obtain ⟨n,hnx⟩:∃n,x.rd.clear.next c=n:=⟨_,rfl⟩;obtain ⟨k1, -,k3⟩:=Pg.took_sim h hn ok hc c hnx;have e2:n=2:=k1.symm.trans h2;subst e2
 have k4:=k3 (.inr rfl);have hb0:Pg.bodied x.st=false:=(Pg.bod h).trans hn;generalize hs2:S.ended p b {s with fresh:=false,rd:=s.rd.byte c} (s.rd.byte c).L=s2 at k4 he ⊢;generalize hq:Pg.ends (Pg.T.line p b {x with rd:=x.rd.byte c} (x.rd.byte c).line)=y at k4;rcases Pg.ends_cases hq with ⟨t2,g1,rfl⟩ | ⟨e,o,rfl⟩
 ·have k5:Pg.RR p b t2 s2:=k4;have hin:x.inLine p b c=(.live t2,false):=by
   unfold Pg.T.inLine;simp only [hnx,Int.reduceEq,if_false,BEq.rfl,Bool.not_true];rw [hq]
  have ok2:t2.Ok:=ok.inLine hb c (by rw [hin]);obtain ⟨g2,g3⟩:=Pg.inLine_again hb0 c hin;have hout:=Pg.inLine_out (p:=p) (b:=b) x c;rw [hin] at hout;have ho2:s2.out.length<=1000000000:=by rw [k5.out];have h1:t2.out.length<=x.out.length+1:=hout;rw [←h.out] at h1;omega
  exact ⟨plainOk_of k5.toR0 ok2 g2 g3 ho2 c,by rw [k5.head];have:=ok2.size;omega⟩
 ·exact absurd he k4.err
end
section
set_option maxHeartbeats 4000000
variable {w:World} {B:Zone} {g q:Nat} {v f bd t o:Value} {p:Nat} {b:Bd} {s:S} {x:Pg.T}
theorem byte1_any (hp:p<4294967296) (hb:b.right=true) (c:UInt8) (h:PR w B g q v f bd t o p b s) (h0:Pg.R0 p b x s) (ok:x.Ok) (hc:s.clean=false) (ho:s.out.length<=999999998) :
 Calls Gq 119 #[ptr g,ZZ ZR (c.toNat:Int)] w λr w'=>r=.returned (ZT #[])/\∃q1 v1 f1 bd1 t1 o1,PR w' B g q1 v1 f1 bd1 t1 o1 p b (s.byte1 p b c)/\Step (blks g q v f bd t o) (blks g q1 v1 f1 bd1 t1 o1) w w':=by
 obtain ⟨-, -, -,h3,h4, -⟩:=Pg.Bd.edges hb
 have hf:=fits_of h0 ok (by omega);by_cases hbd:bodied s.st=true
 ·have hst:s.st=2∨s.st=4:=by
   unfold bodied at hbd;simpa using hbd
  have e:s.byte1 p b c=S.bodyB p b {s with fresh:=false} c:=by unfold S.byte1;simp [hbd]
  rw [e];have h1:=h0.left hbd;have h2:=ok.left (by rw [Pg.bod h0];exact hbd);have h5:=ok.body;exact body_any c h hst ⟨by omega,by omega⟩ hf.body hf.out
 ·have hn:bodied s.st=false:=by simpa using hbd
  refine byte_any hp h3 h4.1 c h (lined_of h0 ok hn) h0.e hf (lineOk_of h0 ok hn) (λh5 _ _=>?_) (λh2 he=>ended_ok h0 ok hb hn hc ho c h2 he);have he:=Pg.enter_sim (t:=x) (s:={s with fresh:=false}) {h0 with} h5;exact plainOk_of he (ok.enter (.inl rfl) b.x0) rfl (by show (4:Nat)≠6;decide) (by show s.out.length<=_;omega) c
theorem byteS_any (hp:p<4294967296) (hb:b.right=true) (c:UInt8) (h:PR w B g q v f bd t o p b s) (hr:Pg.RR p b x s) (ok:x.Ok) (ho:s.out.length<=999999998) :
 Calls Gq 76 #[ptr g,ZZ ZR (c.toNat:Int)] w λr w'=>r=.returned (ZT #[])/\∃q1 v1 f1 bd1 t1 o1,PR w' B g q1 v1 f1 bd1 t1 o1 p b (s.byte p b c)/\Step (blks g q v f bd t o) (blks g q1 v1 f1 bd1 t1 o1) w w':=by
 have h0:Pg.R0 p b ({x with cnt:=false}:Pg.T) {s with clean:=false}:=⟨hr.e,hr.st,hr.r,hr.out,hr.head,hr.hl,hr.bl,hr.bl0,hr.left,hr.rd,hr.fr,hr.lf,hr.cr,hr.most,hr.beh,hr.ch⟩;have ok0:({x with cnt:=false}:Pg.T).Ok:=ok.cleared;refine count_any c (λs=>s.byte1 p b c) h hr.e (by rw [hr.head];have:=ok.size;omega) λw2 s2 hs h2=>?_;rcases hs with ⟨hh,rfl,hx⟩ | ⟨hh,rfl⟩
 ·have h1:Pg.R0 p b ({x with cnt:=false}:Pg.T).counted {s with head:=s.head+1,clean:=false}:=h0.of_counted rfl;have esz:({x with cnt:=false}:Pg.T).counted.size=s.head+1:=h1.head.symm;exact byte1_any hp hb c h2 h1 (ok0.counted hb (by rw [esz];exact hx)) rfl ho
 ·exact byte1_any hp hb c h2 h0 ok0 rfl ho
end
end Go.Proofs.YtnabkcglnbdfeaaGreatDoor.Par
namespace Go.Proofs.YtnabkcglnbdfeaaGreatDoor.Par
open Go.RowKit Base Txt Mem Each
abbrev ncells (p:Nat) (b:Bd) (cl:Bool) (e:Nat):List Value:=
 [ZZ ZQ (p:Int),ZZ ZS b.x0,ZZ ZS b.x1,ZZ ZS b.x2,ZZ ZS b.x3,ZZ ZS b.x4,ZZ ZS b.x5,ZZ ZS b.x6,ZZ ZS b.x7,ZW b.ch,ZW b.od,ZZ ZS 0,ZV none,
   ZY E0,ZY E0,ZZ ZS 0,nil,ZW false,nil,nil,ZZ ZS 0,ZZ ZS 0,ZZ ZS 0,ZW false,ZW cl,ZZ ZS (e:Int),nil]
structure Bad (w:World) (B:Zone) (g p:Nat) (b:Bd) (s:S):Prop where
 row:w.heap[g]?=some (.cells (ncells p b false 20).toArray 60 (0,0))
 e:s.e=20
 clean:s.clean=false
 out:s.out= []
 ge:B<=g
 zone:Clear w B.z [some g]
structure Rest (w:World) (B:Zone) (g q:Nat) (v f bd t:Value) (p:Nat) (b:Bd) (s:S):Prop where
 row:∃o,w.heap[g]?=some (.cells (pcells p b s q f bd t o).toArray 60 (0,0))
 own:Own w B g q v f bd t nil p s.rd s.r.fs s.r.body s.r.ts []
def Run (w:World) (B:Zone) (g p:Nat) (b:Bd) (L:List (Option Nat)) (s:S):Prop:=
 (∃q v f bd t o,L=blks g q v f bd t o/\PR w B g q v f bd t o p b s)∨(L= [some g]/\Bad w B g p b s)
def DAt (w:World) (B:Zone) (g p:Nat) (b:Bd) (L:List (Option Nat)) (s:S):Prop:=
 (∃q v f bd t,L=blks g q v f bd t nil/\Rest w B g q v f bd t p b s)∨(L= [some g]/\Bad w B g p b s)
def DQ (w:World) (B:Zone) (g p:Nat) (b:Bd) (L:List (Option Nat)) (x:Pg.Q):Prop:=∃s,Pg.RQ p b x s/\x.Fine b/\DAt w B g p b L s
theorem fine_of {b:Bd} {x:Pg.Q} (h:x.Ok b):x.Fine b:=by cases x<;>exact h
section
variable {w w':World} {B:Zone} {g q:Nat} {v f bd t o:Value} {p:Nat} {b:Bd} {L M:List (Option Nat)} {s:S} {x:Pg.Q} {rd:Ln.R} {fs ts:List Fld} {body:List UInt8} {out:List Eo}
theorem Own.less (h:Own w B g q v f bd t o p rd fs body ts out):Own w B g q v f bd t nil p rd fs body ts []:=by
 have e:blks g q v f bd t nil=(blks g q v f bd t o).set 6 none:=rfl;refine ⟨h.R,h.F,h.D,h.T,⟨[],rfl,(by intro x hx;cases hx),Hp _ _ _ _⟩,?_,h.ge,h.lt,h.zone.of (D5 _) (by rw [e];exact Of.set 6 none (.inl rfl))⟩;rw [e]
 exact h.lone.set h.in 6 none (.inl rfl)
theorem Run.tell (h:Run w B g p b L s):∃o L',w.cell? ⟨g,26,none⟩=some o/\DAt w B g p b L' s/\Pg.Told L' B w o s.out/\Step L L' w w:=by
 rcases h with ⟨q,v,f,bd,t,o,rfl,h⟩ | ⟨rfl,h⟩
 ·have hsub:∀k,some k∈blks g q v f bd t nil->some k∈blks g q v f bd t o:=λk hk=>by
   exact XX5KD
  refine ⟨o,blks g q v f bd t nil,h.cs.c26,.inl ⟨q,v,f,bd,t,rfl,⟨o,h.row⟩,h.own.less⟩,⟨Pg.Outs.less h.own.O (λk hk=>.inl (hsub k hk)),λk e=>⟨λhm=>?_,?_⟩,λk e=>h.own.zone.off k (CZ (i:=6) (by rw [←e];rfl))⟩,⟨Keeps.refl,λk hk=>.inl (hsub k hk)⟩⟩
  ·exact XXTkD
  ·exact h.own.in k (CZ (i:=6) (by rw [←e];rfl))
 ·exact ⟨nil,[some g],row_cellL h.row rfl,.inr ⟨rfl,h⟩,by rw [h.out];exact ⟨⟨[],rfl,(by intro x hx;cases hx),Hp _ _ _ _⟩,(λk e=>by cases e),(λk e=>by cases e)⟩,Step.refl⟩
theorem DAt.start (h:DAt w B g p b L s) (ho:s.out= []):w.frozen? ⟨g,26,none⟩=false/\(∃o,w.cell? ⟨g,26,none⟩=some o)/\Run (w.setCell ⟨g,26,none⟩ nil) B g p b L s/\Step L L w (w.setCell ⟨g,26,none⟩ nil):=by
 rcases h with ⟨q,v,f,bd,t,rfl,⟨o,hrow⟩,hown⟩ | ⟨rfl,h⟩
 ·refine ⟨Dy hrow 26,⟨o,row_cellL hrow rfl⟩,.inl ⟨q,v,f,bd,t,nil,rfl,row_setL hrow 26 nil,?_⟩,EJ g 26 nil (by simp)⟩;rw [ho];exact hown.set 26 nil
 ·exact ⟨Dy h.row 26,⟨_,row_cellL h.row rfl⟩,.inr ⟨rfl,row_setL h.row 26 nil,h.e,h.clean,h.out,h.ge,h.zone.of (by simp) DT⟩,EJ g 26 nil (by simp)⟩
theorem Own.keepsD (h:Own w B g q v f bd t nil p rd fs body ts []) (hk:Keeps M w w') (hd:Dis (blks g q v f bd t nil) M):Own w' B g q v f bd t nil p rd fs body ts []:=
 ⟨⟨hk.row h.R.row (hd q (by simp)),hk.own h.R.own λk e=>hd k (by simp [←e]),h.R.ge,h.R.ne⟩,hk.own h.F λk e=>hd k (by simp [←e]),hk.own h.D λk e=>hd k (by simp [←e]),hk.own h.T λk e=>hd k (by simp [←e]),
   ⟨[],rfl,(by intro x hx;cases hx),Hp _ _ _ _⟩,h.lone,h.ge,D8 h.lt hk.size,h.zone.of hk.size DT⟩
theorem Own.rezoneD (h:Own w B g q v f bd t nil p rd fs body ts []) {Z:List (Option Nat)} (hz:Clear w Z (blks g q v f bd t nil)):Own w ⟨B.b,Z⟩ g q v f bd t nil p rd fs body ts []:=
 ⟨h.R,h.F,h.D,h.T,⟨[],rfl,(by intro x hx;cases hx),Hp _ _ _ _⟩,h.lone,h.ge,h.lt,hz⟩
theorem DAt.keeps (h:DAt w B g p b L s) (hk:Keeps M w w') (hd:Dis L M):DAt w' B g p b L s:=by
 rcases h with ⟨q,v,f,bd,t,rfl,⟨o,hrow⟩,hown⟩ | ⟨rfl,h⟩
 ·exact .inl ⟨q,v,f,bd,t,rfl,⟨o,hk.row hrow (hd g (by simp))⟩,hown.keepsD hk hd⟩
 ·exact .inr ⟨rfl,hk.row h.row (hd g (by simp)),h.e,h.clean,h.out,h.ge,h.zone.of hk.size DT⟩
theorem DAt.rezone (h:DAt w B g p b L s) {Z:List (Option Nat)} (hz:Clear w Z L):DAt w ⟨B.b,Z⟩ g p b L s:=by
 rcases h with ⟨q,v,f,bd,t,rfl,hrow,hown⟩ | ⟨rfl,h⟩
 ·exact .inl ⟨q,v,f,bd,t,rfl,hrow,hown.rezoneD hz⟩
 ·exact .inr ⟨rfl,h.row,h.e,h.clean,h.out,h.ge,hz⟩
theorem DAt.in (h:DAt w B g p b L s):In w L:=by
 rcases h with ⟨q,v,f,bd,t,rfl, -,hown⟩ | ⟨rfl,h⟩
 ·exact hown.in
 ·intro k hk;obtain rfl:k=g:=by simpa using hk
  exact Ln.row_lt h.row
theorem DAt.low (h:DAt w B g p b L s):∀k,some k∈L->B<=k:=by
 rcases h with ⟨q,v,f,bd,t,rfl, -,hown⟩ | ⟨rfl,h⟩
 ·exact hown.low
 ·intro k hk;obtain rfl:k=g:=by simpa using hk
  exact h.ge
theorem DQ.keeps (h:DQ w B g p b L x) (hk:Keeps M w w') (hd:Dis L M):DQ w' B g p b L x:=by obtain ⟨s,h1,h2,h3⟩:=h;exact ⟨s,h1,h2,h3.keeps hk hd⟩
theorem DQ.below (h:DQ w B g p b L x) (hb:Below w.heap.size w w'):DQ w' B g p b L x:=h.keeps (M:= []) (BD hb) (λk _ hk=>by cases hk)
theorem DQ.rezone (h:DQ w B g p b L x) {Z:List (Option Nat)} (hz:Clear w Z L):DQ w ⟨B.b,Z⟩ g p b L x:=by obtain ⟨s,h1,h2,h3⟩:=h;exact ⟨s,h1,h2,h3.rezone hz⟩
theorem DQ.in (h:DQ w B g p b L x):In w L:=by obtain ⟨_,_,_,h3⟩:=h;exact h3.in
theorem DQ.low (h:DQ w B g p b L x):∀k,some k∈L->B<=k:=by obtain ⟨_,_,_,h3⟩:=h;exact h3.low
end
section
set_option maxHeartbeats 4000000
set_option maxRecDepth 20000
attribute [local go_sem] An
variable {w:World} {B:Zone} {g q:Nat} {v f bd t o:Value} {p:Nat} {b:Bd} {s:S} {x:Pg.Q} {L:List (Option Nat)}
theorem byteDead_any (c:UInt8) {e:Nat} (he:e≠0) (c25:w.cell? ⟨g,25,none⟩=some (ZZ ZS (e:Int))) :
 Calls Gq 76 #[ptr g,ZZ ZR (c.toNat:Int)] w λr w'=>r=.returned (ZT #[])/\w'=w:=by
 have t5:((e:Int)==0)=false:=beq_eq_false_iff_ne.2 (by omega);have n5:¬(e:Int)=0:=by omega
 go_enter Tryz.func76,Tryz.ntmps76;go_wp2;first | go_end0 | refine bodyPost_ret (results_none rfl _ _ _) rfl ?_
 exact ⟨rfl,rfl⟩
theorem byteRun_any (hp:p<4294967296) (c:UInt8) (h:Run w B g p b L s) (hr:Pg.RQ p b x s) (ok:x.Fine b) (ho:s.out.length<=999999998) :
 Calls Gq 76 #[ptr g,ZZ ZR (c.toNat:Int)] w λr w'=>r=.returned (ZT #[])/\∃L',Run w' B g p b L' (s.byte p b c)/\Step L L' w w':=by
 cases x with
 | live y=>
   obtain ⟨ok1,ok2⟩:=ok;have hr:Pg.RR p b y s:=hr;rcases h with ⟨q,v,f,bd,t,o,rfl,h⟩ | ⟨rfl,h⟩
   ·refine (byteS_any hp ok2 c h hr ok1 ho).mono ?_;rintro r w' ⟨rfl,q1,v1,f1,bd1,t1,o1,hP,hS⟩;exact ⟨rfl,_,.inl ⟨q1,v1,f1,bd1,t1,o1,rfl,hP⟩,hS⟩
   ·exact absurd (hr.e.symm.trans h.e) (by decide)
 | dead e o=>
   have he:=hr.err;rw [S.byte_dead he];have key:∀c25:w.cell? ⟨g,25,none⟩=some (ZZ ZS (s.e:Int)),Calls Gq 76 #[ptr g,ZZ ZR (c.toNat:Int)] w λr w'=>r=.returned (ZT #[])/\∃L',Run w' B g p b L' s/\Step L L' w w':=by intro c25;refine (byteDead_any c he c25).mono ?_;rintro r w' ⟨rfl,rfl⟩;exact ⟨rfl,L,h,Step.refl⟩
   rcases h with ⟨q,v,f,bd,t,o,rfl,h1⟩ | ⟨rfl,h1⟩
   ·exact key h1.cs.c25
   ·exact key (by rw [h1.e];exact row_cellL h1.row rfl)
end
end Go.Proofs.YtnabkcglnbdfeaaGreatDoor.Par
namespace Go.Proofs.YtnabkcglnbdfeaaGreatDoor.Par
open Go.RowKit Base Txt Mem Each
section
variable {w:World} {B:Zone} {g p:Nat} {b:Bd} {s:S} {x:Pg.Q} {L:List (Option Nat)}
theorem DAt.cell (h:DAt w B g p b L s):w.cell? ⟨g,25,none⟩=some (ZZ ZS (s.e:Int))/\w.cell? ⟨g,24,none⟩=some (ZW s.clean):=by
 rcases h with ⟨q,v,f,bd,t,rfl,⟨o,hrow⟩,hown⟩ | ⟨rfl,h⟩
 ·exact ⟨row_cellL hrow rfl,row_cellL hrow rfl⟩
 ·rw [h.e,h.clean];exact ⟨row_cellL h.row rfl,row_cellL h.row rfl⟩
theorem DQ.e (h:DQ w B g p b L x):w.cell? ⟨g,25,none⟩=some (ZZ ZS (x.err:Int)):=by obtain ⟨s,h1,h2,h3⟩:=h;rw [←(Pg.said_sim h1 h2).1];exact h3.cell.1
theorem DQ.cl (h:DQ w B g p b L x):w.cell? ⟨g,24,none⟩=some (ZW x.clean):=by obtain ⟨s,h1,h2,h3⟩:=h;rw [←(Pg.said_sim h1 h2).2.2.2.2];exact h3.cell.2
theorem DAt.told (h:DAt w B g p b L s):DAt w B g p b L {s with out:= []}:=by
 rcases h with ⟨q,v,f,bd,t,rfl,hrow,hown⟩ | ⟨rfl,h⟩
 ·exact .inl ⟨q,v,f,bd,t,rfl,hrow,hown⟩
 ·exact .inr ⟨rfl,h.row,h.e,h.clean,rfl,h.ge,h.zone⟩
end
section
set_option maxHeartbeats 4000000
set_option maxRecDepth 20000
attribute [local go_sem] An
variable {w:World} {B:Zone} {g q:Nat} {v f bd t o:Value} {p:Nat} {b:Bd} {s:S} {x:Pg.Q} {L:List (Option Nat)}
theorem next_new (hrow:w.heap[g]?=some (.cells (ncells p b true 0).toArray 60 (0,0))) (hB:B<=g) (hz:B.z= []):Calls Gq 74 #[ptr g] w λr w'=>
 r=.returned (ZT #[])/\∃q1,PR w' B g q1 nil nil nil nil nil p b ⟨0,nl p b.x0,zero,0,0,0,false,true,0,[]⟩/\Keeps [some g] w w':=by
 have hlt:=Ln.row_lt hrow
 have HR1:=BN (show (((((((((((((w.setCell ⟨g,13,none⟩ (ZY E0)).setCell ⟨g,14,none⟩ (ZY E0)).setCell ⟨g,15,none⟩ (ZZ ZS 0)).setCell ⟨g,16,none⟩ (nil)).setCell ⟨g,17,none⟩ (ZW false)).setCell ⟨g,18,none⟩ (nil)).setCell ⟨g,19,none⟩ (nil)).setCell ⟨g,11,none⟩ (ZZ ZS 0)).setCell ⟨g,20,none⟩ (ZZ ZS 0)).setCell ⟨g,21,none⟩ (ZZ ZS 0)).setCell ⟨g,23,none⟩ (ZW false)).setCell ⟨g,24,none⟩ (ZW true))).heap[g]?=some (.cells (ncells p b true 0).toArray 60 (0,0)) from (row_setL (row_setL (row_setL (row_setL (row_setL (row_setL (row_setL (row_setL (row_setL (row_setL (row_setL (row_setL hrow 13 (ZY E0)) 14 (ZY E0)) 15 (ZZ ZS 0)) 16 (nil)) 17 (ZW false)) 18 (nil)) 19 (nil)) 11 (ZZ ZS 0)) 20 (ZZ ZS 0)) 21 (ZZ ZS 0)) 23 (ZW false)) 24 (ZW true)))
 have HK1:=BN (show Keeps [some g] w ((((((((((((w.setCell ⟨g,13,none⟩ (ZY E0)).setCell ⟨g,14,none⟩ (ZY E0)).setCell ⟨g,15,none⟩ (ZZ ZS 0)).setCell ⟨g,16,none⟩ (nil)).setCell ⟨g,17,none⟩ (ZW false)).setCell ⟨g,18,none⟩ (nil)).setCell ⟨g,19,none⟩ (nil)).setCell ⟨g,11,none⟩ (ZZ ZS 0)).setCell ⟨g,20,none⟩ (ZZ ZS 0)).setCell ⟨g,21,none⟩ (ZZ ZS 0)).setCell ⟨g,23,none⟩ (ZW false)).setCell ⟨g,24,none⟩ (ZW true)) from ((((((((((((BF (L:= [some g]) g 13 (ZY E0) (by simp)).trans (BF (L:= [some g]) g 14 (ZY E0) (by simp)) DT).trans (BF (L:= [some g]) g 15 (ZZ ZS 0) (by simp)) DT).trans (BF (L:= [some g]) g 16 (nil) (by simp)) DT).trans (BF (L:= [some g]) g 17 (ZW false) (by simp)) DT).trans (BF (L:= [some g]) g 18 (nil) (by simp)) DT).trans (BF (L:= [some g]) g 19 (nil) (by simp)) DT).trans (BF (L:= [some g]) g 11 (ZZ ZS 0) (by simp)) DT).trans (BF (L:= [some g]) g 20 (ZZ ZS 0) (by simp)) DT).trans (BF (L:= [some g]) g 21 (ZZ ZS 0) (by simp)) DT).trans (BF (L:= [some g]) g 23 (ZW false) (by simp)) DT).trans (BF (L:= [some g]) g 24 (ZW true) (by simp)) DT));have c11:=row_cellL hrow (k:=11) rfl;have z11:=Dy hrow 11;have c13:=row_cellL hrow (k:=13) rfl;have z13:=Dy hrow 13;have c14:=row_cellL hrow (k:=14) rfl;have z14:=Dy hrow 14;have c15:=row_cellL hrow (k:=15) rfl;have z15:=Dy hrow 15;have c16:=row_cellL hrow (k:=16) rfl;have z16:=Dy hrow 16;have c17:=row_cellL hrow (k:=17) rfl;have z17:=Dy hrow 17;have c18:=row_cellL hrow (k:=18) rfl;have z18:=Dy hrow 18;have c19:=row_cellL hrow (k:=19) rfl;have z19:=Dy hrow 19;have c20:=row_cellL hrow (k:=20) rfl;have z20:=Dy hrow 20;have c21:=row_cellL hrow (k:=21) rfl;have z21:=Dy hrow 21;have c23:=row_cellL hrow (k:=23) rfl;have z23:=Dy hrow 23;have c24:=row_cellL hrow (k:=24) rfl;have z24:=Dy hrow 24;have HB:=BN hB;have HZ:=BN hz;clear hrow hB hlt hz;go_enter Tryz.func74,Tryz.ntmps74;go_upto_region 1 with fail
 generalize ((((((((((((w.setCell ⟨g,13,none⟩ (ZY E0)).setCell ⟨g,14,none⟩ (ZY E0)).setCell ⟨g,15,none⟩ (ZZ ZS 0)).setCell ⟨g,16,none⟩ (nil)).setCell ⟨g,17,none⟩ (ZW false)).setCell ⟨g,18,none⟩ (nil)).setCell ⟨g,19,none⟩ (nil)).setCell ⟨g,11,none⟩ (ZZ ZS 0)).setCell ⟨g,20,none⟩ (ZZ ZS 0)).setCell ⟨g,21,none⟩ (ZZ ZS 0)).setCell ⟨g,23,none⟩ (ZW false)).setCell ⟨g,24,none⟩ (ZW true))=W1 at *;clear c13 z13 c14 z14 c15 z15 c16 z16 c17 z17 c18 z18 c19 z19 c11 z11 c20 z20 c21 z21 c23 z23 c24 z24
 have HRD:=BN (show (W1.drewN 1).heap[g]?=some (.cells (ncells p b true 0).toArray 60 (0,0)) from HR1.out)
 have HQ:=BN (show El (W1.drewN 1) g (ncells p b true 0) from ⟨λ_ _ hu=>row_cellL HRD.out hu,λk _=>Dy HRD.out k,Ln.row_lt HRD.out⟩)
 have HBW:=BN (show B<=(W1.drewN 1).heap.size from D7 HB.out (D4 (Ln.row_lt HRD.out)));refine Each.region 11 [21,22,23,24,25,26,27,28,29,30,31] [eP g 0,eP g 0,eP g 0,eP g 0,eQ (ZZ ZQ (p:Int)),eP g 0,eP g 0,eP g 1,eP g 1,eQ (ZZ ZS b.x0),λv w=>∃q1,v=ptr q1/\W1.heap.size<=q1/\Ln.Rr w B.b q1 nil p (nl p (b.x0))] (.quiet 11 (.quiet 12 (.act 13 .done))) (by kernel_rfl) (by kernel_rfl) (by kernel_rfl) (by kernel_rfl) (λ_ _ d _ _ h=>by cases d<;>exact h) (by rfl) (by rfl) ⟨AT _,AT _,AT _,AT _,AT _,AT _,AT _,AT _,AT _,AT _,((λ_ _ _ hb h=>by obtain ⟨q1,e1,h1,h2⟩:=h;exact ⟨q1,e1,h1,rr_below h2 hb⟩)),trivial⟩ ?_ ?_
 ·refine ⟨?_,?_,?_,?_,?_,?_,?_,?_,?_,?_,?_,trivial⟩
  ·exact XXSdZ
  ·exact XXSdZ
  ·exact XXSdZ
  ·exact XXSdZ
  ·exact XXSdZ
  ·exact XXSdZ
  ·exact XXSdZ
  ·exact XXSdZ
  ·exact XXSdZ
  ·exact XXSdZ
  ·refine AY rfl (λev w1 hR hb hh=>?_);have e25:ev (.tmp 25)= _:=hh.at 0;have e30:ev (.tmp 30)= _:=hh.at 1;clear hh;have ef:=hR.func
   refine AP 116 #[ZZ ZQ (p:Int),ZZ ZS (b.x0)] (by go_simp) ((rnew_line B.b (b.x0) w1 (D7 HBW.out hb.size)).mono ?_);rintro r w2 ⟨q1,rfl,h1,h2,hb2⟩;exact ⟨_,rfl,hb2,q1,rfl,D7 hb.size h1,h2⟩
 intro g1 w2 hb hf;have z21:g1 21= _:=hf.at 0;have z31:=hf.at 10;clear hf;obtain ⟨q1,e1,hq1,hr1⟩:=z31;simp only [Be,Ab,Di,Dl,Dk];rw [e1,z21];simp only [Fk,Fl,Cz,Cy];refine Fm (by rfl) (ptr g) (λ_ _=>by go_simp) ?_;simp only [Ab,Di,Dl,Dk];refine Fm (by rfl) (ZV (some ⟨g,12,none⟩)) (λ_ _=>by go_simp) ?_;simp only [Ab,Di,Dl,Dk];have hrow2:=(hb.block g (Ln.row_lt HR1.out)).trans HR1.out;have c12:=row_cellL hrow2 (k:=12) rfl;have z12:=Dy hrow2 12
 refine Fi (by rfl) (λK hK=>?_);go_simp;refine hK _ _ trivial ?_;clear hK K;refine Fj ?_;have HR2:=BN hrow2;have HRR:=BN hr1;have HQ1:=BN hq1;have HB2:=BN hb;clear HQ HBW HRD hr1 hq1 hrow2 c12 z12 hb;go_wp2;go_end0;have hgq:g≠q1:=by have:=Ln.row_lt HR1.out;have:=HQ1.out;omega
 have hk:Keeps [some g] w2 (w2.setCell ⟨g,12,none⟩ (ptr q1)):=BF g 12 _ (by simp);refine ⟨rfl,q1,⟨row_setL HR2.out 12 (ptr q1),⟨⟨hk.row HRR.out.row (by simpa using λe=>hgq e.symm),hk.own HRR.out.own (by simp [Value.ownBlock]),HRR.out.ge,HRR.out.ne⟩,Hp _ _ _ _,Hp _ _ _ _,Hp _ _ _ _,⟨[],rfl,(by intro x hx;cases hx),Hp _ _ _ _⟩,?_,HB.out,by have:=Ln.row_lt HR2.out;simpa using this,by rw [HZ.out];exact Clear.nil⟩⟩,(HK1.out.trans (BD HB2.out) DT).trans hk DT⟩;intro i j k hi hj;rcases i with _ | _ | _ | _ | _ | _ | _ | i<;>rcases j with _ | _ | _ | _ | _ | _ | _ | j<;>simp [Value.ownBlock] at hi hj ⊢<;>omega
theorem fine_new (p:Nat) (b:Bd):(Pg.Q.new p b).Fine b:=fine_of (Pg.Q.new_ok p b)
theorem XX9L8 {P:Prop} (h:P:=by
 clear x0 x1 x2 x3 x4 x5 x6 x7 x8 x9;go_wp2_with fail;go_ret
 exact KEY.out W0 _ (Al HB4.out HB3.out) HG.out (D8 HLT.out HB3.out.size) HR5.out):P:=h
theorem dnew_any (hp:p<4294967296) (w:World):Calls Gq 19 #[ZZ ZQ (p:Int),ZU #[ZZ ZS b.x0,ZZ ZS b.x1,ZZ ZS b.x2,ZZ ZS b.x3,ZZ ZS b.x4,ZZ ZS b.x5,ZZ ZS b.x6,ZZ ZS b.x7,ZW b.ch,ZW b.od]] w λr w'=>
 ∃g L',r=.returned (ptr g)/\w.heap.size<=g/\DQ w' ⟨w.heap.size,[]⟩ g p b L' (Pg.Q.new p b)/\Below w.heap.size w w':=by
 have hqr:=λw=>Qk.rright_any p hp w;have hbr:=λw=>Bnd.rright_any b.x0 b.x1 b.x2 b.x3 b.x4 b.x5 b.x6 b.x7 b.ch b.od w
 have HB0:=BN (((Ao _ _).alloc (D5 _) (.cells #[ZZ ZS b.x0,ZZ ZS b.x1,ZZ ZS b.x2,ZZ ZS b.x3,ZZ ZS b.x4,ZZ ZS b.x5,ZZ ZS b.x6,ZZ ZS b.x7,ZW b.ch,ZW b.od] 29)):Below w.heap.size w _)
 have HZ0:=BN (Em w w.heap.size rfl 29 [ZZ ZS b.x0,ZZ ZS b.x1,ZZ ZS b.x2,ZZ ZS b.x3,ZZ ZS b.x4,ZZ ZS b.x5,ZZ ZS b.x6,ZZ ZS b.x7,ZW b.ch,ZW b.od])
 have HSZ:=BN (show w.heap.size<(w.alloc (.cells #[ZZ ZS b.x0,ZZ ZS b.x1,ZZ ZS b.x2,ZZ ZS b.x3,ZZ ZS b.x4,ZZ ZS b.x5,ZZ ZS b.x6,ZZ ZS b.x7,ZW b.ch,ZW b.od] 29)).heap.size by simp)
 have HSIM:=BN (Pg.new_sim (p:=p) (b:=b));have HFI:=BN (fine_new p b);have hnew:Pg.Q.new p b=if (b.right&&decide (p<1073741824))=true then .live (Pg.T.new p b) else .dead 20 []:=rfl
 have hsn:S.new p b=if (b.right&&decide (p<1073741824))=true then ⟨0,nl p b.x0,zero,0,0,0,false,true,0,[]⟩ else ⟨0,nl p b.x0,zero,0,0,0,false,false,20,[]⟩:=rfl
 generalize Pg.Q.new p b=X at HSIM HFI hnew ⊢;generalize S.new p b=s0 at HSIM hsn;have good:b.right=true->p<1073741824->s0=⟨0,nl p b.x0,zero,0,0,0,false,true,0,[]⟩:=λh1 h2=>by rw [hsn,if_pos (by rw [h1,decide_eq_true h2];rfl)]
 have bad:¬(b.right=true/\p<1073741824)->s0=⟨0,nl p b.x0,zero,0,0,0,false,false,20,[]⟩:=λh=>by rw [hsn,if_neg (by simpa using h)]
 clear hnew hsn;by_cases hok:b.right=true/\p<1073741824
 ·have es:=good hok.1 hok.2;subst es;rw [decide_eq_true hok.2] at hqr;rw [show Bnd.right b.x0 b.x1 b.x2 b.x3 b.x4 b.x5 b.x6 b.x7=true from hok.1] at hbr;have HQR:=BN hqr;have HBR:=BN hbr;clear hqr hbr good bad hok;go_enter Tryz.func19,Tryz.ntmps19;go_upto_region 1 with fail
  generalize w.alloc (.cells #[ZZ ZS b.x0,ZZ ZS b.x1,ZZ ZS b.x2,ZZ ZS b.x3,ZZ ZS b.x4,ZZ ZS b.x5,ZZ ZS b.x6,ZZ ZS b.x7,ZW b.ch,ZW b.od] 29)=W0 at *;have y0:=HZ0.out.c 0 _ rfl;have y1:=HZ0.out.c 1 _ rfl;have y2:=HZ0.out.c 2 _ rfl;have y3:=HZ0.out.c 3 _ rfl;have y4:=HZ0.out.c 4 _ rfl;have y5:=HZ0.out.c 5 _ rfl;have y6:=HZ0.out.c 6 _ rfl;have y7:=HZ0.out.c 7 _ rfl;have y8:=HZ0.out.c 8 _ rfl;have y9:=HZ0.out.c 9 _ rfl
  have HG:=BN (D4 HSZ.out)
  have HR4:=BN (heap_alloc_new W0 (.cells #[ZZ ZQ (p:Int),ZZ ZS b.x0,ZZ ZS b.x1,ZZ ZS b.x2,ZZ ZS b.x3,ZZ ZS b.x4,ZZ ZS b.x5,ZZ ZS b.x6,ZZ ZS b.x7,ZW b.ch,ZW b.od,ZZ ZS 0,ZV none,ZY E0,ZY E0,ZZ ZS 0,nil,ZW false,nil,nil,ZZ ZS 0,ZZ ZS 0,ZZ ZS 0,ZW false,ZW true,ZZ ZS 0,nil] 60))
  have HB4:=BN (HB0.out.alloc HG.out (.cells #[ZZ ZQ (p:Int),ZZ ZS b.x0,ZZ ZS b.x1,ZZ ZS b.x2,ZZ ZS b.x3,ZZ ZS b.x4,ZZ ZS b.x5,ZZ ZS b.x6,ZZ ZS b.x7,ZW b.ch,ZW b.od,ZZ ZS 0,ZV none,ZY E0,ZY E0,ZZ ZS 0,nil,ZW false,nil,nil,ZZ ZS 0,ZZ ZS 0,ZZ ZS 0,ZW false,ZW true,ZZ ZS 0,nil] 60))
  have HX4:=BN (HZ0.out.alloc (.cells #[ZZ ZQ (p:Int),ZZ ZS b.x0,ZZ ZS b.x1,ZZ ZS b.x2,ZZ ZS b.x3,ZZ ZS b.x4,ZZ ZS b.x5,ZZ ZS b.x6,ZZ ZS b.x7,ZW b.ch,ZW b.od,ZZ ZS 0,ZV none,ZY E0,ZY E0,ZZ ZS 0,nil,ZW false,nil,nil,ZZ ZS 0,ZZ ZS 0,ZZ ZS 0,ZW false,ZW true,ZZ ZS 0,nil] 60))
  have HLT:=BN (show W0.heap.size<(W0.alloc (.cells #[ZZ ZQ (p:Int),ZZ ZS b.x0,ZZ ZS b.x1,ZZ ZS b.x2,ZZ ZS b.x3,ZZ ZS b.x4,ZZ ZS b.x5,ZZ ZS b.x6,ZZ ZS b.x7,ZW b.ch,ZW b.od,ZZ ZS 0,ZV none,ZY E0,ZY E0,ZZ ZS 0,nil,ZW false,nil,nil,ZZ ZS 0,ZZ ZS 0,ZZ ZS 0,ZW false,ZW true,ZZ ZS 0,nil] 60)).heap.size by simp);go_upto_region 2 with fail
  generalize hgg:W0.heap.size=g at *;generalize W0.alloc (.cells #[ZZ ZQ (p:Int),ZZ ZS b.x0,ZZ ZS b.x1,ZZ ZS b.x2,ZZ ZS b.x3,ZZ ZS b.x4,ZZ ZS b.x5,ZZ ZS b.x6,ZZ ZS b.x7,ZW b.ch,ZW b.od,ZZ ZS 0,ZV none,ZY E0,ZY E0,ZZ ZS 0,nil,ZW false,nil,nil,ZZ ZS 0,ZZ ZS 0,ZZ ZS 0,ZW false,ZW true,ZZ ZS 0,nil] 60)=W2 at *;clear y0 y1 y2 y3 y4 y5 y6 y7 y8 y9;have x0:=HX4.out.c 0 _ rfl;have x1:=HX4.out.c 1 _ rfl;have x2:=HX4.out.c 2 _ rfl;have x3:=HX4.out.c 3 _ rfl;have x4:=HX4.out.c 4 _ rfl;have x5:=HX4.out.c 5 _ rfl;have x6:=HX4.out.c 6 _ rfl;have x7:=HX4.out.c 7 _ rfl;have x8:=HX4.out.c 8 _ rfl;have x9:=HX4.out.c 9 _ rfl
  go_wp2_with (first
   |(go_at_call 74;with_reducible refine (next_new (B:=⟨w.heap.size,[]⟩) HR5.out HG.out rfl).mono ?_;rintro r w5 ⟨rfl,q1,hP,hK⟩)
   |(go_at_call 73;with_reducible refine Cm (HQR.out _) ?_)
   |(go_at_call 52;with_reducible refine (HBR.out _).mono ?_;rintro r w3 ⟨rfl,hb3⟩
     have HB3:=BN hb3
     have HR5:=BN ((hb3.block g HLT.out).trans HR4.out);clear hb3))
  go_ret;have hbw:=Al HB4.out HB3.out;exact ⟨g,_,rfl,HG.out,⟨_,HSIM.out,HFI.out,.inl ⟨q1,nil,nil,nil,nil,rfl,⟨nil,hP.row⟩,hP.own⟩⟩,hbw.trans (hK.below hbw.size (λk hk=>by rw [DX.inj (Dc.1 hk)];exact HG.out))⟩
 ·have es:=bad hok;subst es;have hbr':b.right=false∨(b.right=true/\decide (p<1073741824)=false):=by
   cases h:b.right with
   | false=>exact .inl rfl
   | true=>exact .inr ⟨rfl,decide_eq_false λe=>hok ⟨h,e⟩⟩
  clear good bad hok;have HQR:=BN hqr;have HBR:=BN hbr;clear hqr hbr;have key:∀(W0:World) (W:World),Below w.heap.size w W->w.heap.size<=W0.heap.size->W0.heap.size<W.heap.size->W.heap[W0.heap.size]?=some (.cells (ncells p b true 0).toArray 60 (0,0))->
   ∃g L',(Ending.returned (ptr W0.heap.size))=.returned (ptr g)/\w.heap.size<=g/\DQ ((W.setCell ⟨W0.heap.size,25,none⟩ (ZZ ZS 20)).setCell ⟨W0.heap.size,24,none⟩ (ZW false)) ⟨w.heap.size,[]⟩ g p b L' X/\Below w.heap.size w ((W.setCell ⟨W0.heap.size,25,none⟩ (ZZ ZS 20)).setCell ⟨W0.heap.size,24,none⟩ (ZW false)):=by
   intro W0 W hb hg hlt hr;have hk:Keeps [some W0.heap.size] W ((W.setCell ⟨W0.heap.size,25,none⟩ (ZZ ZS 20)).setCell ⟨W0.heap.size,24,none⟩ (ZW false)):=(BF _ 25 _ (by simp)).trans (BF _ 24 _ (by simp)) DT;exact ⟨W0.heap.size,[some W0.heap.size],rfl,hg,⟨_,HSIM.out,HFI.out,.inr ⟨rfl,row_setL (row_setL hr 25 (ZZ ZS 20)) 24 (ZW false),rfl,rfl,rfl,hg,Clear.nil⟩⟩,hb.trans (hk.below hb.size (λk hk=>by rw [DX.inj (Dc.1 hk)];exact hg))⟩
  have KEY:=BN key;clear key HSIM HFI;rcases hbr' with h1 | ⟨h1,h2⟩
  ·rw [show Bnd.right b.x0 b.x1 b.x2 b.x3 b.x4 b.x5 b.x6 b.x7=false from h1] at HBR;clear HQR h1;go_enter Tryz.func19,Tryz.ntmps19;go_upto_region 1 with fail
   generalize w.alloc (.cells #[ZZ ZS b.x0,ZZ ZS b.x1,ZZ ZS b.x2,ZZ ZS b.x3,ZZ ZS b.x4,ZZ ZS b.x5,ZZ ZS b.x6,ZZ ZS b.x7,ZW b.ch,ZW b.od] 29)=W0 at *;have y0:=HZ0.out.c 0 _ rfl;have y1:=HZ0.out.c 1 _ rfl;have y2:=HZ0.out.c 2 _ rfl;have y3:=HZ0.out.c 3 _ rfl;have y4:=HZ0.out.c 4 _ rfl;have y5:=HZ0.out.c 5 _ rfl;have y6:=HZ0.out.c 6 _ rfl;have y7:=HZ0.out.c 7 _ rfl;have y8:=HZ0.out.c 8 _ rfl;have y9:=HZ0.out.c 9 _ rfl
   have HG:=BN (D4 HSZ.out)
   have HR4:=BN (heap_alloc_new W0 (.cells #[ZZ ZQ (p:Int),ZZ ZS b.x0,ZZ ZS b.x1,ZZ ZS b.x2,ZZ ZS b.x3,ZZ ZS b.x4,ZZ ZS b.x5,ZZ ZS b.x6,ZZ ZS b.x7,ZW b.ch,ZW b.od,ZZ ZS 0,ZV none,ZY E0,ZY E0,ZZ ZS 0,nil,ZW false,nil,nil,ZZ ZS 0,ZZ ZS 0,ZZ ZS 0,ZW false,ZW true,ZZ ZS 0,nil] 60))
   have HB4:=BN (HB0.out.alloc HG.out (.cells #[ZZ ZQ (p:Int),ZZ ZS b.x0,ZZ ZS b.x1,ZZ ZS b.x2,ZZ ZS b.x3,ZZ ZS b.x4,ZZ ZS b.x5,ZZ ZS b.x6,ZZ ZS b.x7,ZW b.ch,ZW b.od,ZZ ZS 0,ZV none,ZY E0,ZY E0,ZZ ZS 0,nil,ZW false,nil,nil,ZZ ZS 0,ZZ ZS 0,ZZ ZS 0,ZW false,ZW true,ZZ ZS 0,nil] 60))
   have HX4:=BN (HZ0.out.alloc (.cells #[ZZ ZQ (p:Int),ZZ ZS b.x0,ZZ ZS b.x1,ZZ ZS b.x2,ZZ ZS b.x3,ZZ ZS b.x4,ZZ ZS b.x5,ZZ ZS b.x6,ZZ ZS b.x7,ZW b.ch,ZW b.od,ZZ ZS 0,ZV none,ZY E0,ZY E0,ZZ ZS 0,nil,ZW false,nil,nil,ZZ ZS 0,ZZ ZS 0,ZZ ZS 0,ZW false,ZW true,ZZ ZS 0,nil] 60))
   have HLT:=BN (show W0.heap.size<(W0.alloc (.cells #[ZZ ZQ (p:Int),ZZ ZS b.x0,ZZ ZS b.x1,ZZ ZS b.x2,ZZ ZS b.x3,ZZ ZS b.x4,ZZ ZS b.x5,ZZ ZS b.x6,ZZ ZS b.x7,ZW b.ch,ZW b.od,ZZ ZS 0,ZV none,ZY E0,ZY E0,ZZ ZS 0,nil,ZW false,nil,nil,ZZ ZS 0,ZZ ZS 0,ZZ ZS 0,ZW false,ZW true,ZZ ZS 0,nil] 60)).heap.size by simp);go_upto_region 2 with fail
   generalize W0.alloc (.cells #[ZZ ZQ (p:Int),ZZ ZS b.x0,ZZ ZS b.x1,ZZ ZS b.x2,ZZ ZS b.x3,ZZ ZS b.x4,ZZ ZS b.x5,ZZ ZS b.x6,ZZ ZS b.x7,ZW b.ch,ZW b.od,ZZ ZS 0,ZV none,ZY E0,ZY E0,ZZ ZS 0,nil,ZW false,nil,nil,ZZ ZS 0,ZZ ZS 0,ZZ ZS 0,ZW false,ZW true,ZZ ZS 0,nil] 60)=W2 at *;clear y0 y1 y2 y3 y4 y5 y6 y7 y8 y9;have x0:=HX4.out.c 0 _ rfl;have x1:=HX4.out.c 1 _ rfl;have x2:=HX4.out.c 2 _ rfl;have x3:=HX4.out.c 3 _ rfl;have x4:=HX4.out.c 4 _ rfl;have x5:=HX4.out.c 5 _ rfl;have x6:=HX4.out.c 6 _ rfl;have x7:=HX4.out.c 7 _ rfl;have x8:=HX4.out.c 8 _ rfl;have x9:=HX4.out.c 9 _ rfl;go_upto_region 3 with
    (go_at_call 52;with_reducible refine (HBR.out _).mono ?_;rintro r w3 ⟨rfl,hb3⟩
     have HB3:=BN hb3;have hr5:=(hb3.block _ HLT.out).trans HR4.out;have d25:=row_cellL hr5 (k:=25) rfl;have e25:=Dy hr5 25;have d24:=row_cellL hr5 (k:=24) rfl;have e24:=Dy hr5 24;have HR5:=BN hr5;clear hb3 hr5)
   exact XX9L8
  ·rw [show Bnd.right b.x0 b.x1 b.x2 b.x3 b.x4 b.x5 b.x6 b.x7=true from h1] at HBR;rw [h2] at HQR;clear h1 h2;go_enter Tryz.func19,Tryz.ntmps19;go_upto_region 1 with fail
   generalize w.alloc (.cells #[ZZ ZS b.x0,ZZ ZS b.x1,ZZ ZS b.x2,ZZ ZS b.x3,ZZ ZS b.x4,ZZ ZS b.x5,ZZ ZS b.x6,ZZ ZS b.x7,ZW b.ch,ZW b.od] 29)=W0 at *;have y0:=HZ0.out.c 0 _ rfl;have y1:=HZ0.out.c 1 _ rfl;have y2:=HZ0.out.c 2 _ rfl;have y3:=HZ0.out.c 3 _ rfl;have y4:=HZ0.out.c 4 _ rfl;have y5:=HZ0.out.c 5 _ rfl;have y6:=HZ0.out.c 6 _ rfl;have y7:=HZ0.out.c 7 _ rfl;have y8:=HZ0.out.c 8 _ rfl;have y9:=HZ0.out.c 9 _ rfl
   have HG:=BN (D4 HSZ.out)
   have HR4:=BN (heap_alloc_new W0 (.cells #[ZZ ZQ (p:Int),ZZ ZS b.x0,ZZ ZS b.x1,ZZ ZS b.x2,ZZ ZS b.x3,ZZ ZS b.x4,ZZ ZS b.x5,ZZ ZS b.x6,ZZ ZS b.x7,ZW b.ch,ZW b.od,ZZ ZS 0,ZV none,ZY E0,ZY E0,ZZ ZS 0,nil,ZW false,nil,nil,ZZ ZS 0,ZZ ZS 0,ZZ ZS 0,ZW false,ZW true,ZZ ZS 0,nil] 60))
   have HB4:=BN (HB0.out.alloc HG.out (.cells #[ZZ ZQ (p:Int),ZZ ZS b.x0,ZZ ZS b.x1,ZZ ZS b.x2,ZZ ZS b.x3,ZZ ZS b.x4,ZZ ZS b.x5,ZZ ZS b.x6,ZZ ZS b.x7,ZW b.ch,ZW b.od,ZZ ZS 0,ZV none,ZY E0,ZY E0,ZZ ZS 0,nil,ZW false,nil,nil,ZZ ZS 0,ZZ ZS 0,ZZ ZS 0,ZW false,ZW true,ZZ ZS 0,nil] 60))
   have HX4:=BN (HZ0.out.alloc (.cells #[ZZ ZQ (p:Int),ZZ ZS b.x0,ZZ ZS b.x1,ZZ ZS b.x2,ZZ ZS b.x3,ZZ ZS b.x4,ZZ ZS b.x5,ZZ ZS b.x6,ZZ ZS b.x7,ZW b.ch,ZW b.od,ZZ ZS 0,ZV none,ZY E0,ZY E0,ZZ ZS 0,nil,ZW false,nil,nil,ZZ ZS 0,ZZ ZS 0,ZZ ZS 0,ZW false,ZW true,ZZ ZS 0,nil] 60))
   have HLT:=BN (show W0.heap.size<(W0.alloc (.cells #[ZZ ZQ (p:Int),ZZ ZS b.x0,ZZ ZS b.x1,ZZ ZS b.x2,ZZ ZS b.x3,ZZ ZS b.x4,ZZ ZS b.x5,ZZ ZS b.x6,ZZ ZS b.x7,ZW b.ch,ZW b.od,ZZ ZS 0,ZV none,ZY E0,ZY E0,ZZ ZS 0,nil,ZW false,nil,nil,ZZ ZS 0,ZZ ZS 0,ZZ ZS 0,ZW false,ZW true,ZZ ZS 0,nil] 60)).heap.size by simp);go_upto_region 2 with fail
   generalize W0.alloc (.cells #[ZZ ZQ (p:Int),ZZ ZS b.x0,ZZ ZS b.x1,ZZ ZS b.x2,ZZ ZS b.x3,ZZ ZS b.x4,ZZ ZS b.x5,ZZ ZS b.x6,ZZ ZS b.x7,ZW b.ch,ZW b.od,ZZ ZS 0,ZV none,ZY E0,ZY E0,ZZ ZS 0,nil,ZW false,nil,nil,ZZ ZS 0,ZZ ZS 0,ZZ ZS 0,ZW false,ZW true,ZZ ZS 0,nil] 60)=W2 at *;clear y0 y1 y2 y3 y4 y5 y6 y7 y8 y9;have x0:=HX4.out.c 0 _ rfl;have x1:=HX4.out.c 1 _ rfl;have x2:=HX4.out.c 2 _ rfl;have x3:=HX4.out.c 3 _ rfl;have x4:=HX4.out.c 4 _ rfl;have x5:=HX4.out.c 5 _ rfl;have x6:=HX4.out.c 6 _ rfl;have x7:=HX4.out.c 7 _ rfl;have x8:=HX4.out.c 8 _ rfl;have x9:=HX4.out.c 9 _ rfl
   go_upto_region 3 with (first
    |(go_at_call 73;with_reducible refine Cm (HQR.out _) ?_)
    |(go_at_call 52;with_reducible refine (HBR.out _).mono ?_;rintro r w3 ⟨rfl,hb3⟩
      have HB3:=BN hb3;have hr5:=(hb3.block _ HLT.out).trans HR4.out;have d25:=row_cellL hr5 (k:=25) rfl;have e25:=Dy hr5 25;have d24:=row_cellL hr5 (k:=24) rfl;have e24:=Dy hr5 24;have HR5:=BN hr5;clear hb3 hr5))
   exact XX9L8
theorem dclean_any (h:DQ w B g p b L x):Calls Gq 29 #[ptr g] w λr w'=>r=.returned (ZW x.clean)/\w'=w:=by have c24:=h.cl;clear h;generalize x.clean=cl at *;go_enter Tryz.func29,Tryz.ntmps29;go_wp2;go_ret;exact ⟨rfl,rfl⟩
end
end Go.Proofs.YtnabkcglnbdfeaaGreatDoor.Par
namespace Go.Proofs.YtnabkcglnbdfeaaGreatDoor.Par
open Go.RowKit Base Txt Mem Each
section
set_option maxHeartbeats 4000000
set_option maxRecDepth 20000
attribute [local go_sem] An
variable {w:World} {B:Zone} {g q:Nat} {v f bd t o:Value} {p:Nat} {b:Bd} {s:S} {x:Pg.Q} {L:List (Option Nat)}
theorem dfeed_any (hp:p<4294967296) (h:DQ w B g p b L x) (xo:x.out= []) (a:Option Addr) (ca:Nat) (ls:List (List UInt8)) (hl:Pg.Parts L w a ls) (hn:ls.length<=1000000) (hout:2*ls.flatten.length<=999999998) :
 Calls Gq 21 #[ptr g,.slice a ls.length ca] w λr w'=>∃o L',r=.returned o/\DQ w' B g p b L' (x.feed p b ls.flatten).told/\Pg.Told L' B w' o (x.feed p b ls.flatten).out/\Step L L' w w':=by
 obtain ⟨s,hr,ok,hd⟩:=h;have ho:s.out= []:=(Pg.said_sim hr ok).2.1.trans xo;obtain ⟨z26,⟨o0,c26⟩,hrun,hst⟩:=hd.start ho;have HR:=BN hr;have HOK:=BN ok;have HU:=BN hrun;have HS0:=BN hst;have HL:=BN (hl.step hst);have HOU:=BN hout;have HXO:=BN xo;obtain ⟨n,hnn⟩:∃n,ls.length=n:=⟨_,rfl⟩;have HN:=BN hnn;have hn1:n<=1000000:=by omega
 rw [hnn];clear hd hr ok hrun hst hl hout xo ho hn hnn;go_enter Tryz.func21,Tryz.ntmps21;go_upto_region 3 with fail
 generalize w.setCell ⟨g,26,none⟩ nil=W1 at *;clear z26 c26
 go_loopw [5] (λi wr=>∃k:Nat,k<=n/\i=ZZ ZS k/\Hid (∃Lr,Run wr B g p b Lr (s.feed p b (ls.take k).flatten)/\Step L Lr W1 wr)) (λi _=>n-(intOf i).toNat)
 case atStart=>exact ⟨0,DC _,rfl,BN ⟨L,HU.out,Step.refl⟩⟩
 case round=>
  obtain ⟨k,hk,rfl,hR⟩:=hrel;rcases D9 k n with hlt | hge
  ·obtain ⟨Lr,hA,hS⟩:=hR.out;have hkl:k<ls.length:=by rw [HN.out];exact hlt
   obtain ⟨bk,off,rfl, -, -, -⟩:=HL.out.cells (by omega);have htk:(ls.take (k+1)).flatten=(ls.take k).flatten++ls[k]:=by rw [Dq hkl,List.flatten_append];simp
   have hsum:(ls.take (k+1)).flatten.length<=ls.flatten.length:=by exact XX086
   rw [htk,CG] at hsum;have t1:(k:Int)<(n:Int):=by omega
   have HTK:=BN htk;obtain ⟨pl,hpl⟩:∃pl,ls[k]=pl:=⟨_,rfl⟩;rw [hpl] at hsum HTK;obtain ⟨m,hm⟩:∃m,pl.length=m:=⟨_,rfl⟩;rw [hm] at hsum;have HM:=BN hm;obtain ⟨q0,hq0⟩:∃q0,(ls.take k).flatten=q0:=⟨_,rfl⟩;rw [hq0] at hA hsum HTK;have hsum2:2*(q0.length+m)<=999999998:=by have:=HOU.out;omega
   have HSUM:=BN hsum2;have hm9:m<=1000000000:=by omega
   have HCE:=BN (show∀(wq:World) (Lq:List (Option Nat)),Step L Lq W1 wq->∃ak ck,wq.cell? ⟨bk,off+k,none⟩=some (.slice ak m ck)/\Pg.Bts Lq wq ak pl from λwq Lq hS=>by obtain ⟨bk',off',e, -, -,hc⟩:=(HL.out.step hS).cells (by omega);cases e;obtain ⟨ak,ck,h1,h2⟩:=hc k hkl;rw [hpl,hm] at h1;rw [hpl] at h2;exact ⟨ak,ck,h1,h2⟩)
   have HA:=BN hA;have HS:=BN hS;clear hA hS hsum hsum2 htk hpl hm hR hq0 hkl;go_upto_region 6 with fail
   go_loopw [6] (λj wq=>∃i:Nat,i<=m/\j=ZZ ZS i/\Hid (∃Lq,Run wq B g p b Lq (s.feed p b (q0++pl.take i))/\Step L Lq W1 wq)) (λj _=>m-(intOf j).toNat)
   case atStart=>exact ⟨0,DC _,rfl,BN ⟨Lr,by rw [List.take_zero,Cb];exact HA.out,HS.out⟩⟩
   case round=>
    obtain ⟨i,hi,rfl,hR2⟩:=hrel;rcases D9 i m with hilt | hige
    ·obtain ⟨Lq,hA2,hS2⟩:=hR2.out;have hil:i<pl.length:=by rw [HM.out];exact hilt
     obtain ⟨ak,ck,hcell,hbt⟩:=HCE.out _ _ hS2
     obtain ⟨zb,zo,rfl,hzb,hz⟩:=hbt.nums.2 (by omega);have hbyte:=hz i hil;have hti:pl.take (i+1)=pl.take i ++ [pl[i]]:=Dq hil;have hgi:(pl.map λc=>(c.toNat:Int))[i]?.getD 0=(pl[i].toNat:Int):=by simp [hil]
     rw [hgi] at hbyte;have HTI:=BN hti;obtain ⟨c,hc⟩:∃c,pl[i]=c:=⟨_,rfl⟩;rw [hc] at hbyte HTI;have t2:(i:Int)<(m:Int):=by omega
     obtain ⟨hr3,ok3⟩:=Pg.feed_sim (q0++pl.take i) HR.out HOK.out;have hou3:(s.feed p b (q0++pl.take i)).out.length<=999999998:=by rw [(Pg.said_sim hr3 ok3).2.1];have h1:=Pg.Q.feed_out (p:=p) (b:=b) (q0++pl.take i) x;have h2:=HSUM.out;rw [HXO.out,CG,CO] at h1;simp only [List.length_nil] at h1;omega
     have HTA:=BN (byteRun_any hp c hA2 hr3 ok3 hou3);have HS2:=BN hS2;clear hA2 hS2 hz hzb hti hgi hc hr3 ok3 hou3 hR2 hbt
     go_wp2_with (go_at_call 76;with_reducible refine HTA.out.mono ?_;rintro r w5 ⟨rfl,L5,hA5,hS5⟩);go_roundw
     case rel=>exact ⟨i+1,by omega,by go_num,BN ⟨L5,by rw [HTI.out,←List.append_assoc,S.feed_app];exact hA5,HS2.out.trans hS5⟩⟩
     case measure=>simp [intOf];omega
    ·obtain rfl:i=m:=by omega
     have t2:¬(i:Int)<(i:Int):=by omega
     obtain ⟨Lq,hA2,hS2⟩:=hR2.out;obtain ⟨ak,ck,hcell,hbt⟩:=HCE.out _ _ hS2
     have e:pl.take i=pl:=Dp (by rw [HM.out];exact D5 _);rw [e,←HTK.out] at hA2;have HA2:=BN hA2;have HS2:=BN hS2;clear hA2 hS2 e hR2 hbt;exact XXMED
  ·obtain rfl:k=n:=by omega
   have t1:¬(k:Int)<(k:Int):=by omega
   obtain ⟨Lr,hA,hS⟩:=hR.out
   have e:ls.take k=ls:=Dp (by rw [HN.out];exact D5 _);rw [e] at hA;obtain ⟨o,L2,c26,hA2,hT2,hS2⟩:=hA.tell;obtain ⟨hr3,ok3⟩:=Pg.feed_sim ls.flatten HR.out HOK.out;have e2:=(Pg.said_sim hr3 ok3).2.1;rw [e2] at hT2
   have HA2:=BN (show DQ wr B g p b L2 (x.feed p b ls.flatten).told from ⟨_,Pg.told_sim hr3,Pg.told_fine ok3,hA2.told⟩);have HT2:=BN hT2;have HS2:=BN ((HS0.out.trans hS).trans hS2);clear hA hS hR e hA2 hT2 hS2 hr3 ok3 e2;go_wp2_with fail;go_ret;exact ⟨o,rfl,L2,HA2.out,HT2.out,HS2.out⟩
theorem told_clean' (X:Pg.Q):X.told.clean=X.clean:=Pg.told_clean X
theorem told_err' (X:Pg.Q):X.told.err=X.err:=Pg.told_err X
theorem qnew_out:(Pg.Q.new p b).out= []:=by unfold Pg.Q.new;split<;>rfl
theorem XX5SR {P:Prop} (h:P:=by refine AY rfl (λev w1 hR hb hh=>?_);have e10:=hR.old 10 rfl;have e9:=hR.old 9 rfl;simp only [Ag,C6,Cy,Cz,DV] at e10 e9;have q25:=HDQ.out w1 hb;exact Each.std):P:=h
theorem dread_zone (hp:p<4294967296) (w:World) (Z:List (Option Nat)) (hz:∀k,some k∈Z->k<w.heap.size) (a:Option Addr) (c:Nat) (l:List UInt8) (hl:Pg.Bts [] w a l) (hn:l.length<=400000000):Calls Gq 31 #[ZZ ZQ (p:Int),ZU #[ZZ ZS b.x0,ZZ ZS b.x1,ZZ ZS b.x2,ZZ ZS b.x3,ZZ ZS b.x4,ZZ ZS b.x5,ZZ ZS b.x6,ZZ ZS b.x7,ZW b.ch,ZW b.od],.slice a l.length c] w λr w'=>
 ∃o L B0,r=.returned (ZT #[o,ZZ ZS ((Pg.Q.read p b l).err:Int),ZW (Pg.Q.read p b l).clean])/\Pg.Told L ⟨B0,Z⟩ w' o (Pg.Q.read p b l).out/\Below w.heap.size w w':=by
 have HB0:=BN (((Ao _ _).alloc (D5 _) (.cells #[ZZ ZS b.x0,ZZ ZS b.x1,ZZ ZS b.x2,ZZ ZS b.x3,ZZ ZS b.x4,ZZ ZS b.x5,ZZ ZS b.x6,ZZ ZS b.x7,ZW b.ch,ZW b.od] 29)):Below w.heap.size w _)
 have HZ0:=BN (Em w w.heap.size rfl 29 [ZZ ZS b.x0,ZZ ZS b.x1,ZZ ZS b.x2,ZZ ZS b.x3,ZZ ZS b.x4,ZZ ZS b.x5,ZZ ZS b.x6,ZZ ZS b.x7,ZW b.ch,ZW b.od])
 have HSZ:=BN (show w.heap.size<(w.alloc (.cells #[ZZ ZS b.x0,ZZ ZS b.x1,ZZ ZS b.x2,ZZ ZS b.x3,ZZ ZS b.x4,ZZ ZS b.x5,ZZ ZS b.x6,ZZ ZS b.x7,ZW b.ch,ZW b.od] 29)).heap.size by simp);have HL:=BN hl;have HN:=BN hn;have HZZ:=BN hz;unfold Pg.Q.read;obtain ⟨X,hX⟩:∃X,Pg.Q.feed p b (Pg.Q.new p b) l=X:=⟨_,rfl⟩;rw [hX];have HX:=BN hX;obtain ⟨m,hm⟩:∃m,l.length=m:=⟨_,rfl⟩;have HM:=BN hm;rw [hm];clear hl hn hm hX hz;go_enter Tryz.func31,Tryz.ntmps31;go_upto_region 1 with fail
 generalize w.alloc (.cells #[ZZ ZS b.x0,ZZ ZS b.x1,ZZ ZS b.x2,ZZ ZS b.x3,ZZ ZS b.x4,ZZ ZS b.x5,ZZ ZS b.x6,ZZ ZS b.x7,ZW b.ch,ZW b.od] 29)=W0 at *;have y0:=HZ0.out.c 0 _ rfl;have y1:=HZ0.out.c 1 _ rfl;have y2:=HZ0.out.c 2 _ rfl;have y3:=HZ0.out.c 3 _ rfl;have y4:=HZ0.out.c 4 _ rfl;have y5:=HZ0.out.c 5 _ rfl;have y6:=HZ0.out.c 6 _ rfl;have y7:=HZ0.out.c 7 _ rfl;have y8:=HZ0.out.c 8 _ rfl;have y9:=HZ0.out.c 9 _ rfl
 have HNW:=BN (dnew_any (b:=b) hp W0);go_upto_region 2 with
  (go_at_call 19;with_reducible refine HNW.out.mono ?_;rintro r w1 ⟨g,L1,rfl,hg,hA,hb1⟩
   have HG:=BN hg;have HA:=BN (hA.rezone (Z:=Z) ⟨(λk hk=>D8 (HZZ.out k hk) (D7 (D4 HSZ.out) hb1.size)),(λk hk hm=>by have h1:=hA.low k hk;have h2:=HZZ.out k hm;have h3:=HSZ.out;exact absurd h2 (Nat.not_lt.2 (D7 (D4 h3) h1)))⟩);have HB1:=BN hb1;clear hg hA hb1)
 have hlow:=HA.out.low;have hlA:Pg.Bts L1 w1 a l:=by refine ⟨HL.out.nums.below (Al HB0.out HB1.out),λad e=>?_⟩;have:=(HL.out.far ad e).2;refine ⟨λhm=>?_,D8 this (D7 (D4 HSZ.out) HB1.out.size)⟩;have:W0.heap.size<=ad.block:=hlow _ hm;have:=HSZ.out;omega
 have hpa:=Pg.Parts.one (c:=c) hlA HA.out.in 22;rw [HM.out] at hpa;have hb2:Below w1.heap.size w1 (w1.alloc (.cells #[.slice a m c] 22)):=(Ao _ _).alloc (D5 _) _
 have hfe:=dfeed_any hp (HA.out.below hb2) qnew_out (some ⟨w1.heap.size,0,none⟩) 1 [l] hpa (by simp) (by have h2:=HN.out;simp only [List.flatten_cons,List.flatten_nil,Cb];omega)
 have efl: [l].flatten=l:=by simp
 rw [efl] at hfe
 have HFE:=BN (show Calls Gq 21 #[ptr g,ZX (some ⟨w1.heap.size,0,none⟩) 1 1] (w1.alloc (.cells #[.slice a m c] 22)) λr w'=>∃o L',r=.returned o/\DQ w' ⟨W0.heap.size,Z⟩ g p b L' (Pg.Q.feed p b (Pg.Q.new p b) l).told/\Pg.Told L' ⟨W0.heap.size,Z⟩ w' o (Pg.Q.feed p b (Pg.Q.new p b) l).out/\Step L1 L' (w1.alloc (.cells #[.slice a m c] 22)) w' from hfe);have HLOW:=BN hlow
 have HB2:=BN (Al (Al HB0.out HB1.out) hb2);rw [HX.out] at HFE;clear hlA hpa hb2 hfe efl hlow y0 y1 y2 y3 y4 y5 y6 y7 y8 y9;go_upto_region 3 with
  (go_at_call 21;with_reducible refine HFE.out.mono ?_;rintro r w3 ⟨o,L',rfl,hA3,hT3,hS3⟩
   have HCL:=BN (λw4 (hb:Below (w3.drewN 1).heap.size (w3.drewN 1) w4)=>show Calls Gq 29 #[ptr g] w4 λr w'=>r=.returned (ZW X.clean)/\w'=w4 from told_clean' X ▸ dclean_any (hA3.below ((Ak (Ao _ _) 1).trans hb)))
   have HDQ:=BN (λw4 (hb:Below (w3.drewN 1).heap.size (w3.drewN 1) w4)=>show w4.cell? ⟨g,25,none⟩=some (ZZ ZS (X.err:Int)) from told_err' X ▸ (hA3.below ((Ak (Ao _ _) 1).trans hb)).e);have HT3:=BN hT3;have HS3:=BN hS3;clear hA3 hT3 hS3)
 refine Bg 10 [18,19,20,21,22,23,24,6,7,8] [eQ (o),eP g 0,eP g 0,eP g 25,eQ (ZZ ZS (X.err:Int)),eP g 0,eQ (ZW X.clean),eQ (o),eQ (ZZ ZS (X.err:Int)),eQ (ZW X.clean)] (by kernel_rfl) (by kernel_rfl) (by kernel_rfl) (by kernel_rfl) (λ_ _ d _ _ h=>by cases d<;>exact h) (by rfl) (by rfl) (by repeat first | exact trivial | refine ⟨AT _,?_⟩) ?_ ?_
 ·refine ⟨?_,?_,?_,?_,?_,?_,?_,?_,?_,?_,trivial⟩
  ·exact XX5SR
  ·exact XX5SR
  ·exact XX5SR
  ·exact XX5SR
  ·exact XX5SR
  ·exact XX5SR
  ·refine AY rfl (λev w1 hR hb hh=>?_);have e23:ev (.tmp 23)= _:=hh.at 0;clear hh;have ef:=hR.func
   refine AP 29 #[ptr g] (by go_simp) ((HCL.out w1 hb).mono ?_);rintro r w2 ⟨rfl,hw⟩;rw [hw];exact ⟨_,rfl,Ao _ _,rfl⟩
  ·exact XX5SR
  ·exact XX5SR
  ·exact XX5SR
 intro ga w4 hb4 hf;have z6:ga 6= _:=hf.at 7;have z7:ga 7= _:=hf.at 8;have z8:ga 8= _:=hf.at 9;clear hf;simp only [Be,Ab,Di,Dl,Dk];rw [z6];rw [z7];rw [z8];have HB4:=BN hb4;clear hb4 HCL HDQ HFE;go_wp2;refine bodyPost_ret (v:=ZT #[o,ZZ ZS (X.err:Int),ZW X.clean]) (by simp [results,Tryz.results31,go_sem]) rfl ?_
 have hb3:Below w.heap.size w w3:=HB2.out.trans (HS3.out.keeps.below HB2.out.size (λk hk=>by have:=HLOW.out k hk;have:=HSZ.out;omega));have hb34:Below w3.heap.size w3 w4:=HB4.out;exact ⟨_,_,_,rfl,HT3.out.step (EH hb34),Al hb3 hb34⟩
theorem feed_fits (l:List UInt8):∀{x:Pg.Q},Flt.Fits x.out->x.Fine b->Flt.Fits (x.feed p b l).out:=by
 induction l with
 | nil=>intro x h _;exact h
 | cons c l ih=>intro x h ok;exact ih (Flt.byte_fits h ok c) (ok.byte c)
theorem read_fits (l:List UInt8):Flt.Fits (Pg.Q.read p b l).out:=feed_fits l (by rw [qnew_out];intro r hr;cases hr) (fine_new p b)
theorem read_few (l:List UInt8):(Pg.Q.read p b l).out.length<=2*l.length:=by have:=Pg.Q.feed_out (p:=p) (b:=b) l (Pg.Q.new p b);rw [qnew_out] at this;show (Pg.Q.feed p b (Pg.Q.new p b) l).out.length<=_;simpa using this
end
end Go.Proofs.YtnabkcglnbdfeaaGreatDoor.Par
namespace Go.Proofs.YtnabkcglnbdfeaaGreatDoor.Txt
open Go.RowKit Base Oct Go.Maps
def keyIn (s:ByteArray):Lit:=.string (lower s).data.toList
def gone (ss:List ByteArray):DataW Unit:=setOf (.agg []) (ss.map keyIn)
section
set_option maxHeartbeats 1000000
attribute [local go_sem] An
end
end Go.Proofs.YtnabkcglnbdfeaaGreatDoor.Txt
namespace Go.Proofs.YtnabkcglnbdfeaaGreatDoor.Txt
open Go.RowKit Base Oct Go.Maps
section
variable {w:World} {base size g n cap:Nat} {e:TypeId} {xs:List Value} {v:Value}
end
def Asks (g:Nat) (lb:Array Value) (p:Fld->Bool) (fs:List Fld) (w0:World):Prop:=
 ∀(W:World) (x:Fld),x∈fs->Below w0.heap.size w0 W->Calls Gq g (#[ZU #[ZY x.1,ZY x.2]]++lb) W λe w'=>e=.returned (ZW (p x))/\Below W.heap.size W w'
section
set_option maxHeartbeats 1000000
end
end Go.Proofs.YtnabkcglnbdfeaaGreatDoor.Txt
namespace Go.Proofs.YtnabkcglnbdfeaaGreatDoor.Can
open Go.RowKit Base Txt Par Pg
section
variable {b:Bd} {t:T} {s m x:List UInt8} {o:List Eo} {fs:List Fld} {n:Nat}
structure Fr (b:Bd) (t:T) (o:List Eo):Prop where
 st:t.st=1
 pend:t.rd.pend=false
 nf:Ln.failed t.rd.last=false
 buf:t.rd.clear.buf= []
 new:t.isNew=true
 most:t.rd.most=Ln.mid b.x0
 r:t.r=zero
 hl:t.hl=0
 bl:t.bl=0
 size:t.size=0
 out:t.out=o
 left:t.left=0
structure Mh (b:Bd) (t:T) (m x:List UInt8) (fs:List Fld) (n:Nat) (o:List Eo):Prop where
 st:t.st=2
 pend:t.rd.pend=false
 nf:Ln.failed t.rd.last=false
 buf:t.rd.clear.buf= []
 most:t.rd.most=Ln.mid b.x0
 r:t.r=⟨ba m,ba x,1,fs,false,[],[]⟩
 hl:t.hl=fs.length
 bl:t.bl=0
 size:t.size=n
 out:t.out=o
def okF (f:Fld):Prop:=Fd.right f.1.data.toList f.2.data.toList=true
def bare (f:Fld):List UInt8:=f.1.data.toList++58::32::f.2.data.toList
end
end Go.Proofs.YtnabkcglnbdfeaaGreatDoor.Can
namespace Go.Proofs.YtnabkcglnbdfeaaGreatDoor.Can
open Go.RowKit Base Txt Par Pg
section
variable {b:Bd} {t:T} {s m x body:List UInt8} {o:List Eo} {fs ts:List Fld} {n:Nat}
structure Kh (b:Bd) (t:T) (m x:List UInt8) (fs:List Fld) (body:List UInt8) (n:Nat) (o:List Eo):Prop where
 st:t.st=4
 pend:t.rd.pend=false
 nf:Ln.failed t.rd.last=false
 buf:t.rd.clear.buf= []
 most:t.rd.most=Ln.mid b.x0
 r:t.r=⟨ba m,ba x,1,fs,true,body,[]⟩
 bl:t.bl=0
 size:t.size=n
 out:t.out=o
structure Kt (b:Bd) (t:T) (m x:List UInt8) (fs:List Fld) (body:List UInt8) (ts:List Fld) (n:Nat) (o:List Eo):Prop where
 st:t.st=7
 pend:t.rd.pend=false
 nf:Ln.failed t.rd.last=false
 buf:t.rd.clear.buf= []
 most:t.rd.most=Ln.mid b.x0
 r:t.r=⟨ba m,ba x,1,fs,true,body,ts⟩
 bl:t.bl=ts.length
 size:t.size=n
 out:t.out=o
end
end Go.Proofs.YtnabkcglnbdfeaaGreatDoor.Can
namespace Go.Proofs.YtnabkcglnbdfeaaGreatDoor.Can
open Go.RowKit Base Txt Par Pg
def localV:ByteArray:=⟨#[108,111,99,97,108,104,111,115,116]⟩
def posts:List (List UInt8):= [[80,79,83,84],[80,85,84],[80,65,84,67,72]]
def hostA (l:List Fld):List Fld:=if find l Frm.hostN= [] then (Frm.hostN,localV)::l else l
def lenV (n:Nat):ByteArray:=ba (Num.spell 10 n)
def fieldsV (m:ByteArray) (fs:List Fld) (body:List UInt8) (ts:List Fld):List Fld:=
 if ts≠ [] then hostA (without fs [Frm.clN,Frm.teN]) ++ [(Frm.teN,Frm.chunked)]
 else if body≠ []∨m.data.toList∈posts then hostA (without fs [Frm.clN,Frm.teN]) ++ [(Frm.clN,lenV body.length)]
 else hostA (without fs [Frm.clN,Frm.teN])
section
variable (fs:List Fld)
def okH (fs:List Fld):Prop:=find fs Frm.hostN= []∨Frm.hostsV false false 1 (find fs Frm.hostN)=0
end
section
variable {m:ByteArray} {fs ts:List Fld} {body:List UInt8} {most:Int}
end
end Go.Proofs.YtnabkcglnbdfeaaGreatDoor.Can
namespace Go.Proofs.YtnabkcglnbdfeaaGreatDoor.Can
open Go.RowKit Base Txt Par Pg
def reqL (m x:List UInt8):List UInt8:=m++32::(x ++ [32,72,84,84,80,47,49,46,49])
def putV (m x:List UInt8) (fs:List Fld) (body:List UInt8) (ts:List Fld):List UInt8:=
 (reqL m x ++ [13,10])++(Fd.put (fieldsV (ba m) fs body ts)++([13,10]++if ts≠ [] then Chk.putL [body]++(Fd.put ts ++ [13,10]) else body))
structure Fits (b:Bd) (m x:List UInt8) (fs:List Fld) (body:List UInt8) (ts:List Fld):Prop where
 req:Rq.request (Rq.clOf 0) b.od (reqL m x)=(m,x,1,0)
 plain:∀c∈reqL m x,c≠10/\c≠13
 len:(reqL m x).length<=Ln.mid b.x0
 fields:∀f∈fieldsV (ba m) fs body ts,okF f/\(bare f).length<=Ln.mid b.x0
 trailers:∀f∈ts,okF f/\(bare f).length<=Ln.mid b.x0
 many:(((fieldsV (ba m) fs body ts).length:Nat):Int)<=b.x1
 head:(((reqL m x).length+2+(Fd.put (fieldsV (ba m) fs body ts)).length+2+(Fd.put ts).length+2:Nat):Int)<=b.x2
 room:(body.length:Int)<=b.x3
 most:((ts.length:Nat):Int)<=b.x5
 host:okH fs
 ch:ts≠ []->b.ch=true
 size:ts≠ []->body≠ []->AK (Ei 0 27) (Ei 0 28) b.x4 b.x3 (Num.spell 16 body.length)=((body.length:Int),0)/\(∀c∈Num.spell 16 body.length,c≠10/\c≠13)/\(Num.spell 16 body.length).length<=Ln.mid b.x0
 last:ts≠ []->AK (Ei 0 27) (Ei 0 28) b.x4 b.x3 [48]=(0,0)/\1<=Ln.mid b.x0
section
variable {b:Bd} {t:T} {m x body:List UInt8} {o:List Eo} {fs ts:List Fld}
end
end Go.Proofs.YtnabkcglnbdfeaaGreatDoor.Can
namespace Go.Proofs.YtnabkcglnbdfeaaGreatDoor.Can
open Go.RowKit Base Txt Rq
end Go.Proofs.YtnabkcglnbdfeaaGreatDoor.Can
namespace Go.Proofs.YtnabkcglnbdfeaaGreatDoor.Can
open Go.RowKit Base Txt Par Pg Flt
def lineR (r:Eo):Prop:=∃(old:Bool) (l:List UInt8) (k:Nat),Rq.request (Rq.clOf 0) old l=(r.m.data.toList,r.x.data.toList,k,0)/\r.k=(k:Int)
def hostR (r:Eo):Prop:=Frm.hostsV false false r.k (find r.fs Frm.hostN)=0
structure Good (r:Eo):Prop where
 line:lineR r
 host:hostR r
 fields:∀f∈r.fs,okF f
 trailers:∀f∈r.ts,okF f
structure On (t:T):Prop where
 line:t.st≠1->lineR t.r
 host:3<=t.st->hostR t.r
 fields:∀f∈t.r.fs,okF f
 trailers:∀f∈t.r.ts,okF f
 out:∀r∈t.out,Good r
section
variable {b:Bd} {t t2:T} {s:List UInt8} {c:UInt8}
end
end Go.Proofs.YtnabkcglnbdfeaaGreatDoor.Can
namespace Go.Proofs.YtnabkcglnbdfeaaGreatDoor.Can
open Go.RowKit Base Txt Par Pg Flt
def chR (r:Eo):Prop:=r.ch=decide (find r.fs Frm.teN≠ [])
structure Kn (t:T):Prop where
 no:t.st<=2->t.r.ch=false
 said:3<=t.st->chR t.r
 out:∀r∈t.out,chR r
section
variable {b:Bd} {t t2:T} {s:List UInt8} {c:UInt8}
end
end Go.Proofs.YtnabkcglnbdfeaaGreatDoor.Can
namespace Go.Proofs.YtnabkcglnbdfeaaGreatDoor.Can
open Go.RowKit Base Txt Par Pg
section
set_option maxHeartbeats 4000000
set_option maxRecDepth 100000
attribute [local go_sem] An
def frameV (m:List UInt8) (body:List UInt8) (ts:List Fld):List Fld:=
 if ts≠ [] then [(Frm.teN,Frm.chunked)] else if body≠ []∨m∈posts then [(Frm.clN,lenV body.length)] else []
end
end Go.Proofs.YtnabkcglnbdfeaaGreatDoor.Can
namespace Go.Proofs.YtnabkcglnbdfeaaGreatDoor.Can
open Go.RowKit Base Txt Par Pg
section
set_option maxHeartbeats 4000000
set_option maxRecDepth 100000
attribute [local go_sem] An
end
end Go.Proofs.YtnabkcglnbdfeaaGreatDoor.Can
namespace Go.Proofs.YtnabkcglnbdfeaaGreatDoor.Can
open Go.RowKit Base Txt Par Pg Flt
def SzF (M:Nat) (f:Fld):Prop:=f.1.size+f.2.size<=M
structure SzR (b:Bd) (r:Eo):Prop where
 m:r.m.size<=Ln.mid b.x0
 x:r.x.size<=Ln.mid b.x0
 fs:∀f∈r.fs,SzF (Ln.mid b.x0) f
 ts:∀f∈r.ts,SzF (Ln.mid b.x0) f
 fl:(r.fs.length:Int)<=b.x1
 tl:(r.ts.length:Int)<=b.x5
 body:r.body.length<=1048576
structure Sz (b:Bd) (t:T):Prop where
 most:t.rd.most<=Ln.mid b.x0
 m:t.r.m.size<=Ln.mid b.x0
 x:t.r.x.size<=Ln.mid b.x0
 fs:∀f∈t.r.fs,SzF (Ln.mid b.x0) f
 ts:∀f∈t.r.ts,SzF (Ln.mid b.x0) f
 fl:(t.r.fs.length:Int)<=t.hl/\(t.hl:Int)<=b.x1
 tl:(t.r.ts.length:Int)<=t.bl/\(t.bl:Int)<=b.x5
 out:∀r∈t.out,SzR b r
section
variable {b:Bd} {t t2:T} {s:List UInt8} {c:UInt8}
end
end Go.Proofs.YtnabkcglnbdfeaaGreatDoor.Can
namespace Go.Proofs.YtnabkcglnbdfeaaGreatDoor.Can
open Go.RowKit Base Txt Par Pg
end Go.Proofs.YtnabkcglnbdfeaaGreatDoor.Can
namespace Go.Proofs.YtnabkcglnbdfeaaGreatDoor.By
open Go.RowKit Base
abbrev bv (c:UInt8):Value:=ZZ ZR (c.toNat:Int)
def Buf (w:World) (B:Nat) (v:Value) (xs:List UInt8):Prop:=∃g cap,v=ZX (some ⟨g,0,none⟩) xs.length cap/\B<=g/\g<w.heap.size/\xs.length<=cap/\(∀j (h:j<xs.length),w.cell? ⟨g,j,none⟩=some (bv xs[j]))/\
 ∀j,xs.length<=j->j<cap->(w.cell? ⟨g,j,none⟩).isSome=true/\w.frozen? ⟨g,j,none⟩=false
def Rd (w:World) (v:Value) (ys:List UInt8):Prop:=∃a c,v=.slice a ys.length c/\Nums .u8 w a ys.length (ys.map λc=>(c.toNat:Int))
section
variable {w w':World} {B:Nat} {v x:Value} {xs ys:List UInt8}
end
end Go.Proofs.YtnabkcglnbdfeaaGreatDoor.By
namespace Go.Proofs.YtnabkcglnbdfeaaGreatDoor.Can
open Go.RowKit Base Txt Par Pg
def putR (r:Eo):List UInt8:=putV r.m.data.toList r.x.data.toList r.fs r.body r.ts
def fieldsR (r:Eo):List Fld:=fieldsV r.m r.fs r.body r.ts
structure Sm (r:Eo):Prop where
 m:r.m.size<=1000000
 x:r.x.size<=1000000
 fl:r.fs.length<=200
 fs:∀f∈r.fs,f.1.size+f.2.size<=200000
 body:r.body.length<=1048576
 tl:r.ts.length<=200
 ts:∀f∈r.ts,f.1.size+f.2.size<=200000
section
variable {r:Eo}
end
section
set_option maxHeartbeats 4000000
set_option maxRecDepth 100000
attribute [local go_sem] An
end
end Go.Proofs.YtnabkcglnbdfeaaGreatDoor.Can
namespace Go.Proofs.YtnabkcglnbdfeaaGreatDoor.Can
open Go.RowKit Base Txt Par Pg
def wrR (r:Eo):Eo:=⟨r.m,r.x,1,fieldsR r,decide (r.ts≠ []),r.body,r.ts⟩
def rightV (b:Bd) (r:Eo):Bool:=(Q.read 0 b (putR r)).clean&&Rec.all (Q.read 0 b (putR r)).out [wrR r]
theorem said_recs {w:World} {o:Value} {out:List Eo} (h:Said w o out):∃a c,o=.slice a out.length c/\Rec.Recs w a out.length out:=by
 obtain ⟨a,c,e,hc⟩:=h;refine ⟨a,c,e,rfl,λh0=>?_⟩;obtain ⟨bk,e1,hlt,h1⟩:=hc h0;refine ⟨bk,0,e1,hlt,λk hk=>?_⟩;obtain ⟨fa,fc,ba,bc,ta,tc,f1,f2,f3,c0,c1,c2,c3,c4,c5,c6⟩:=h1 k hk;have e2:(out[k]?.getD Rec.r0)=out[k]:=by rw [C0 hk];rfl
 rw [e2,DB];exact ⟨fa,fc,ba,bc,ta,tc,⟨c0,c1,c2,c3,c4,c5,c6⟩,⟨fa,fc,ba,bc,ta,tc,rfl,f1,f2,f3⟩⟩
def BtsF (l:List UInt8):Each.Fact:=λv w=>∃a c,v=.slice a l.length c/\Bts [] w a l
def SaidF (out:List Eo):Each.Fact:=λv w=>Said w v out
def TupF (e:Nat) (cl:Bool) (out:List Eo):Each.Fact:=λv w=>∃o,v=ZT #[o,ZZ ZS (e:Int),ZW cl]/\Said w o out
section
set_option maxHeartbeats 4000000
set_option maxRecDepth 100000
attribute [local go_sem] An
end
end Go.Proofs.YtnabkcglnbdfeaaGreatDoor.Can
namespace Go.Proofs.YtnabkcglnbdfeaaGreatDoor.Flt
open Go.RowKit Base Txt Mem Par Pg Each
theorem told_fs {w0 w:World} {B g g1 g2 p:Nat} {b:Bd} {Z L1 L2 N1 N2:List (Option Nat)} {f:F} {V:Value} {out:List Eo} (h:FS w0 B g g1 g2 p b Z L1 L2 f V out N1 N2 w):Pg.Told (fblks g N1 N2) ⟨w0.heap.size,Z⟩ w V out:=by obtain ⟨ps,h1,h2,h3⟩:=h.outs;exact ⟨⟨ps,h1,λx hx=>⟨(h2 x hx).1,(h2 x hx).2.reads,λk hb=>⟨λhm=>((h2 x hx).2.far k hb).1 (List.mem_cons_of_mem _ hm),((h2 x hx).2.far k hb).2⟩,(h2 x hx).2.off⟩,h3⟩,λk e=>⟨h.far k e,(Ho h3 k e).2⟩,λk e=>h.zone.off k (by rw [e];exact List.mem_cons_self ..)⟩
theorem half_int (n h:Nat) (e:n/2=h):Int.tdiv ((n:Nat):Int) 2=(h:Int):=by rw [Int.tdiv_eq_ediv_of_nonneg (by omega)];omega
section
set_option maxHeartbeats 8000000
set_option maxRecDepth 100000
attribute [local go_sem] An
theorem XXW7q {P:Prop} (h:P:=by refine AY rfl (λev w1 hR hb hh=>?_);have e9:=hR.old 9 rfl;have e8:=hR.old 8 rfl;simp only [Ag,C6,Cy,Cz,DV] at e9 e8;exact Each.std):P:=h
theorem XXjea {P:Prop} (h:P:=by
 clear hh;have ec:=hR.const;obtain ⟨g1,g2⟩:=HQH.out;refine AO.same ?_;go_simp
 first | exact g2 |(rw [g2]) | done):P:=h
theorem filterPasses_any (la:Option Addr) (ln cap:Nat) (zs:List Int) (a k0:Nat) (w:World) (hv:Nums .u8 w la ln zs) (hln:ln<=maxLen) (hlc:ln<=cap) (ha:a<4294967296) (hk:k0<256) :
 Calls Gq 6 #[.slice la ln cap,ZZ ZQ a,ZZ ZR k0] w λe w'=>e=.returned (ZW true)/\Below w.heap.size w w':=by
 unfold maxLen at hln;by_cases h40:40<ln
 ·have d1:(40:Int)<(ln:Int):=by omega
  clear hv;go_enter Tryz.func6,Tryz.ntmps6
  go_wp2_with (go_at_call 32;with_reducible refine (Flt.known_any _).mono ?_;rintro e w1 ⟨rfl,hb⟩);go_ret;exact ⟨rfl,hb⟩
 have d1:¬(40:Int)<(ln:Int):=by omega
 obtain ⟨b,hbd,hright⟩:=seat_bd k0
 have HBN:=BN (λw=>Seat.bounds_any k0 hk w);rw [hbd] at HBN;have hm30:=Seat.mask30 a ha;have hp:a%1073741824<4294967296:=by omega
 have hp30:a%1073741824<1073741824:=by omega
 obtain ⟨p,hpp⟩:∃p,a%1073741824=p:=⟨_,rfl⟩;rw [hpp] at hm30 hp hp30;have HP:=BN hp
 have HST:=BN (λw' (hb':Below w.heap.size w w')=>Rq.stream_any la ln cap zs w' (hv.below hb') (by omega) hlc)
 have HNW:=BN (λw=>Flt.new_any (p:=p) (b:=b) hp w)
 have HPA:=BN (λl=>pass_all hp30 hright l);clear hpp ha hk hv hbd hp30 hlc hright h40 hln hp;go_enter Tryz.func6,Tryz.ntmps6
 go_upto_region 6 with (first
  |(go_at_call 15;with_reducible refine (HBN.out _).mono ?_;rintro e w3 ⟨rfl,hb⟩
    have HB3:=BN (Al HB1.out hb);clear hb)
  |(go_at_call 32;with_reducible refine (Flt.known_any _).mono ?_;rintro e w1 ⟨rfl,hb⟩;have HB1:=BN hb;clear hb))
 have HBW:=BN (HB3.out.alloc HB3.out.size (.cells #[ZZ ZS b.x0,ZZ ZS b.x1,ZZ ZS b.x2,ZZ ZS b.x3,ZZ ZS b.x4,ZZ ZS b.x5,ZZ ZS b.x6,ZZ ZS b.x7,ZW b.ch,ZW b.od] 29))
 have HZ9:=BN (Em w3 w3.heap.size rfl 29 (bdL b));generalize w3.alloc (.cells #[ZZ ZS b.x0,ZZ ZS b.x1,ZZ ZS b.x2,ZZ ZS b.x3,ZZ ZS b.x4,ZZ ZS b.x5,ZZ ZS b.x6,ZZ ZS b.x7,ZW b.ch,ZW b.od] 29)=WB at *;generalize w3.heap.size=gB at *;go_upto_region 7 with
  (go_at_call 16;with_reducible refine (HST.out _ HBW.out).mono ?_;rintro e W0 ⟨gs,s,c,rfl,hsc,hsl,hgs,hgw,hby,hb⟩
   have HZ0:=BN (HZ9.out.below hb);have HBS:=BN (Al HBW.out hb);have HBY:=BN hby;have HGW:=BN hgw;clear hb hgs hgw hby)
 obtain ⟨n,hn⟩:∃n,s.length=n:=⟨_,rfl⟩;have HSN:=BN hn;rw [hn] at hsc hsl;rw [hn];clear hn HZ9 HBW HB3 HB1 HST HBN d1;have y0:=HZ0.out.c 0 _ rfl;have y1:=HZ0.out.c 1 _ rfl;have y2:=HZ0.out.c 2 _ rfl;have y3:=HZ0.out.c 3 _ rfl;have y4:=HZ0.out.c 4 _ rfl;have y5:=HZ0.out.c 5 _ rfl;have y6:=HZ0.out.c 6 _ rfl;have y7:=HZ0.out.c 7 _ rfl;have y8:=HZ0.out.c 8 _ rfl;have y9:=HZ0.out.c 9 _ rfl;go_upto_region 8 with
  (go_at_call 34;with_reducible refine (HNW.out _).mono ?_;rintro r W1 ⟨g,g1,g2,L1,L2,rfl,hf,hb⟩
   have HF:=BN hf;have HB1:=BN hb;have HZ1:=BN (HZ0.out.below hb);clear hf hb)
 clear y0 y1 y2 y3 y4 y5 y6 y7 y8 y9
 have hby1:=bytes_keeps HBY.out HGW.out (BD HB1.out (L:= [])) (by simp)
 have hb0:=bts_range (L:= []) hby1 (D8 HGW.out HB1.out.size) De 0 s.length (by omega) 0 (.inl rfl);rw [List.drop_zero,List.take_length] at hb0
 have hrd:=Par.dread_zone (p:=0) (b:=b) (by decide) W1 (fblks g L1 L2) (λk hk=>HF.out.in k hk) (some ⟨gs,0,none⟩) c s hb0 (by rw [HSN.out];omega);obtain ⟨X,hX⟩:∃X,Q.read 0 b s=X:=⟨_,rfl⟩;have hfit:=Par.read_fits (p:=0) (b:=b) s;have hfew:=Par.read_few (p:=0) (b:=b) s;have hpa:=HPA.out s;rw [hX] at hrd hfit hfew hpa;rw [HSN.out] at hrd hfew;have HRD:Hid (Calls Gq 31 #[ZZ ZQ 0,ZU #[ZZ ZS b.x0,ZZ ZS b.x1,ZZ ZS b.x2,ZZ ZS b.x3,ZZ ZS b.x4,ZZ ZS b.x5,ZZ ZS b.x6,ZZ ZS b.x7,ZW b.ch,ZW b.od],ZX (some ⟨gs,0,none⟩) n c] W1 _):=BN hrd;have HX2:=BN hpa
 have HALL:=BN (λ(w':World) (a1 a2:Option Addr) (c1 c2:Nat) (h1:Rec.Recs w' a1 X.out.length X.out) (h2:Rec.Recs w' a2 X.out.length X.out)=>by have h:=Rec.rall_any a1 _ c1 X.out a2 _ c2 X.out w' h1 h2 (by omega) (by omega) hfit hfit;rw [Rec.all_self] at h;exact h)
 clear hby1 hb0 hrd hX hfit hfew hpa HPA;have x0:=HZ1.out.c 0 _ rfl;have x1:=HZ1.out.c 1 _ rfl;have x2:=HZ1.out.c 2 _ rfl;have x3:=HZ1.out.c 3 _ rfl;have x4:=HZ1.out.c 4 _ rfl;have x5:=HZ1.out.c 5 _ rfl;have x6:=HZ1.out.c 6 _ rfl;have x7:=HZ1.out.c 7 _ rfl;have x8:=HZ1.out.c 8 _ rfl;have x9:=HZ1.out.c 9 _ rfl;go_upto_region 9 with
  (go_at_call 31;with_reducible refine HRD.out.mono ?_;rintro e W2 ⟨o,LR,BR,rfl,ht,hb⟩
   have HT:=BN ht;have HB2:=BN hb;clear ht hb)
 clear x0 x1 x2 x3 x4 x5 x6 x7 x8 x9;clear HRD HZ0 HZ1;obtain ⟨h,hh⟩:∃h,n/2=h:=⟨_,rfl⟩
 have HQH:=BN (And.intro (half_int n h hh) (show IntKind.i64.wrap (h:Int)=(h:Int) from wrap_in _ (by omega) (by omega)))
 have HSL2:=BN (show (0:Int)<=(h:Int)/\(h:Int)<=(c:Int)/\(h:Int)<=(n:Int)/\(n:Int)<=(c:Int) from ⟨by omega,by omega,by omega,by omega⟩)
 have HCH:=BN (show (c=h/\h=0)∨¬c=h by omega);have hbw:=Al HB1.out HB2.out
 have HF2:=BN (HF.out.keeps (BD HB2.out:Keeps [] W1 W2) (λ_ _ hm=>by cases hm))
 have HBY2:=BN (bytes_keeps HBY.out HGW.out (BD hbw (L:= [])) (by simp))
 have HG2:=BN (D8 HGW.out hbw.size)
 have HGN:Hid (some gs∉fblks g L1 L2):=BN λhm=>absurd HGW.out (Nat.not_lt.2 (HF.out.low gs hm))
 have HBW2:=BN (Al HBS.out hbw)
 have HLOW:=BN (show∀k,some k∈fblks g L1 L2->w.heap.size<=k from λk hk=>D7 HBS.out.size (HF.out.low k hk))
 have HHN:=BN (show h<=n/\n<=2500 from ⟨by omega,hsl⟩);clear hbw HB1 HB2 HF hh hsc hsl HBS HBY HGW HNW hm30;refine Each.region 12 [34,35,36,37,38,39,40,41,42,43,44,45] [eP g 0,eQ (ZX (some ⟨gs,0,none⟩) n c),eQ (ZX (some ⟨gs,0,none⟩) n c),eQ (ZZ ZS ((n:Nat):Int)),eQ (ZZ ZS (h:Int)),eQ (ZX (some ⟨gs,0,none⟩) h c),eQ (ZX (some ⟨gs,0,none⟩) n c),eQ (ZX (some ⟨gs,0,none⟩) n c),eQ (ZZ ZS ((n:Nat):Int)),eQ (ZZ ZS (h:Int)),eQ (ZX (some ⟨gs,h,none⟩) (n-h) (c-h)),λv w=>∃q,v=ZX (some ⟨q,0,none⟩) 2 2/\W2.heap.size<=q/\El w q [ZX (some ⟨gs,0,none⟩) h c,ZX (some ⟨gs,h,none⟩) (n-h) (c-h)]] (.act 12 (.quiet 13 .done)) (by kernel_rfl) (by kernel_rfl) (by kernel_rfl) (by kernel_rfl) (λ_ _ d _ _ h=>by cases d<;>exact h) (by rfl) (by rfl) ⟨AT _,AT _,AT _,AT _,AT _,AT _,AT _,AT _,AT _,AT _,AT _,((λ_ _ _ hb h=>by obtain ⟨q,rfl,hq,hB⟩:=h;exact ⟨q,rfl,hq,hB.below hb⟩)),trivial⟩ ?_ ?_
 ·refine ⟨?_,?_,?_,?_,?_,?_,?_,?_,?_,?_,?_,?_,trivial⟩
  ·exact XXW7q
  ·exact XXW7q
  ·exact XXW7q
  ·exact XXW7q
  ·refine AY rfl (λev w1 hR hb hh=>?_);have e37:ev (.tmp 37)= _:=hh.at 0;exact XXjea
  ·refine AY rfl (λev w1 hR hb hh=>?_);have e35:ev (.tmp 35)= _:=hh.at 0;have e38:ev (.tmp 38)= _:=hh.at 1;clear hh;obtain ⟨s1,s2,s3,s4⟩:=HSL2.out;refine AO.same ?_;go_simp
   all_goals (try with_reducible rfl)
  ·exact XXW7q
  ·exact XXW7q
  ·exact XXW7q
  ·refine AY rfl (λev w1 hR hb hh=>?_);have e42:ev (.tmp 42)= _:=hh.at 0;exact XXjea
  ·refine AY rfl (λev w1 hR hb hh=>?_);have e40:ev (.tmp 40)= _:=hh.at 0;have e43:ev (.tmp 43)= _:=hh.at 1;clear hh;obtain ⟨s1,s2,s3,s4⟩:=HSL2.out;refine AO.same ?_;rcases HCH.out with ⟨h1,h2⟩ | h1
   ·subst h2;subst h1;go_simp
    all_goals (try with_reducible rfl)
   ·go_simp
    all_goals (try with_reducible rfl)
  ·refine AY rfl (λev w1 hR hb hh=>?_);have e39:ev (.tmp 39)= _:=hh.at 0;have e44:ev (.tmp 44)= _:=hh.at 1;clear hh;exact AO.value (ZX (some ⟨w1.heap.size,0,none⟩) 2 2) (w1.alloc (.cells #[ZX (some ⟨gs,0,none⟩) h c,ZX (some ⟨gs,h,none⟩) (n-h) (c-h)] 22)) (by go_simp) ((Ao _ _).alloc (D5 _) _) ⟨_,rfl,hb.size,Em w1 _ rfl 22 [ZX (some ⟨gs,0,none⟩) h c,ZX (some ⟨gs,h,none⟩) (n-h) (c-h)]⟩
 intro ga w3 hb hf;have z34:ga 34= _:=hf.at 0;have z45:=hf.at 11;clear hf;simp only [Be,Ab,Di,Dl,Dk];obtain ⟨q,eq,hq,hBk⟩:=z45;rw [z34,eq];simp only [Fk,Fl,Cz,Cy]
 have hf3:=HF2.out.keeps (BD hb:Keeps [] W2 w3) (λ_ _ hm=>by cases hm)
 have hby3:=bytes_keeps HBY2.out HG2.out (BD hb (L:= [])) (by simp);have hl3:=D8 HG2.out hb.size
 have hp1:=bts_range hby3 hl3 HGN.out 0 h (by rw [HSN.out];have:=HHN.out.1;omega) 0 (.inl rfl)
 have hp2:=bts_range hby3 hl3 HGN.out h (n-h) (by rw [HSN.out];have:=HHN.out.1;omega) h (.inl rfl);rw [List.drop_zero] at hp1;rw [Dp (by rw [CI,HSN.out];exact D5 _)] at hp2;have hpc:PartsC (fblks g L1 L2) w3 (some ⟨q,0,none⟩) [s.take h,s.drop h]:=by
  refine ⟨λ_=>⟨q,0,rfl,hBk.lt,λhm=>absurd (HF2.out.in q hm) (Nat.not_lt.2 hq),λk hk=>?_⟩⟩;have hk:k<2:=hk;have l1:(s.take h).length=h:=by rw [CO,HSN.out];have:=HHN.out.1;omega
  have l2:(s.drop h).length=n-h:=by rw [CI,HSN.out]
  rcases (by omega:k=0∨k=1) with rfl | rfl
  ·exact ⟨some ⟨gs,0,none⟩,c,by show _=some (Value.slice _ (s.take h).length _);rw [l1];exact hBk.c 0 _ rfl,by show (s.take h).length<=c;rw [l1];have:=HSL2.out;omega,λ_=>hp1⟩
  ·exact ⟨some ⟨gs,h,none⟩,c-h,by show _=some (Value.slice _ (s.drop h).length _);rw [l2];exact hBk.c 1 _ rfl,by show (s.drop h).length<=c-h;rw [l2];have:=HSL2.out;omega,λ_=>hp2⟩
 have hfe:=Flt.feed_any HP.out hf3 [] Clear.nil (some ⟨q,0,none⟩) 2 [s.take h,s.drop h] hpc (by simp) (by simp;rw [HSN.out];have:=HHN.out;omega);rw [show ([s.take h,s.drop h]:List (List UInt8)).flatten=s by simp,show ([s.take h,s.drop h]:List (List UInt8)).length=2 from rfl] at hfe;have HFE:=BN hfe;have HB3:=BN hb;clear hfe hpc hp1 hp2 hl3 hby3 hf3 hBk hq
 refine Fi (by rfl) (λK hK=>?_)
 refine Each.oper_enter (g:=36) (args:=#[ptr g,ZX (some ⟨q,0,none⟩) 2 2]) (by go_simp) (HFE.out.mono ?_);rintro r w4 ⟨V,rfl,M1,M2,hfs⟩;refine ⟨_,rfl,hK _ _ trivial ?_⟩;simp only [Ab,Di,Dl,Dk];clear hK K;refine Tree.assign _ (by rfl) (by rfl) ?_;simp only [Ab,Act.eval,Ag,C6,Cz,Cy,DV,Di,Dl,Dk];refine Fj ?_
 have htx:=(HT.out.step (EH hb)).keeps hfs.keeps (λk hk=>hk);have hty:=told_fs hfs;have hft:=hfs.fat;rw [HX2.out.1] at hty;obtain ⟨ax,cx,ex,hrx⟩:=Can.said_recs htx.said;obtain ⟨ay,cy,ey,hry⟩:=Can.said_recs hty.said;subst ex;subst ey
 have hb4:Below w.heap.size w w4:=(Al HBW2.out hb).trans (hfs.keeps.below (Al HBW2.out hb).size HLOW.out);have HB4:=BN hb4;have HRX:=BN hrx;have HRY:=BN hry;obtain ⟨f9,hf9⟩:∃f9,(Bj p b (F.new p b) s).1=f9:=⟨_,rfl⟩;rw [hf9] at hft HX2;have hcd:=λ(w':World) (hb:Below w4.heap.size w4 w')=>(hft.keeps (BD hb:Keeps [] w4 w') (λ_ _ hm=>by cases hm)).c.2.2;rw [HX2.out.2.1] at hcd;obtain ⟨E,hE⟩:∃E,X.err=E:=⟨_,rfl⟩;have hpn:=HX2.out.2.2;rw [hE] at hcd hpn;rw [hE]
 have HVD:=BN (λ(w':World) (hb:Below w4.heap.size w4 w')=>verdict_any (w:=w') g E (hcd w' hb).1)
 have HCD:=BN (λ(w':World) (hb:Below w4.heap.size w4 w')=>code_any (w:=w') g E (hcd w' hb).1)
 have HPD:=BN (λ(w':World) (hb:Below w4.heap.size w4 w')=>parted_any (w:=w') g f9.parted (hcd w' hb).2);clear htx hty hft hfs hb4 hrx hry hb eq z34 HT HFE HF2 HBW2 HLOW hf9 hE HX2 hcd;rcases D3 E with h0 | h0
 ·rw [h0,if_pos rfl] at HVD;rw [hpn h0] at HPD;subst h0;clear hpn
  go_wp2_with (first
   |(go_at_call 40;with_reducible refine Cm (HPD.out _ HW5.out) ?_)
   |(go_at_call 38;with_reducible refine Cm (HVD.out _ HW5.out) ?_)
   |(go_at_call 39;with_reducible refine Cm (HCD.out _ HW5.out) ?_)
   |(go_at_call 22;with_reducible refine (HALL.out _ _ _ _ _ HRX.out HRY.out).mono ?_;rintro e w5 ⟨rfl,hb⟩
     have HW5:=BN hb;clear hb))
  go_ret;exact ⟨rfl,Al HB4.out HW5.out⟩
 ·have hz:¬((E:Nat):Int)=0:=by omega
  rw [if_neg (by omega)] at HVD
  have HZ2:=BN (show (((E:Nat):Int) != 0)=true from bne_iff_ne.2 hz);clear hpn h0
  go_wp2_with (first
   |(go_at_call 38;with_reducible refine Cm (HVD.out _ HW5.out) ?_)
   |(go_at_call 39;with_reducible refine Cm (HCD.out _ HW5.out) ?_)
   |(go_at_call 22;with_reducible refine (HALL.out _ _ _ _ _ HRX.out HRY.out).mono ?_;rintro e w5 ⟨rfl,hb⟩
     have HW5:=BN hb;clear hb))
  go_ret;exact ⟨by show Ending.returned (ZW (((E:Nat):Int) != 0))= _;rw [HZ2.out],Al HB4.out HW5.out⟩
theorem filterPasses_law (la:Option Addr) (ln cap:Nat) (zs:List Int) (a k:Int) (w:World) (hv:Nums .u8 w la ln zs) (hln:ln<=maxLen) (hlc:ln<=cap) (ha:0<=a/\a<=4294967295) (hk:0<=k/\k<=255) :
 Calls Gq 6 #[.slice la ln cap,ZZ ZQ a,ZZ ZR k] w λe w'=>e=.returned (ZW true)/\Below w.heap.size w w':=by
 obtain ⟨a,rfl⟩:=Int.eq_ofNat_of_zero_le ha.1;obtain ⟨k,rfl⟩:=Int.eq_ofNat_of_zero_le hk.1
 exact filterPasses_any la ln cap zs a k w hv hln hlc (by omega) (by omega)
end
end Go.Proofs.YtnabkcglnbdfeaaGreatDoor.Flt
