import Derived.Test.YtldhlecknfomjaaGreatDoorFnf
set_option linter.unusedSimpArgs false
open Array renaming getD_eq_getD_getElem?→Af
open Bool renaming false_and→As,true_and→Az
open Go.Act renaming put→Ab
open Go.ByteArray renaming toList_eq→AW
open Go.Lib renaming extract_data→Bl,hid→Bo
open Go.Proofs.Tryz renaming prog→EG
open Go.Proofs.YtldhlecknfomjaaGreatDoor.Base renaming below_drewN→Aj,some_undef→Al
open Go.Proofs.YtldhlecknfomjaaGreatDoor.Each renaming Goes→AD,fine→AJ,putg→AM,region_all→AO,region_float→AP
open Go.Proofs.YtldhlecknfomjaaGreatDoor.Each.Goes renaming enter→AE
open Go.Proofs.YtldhlecknfomjaaGreatDoor.Each.Lasts renaming eq→AI
open Go.Proofs.YtldhlecknfomjaaGreatDoor.Ln renaming own_slice→CJ
open Go.Proofs.YtldhlecknfomjaaGreatDoor.Oct renaming allOf→CZ
open Go.Proofs.YtldhlecknfomjaaGreatDoor.Par.Step renaming of_below→D9,set→DB
open Go.Proofs.YtldhlecknfomjaaGreatDoor.Qk renaming has→Do,rhas_any→Dq
open Go.Proofs.YtldhlecknfomjaaGreatDoor.Rec renaming Bk→Dr
open Go.Proofs.YtldhlecknfomjaaGreatDoor.Rec.Bk renaming new→Ds
open Go.Proofs.YtldhlecknfomjaaGreatDoor.Tree renaming change→DM,done→DN,grow→DO,put1→DP,quiet→DR
open Go.RowKit.Below renaming refl→Am
open List renaming getElem?_cons_succ→BR,getElem?_cons_zero→BS,getElem?_eq_getElem→BT,getElem?_toArray→BZ,getElem_mem→Cb,length_drop→Ck,length_take→Ct,setIfInBounds_toArray→C8,set_cons_succ→CA,set_cons_zero→CB,take_of_length_le→CE
open Nat renaming eq_zero_or_pos→CO,le_of_lt→CP,le_refl→CQ,le_trans→CT,lt_or_ge→CV,zero_le→CX
open Option renaming getD_some→Dg,some→Di
open UInt8 renaming toNat_inj→F6
namespace Go.Proofs.YtldhlecknfomjaaGreatDoor.Par
open Go.RowKit Base Txt Mem
section code
set_option maxHeartbeats 4000000
set_option maxRecDepth 20000
attribute [local go_sem] Al
variable {w:World} {B:Zone} {g q:Nat} {v f bd t o:Value} {p:Nat} {b:Bd} {s:S}
theorem XXXk7 {P:Prop} (h:P:=by
 refine AJ rfl (fun ev w1 hR hb hh=>?_);have e8:(ev (.tmp 8)=.int .u32 (p:Int)):=hh.at 0;have e12:(ev (.tmp 12)=.agg #[.int .i64 b.x0,.int .i64 b.x1,.int .i64 b.x2,.int .i64 b.x3,.int .i64 b.x4,.int .i64 b.x5,.int .i64 b.x6,.int .i64 b.x7,.bool b.ch,.bool b.od]):=hh.at 1;have e17:(ev (.tmp 17)=.int .i64 s.r.k):=hh.at 2;have e22:(ev (.tmp 22)=.slice bf s.r.fs.length cf):=hh.at 3;clear hh;have ef:=hR.func
 refine AE 218 #[.int .u32 (p:Int),.agg #[.int .i64 b.x0,.int .i64 b.x1,.int .i64 b.x2,.int .i64 b.x3,.int .i64 b.x4,.int .i64 b.x5,.int .i64 b.x6,.int .i64 b.x7,.bool b.ch,.bool b.od],.int .i64 s.r.k,.slice bf s.r.fs.length cf] (by go_simp) ((HZ.out w1 hb).mono ?_);rintro r w2 ⟨rfl,hb2⟩
 exact ⟨_,rfl,hb2,rfl⟩):P:=h
theorem XXWJz {P:Prop} (h:P:=by
 go_wp2_with (go_at_call 139;with_reducible refine HFA.out.mono ?_;rintro r w3 ⟨rfl,hP,hS⟩);go_end0;first
  |exact ⟨rfl,_,_,_,_,_,_,hP,(D9 HB.out).trans hS⟩
  |exact ⟨rfl,_,_,_,_,_,hP,(D9 HB.out).trans hS⟩):P:=h
theorem over_any (hp:p<4294967296) (h3:16≤b.x3∧b.x3≤1048576) (h:PR w B g q v f bd t o p b s) (hn:s.r.fs.length≤500) (hs:∀y∈s.r.fs,y.1.size≤1000000∧y.2.size≤1000000) (hout:s.out.length≤1000000000):Calls EG 201 #[ptr g] w fun r w'=>
 r=.returned (.tuple #[])∧∃q1 v1 f1 bd1 t1 o1,PR w' B g q1 v1 f1 bd1 t1 o1 p b (s.over p b)∧Step (blks g q v f bd t o) (blks g q1 v1 f1 bd1 t1 o1) w w':=by
 obtain ⟨A,c,e,hv⟩:=Flds.of_own h.own.F;obtain ⟨bf,cf,eb, -⟩:=CJ h.own.F;subst eb;simp only [Value.slice.injEq,true_and] at e;obtain ⟨rfl,rfl⟩:=e;have H:=Bo h
 have HQ:=Bo ((h.drew 1).bk)
 have hvd:=hv.below (Aj (Am w.heap.size w) 1);have hz:=fun w2 (hb:Below (w.drewN 1).heap.size (w.drewN 1) w2)=>Frm.rdecide_any p hp b.x0 b.x1 b.x2 b.x3 b.x4 b.x5 b.x6 b.x7 b.ch b.od (by omega) s.r.k _ _ cf s.r.fs w2 (hvd.below hb) hn hs;have HO:=Bo hout;clear h hn hs hout hv;rcases decide_facts (Frm.clOf p) b.ch b.x3 s.r.k s.r.fs with hD | ⟨n,hle,hD⟩ | ⟨e,he,hD⟩
 ·have HZ:=Bo (show∀w2,Below (w.drewN 1).heap.size (w.drewN 1) w2→Calls EG 218 #[.int .u32 (p:Int),.agg #[.int .i64 b.x0,.int .i64 b.x1,.int .i64 b.x2,.int .i64 b.x3,.int .i64 b.x4,.int .i64 b.x5,.int .i64 b.x6,.int .i64 b.x7,.bool b.ch,.bool b.od],.int .i64 s.r.k,.slice bf s.r.fs.length cf] w2 fun r w'=>r=.returned (.tuple #[.agg #[.int .i64 2,.int .i64 0],.int .i64 0])∧Below w2.heap.size w2 w' from fun w2 hb=>by have:=hz w2 hb;rw [hD] at this;exact this);have e:s.over p b={s with r:={s.r with ch:=true},st:=3,fresh:=true,rd:=nl p b.x0}:=by unfold S.over;rw [hD];rfl
  rw [e];clear hz hD e hvd;go_enter Tryz.func201,Tryz.ntmps201;go_upto_region 0 with fail
  go_cut [2,3] from 4 to 25 (fun u c wx=>∃g2,u=ptr g2∧c=.int .i64 0∧Hid (Below w.heap.size w wx)∧Hid (Dr wx g2 [.int .i64 2,.int .i64 0])∧Hid (w.heap.size≤g2))
  case first=>
   refine AP 23 [5,6,7,8,9,10,11,12,13,14,15,16,17,18,19,20,21,22,23,4,24,25,2]
    [eQ (.pointer (some ⟨g,0,none⟩)),
      eQ (.pointer (some ⟨g,0,none⟩)),
      eQ (.pointer (some ⟨g,0,none⟩)),
      eQ (.int .u32 (p:Int)),
      eQ (.pointer (some ⟨g,0,none⟩)),
      eQ (.pointer (some ⟨g,0,none⟩)),
      eQ (.pointer (some ⟨g,1,none⟩)),
      eQ (.agg #[.int .i64 b.x0,.int .i64 b.x1,.int .i64 b.x2,.int .i64 b.x3,.int .i64 b.x4,.int .i64 b.x5,.int .i64 b.x6,.int .i64 b.x7,.bool b.ch,.bool b.od]),
      eQ (.pointer (some ⟨g,0,none⟩)),
      eQ (.pointer (some ⟨g,0,none⟩)),
      eQ (.pointer (some ⟨g,13,none⟩)),
      eQ (.pointer (some ⟨g,15,none⟩)),
      eQ (.int .i64 s.r.k),
      eQ (.pointer (some ⟨g,0,none⟩)),
      eQ (.pointer (some ⟨g,0,none⟩)),
      eQ (.pointer (some ⟨g,13,none⟩)),
      eQ (.pointer (some ⟨g,16,none⟩)),
      eQ (.slice bf s.r.fs.length cf),
      eQ (.tuple #[.agg #[.int .i64 2,.int .i64 0],.int .i64 0]),
      eQ (.tuple #[.agg #[.int .i64 2,.int .i64 0],.int .i64 0]),
      eQ (.agg #[.int .i64 2,.int .i64 0]),
      eQ (.int .i64 0),
      fun v u=>∃g2,v=ptr g2∧w.heap.size≤g2∧Dr u g2 [.int .i64 0,.int .i64 0]]
    [] 2 (some 21) (.act 23 (.quiet 24 .done)) (.quiet 21 (.act 23 (.quiet 24 .done))) (by kernel_rfl) (by kernel_rfl) (by kernel_rfl) (by kernel_rfl) (fun k0 h=>by cases h;kernel_rfl) (fun _ _ d _ _ h=>by cases d<;>exact h) (by rfl) (by rfl)
    ⟨AI _,AI _,AI _,AI _,AI _,AI _,AI _,AI _,AI _,AI _,AI _,AI _,AI _,AI _,AI _,AI _,AI _,AI _,AI _,AI _,AI _,AI _,((fun _ _ _ hb h=>by obtain ⟨g2,e1,h1,hB⟩:=h;exact ⟨g2,e1,h1,hB.below hb⟩)),trivial⟩ trivial (by rfl) ?_ ?_ ?_
   ·refine ⟨?_,?_,?_,?_,?_,?_,?_,?_,?_,?_,?_,?_,?_,?_,?_,?_,?_,?_,?_,?_,?_,?_,?_,trivial⟩
    ·exact XXUzV
    ·refine AJ rfl (fun ev w1 hR hb hh=>?_);have e5:(ev (.tmp 5)=.pointer (some ⟨g,0,none⟩)):=hh.at 0;clear hh;exact XXqTe
    ·refine AJ rfl (fun ev w1 hR hb hh=>?_);have e6:(ev (.tmp 6)=.pointer (some ⟨g,0,none⟩)):=hh.at 0;clear hh;exact XXqTe
    ·refine AJ rfl (fun ev w1 hR hb hh=>?_);have e7:(ev (.tmp 7)=.pointer (some ⟨g,0,none⟩)):=hh.at 0;clear hh;have q0:=(HQ.out.below hb).c 0 _ rfl;exact XXqTe
    ·exact XXUzV
    ·refine AJ rfl (fun ev w1 hR hb hh=>?_);have e9:(ev (.tmp 9)=.pointer (some ⟨g,0,none⟩)):=hh.at 0;clear hh;exact XXqTe
    ·refine AJ rfl (fun ev w1 hR hb hh=>?_);have e10:(ev (.tmp 10)=.pointer (some ⟨g,0,none⟩)):=hh.at 0;clear hh;exact XXqTe
    ·refine AJ rfl (fun ev w1 hR hb hh=>?_);have e11:(ev (.tmp 11)=.pointer (some ⟨g,1,none⟩)):=hh.at 0;clear hh;have q1:=(HQ.out.below hb).c 1 _ rfl;have q2:=(HQ.out.below hb).c 2 _ rfl;have q3:=(HQ.out.below hb).c 3 _ rfl;have q4:=(HQ.out.below hb).c 4 _ rfl;have q5:=(HQ.out.below hb).c 5 _ rfl;have q6:=(HQ.out.below hb).c 6 _ rfl;have q7:=(HQ.out.below hb).c 7 _ rfl;have q8:=(HQ.out.below hb).c 8 _ rfl;have q9:=(HQ.out.below hb).c 9 _ rfl;have q10:=(HQ.out.below hb).c 10 _ rfl;exact XXqTe
    ·exact XXUzV
    ·refine AJ rfl (fun ev w1 hR hb hh=>?_);have e13:(ev (.tmp 13)=.pointer (some ⟨g,0,none⟩)):=hh.at 0;clear hh;exact XXqTe
    ·refine AJ rfl (fun ev w1 hR hb hh=>?_);have e14:(ev (.tmp 14)=.pointer (some ⟨g,0,none⟩)):=hh.at 0;clear hh;exact XXqTe
    ·refine AJ rfl (fun ev w1 hR hb hh=>?_);have e15:(ev (.tmp 15)=.pointer (some ⟨g,13,none⟩)):=hh.at 0;clear hh;exact XXqTe
    ·refine AJ rfl (fun ev w1 hR hb hh=>?_);have e16:(ev (.tmp 16)=.pointer (some ⟨g,15,none⟩)):=hh.at 0;clear hh;have q15:=(HQ.out.below hb).c 15 _ rfl;exact XXqTe
    ·exact XXUzV
    ·refine AJ rfl (fun ev w1 hR hb hh=>?_);have e18:(ev (.tmp 18)=.pointer (some ⟨g,0,none⟩)):=hh.at 0;clear hh;exact XXqTe
    ·refine AJ rfl (fun ev w1 hR hb hh=>?_);have e19:(ev (.tmp 19)=.pointer (some ⟨g,0,none⟩)):=hh.at 0;clear hh;exact XXqTe
    ·refine AJ rfl (fun ev w1 hR hb hh=>?_);have e20:(ev (.tmp 20)=.pointer (some ⟨g,13,none⟩)):=hh.at 0;clear hh;exact XXqTe
    ·refine AJ rfl (fun ev w1 hR hb hh=>?_);have e21:(ev (.tmp 21)=.pointer (some ⟨g,16,none⟩)):=hh.at 0;clear hh;have q16:=(HQ.out.below hb).c 16 _ rfl;exact XXqTe
    ·exact XXXk7
    ·refine AJ rfl (fun ev w1 hR hb hh=>?_);have e23:(ev (.tmp 23)=.tuple #[.agg #[.int .i64 2,.int .i64 0],.int .i64 0]):=hh.at 0;clear hh;exact XXqTe
    ·refine AJ rfl (fun ev w1 hR hb hh=>?_);have e4:(ev (.tmp 4)=.tuple #[.agg #[.int .i64 2,.int .i64 0],.int .i64 0]):=hh.at 0;clear hh;exact XXqTe
    ·refine AJ rfl (fun ev w1 hR hb hh=>?_);have e4:(ev (.tmp 4)=.tuple #[.agg #[.int .i64 2,.int .i64 0],.int .i64 0]):=hh.at 0;clear hh;exact XXqTe
    ·exact XXj8f
   ·intro g1 w2 hb hf;have z4:(g1 4=.tuple #[.agg #[.int .i64 2,.int .i64 0],.int .i64 0]):=hf.at 19;have z24:(g1 24=.agg #[.int .i64 2,.int .i64 0]):=hf.at 20;have z25:(g1 25=.int .i64 0):=hf.at 21;have z2:((fun v u=>∃g2,v=ptr g2∧w.heap.size≤g2∧Dr u g2 [.int .i64 0,.int .i64 0]) (g1 2) w2):=hf.at 22;clear hf;obtain ⟨g2,e2,hg2,hB2⟩:=z2;simp only [AM,Ab,C8,CB,CA];rw [z4,z24,z25,e2];simp only [DO,DP,BS,BR];exact XXZHN
   ·intro k0 hk0 g1 w2 hb hf;cases hk0;have z4:(g1 4=.tuple #[.agg #[.int .i64 2,.int .i64 0],.int .i64 0]):=hf.at 19;have z24:(g1 24=.agg #[.int .i64 2,.int .i64 0]):=hf.at 20;have z2:((fun v u=>∃g2,v=ptr g2∧w.heap.size≤g2∧Dr u g2 [.int .i64 0,.int .i64 0]) (g1 2) w2):=hf.at 22;clear hf;obtain ⟨g2,e2,hg2,hB2⟩:=z2;simp only [AM,Ab,C8,CB,CA];rw [z4,z24,e2];simp only [DO,DP,BS,BR];refine DR (by rfl) (.int .i64 0) (fun _ _=>by go_simp) ?_;simp only [Ab,C8,CB,CA];exact XXZHN
  case rest=>
  obtain ⟨g2,rfl,rfl,HB,HG,HG2⟩:=hcut
  have H1:=Bo (H.out.below HB.out);clear HQ;obtain ⟨W0,hW0⟩:∃x,x=wc:=⟨_,rfl⟩;subst hW0;have y0:=HG.out.c 0 _ rfl;have y1:=HG.out.c 1 _ rfl
  have H2:=Bo (((H1.out.put 17 (.bool true) {s with r:={s.r with ch:=true}} rfl rfl rfl rfl rfl rfl).put 11 (.int .i64 3) {s with r:={s.r with ch:=true},st:=3} rfl rfl rfl rfl rfl rfl).put 23 (.bool true) {s with r:={s.r with ch:=true},st:=3,fresh:=true} rfl rfl rfl rfl rfl rfl)
  have HS2:=Bo ((D9 HB.out (L:=blks g q v (.slice bf s.r.fs.length cf) bd t o)).trans (((DB g 17 (.bool true) (by simp)).trans (DB g 11 (.int .i64 3) (by simp))).trans (DB g 23 (.bool true) (by simp))));have c11:=H1.out.cs.c11;have c17:=H1.out.cs.c17;have c23:=H1.out.cs.c23;have z11:=H1.out.marks 11;have z17:=H1.out.marks 17;have z23:=H1.out.marks 23;go_upto_region 6 with fail
  generalize ((W0.setCell ⟨g,17,none⟩ (.bool true)).setCell ⟨g,11,none⟩ (.int .i64 3)).setCell ⟨g,23,none⟩ (.bool true)=W1 at *;clear c11 c17 c23 z11 z17 z23 H1 HB HG y0 y1;obtain ⟨S1,hS1⟩:∃S1:S,{s with r:={s.r with ch:=true},st:=3,fresh:=true}=S1:=⟨_,rfl⟩;have HS1:=Bo hS1;rw [hS1] at H2;clear hS1
  have HQ:=Bo ((H2.out.drew 1).bk)
  have HBW:=Bo (show B≤(W1.drewN 1).heap.size from CT H2.out.own.ge (CP (H2.out.drew 1).own.lt));refine Each.region 11 [57,58,59,60,61,62,63,64,65,66,67]
   [eQ (.pointer (some ⟨g,0,none⟩)),
     eQ (.pointer (some ⟨g,0,none⟩)),
     eQ (.pointer (some ⟨g,0,none⟩)),
     eQ (.pointer (some ⟨g,0,none⟩)),
     eQ (.int .u32 (p:Int)),
     eQ (.pointer (some ⟨g,0,none⟩)),
     eQ (.pointer (some ⟨g,0,none⟩)),
     eQ (.pointer (some ⟨g,1,none⟩)),
     eQ (.pointer (some ⟨g,1,none⟩)),
     eQ (.int .i64 b.x0),
     fun v w=>∃q1,v=ptr q1∧W1.heap.size≤q1∧Ln.Rr w B q1 nil p (nl p (b.x0))]
   (.quiet 11 (.quiet 12 (.act 13 .done))) (by kernel_rfl) (by kernel_rfl) (by kernel_rfl) (by kernel_rfl) (fun _ _ d _ _ h=>by cases d<;>exact h) (by rfl) (by rfl)
   ⟨AI _,AI _,AI _,AI _,AI _,AI _,AI _,AI _,AI _,AI _,((fun _ _ _ hb h=>by obtain ⟨q1,e1,h1,h2⟩:=h;exact ⟨q1,e1,h1,rr_below h2 hb⟩)),trivial⟩ ?_ ?_
  ·refine ⟨?_,?_,?_,?_,?_,?_,?_,?_,?_,?_,?_,trivial⟩
   ·exact XXSdZ
   ·exact XXSdZ
   ·exact XXSdZ
   ·exact XXSdZ
   ·exact XXSdZ
   ·exact XXSdZ
   ·exact XXSdZ
   ·exact XXSdZ
   ·exact XXSdZ
   ·exact XXSdZ
   ·refine AJ rfl (fun ev w1 hR hb hh=>?_);have e61:(ev (.tmp 61)=.int .u32 (p:Int)):=hh.at 0;have e66:(ev (.tmp 66)=.int .i64 b.x0):=hh.at 1;exact XXQ1N
  intro g1 w2 hb hf;have z57:(g1 57=.pointer (some ⟨g,0,none⟩)):=hf.at 0;have z67:((fun v w=>∃q1,v=ptr q1∧W1.heap.size≤q1∧Ln.Rr w B q1 nil p (nl p (b.x0))) (g1 67) w2):=hf.at 10;clear hf;obtain ⟨q1,e1,hq1,hr1⟩:=z67;simp only [AM,Ab,C8,CB,CA];rw [e1,z57];simp only [DO,DP,BS,BR];refine DR (by rfl) (ptr g) (fun _ _=>by go_simp) ?_;simp only [Ab,C8,CB,CA];refine DR (by rfl) (.pointer (some ⟨g,12,none⟩)) (fun _ _=>by go_simp) ?_;simp only [Ab,C8,CB,CA];have c12:=(H2.out.below hb).cs.c12;have z12:=(H2.out.below hb).marks 12
  refine DM (by rfl) (fun K hK=>?_);go_simp;refine hK _ _ trivial ?_;clear hK K;refine DN ?_;have HL:=H2.out.line hb hr1 hq1
  have SL:=(Step.line (g:=g) (q:=q) (v:=v) (f:=(.slice bf s.r.fs.length cf)) (bd:=bd) (t:=t) (o:=o) hb hq1).trans (DB g 12 (ptr q1) (by simp));clear HQ HBW hr1 hq1 c12 z12;rw [←HS1.out] at HL;go_wp2;go_end0;exact ⟨rfl,q1,_,_,_,_,_,HL,HS2.out.trans SL⟩
 ·have HZ:=Bo (show∀w2,Below (w.drewN 1).heap.size (w.drewN 1) w2→Calls EG 218 #[.int .u32 (p:Int),.agg #[.int .i64 b.x0,.int .i64 b.x1,.int .i64 b.x2,.int .i64 b.x3,.int .i64 b.x4,.int .i64 b.x5,.int .i64 b.x6,.int .i64 b.x7,.bool b.ch,.bool b.od],.int .i64 s.r.k,.slice bf s.r.fs.length cf] w2 fun r w'=>r=.returned (.tuple #[.agg #[.int .i64 1,.int .i64 (n:Int)],.int .i64 0])∧Below w2.heap.size w2 w' from fun w2 hb=>by have:=hz w2 hb;rw [hD] at this;exact this);rcases CO n with hn | hn
  ·subst hn
   have HZ:=Bo (show∀w2,Below (w.drewN 1).heap.size (w.drewN 1) w2→Calls EG 218 #[.int .u32 (p:Int),.agg #[.int .i64 b.x0,.int .i64 b.x1,.int .i64 b.x2,.int .i64 b.x3,.int .i64 b.x4,.int .i64 b.x5,.int .i64 b.x6,.int .i64 b.x7,.bool b.ch,.bool b.od],.int .i64 s.r.k,.slice bf s.r.fs.length cf] w2 fun e w'=>e=.returned (.tuple #[.agg #[.int .i64 1,.int .i64 0],.int .i64 0])∧Below w2.heap.size w2 w' from fun w2 hb=>HZ.out w2 hb);have e:s.over p b=s.whole p b:=by unfold S.over;rw [hD];rfl
   rw [e];clear hz hD e hvd hle;go_enter Tryz.func201,Tryz.ntmps201;go_upto_region 0 with fail
   go_cut [2,3] from 4 to 25 (fun u c wx=>∃g2,u=ptr g2∧c=.int .i64 0∧Hid (Below w.heap.size w wx)∧Hid (Dr wx g2 [.int .i64 1,.int .i64 0])∧Hid (w.heap.size≤g2))
   case first=>
    refine AP 23 [5,6,7,8,9,10,11,12,13,14,15,16,17,18,19,20,21,22,23,4,24,25,2]
     [eQ (.pointer (some ⟨g,0,none⟩)),
       eQ (.pointer (some ⟨g,0,none⟩)),
       eQ (.pointer (some ⟨g,0,none⟩)),
       eQ (.int .u32 (p:Int)),
       eQ (.pointer (some ⟨g,0,none⟩)),
       eQ (.pointer (some ⟨g,0,none⟩)),
       eQ (.pointer (some ⟨g,1,none⟩)),
       eQ (.agg #[.int .i64 b.x0,.int .i64 b.x1,.int .i64 b.x2,.int .i64 b.x3,.int .i64 b.x4,.int .i64 b.x5,.int .i64 b.x6,.int .i64 b.x7,.bool b.ch,.bool b.od]),
       eQ (.pointer (some ⟨g,0,none⟩)),
       eQ (.pointer (some ⟨g,0,none⟩)),
       eQ (.pointer (some ⟨g,13,none⟩)),
       eQ (.pointer (some ⟨g,15,none⟩)),
       eQ (.int .i64 s.r.k),
       eQ (.pointer (some ⟨g,0,none⟩)),
       eQ (.pointer (some ⟨g,0,none⟩)),
       eQ (.pointer (some ⟨g,13,none⟩)),
       eQ (.pointer (some ⟨g,16,none⟩)),
       eQ (.slice bf s.r.fs.length cf),
       eQ (.tuple #[.agg #[.int .i64 1,.int .i64 0],.int .i64 0]),
       eQ (.tuple #[.agg #[.int .i64 1,.int .i64 0],.int .i64 0]),
       eQ (.agg #[.int .i64 1,.int .i64 0]),
       eQ (.int .i64 0),
       fun v u=>∃g2,v=ptr g2∧w.heap.size≤g2∧Dr u g2 [.int .i64 0,.int .i64 0]]
     [] 2 (some 21) (.act 23 (.quiet 24 .done)) (.quiet 21 (.act 23 (.quiet 24 .done))) (by kernel_rfl) (by kernel_rfl) (by kernel_rfl) (by kernel_rfl) (fun k0 h=>by cases h;kernel_rfl) (fun _ _ d _ _ h=>by cases d<;>exact h) (by rfl) (by rfl)
     ⟨AI _,AI _,AI _,AI _,AI _,AI _,AI _,AI _,AI _,AI _,AI _,AI _,AI _,AI _,AI _,AI _,AI _,AI _,AI _,AI _,AI _,AI _,((fun _ _ _ hb h=>by obtain ⟨g2,e1,h1,hB⟩:=h;exact ⟨g2,e1,h1,hB.below hb⟩)),trivial⟩ trivial (by rfl) ?_ ?_ ?_
    ·refine ⟨?_,?_,?_,?_,?_,?_,?_,?_,?_,?_,?_,?_,?_,?_,?_,?_,?_,?_,?_,?_,?_,?_,?_,trivial⟩
     ·exact XXUzV
     ·refine AJ rfl (fun ev w1 hR hb hh=>?_);have e5:(ev (.tmp 5)=.pointer (some ⟨g,0,none⟩)):=hh.at 0;clear hh;exact XXqTe
     ·refine AJ rfl (fun ev w1 hR hb hh=>?_);have e6:(ev (.tmp 6)=.pointer (some ⟨g,0,none⟩)):=hh.at 0;clear hh;exact XXqTe
     ·refine AJ rfl (fun ev w1 hR hb hh=>?_);have e7:(ev (.tmp 7)=.pointer (some ⟨g,0,none⟩)):=hh.at 0;clear hh;have q0:=(HQ.out.below hb).c 0 _ rfl;exact XXqTe
     ·exact XXUzV
     ·refine AJ rfl (fun ev w1 hR hb hh=>?_);have e9:(ev (.tmp 9)=.pointer (some ⟨g,0,none⟩)):=hh.at 0;clear hh;exact XXqTe
     ·refine AJ rfl (fun ev w1 hR hb hh=>?_);have e10:(ev (.tmp 10)=.pointer (some ⟨g,0,none⟩)):=hh.at 0;clear hh;exact XXqTe
     ·refine AJ rfl (fun ev w1 hR hb hh=>?_);have e11:(ev (.tmp 11)=.pointer (some ⟨g,1,none⟩)):=hh.at 0;clear hh;have q1:=(HQ.out.below hb).c 1 _ rfl;have q2:=(HQ.out.below hb).c 2 _ rfl;have q3:=(HQ.out.below hb).c 3 _ rfl;have q4:=(HQ.out.below hb).c 4 _ rfl;have q5:=(HQ.out.below hb).c 5 _ rfl;have q6:=(HQ.out.below hb).c 6 _ rfl;have q7:=(HQ.out.below hb).c 7 _ rfl;have q8:=(HQ.out.below hb).c 8 _ rfl;have q9:=(HQ.out.below hb).c 9 _ rfl;have q10:=(HQ.out.below hb).c 10 _ rfl;exact XXqTe
     ·exact XXUzV
     ·refine AJ rfl (fun ev w1 hR hb hh=>?_);have e13:(ev (.tmp 13)=.pointer (some ⟨g,0,none⟩)):=hh.at 0;clear hh;exact XXqTe
     ·refine AJ rfl (fun ev w1 hR hb hh=>?_);have e14:(ev (.tmp 14)=.pointer (some ⟨g,0,none⟩)):=hh.at 0;clear hh;exact XXqTe
     ·refine AJ rfl (fun ev w1 hR hb hh=>?_);have e15:(ev (.tmp 15)=.pointer (some ⟨g,13,none⟩)):=hh.at 0;clear hh;exact XXqTe
     ·refine AJ rfl (fun ev w1 hR hb hh=>?_);have e16:(ev (.tmp 16)=.pointer (some ⟨g,15,none⟩)):=hh.at 0;clear hh;have q15:=(HQ.out.below hb).c 15 _ rfl;exact XXqTe
     ·exact XXUzV
     ·refine AJ rfl (fun ev w1 hR hb hh=>?_);have e18:(ev (.tmp 18)=.pointer (some ⟨g,0,none⟩)):=hh.at 0;clear hh;exact XXqTe
     ·refine AJ rfl (fun ev w1 hR hb hh=>?_);have e19:(ev (.tmp 19)=.pointer (some ⟨g,0,none⟩)):=hh.at 0;clear hh;exact XXqTe
     ·refine AJ rfl (fun ev w1 hR hb hh=>?_);have e20:(ev (.tmp 20)=.pointer (some ⟨g,13,none⟩)):=hh.at 0;clear hh;exact XXqTe
     ·refine AJ rfl (fun ev w1 hR hb hh=>?_);have e21:(ev (.tmp 21)=.pointer (some ⟨g,16,none⟩)):=hh.at 0;clear hh;have q16:=(HQ.out.below hb).c 16 _ rfl;exact XXqTe
     ·exact XXXk7
     ·refine AJ rfl (fun ev w1 hR hb hh=>?_);have e23:(ev (.tmp 23)=.tuple #[.agg #[.int .i64 1,.int .i64 0],.int .i64 0]):=hh.at 0;clear hh;exact XXqTe
     ·refine AJ rfl (fun ev w1 hR hb hh=>?_);have e4:(ev (.tmp 4)=.tuple #[.agg #[.int .i64 1,.int .i64 0],.int .i64 0]):=hh.at 0;clear hh;exact XXqTe
     ·refine AJ rfl (fun ev w1 hR hb hh=>?_);have e4:(ev (.tmp 4)=.tuple #[.agg #[.int .i64 1,.int .i64 0],.int .i64 0]):=hh.at 0;clear hh;exact XXqTe
     ·exact XXj8f
    ·intro g1 w2 hb hf;have z4:(g1 4=.tuple #[.agg #[.int .i64 1,.int .i64 0],.int .i64 0]):=hf.at 19;have z24:(g1 24=.agg #[.int .i64 1,.int .i64 0]):=hf.at 20;have z25:(g1 25=.int .i64 0):=hf.at 21;have z2:((fun v u=>∃g2,v=ptr g2∧w.heap.size≤g2∧Dr u g2 [.int .i64 0,.int .i64 0]) (g1 2) w2):=hf.at 22;clear hf;obtain ⟨g2,e2,hg2,hB2⟩:=z2;simp only [AM,Ab,C8,CB,CA];rw [z4,z24,z25,e2];simp only [DO,DP,BS,BR];exact XX4U6
    ·intro k0 hk0 g1 w2 hb hf;cases hk0;have z4:(g1 4=.tuple #[.agg #[.int .i64 1,.int .i64 0],.int .i64 0]):=hf.at 19;have z24:(g1 24=.agg #[.int .i64 1,.int .i64 0]):=hf.at 20;have z2:((fun v u=>∃g2,v=ptr g2∧w.heap.size≤g2∧Dr u g2 [.int .i64 0,.int .i64 0]) (g1 2) w2):=hf.at 22;clear hf;obtain ⟨g2,e2,hg2,hB2⟩:=z2;simp only [AM,Ab,C8,CB,CA];rw [z4,z24,e2];simp only [DO,DP,BS,BR];refine DR (by rfl) (.int .i64 0) (fun _ _=>by go_simp) ?_;simp only [Ab,C8,CB,CA];exact XX4U6
   case rest=>
   obtain ⟨g2,rfl,rfl,HB,HG,HG2⟩:=hcut
   have H1:=Bo (H.out.below HB.out);clear HQ;obtain ⟨W0,hW0⟩:∃x,x=wc:=⟨_,rfl⟩;subst hW0;have y0:=HG.out.c 0 _ rfl;have y1:=HG.out.c 1 _ rfl
   have HW:=Bo (whole_any H1.out HO.out)
   go_wp2_with (go_at_call 174;with_reducible refine HW.out.mono ?_;rintro r w3 ⟨rfl,q1,o1,hP,hS⟩);go_end0;exact ⟨rfl,q1,_,_,_,_,o1,hP,(D9 HB.out).trans hS⟩
  ·have tz:¬(n:Int)=0:=by omega
   have tz':((n:Int)==0)=false:=beq_eq_false_iff_ne.2 tz;have e:s.over p b={s with st:=2,left:=n,fresh:=true}:=by unfold S.over;rw [hD];show (if (0:Int)≠0 then _ else if (1:Int)=2 then _ else if (n:Int)=0 then _ else ({s with st:=2,left:=(n:Int).toNat,fresh:=true}:S))= _;rw [if_neg (by decide),if_neg (by decide),if_neg tz,Int.toNat_natCast]
   rw [e];clear hz hD e hvd hle hn;go_enter Tryz.func201,Tryz.ntmps201;go_upto_region 0 with fail
   go_cut [2,3] from 4 to 25 (fun u c wx=>∃g2,u=ptr g2∧c=.int .i64 0∧Hid (Below w.heap.size w wx)∧Hid (Dr wx g2 [.int .i64 1,.int .i64 (n:Int)])∧Hid (w.heap.size≤g2))
   case first=>
    refine AP 23 [5,6,7,8,9,10,11,12,13,14,15,16,17,18,19,20,21,22,23,4,24,25,2]
     [eQ (.pointer (some ⟨g,0,none⟩)),
       eQ (.pointer (some ⟨g,0,none⟩)),
       eQ (.pointer (some ⟨g,0,none⟩)),
       eQ (.int .u32 (p:Int)),
       eQ (.pointer (some ⟨g,0,none⟩)),
       eQ (.pointer (some ⟨g,0,none⟩)),
       eQ (.pointer (some ⟨g,1,none⟩)),
       eQ (.agg #[.int .i64 b.x0,.int .i64 b.x1,.int .i64 b.x2,.int .i64 b.x3,.int .i64 b.x4,.int .i64 b.x5,.int .i64 b.x6,.int .i64 b.x7,.bool b.ch,.bool b.od]),
       eQ (.pointer (some ⟨g,0,none⟩)),
       eQ (.pointer (some ⟨g,0,none⟩)),
       eQ (.pointer (some ⟨g,13,none⟩)),
       eQ (.pointer (some ⟨g,15,none⟩)),
       eQ (.int .i64 s.r.k),
       eQ (.pointer (some ⟨g,0,none⟩)),
       eQ (.pointer (some ⟨g,0,none⟩)),
       eQ (.pointer (some ⟨g,13,none⟩)),
       eQ (.pointer (some ⟨g,16,none⟩)),
       eQ (.slice bf s.r.fs.length cf),
       eQ (.tuple #[.agg #[.int .i64 1,.int .i64 (n:Int)],.int .i64 0]),
       eQ (.tuple #[.agg #[.int .i64 1,.int .i64 (n:Int)],.int .i64 0]),
       eQ (.agg #[.int .i64 1,.int .i64 (n:Int)]),
       eQ (.int .i64 0),
       fun v u=>∃g2,v=ptr g2∧w.heap.size≤g2∧Dr u g2 [.int .i64 0,.int .i64 0]]
     [] 2 (some 21) (.act 23 (.quiet 24 .done)) (.quiet 21 (.act 23 (.quiet 24 .done))) (by kernel_rfl) (by kernel_rfl) (by kernel_rfl) (by kernel_rfl) (fun k0 h=>by cases h;kernel_rfl) (fun _ _ d _ _ h=>by cases d<;>exact h) (by rfl) (by rfl)
     ⟨AI _,AI _,AI _,AI _,AI _,AI _,AI _,AI _,AI _,AI _,AI _,AI _,AI _,AI _,AI _,AI _,AI _,AI _,AI _,AI _,AI _,AI _,((fun _ _ _ hb h=>by obtain ⟨g2,e1,h1,hB⟩:=h;exact ⟨g2,e1,h1,hB.below hb⟩)),trivial⟩ trivial (by rfl) ?_ ?_ ?_
    ·refine ⟨?_,?_,?_,?_,?_,?_,?_,?_,?_,?_,?_,?_,?_,?_,?_,?_,?_,?_,?_,?_,?_,?_,?_,trivial⟩
     ·exact XXUzV
     ·refine AJ rfl (fun ev w1 hR hb hh=>?_);have e5:(ev (.tmp 5)=.pointer (some ⟨g,0,none⟩)):=hh.at 0;clear hh;exact XXqTe
     ·refine AJ rfl (fun ev w1 hR hb hh=>?_);have e6:(ev (.tmp 6)=.pointer (some ⟨g,0,none⟩)):=hh.at 0;clear hh;exact XXqTe
     ·refine AJ rfl (fun ev w1 hR hb hh=>?_);have e7:(ev (.tmp 7)=.pointer (some ⟨g,0,none⟩)):=hh.at 0;clear hh;have q0:=(HQ.out.below hb).c 0 _ rfl;exact XXqTe
     ·exact XXUzV
     ·refine AJ rfl (fun ev w1 hR hb hh=>?_);have e9:(ev (.tmp 9)=.pointer (some ⟨g,0,none⟩)):=hh.at 0;clear hh;exact XXqTe
     ·refine AJ rfl (fun ev w1 hR hb hh=>?_);have e10:(ev (.tmp 10)=.pointer (some ⟨g,0,none⟩)):=hh.at 0;clear hh;exact XXqTe
     ·refine AJ rfl (fun ev w1 hR hb hh=>?_);have e11:(ev (.tmp 11)=.pointer (some ⟨g,1,none⟩)):=hh.at 0;clear hh;have q1:=(HQ.out.below hb).c 1 _ rfl;have q2:=(HQ.out.below hb).c 2 _ rfl;have q3:=(HQ.out.below hb).c 3 _ rfl;have q4:=(HQ.out.below hb).c 4 _ rfl;have q5:=(HQ.out.below hb).c 5 _ rfl;have q6:=(HQ.out.below hb).c 6 _ rfl;have q7:=(HQ.out.below hb).c 7 _ rfl;have q8:=(HQ.out.below hb).c 8 _ rfl;have q9:=(HQ.out.below hb).c 9 _ rfl;have q10:=(HQ.out.below hb).c 10 _ rfl;exact XXqTe
     ·exact XXUzV
     ·refine AJ rfl (fun ev w1 hR hb hh=>?_);have e13:(ev (.tmp 13)=.pointer (some ⟨g,0,none⟩)):=hh.at 0;clear hh;exact XXqTe
     ·refine AJ rfl (fun ev w1 hR hb hh=>?_);have e14:(ev (.tmp 14)=.pointer (some ⟨g,0,none⟩)):=hh.at 0;clear hh;exact XXqTe
     ·refine AJ rfl (fun ev w1 hR hb hh=>?_);have e15:(ev (.tmp 15)=.pointer (some ⟨g,13,none⟩)):=hh.at 0;clear hh;exact XXqTe
     ·refine AJ rfl (fun ev w1 hR hb hh=>?_);have e16:(ev (.tmp 16)=.pointer (some ⟨g,15,none⟩)):=hh.at 0;clear hh;have q15:=(HQ.out.below hb).c 15 _ rfl;exact XXqTe
     ·exact XXUzV
     ·refine AJ rfl (fun ev w1 hR hb hh=>?_);have e18:(ev (.tmp 18)=.pointer (some ⟨g,0,none⟩)):=hh.at 0;clear hh;exact XXqTe
     ·refine AJ rfl (fun ev w1 hR hb hh=>?_);have e19:(ev (.tmp 19)=.pointer (some ⟨g,0,none⟩)):=hh.at 0;clear hh;exact XXqTe
     ·refine AJ rfl (fun ev w1 hR hb hh=>?_);have e20:(ev (.tmp 20)=.pointer (some ⟨g,13,none⟩)):=hh.at 0;clear hh;exact XXqTe
     ·refine AJ rfl (fun ev w1 hR hb hh=>?_);have e21:(ev (.tmp 21)=.pointer (some ⟨g,16,none⟩)):=hh.at 0;clear hh;have q16:=(HQ.out.below hb).c 16 _ rfl;exact XXqTe
     ·exact XXXk7
     ·refine AJ rfl (fun ev w1 hR hb hh=>?_);have e23:(ev (.tmp 23)=.tuple #[.agg #[.int .i64 1,.int .i64 (n:Int)],.int .i64 0]):=hh.at 0;clear hh;exact XXqTe
     ·refine AJ rfl (fun ev w1 hR hb hh=>?_);have e4:(ev (.tmp 4)=.tuple #[.agg #[.int .i64 1,.int .i64 (n:Int)],.int .i64 0]):=hh.at 0;clear hh;exact XXqTe
     ·refine AJ rfl (fun ev w1 hR hb hh=>?_);have e4:(ev (.tmp 4)=.tuple #[.agg #[.int .i64 1,.int .i64 (n:Int)],.int .i64 0]):=hh.at 0;clear hh;exact XXqTe
     ·exact XXj8f
    ·intro g1 w2 hb hf;have z4:(g1 4=.tuple #[.agg #[.int .i64 1,.int .i64 (n:Int)],.int .i64 0]):=hf.at 19;have z24:(g1 24=.agg #[.int .i64 1,.int .i64 (n:Int)]):=hf.at 20;have z25:(g1 25=.int .i64 0):=hf.at 21;have z2:((fun v u=>∃g2,v=ptr g2∧w.heap.size≤g2∧Dr u g2 [.int .i64 0,.int .i64 0]) (g1 2) w2):=hf.at 22;clear hf;obtain ⟨g2,e2,hg2,hB2⟩:=z2;simp only [AM,Ab,C8,CB,CA];rw [z4,z24,z25,e2];simp only [DO,DP,BS,BR];exact XXsvP
    ·intro k0 hk0 g1 w2 hb hf;cases hk0;have z4:(g1 4=.tuple #[.agg #[.int .i64 1,.int .i64 (n:Int)],.int .i64 0]):=hf.at 19;have z24:(g1 24=.agg #[.int .i64 1,.int .i64 (n:Int)]):=hf.at 20;have z2:((fun v u=>∃g2,v=ptr g2∧w.heap.size≤g2∧Dr u g2 [.int .i64 0,.int .i64 0]) (g1 2) w2):=hf.at 22;clear hf;obtain ⟨g2,e2,hg2,hB2⟩:=z2;simp only [AM,Ab,C8,CB,CA];rw [z4,z24,e2];simp only [DO,DP,BS,BR];refine DR (by rfl) (.int .i64 0) (fun _ _=>by go_simp) ?_;simp only [Ab,C8,CB,CA];exact XXsvP
   case rest=>
   obtain ⟨g2,rfl,rfl,HB,HG,HG2⟩:=hcut
   have H1:=Bo (H.out.below HB.out);clear HQ;obtain ⟨W0,hW0⟩:∃x,x=wc:=⟨_,rfl⟩;subst hW0;have y0:=HG.out.c 0 _ rfl;have y1:=HG.out.c 1 _ rfl
   have H2:=Bo (((H1.out.put 11 (.int .i64 2) {s with st:=2} rfl rfl rfl rfl rfl rfl).put 22 (.int .i64 (n:Int)) {s with st:=2,left:=n} rfl rfl rfl rfl rfl rfl).put 23 (.bool true) {s with st:=2,left:=n,fresh:=true} rfl rfl rfl rfl rfl rfl);have c11:=H1.out.cs.c11;have c22:=H1.out.cs.c22;have c23:=H1.out.cs.c23;have z11:=H1.out.marks 11;have z22:=H1.out.marks 22;have z23:=H1.out.marks 23
   have HS2:=Bo ((D9 HB.out (L:=blks g q v (.slice bf s.r.fs.length cf) bd t o)).trans (((DB g 11 (.int .i64 2) (by simp)).trans (DB g 22 (.int .i64 (n:Int)) (by simp))).trans (DB g 23 (.bool true) (by simp))));have hne:¬g2=g:=by have h1:=H.out.own.lt;have h2:=HG2.out;omega
   have hne':¬g=g2:=fun e=>hne e.symm;clear H1;go_upto_region 1 with fail
   go_region
   have H3:=Bo (H2.out.drew 1);have HS3:=Bo (HS2.out.trans (D9 (Aj (Am _ _) 1)));clear c11 c22 c23 z11 z22 z23 H2 HS2;go_wp2;go_end0;exact ⟨rfl,_,_,_,_,_,_,H3.out,HS3.out⟩
 ·have HZ:=Bo (show∀w2,Below (w.drewN 1).heap.size (w.drewN 1) w2→Calls EG 218 #[.int .u32 (p:Int),.agg #[.int .i64 b.x0,.int .i64 b.x1,.int .i64 b.x2,.int .i64 b.x3,.int .i64 b.x4,.int .i64 b.x5,.int .i64 b.x6,.int .i64 b.x7,.bool b.ch,.bool b.od],.int .i64 s.r.k,.slice bf s.r.fs.length cf] w2 fun r w'=>r=.returned (.tuple #[.agg #[.int .i64 0,.int .i64 0],.int .i64 (e:Int)])∧Below w2.heap.size w2 w' from fun w2 hb=>by have:=hz w2 hb;rw [hD] at this;exact this);have tz:¬(e:Int)=0:=by omega
  have tz':((e:Int)==0)=false:=beq_eq_false_iff_ne.2 tz;have e1:s.over p b=s.fail e:=by unfold S.over;rw [hD];show (if (e:Int)≠0 then s.fail (e:Int).toNat else _)= _;rw [if_pos tz,Int.toNat_natCast]
  rw [e1];clear hz hD e1 hvd he;go_enter Tryz.func201,Tryz.ntmps201;go_upto_region 0 with fail
  go_cut [2,3] from 4 to 25 (fun u c wx=>∃g2,u=ptr g2∧c=.int .i64 (e:Int)∧Hid (Below w.heap.size w wx)∧Hid (Dr wx g2 [.int .i64 0,.int .i64 0])∧Hid (w.heap.size≤g2))
  case first=>
   refine AP 23 [5,6,7,8,9,10,11,12,13,14,15,16,17,18,19,20,21,22,23,4,24,25,2]
    [eQ (.pointer (some ⟨g,0,none⟩)),
      eQ (.pointer (some ⟨g,0,none⟩)),
      eQ (.pointer (some ⟨g,0,none⟩)),
      eQ (.int .u32 (p:Int)),
      eQ (.pointer (some ⟨g,0,none⟩)),
      eQ (.pointer (some ⟨g,0,none⟩)),
      eQ (.pointer (some ⟨g,1,none⟩)),
      eQ (.agg #[.int .i64 b.x0,.int .i64 b.x1,.int .i64 b.x2,.int .i64 b.x3,.int .i64 b.x4,.int .i64 b.x5,.int .i64 b.x6,.int .i64 b.x7,.bool b.ch,.bool b.od]),
      eQ (.pointer (some ⟨g,0,none⟩)),
      eQ (.pointer (some ⟨g,0,none⟩)),
      eQ (.pointer (some ⟨g,13,none⟩)),
      eQ (.pointer (some ⟨g,15,none⟩)),
      eQ (.int .i64 s.r.k),
      eQ (.pointer (some ⟨g,0,none⟩)),
      eQ (.pointer (some ⟨g,0,none⟩)),
      eQ (.pointer (some ⟨g,13,none⟩)),
      eQ (.pointer (some ⟨g,16,none⟩)),
      eQ (.slice bf s.r.fs.length cf),
      eQ (.tuple #[.agg #[.int .i64 0,.int .i64 0],.int .i64 (e:Int)]),
      eQ (.tuple #[.agg #[.int .i64 0,.int .i64 0],.int .i64 (e:Int)]),
      eQ (.agg #[.int .i64 0,.int .i64 0]),
      eQ (.int .i64 (e:Int)),
      fun v u=>∃g2,v=ptr g2∧w.heap.size≤g2∧Dr u g2 [.int .i64 0,.int .i64 0]]
    [] 2 (some 21) (.act 23 (.quiet 24 .done)) (.quiet 21 (.act 23 (.quiet 24 .done))) (by kernel_rfl) (by kernel_rfl) (by kernel_rfl) (by kernel_rfl) (fun k0 h=>by cases h;kernel_rfl) (fun _ _ d _ _ h=>by cases d<;>exact h) (by rfl) (by rfl)
    ⟨AI _,AI _,AI _,AI _,AI _,AI _,AI _,AI _,AI _,AI _,AI _,AI _,AI _,AI _,AI _,AI _,AI _,AI _,AI _,AI _,AI _,AI _,((fun _ _ _ hb h=>by obtain ⟨g2,e1,h1,hB⟩:=h;exact ⟨g2,e1,h1,hB.below hb⟩)),trivial⟩ trivial (by rfl) ?_ ?_ ?_
   ·refine ⟨?_,?_,?_,?_,?_,?_,?_,?_,?_,?_,?_,?_,?_,?_,?_,?_,?_,?_,?_,?_,?_,?_,?_,trivial⟩
    ·exact XXUzV
    ·refine AJ rfl (fun ev w1 hR hb hh=>?_);have e5:(ev (.tmp 5)=.pointer (some ⟨g,0,none⟩)):=hh.at 0;clear hh;exact XXqTe
    ·refine AJ rfl (fun ev w1 hR hb hh=>?_);have e6:(ev (.tmp 6)=.pointer (some ⟨g,0,none⟩)):=hh.at 0;clear hh;exact XXqTe
    ·refine AJ rfl (fun ev w1 hR hb hh=>?_);have e7:(ev (.tmp 7)=.pointer (some ⟨g,0,none⟩)):=hh.at 0;clear hh;have q0:=(HQ.out.below hb).c 0 _ rfl;exact XXqTe
    ·exact XXUzV
    ·refine AJ rfl (fun ev w1 hR hb hh=>?_);have e9:(ev (.tmp 9)=.pointer (some ⟨g,0,none⟩)):=hh.at 0;clear hh;exact XXqTe
    ·refine AJ rfl (fun ev w1 hR hb hh=>?_);have e10:(ev (.tmp 10)=.pointer (some ⟨g,0,none⟩)):=hh.at 0;clear hh;exact XXqTe
    ·refine AJ rfl (fun ev w1 hR hb hh=>?_);have e11:(ev (.tmp 11)=.pointer (some ⟨g,1,none⟩)):=hh.at 0;clear hh;have q1:=(HQ.out.below hb).c 1 _ rfl;have q2:=(HQ.out.below hb).c 2 _ rfl;have q3:=(HQ.out.below hb).c 3 _ rfl;have q4:=(HQ.out.below hb).c 4 _ rfl;have q5:=(HQ.out.below hb).c 5 _ rfl;have q6:=(HQ.out.below hb).c 6 _ rfl;have q7:=(HQ.out.below hb).c 7 _ rfl;have q8:=(HQ.out.below hb).c 8 _ rfl;have q9:=(HQ.out.below hb).c 9 _ rfl;have q10:=(HQ.out.below hb).c 10 _ rfl;exact XXqTe
    ·exact XXUzV
    ·refine AJ rfl (fun ev w1 hR hb hh=>?_);have e13:(ev (.tmp 13)=.pointer (some ⟨g,0,none⟩)):=hh.at 0;clear hh;exact XXqTe
    ·refine AJ rfl (fun ev w1 hR hb hh=>?_);have e14:(ev (.tmp 14)=.pointer (some ⟨g,0,none⟩)):=hh.at 0;clear hh;exact XXqTe
    ·refine AJ rfl (fun ev w1 hR hb hh=>?_);have e15:(ev (.tmp 15)=.pointer (some ⟨g,13,none⟩)):=hh.at 0;clear hh;exact XXqTe
    ·refine AJ rfl (fun ev w1 hR hb hh=>?_);have e16:(ev (.tmp 16)=.pointer (some ⟨g,15,none⟩)):=hh.at 0;clear hh;have q15:=(HQ.out.below hb).c 15 _ rfl;exact XXqTe
    ·exact XXUzV
    ·refine AJ rfl (fun ev w1 hR hb hh=>?_);have e18:(ev (.tmp 18)=.pointer (some ⟨g,0,none⟩)):=hh.at 0;clear hh;exact XXqTe
    ·refine AJ rfl (fun ev w1 hR hb hh=>?_);have e19:(ev (.tmp 19)=.pointer (some ⟨g,0,none⟩)):=hh.at 0;clear hh;exact XXqTe
    ·refine AJ rfl (fun ev w1 hR hb hh=>?_);have e20:(ev (.tmp 20)=.pointer (some ⟨g,13,none⟩)):=hh.at 0;clear hh;exact XXqTe
    ·refine AJ rfl (fun ev w1 hR hb hh=>?_);have e21:(ev (.tmp 21)=.pointer (some ⟨g,16,none⟩)):=hh.at 0;clear hh;have q16:=(HQ.out.below hb).c 16 _ rfl;exact XXqTe
    ·exact XXXk7
    ·refine AJ rfl (fun ev w1 hR hb hh=>?_);have e23:(ev (.tmp 23)=.tuple #[.agg #[.int .i64 0,.int .i64 0],.int .i64 (e:Int)]):=hh.at 0;clear hh;exact XXqTe
    ·refine AJ rfl (fun ev w1 hR hb hh=>?_);have e4:(ev (.tmp 4)=.tuple #[.agg #[.int .i64 0,.int .i64 0],.int .i64 (e:Int)]):=hh.at 0;clear hh;exact XXqTe
    ·refine AJ rfl (fun ev w1 hR hb hh=>?_);have e4:(ev (.tmp 4)=.tuple #[.agg #[.int .i64 0,.int .i64 0],.int .i64 (e:Int)]):=hh.at 0;clear hh;exact XXqTe
    ·exact XXj8f
   ·intro g1 w2 hb hf;have z4:(g1 4=.tuple #[.agg #[.int .i64 0,.int .i64 0],.int .i64 (e:Int)]):=hf.at 19;have z24:(g1 24=.agg #[.int .i64 0,.int .i64 0]):=hf.at 20;have z25:(g1 25=.int .i64 (e:Int)):=hf.at 21;have z2:((fun v u=>∃g2,v=ptr g2∧w.heap.size≤g2∧Dr u g2 [.int .i64 0,.int .i64 0]) (g1 2) w2):=hf.at 22;clear hf;obtain ⟨g2,e2,hg2,hB2⟩:=z2;simp only [AM,Ab,C8,CB,CA];rw [z4,z24,z25,e2];simp only [DO,DP,BS,BR];exact XX0H4
   ·intro k0 hk0 g1 w2 hb hf;cases hk0;have z4:(g1 4=.tuple #[.agg #[.int .i64 0,.int .i64 0],.int .i64 (e:Int)]):=hf.at 19;have z24:(g1 24=.agg #[.int .i64 0,.int .i64 0]):=hf.at 20;have z2:((fun v u=>∃g2,v=ptr g2∧w.heap.size≤g2∧Dr u g2 [.int .i64 0,.int .i64 0]) (g1 2) w2):=hf.at 22;clear hf;obtain ⟨g2,e2,hg2,hB2⟩:=z2;simp only [AM,Ab,C8,CB,CA];rw [z4,z24,e2];simp only [DO,DP,BS,BR];refine DR (by rfl) (.int .i64 (e:Int)) (fun _ _=>by go_simp) ?_;simp only [Ab,C8,CB,CA];exact XX0H4
  case rest=>
  obtain ⟨g2,rfl,rfl,HB,HG,HG2⟩:=hcut
  have H1:=Bo (H.out.below HB.out);clear HQ;obtain ⟨W0,hW0⟩:∃x,x=wc:=⟨_,rfl⟩;subst hW0;have y0:=HG.out.c 0 _ rfl;have y1:=HG.out.c 1 _ rfl
  have HFA:=Bo (fail_any H1.out e);exact XXWJz
end code
end Go.Proofs.YtldhlecknfomjaaGreatDoor.Par
namespace Go.Proofs.YtldhlecknfomjaaGreatDoor.Chk
open Go.RowKit Base Txt
theorem marks_tab:∀k:Fin 256,(lowB (UInt8.ofNat k.val)=48↔UInt8.ofNat k.val=48)∧(lowB (UInt8.ofNat k.val)=120↔(UInt8.ofNat k.val=120∨UInt8.ofNat k.val=88)):=by decide +kernel
theorem low_mark (b:UInt8):(lowB b=48↔b=48)∧(lowB b=120↔(b=120∨b=88)):=by have h:=marks_tab ⟨b.toNat,b.toNat_lt⟩;simpa using h
theorem same_two (X:ByteArray) (h:X.size=2):same X ⟨#[48,120]⟩=true↔(X=⟨#[48,120]⟩∨X=⟨#[48,88]⟩):=by
 obtain ⟨a,b,hab⟩:∃a b,X.data.toList= [a,b]:=by
  rw [←len] at h
  match hx:X.data.toList,h with
  | [a,b],_=>exact ⟨a,b,rfl⟩
 have e:∀c d:UInt8,X=⟨#[c,d]⟩↔(a=c∧b=d):=fun c d=>by
  constructor
  ·intro hX;subst hX;simpa using hab.symm
  ·rintro ⟨rfl,rfl⟩;exact ba_ext (by rw [hab])
 rw [e,e];unfold same;rw [beq_iff_eq,hab];have h1:=low_mark a;have h2:=low_mark b;show [lowB a,lowB b]= [lowB 48,lowB 120]↔_;rw [show lowB 48=48 from by decide +kernel,show lowB 120=120 from by decide +kernel];simp only [List.cons.injEq,and_true];rw [h1.1,h2.2];constructor
 ·rintro ⟨x,y | y⟩
  ·exact .inl ⟨x,y⟩
  ·exact .inr ⟨x,y⟩
 ·rintro (⟨x,y⟩ | ⟨x,y⟩)
  ·exact ⟨x,.inl y⟩
  ·exact ⟨x,.inr y⟩
section code
set_option maxHeartbeats 8000000
set_option maxRecDepth 100000
attribute [local go_sem] Al
theorem XXIt0 {P:Prop} (h:P:=by
 have HT:=Bo (fun w=>rtrim_any C w (by unfold maxLen;omega));have ht:(trim C).size≤C.size:=trim_size _ _
 have HZ:Hid (ba SL=(if b7=true then ba (bare (if b8=true then trim C else C).data.toList) else (if b8=true then trim C else C))):=Bo (by rw [HCS.out];cases b8<;>cases b7<;>rfl)
 generalize ba SL=Z at *;clear HCS;obtain ⟨T,hTz,HC⟩:∃T:ByteArray,T.size≤1000000000∧Hid (T=if b8=true then trim C else C):=by
  cases b8 with
  | true=>exact ⟨trim C,by omega,Bo rfl⟩
  | false=>exact ⟨C,HC0,Bo rfl⟩
 rw [←HC.out] at HZ;have hT8:(b8=true∧trim C=T)∨(b8=false∧C=T):=by
  cases b8 with
  | true=>exact .inl ⟨rfl,HC.out.symm⟩
  | false=>exact .inr ⟨rfl,HC.out.symm⟩
 have HT8:=Bo hT8;clear hT8 HC ht HC0
 go_upto_if 42 with (go_at_call 67;with_reducible refine Cm (H8.out _) ?_)
 go_cut [8] from 43 to 44 (fun v wx=>v=.string T∧wx=w1)
 case first=>
  clear HN hcase' HBX HZ H7 hTz;rcases HT8.out with ⟨rfl,ht⟩ | ⟨rfl,rfl⟩
  ·rw [ht] at HT;clear ht HT8
   go_wp2_with (go_at_call 113;with_reducible refine Cm (HT.out _) ?_);go_meet
   case rel=>exact ⟨rfl,rfl⟩
  ·clear HT8 HT;go_wp2_with fail;go_meet
   case rel=>exact ⟨rfl,rfl⟩
 case rest=>
  obtain ⟨rfl,hw0⟩:=hcut;rw [hw0];clear hw0 HT HT8 H8;have hway:∃bm:Bool,(bm=true→2≤T.size)∧Z=(if bm=true then T.extract 2 T.size else T)∧((b7=false∧bm=false)∨(b7=true∧T.size<2∧bm=false)∨(b7=true∧2≤T.size∧T.extract 0 2=⟨#[48,120]⟩∧bm=true)∨(b7=true∧2≤T.size∧T.extract 0 2=⟨#[48,88]⟩∧bm=true)∨(b7=true∧2≤T.size∧¬T.extract 0 2=⟨#[48,120]⟩∧¬T.extract 0 2=⟨#[48,88]⟩∧bm=false)):=by
   have hz:=HZ.out;have e0:ba T.data.toList=T:=ba_ext rfl;cases b7 with
   | false=>exact ⟨false,by simp,hz,.inl ⟨rfl,rfl⟩⟩
   | true=>
     rw [if_pos rfl] at hz;rcases CV T.size 2 with h2 | h2
     ·refine ⟨false,by simp,?_,.inr (.inl ⟨rfl,h2,rfl⟩)⟩;rw [hz,if_neg (by decide)];unfold bare marked;rw [len,decide_eq_false (by omega),As,if_neg (by decide),e0]
     ·have hx:T.extract 0 2=ba (T.data.toList.take 2):=ba_ext (by rw [Bl];simp [ba])
      have hx2:T.extract 2 T.size=ba (T.data.toList.drop 2):=ba_ext (by rw [Bl,CE (by rw [Ck,len];omega)];rfl);have hsz:(T.extract 0 2).size=2:=by rw [hx,←len];show (T.data.toList.take 2).length=2;rw [Ct,len];omega
      have em:bare T.data.toList=if same (T.extract 0 2) ⟨#[48,120]⟩=true then T.data.toList.drop 2 else T.data.toList:=by unfold bare marked;rw [len,decide_eq_true h2,Az,hx]
      rw [em] at hz;by_cases q1:T.extract 0 2=⟨#[48,120]⟩
      ·rw [if_pos ((same_two _ hsz).2 (.inl q1)),←hx2] at hz;exact ⟨true,fun _=>h2,hz,.inr (.inr (.inl ⟨rfl,h2,q1,rfl⟩))⟩
      ·by_cases q2:T.extract 0 2=⟨#[48,88]⟩
       ·rw [if_pos ((same_two _ hsz).2 (.inr q2)),←hx2] at hz;exact ⟨true,fun _=>h2,hz,.inr (.inr (.inr (.inl ⟨rfl,h2,q2,rfl⟩)))⟩
       ·have hnn:¬same (T.extract 0 2) ⟨#[48,120]⟩=true:=fun h=>((same_two _ hsz).1 h).elim q1 q2;rw [if_neg hnn,e0] at hz;exact ⟨false,by simp,hz,.inr (.inr (.inr (.inr ⟨rfl,h2,q1,q2,rfl⟩)))⟩
  obtain ⟨bm,hbm,hZ,hway⟩:=hway;have HW:=Bo hway;have HBM:=Bo hbm;have HZZ:=Bo hZ;clear hway hbm hZ HZ hTz;go_upto_region 11 with fail
  go_cut [61] from 45 to 61 (fun v wx=>v=.bool bm∧wx=w1)
  case first=>
   clear HN hcase' HBX HZZ HBM;rcases HW.out with ⟨rfl,rfl⟩ | ⟨rfl,h2,rfl⟩ | ⟨rfl,h2,q1,rfl⟩ | ⟨rfl,h2,q1,rfl⟩ | ⟨rfl,h2,q1,q2,rfl⟩
   ·clear HW
    go_wp2_with (go_at_call 67;with_reducible refine Cm (H7.out _) ?_);go_meet
    case rel=>exact ⟨rfl,rfl⟩
   ·clear HW
    have d1:decide ((1:Int)<(T.size:Int))=false:=decide_eq_false (by omega)
    go_wp2_with (go_at_call 67;with_reducible refine Cm (H7.out _) ?_);go_meet
    case rel=>exact ⟨rfl,rfl⟩
   ·clear HW
    have d1:decide ((1:Int)<(T.size:Int))=true:=decide_eq_true (by omega);have d2:(2:Int)≤(T.size:Int):=by omega
    go_wp2_with (go_at_call 67;with_reducible refine Cm (H7.out _) ?_);go_meet
    case rel=>exact ⟨rfl,rfl⟩
   ·clear HW
    have d1:decide ((1:Int)<(T.size:Int))=true:=decide_eq_true (by omega);have d2:(2:Int)≤(T.size:Int):=by omega
    go_wp2_with (go_at_call 67;with_reducible refine Cm (H7.out _) ?_);go_meet
    case rel=>exact ⟨rfl,rfl⟩
   ·clear HW
    have d1:decide ((1:Int)<(T.size:Int))=true:=decide_eq_true (by omega);have d2:(2:Int)≤(T.size:Int):=by omega
    have f3:¬(T.extract 0 2).toList= [48,120]:=fun h=>q1 (ba_ext (by rw [←AW,h]));have f1:((T.extract 0 2).toList == [48,120])=false:=beq_eq_false_iff_ne.2 f3
    have f4:¬(T.extract 0 2).toList= [48,88]:=fun h=>q2 (ba_ext (by rw [←AW,h]))
    go_wp2_with (go_at_call 67;with_reducible refine Cm (H7.out _) ?_);go_meet
    case rel=>first | exact ⟨rfl,rfl⟩ | exact ⟨by rw [beq_eq_false_iff_ne.2 f4],rfl⟩ | exact ⟨by rw [f1,beq_eq_false_iff_ne.2 f4];rfl,rfl⟩
  case rest=>
   obtain ⟨rfl,hw0⟩:=hcut;rw [hw0];clear hw0 HW H7;obtain ⟨⟨q0,q1,q2,q3,q4,q5,q6,q7,q8,q9⟩,hlt,hbk⟩:=HBX.out;clear q0 q1 q2 q4 q5 q6 q7 q8 q9 hlt;have hz:=HZZ.out;cases bm with
   | false=>
     rw [if_neg (by decide)] at hz;rw [hz] at HN;clear hz HZZ HBM;rcases hcase'.out with ⟨rfl,rfl⟩ | ⟨t1,rfl,rfl⟩ | ⟨t1,t2,rfl⟩;all_goals
      go_wp2_with (go_at_call 241;with_reducible refine Cm (HN.out _) ?_);go_ret2;exact ⟨rfl,hbk⟩
   | true=>
     rw [if_pos rfl] at hz;rw [hz] at HN;have h2:=HBM.out rfl;have d2:(2:Int)≤(T.size:Int):=by omega
     clear hz HZZ HBM;rcases hcase'.out with ⟨rfl,rfl⟩ | ⟨t1,rfl,rfl⟩ | ⟨t1,t2,rfl⟩;all_goals
      go_wp2_with (go_at_call 241;with_reducible refine Cm (HN.out _) ?_);go_ret2
      exact ⟨rfl,hbk⟩):P:=h
theorem XXMk8 {P:Prop} (h:P:=by
 go_wp2_with fail;go_roundw
 case rel=>first | exact ⟨k+1,by omega,rfl,rfl,by go_num,rfl⟩ | exact ⟨k+1,by omega,rfl,rfl,by go_num,trivial⟩
 case measure=>simp [intOf];omega):P:=h
theorem rsize_any (s:ByteArray) (p:Nat) (hp:p<4294967296) (x0 x1 x2 x3 x4 x5 x6 x7:Int) (ch od:Bool) (h3:x3≤9223372036854775807) (h4:0≤x4) (w:World) (hs:s.size≤1000000000) :
 Calls EG 221 #[.string s,.int .u32 (p:Nat),Bnd.bnd x0 x1 x2 x3 x4 x5 x6 x7 ch od] w fun e w'=>e=.returned (.tuple #[.int .i64 (sizeV (Do p 27) (Do p 28) x4 x3 s.data.toList).1,.int .i64 (sizeV (Do p 27) (Do p 28) x4 x3 s.data.toList).2])∧Below w.heap.size w w':=by
 have HBB:=Bo (BB.new (Am w.heap.size w) 29 x0 x1 x2 x3 x4 x5 x6 x7 ch od)
 have H7:=Bo (fun w=>Dq p hp 27 w)
 have H8:=Bo (fun w=>Dq p hp 28 w)
 have HCUT:=Bo (show∀C:ByteArray,C.size≤1000000000→ba (Tgt.cutAt 59 s.data.toList).1=C→sizeL (Do p 27) (Do p 28) s.data.toList=pieceL (Do p 27) (Do p 28) C.data.toList from fun C hC e=>by rw [←e];rfl)
 have HEX:=Bo (show∀E:ByteArray,ba (extL s.data.toList)=E→isx x4 (extL s.data.toList)= !(decide (x4<(E.size:Int)) || !Oct.allOf [6] E.data.toList) from fun E e=>by rw [isx_eq _ h4,←e,←len];rfl);have hSL:(ba (sizeL (Do p 27) (Do p 28) s.data.toList)).size≤maxLen:=by have h1:=piece_le (Do p 27) (Do p 28) (Tgt.cutAt 59 s.data.toList).1;have h2:=(ext_le s.data.toList).2;rw [len] at h2;rw [←len];show (pieceL _ _ _).length≤_;unfold maxLen;omega
 have HN:=Bo (fun w=>Num.rhexN_any x3 h3 (ba (sizeL (Do p 27) (Do p 28) s.data.toList)) w hSL);have e1:(ba (sizeL (Do p 27) (Do p 28) s.data.toList)).data.toList=sizeL (Do p 27) (Do p 28) s.data.toList:=rfl;rw [e1] at HN;clear e1 hSL;unfold sizeV;generalize Num.readOf 16 x3 (sizeL (Do p 27) (Do p 28) s.data.toList)=R at *;generalize sizeL (Do p 27) (Do p 28) s.data.toList=SL at *;generalize Do p 27=b7 at *;generalize Do p 28=b8 at *;obtain ⟨r1,r2⟩:=R;dsimp only at HN;have hcase:(r2=22∧numV (r1,r2)=(0,400))∨((r2==22)=false∧r2=23∧numV (r1,r2)=(0,413))∨((r2==22)=false∧(r2==23)=false∧numV (r1,r2)=(r1,0)):=by exact XXmTI
 generalize numV (r1,r2)=V at *;have hcase':=Bo hcase;clear hcase;obtain ⟨VV,hVV⟩:∃VV,(if isx x4 (extL s.data.toList)=true then V else (0,400))=VV:=⟨_,rfl⟩;rw [hVV];rcases Tgt.cut_cases 59 s.data.toList with hno | ⟨a,r,hl,hna⟩
 ·have hE:=HEX.out ⟨#[]⟩ (by unfold extL;rw [Tgt.cutAt_none 59 _ hno];rfl)
  have HCS:=Bo (HCUT.out s hs (by rw [Tgt.cutAt_none 59 _ hno];exact ba_ext rfl));have hx:isx x4 (extL s.data.toList)=true:=by
   rw [hE]
   have:decide (x4<((⟨#[]⟩:ByteArray).size:Int))=false:=decide_eq_false (by show¬x4<0;omega);rw [this];rfl
  rw [hx,if_pos rfl] at hVV;subst hVV
  have HA:Hid (∀w a,Ints w a 1 [6]→Calls EG 115 #[.string ⟨#[]⟩,.slice a 1 1] w fun e w'=>e=.returned (.bool true)∧∃m,w'=w.drewN m):=Bo fun w a hk=>Oct.rall_any ⟨#[]⟩ a 1 1 [6] w (by decide) hk (by decide);have hb59:Hid (∀k (h:k<s.size),(((s[k]'h).toNat:Int)==59)=false):=Bo fun k h=>by
   have hm:=byte_mem s k h;rw [beq_eq_false_iff_ne];intro e9
   exact hno (by have:s[k]=59:=F6.1 (by have:(s[k].toNat:Int)=59:=e9;show s[k].toNat=59;omega);rw [←this];exact hm)
  have d0:decide (x4<0)=false:=decide_eq_false (by omega);clear hE hx HCUT HEX hno;obtain ⟨C,hC⟩:∃C,C=s:=⟨s,rfl⟩;rw [←hC] at HCS;have HC0:C.size≤1000000000:=by rw [hC];exact hs
  go_enter Tryz.func221,Tryz.ntmps221;go_upto_region 3 with fail
  generalize w.alloc (.cells #[.int .i64 x0,.int .i64 x1,.int .i64 x2,.int .i64 x3,.int .i64 x4,.int .i64 x5,.int .i64 x6,.int .i64 x7,.bool ch,.bool od] 29)=W at *;generalize w.heap.size=g at *
  go_loopw [8,9,10] (fun a b i wr=>∃k:Nat,k≤s.size∧a=.string s∧b=.string ⟨#[]⟩∧i=.int .i64 k∧wr=W) (fun _ _ i _=>s.size-(intOf i).toNat)
  case atStart=>first | exact ⟨0,CX _,rfl,rfl,rfl,rfl⟩ | exact ⟨0,CX _,rfl,trivial,rfl,rfl⟩ |(refine ⟨0,CX _,?_⟩;simp)
  case round=>
   obtain ⟨k,hk,rfl,rfl,rfl,rfl⟩:=hrel;rcases CV k s.size with hlt | hge
   ·have t0:=hb59.out k hlt;have i1:(k:Int)<(s.size:Int):=by omega
    exact XXMk8
   ·obtain rfl:k=s.size:=by omega
    subst hC;obtain ⟨⟨q0,q1,q2,q3,q4,q5,q6,q7,q8,q9⟩,hlt,hbk⟩:=HBB.out;clear q0 q1 q2 q3 q5 q6 q7 q8 q9 hlt hbk
    go_upto_region 9 with (go_at_call 115;(with_reducible refine (HA.out _ _ (Ints.one _ _ rfl _ _)).mono ?_);rintro e w1 ⟨rfl,m,hw⟩
                           have HBX:=Bo ((HBB.out.alloc (.cells #[.int .i64 6] 3)).drew m);rw [←hw] at HBX;clear hw)
    clear HBB q4;exact XXIt0
 ·have hin:∃i:Nat,i<s.size∧a=s.data.toList.take i∧s.data.toList.drop i=59::r:=⟨a.length,by rw [←len,hl];simp,by rw [hl];simp,by rw [hl];simp⟩;obtain ⟨i,hi,ha,hr⟩:=hin
  have hC1:s.extract 0 i=ba a:=ba_ext (by rw [Bl];simp [ba,ha])
  have hE1:s.extract i s.size=ba (59::r):=ba_ext (by rw [Bl,CE (by rw [Ck,len];omega),hr];rfl)
  have hE:=HEX.out (s.extract i s.size) (by unfold extL;rw [hl,Tgt.cutAt_app 59 _ _ hna,hE1];rfl);have hCs:(s.extract 0 i).size≤1000000000:=by rw [hC1,←len];show a.length≤_;rw [ha,Ct];omega
  have HCS:=Bo (HCUT.out (s.extract 0 i) hCs (by rw [hl,Tgt.cutAt_app 59 _ _ hna,hC1]));have hEs:(s.extract i s.size).size≤1000000000:=by rw [hE1,←len];show (59::r).length≤_;rw [←hr,Ck,len];omega
  have hb59:Hid (∀k (h:k<i),(((s[k]'(by omega)).toNat:Int)==59)=false):=Bo fun k h=>by
   rw [beq_eq_false_iff_ne];intro e9;refine hna ?_
   have e8:s[k]'(by omega)=59:=F6.1 (by have:(((s[k]'(by omega)).toNat:Nat):Int)=59:=e9;show (s[k]'(by omega)).toNat=59;omega);rw [ha,←e8];have hk2:k<(s.data.toList.take i).length:=by rw [Ct,len];omega
   have:=Cb hk2;rw [List.getElem_take] at this;exact this
  have hb60:(((s[i]'hi).toNat:Int)==59)=true:=by
   have h9:s.data.toList[i]?=some 59:=by have:=congrArg (fun l=>l[0]?) hr;simpa using this
   have h8:s[i]'hi=59:=by
    have h7:s.data.toList[i]?=some (s[i]'hi):=by rw [BT (by rw [len];exact hi)];rfl
    rw [h7] at h9;exact Di.inj h9
   rw [h8];rfl
  have c1:(i:Int)≤(s.size:Int):=by omega
  have c2:(0:Int)≤(i:Int):=by omega
  have HA:Hid (∀w a,Ints w a 1 [6]→Calls EG 115 #[.string (s.extract i s.size),.slice a 1 1] w fun e w'=>e=.returned (.bool (CZ [6] (s.extract i s.size).data.toList))∧∃m,w'=w.drewN m):=Bo fun w a hk=>Oct.rall_any _ a 1 1 [6] w (by unfold maxLen;omega) hk (by decide);generalize isx x4 (extL s.data.toList)=q at *;clear HCUT HEX hC1 hE1 ha hr hl hna;generalize hCC:s.extract 0 i=C at *;have HC0:=hCs;clear hCs;generalize hEE:s.extract i s.size=E at *;generalize CZ [6] E.data.toList=al at *
  have HQ:Hid ((decide (x4<(E.size:Int))=true∧q=false)∨(decide (x4<(E.size:Int))=false∧al=false∧q=false)∨(decide (x4<(E.size:Int))=false∧al=true∧q=true)):=Bo (by rw [hE];cases decide (x4<(E.size:Int))<;>cases al<;>simp)
  have HVV:Hid ((q=false→VV=(0,400))∧(q=true→V=VV)):=Bo ⟨fun h=>by rw [←hVV,h,if_neg (by decide)],fun h=>by rw [←hVV,h,if_pos rfl]⟩;clear hVV;have HCC:=Bo hCC;have HEE:=Bo hEE;clear hE hCC hEE hEs;go_enter Tryz.func221,Tryz.ntmps221;go_upto_region 3 with fail
  generalize w.alloc (.cells #[.int .i64 x0,.int .i64 x1,.int .i64 x2,.int .i64 x3,.int .i64 x4,.int .i64 x5,.int .i64 x6,.int .i64 x7,.bool ch,.bool od] 29)=W at *;generalize w.heap.size=g at *
  go_loopw [8,9,10] (fun a b j wr=>∃k:Nat,k≤i∧a=.string s∧b=.string ⟨#[]⟩∧j=.int .i64 k∧wr=W) (fun _ _ j _=>s.size-(intOf j).toNat)
  case atStart=>first | exact ⟨0,CX _,rfl,rfl,rfl,rfl⟩ | exact ⟨0,CX _,rfl,trivial,rfl,rfl⟩ |(refine ⟨0,CX _,?_⟩;simp)
  case round=>
   obtain ⟨k,hk,rfl,rfl,rfl,rfl⟩:=hrel;rcases CV k i with hlt | hge
   ·have t0:=hb59.out k hlt;have i1:(k:Int)<(s.size:Int):=by omega
    clear hb60;exact XXMk8
   ·obtain rfl:k=i:=by omega
    have i1:(k:Int)<(s.size:Int):=by omega
    go_upto_region 6 with fail
    go_quiet (fail);rename_i nq
    replace HBB:=Bo (HBB.out.drew nq)
    go_upto_region 7 with fail
    rw [HCC.out,HEE.out];generalize wr.drewN nq=W1 at *;obtain ⟨⟨q0,q1,q2,q3,q4,q5,q6,q7,q8,q9⟩,hlt,hbk⟩:=HBB.out;clear q0 q1 q2 q3 q5 q6 q7 q8 q9 hlt hb60 hb59 HCC HEE;rcases HQ.out with ⟨d0,rfl⟩ | ⟨d0,rfl,rfl⟩ | ⟨d0,rfl,rfl⟩
    ·obtain rfl:=HVV.out.1 rfl;clear HVV;go_wp2_with fail;go_ret2;exact ⟨rfl,hbk⟩
    ·obtain rfl:=HVV.out.1 rfl;clear HVV
     go_wp2_with (go_at_call 115;(with_reducible refine (HA.out _ _ (Ints.one _ _ rfl _ _)).mono ?_);rintro e w1 ⟨rfl,m,hw⟩
                  have HBX:=Bo ((HBB.out.alloc (.cells #[.int .i64 6] 3)).drew m);rw [←hw] at HBX;clear hw)
     go_ret2;exact ⟨rfl,HBX.out.b⟩
    ·obtain rfl:=HVV.out.2 rfl;clear HVV
     go_upto_region 9 with (go_at_call 115;(with_reducible refine (HA.out _ _ (Ints.one _ _ rfl _ _)).mono ?_);rintro e w1 ⟨rfl,m,hw⟩
                            have HBX:=Bo ((HBB.out.alloc (.cells #[.int .i64 6] 3)).drew m);rw [←hw] at HBX;clear hw)
     clear HBB q4 HQ hbk;exact XXIt0
end code
end Go.Proofs.YtldhlecknfomjaaGreatDoor.Chk
namespace Go.Proofs.YtldhlecknfomjaaGreatDoor.Par
open Go.RowKit Base Txt Mem
section code
set_option maxHeartbeats 4000000
set_option maxRecDepth 20000
attribute [local go_sem] Al
variable {w:World} {B:Zone} {g q:Nat} {v f bd t o:Value} {p:Nat} {b:Bd} {s:S}
theorem XXoMs {P:Prop} (h:P:=by refine AJ rfl (fun ev w1 hR hb hh=>?_);have e1:=hR.old 1 rfl;have e0:=hR.old 0 rfl;simp only [Af,BZ,BR,BS,Dg] at e1 e0;have q0:=(HQ.out.below hb).c 0 _ rfl;have q1:=(HQ.out.below hb).c 1 _ rfl;have q2:=(HQ.out.below hb).c 2 _ rfl;have q3:=(HQ.out.below hb).c 3 _ rfl;have q4:=(HQ.out.below hb).c 4 _ rfl;have q5:=(HQ.out.below hb).c 5 _ rfl;have q6:=(HQ.out.below hb).c 6 _ rfl;have q7:=(HQ.out.below hb).c 7 _ rfl;have q8:=(HQ.out.below hb).c 8 _ rfl;have q9:=(HQ.out.below hb).c 9 _ rfl;have q10:=(HQ.out.below hb).c 10 _ rfl;exact Each.std):P:=h
theorem XXHZJ {P:Prop} (h:P:=by
 refine AJ rfl (fun ev w1 hR hb hh=>?_);have e7:(ev (.tmp 7)=.string x):=hh.at 0;have e11:(ev (.tmp 11)=.int .u32 (p:Int)):=hh.at 1;have e15:(ev (.tmp 15)=.agg #[.int .i64 b.x0,.int .i64 b.x1,.int .i64 b.x2,.int .i64 b.x3,.int .i64 b.x4,.int .i64 b.x5,.int .i64 b.x6,.int .i64 b.x7,.bool b.ch,.bool b.od]):=hh.at 2;clear hh;have ef:=hR.func
 refine AE 221 #[.string x,.int .u32 (p:Int),.agg #[.int .i64 b.x0,.int .i64 b.x1,.int .i64 b.x2,.int .i64 b.x3,.int .i64 b.x4,.int .i64 b.x5,.int .i64 b.x6,.int .i64 b.x7,.bool b.ch,.bool b.od]] (by go_simp) ((HZ.out w1).mono ?_);rintro r w2 ⟨rfl,hb2⟩
 exact ⟨_,rfl,hb2,rfl⟩):P:=h
theorem XX7Qy {P:Prop} (h:P:=by
 refine ⟨?_,?_,?_,?_,?_,?_,?_,?_,?_,?_,?_,?_,?_,?_,?_,trivial⟩
 all_goals (refine AJ rfl (fun ev w1 hR hb hh=>?_);have e4:=hR.old 4 rfl;have e0:=hR.old 0 rfl;simp only [Af,BZ,BR,BS,Dg] at e4 e0;have q4:=(HQ.out.below hb).c 4 _ rfl;have q18:=(HQ.out.below hb).c 18 _ rfl;have d1:=HD.out;have d2:=HT.out;exact Each.std)):P:=h
theorem chunk_any (hp:p<4294967296) (h3:16≤b.x3∧b.x3≤1048576) (h4:0≤b.x4) (x:ByteArray) (hx:x.size≤5000) (h:PR w B g q v f bd t o p b s) (hbl:s.r.body.length≤2000000):Calls EG 203 #[ptr g,.string x] w fun r w'=>
 r=.returned (.tuple #[])∧∃q1 v1 f1 bd1 t1,PR w' B g q1 v1 f1 bd1 t1 o p b (s.chunk p b x.data.toList)∧Step (blks g q v f bd t o) (blks g q1 v1 f1 bd1 t1 o) w w':=by
 have H:=Bo h
 have HQ:=Bo ((h.drew 1).bk)
 have hz:=fun w=>Chk.rsize_any x p hp b.x0 b.x1 b.x2 b.x3 b.x4 b.x5 b.x6 b.x7 b.ch b.od (by omega) h4 w (by omega);have HF:=chunk_facts (Do p 27) (Do p 28) b.x4 b.x3 x.data.toList;obtain ⟨⟨z1,z2⟩,hZ⟩:∃Z,Chk.sizeV (Do p 27) (Do p 28) b.x4 b.x3 x.data.toList=Z:=⟨_,rfl⟩;rw [hZ] at HF;clear h hx;rcases HF with ⟨e2,h0,h1⟩ | e2 | e2
 ·have e2:z2=0:=e2;subst e2;obtain ⟨n,rfl⟩:∃n:Nat,z1=(n:Int):=⟨z1.toNat,by have:0≤z1:=h0;omega⟩;have h1:(n:Int)≤max b.x3 0:=h1
  have HZ:=Bo (show∀w,Calls EG 221 #[.string x,.int .u32 (p:Int),.agg #[.int .i64 b.x0,.int .i64 b.x1,.int .i64 b.x2,.int .i64 b.x3,.int .i64 b.x4,.int .i64 b.x5,.int .i64 b.x6,.int .i64 b.x7,.bool b.ch,.bool b.od]] w fun e w'=>e=.returned (.tuple #[.int .i64 (n:Int),.int .i64 0])∧Below w.heap.size w w' from fun w=>by have:=hz w;rw [hZ] at this;exact this);clear hz;rcases CO n with hn | hn
  ·subst hn;have e:s.chunk p b x.data.toList={s with st:=6,lines:=0,rd:=nl p b.x0}:=by unfold S.chunk;rw [hZ];rfl
   rw [e]
   have HZ:=Bo (show∀w,Calls EG 221 #[.string x,.int .u32 (p:Int),.agg #[.int .i64 b.x0,.int .i64 b.x1,.int .i64 b.x2,.int .i64 b.x3,.int .i64 b.x4,.int .i64 b.x5,.int .i64 b.x6,.int .i64 b.x7,.bool b.ch,.bool b.od]] w fun e w'=>e=.returned (.tuple #[.int .i64 0,.int .i64 0])∧Below w.heap.size w w' from fun w=>HZ.out w);clear e hZ h0 h1;go_enter Tryz.func203,Tryz.ntmps203;go_upto_region 0 with fail
   refine AO 15 [7,8,9,10,11,12,13,14,15,16,6,17,18,4,5]
    [eQ (.string x),
      eQ (.pointer (some ⟨g,0,none⟩)),
      eQ (.pointer (some ⟨g,0,none⟩)),
      eQ (.pointer (some ⟨g,0,none⟩)),
      eQ (.int .u32 (p:Int)),
      eQ (.pointer (some ⟨g,0,none⟩)),
      eQ (.pointer (some ⟨g,0,none⟩)),
      eQ (.pointer (some ⟨g,1,none⟩)),
      eQ (.agg #[.int .i64 b.x0,.int .i64 b.x1,.int .i64 b.x2,.int .i64 b.x3,.int .i64 b.x4,.int .i64 b.x5,.int .i64 b.x6,.int .i64 b.x7,.bool b.ch,.bool b.od]),
      eQ (.tuple #[.int .i64 0,.int .i64 0]),
      eQ (.tuple #[.int .i64 0,.int .i64 0]),
      eQ (.int .i64 0),
      eQ (.int .i64 0),
      eQ (.int .i64 0),
      eQ (.int .i64 0)]
     (by kernel_rfl) (by kernel_rfl) (by kernel_rfl) (by kernel_rfl) (fun _ _ d _ _ h=>by cases d<;>exact h) (by rfl) (by rfl)
    (by repeat first | exact trivial | refine ⟨AI _,?_⟩) ?_ ?_
   ·refine ⟨?_,?_,?_,?_,?_,?_,?_,?_,?_,?_,?_,?_,?_,?_,?_,trivial⟩
    ·exact XXoMs
    ·exact XXoMs
    ·exact XXoMs
    ·exact XXoMs
    ·exact XXoMs
    ·exact XXoMs
    ·exact XXoMs
    ·exact XXoMs
    ·exact XXoMs
    ·exact XXHZJ
    ·exact XXoMs
    ·exact XXoMs
    ·exact XXoMs
    ·exact XXoMs
    ·exact XXoMs
   intro g1 w2 hb hf;have z4:(g1 4=.int .i64 0):=hf.at 13;have z5:(g1 5=.int .i64 0):=hf.at 14;clear hf;simp only [AM,Ab,C8,CB,CA];rw [z4];rw [z5];have H1:=Bo (H.out.below hb);have HB:=Bo hb;clear HQ hb
   have H2:=Bo ((H1.out.put 11 (.int .i64 6) {s with st:=6} rfl rfl rfl rfl rfl rfl).put 20 (.int .i64 0) {s with st:=6,lines:=0} rfl rfl rfl rfl rfl rfl)
   have HS2:=Bo ((D9 HB.out (L:=blks g q v f bd t o)).trans ((DB g 11 (.int .i64 6) (by simp)).trans (DB g 20 (.int .i64 0) (by simp))));have c11:=H1.out.cs.c11;have c20:=H1.out.cs.c20;have z11:=H1.out.marks 11;have z20:=H1.out.marks 20;go_upto_region 6 with fail
   generalize (w2.setCell ⟨g,11,none⟩ (.int .i64 6)).setCell ⟨g,20,none⟩ (.int .i64 0)=W1 at *;clear c11 c20 z11 z20 H1 HB;obtain ⟨S1,hS1⟩:∃S1:S,{s with st:=6,lines:=0}=S1:=⟨_,rfl⟩;have HS1:=Bo hS1;rw [hS1] at H2;clear hS1
   have HQ:=Bo ((H2.out.drew 1).bk)
   have HBW:=Bo (show B≤(W1.drewN 1).heap.size from CT H2.out.own.ge (CP (H2.out.drew 1).own.lt));refine Each.region 11 [41,42,43,44,45,46,47,48,49,50,51]
    [eQ (.pointer (some ⟨g,0,none⟩)),
      eQ (.pointer (some ⟨g,0,none⟩)),
      eQ (.pointer (some ⟨g,0,none⟩)),
      eQ (.pointer (some ⟨g,0,none⟩)),
      eQ (.int .u32 (p:Int)),
      eQ (.pointer (some ⟨g,0,none⟩)),
      eQ (.pointer (some ⟨g,0,none⟩)),
      eQ (.pointer (some ⟨g,1,none⟩)),
      eQ (.pointer (some ⟨g,1,none⟩)),
      eQ (.int .i64 b.x0),
      fun v w=>∃q1,v=ptr q1∧W1.heap.size≤q1∧Ln.Rr w B q1 nil p (nl p (b.x0))]
    (.quiet 11 (.quiet 12 (.act 13 .done))) (by kernel_rfl) (by kernel_rfl) (by kernel_rfl) (by kernel_rfl) (fun _ _ d _ _ h=>by cases d<;>exact h) (by rfl) (by rfl)
    ⟨AI _,AI _,AI _,AI _,AI _,AI _,AI _,AI _,AI _,AI _,((fun _ _ _ hb h=>by obtain ⟨q1,e1,h1,h2⟩:=h;exact ⟨q1,e1,h1,rr_below h2 hb⟩)),trivial⟩ ?_ ?_
   ·refine ⟨?_,?_,?_,?_,?_,?_,?_,?_,?_,?_,?_,trivial⟩
    ·exact XXSdZ
    ·exact XXSdZ
    ·exact XXSdZ
    ·exact XXSdZ
    ·exact XXSdZ
    ·exact XXSdZ
    ·exact XXSdZ
    ·exact XXSdZ
    ·exact XXSdZ
    ·exact XXSdZ
    ·refine AJ rfl (fun ev w1 hR hb hh=>?_);have e45:(ev (.tmp 45)=.int .u32 (p:Int)):=hh.at 0;have e50:(ev (.tmp 50)=.int .i64 b.x0):=hh.at 1;exact XXQ1N
   intro g1 w2 hb hf;have z41:(g1 41=.pointer (some ⟨g,0,none⟩)):=hf.at 0;have z51:((fun v w=>∃q1,v=ptr q1∧W1.heap.size≤q1∧Ln.Rr w B q1 nil p (nl p (b.x0))) (g1 51) w2):=hf.at 10;clear hf;obtain ⟨q1,e1,hq1,hr1⟩:=z51;simp only [AM,Ab,C8,CB,CA];rw [e1,z41];simp only [DO,DP,BS,BR];refine DR (by rfl) (ptr g) (fun _ _=>by go_simp) ?_;simp only [Ab,C8,CB,CA];refine DR (by rfl) (.pointer (some ⟨g,12,none⟩)) (fun _ _=>by go_simp) ?_;simp only [Ab,C8,CB,CA];have c12:=(H2.out.below hb).cs.c12;have z12:=(H2.out.below hb).marks 12
   refine DM (by rfl) (fun K hK=>?_);go_simp;refine hK _ _ trivial ?_;clear hK K;refine DN ?_;have HL:=H2.out.line hb hr1 hq1
   have SL:=(Step.line (g:=g) (q:=q) (v:=v) (f:=f) (bd:=bd) (t:=t) (o:=o) hb hq1).trans (DB g 12 (ptr q1) (by simp));clear HQ HBW hr1 hq1 c12 z12;rw [←HS1.out] at HL;go_wp2;go_end0;exact ⟨rfl,q1,_,_,_,_,HL,HS2.out.trans SL⟩
  ·obtain ⟨bb,cb,eb, -⟩:=CJ H.out.own.D;subst eb
   have HD:=Bo (Base.wrap_in (b.x3-(s.r.body.length:Int)) (by omega) (by omega));have tz:¬(n:Int)=0:=by omega
   have tz':((n:Int)==0)=false:=beq_eq_false_iff_ne.2 tz
   by_cases hov:b.x3-(s.r.body.length:Int)<(n:Int)
   ·have e:s.chunk p b x.data.toList=s.fail 413:=by
     unfold S.chunk;exact XX7js
    rw [e];have HT:=Bo hov;clear e hZ h0 h1 hn;go_enter Tryz.func203,Tryz.ntmps203;go_upto_region 0 with fail
    refine AO 15 [7,8,9,10,11,12,13,14,15,16,6,17,18,4,5]
     [eQ (.string x),
       eQ (.pointer (some ⟨g,0,none⟩)),
       eQ (.pointer (some ⟨g,0,none⟩)),
       eQ (.pointer (some ⟨g,0,none⟩)),
       eQ (.int .u32 (p:Int)),
       eQ (.pointer (some ⟨g,0,none⟩)),
       eQ (.pointer (some ⟨g,0,none⟩)),
       eQ (.pointer (some ⟨g,1,none⟩)),
       eQ (.agg #[.int .i64 b.x0,.int .i64 b.x1,.int .i64 b.x2,.int .i64 b.x3,.int .i64 b.x4,.int .i64 b.x5,.int .i64 b.x6,.int .i64 b.x7,.bool b.ch,.bool b.od]),
       eQ (.tuple #[.int .i64 (n:Int),.int .i64 0]),
       eQ (.tuple #[.int .i64 (n:Int),.int .i64 0]),
       eQ (.int .i64 (n:Int)),
       eQ (.int .i64 0),
       eQ (.int .i64 (n:Int)),
       eQ (.int .i64 0)]
      (by kernel_rfl) (by kernel_rfl) (by kernel_rfl) (by kernel_rfl) (fun _ _ d _ _ h=>by cases d<;>exact h) (by rfl) (by rfl)
     (by repeat first | exact trivial | refine ⟨AI _,?_⟩) ?_ ?_
    ·refine ⟨?_,?_,?_,?_,?_,?_,?_,?_,?_,?_,?_,?_,?_,?_,?_,trivial⟩
     ·exact XXoMs
     ·exact XXoMs
     ·exact XXoMs
     ·exact XXoMs
     ·exact XXoMs
     ·exact XXoMs
     ·exact XXoMs
     ·exact XXoMs
     ·exact XXoMs
     ·exact XXHZJ
     ·exact XXoMs
     ·exact XXoMs
     ·exact XXoMs
     ·exact XXoMs
     ·exact XXoMs
    intro g1 w2 hb hf;have z4:(g1 4=.int .i64 (n:Int)):=hf.at 13;have z5:(g1 5=.int .i64 0):=hf.at 14;clear hf;simp only [AM,Ab,C8,CB,CA];rw [z4];rw [z5];have H1:=Bo (H.out.below hb);have HB:=Bo hb;clear HQ hb;go_upto_region 7 with fail
    have HQ:=Bo ((H1.out.drew 1).bk);refine AO 15 [55,56,57,58,59,60,61,62,63,64,65,66,67,68,54]
     [eQ (.int .i64 ((n:Nat):Int)),
       eQ (.pointer (some ⟨g,0,none⟩)),
       eQ (.pointer (some ⟨g,0,none⟩)),
       eQ (.pointer (some ⟨g,1,none⟩)),
       eQ (.pointer (some ⟨g,4,none⟩)),
       eQ (.int .i64 b.x3),
       eQ (.pointer (some ⟨g,0,none⟩)),
       eQ (.pointer (some ⟨g,0,none⟩)),
       eQ (.pointer (some ⟨g,13,none⟩)),
       eQ (.pointer (some ⟨g,18,none⟩)),
       eQ (.slice bb s.r.body.length cb),
       eQ (.int .i64 ((s.r.body.length:Nat):Int)),
       eQ (.int .i64 (b.x3-(s.r.body.length:Int))),
       eQ (.bool true),
       eQ (.bool true)]
      (by kernel_rfl) (by kernel_rfl) (by kernel_rfl) (by kernel_rfl) (fun _ _ d _ _ h=>by cases d<;>exact h) (by rfl) (by rfl)
     (by repeat first | exact trivial | refine ⟨AI _,?_⟩) ?_ ?_
    ·exact XX7Qy
    intro g1 w3 hb hf;have z54:(g1 54=.bool true):=hf.at 14;clear hf;simp only [AM,Ab,C8,CB,CA];rw [z54]
    have H2:=Bo (H1.out.below hb);have HS2:=Bo ((D9 HB.out (L:=blks g q v f (.slice bb s.r.body.length cb) t o)).trans (D9 hb));clear H1 HB hb HQ
    have HFA:=Bo (fail_at H2.out 413 413 rfl)
    go_wp2_with (go_at_call 139;with_reducible refine HFA.out.mono ?_;rintro r w4 ⟨rfl,hP,hS⟩);go_end0;exact ⟨rfl,_,_,_,_,_,hP,HS2.out.trans hS⟩
   ·have e:s.chunk p b x.data.toList={s with st:=4,left:=n}:=by
     unfold S.chunk;rw [hZ];show (if (0:Int)≠0 then _ else if (n:Int)=0 then _ else if b.x3-(s.r.body.length:Int)<(n:Int) then _ else ({s with st:=4,left:=(n:Int).toNat}:S))= _;rw [if_neg (by decide),if_neg tz,if_neg hov,Int.toNat_natCast]
    rw [e];have HT:=Bo hov;clear e hZ h0 h1 hn;go_enter Tryz.func203,Tryz.ntmps203;go_upto_region 0 with fail
    refine AO 15 [7,8,9,10,11,12,13,14,15,16,6,17,18,4,5]
     [eQ (.string x),
       eQ (.pointer (some ⟨g,0,none⟩)),
       eQ (.pointer (some ⟨g,0,none⟩)),
       eQ (.pointer (some ⟨g,0,none⟩)),
       eQ (.int .u32 (p:Int)),
       eQ (.pointer (some ⟨g,0,none⟩)),
       eQ (.pointer (some ⟨g,0,none⟩)),
       eQ (.pointer (some ⟨g,1,none⟩)),
       eQ (.agg #[.int .i64 b.x0,.int .i64 b.x1,.int .i64 b.x2,.int .i64 b.x3,.int .i64 b.x4,.int .i64 b.x5,.int .i64 b.x6,.int .i64 b.x7,.bool b.ch,.bool b.od]),
       eQ (.tuple #[.int .i64 (n:Int),.int .i64 0]),
       eQ (.tuple #[.int .i64 (n:Int),.int .i64 0]),
       eQ (.int .i64 (n:Int)),
       eQ (.int .i64 0),
       eQ (.int .i64 (n:Int)),
       eQ (.int .i64 0)]
      (by kernel_rfl) (by kernel_rfl) (by kernel_rfl) (by kernel_rfl) (fun _ _ d _ _ h=>by cases d<;>exact h) (by rfl) (by rfl)
     (by repeat first | exact trivial | refine ⟨AI _,?_⟩) ?_ ?_
    ·refine ⟨?_,?_,?_,?_,?_,?_,?_,?_,?_,?_,?_,?_,?_,?_,?_,trivial⟩
     ·exact XXoMs
     ·exact XXoMs
     ·exact XXoMs
     ·exact XXoMs
     ·exact XXoMs
     ·exact XXoMs
     ·exact XXoMs
     ·exact XXoMs
     ·exact XXoMs
     ·exact XXHZJ
     ·exact XXoMs
     ·exact XXoMs
     ·exact XXoMs
     ·exact XXoMs
     ·exact XXoMs
    intro g1 w2 hb hf;have z4:(g1 4=.int .i64 (n:Int)):=hf.at 13;have z5:(g1 5=.int .i64 0):=hf.at 14;clear hf;simp only [AM,Ab,C8,CB,CA];rw [z4];rw [z5];have H1:=Bo (H.out.below hb);have HB:=Bo hb;clear HQ hb;go_upto_region 7 with fail
    have HQ:=Bo ((H1.out.drew 1).bk);refine AO 15 [55,56,57,58,59,60,61,62,63,64,65,66,67,68,54]
     [eQ (.int .i64 ((n:Nat):Int)),
       eQ (.pointer (some ⟨g,0,none⟩)),
       eQ (.pointer (some ⟨g,0,none⟩)),
       eQ (.pointer (some ⟨g,1,none⟩)),
       eQ (.pointer (some ⟨g,4,none⟩)),
       eQ (.int .i64 b.x3),
       eQ (.pointer (some ⟨g,0,none⟩)),
       eQ (.pointer (some ⟨g,0,none⟩)),
       eQ (.pointer (some ⟨g,13,none⟩)),
       eQ (.pointer (some ⟨g,18,none⟩)),
       eQ (.slice bb s.r.body.length cb),
       eQ (.int .i64 ((s.r.body.length:Nat):Int)),
       eQ (.int .i64 (b.x3-(s.r.body.length:Int))),
       eQ (.bool false),
       eQ (.bool false)]
      (by kernel_rfl) (by kernel_rfl) (by kernel_rfl) (by kernel_rfl) (fun _ _ d _ _ h=>by cases d<;>exact h) (by rfl) (by rfl)
     (by repeat first | exact trivial | refine ⟨AI _,?_⟩) ?_ ?_
    ·exact XX7Qy
    intro g1 w3 hb hf;have z54:(g1 54=.bool false):=hf.at 14;clear hf;simp only [AM,Ab,C8,CB,CA];rw [z54]
    have H2:=Bo (H1.out.below hb);have HS2:=Bo ((D9 HB.out (L:=blks g q v f (.slice bb s.r.body.length cb) t o)).trans (D9 hb));clear H1 HB hb HQ
    have H3:=Bo ((H2.out.put 11 (.int .i64 4) {s with st:=4} rfl rfl rfl rfl rfl rfl).put 22 (.int .i64 (n:Int)) {s with st:=4,left:=n} rfl rfl rfl rfl rfl rfl)
    have HS3:=Bo (HS2.out.trans ((DB g 11 (.int .i64 4) (by simp)).trans (DB g 22 (.int .i64 (n:Int)) (by simp))));have c11:=H2.out.cs.c11;have c22:=H2.out.cs.c22;have z11:=H2.out.marks 11;have z22:=H2.out.marks 22;go_wp2;go_end0;exact ⟨rfl,_,_,_,_,_,H3.out,HS3.out⟩
 ·have e2:z2=400:=e2;subst e2
  have HZ:=Bo (show∀w,Calls EG 221 #[.string x,.int .u32 (p:Int),.agg #[.int .i64 b.x0,.int .i64 b.x1,.int .i64 b.x2,.int .i64 b.x3,.int .i64 b.x4,.int .i64 b.x5,.int .i64 b.x6,.int .i64 b.x7,.bool b.ch,.bool b.od]] w fun e w'=>e=.returned (.tuple #[.int .i64 z1,.int .i64 400])∧Below w.heap.size w w' from fun w=>by have:=hz w;rw [hZ] at this;exact this);have e:s.chunk p b x.data.toList=s.fail 400:=by unfold S.chunk;rw [hZ];rfl
  rw [e];clear hz hZ e;go_enter Tryz.func203,Tryz.ntmps203;go_upto_region 0 with fail
  refine AO 15 [7,8,9,10,11,12,13,14,15,16,6,17,18,4,5]
   [eQ (.string x),
     eQ (.pointer (some ⟨g,0,none⟩)),
     eQ (.pointer (some ⟨g,0,none⟩)),
     eQ (.pointer (some ⟨g,0,none⟩)),
     eQ (.int .u32 (p:Int)),
     eQ (.pointer (some ⟨g,0,none⟩)),
     eQ (.pointer (some ⟨g,0,none⟩)),
     eQ (.pointer (some ⟨g,1,none⟩)),
     eQ (.agg #[.int .i64 b.x0,.int .i64 b.x1,.int .i64 b.x2,.int .i64 b.x3,.int .i64 b.x4,.int .i64 b.x5,.int .i64 b.x6,.int .i64 b.x7,.bool b.ch,.bool b.od]),
     eQ (.tuple #[.int .i64 z1,.int .i64 400]),
     eQ (.tuple #[.int .i64 z1,.int .i64 400]),
     eQ (.int .i64 z1),
     eQ (.int .i64 400),
     eQ (.int .i64 z1),
     eQ (.int .i64 400)]
    (by kernel_rfl) (by kernel_rfl) (by kernel_rfl) (by kernel_rfl) (fun _ _ d _ _ h=>by cases d<;>exact h) (by rfl) (by rfl)
   (by repeat first | exact trivial | refine ⟨AI _,?_⟩) ?_ ?_
  ·refine ⟨?_,?_,?_,?_,?_,?_,?_,?_,?_,?_,?_,?_,?_,?_,?_,trivial⟩
   ·exact XXoMs
   ·exact XXoMs
   ·exact XXoMs
   ·exact XXoMs
   ·exact XXoMs
   ·exact XXoMs
   ·exact XXoMs
   ·exact XXoMs
   ·exact XXoMs
   ·exact XXHZJ
   ·exact XXoMs
   ·exact XXoMs
   ·exact XXoMs
   ·exact XXoMs
   ·exact XXoMs
  intro g1 w2 hb hf;have z4:(g1 4=.int .i64 z1):=hf.at 13;have z5:(g1 5=.int .i64 400):=hf.at 14;clear hf;simp only [AM,Ab,C8,CB,CA];rw [z4];rw [z5];have H1:=Bo (H.out.below hb);have HB:=Bo hb;clear HQ hb
  have HFA:=Bo (fail_at H1.out 400 400 rfl);exact XXWJz
 ·have e2:z2=413:=e2;subst e2
  have HZ:=Bo (show∀w,Calls EG 221 #[.string x,.int .u32 (p:Int),.agg #[.int .i64 b.x0,.int .i64 b.x1,.int .i64 b.x2,.int .i64 b.x3,.int .i64 b.x4,.int .i64 b.x5,.int .i64 b.x6,.int .i64 b.x7,.bool b.ch,.bool b.od]] w fun e w'=>e=.returned (.tuple #[.int .i64 z1,.int .i64 413])∧Below w.heap.size w w' from fun w=>by have:=hz w;rw [hZ] at this;exact this);have e:s.chunk p b x.data.toList=s.fail 413:=by unfold S.chunk;rw [hZ];rfl
  rw [e];clear hz hZ e;go_enter Tryz.func203,Tryz.ntmps203;go_upto_region 0 with fail
  refine AO 15 [7,8,9,10,11,12,13,14,15,16,6,17,18,4,5]
   [eQ (.string x),
     eQ (.pointer (some ⟨g,0,none⟩)),
     eQ (.pointer (some ⟨g,0,none⟩)),
     eQ (.pointer (some ⟨g,0,none⟩)),
     eQ (.int .u32 (p:Int)),
     eQ (.pointer (some ⟨g,0,none⟩)),
     eQ (.pointer (some ⟨g,0,none⟩)),
     eQ (.pointer (some ⟨g,1,none⟩)),
     eQ (.agg #[.int .i64 b.x0,.int .i64 b.x1,.int .i64 b.x2,.int .i64 b.x3,.int .i64 b.x4,.int .i64 b.x5,.int .i64 b.x6,.int .i64 b.x7,.bool b.ch,.bool b.od]),
     eQ (.tuple #[.int .i64 z1,.int .i64 413]),
     eQ (.tuple #[.int .i64 z1,.int .i64 413]),
     eQ (.int .i64 z1),
     eQ (.int .i64 413),
     eQ (.int .i64 z1),
     eQ (.int .i64 413)]
    (by kernel_rfl) (by kernel_rfl) (by kernel_rfl) (by kernel_rfl) (fun _ _ d _ _ h=>by cases d<;>exact h) (by rfl) (by rfl)
   (by repeat first | exact trivial | refine ⟨AI _,?_⟩) ?_ ?_
  ·refine ⟨?_,?_,?_,?_,?_,?_,?_,?_,?_,?_,?_,?_,?_,?_,?_,trivial⟩
   ·exact XXoMs
   ·exact XXoMs
   ·exact XXoMs
   ·exact XXoMs
   ·exact XXoMs
   ·exact XXoMs
   ·exact XXoMs
   ·exact XXoMs
   ·exact XXoMs
   ·exact XXHZJ
   ·exact XXoMs
   ·exact XXoMs
   ·exact XXoMs
   ·exact XXoMs
   ·exact XXoMs
  intro g1 w2 hb hf;have z4:(g1 4=.int .i64 z1):=hf.at 13;have z5:(g1 5=.int .i64 413):=hf.at 14;clear hf;simp only [AM,Ab,C8,CB,CA];rw [z4];rw [z5];have H1:=Bo (H.out.below hb);have HB:=Bo hb;clear HQ hb
  have HFA:=Bo (fail_at H1.out 413 413 rfl);exact XXWJz
end code
end Go.Proofs.YtldhlecknfomjaaGreatDoor.Par
