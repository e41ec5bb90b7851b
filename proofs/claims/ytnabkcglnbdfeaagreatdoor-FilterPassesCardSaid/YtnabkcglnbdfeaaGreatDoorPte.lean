import Derived.Test.YtnabkcglnbdfeaaGreatDoorPtd
set_option linter.unusedSimpArgs false
open Array renaming getD_eq_getD_getElem?→Ag
open Bool renaming and_eq_true→As,and_false→Au,false_and→Az,or_eq_true→AB
open Go.Act renaming put→Ab
open Go.Lib renaming hid→BN
open Go.Proofs.Tryz renaming prog→Gq,underlying22→GI,underlying5→GQ,underlying9→GS
open Go.Proofs.YtnabkcglnbdfeaaGreatDoor.Base renaming below_drewN→Ak,below_step→Al,some_undef→An
open Go.Proofs.YtnabkcglnbdfeaaGreatDoor.Chk renaming sizeV→AK
open Go.Proofs.YtnabkcglnbdfeaaGreatDoor.Each renaming Goes→AO,fine→AY,putg→Be,region_all→Bg
open Go.Proofs.YtnabkcglnbdfeaaGreatDoor.Each.Goes renaming enter→AP
open Go.Proofs.YtnabkcglnbdfeaaGreatDoor.Each.Lasts renaming eq→AT
open Go.Proofs.YtnabkcglnbdfeaaGreatDoor.Ln renaming own_slice→Dw,row_frozen→Dy
open Go.Proofs.YtnabkcglnbdfeaaGreatDoor.Mem.Keeps renaming of_below→BD,set→BF
open Go.Proofs.YtnabkcglnbdfeaaGreatDoor.Mem.Of renaming refl→DT
open Go.Proofs.YtnabkcglnbdfeaaGreatDoor.Par.Step renaming of_below→EH,set→EJ
open Go.Proofs.YtnabkcglnbdfeaaGreatDoor.Qk renaming has_any→Ej,has→Ei
open Go.Proofs.YtnabkcglnbdfeaaGreatDoor.Rec renaming Bk→El,R→Eo
open Go.Proofs.YtnabkcglnbdfeaaGreatDoor.Rec.Bk renaming new→Em
open Go.Proofs.YtnabkcglnbdfeaaGreatDoor.Tree renaming change→Fi,done→Fj,grow→Fk,put1→Fl,quiet→Fm
open Go.Region renaming binds→Eu,wanted→Ex
open Go.RowKit.Below renaming refl→Ao
open Go.World renaming ownsRow_nil→Hp
open Go.World.ownsRow renaming lt→Ho
open List renaming getElem?_cons_succ→Cy,getElem?_cons_zero→Cz,getElem?_toArray→C6,getElem_mem→C8,length_append→CG,length_map→CK,length_take→CO,mem_cons→CV,mem_of_getElem?→CZ,mem_singleton→Dc,not_mem_nil→De,setIfInBounds_toArray→Di,set_cons_succ→Dk,set_cons_zero→Dl,take_append_drop→Do,take_of_length_le→Dp,take_succ_eq_append_getElem→Dq
open Nat renaming eq_zero_or_pos→D3,le_of_lt→D4,le_refl→D5,le_succ→D6,le_trans→D7,lt_of_lt_of_le→D8,lt_or_ge→D9,zero_add→DB,zero_le→DC
open Option renaming getD_some→DV,some→DX
open Go.Value renaming int→ZZ,string→ZY,slice→ZX,bool→ZW,pointer→ZV,agg→ZU,tuple→ZT
open Go.IntKind renaming i64→ZS,u8→ZR,u32→ZQ
namespace Go.Proofs.YtnabkcglnbdfeaaGreatDoor.Pg
open Go.RowKit Base Txt Mem Par
theorem empty_of {x:ByteArray} (h:x.size=0):x=⟨#[]⟩:=by
 have:x.data.size=0:=h;cases x with
 | mk d=>
   have e:d= #[]:=Array.eq_empty_of_size_eq_zero this;rw [e]
theorem list_ne {x:ByteArray} (h:0<x.size):x.data.toList≠ []:=λe=>by
 have:x.size=0:=by rw [←len,e];rfl
 omega
section
set_option maxHeartbeats 4000000
set_option maxRecDepth 20000
attribute [local go_sem] An
variable {w:World} {B:Zone} {g q:Nat} {v f bd t o:Value} {p:Nat} {b:Bd} {s:T}
theorem XXDW2 {P:Prop} (h:P:=by refine AY rfl (λev w1 hR hb hh=>?_);have e1:=hR.old 1 rfl;have e0:=hR.old 0 rfl;simp only [Ag,C6,Cy,Cz,DV] at e1 e0;have q13:=(HQ.out.below hb).c 13 _ rfl;have q14:=(HQ.out.below hb).c 14 _ rfl;have q15:=(HQ.out.below hb).c 15 _ rfl;have q16:=(HQ.out.below hb).c 16 _ rfl;have q17:=(HQ.out.below hb).c 17 _ rfl;have q18:=(HQ.out.below hb).c 18 _ rfl;have q19:=(HQ.out.below hb).c 19 _ rfl;have q20:=(HQ.out.below hb).c 20 _ rfl;have q21:=(HQ.out.below hb).c 21 _ rfl;have q22:=(HQ.out.below hb).c 22 _ rfl;have q23:=(HQ.out.below hb).c 23 _ rfl;exact Each.std):P:=h
theorem XXCdj {P:Prop} (h:P:=by exact ⟨rfl,_,_,_,_,_,_,H2.out,HS2.out⟩):P:=h
theorem firstLine_any (hp:p<4294967296) (x:ByteArray) (hx:x.size<=5000) (h:PR w B g q v f bd t o p b s):Calls Gq 206 #[ptr g,ZY x] w λr w'=>
 r=.returned (ZZ ZS (((s.first p b x.data.toList).1:Nat):Int))/\∃q1 v1 f1 bd1 t1 o1,PR w' B g q1 v1 f1 bd1 t1 o1 p b (s.first p b x.data.toList).2/\Step (blks g q v f bd t o) (blks g q1 v1 f1 bd1 t1 o1) w w':=by
 have H:=BN h;rcases D3 x.size with h0 | h0
 ·obtain rfl:=empty_of h0
  have HE:=BN (emptyLine_any (g:=g) hp h.cs.c13);have e:s.first p b (⟨#[]⟩:ByteArray).data.toList=(if Ei p 0=true then 0 else 400,s):=rfl;rw [e];obtain ⟨z,hz⟩:∃z:Nat,(if Ei p 0=true then 0 else 400)=z:=⟨_,rfl⟩;rw [hz] at HE ⊢;clear h h0 hx e hz;go_enter Tryz.func206,Tryz.ntmps206
  go_wp2_with (go_at_call 226;with_reducible refine Cm HE.out ?_);go_ret;exact ⟨rfl,_,_,_,_,_,_,H.out,Step.refl⟩
 ·have hne:=list_ne h0;have te:=Fd.first_no x h0
  have HQ:=BN ((h.drew 1).bk)
  have hz:=λw=>Rq.parse_any x p hp b.x0 b.x1 b.x2 b.x3 b.x4 b.x5 b.x6 b.x7 b.ch b.od w (by omega);unfold T.first;rw [if_neg hne];obtain ⟨⟨m1,t1,qk,qe⟩,hq⟩:∃Q,Rq.request (Rq.clOf p) b.od x.data.toList=Q:=⟨_,rfl⟩;rw [hq] at hz;simp only [Rq.rv] at hz;rw [hq];obtain ⟨qm,hqm⟩:∃qm,ba m1=qm:=⟨_,rfl⟩;obtain ⟨qt,hqt⟩:∃qt,ba t1=qt:=⟨_,rfl⟩;rw [hqm,hqt] at hz;have HZ:=BN hz;simp only [hqm,hqt];clear hz hq hqm hqt hne h0 hx h;by_cases hqe:qe=0
  ·subst hqe;rw [if_pos rfl]
   have HZ:=BN (show∀w,Calls Gq 227 #[ZY x,ZZ ZQ (p:Int),ZU #[ZZ ZS b.x0,ZZ ZS b.x1,ZZ ZS b.x2,ZZ ZS b.x3,ZZ ZS b.x4,ZZ ZS b.x5,ZZ ZS b.x6,ZZ ZS b.x7,ZW b.ch,ZW b.od]] w λe w'=>e=.returned (ZT #[ZY qm,ZY qt,ZZ ZS (qk:Int),ZZ ZS 0])/\Below w.heap.size w w' from λw=>HZ.out w);go_enter Tryz.func206,Tryz.ntmps206;go_upto_region 3 with fail
   refine Bg 19 [14,15,16,17,18,19,20,21,22,23,13,24,25,26,27,5,6,7,8] [eQ (ZY x),eP g 0,eP g 0,eP g 13,eQ (ZZ ZQ (p:Int)),eP g 0,eP g 0,eP g 14,eQ (ZU #[ZZ ZS b.x0,ZZ ZS b.x1,ZZ ZS b.x2,ZZ ZS b.x3,ZZ ZS b.x4,ZZ ZS b.x5,ZZ ZS b.x6,ZZ ZS b.x7,ZW b.ch,ZW b.od]),eQ (ZT #[ZY qm,ZY qt,ZZ ZS (qk:Int),ZZ ZS 0]),eQ (ZT #[ZY qm,ZY qt,ZZ ZS (qk:Int),ZZ ZS 0]),eQ (ZY qm),eQ (ZY qt),eQ (ZZ ZS (qk:Int)),eQ (ZZ ZS 0),eQ (ZY qm),eQ (ZY qt),eQ (ZZ ZS (qk:Int)),eQ (ZZ ZS 0)] (by kernel_rfl) (by kernel_rfl) (by kernel_rfl) (by kernel_rfl) (λ_ _ d _ _ h=>by cases d<;>exact h) (by rfl) (by rfl) (by repeat first | exact trivial | refine ⟨AT _,?_⟩) ?_ ?_
   ·refine ⟨?_,?_,?_,?_,?_,?_,?_,?_,?_,?_,?_,?_,?_,?_,?_,?_,?_,?_,?_,trivial⟩
    ·exact XXDW2
    ·exact XXDW2
    ·exact XXDW2
    ·exact XXDW2
    ·exact XXDW2
    ·exact XXDW2
    ·exact XXDW2
    ·exact XXDW2
    ·exact XXDW2
    ·refine AY rfl (λev w1 hR hb hh=>?_);have e14:ev (.tmp 14)= _:=hh.at 0;have e18:ev (.tmp 18)= _:=hh.at 1;have e22:ev (.tmp 22)= _:=hh.at 2;clear hh;have ef:=hR.func
     refine AP 227 #[ZY x,ZZ ZQ (p:Int),ZU #[ZZ ZS b.x0,ZZ ZS b.x1,ZZ ZS b.x2,ZZ ZS b.x3,ZZ ZS b.x4,ZZ ZS b.x5,ZZ ZS b.x6,ZZ ZS b.x7,ZW b.ch,ZW b.od]] (by go_simp) ((HZ.out w1).mono ?_);exact XXUgj
    ·exact XXDW2
    ·exact XXDW2
    ·exact XXDW2
    ·exact XXDW2
    ·exact XXDW2
    ·exact XXDW2
    ·exact XXDW2
    ·exact XXDW2
    ·exact XXDW2
   intro g1 w2 hb hf;have z5:g1 5= _:=hf.at 15;have z6:g1 6= _:=hf.at 16;have z7:g1 7= _:=hf.at 17;have z8:g1 8= _:=hf.at 18;clear hf;simp only [Be,Ab,Di,Dl,Dk];rw [z5];rw [z6];rw [z7];rw [z8]
   have H1:=BN (H.out.below hb);have HS1:=BN (EH hb (L:=blks g q v f bd t o));clear hb HQ
   have H2:=BN (((((H1.out).put 3 (ZY qm) {s with r:={s.r with m:=qm}} rfl rfl rfl rfl rfl rfl).put 4 (ZY qt) {s with r:={s.r with m:=qm,x:=qt}} rfl rfl rfl rfl rfl rfl).put 5 (ZZ ZS (qk:Int)) {s with r:={s.r with m:=qm,x:=qt,k:=(qk:Int)}} rfl rfl rfl rfl rfl rfl).put 24 (ZZ ZS 2) {s with r:={s.r with m:=qm,x:=qt,k:=(qk:Int)},st:=2} rfl rfl rfl rfl rfl rfl)
   have HS2:=BN (((((HS1.out).trans (EJ g 3 (ZY qm) (by simp))).trans (EJ g 4 (ZY qt) (by simp))).trans (EJ g 5 (ZZ ZS (qk:Int)) (by simp))).trans (EJ g 24 (ZZ ZS 2) (by simp)));have c3:=H1.out.cs.c3;have z3:=H1.out.marks 3;have c4:=H1.out.cs.c4;have z4:=H1.out.marks 4;have c5:=H1.out.cs.c5;have z5:=H1.out.marks 5;have c24:=H1.out.cs.c24;have z24:=H1.out.marks 24;go_wp2;first | go_end0 | go_ret
   exact XXCdj
  ·rw [if_neg hqe];have tz:¬(qe:Int)=0:=by omega
   have tz':((qe:Int)==0)=false:=beq_eq_false_iff_ne.2 tz;clear hqe;go_enter Tryz.func206,Tryz.ntmps206;go_upto_region 3 with fail
   refine Bg 19 [14,15,16,17,18,19,20,21,22,23,13,24,25,26,27,5,6,7,8] [eQ (ZY x),eP g 0,eP g 0,eP g 13,eQ (ZZ ZQ (p:Int)),eP g 0,eP g 0,eP g 14,eQ (ZU #[ZZ ZS b.x0,ZZ ZS b.x1,ZZ ZS b.x2,ZZ ZS b.x3,ZZ ZS b.x4,ZZ ZS b.x5,ZZ ZS b.x6,ZZ ZS b.x7,ZW b.ch,ZW b.od]),eQ (ZT #[ZY qm,ZY qt,ZZ ZS (qk:Int),ZZ ZS (qe:Int)]),eQ (ZT #[ZY qm,ZY qt,ZZ ZS (qk:Int),ZZ ZS (qe:Int)]),eQ (ZY qm),eQ (ZY qt),eQ (ZZ ZS (qk:Int)),eQ (ZZ ZS (qe:Int)),eQ (ZY qm),eQ (ZY qt),eQ (ZZ ZS (qk:Int)),eQ (ZZ ZS (qe:Int))] (by kernel_rfl) (by kernel_rfl) (by kernel_rfl) (by kernel_rfl) (λ_ _ d _ _ h=>by cases d<;>exact h) (by rfl) (by rfl) (by repeat first | exact trivial | refine ⟨AT _,?_⟩) ?_ ?_
   ·refine ⟨?_,?_,?_,?_,?_,?_,?_,?_,?_,?_,?_,?_,?_,?_,?_,?_,?_,?_,?_,trivial⟩
    ·exact XXDW2
    ·exact XXDW2
    ·exact XXDW2
    ·exact XXDW2
    ·exact XXDW2
    ·exact XXDW2
    ·exact XXDW2
    ·exact XXDW2
    ·exact XXDW2
    ·refine AY rfl (λev w1 hR hb hh=>?_);have e14:ev (.tmp 14)= _:=hh.at 0;have e18:ev (.tmp 18)= _:=hh.at 1;have e22:ev (.tmp 22)= _:=hh.at 2;clear hh;have ef:=hR.func
     refine AP 227 #[ZY x,ZZ ZQ (p:Int),ZU #[ZZ ZS b.x0,ZZ ZS b.x1,ZZ ZS b.x2,ZZ ZS b.x3,ZZ ZS b.x4,ZZ ZS b.x5,ZZ ZS b.x6,ZZ ZS b.x7,ZW b.ch,ZW b.od]] (by go_simp) ((HZ.out w1).mono ?_);exact XXUgj
    ·exact XXDW2
    ·exact XXDW2
    ·exact XXDW2
    ·exact XXDW2
    ·exact XXDW2
    ·exact XXDW2
    ·exact XXDW2
    ·exact XXDW2
    ·exact XXDW2
   intro g1 w2 hb hf;have z5:g1 5= _:=hf.at 15;have z6:g1 6= _:=hf.at 16;have z7:g1 7= _:=hf.at 17;have z8:g1 8= _:=hf.at 18;clear hf;simp only [Be,Ab,Di,Dl,Dk];rw [z5];rw [z6];rw [z7];rw [z8]
   have H1:=BN (H.out.below hb);have HS1:=BN (EH hb (L:=blks g q v f bd t o));clear hb HQ;go_wp2;first | go_end0 | go_ret
   exact ⟨rfl,_,_,_,_,_,_,H1.out,HS1.out⟩
theorem XXutI {P:Prop} (h:P:=by
 refine AY rfl (λev w1 hR hb hh=>?_);have e8:ev (.tmp 8)= _:=hh.at 0;have e12:ev (.tmp 12)= _:=hh.at 1;have e16:ev (.tmp 16)= _:=hh.at 2;clear hh;have ef:=hR.func
 refine AP 230 #[ZY x,ZZ ZQ (p:Int),ZU #[ZZ ZS b.x0,ZZ ZS b.x1,ZZ ZS b.x2,ZZ ZS b.x3,ZZ ZS b.x4,ZZ ZS b.x5,ZZ ZS b.x6,ZZ ZS b.x7,ZW b.ch,ZW b.od]] (by go_simp) ((HZ.out w1).mono ?_);rintro r w2 ⟨rfl,hb2⟩
 exact ⟨_,rfl,hb2,rfl⟩):P:=h
theorem XXYV8 {P:Prop} (h:P:=by
 refine ⟨?_,?_,?_,?_,?_,?_,?_,?_,?_,?_,?_,?_,?_,?_,?_,trivial⟩
 all_goals (refine AY rfl (λev w1 hR hb hh=>?_);have e5:=hR.old 5 rfl;have e0:=hR.old 0 rfl;simp only [Ag,C6,Cy,Cz,DV] at e5 e0;have q17:=(HQ.out.below hb).c 17 _ rfl;have q11:=(HQ.out.below hb).c 11 _ rfl;have d1:=HD.out;have d2:=HT.out;exact Each.std)):P:=h
theorem XXS6f {P:Prop} (h:P:=by
 intro g1 w2 hb hf;have z5:g1 5= _:=hf.at 13;have z6:g1 6= _:=hf.at 14;clear hf;simp only [Be,Ab,Di,Dl,Dk];rw [z5];rw [z6];have H1:=BN (H.out.below hb);have HB:=BN hb;clear HQ hb;go_wp2;go_ret
 exact ⟨rfl,_,_,_,_,_,_,H1.out,EH HB.out⟩):P:=h
theorem _root_.Go.Proofs.YtnabkcglnbdfeaaGreatDoor.XX7js {P:Prop} (h:P:=by
 rw [hZ];show (if (0:Int)≠0 then _ else if (n:Int)=0 then _ else if b.x3-(s.r.body.length:Int)<(n:Int) then _ else _)= _
 rw [if_neg (by decide),if_neg tz,if_pos hov]):P:=h
theorem sizeLine_any (hp:p<4294967296) (h3:16<=b.x3/\b.x3<=1048576) (x:ByteArray) (hx:x.size<=5000) (h:PR w B g q v f bd t o p b s) (hbl:s.r.body.length<=2000000):Calls Gq 208 #[ptr g,ZY x] w λr w'=>
 r=.returned (ZZ ZS (((s.chunk p b x.data.toList).1:Nat):Int))/\∃q1 v1 f1 bd1 t1 o1,PR w' B g q1 v1 f1 bd1 t1 o1 p b (s.chunk p b x.data.toList).2/\Step (blks g q v f bd t o) (blks g q1 v1 f1 bd1 t1 o1) w w':=by
 have H:=BN h
 have HQ:=BN ((h.drew 1).bk)
 have hz:=λw=>Chk.size_any x p hp b.x0 b.x1 b.x2 b.x3 b.x4 b.x5 b.x6 b.x7 b.ch b.od (by omega) w (by omega);have HF:=chunk_facts (Ei p 27) (Ei p 28) b.x4 b.x3 x.data.toList;obtain ⟨⟨z1,z2⟩,hZ⟩:∃Z,AK (Ei p 27) (Ei p 28) b.x4 b.x3 x.data.toList=Z:=⟨_,rfl⟩;rw [hZ] at HF;clear h hx;rcases HF with ⟨e2,h0,h1⟩ | e2 | e2
 ·have e2:z2=0:=e2;subst e2;obtain ⟨n,rfl⟩:∃n:Nat,z1=(n:Int):=⟨z1.toNat,by have:0<=z1:=h0;omega⟩;have h1:(n:Int)<=max b.x3 0:=h1
  have HZ:=BN (show∀w,Calls Gq 230 #[ZY x,ZZ ZQ (p:Int),ZU #[ZZ ZS b.x0,ZZ ZS b.x1,ZZ ZS b.x2,ZZ ZS b.x3,ZZ ZS b.x4,ZZ ZS b.x5,ZZ ZS b.x6,ZZ ZS b.x7,ZW b.ch,ZW b.od]] w λe w'=>e=.returned (ZT #[ZZ ZS (n:Int),ZZ ZS 0])/\Below w.heap.size w w' from λw=>by have:=hz w;rw [hZ] at this;exact this);clear hz;rcases D3 n with hn | hn
  ·subst hn;have e:s.chunk p b x.data.toList=(0,{s with st:=7}):=by unfold T.chunk;rw [hZ];rfl
   rw [e]
   have HZ:=BN (show∀w,Calls Gq 230 #[ZY x,ZZ ZQ (p:Int),ZU #[ZZ ZS b.x0,ZZ ZS b.x1,ZZ ZS b.x2,ZZ ZS b.x3,ZZ ZS b.x4,ZZ ZS b.x5,ZZ ZS b.x6,ZZ ZS b.x7,ZW b.ch,ZW b.od]] w λe w'=>e=.returned (ZT #[ZZ ZS 0,ZZ ZS 0])/\Below w.heap.size w w' from λw=>HZ.out w);clear e hZ h0 h1;go_enter Tryz.func208,Tryz.ntmps208;go_upto_region 1 with fail
   refine Bg 15 [8,9,10,11,12,13,14,15,16,17,7,18,19,5,6] [eQ (ZY x),eP g 0,eP g 0,eP g 13,eQ (ZZ ZQ (p:Int)),eP g 0,eP g 0,eP g 14,eQ (ZU #[ZZ ZS b.x0,ZZ ZS b.x1,ZZ ZS b.x2,ZZ ZS b.x3,ZZ ZS b.x4,ZZ ZS b.x5,ZZ ZS b.x6,ZZ ZS b.x7,ZW b.ch,ZW b.od]),eQ (ZT #[ZZ ZS 0,ZZ ZS 0]),eQ (ZT #[ZZ ZS 0,ZZ ZS 0]),eQ (ZZ ZS 0),eQ (ZZ ZS 0),eQ (ZZ ZS 0),eQ (ZZ ZS 0)] (by kernel_rfl) (by kernel_rfl) (by kernel_rfl) (by kernel_rfl) (λ_ _ d _ _ h=>by cases d<;>exact h) (by rfl) (by rfl) (by repeat first | exact trivial | refine ⟨AT _,?_⟩) ?_ ?_
   ·refine ⟨?_,?_,?_,?_,?_,?_,?_,?_,?_,?_,?_,?_,?_,?_,?_,trivial⟩
    ·exact XXDW2
    ·exact XXDW2
    ·exact XXDW2
    ·exact XXDW2
    ·exact XXDW2
    ·exact XXDW2
    ·exact XXDW2
    ·exact XXDW2
    ·exact XXDW2
    ·exact XXutI
    ·exact XXDW2
    ·exact XXDW2
    ·exact XXDW2
    ·exact XXDW2
    ·exact XXDW2
   intro g1 w2 hb hf;have z5:g1 5= _:=hf.at 13;have z6:g1 6= _:=hf.at 14;clear hf;simp only [Be,Ab,Di,Dl,Dk];rw [z5];rw [z6];have H1:=BN (H.out.below hb);have HB:=BN hb;clear HQ hb
   have H2:=BN (H1.out.put 24 (ZZ ZS 7) {s with st:=7} rfl rfl rfl rfl rfl rfl)
   have HS2:=BN ((EH HB.out (L:=blks g q v f bd t o)).trans (EJ g 24 (ZZ ZS 7) (by simp)));have c24:=H1.out.cs.c24;have z24:=H1.out.marks 24;go_wp2;go_ret;exact XXCdj
  ·obtain ⟨bb,cb,eb, -⟩:=Dw H.out.own.D;subst eb
   have HD:=BN (Base.wrap_in (b.x3-(s.r.body.length:Int)) (by omega) (by omega));have tz:¬(n:Int)=0:=by omega
   have tz':((n:Int)==0)=false:=beq_eq_false_iff_ne.2 tz
   by_cases hov:b.x3-(s.r.body.length:Int)<(n:Int)
   ·have e:s.chunk p b x.data.toList=(413,s):=by
     unfold T.chunk;exact XX7js
    rw [e];have HT:=BN hov;clear e hZ h0 h1 hn;go_enter Tryz.func208,Tryz.ntmps208;go_upto_region 1 with fail
    refine Bg 15 [8,9,10,11,12,13,14,15,16,17,7,18,19,5,6] [eQ (ZY x),eP g 0,eP g 0,eP g 13,eQ (ZZ ZQ (p:Int)),eP g 0,eP g 0,eP g 14,eQ (ZU #[ZZ ZS b.x0,ZZ ZS b.x1,ZZ ZS b.x2,ZZ ZS b.x3,ZZ ZS b.x4,ZZ ZS b.x5,ZZ ZS b.x6,ZZ ZS b.x7,ZW b.ch,ZW b.od]),eQ (ZT #[ZZ ZS (n:Int),ZZ ZS 0]),eQ (ZT #[ZZ ZS (n:Int),ZZ ZS 0]),eQ (ZZ ZS (n:Int)),eQ (ZZ ZS 0),eQ (ZZ ZS (n:Int)),eQ (ZZ ZS 0)] (by kernel_rfl) (by kernel_rfl) (by kernel_rfl) (by kernel_rfl) (λ_ _ d _ _ h=>by cases d<;>exact h) (by rfl) (by rfl) (by repeat first | exact trivial | refine ⟨AT _,?_⟩) ?_ ?_
    ·refine ⟨?_,?_,?_,?_,?_,?_,?_,?_,?_,?_,?_,?_,?_,?_,?_,trivial⟩
     ·exact XXDW2
     ·exact XXDW2
     ·exact XXDW2
     ·exact XXDW2
     ·exact XXDW2
     ·exact XXDW2
     ·exact XXDW2
     ·exact XXDW2
     ·exact XXDW2
     ·exact XXutI
     ·exact XXDW2
     ·exact XXDW2
     ·exact XXDW2
     ·exact XXDW2
     ·exact XXDW2
    intro g1 w2 hb hf;have z5:g1 5= _:=hf.at 13;have z6:g1 6= _:=hf.at 14;clear hf;simp only [Be,Ab,Di,Dl,Dk];rw [z5];rw [z6];have H1:=BN (H.out.below hb);have HB:=BN hb;clear HQ hb;go_upto_region 8 with fail
    have HQ:=BN ((H1.out.drew 1).bk);refine Bg 15 [39,40,41,42,43,44,45,46,47,48,49,50,51,52,38] [eQ (ZZ ZS ((n:Nat):Int)),eP g 0,eP g 0,eP g 14,eP g 17,eQ (ZZ ZS b.x3),eP g 0,eP g 0,eP g 8,eP g 11,eQ (.slice bb s.r.body.length cb),eQ (ZZ ZS ((s.r.body.length:Nat):Int)),eQ (ZZ ZS (b.x3-(s.r.body.length:Int))),eQ (ZW true),eQ (ZW true)] (by kernel_rfl) (by kernel_rfl) (by kernel_rfl) (by kernel_rfl) (λ_ _ d _ _ h=>by cases d<;>exact h) (by rfl) (by rfl) (by repeat first | exact trivial | refine ⟨AT _,?_⟩) ?_ ?_
    ·exact XXYV8
    intro g1 w3 hb hf;have z38:g1 38= _:=hf.at 14;clear hf;simp only [Be,Ab,Di,Dl,Dk];rw [z38]
    have H2:=BN (H1.out.below hb);have HS2:=BN ((EH HB.out (L:=blks g q v f (.slice bb s.r.body.length cb) t o)).trans (EH hb));clear H1 HB hb HQ;go_wp2;go_ret;exact XXCdj
   ·have e:s.chunk p b x.data.toList=(0,{s with st:=5,left:=n}):=by
     unfold T.chunk;rw [hZ];show (if (0:Int)≠0 then _ else if (n:Int)=0 then _ else if b.x3-(s.r.body.length:Int)<(n:Int) then _ else (0,({s with left:=(n:Int).toNat,st:=5}:T)))= _;rw [if_neg (by decide),if_neg tz,if_neg hov,Int.toNat_natCast]
    rw [e];have HT:=BN hov;clear e hZ h0 h1 hn;go_enter Tryz.func208,Tryz.ntmps208;go_upto_region 1 with fail
    refine Bg 15 [8,9,10,11,12,13,14,15,16,17,7,18,19,5,6] [eQ (ZY x),eP g 0,eP g 0,eP g 13,eQ (ZZ ZQ (p:Int)),eP g 0,eP g 0,eP g 14,eQ (ZU #[ZZ ZS b.x0,ZZ ZS b.x1,ZZ ZS b.x2,ZZ ZS b.x3,ZZ ZS b.x4,ZZ ZS b.x5,ZZ ZS b.x6,ZZ ZS b.x7,ZW b.ch,ZW b.od]),eQ (ZT #[ZZ ZS (n:Int),ZZ ZS 0]),eQ (ZT #[ZZ ZS (n:Int),ZZ ZS 0]),eQ (ZZ ZS (n:Int)),eQ (ZZ ZS 0),eQ (ZZ ZS (n:Int)),eQ (ZZ ZS 0)] (by kernel_rfl) (by kernel_rfl) (by kernel_rfl) (by kernel_rfl) (λ_ _ d _ _ h=>by cases d<;>exact h) (by rfl) (by rfl) (by repeat first | exact trivial | refine ⟨AT _,?_⟩) ?_ ?_
    ·refine ⟨?_,?_,?_,?_,?_,?_,?_,?_,?_,?_,?_,?_,?_,?_,?_,trivial⟩
     ·exact XXDW2
     ·exact XXDW2
     ·exact XXDW2
     ·exact XXDW2
     ·exact XXDW2
     ·exact XXDW2
     ·exact XXDW2
     ·exact XXDW2
     ·exact XXDW2
     ·exact XXutI
     ·exact XXDW2
     ·exact XXDW2
     ·exact XXDW2
     ·exact XXDW2
     ·exact XXDW2
    intro g1 w2 hb hf;have z5:g1 5= _:=hf.at 13;have z6:g1 6= _:=hf.at 14;clear hf;simp only [Be,Ab,Di,Dl,Dk];rw [z5];rw [z6];have H1:=BN (H.out.below hb);have HB:=BN hb;clear HQ hb;go_upto_region 8 with fail
    have HQ:=BN ((H1.out.drew 1).bk);refine Bg 15 [39,40,41,42,43,44,45,46,47,48,49,50,51,52,38] [eQ (ZZ ZS ((n:Nat):Int)),eP g 0,eP g 0,eP g 14,eP g 17,eQ (ZZ ZS b.x3),eP g 0,eP g 0,eP g 8,eP g 11,eQ (.slice bb s.r.body.length cb),eQ (ZZ ZS ((s.r.body.length:Nat):Int)),eQ (ZZ ZS (b.x3-(s.r.body.length:Int))),eQ (ZW false),eQ (ZW false)] (by kernel_rfl) (by kernel_rfl) (by kernel_rfl) (by kernel_rfl) (λ_ _ d _ _ h=>by cases d<;>exact h) (by rfl) (by rfl) (by repeat first | exact trivial | refine ⟨AT _,?_⟩) ?_ ?_
    ·exact XXYV8
    intro g1 w3 hb hf;have z38:g1 38= _:=hf.at 14;clear hf;simp only [Be,Ab,Di,Dl,Dk];rw [z38]
    have H2:=BN (H1.out.below hb);have HS2:=BN ((EH HB.out (L:=blks g q v f (.slice bb s.r.body.length cb) t o)).trans (EH hb));clear H1 HB hb HQ
    have H3:=BN ((H2.out.put 12 (ZZ ZS (n:Int)) {s with left:=n} rfl rfl rfl rfl rfl rfl).put 24 (ZZ ZS 5) {s with left:=n,st:=5} rfl rfl rfl rfl rfl rfl)
    have HS3:=BN (HS2.out.trans ((EJ g 12 (ZZ ZS (n:Int)) (by simp)).trans (EJ g 24 (ZZ ZS 5) (by simp))));have c12:=H2.out.cs.c12;have z12:=H2.out.marks 12;have c24:=H2.out.cs.c24;have z24:=H2.out.marks 24;go_wp2;go_ret;exact ⟨rfl,_,_,_,_,_,_,H3.out,HS3.out⟩
 ·have e2:z2=400:=e2;subst e2
  have HZ:=BN (show∀w,Calls Gq 230 #[ZY x,ZZ ZQ (p:Int),ZU #[ZZ ZS b.x0,ZZ ZS b.x1,ZZ ZS b.x2,ZZ ZS b.x3,ZZ ZS b.x4,ZZ ZS b.x5,ZZ ZS b.x6,ZZ ZS b.x7,ZW b.ch,ZW b.od]] w λe w'=>e=.returned (ZT #[ZZ ZS z1,ZZ ZS 400])/\Below w.heap.size w w' from λw=>by have:=hz w;rw [hZ] at this;exact this);have e:s.chunk p b x.data.toList=(400,s):=by unfold T.chunk;rw [hZ];rfl
  rw [e];clear hz hZ e;go_enter Tryz.func208,Tryz.ntmps208;go_upto_region 1 with fail
  refine Bg 15 [8,9,10,11,12,13,14,15,16,17,7,18,19,5,6] [eQ (ZY x),eP g 0,eP g 0,eP g 13,eQ (ZZ ZQ (p:Int)),eP g 0,eP g 0,eP g 14,eQ (ZU #[ZZ ZS b.x0,ZZ ZS b.x1,ZZ ZS b.x2,ZZ ZS b.x3,ZZ ZS b.x4,ZZ ZS b.x5,ZZ ZS b.x6,ZZ ZS b.x7,ZW b.ch,ZW b.od]),eQ (ZT #[ZZ ZS z1,ZZ ZS 400]),eQ (ZT #[ZZ ZS z1,ZZ ZS 400]),eQ (ZZ ZS z1),eQ (ZZ ZS 400),eQ (ZZ ZS z1),eQ (ZZ ZS 400)] (by kernel_rfl) (by kernel_rfl) (by kernel_rfl) (by kernel_rfl) (λ_ _ d _ _ h=>by cases d<;>exact h) (by rfl) (by rfl) (by repeat first | exact trivial | refine ⟨AT _,?_⟩) ?_ ?_
  ·refine ⟨?_,?_,?_,?_,?_,?_,?_,?_,?_,?_,?_,?_,?_,?_,?_,trivial⟩
   ·exact XXDW2
   ·exact XXDW2
   ·exact XXDW2
   ·exact XXDW2
   ·exact XXDW2
   ·exact XXDW2
   ·exact XXDW2
   ·exact XXDW2
   ·exact XXDW2
   ·exact XXutI
   ·exact XXDW2
   ·exact XXDW2
   ·exact XXDW2
   ·exact XXDW2
   ·exact XXDW2
  exact XXS6f
 ·have e2:z2=413:=e2;subst e2
  have HZ:=BN (show∀w,Calls Gq 230 #[ZY x,ZZ ZQ (p:Int),ZU #[ZZ ZS b.x0,ZZ ZS b.x1,ZZ ZS b.x2,ZZ ZS b.x3,ZZ ZS b.x4,ZZ ZS b.x5,ZZ ZS b.x6,ZZ ZS b.x7,ZW b.ch,ZW b.od]] w λe w'=>e=.returned (ZT #[ZZ ZS z1,ZZ ZS 413])/\Below w.heap.size w w' from λw=>by have:=hz w;rw [hZ] at this;exact this);have e:s.chunk p b x.data.toList=(413,s):=by unfold T.chunk;rw [hZ];rfl
  rw [e];clear hz hZ e;go_enter Tryz.func208,Tryz.ntmps208;go_upto_region 1 with fail
  refine Bg 15 [8,9,10,11,12,13,14,15,16,17,7,18,19,5,6] [eQ (ZY x),eP g 0,eP g 0,eP g 13,eQ (ZZ ZQ (p:Int)),eP g 0,eP g 0,eP g 14,eQ (ZU #[ZZ ZS b.x0,ZZ ZS b.x1,ZZ ZS b.x2,ZZ ZS b.x3,ZZ ZS b.x4,ZZ ZS b.x5,ZZ ZS b.x6,ZZ ZS b.x7,ZW b.ch,ZW b.od]),eQ (ZT #[ZZ ZS z1,ZZ ZS 413]),eQ (ZT #[ZZ ZS z1,ZZ ZS 413]),eQ (ZZ ZS z1),eQ (ZZ ZS 413),eQ (ZZ ZS z1),eQ (ZZ ZS 413)] (by kernel_rfl) (by kernel_rfl) (by kernel_rfl) (by kernel_rfl) (λ_ _ d _ _ h=>by cases d<;>exact h) (by rfl) (by rfl) (by repeat first | exact trivial | refine ⟨AT _,?_⟩) ?_ ?_
  ·refine ⟨?_,?_,?_,?_,?_,?_,?_,?_,?_,?_,?_,?_,?_,?_,?_,trivial⟩
   ·exact XXDW2
   ·exact XXDW2
   ·exact XXDW2
   ·exact XXDW2
   ·exact XXDW2
   ·exact XXDW2
   ·exact XXDW2
   ·exact XXDW2
   ·exact XXDW2
   ·exact XXutI
   ·exact XXDW2
   ·exact XXDW2
   ·exact XXDW2
   ·exact XXDW2
   ·exact XXDW2
  exact XXS6f
theorem XXkR9 {P:Prop} (h:P:=by refine AY rfl (λev w1 hR hb hh=>?_);have e0:=hR.old 0 rfl;simp only [Ag,C6,Cy,Cz,DV] at e0;have q13:=(HQ.out.below hb).c 13 _ rfl;have q14:=(HQ.out.below hb).c 14 _ rfl;have q15:=(HQ.out.below hb).c 15 _ rfl;have q16:=(HQ.out.below hb).c 16 _ rfl;have q17:=(HQ.out.below hb).c 17 _ rfl;have q18:=(HQ.out.below hb).c 18 _ rfl;have q19:=(HQ.out.below hb).c 19 _ rfl;have q20:=(HQ.out.below hb).c 20 _ rfl;have q21:=(HQ.out.below hb).c 21 _ rfl;have q22:=(HQ.out.below hb).c 22 _ rfl;have q23:=(HQ.out.below hb).c 23 _ rfl;have q5:=(HQ.out.below hb).c 5 _ rfl;have q2:=(HQ.out.below hb).c 2 _ rfl;exact Each.std):P:=h
theorem _root_.Go.Proofs.YtnabkcglnbdfeaaGreatDoor.XXsvP {P:Prop} (h:P:=by
 have y0:=hB2.c 0 _ rfl;have y1:=hB2.c 1 _ rfl;have x0:=hB2.z 0 (by simp);have x1:=hB2.z 1 (by simp)
 refine Fi (by rfl) (λK hK=>?_);go_simp;refine hK _ _ trivial ?_;clear hK K y0 y1 x0 x1;refine Tree.assign _ (by rfl) (by rfl) ?_;simp only [Ab,Act.eval,Ag,C6,Cz,Cy,DV,Di,Dl,Dk];refine Fj ?_;go_wp2_with fail;go_meet
 case rel=>exact ⟨g2,rfl,rfl,BN ((hb.setCell hg2 _).setCell hg2 _),BN ((hB2.set 0 (ZZ ZS 1) (by simp)).set 1 (ZZ ZS (n:Int)) (by simp)),BN hg2⟩):P:=h
theorem _root_.Go.Proofs.YtnabkcglnbdfeaaGreatDoor.XXZHN {P:Prop} (h:P:=by
 have y0:=hB2.c 0 _ rfl;have y1:=hB2.c 1 _ rfl;have x0:=hB2.z 0 (by simp);have x1:=hB2.z 1 (by simp)
 refine Fi (by rfl) (λK hK=>?_);go_simp;refine hK _ _ trivial ?_;clear hK K y0 y1 x0 x1;refine Tree.assign _ (by rfl) (by rfl) ?_;simp only [Ab,Act.eval,Ag,C6,Cz,Cy,DV,Di,Dl,Dk];refine Fj ?_;go_wp2_with fail;go_meet
 case rel=>exact ⟨g2,rfl,rfl,BN ((hb.setCell hg2 _).setCell hg2 _),BN ((hB2.set 0 (ZZ ZS 2) (by simp)).set 1 (ZZ ZS 0) (by simp)),BN hg2⟩):P:=h
theorem _root_.Go.Proofs.YtnabkcglnbdfeaaGreatDoor.XX4U6 {P:Prop} (h:P:=by
 have y0:=hB2.c 0 _ rfl;have y1:=hB2.c 1 _ rfl;have x0:=hB2.z 0 (by simp);have x1:=hB2.z 1 (by simp)
 refine Fi (by rfl) (λK hK=>?_);go_simp;refine hK _ _ trivial ?_;clear hK K y0 y1 x0 x1;refine Tree.assign _ (by rfl) (by rfl) ?_;simp only [Ab,Act.eval,Ag,C6,Cz,Cy,DV,Di,Dl,Dk];refine Fj ?_;go_wp2_with fail;go_meet
 case rel=>exact ⟨g2,rfl,rfl,BN ((hb.setCell hg2 _).setCell hg2 _),BN ((hB2.set 0 (ZZ ZS 1) (by simp)).set 1 (ZZ ZS 0) (by simp)),BN hg2⟩):P:=h
theorem _root_.Go.Proofs.YtnabkcglnbdfeaaGreatDoor.XX0H4 {P:Prop} (h:P:=by
 have y0:=hB2.c 0 _ rfl;have y1:=hB2.c 1 _ rfl;have x0:=hB2.z 0 (by simp);have x1:=hB2.z 1 (by simp)
 refine Fi (by rfl) (λK hK=>?_);go_simp;refine hK _ _ trivial ?_;clear hK K y0 y1 x0 x1;refine Tree.assign _ (by rfl) (by rfl) ?_;simp only [Ab,Act.eval,Ag,C6,Cz,Cy,DV,Di,Dl,Dk];refine Fj ?_;go_wp2_with fail;go_meet
 case rel=>exact ⟨g2,rfl,rfl,BN ((hb.setCell hg2 _).setCell hg2 _),BN ((hB2.set 0 (ZZ ZS 0) (by simp)).set 1 (ZZ ZS 0) (by simp)),BN hg2⟩):P:=h
theorem _root_.Go.Proofs.YtnabkcglnbdfeaaGreatDoor.XXdQp {P:Prop} (h:P:=by
 refine AY rfl (λev w1 hR hb hh=>?_);clear hh
 exact AO.value (ptr w1.heap.size) (w1.alloc (.cells #[ZZ ZS 0,ZZ ZS 0] 217)) (by go_simp) ((Ao _ _).alloc (D5 _) _) ⟨_,rfl,hb.size,Em w1 _ rfl 217 [ZZ ZS 0,ZZ ZS 0]⟩):P:=h
theorem XXCH5 {P:Prop} (h:P:=by
 refine AY rfl (λev w1 hR hb hh=>?_);have e9:ev (.tmp 9)= _:=hh.at 0;have e13:ev (.tmp 13)= _:=hh.at 1;have e18:ev (.tmp 18)= _:=hh.at 2;have e24:ev (.tmp 24)= _:=hh.at 3;clear hh;have ef:=hR.func
 refine AP 247 #[ZZ ZQ (p:Int),ZU #[ZZ ZS b.x0,ZZ ZS b.x1,ZZ ZS b.x2,ZZ ZS b.x3,ZZ ZS b.x4,ZZ ZS b.x5,ZZ ZS b.x6,ZZ ZS b.x7,ZW b.ch,ZW b.od],ZZ ZS s.r.k,.slice bf s.r.fs.length cf] (by go_simp) ((HZ.out w1 hb).mono ?_);rintro r w2 ⟨rfl,hb2⟩
 exact ⟨_,rfl,hb2,rfl⟩):P:=h
theorem endHead_any (hp:p<4294967296) (h3:16<=b.x3/\b.x3<=1048576) (h:PR w B g q v f bd t o p b s) (hn:s.r.fs.length<=500) (hs:∀y∈s.r.fs,y.1.size<=1000000/\y.2.size<=1000000) (hout:s.out.length<=1000000000):Calls Gq 228 #[ptr g] w λr w'=>
 r=.returned (ZZ ZS (((s.endHead p b).1:Nat):Int))/\∃q1 v1 f1 bd1 t1 o1,PR w' B g q1 v1 f1 bd1 t1 o1 p b (s.endHead p b).2/\Step (blks g q v f bd t o) (blks g q1 v1 f1 bd1 t1 o1) w w':=by
 obtain ⟨A,c,e,hv⟩:=Flds.of_own h.own.F;obtain ⟨bf,cf,eb, -⟩:=Dw h.own.F;subst eb;simp only [Value.slice.injEq,true_and] at e;obtain ⟨rfl,rfl⟩:=e;have H:=BN h
 have HQ:=BN ((h.drew 1).bk)
 have hvd:=hv.below (Ak (Ao w.heap.size w) 1);have hz:=λw2 (hb:Below (w.drewN 1).heap.size (w.drewN 1) w2)=>Frm.decide_any p hp b.x0 b.x1 b.x2 b.x3 b.x4 b.x5 b.x6 b.x7 b.ch b.od (by omega) s.r.k _ _ cf s.r.fs w2 (hvd.below hb) hn hs;have HO:=BN hout;clear h hn hs hout hv;rcases decide_facts (Frm.clOf p) b.ch b.x3 s.r.k s.r.fs with hD | ⟨n,hle,hD⟩ | ⟨e,he,hD⟩
 ·have HZ:=BN (show∀w2,Below (w.drewN 1).heap.size (w.drewN 1) w2->Calls Gq 247 #[ZZ ZQ (p:Int),ZU #[ZZ ZS b.x0,ZZ ZS b.x1,ZZ ZS b.x2,ZZ ZS b.x3,ZZ ZS b.x4,ZZ ZS b.x5,ZZ ZS b.x6,ZZ ZS b.x7,ZW b.ch,ZW b.od],ZZ ZS s.r.k,.slice bf s.r.fs.length cf] w2 λr w'=>r=.returned (ZT #[ZU #[ZZ ZS 2,ZZ ZS 0],ZZ ZS 0])/\Below w2.heap.size w2 w' from λw2 hb=>by have:=hz w2 hb;rw [hD] at this;exact this);have e:s.endHead p b=(0,{s with r:={s.r with ch:=true},st:=4}):=by unfold T.endHead;rw [hD];rfl
  rw [e];clear hz hD e hvd;go_enter Tryz.func228,Tryz.ntmps228;go_upto_region 1 with fail
  go_cut [3,4] from 5 to 27 (λu c wx=>∃g2,u=ptr g2/\c=ZZ ZS 0/\Hid (Below w.heap.size w wx)/\Hid (El wx g2 [ZZ ZS 2,ZZ ZS 0])/\Hid (w.heap.size<=g2))
  case first=>
   refine Each.region_float 24 [6,7,8,9,10,11,12,13,14,15,16,17,18,19,20,21,22,23,24,25,5,26,27,3] [eP g 0,eP g 0,eP g 13,eQ (ZZ ZQ (p:Int)),eP g 0,eP g 0,eP g 14,eQ (ZU #[ZZ ZS b.x0,ZZ ZS b.x1,ZZ ZS b.x2,ZZ ZS b.x3,ZZ ZS b.x4,ZZ ZS b.x5,ZZ ZS b.x6,ZZ ZS b.x7,ZW b.ch,ZW b.od]),eP g 0,eP g 0,eP g 1,eP g 5,eQ (ZZ ZS s.r.k),eP g 0,eP g 0,eP g 1,eP g 1,eP g 2,eQ (.slice bf s.r.fs.length cf),eQ (ZT #[ZU #[ZZ ZS 2,ZZ ZS 0],ZZ ZS 0]),eQ (ZT #[ZU #[ZZ ZS 2,ZZ ZS 0],ZZ ZS 0]),eQ (ZU #[ZZ ZS 2,ZZ ZS 0]),eQ (ZZ ZS 0),λv u=>∃g2,v=ptr g2/\w.heap.size<=g2/\El u g2 [ZZ ZS 0,ZZ ZS 0]] [] 2 (some 22) (.act 24 (.quiet 25 .done)) (.quiet 22 (.act 24 (.quiet 25 .done))) (by kernel_rfl) (by kernel_rfl) (by kernel_rfl) (by kernel_rfl) (λk0 h=>by cases h;kernel_rfl) (λ_ _ d _ _ h=>by cases d<;>exact h) (by rfl) (by rfl) ⟨AT _,AT _,AT _,AT _,AT _,AT _,AT _,AT _,AT _,AT _,AT _,AT _,AT _,AT _,AT _,AT _,AT _,AT _,AT _,AT _,AT _,AT _,AT _,((λ_ _ _ hb h=>by obtain ⟨g2,e1,h1,hB⟩:=h;exact ⟨g2,e1,h1,hB.below hb⟩)),trivial⟩ trivial (by rfl) ?_ ?_ ?_
   ·refine ⟨?_,?_,?_,?_,?_,?_,?_,?_,?_,?_,?_,?_,?_,?_,?_,?_,?_,?_,?_,?_,?_,?_,?_,?_,trivial⟩
    ·exact XXkR9
    ·exact XXkR9
    ·exact XXkR9
    ·exact XXkR9
    ·exact XXkR9
    ·exact XXkR9
    ·exact XXkR9
    ·exact XXkR9
    ·exact XXkR9
    ·exact XXkR9
    ·exact XXkR9
    ·exact XXkR9
    ·exact XXkR9
    ·exact XXkR9
    ·exact XXkR9
    ·exact XXkR9
    ·exact XXkR9
    ·exact XXkR9
    ·exact XXkR9
    ·exact XXCH5
    ·exact XXkR9
    ·exact XXkR9
    ·exact XXkR9
    ·exact XXdQp
   ·intro g1 w2 hb hf;have z5:g1 5= _:=hf.at 20;have z26:g1 26= _:=hf.at 21;have z27:g1 27= _:=hf.at 22;have z3:=hf.at 23;clear hf;obtain ⟨g2,e2,hg2,hB2⟩:=z3;simp only [Be,Ab,Di,Dl,Dk];rw [z5,z26,z27,e2];simp only [Fk,Fl,Cz,Cy];exact XXZHN
   ·intro k0 hk0 g1 w2 hb hf;cases hk0;have z5:g1 5= _:=hf.at 20;have z26:g1 26= _:=hf.at 21;have z3:=hf.at 23;clear hf;obtain ⟨g2,e2,hg2,hB2⟩:=z3;simp only [Be,Ab,Di,Dl,Dk];rw [z5,z26,e2];simp only [Fk,Fl,Cz,Cy];refine Fm (by rfl) (ZZ ZS 0) (λ_ _=>by go_simp) ?_;simp only [Ab,Di,Dl,Dk];exact XXZHN
  case rest=>
  obtain ⟨g2,rfl,rfl,HB,HG,HG2⟩:=hcut
  have H1:=BN (H.out.below HB.out);clear HQ;obtain ⟨W0,hW0⟩:∃x,x=wc:=⟨_,rfl⟩;subst hW0;have y0:=HG.out.c 0 _ rfl;have y1:=HG.out.c 1 _ rfl
  have H2:=BN ((H1.out.put 10 (ZW true) {s with r:={s.r with ch:=true}} rfl rfl rfl rfl rfl rfl).put 24 (ZZ ZS 4) {s with r:={s.r with ch:=true},st:=4} rfl rfl rfl rfl rfl rfl)
  have HS2:=BN ((EH HB.out (L:=blks g q v (.slice bf s.r.fs.length cf) bd t o)).trans ((EJ g 10 (ZW true) (by simp)).trans (EJ g 24 (ZZ ZS 4) (by simp))));have c10:=H1.out.cs.c10;have z10:=H1.out.marks 10;have c24:=H1.out.cs.c24;have z24:=H1.out.marks 24;go_wp2;go_ret;exact XXCdj
 ·have HZ:=BN (show∀w2,Below (w.drewN 1).heap.size (w.drewN 1) w2->Calls Gq 247 #[ZZ ZQ (p:Int),ZU #[ZZ ZS b.x0,ZZ ZS b.x1,ZZ ZS b.x2,ZZ ZS b.x3,ZZ ZS b.x4,ZZ ZS b.x5,ZZ ZS b.x6,ZZ ZS b.x7,ZW b.ch,ZW b.od],ZZ ZS s.r.k,.slice bf s.r.fs.length cf] w2 λr w'=>r=.returned (ZT #[ZU #[ZZ ZS 1,ZZ ZS (n:Int)],ZZ ZS 0])/\Below w2.heap.size w2 w' from λw2 hb=>by have:=hz w2 hb;rw [hD] at this;exact this);rcases D3 n with hn | hn
  ·subst hn
   have HZ:=BN (show∀w2,Below (w.drewN 1).heap.size (w.drewN 1) w2->Calls Gq 247 #[ZZ ZQ (p:Int),ZU #[ZZ ZS b.x0,ZZ ZS b.x1,ZZ ZS b.x2,ZZ ZS b.x3,ZZ ZS b.x4,ZZ ZS b.x5,ZZ ZS b.x6,ZZ ZS b.x7,ZW b.ch,ZW b.od],ZZ ZS s.r.k,.slice bf s.r.fs.length cf] w2 λe w'=>e=.returned (ZT #[ZU #[ZZ ZS 1,ZZ ZS 0],ZZ ZS 0])/\Below w2.heap.size w2 w' from λw2 hb=>HZ.out w2 hb);have e:s.endHead p b=(0,s.fin):=by unfold T.endHead;rw [hD];rfl
   rw [e];clear hz hD e hvd hle;go_enter Tryz.func228,Tryz.ntmps228;go_upto_region 1 with fail
   go_cut [3,4] from 5 to 27 (λu c wx=>∃g2,u=ptr g2/\c=ZZ ZS 0/\Hid (Below w.heap.size w wx)/\Hid (El wx g2 [ZZ ZS 1,ZZ ZS 0])/\Hid (w.heap.size<=g2))
   case first=>
    refine Each.region_float 24 [6,7,8,9,10,11,12,13,14,15,16,17,18,19,20,21,22,23,24,25,5,26,27,3] [eP g 0,eP g 0,eP g 13,eQ (ZZ ZQ (p:Int)),eP g 0,eP g 0,eP g 14,eQ (ZU #[ZZ ZS b.x0,ZZ ZS b.x1,ZZ ZS b.x2,ZZ ZS b.x3,ZZ ZS b.x4,ZZ ZS b.x5,ZZ ZS b.x6,ZZ ZS b.x7,ZW b.ch,ZW b.od]),eP g 0,eP g 0,eP g 1,eP g 5,eQ (ZZ ZS s.r.k),eP g 0,eP g 0,eP g 1,eP g 1,eP g 2,eQ (.slice bf s.r.fs.length cf),eQ (ZT #[ZU #[ZZ ZS 1,ZZ ZS 0],ZZ ZS 0]),eQ (ZT #[ZU #[ZZ ZS 1,ZZ ZS 0],ZZ ZS 0]),eQ (ZU #[ZZ ZS 1,ZZ ZS 0]),eQ (ZZ ZS 0),λv u=>∃g2,v=ptr g2/\w.heap.size<=g2/\El u g2 [ZZ ZS 0,ZZ ZS 0]] [] 2 (some 22) (.act 24 (.quiet 25 .done)) (.quiet 22 (.act 24 (.quiet 25 .done))) (by kernel_rfl) (by kernel_rfl) (by kernel_rfl) (by kernel_rfl) (λk0 h=>by cases h;kernel_rfl) (λ_ _ d _ _ h=>by cases d<;>exact h) (by rfl) (by rfl) ⟨AT _,AT _,AT _,AT _,AT _,AT _,AT _,AT _,AT _,AT _,AT _,AT _,AT _,AT _,AT _,AT _,AT _,AT _,AT _,AT _,AT _,AT _,AT _,((λ_ _ _ hb h=>by obtain ⟨g2,e1,h1,hB⟩:=h;exact ⟨g2,e1,h1,hB.below hb⟩)),trivial⟩ trivial (by rfl) ?_ ?_ ?_
    ·refine ⟨?_,?_,?_,?_,?_,?_,?_,?_,?_,?_,?_,?_,?_,?_,?_,?_,?_,?_,?_,?_,?_,?_,?_,?_,trivial⟩
     ·exact XXkR9
     ·exact XXkR9
     ·exact XXkR9
     ·exact XXkR9
     ·exact XXkR9
     ·exact XXkR9
     ·exact XXkR9
     ·exact XXkR9
     ·exact XXkR9
     ·exact XXkR9
     ·exact XXkR9
     ·exact XXkR9
     ·exact XXkR9
     ·exact XXkR9
     ·exact XXkR9
     ·exact XXkR9
     ·exact XXkR9
     ·exact XXkR9
     ·exact XXkR9
     ·exact XXCH5
     ·exact XXkR9
     ·exact XXkR9
     ·exact XXkR9
     ·exact XXdQp
    ·intro g1 w2 hb hf;have z5:g1 5= _:=hf.at 20;have z26:g1 26= _:=hf.at 21;have z27:g1 27= _:=hf.at 22;have z3:=hf.at 23;clear hf;obtain ⟨g2,e2,hg2,hB2⟩:=z3;simp only [Be,Ab,Di,Dl,Dk];rw [z5,z26,z27,e2];simp only [Fk,Fl,Cz,Cy];exact XX4U6
    ·intro k0 hk0 g1 w2 hb hf;cases hk0;have z5:g1 5= _:=hf.at 20;have z26:g1 26= _:=hf.at 21;have z3:=hf.at 23;clear hf;obtain ⟨g2,e2,hg2,hB2⟩:=z3;simp only [Be,Ab,Di,Dl,Dk];rw [z5,z26,e2];simp only [Fk,Fl,Cz,Cy];refine Fm (by rfl) (ZZ ZS 0) (λ_ _=>by go_simp) ?_;simp only [Ab,Di,Dl,Dk];exact XX4U6
   case rest=>
   obtain ⟨g2,rfl,rfl,HB,HG,HG2⟩:=hcut
   have H1:=BN (H.out.below HB.out);clear HQ;obtain ⟨W0,hW0⟩:∃x,x=wc:=⟨_,rfl⟩;subst hW0;have y0:=HG.out.c 0 _ rfl;have y1:=HG.out.c 1 _ rfl
   have HW:=BN (finish_any H1.out HO.out)
   go_wp2_with (go_at_call 183;with_reducible refine HW.out.mono ?_;rintro r w3 ⟨rfl,o1,hP,hS⟩);go_ret;exact ⟨rfl,_,_,_,_,_,_,hP,(EH HB.out).trans hS⟩
  ·have tz:¬(n:Int)=0:=by omega
   have tz':((n:Int)==0)=false:=beq_eq_false_iff_ne.2 tz;have e:s.endHead p b=(0,{s with st:=3,left:=n}):=by unfold T.endHead;rw [hD];show (if (0:Int)≠0 then _ else if (1:Int)=2 then _ else if (n:Int)=0 then _ else (0,({s with left:=(n:Int).toNat,st:=3}:T)))= _;rw [if_neg (by decide),if_neg (by decide),if_neg tz,Int.toNat_natCast]
   rw [e];clear hz hD e hvd hle hn;go_enter Tryz.func228,Tryz.ntmps228;go_upto_region 1 with fail
   go_cut [3,4] from 5 to 27 (λu c wx=>∃g2,u=ptr g2/\c=ZZ ZS 0/\Hid (Below w.heap.size w wx)/\Hid (El wx g2 [ZZ ZS 1,ZZ ZS (n:Int)])/\Hid (w.heap.size<=g2))
   case first=>
    refine Each.region_float 24 [6,7,8,9,10,11,12,13,14,15,16,17,18,19,20,21,22,23,24,25,5,26,27,3] [eP g 0,eP g 0,eP g 13,eQ (ZZ ZQ (p:Int)),eP g 0,eP g 0,eP g 14,eQ (ZU #[ZZ ZS b.x0,ZZ ZS b.x1,ZZ ZS b.x2,ZZ ZS b.x3,ZZ ZS b.x4,ZZ ZS b.x5,ZZ ZS b.x6,ZZ ZS b.x7,ZW b.ch,ZW b.od]),eP g 0,eP g 0,eP g 1,eP g 5,eQ (ZZ ZS s.r.k),eP g 0,eP g 0,eP g 1,eP g 1,eP g 2,eQ (.slice bf s.r.fs.length cf),eQ (ZT #[ZU #[ZZ ZS 1,ZZ ZS (n:Int)],ZZ ZS 0]),eQ (ZT #[ZU #[ZZ ZS 1,ZZ ZS (n:Int)],ZZ ZS 0]),eQ (ZU #[ZZ ZS 1,ZZ ZS (n:Int)]),eQ (ZZ ZS 0),λv u=>∃g2,v=ptr g2/\w.heap.size<=g2/\El u g2 [ZZ ZS 0,ZZ ZS 0]] [] 2 (some 22) (.act 24 (.quiet 25 .done)) (.quiet 22 (.act 24 (.quiet 25 .done))) (by kernel_rfl) (by kernel_rfl) (by kernel_rfl) (by kernel_rfl) (λk0 h=>by cases h;kernel_rfl) (λ_ _ d _ _ h=>by cases d<;>exact h) (by rfl) (by rfl) ⟨AT _,AT _,AT _,AT _,AT _,AT _,AT _,AT _,AT _,AT _,AT _,AT _,AT _,AT _,AT _,AT _,AT _,AT _,AT _,AT _,AT _,AT _,AT _,((λ_ _ _ hb h=>by obtain ⟨g2,e1,h1,hB⟩:=h;exact ⟨g2,e1,h1,hB.below hb⟩)),trivial⟩ trivial (by rfl) ?_ ?_ ?_
    ·refine ⟨?_,?_,?_,?_,?_,?_,?_,?_,?_,?_,?_,?_,?_,?_,?_,?_,?_,?_,?_,?_,?_,?_,?_,?_,trivial⟩
     ·exact XXkR9
     ·exact XXkR9
     ·exact XXkR9
     ·exact XXkR9
     ·exact XXkR9
     ·exact XXkR9
     ·exact XXkR9
     ·exact XXkR9
     ·exact XXkR9
     ·exact XXkR9
     ·exact XXkR9
     ·exact XXkR9
     ·exact XXkR9
     ·exact XXkR9
     ·exact XXkR9
     ·exact XXkR9
     ·exact XXkR9
     ·exact XXkR9
     ·exact XXkR9
     ·exact XXCH5
     ·exact XXkR9
     ·exact XXkR9
     ·exact XXkR9
     ·exact XXdQp
    ·intro g1 w2 hb hf;have z5:g1 5= _:=hf.at 20;have z26:g1 26= _:=hf.at 21;have z27:g1 27= _:=hf.at 22;have z3:=hf.at 23;clear hf;obtain ⟨g2,e2,hg2,hB2⟩:=z3;simp only [Be,Ab,Di,Dl,Dk];rw [z5,z26,z27,e2];simp only [Fk,Fl,Cz,Cy];exact XXsvP
    ·intro k0 hk0 g1 w2 hb hf;cases hk0;have z5:g1 5= _:=hf.at 20;have z26:g1 26= _:=hf.at 21;have z3:=hf.at 23;clear hf;obtain ⟨g2,e2,hg2,hB2⟩:=z3;simp only [Be,Ab,Di,Dl,Dk];rw [z5,z26,e2];simp only [Fk,Fl,Cz,Cy];refine Fm (by rfl) (ZZ ZS 0) (λ_ _=>by go_simp) ?_;simp only [Ab,Di,Dl,Dk];exact XXsvP
   case rest=>
   obtain ⟨g2,rfl,rfl,HB,HG,HG2⟩:=hcut
   have H1:=BN (H.out.below HB.out);clear HQ;obtain ⟨W0,hW0⟩:∃x,x=wc:=⟨_,rfl⟩;subst hW0;have y0:=HG.out.c 0 _ rfl;have y1:=HG.out.c 1 _ rfl
   have H2:=BN ((H1.out.put 12 (ZZ ZS (n:Int)) {s with left:=n} rfl rfl rfl rfl rfl rfl).put 24 (ZZ ZS 3) {s with left:=n,st:=3} rfl rfl rfl rfl rfl rfl)
   have HS2:=BN ((EH HB.out (L:=blks g q v (.slice bf s.r.fs.length cf) bd t o)).trans ((EJ g 12 (ZZ ZS (n:Int)) (by simp)).trans (EJ g 24 (ZZ ZS 3) (by simp))));have c12:=H1.out.cs.c12;have z12:=H1.out.marks 12;have c24:=H1.out.cs.c24;have z24:=H1.out.marks 24;go_wp2;go_ret;exact XXCdj
 ·have HZ:=BN (show∀w2,Below (w.drewN 1).heap.size (w.drewN 1) w2->Calls Gq 247 #[ZZ ZQ (p:Int),ZU #[ZZ ZS b.x0,ZZ ZS b.x1,ZZ ZS b.x2,ZZ ZS b.x3,ZZ ZS b.x4,ZZ ZS b.x5,ZZ ZS b.x6,ZZ ZS b.x7,ZW b.ch,ZW b.od],ZZ ZS s.r.k,.slice bf s.r.fs.length cf] w2 λr w'=>r=.returned (ZT #[ZU #[ZZ ZS 0,ZZ ZS 0],ZZ ZS (e:Int)])/\Below w2.heap.size w2 w' from λw2 hb=>by have:=hz w2 hb;rw [hD] at this;exact this);have tz:¬(e:Int)=0:=by omega
  have tz':((e:Int)==0)=false:=beq_eq_false_iff_ne.2 tz;have tz2:((e:Int) != 0)=true:=bne_iff_ne.2 tz;have e1:s.endHead p b=(e,s):=by unfold T.endHead;rw [hD];show (if (e:Int)≠0 then ((e:Int).toNat,s) else _)= _;rw [if_pos tz,Int.toNat_natCast]
  rw [e1];clear hz hD e1 hvd he;go_enter Tryz.func228,Tryz.ntmps228;go_upto_region 1 with fail
  go_cut [3,4] from 5 to 27 (λu c wx=>∃g2,u=ptr g2/\c=ZZ ZS (e:Int)/\Hid (Below w.heap.size w wx)/\Hid (El wx g2 [ZZ ZS 0,ZZ ZS 0])/\Hid (w.heap.size<=g2))
  case first=>
   refine Each.region_float 24 [6,7,8,9,10,11,12,13,14,15,16,17,18,19,20,21,22,23,24,25,5,26,27,3] [eP g 0,eP g 0,eP g 13,eQ (ZZ ZQ (p:Int)),eP g 0,eP g 0,eP g 14,eQ (ZU #[ZZ ZS b.x0,ZZ ZS b.x1,ZZ ZS b.x2,ZZ ZS b.x3,ZZ ZS b.x4,ZZ ZS b.x5,ZZ ZS b.x6,ZZ ZS b.x7,ZW b.ch,ZW b.od]),eP g 0,eP g 0,eP g 1,eP g 5,eQ (ZZ ZS s.r.k),eP g 0,eP g 0,eP g 1,eP g 1,eP g 2,eQ (.slice bf s.r.fs.length cf),eQ (ZT #[ZU #[ZZ ZS 0,ZZ ZS 0],ZZ ZS (e:Int)]),eQ (ZT #[ZU #[ZZ ZS 0,ZZ ZS 0],ZZ ZS (e:Int)]),eQ (ZU #[ZZ ZS 0,ZZ ZS 0]),eQ (ZZ ZS (e:Int)),λv u=>∃g2,v=ptr g2/\w.heap.size<=g2/\El u g2 [ZZ ZS 0,ZZ ZS 0]] [] 2 (some 22) (.act 24 (.quiet 25 .done)) (.quiet 22 (.act 24 (.quiet 25 .done))) (by kernel_rfl) (by kernel_rfl) (by kernel_rfl) (by kernel_rfl) (λk0 h=>by cases h;kernel_rfl) (λ_ _ d _ _ h=>by cases d<;>exact h) (by rfl) (by rfl) ⟨AT _,AT _,AT _,AT _,AT _,AT _,AT _,AT _,AT _,AT _,AT _,AT _,AT _,AT _,AT _,AT _,AT _,AT _,AT _,AT _,AT _,AT _,AT _,((λ_ _ _ hb h=>by obtain ⟨g2,e1,h1,hB⟩:=h;exact ⟨g2,e1,h1,hB.below hb⟩)),trivial⟩ trivial (by rfl) ?_ ?_ ?_
   ·refine ⟨?_,?_,?_,?_,?_,?_,?_,?_,?_,?_,?_,?_,?_,?_,?_,?_,?_,?_,?_,?_,?_,?_,?_,?_,trivial⟩
    ·exact XXkR9
    ·exact XXkR9
    ·exact XXkR9
    ·exact XXkR9
    ·exact XXkR9
    ·exact XXkR9
    ·exact XXkR9
    ·exact XXkR9
    ·exact XXkR9
    ·exact XXkR9
    ·exact XXkR9
    ·exact XXkR9
    ·exact XXkR9
    ·exact XXkR9
    ·exact XXkR9
    ·exact XXkR9
    ·exact XXkR9
    ·exact XXkR9
    ·exact XXkR9
    ·exact XXCH5
    ·exact XXkR9
    ·exact XXkR9
    ·exact XXkR9
    ·exact XXdQp
   ·intro g1 w2 hb hf;have z5:g1 5= _:=hf.at 20;have z26:g1 26= _:=hf.at 21;have z27:g1 27= _:=hf.at 22;have z3:=hf.at 23;clear hf;obtain ⟨g2,e2,hg2,hB2⟩:=z3;simp only [Be,Ab,Di,Dl,Dk];rw [z5,z26,z27,e2];simp only [Fk,Fl,Cz,Cy];exact XX0H4
   ·intro k0 hk0 g1 w2 hb hf;cases hk0;have z5:g1 5= _:=hf.at 20;have z26:g1 26= _:=hf.at 21;have z3:=hf.at 23;clear hf;obtain ⟨g2,e2,hg2,hB2⟩:=z3;simp only [Be,Ab,Di,Dl,Dk];rw [z5,z26,e2];simp only [Fk,Fl,Cz,Cy];refine Fm (by rfl) (ZZ ZS (e:Int)) (λ_ _=>by go_simp) ?_;simp only [Ab,Di,Dl,Dk];exact XX0H4
  case rest=>
  obtain ⟨g2,rfl,rfl,HB,HG,HG2⟩:=hcut
  have H1:=BN (H.out.below HB.out);clear HQ;obtain ⟨W0,hW0⟩:∃x,x=wc:=⟨_,rfl⟩;subst hW0;have y0:=HG.out.c 0 _ rfl;have y1:=HG.out.c 1 _ rfl;go_wp2;go_ret;exact ⟨rfl,_,_,_,_,_,_,H1.out,EH HB.out⟩
theorem XXoqK {P:Prop} (h:P:=by
 refine ⟨_,rfl,?_⟩;refine hK _ _ trivial ?_;clear hK K;simp only [Ab,Di,Dl,Dk];refine Tree.assign _ (by rfl) (by rfl) ?_;simp only [Ab,Act.eval,Ag,C6,Cz,Cy,DV,Di,Dl,Dk];refine Fj ?_
 have HP2:=BN hP;have HS2:=BN (HS1.out.trans hS);clear hP hS HFI HS1 HFI0;go_wp2;go_ret
 exact ⟨rfl,_,_,_,_,_,_,HP2.out,HS2.out⟩):P:=h
theorem XXCDO {P:Prop} (h:P:=by
 go_ret
 exact ⟨rfl,_,_,_,_,_,_,hP,hS⟩):P:=h
theorem fieldLine_any (hp:p<4294967296) (h3:16<=b.x3/\b.x3<=1048576) (x:ByteArray) (hx:x.size<=5000) (h:PR w B g q v f bd t o p b s) (hl:s.hl<=1000) (hlen:s.r.fs.length<=500) (hsz:∀y∈s.r.fs,y.1.size<=1000000/\y.2.size<=1000000) (hout:s.out.length<=1000000000):Calls Gq 207 #[ptr g,ZY x] w λr w'=>
 r=.returned (ZZ ZS (((s.fields p b x.data.toList).1:Nat):Int))/\∃q1 v1 f1 bd1 t1 o1,PR w' B g q1 v1 f1 bd1 t1 o1 p b (s.fields p b x.data.toList).2/\Step (blks g q v f bd t o) (blks g q1 v1 f1 bd1 t1 o1) w w':=by
 rcases D3 x.size with h0 | h0
 ·obtain rfl:=empty_of h0
  have HE:=BN (endHead_any hp h3 h hlen hsz hout);have e:s.fields p b (⟨#[]⟩:ByteArray).data.toList=s.endHead p b:=rfl;rw [e];clear h h0 hx e hl hlen hsz hout;go_enter Tryz.func207,Tryz.ntmps207
  go_wp2_with (go_at_call 228;with_reducible refine HE.out.mono ?_;rintro r w2 ⟨rfl,q1,v1,f1,bd1,t1,o1,hP,hS⟩);exact XXCDO
 ·have hne:=list_ne h0;have te:=Fd.first_no x h0
  have HQ:=BN ((h.drew 1).bk);unfold T.fields;rw [if_neg hne]
  have HFI0:=BN (λw1 (hb:Below w.heap.size w w1)=>addF_any hp x hx b.x1 (h.below hb) hl hsz hlen);clear h hne h0 hl hlen hsz hout hx;go_enter Tryz.func207,Tryz.ntmps207;go_upto_region 3 with fail
  refine Each.region 14 [9,10,11,12,13,14,15,16,17,18,19,20,21,22] [eP g 0,eP g 0,eP g 1,eP g 1,eQ (ZY x),eP g 0,eP g 0,eP g 13,eQ (ZZ ZQ (p:Int)),eP g 0,eP g 0,eP g 14,eP g 15,eQ (ZZ ZS b.x1)] (.act 14 (.quiet 15 .done)) (by kernel_rfl) (by kernel_rfl) (by kernel_rfl) (by kernel_rfl) (λ_ _ d _ _ h=>by cases d<;>exact h) (by rfl) (by rfl) (by repeat first | exact trivial | refine ⟨AT _,?_⟩) ?_ ?_
  ·refine ⟨?_,?_,?_,?_,?_,?_,?_,?_,?_,?_,?_,?_,?_,?_,trivial⟩
   all_goals (refine AY rfl (λev w1 hR hb hh=>?_);have e0:=hR.old 0 rfl;have e1:=hR.old 1 rfl;simp only [Ag,C6,Cy,Cz,DV] at e0 e1;have q13:=(HQ.out.below hb).c 13 _ rfl;have q15:=(HQ.out.below hb).c 15 _ rfl;exact Each.std)
  intro g1 w2 hb hf;have z12:g1 12= _:=hf.at 3;have z13:g1 13= _:=hf.at 4;have z17:g1 17= _:=hf.at 8;have z22:g1 22= _:=hf.at 13;clear hf;simp only [Be,Ab,Di,Dl,Dk];rw [z12,z13,z17,z22];simp only [Fk,Fl,Cz,Cy]
  have HS1:=BN (EH hb (L:=blks g q v f bd t o))
  have HFI:=BN (HFI0.out _ hb);clear hb HQ
  refine Fi (by rfl) (λK hK=>?_)
  refine Each.oper_enter (g:=229) (args:=#[ZV (some ⟨g,1,none⟩),ZY x,ZZ ZQ (p:Int),ZZ ZS b.x1]) (by go_simp) (HFI.out.mono ?_);rintro r w3 ⟨rfl,f1,hP,hS⟩;exact XXoqK
theorem trailerLine_any (hp:p<4294967296) (x:ByteArray) (hx:x.size<=5000) (h:PR w B g q v f bd t o p b s) (hl:s.bl<=1000) (hlen:s.r.ts.length<=500) (hsz:∀y∈s.r.ts,y.1.size<=1000000/\y.2.size<=1000000) (hout:s.out.length<=1000000000):Calls Gq 209 #[ptr g,ZY x] w λr w'=>
 r=.returned (ZZ ZS (((s.trail p b x.data.toList).1:Nat):Int))/\∃q1 v1 f1 bd1 t1 o1,PR w' B g q1 v1 f1 bd1 t1 o1 p b (s.trail p b x.data.toList).2/\Step (blks g q v f bd t o) (blks g q1 v1 f1 bd1 t1 o1) w w':=by
 rcases D3 x.size with h0 | h0
 ·obtain rfl:=empty_of h0
  have HE:=BN (finish_any h hout);have e:s.trail p b (⟨#[]⟩:ByteArray).data.toList=(0,s.fin):=rfl;rw [e];clear h h0 hx e hl hlen hsz hout;go_enter Tryz.func209,Tryz.ntmps209
  go_wp2_with (go_at_call 183;with_reducible refine HE.out.mono ?_;rintro r w2 ⟨rfl,o1,hP,hS⟩);exact XXCDO
 ·have hne:=list_ne h0;have te:=Fd.first_no x h0
  have HQ:=BN ((h.drew 1).bk);unfold T.trail;rw [if_neg hne]
  have HFI0:=BN (λw1 (hb:Below w.heap.size w w1)=>addTR_any hp x hx b.x5 (h.below hb) hl hsz hlen);clear h hne h0 hl hlen hsz hout hx;go_enter Tryz.func209,Tryz.ntmps209;go_upto_region 4 with fail
  refine Each.region 14 [9,10,11,12,13,14,15,16,17,18,19,20,21,22] [eP g 0,eP g 0,eP g 8,eP g 8,eQ (ZY x),eP g 0,eP g 0,eP g 13,eQ (ZZ ZQ (p:Int)),eP g 0,eP g 0,eP g 14,eP g 19,eQ (ZZ ZS b.x5)] (.act 14 (.quiet 15 .done)) (by kernel_rfl) (by kernel_rfl) (by kernel_rfl) (by kernel_rfl) (λ_ _ d _ _ h=>by cases d<;>exact h) (by rfl) (by rfl) (by repeat first | exact trivial | refine ⟨AT _,?_⟩) ?_ ?_
  ·refine ⟨?_,?_,?_,?_,?_,?_,?_,?_,?_,?_,?_,?_,?_,?_,trivial⟩
   all_goals (refine AY rfl (λev w1 hR hb hh=>?_);have e0:=hR.old 0 rfl;have e1:=hR.old 1 rfl;simp only [Ag,C6,Cy,Cz,DV] at e0 e1;have q13:=(HQ.out.below hb).c 13 _ rfl;have q19:=(HQ.out.below hb).c 19 _ rfl;exact Each.std)
  intro g1 w2 hb hf;have z12:g1 12= _:=hf.at 3;have z13:g1 13= _:=hf.at 4;have z17:g1 17= _:=hf.at 8;have z22:g1 22= _:=hf.at 13;clear hf;simp only [Be,Ab,Di,Dl,Dk];rw [z12,z13,z17,z22];simp only [Fk,Fl,Cz,Cy]
  have HS1:=BN (EH hb (L:=blks g q v f bd t o))
  have HFI:=BN (HFI0.out _ hb);clear hb HQ
  refine Fi (by rfl) (λK hK=>?_)
  refine Each.oper_enter (g:=229) (args:=#[ZV (some ⟨g,8,none⟩),ZY x,ZZ ZQ (p:Int),ZZ ZS b.x5]) (by go_simp) (HFI.out.mono ?_);rintro r w3 ⟨rfl,t1,hP,hS⟩;exact XXoqK
theorem endLine_any (hp:p<4294967296) (hb:b.right=true) (x:ByteArray) (hx:x.size<=4096) (h:PR w B g q v f bd t o p b s) (ok:s.Ok) (hout:s.out.length<=1000000000):Calls Gq 185 #[ptr g,ZY x] w λr w'=>
 r=.returned (ZZ ZS (((s.line p b x.data.toList).1:Nat):Int))/\∃q1 v1 f1 bd1 t1 o1,PR w' B g q1 v1 f1 bd1 t1 o1 p b (s.line p b x.data.toList).2/\Step (blks g q v f bd t o) (blks g q1 v1 f1 bd1 t1 o1) w w':=by
 have e3:=(Bd.edges hb).2.2.2.1;have c24:=h.cs.c24;have hh:=ok.hl;have hbl:=ok.bl;have hfl:=ok.fsl;have htl:=ok.tsl;have hbd:=ok.body;have hfs:∀y∈s.r.fs,y.1.size<=1000000/\y.2.size<=1000000:=λy hy=>by have:=ok.fss y hy;omega
 have hts:∀y∈s.r.ts,y.1.size<=1000000/\y.2.size<=1000000:=λy hy=>by have:=ok.tss y hy;omega
 unfold T.line;by_cases h1:s.st=1
 ·rw [if_pos h1];rw [h1] at c24
  have HA:=BN (firstLine_any hp x (by omega) h);clear h ok h1 hx hfs hts hh hbl hfl htl hbd hout e3;go_enter Tryz.func185,Tryz.ntmps185
  go_wp2_with (go_at_call 206;with_reducible refine HA.out.mono ?_;rintro r w2 ⟨rfl,q1,v1,f1,bd1,t1,o1,hP,hS⟩);exact XXCDO
 ·rw [if_neg h1];by_cases h2:s.st=2
  ·rw [if_pos h2];rw [h2] at c24
   have HA:=BN (fieldLine_any hp e3 x (by omega) h (by omega) (by omega) hfs hout);clear h ok h1 h2 hx hfs hts hh hbl hfl htl hbd hout e3;go_enter Tryz.func185,Tryz.ntmps185
   go_wp2_with (go_at_call 207;with_reducible refine HA.out.mono ?_;rintro r w2 ⟨rfl,q1,v1,f1,bd1,t1,o1,hP,hS⟩);exact XXCDO
  ·rw [if_neg h2];by_cases h4:s.st=4
   ·rw [if_pos h4];rw [h4] at c24
    have HA:=BN (sizeLine_any hp e3 x (by omega) h (by omega));clear h ok h1 h2 h4 hx hfs hts hh hbl hfl htl hbd hout e3;go_enter Tryz.func185,Tryz.ntmps185
    go_wp2_with (go_at_call 208;with_reducible refine HA.out.mono ?_;rintro r w2 ⟨rfl,q1,v1,f1,bd1,t1,o1,hP,hS⟩);exact XXCDO
   ·rw [if_neg h4];by_cases h7:s.st=7
    ·rw [if_pos h7];rw [h7] at c24
     have HA:=BN (trailerLine_any hp x (by omega) h (by omega) (by omega) hts hout);clear h ok h1 h2 h4 h7 hx hfs hts hh hbl hfl htl hbd hout e3;go_enter Tryz.func185,Tryz.ntmps185
     go_wp2_with (go_at_call 209;with_reducible refine HA.out.mono ?_;rintro r w2 ⟨rfl,q1,v1,f1,bd1,t1,o1,hP,hS⟩);exact XXCDO
    ·rw [if_neg h7]
     have t1:((s.st:Int)==1)=false:=beq_eq_false_iff_ne.2 (by omega)
     have t2:((s.st:Int)==2)=false:=beq_eq_false_iff_ne.2 (by omega)
     have t4:((s.st:Int)==4)=false:=beq_eq_false_iff_ne.2 (by omega)
     have t7:((s.st:Int)==7)=false:=beq_eq_false_iff_ne.2 (by omega);have m1:¬(s.st:Int)=1:=by omega
     have m2:¬(s.st:Int)=2:=by omega
     have m4:¬(s.st:Int)=4:=by omega
     have m7:¬(s.st:Int)=7:=by omega
     have c14:=h.cs.c14
     have HA:=BN (enter_any hp h 4 4 rfl b.x0);clear h ok hx hfs hts hh hbl hfl htl hbd hout e3;go_enter Tryz.func185,Tryz.ntmps185
     go_wp2_with (go_at_call 72;with_reducible refine HA.out.mono ?_;rintro r w2 ⟨rfl,q1,hP,hS⟩);exact XXCDO
end
end Go.Proofs.YtnabkcglnbdfeaaGreatDoor.Pg
namespace Go.Proofs.YtnabkcglnbdfeaaGreatDoor.Pg
open Go.RowKit Base Txt Mem Par
def At (w:World) (B:Zone) (g:Nat) (p:Nat) (b:Bd) (L:List (Option Nat)):Q->Prop
 | .live s=>∃q v f bd t o,L=blks g q v f bd t o/\PR w B g q v f bd t o p b s
 | .dead e out=>∃o,L= [some g,o.ownBlock]/\Dead w B g e o out
theorem ba_list (l:List UInt8):(ba l).data.toList=l:=rfl
section
variable {w w':World} {B:Zone} {g q:Nat} {v f bd t o:Value} {p:Nat} {rd:Ln.M} {fs ts:List Fld} {body:List UInt8} {out:List Eo}
theorem _root_.Go.Proofs.YtnabkcglnbdfeaaGreatDoor.XXVqF {P:Prop} (h:P:=by
 rcases (by simpa using hm:j=q∨some j=v.ownBlock) with e | e
 ·exact h1 (h.lone i 1 j hj (by rw [e];rfl))
 ·exact h2 (h.lone i 2 j hj (by rw [e];rfl))):P:=h
theorem Own.reader (h:Own w B g q v f bd t o rd fs body ts out) {v':Value} {rd':Ln.M} (hk:Ln.Kept q v.ownBlock w w') (hm:Ln.Moved w v.ownBlock v'.ownBlock) (hr:Ln.Rd w' B q v' rd') :
 Own w' B g q v' f bd t o rd' fs body ts out/\Step (blks g q v f bd t o) (blks g q v' f bd t o) w w'/\Keeps [some q,v.ownBlock] w w':=by
 have hk2:Keeps [some q,v.ownBlock] w w':=Keeps.of_kept hk (by simp) λk e=>by simp [e]
 have hn:∀i j,i≠1->i≠2->(blks g q v f bd t o)[i]?=some (some j)->some j∉ [some q,v.ownBlock]:=λi j h1 h2 hj hm=>by exact XXVqF
 have e:blks g q v' f bd t o=(blks g q v f bd t o).set 2 v'.ownBlock:=rfl;have ho:v'.ownBlock=none∨(blks g q v f bd t o)[2]?=some v'.ownBlock∨∃k,v'.ownBlock=some k/\w.heap.size<=k:=by
  rcases hm with e | e | e
  ·exact .inr (.inl (by rw [e];rfl))
  ·exact .inl e
  ·exact .inr (.inr e)
 have hof:Of w (blks g q v f bd t o) (blks g q v' f bd t o):=by rw [e];exact Of.set 2 _ ho
 have hkL:Keeps (blks g q v f bd t o) w w':=hk2.mono λk hk=>by
  rcases (by simpa using hk:k=q∨some k=v.ownBlock) with e | e
  ·simp [e]
  ·simp [e]
 obtain ⟨ps,h1,h2,h3⟩:=h.O
 refine ⟨⟨hr,hk2.own h.F λj e=>hn 3 j (by decide) (by decide) (by rw [←e];rfl),hk2.own h.D λj e=>hn 4 j (by decide) (by decide) (by rw [←e];rfl),hk2.own h.TR λj e=>hn 5 j (by decide) (by decide) (by rw [←e];rfl),
  ⟨ps,h1,λx hx=>⟨(h2 x hx).1,by
    have hx2:=(h2 x hx).2.keeps hkL
    exact ⟨hx2.reads,λk hb=>⟨λhm=>by
     rcases hof k hm with e | e
     ·exact (hx2.far k hb).1 e
     ·exact absurd ((h2 x hx).2.far k hb).2 (by omega),(hx2.far k hb).2⟩,hx2.off⟩⟩,hk2.own h3 λj e=>hn 6 j (by decide) (by decide) (by rw [←e];rfl)⟩,?_,h.ge,D8 h.lt hk2.size,h.zone.of hk2.size hof⟩,⟨hkL,hof⟩,hk2⟩
 rw [e];exact h.lone.set h.in 2 _ ho
theorem PR.reader {b:Bd} {s:T} (h:PR w B g q v f bd t o p b s) {v':Value} {rd':Ln.M} (hk:Ln.Kept q v.ownBlock w w') (hm:Ln.Moved w v.ownBlock v'.ownBlock) (hr:Ln.Rd w' B q v' rd') :
 PR w' B g q v' f bd t o p b {s with rd:=rd'}/\Step (blks g q v f bd t o) (blks g q v' f bd t o) w w':=by
 obtain ⟨h1,h2,h3⟩:=h.own.reader hk hm hr;refine ⟨⟨h3.row h.row λhm=>?_,h1⟩,h2⟩;rcases (by simpa using hm:g=q∨some g=v.ownBlock) with e | e
 ·exact absurd (h.own.lone 0 1 g rfl (by rw [e];rfl)) (by decide)
 ·exact absurd (h.own.lone 0 2 g rfl (by rw [e];rfl)) (by decide)
end
section
set_option maxHeartbeats 4000000
set_option maxRecDepth 20000
attribute [local go_sem] An
variable {w:World} {B:Zone} {g q:Nat} {v f bd t o:Value} {p:Nat} {b:Bd} {s:T}
theorem reader_any (c:UInt8) (hm:s.rd.Ok) (h:PR w B g q v f bd t o p b s):Calls Gq 184 #[ptr q,ZZ ZR (c.toNat:Int)] w λr w'=>
 ∃v1,r=.returned (ZZ ZS (s.rd.clear.next c))/\PR w' B g q v1 f bd t o p b {s with rd:=s.rd.byte c}/\Step (blks g q v f bd t o) (blks g q v1 f bd t o) w w':=by
 refine (Ln.byte_any c s.rd hm w B q v h.own.R).mono ?_;rintro r w' ⟨v1,rfl,h1,h2,h3⟩;obtain ⟨h4,h5⟩:=h.reader h2 h3 h1;exact ⟨v1,rfl,h4,h5⟩
theorem XX6xd {P:Prop} (h:P:=by
 rw [e0]
 have HEN:=BN (λ(w2:World) (v1:Value) (h2:PR w2 B g q v1 f bd t o p b {s with rd:=s.rd.byte c})=>endLine_any hp hb0 (ba ln) (by rw [size_ba];exact hln) h2 ok2 hout)
 have HLI:=BN (λ(w2:World) (v1:Value) (h2:PR w2 B g q v1 f bd t o p b {s with rd:=s.rd.byte c})=>Ln.line_any h2.own.R.row h2.own.R.own);have HLN:=BN hl;have HX:=BN hx;have c25:=h.cs.c25;clear h hby ok2 hln hl hx e0 hhow ok;rcases D3 e with he | he
 ·subst he;go_enter Tryz.func160,Tryz.ntmps160
  go_wp2_with (first
   |(go_at_call 159;with_reducible refine Cm (HFZ.out) ?_)
   |(go_at_call 185;with_reducible refine HEN2.out.mono ?_;rintro r w4 ⟨rfl,q1,v2,f1,bd1,t1,o1,hP,hS⟩
     have HP:=BN hP;have HS:=BN (HS2.out.trans hS);have HFZ:=BN (fail_zero w4 g);clear hP hS)
   |(go_at_call 186;with_reducible refine Cm HLI2.out ?_)
   |(go_at_call 184;with_reducible refine HBY.out.mono ?_;rintro r w2 ⟨v1,rfl,h2,hS2⟩
     have d25:=h2.cs.c25;have HS2:=BN hS2;have HEN2:=HEN.out w2 v1 h2;have HLI2:=HLI.out w2 v1 h2
     replace HEN2:=BN (show Calls Gq 185 #[ptr g,ZY (Ln.ba ln)] w2 λr w'=>r=.returned (ZZ ZS 0)/\∃q1 v2 f1 bd1 t1 o1,PR w' B g q1 v2 f1 bd1 t1 o1 p b t2/\Step (blks g q v1 f bd t o) (blks g q1 v2 f1 bd1 t1 o1) w2 w' from by rw [ba_list,HX.out] at HEN2;exact HEN2)
     rw [HLN.out] at HLI2
     replace HLI2:=BN HLI2
     clear h2 hS2 c25))
  go_ret;exact ⟨rfl,_,⟨_,_,_,_,_,_,rfl,HP.out⟩,HS.out⟩
 ·have hne:e≠0:=by omega
  have e1:ends (e,t2)=.dead e t2.out:=by unfold ends;rw [if_neg hne]
  rw [e1];have HNE:=BN hne;clear he hne e1;go_enter Tryz.func160,Tryz.ntmps160
  go_wp2_with (first
   |(go_at_call 159;with_reducible refine HFA.out.mono ?_;rintro r w5 ⟨rfl,hD,hS5⟩)
   |(go_at_call 185;with_reducible refine HEN2.out.mono ?_;rintro r w4 ⟨rfl,q1,v2,f1,bd1,t1,o1,hP,hS⟩
     have HS:=BN (HS2.out.trans hS);have HFA:=BN (fail_any hP e HNE.out _ rfl);clear hP hS)
   |(go_at_call 186;with_reducible refine Cm HLI2.out ?_)
   |(go_at_call 184;with_reducible refine HBY.out.mono ?_;rintro r w2 ⟨v1,rfl,h2,hS2⟩
     have d25:=h2.cs.c25;have HS2:=BN hS2;have HEN2:=HEN.out w2 v1 h2;have HLI2:=HLI.out w2 v1 h2
     replace HEN2:=BN (show Calls Gq 185 #[ptr g,ZY (Ln.ba ln)] w2 λr w'=>r=.returned (ZZ ZS (e:Int))/\∃q1 v2 f1 bd1 t1 o1,PR w' B g q1 v2 f1 bd1 t1 o1 p b t2/\Step (blks g q v1 f bd t o) (blks g q1 v2 f1 bd1 t1 o1) w2 w' from by rw [ba_list,HX.out] at HEN2;exact HEN2)
     rw [HLN.out] at HLI2
     replace HLI2:=BN HLI2
     clear h2 hS2 c25))
  go_ret
  exact ⟨rfl,_,⟨_,rfl,hD⟩,HS.out.trans hS5⟩):P:=h
theorem inLine_any (hp:p<4294967296) (hb0:b.right=true) (c:UInt8) (h:PR w B g q v f bd t o p b s) (ok:s.Ok) (hout:s.out.length<=1000000000):Calls Gq 160 #[ptr g,ZZ ZR (c.toNat:Int)] w λr w'=>
 r=.returned (ZW (s.inLine p b c).2)/\∃L1,At w' B g p b L1 (s.inLine p b c).1/\Step (blks g q v f bd t o) L1 w w':=by
 have hby:=reader_any c ok.rd h;rcases Ln.M.next_is s.rd.clear c with hhow | hhow | hhow | hhow | hhow
 ·have HBY:=BN (show Calls Gq 184 #[ptr q,ZZ ZR (c.toNat:Int)] w λr w'=>∃v1,r=.returned (ZZ ZS 0)/\PR w' B g q v1 f bd t o p b {s with rd:=s.rd.byte c}/\Step (blks g q v f bd t o) (blks g q v1 f bd t o) w w' from by rw [←hhow];exact hby);have e0:s.inLine p b c=(.live {s with rd:=s.rd.byte c},true):=by
   unfold T.inLine;dsimp only;rw [hhow,if_pos rfl]
  rw [e0];have c25:=h.cs.c25;clear h hby ok hout e0 hhow;go_enter Tryz.func160,Tryz.ntmps160;go_wp2_with
   (go_at_call 184;with_reducible refine HBY.out.mono ?_;rintro r w2 ⟨v1,rfl,h2,hS2⟩
    have HP:=BN h2;have HS:=BN hS2;clear h2 hS2 c25)
  go_ret;exact ⟨rfl,_,⟨_,_,_,_,_,_,rfl,HP.out⟩,HS.out⟩
 ·have HBY:=BN (show Calls Gq 184 #[ptr q,ZZ ZR (c.toNat:Int)] w λr w'=>∃v1,r=.returned (ZZ ZS 1)/\PR w' B g q v1 f bd t o p b {s with rd:=s.rd.byte c}/\Step (blks g q v f bd t o) (blks g q v1 f bd t o) w w' from by rw [←hhow];exact hby)
  have ok2:({s with rd:=s.rd.byte c}:T).Ok:=ok.byteR c (by rw [hhow];rfl);have hln:=line_len ok c;obtain ⟨ln,hl⟩:∃ln,(s.rd.byte c).line=ln:=⟨_,rfl⟩;rw [hl] at hln;obtain ⟨⟨e,t2⟩,hx⟩:∃x,T.line p b {s with rd:=s.rd.byte c} ln=x:=⟨_,rfl⟩;have e0:s.inLine p b c=(ends (e,t2),true):=by unfold T.inLine;dsimp only;rw [hhow,if_neg (by decide),if_neg (by decide),if_neg (by decide),hl,hx];rfl
  exact XX6xd
 ·have HBY:=BN (show Calls Gq 184 #[ptr q,ZZ ZR (c.toNat:Int)] w λr w'=>∃v1,r=.returned (ZZ ZS 2)/\PR w' B g q v1 f bd t o p b {s with rd:=s.rd.byte c}/\Step (blks g q v f bd t o) (blks g q v1 f bd t o) w w' from by rw [←hhow];exact hby)
  have ok2:({s with rd:=s.rd.byte c}:T).Ok:=ok.byteR c (by rw [hhow];rfl);have hln:=line_len ok c;obtain ⟨ln,hl⟩:∃ln,(s.rd.byte c).line=ln:=⟨_,rfl⟩;rw [hl] at hln;obtain ⟨⟨e,t2⟩,hx⟩:∃x,T.line p b {s with rd:=s.rd.byte c} ln=x:=⟨_,rfl⟩;have e0:s.inLine p b c=(ends (e,t2),false):=by unfold T.inLine;dsimp only;rw [hhow,if_neg (by decide),if_neg (by decide),if_neg (by decide),hl,hx];rfl
  exact XX6xd
 ·have HBY:=BN (show Calls Gq 184 #[ptr q,ZZ ZR (c.toNat:Int)] w λr w'=>∃v1,r=.returned (ZZ ZS 3)/\PR w' B g q v1 f bd t o p b {s with rd:=s.rd.byte c}/\Step (blks g q v f bd t o) (blks g q v1 f bd t o) w w' from by rw [←hhow];exact hby);have e0:s.inLine p b c=(.dead 400 s.out,true):=by
   unfold T.inLine;dsimp only;rw [hhow,if_neg (by decide),if_pos rfl]
  rw [e0];have c25:=h.cs.c25;clear h hby ok hout e0 hhow;go_enter Tryz.func160,Tryz.ntmps160
  go_wp2_with (first
   |(go_at_call 159;with_reducible refine HFA.out.mono ?_;rintro r w5 ⟨rfl,hD,hS5⟩)
   |(go_at_call 184;with_reducible refine HBY.out.mono ?_;rintro r w2 ⟨v1,rfl,h2,hS2⟩
     have HS2:=BN hS2;have HFA:=BN (fail_any h2 400 (by decide) 400 rfl);clear h2 hS2 c25))
  go_ret;exact ⟨rfl,_,⟨_,rfl,hD⟩,HS2.out.trans hS5⟩
 ·have HBY:=BN (show Calls Gq 184 #[ptr q,ZZ ZR (c.toNat:Int)] w λr w'=>∃v1,r=.returned (ZZ ZS 4)/\PR w' B g q v1 f bd t o p b {s with rd:=s.rd.byte c}/\Step (blks g q v f bd t o) (blks g q v1 f bd t o) w w' from by rw [←hhow];exact hby);have HH0:=λw=>Ej p hp 29 w;have c25:=h.cs.c25;have e0:s.inLine p b c=(if (s.st==6&&Ei p 29)=true then (.live (({s with rd:=s.rd.byte c}:T).enter p 4 b.x0),false) else (.dead (longE s.st) s.out,true)):=by
   unfold T.inLine;dsimp only;rw [hhow,if_neg (by decide),if_neg (by decide),if_pos rfl]
  rw [e0]
  have HEN:=BN (λ(w2:World) (v1:Value) (h2:PR w2 B g q v1 f bd t o p b {s with rd:=s.rd.byte c})=>enter_any hp h2 4 4 rfl b.x0)
  have HTL:=BN (λ(w2:World) (v1:Value) (h2:PR w2 B g q v1 f bd t o p b {s with rd:=s.rd.byte c})=>tooLong_any h2.cs.c24)
  have hlong:longE s.st≠0:=by unfold longE;split<;>first | decide |(split<;>decide)
  have HLE:=BN hlong;clear h hby ok hout e0 hhow hlong;by_cases h6:s.st=6
  ·cases hh:Ei p 29 with
   | true=>
     rw [hh] at HH0;have HH:=BN HH0;have H6:=BN h6;rw [h6,if_pos (by decide)];clear HH0 hh h6;go_enter Tryz.func160,Tryz.ntmps160
     go_wp2_with (first
      |(go_at_call 72;with_reducible refine HE2.out.mono ?_;rintro r w5 ⟨rfl,q1,hP,hS5⟩)
      |(go_at_call 92;with_reducible refine Cm (HH.out _) ?_)
      |(go_at_call 184;with_reducible refine HBY.out.mono ?_;rintro r w2 ⟨v1,rfl,h2,hS2⟩
        have HS2:=BN hS2;have HE2:=BN (HEN.out w2 v1 h2);have c24:w2.cell? ⟨g,24,none⟩=some (ZZ ZS 6):=by have:=h2.cs.c24;rw [show ({s with rd:=s.rd.byte c}:T).st=6 from H6.out] at this;exact this
        have c13:=h2.cs.c13;have c14:=h2.cs.c14;clear h2 hS2 c25))
     go_ret;exact ⟨rfl,_,⟨_,_,_,_,_,_,rfl,hP⟩,HS2.out.trans hS5⟩
   | false=>
     rw [hh] at HH0;have HH:=BN HH0;have H6:=BN h6;have e1:(s.st==6&&false)=false:=Au _;rw [e1,if_neg (by decide)];clear HH0 hh h6 e1;go_enter Tryz.func160,Tryz.ntmps160
     go_wp2_with (first
      |(go_at_call 159;with_reducible refine HFA.out.mono ?_;rintro r w5 ⟨rfl,hD,hS5⟩)
      |(go_at_call 187;with_reducible refine Cm HT2.out ?_)
      |(go_at_call 92;with_reducible refine Cm (HH.out _) ?_)
      |(go_at_call 184;with_reducible refine HBY.out.mono ?_;rintro r w2 ⟨v1,rfl,h2,hS2⟩
        have HS2:=BN hS2;have HT2:=BN (HTL.out w2 v1 h2);have HFA:=BN (fail_any h2 (longE s.st) HLE.out _ rfl);have c24:w2.cell? ⟨g,24,none⟩=some (ZZ ZS 6):=by have:=h2.cs.c24;rw [show ({s with rd:=s.rd.byte c}:T).st=6 from H6.out] at this;exact this
        have c13:=h2.cs.c13;clear h2 hS2 c25))
     go_ret;exact ⟨rfl,_,⟨_,rfl,hD⟩,HS2.out.trans hS5⟩
  ·have t6:((s.st:Int)==6)=false:=beq_eq_false_iff_ne.2 (by omega);have m6:¬(s.st:Int)=6:=by omega
   have m6n:¬s.st=6:=h6;rw [beq_eq_false_iff_ne.2 h6,Az,if_neg (by decide)];clear HH0 h6;go_enter Tryz.func160,Tryz.ntmps160
   go_wp2_with (first
    |(go_at_call 159;with_reducible refine HFA.out.mono ?_;rintro r w5 ⟨rfl,hD,hS5⟩)
    |(go_at_call 187;with_reducible refine Cm HT2.out ?_)
    |(go_at_call 184;with_reducible refine HBY.out.mono ?_;rintro r w2 ⟨v1,rfl,h2,hS2⟩
      have HS2:=BN hS2;have HT2:=BN (HTL.out w2 v1 h2);have HFA:=BN (fail_any h2 (longE s.st) HLE.out _ rfl);have c24:w2.cell? ⟨g,24,none⟩=some (ZZ ZS (s.st:Int)):=h2.cs.c24;clear h2 hS2 c25))
   go_ret;exact ⟨rfl,_,⟨_,rfl,hD⟩,HS2.out.trans hS5⟩
theorem XXlfn {P:Prop} (h:P:=by
 rw [hst] at c24;go_enter Tryz.func117,Tryz.ntmps117;go_upto_region 10 with fail
 refine Each.region 8 [23,24,25,26,27,28,29,30] [eP g 0,eP g 0,eP g 1,eP g 0,eP g 0,eP g 14,eP g 16,eQ (ZZ ZS b.x2)] (.act 8 (.quiet 9 .done)) (by kernel_rfl) (by kernel_rfl) (by kernel_rfl) (by kernel_rfl) (λ_ _ d _ _ h=>by cases d<;>exact h) (by rfl) (by rfl) (by repeat first | exact trivial | refine ⟨AT _,?_⟩) ?_ ?_
 ·refine ⟨?_,?_,?_,?_,?_,?_,?_,?_,trivial⟩
  all_goals (refine AY rfl (λev w1 hR hb hh=>?_);have e0:=hR.old 0 rfl;simp only [Ag,C6,Cy,Cz,DV] at e0;have q16:=(HQ.out.below hb).c 16 _ rfl;exact Each.std)
 intro g1 w2 hb hf;have z25:g1 25= _:=hf.at 2;have z30:g1 30= _:=hf.at 7;clear hf;simp only [Be,Ab,Di,Dl,Dk];rw [z25,z30];simp only [Fk,Fl,Cz,Cy]
 have HS1:=BN (EH hb (L:=blks g q v f bd t o))
 have HFI:=BN (count_any b.x2 (H.out.below hb) hsz);clear hb HQ;rw [HTR.out] at HFI
 refine Fi (by rfl) (λK hK=>?_)
 refine Each.oper_enter (g:=158) (args:=#[ZV (some ⟨g,1,none⟩),ZZ ZS b.x2]) (by go_simp) (HFI.out.mono ?_);rintro r w3 ⟨rfl,hP,hS⟩;refine ⟨_,rfl,?_⟩;refine hK _ _ trivial ?_;clear hK K;simp only [Ab,Di,Dl,Dk];refine Fm (by rfl) (ZW false) (λ_ _=>by go_simp) ?_;simp only [Ab,Di,Dl,Dk];refine Fj ?_
 have HP2:=BN hP;have HS2:=BN (HS1.out.trans hS);clear HFI HS1 hS
 have HI:=BN (inLine_any hp hb0 c hP (ok.counted hb0 hov) (by rw [counted_out];exact hout));clear hP
 go_wp2_with (go_at_call 160;with_reducible refine HI.out.mono ?_;rintro r w4 ⟨rfl,L4,hA,hS4⟩);go_ret
 exact ⟨rfl,L4,hA,HS2.out.trans hS4⟩):P:=h
theorem XXJzP {P:Prop} (h:P:=by
 rw [hst] at c24;go_enter Tryz.func117,Tryz.ntmps117;go_upto_region 10 with fail
 refine Each.region 8 [23,24,25,26,27,28,29,30] [eP g 0,eP g 0,eP g 1,eP g 0,eP g 0,eP g 14,eP g 16,eQ (ZZ ZS b.x2)] (.act 8 (.quiet 9 .done)) (by kernel_rfl) (by kernel_rfl) (by kernel_rfl) (by kernel_rfl) (λ_ _ d _ _ h=>by cases d<;>exact h) (by rfl) (by rfl) (by repeat first | exact trivial | refine ⟨AT _,?_⟩) ?_ ?_
 ·refine ⟨?_,?_,?_,?_,?_,?_,?_,?_,trivial⟩
  all_goals (refine AY rfl (λev w1 hR hb hh=>?_);have e0:=hR.old 0 rfl;simp only [Ag,C6,Cy,Cz,DV] at e0;have q16:=(HQ.out.below hb).c 16 _ rfl;exact Each.std)
 intro g1 w2 hb hf;have z25:g1 25= _:=hf.at 2;have z30:g1 30= _:=hf.at 7;clear hf;simp only [Be,Ab,Di,Dl,Dk];rw [z25,z30];simp only [Fk,Fl,Cz,Cy]
 have HS1:=BN (EH hb (L:=blks g q v f bd t o))
 have HFI:=BN (count_any b.x2 (H.out.below hb) hsz);clear hb HQ;rw [HTR.out] at HFI
 refine Fi (by rfl) (λK hK=>?_)
 refine Each.oper_enter (g:=158) (args:=#[ZV (some ⟨g,1,none⟩),ZZ ZS b.x2]) (by go_simp) (HFI.out.mono ?_);rintro r w3 ⟨rfl,hP,hS⟩;refine ⟨_,rfl,?_⟩;refine hK _ _ trivial ?_;clear hK K;simp only [Ab,Di,Dl,Dk];refine Fm (by rfl) (ZW true) (λ_ _=>by go_simp) ?_;simp only [Ab,Di,Dl,Dk];refine Fj ?_
 have HP2:=BN hP;have HS2:=BN (HS1.out.trans hS);clear HFI HS1 hS
 have HF:=BN (fail_any hP 431 (by decide) 431 rfl);clear hP
 go_wp2_with (go_at_call 159;with_reducible refine HF.out.mono ?_;rintro r w4 ⟨rfl,hD,hS4⟩);go_ret
 exact ⟨rfl,_,⟨_,rfl,by rw [counted_out] at hD;exact hD⟩,HS2.out.trans hS4⟩):P:=h
theorem XXvW3 {P:Prop} (h:P:=by
 rw [hst] at c24;clear hst;go_enter Tryz.func117,Tryz.ntmps117
 go_wp2_with (first
  |(go_at_call 157;with_reducible refine HED.out.mono ?_;rintro r w5 ⟨rfl,q1,v1,f1,bd2,t1,o1,hP,hS5⟩)
  |(go_at_call 156;with_reducible refine HK.out.mono ?_;rintro r w4 ⟨rfl,bd1,h2,hS2⟩
    have HS2:=BN hS2;have HED:=BN (HK9.out w4 bd1 h2);clear h2 hS2))
 go_ret
 exact ⟨rfl,_,⟨_,_,_,_,_,_,rfl,hP⟩,HS2.out.trans hS5⟩):P:=h
theorem XXbrj {P:Prop} (h:P:=by
 rw [hst] at c24;clear hst;go_enter Tryz.func117,Tryz.ntmps117
 go_wp2_with (go_at_call 156;with_reducible refine HK.out.mono ?_;rintro r w4 ⟨rfl,bd1,h2,hS2⟩);go_ret
 exact ⟨rfl,_,⟨_,_,_,_,_,_,rfl,h2⟩,hS2⟩):P:=h
theorem look_any (hp:p<4294967296) (hb0:b.right=true) (c:UInt8) (h:PR w B g q v f bd t o p b s) (ok:s.Ok) (hout:s.out.length<=1000000000):Calls Gq 117 #[ptr g,ZZ ZR (c.toNat:Int)] w λr w'=>
 r=.returned (ZW (s.look p b c).2)/\∃L1,At w' B g p b L1 (s.look p b c).1/\Step (blks g q v f bd t o) L1 w w':=by
 have H:=BN h;have c24:=h.cs.c24;by_cases hbd:bodied s.st=true
 ·have hl:=ok.left hbd;have hbl:=ok.body
  have HK0:=keep_any c h ⟨hl,by omega⟩ (by omega)
  have HK9:=BN (λ(w2:World) (bd1:Value) (h2:PR w2 B g q v f bd1 t o p b (s.keep c))=>endData_any hp h2 hout);have hst:s.st=3∨s.st=5:=by unfold bodied at hbd;simpa using hbd
  unfold T.look;rw [if_pos hbd];clear h hb0 hbl hout ok hbd;by_cases h1:s.left=1
  ·rw [decide_eq_true h1] at HK0;have HK:=BN HK0;rw [if_pos h1];clear HK0 h1 hl;rcases hst with hst | hst
   ·exact XXvW3
   ·exact XXvW3
  ·rw [decide_eq_false h1] at HK0;have HK:=BN HK0;rw [if_neg h1];clear HK0 h1 hl;rcases hst with hst | hst
   ·exact XXbrj
   ·exact XXbrj
 ·have hbd:bodied s.st=false:=by simpa using hbd
  unfold T.look;rw [if_neg (by rw [hbd];decide)];have hn:¬s.st=3/\¬s.st=5:=by unfold bodied at hbd;simpa using hbd
  by_cases hhd:headed s.st=true
  ·rw [if_pos hhd];have hst:s.st=1∨s.st=2∨s.st=7:=by
    unfold headed at hhd;simp only [AB,beq_iff_eq] at hhd;omega
   have hsz:s.size<=1000000:=D7 ok.size (by decide)
   have HQ:=BN ((h.drew 1).bk);clear hhd hn
   by_cases hov:b.x2<(s.counted.size:Int)
   ·rw [if_pos hov]
    have HTR:=BN (show (!decide (b.x2<(s.counted.size:Int)))=false by rw [decide_eq_true hov];rfl);clear hov h hbd hout hb0 ok;rcases hst with hst | hst | hst
    ·exact XXJzP
    ·exact XXJzP
    ·exact XXJzP
   ·rw [if_neg hov]
    have HTR:=BN (show (!decide (b.x2<(s.counted.size:Int)))=true by rw [decide_eq_false hov];rfl);clear h hbd;rcases hst with hst | hst | hst
    ·exact XXlfn
    ·exact XXlfn
    ·exact XXlfn
  ·rw [if_neg hhd];have hn2:¬s.st=1/\¬s.st=2/\¬s.st=7:=by
    unfold headed at hhd;simp only [AB,beq_iff_eq] at hhd;omega
   have t1:((s.st:Int)==1)=false:=beq_eq_false_iff_ne.2 (by omega);have m1:¬(s.st:Int)=1:=by omega
   have t2:((s.st:Int)==2)=false:=beq_eq_false_iff_ne.2 (by omega);have m2:¬(s.st:Int)=2:=by omega
   have t3:((s.st:Int)==3)=false:=beq_eq_false_iff_ne.2 (by omega);have m3:¬(s.st:Int)=3:=by omega
   have t5:((s.st:Int)==5)=false:=beq_eq_false_iff_ne.2 (by omega);have m5:¬(s.st:Int)=5:=by omega
   have t7:((s.st:Int)==7)=false:=beq_eq_false_iff_ne.2 (by omega);have m7:¬(s.st:Int)=7:=by omega
   have HI:=BN (inLine_any hp hb0 c h ok hout);clear h hbd ok hout hb0 hhd hn hn2;go_enter Tryz.func117,Tryz.ntmps117
   go_wp2_with (go_at_call 160;with_reducible refine HI.out.mono ?_;rintro r w4 ⟨rfl,L4,hA,hS4⟩);go_ret;exact ⟨rfl,L4,hA,hS4⟩
end
end Go.Proofs.YtnabkcglnbdfeaaGreatDoor.Pg
namespace Go.Proofs.YtnabkcglnbdfeaaGreatDoor.Pg
open Go.RowKit Base Txt Par
section
variable {p:Nat} {b:Bd} {t t':T}
theorem feed_cons (x:Q) (c:UInt8) (l:List UInt8):x.feed p b (c::l)=(x.byte p b c).feed p b l:=rfl
theorem feed_app (x:Q) (l l':List UInt8):x.feed p b (l++l')=(x.feed p b l).feed p b l':=List.foldl_append
theorem feed_dead (e:Nat) (o:List Eo) (l:List UInt8):(Q.dead e o).feed p b l=.dead e o:=by
 induction l with
 | nil=>rfl
 | cons c l ih=>rw [feed_cons];exact ih
def T.room (b:Bd) (t:T) (n:Nat):Prop:=headed t.st=true->((t.size+n:Nat):Int)<=b.x2
structure T.Open (t:T):Prop where
 st:bodied t.st=false
 pend:t.rd.pend=false
 nf:Ln.failed t.rd.last=false
def T.went (t:T) (rd:Ln.M) (n:Nat):T:={t with rd:=rd,size:=if headed t.st=true then t.size+n else t.size,cnt:=headed t.st}
end
end Go.Proofs.YtnabkcglnbdfeaaGreatDoor.Pg
namespace Go.Proofs.YtnabkcglnbdfeaaGreatDoor.Pg
open Go.RowKit Base Txt Mem Par
def Q.Ok (b:Bd):Q->Prop
 | .live t=>t.Ok/\b.right=true
 | .dead _ _=>True
section
variable {p:Nat} {b:Bd} {t t':T} {s:List UInt8}
theorem line_out (t:T) (s:List UInt8):(t.line p b s).2.out.length<=t.out.length+1:=by
 have hf:t.fin.out.length<=t.out.length+1:=by show (t.out ++ [t.r]).length<=_;simp
 unfold T.line T.first T.fields T.endHead T.chunk T.trail;split
 ·split
  ·exact D6 _
  ·dsimp only;split<;>exact D6 _
 ·split
  ·split
   ·dsimp only;split
    ·exact D6 _
    ·split
     ·exact D6 _
     ·split
      ·exact hf
      ·exact D6 _
   ·exact D6 _
  ·split
   ·dsimp only;split
    ·exact D6 _
    ·split
     ·exact D6 _
     ·split<;>exact D6 _
   ·split
    ·split
     ·exact hf
     ·exact D6 _
    ·exact D6 _
theorem inLine_out (t:T) (c:UInt8):(t.inLine p b c).1.out.length<=t.out.length+1:=by
 unfold T.inLine;dsimp only;split
 ·exact D6 _
 ·split
  ·exact D6 _
  ·split
   ·split<;>exact D6 _
   ·have h:=line_out (p:=p) (b:=b) {t with rd:=t.rd.byte c} (t.rd.byte c).line;unfold ends;split<;>exact h
theorem look_out (t:T) (c:UInt8):(t.look p b c).1.out.length<=t.out.length+1:=by
 unfold T.look;split
 ·split
  ·show (T.endData p (t.keep c)).out.length<=_;unfold T.endData;split
   ·exact D6 _
   ·show (t.out ++ [_]).length<=_;simp
  ·exact D6 _
 ·split
  ·split
   ·exact D6 _
   ·have h:=inLine_out (p:=p) (b:=b) t.counted c;rw [counted_out] at h;exact h
  ·exact inLine_out t c
theorem take_out (t:T) (c:UInt8):(t.take p b c).out.length<=t.out.length+2:=by
 have h:=look_out (p:=p) (b:=b) {t with cnt:=false} c;have e:({t with cnt:=false}:T).out=t.out:=rfl;rw [e] at h;unfold T.take;rcases hx:({t with cnt:=false}:T).look p b c with ⟨t1 | ⟨e,o⟩,u⟩
 ·rw [hx] at h;have h:t1.out.length<=t.out.length+1:=h;cases u with
  | true=>show t1.out.length<=_;omega
  | false=>
    have h2:=look_out (p:=p) (b:=b) t1 c;show (t1.look p b c).1.out.length<=_;omega
 ·rw [hx] at h;have h:o.length<=t.out.length+1:=h
  cases u<;> (show o.length<=_;omega)
theorem Q.byte_out (x:Q) (c:UInt8):(x.byte p b c).out.length<=x.out.length+2:=by
 cases x with
 | live t=>exact take_out t c
 | dead e o=>show o.length<=o.length+2;omega
theorem Q.feed_out:∀(l:List UInt8) (x:Q),(x.feed p b l).out.length<=x.out.length+2*l.length
 | [],_=>D5 _
 | c::l,x=>by
   have h1:=Q.byte_out (p:=p) (b:=b) x c
   have h2:=Q.feed_out l (x.byte p b c);rw [feed_cons,List.length_cons];omega
theorem Q.Ok.byte {x:Q} (h:x.Ok b) (c:UInt8):(x.byte p b c).Ok b:=by
 cases x with
 | live t=>
   show (t.take p b c).Ok b;rcases hx:t.take p b c with t1 | ⟨e,o⟩
   ·exact ⟨T.Ok.take h.1 h.2 c hx,h.2⟩
   ·trivial
 | dead e o=>trivial
theorem Q.Ok.feed:∀(l:List UInt8) {x:Q},x.Ok b->(x.feed p b l).Ok b
 | [],_,h=>h
 | c::l,_,h=>Q.Ok.feed l (h.byte c)
end
structure Bts (L:List (Option Nat)) (w:World) (a:Option Addr) (l:List UInt8):Prop where
 nums:Nums .u8 w a l.length (l.map λc=>(c.toNat:Int))
 far:∀ad,a=some ad->some ad.block∉L/\ad.block<w.heap.size
structure Parts (L:List (Option Nat)) (w:World) (a:Option Addr) (ls:List (List UInt8)):Prop where
 cells:0<ls.length->∃bk off,a=some ⟨bk,off,none⟩/\bk<w.heap.size/\some bk∉L/\∀k (hk:k<ls.length),∃ak ck,w.cell? ⟨bk,off+k,none⟩=some (.slice ak ls[k].length ck)/\Bts L w ak ls[k]
theorem Bts.step {L L':List (Option Nat)} {w w':World} {a:Option Addr} {l:List UInt8} (h:Bts L w a l) (hs:Step L L' w w'):Bts L' w' a l:=by
 refine ⟨nums_keeps h.nums hs.keeps (λc=>?_),λad e=>⟨λhm=>?_,D8 (h.far ad e).2 hs.keeps.size⟩⟩
 ·cases ha:a with
  | none=>exact .inl rfl
  | some ad=>exact .inr ⟨ad.block,rfl,(h.far ad ha).1⟩
 ·rcases hs.of _ hm with h1 | h1
  ·exact (h.far ad e).1 h1
  ·have:=(h.far ad e).2;omega
theorem Parts.step {L L':List (Option Nat)} {w w':World} {a:Option Addr} {ls:List (List UInt8)} (h:Parts L w a ls) (hs:Step L L' w w'):Parts L' w' a ls:=by
 refine ⟨λh0=>?_⟩;obtain ⟨bk,off,e,hlt,hn,hc⟩:=h.cells h0;refine ⟨bk,off,e,D8 hlt hs.keeps.size,λhm=>?_,λk hk=>?_⟩
 ·rcases hs.of _ hm with h1 | h1
  ·exact hn h1
  ·omega
 ·obtain ⟨ak,ck,h1,h2⟩:=hc k hk;exact ⟨ak,ck,(hs.keeps.cell (p:=⟨bk,off+k,none⟩) hlt hn).trans h1,h2.step hs⟩
section
set_option maxHeartbeats 4000000
set_option maxRecDepth 20000
attribute [local go_sem] An
variable {w:World} {B:Zone} {g q:Nat} {v f bd t o:Value} {p:Nat} {b:Bd} {s:T}
theorem Dead.cell0 {e:Nat} {out:List Eo} (h:Dead w B g e o out):w.cell? ⟨g,0,none⟩=some (ZZ ZS (e:Int)):=row_cellL h.row rfl
theorem Dead.put {e:Nat} {out:List Eo} (h:Dead w B g e o out) (k:Nat) (u:Value) (o':Value) (out':List Eo) (hc:(deadcells e o).set k u=deadcells e o') (hO:Outs [some g,o'.ownBlock] B (w.setCell ⟨g,k,none⟩ u) o' out') (hn:o'.ownBlock≠some g) (hz:o'.ownBlock=none∨o'.ownBlock=o.ownBlock):Dead (w.setCell ⟨g,k,none⟩ u) B g e o' out':=
 ⟨by rw [←hc];exact row_setL h.row k u,hO,hn,h.ge,by simpa using h.lt,h.bad,h.zone.of (by simp) λk hk=>.inl (by
   rcases (by simpa using hk:k=g∨some k=o'.ownBlock) with e | e
   ·simp [e]
   ·rcases hz with z | z
    ·rw [z] at e;cases e
    ·rw [←z,←e];simp)⟩
theorem Dead.same {e:Nat} {out:List Eo} (h:Dead w B g e o out) (k:Nat) (u:Value) (hc:(deadcells e o).set k u=deadcells e o):Dead (w.setCell ⟨g,k,none⟩ u) B g e o out:=
 h.put k u o out hc (h.O.keeps (BF g k u (Dc.2 rfl)) (λk hk=>by simp only [Dc] at hk;simp [hk]) (λk e hm=>h.ne (by rw [e,Dc.1 hm]))) h.ne (.inr rfl)
theorem XXQzO {P:Prop} (h:P:=by
 clear htw hx hok2 hoo;go_enter Tryz.func75,Tryz.ntmps75;go_upto_region 1 with fail
 generalize w.setCell ⟨g,7,none⟩ (ZW false)=W1 at *;clear c7 z7
 have HF:=BN (failed_live H1.out.cs.c0)
 have HL1:=BN (HL.out _ H1.out);refine wp_loop_rounds 1 ?_;rw [rounds_succ]
 go_wp2_with (first
  |(go_at_call 117;with_reducible refine HL1.out.mono ?_;rintro r w2 ⟨rfl,L2,hA,hS2⟩)
  |(go_at_call 81;with_reducible refine Cm HF.out ?_))
 first | go_end0 | refine bodyPost_ret (results_none rfl _ _ _) rfl ?_
 exact ⟨rfl,_,hA,HS1.out.trans hS2⟩):P:=h
theorem take_any (hp:p<4294967296) (c:UInt8) (x:Q) {L:List (Option Nat)} (h:At w B g p b L x) (ok:x.Ok b) (hout:x.out.length<=999999998):Calls Gq 75 #[ptr g,ZZ ZR (c.toNat:Int)] w λr w'=>
 r=.returned (ZT #[])/\∃L',At w' B g p b L' (x.byte p b c)/\Step L L' w w':=by
 cases x with
 | dead e out=>
   obtain ⟨o,rfl,hd⟩:=h
   have H1:=BN (hd.same 7 (ZW false) rfl)
   have HS1:=BN (EJ (w:=w) (L:= [some g,o.ownBlock]) g 7 (ZW false) (by simp));have HB:=BN hd.bad;have c7:=row_cellL hd.row (k:=7) rfl;have z7:=Dy hd.row 7;clear hd ok hout;go_enter Tryz.func75,Tryz.ntmps75;go_upto_region 1 with fail
   generalize w.setCell ⟨g,7,none⟩ (ZW false)=W1 at *;clear c7 z7
   have HF:=BN (failed_dead H1.out.cell0 HB.out);refine wp_loop_rounds 1 ?_;rw [rounds_succ]
   go_wp2_with (go_at_call 81;with_reducible refine Cm HF.out ?_);first | go_end0 | refine bodyPost_ret (results_none rfl _ _ _) rfl ?_
   exact ⟨rfl,_,⟨_,rfl,H1.out⟩,HS1.out⟩
 | live s=>
   obtain ⟨q,v,f,bd,t,o,rfl,h⟩:=h
   have H1:=BN (h.put 7 (ZW false) {s with cnt:=false} rfl rfl rfl rfl rfl rfl)
   have HS1:=BN (EJ (w:=w) (L:=blks g q v f bd t o) g 7 (ZW false) (by simp));have c7:=h.cs.c7;have z7:=h.marks 7;obtain ⟨ok,hb0⟩:s.Ok/\b.right=true:=ok;have hout:s.out.length<=999999998:=hout;have ok1:=ok.cleared;obtain ⟨S1,hS1⟩:∃S1:T,{s with cnt:=false}=S1:=⟨_,rfl⟩;have ho1:S1.out.length<=999999998:=by rw [←hS1];exact hout
   rw [hS1] at ok1 H1
   have e:Q.byte p b (.live s) c=(match S1.look p b c with
    |(.live t1,false)=>(t1.look p b c).1
    |(x,_)=>x):=by rw [←hS1];rfl
   have HL:=BN (λ(w2:World) (h2:PR w2 B g q v f bd t o p b S1)=>look_any hp hb0 c h2 ok1 (by omega));have htw:=λt'=>look_twice (p:=p) (t':=t') ok1 hb0 c;have hoo:=look_out (p:=p) (b:=b) S1 c;have hok2:=λt' (h:(S1.look p b c).1=.live t')=>ok1.look hb0 c h;rw [e];clear h ok hout e hS1;rcases hx:S1.look p b c with ⟨t1 | ⟨e,out⟩,u⟩
   ·rw [hx] at HL hoo;cases u with
    | true=>
      show Calls _ _ _ _ λr w'=>r=.returned (ZT #[])/\∃L',At w' B g p b L' (.live t1)/\Step _ L' w w';exact XXQzO
    | false=>
      have hu:=htw t1 hx;show Calls _ _ _ _ λr w'=>r=.returned (ZT #[])/\∃L',At w' B g p b L' (t1.look p b c).1/\Step _ L' w w'
      have ok2:=hok2 t1 (by rw [hx]);have hoo:t1.out.length<=S1.out.length+1:=hoo
      have HL9:=λ(w2:World) (q v f bd t o) (h2:PR w2 B g q v f bd t o p b t1)=>look_any hp hb0 c h2 ok2 (by omega);rw [hu] at HL9;have HL2:=BN HL9;clear htw hx hok2 hoo hu ok2 HL9;go_enter Tryz.func75,Tryz.ntmps75;go_upto_region 1 with fail
      generalize w.setCell ⟨g,7,none⟩ (ZW false)=W1 at *;clear c7 z7
      have HF:=BN (failed_live H1.out.cs.c0)
      have HL1:=BN (HL.out _ H1.out);refine wp_loop_rounds 2 ?_;rw [rounds_succ]
      go_wp2_with (first
       |(go_at_call 117;with_reducible refine HL1.out.mono ?_;rintro r w2 ⟨rfl,L2,hA,hS2⟩)
       |(go_at_call 81;with_reducible refine Cm HF.out ?_))
      obtain ⟨q2,v2,f2,bd2,t2,o2,rfl,h2⟩:=hA
      have HF2:=BN (failed_live h2.cs.c0)
      have HL3:=BN (HL2.out _ _ _ _ _ _ _ h2)
      have HS2:=BN (HS1.out.trans hS2);clear h2 hS2 HF HL1 HL2 H1 HS1;rw [rounds_succ]
      go_wp2_with (first
       |(go_at_call 117;with_reducible refine HL3.out.mono ?_;rintro r w4 ⟨rfl,L4,hA4,hS4⟩)
       |(go_at_call 81;with_reducible refine Cm HF2.out ?_))
      first | go_end0 | refine bodyPost_ret (results_none rfl _ _ _) rfl ?_
      exact ⟨rfl,_,hA4,HS2.out.trans hS4⟩
   ·rw [hx] at HL hoo;cases u with
    | true=>
      show Calls _ _ _ _ λr w'=>r=.returned (ZT #[])/\∃L',At w' B g p b L' (.dead e out)/\Step _ L' w w';exact XXQzO
    | false=>
      show Calls _ _ _ _ λr w'=>r=.returned (ZT #[])/\∃L',At w' B g p b L' (.dead e out)/\Step _ L' w w';clear htw hx hok2 hoo;go_enter Tryz.func75,Tryz.ntmps75;go_upto_region 1 with fail
      generalize w.setCell ⟨g,7,none⟩ (ZW false)=W1 at *;clear c7 z7
      have HF:=BN (failed_live H1.out.cs.c0)
      have HL1:=BN (HL.out _ H1.out);refine wp_loop_rounds 2 ?_;rw [rounds_succ]
      go_wp2_with (first
       |(go_at_call 117;with_reducible refine HL1.out.mono ?_;rintro r w2 ⟨rfl,L2,hA,hS2⟩)
       |(go_at_call 81;with_reducible refine Cm HF.out ?_))
      obtain ⟨o2,rfl,h2⟩:=hA
      have HF2:=BN (failed_dead h2.cell0 h2.bad);have HD2:=BN h2
      have HS2:=BN (HS1.out.trans hS2);clear h2 hS2 HF HL1 H1 HS1;rw [rounds_succ]
      go_wp2_with (go_at_call 81;with_reducible refine Cm HF2.out ?_);first | go_end0 | refine bodyPost_ret (results_none rfl _ _ _) rfl ?_
      exact ⟨rfl,_,⟨_,rfl,HD2.out⟩,HS2.out⟩
end
end Go.Proofs.YtnabkcglnbdfeaaGreatDoor.Pg
namespace Go.Proofs.YtnabkcglnbdfeaaGreatDoor.Pg
open Go.RowKit Base Txt Mem Par
structure Told (L:List (Option Nat)) (B:Zone) (w:World) (o:Value) (out:List Eo):Prop where
 outs:Outs L B w o out
 far:∀k,o.ownBlock=some k->some k∉L/\k<w.heap.size
 off:∀k,o.ownBlock=some k->some k∉B.z
theorem Told.step {L L':List (Option Nat)} {B:Zone} {w w':World} {o:Value} {out:List Eo} (h:Told L B w o out) (hs:Step L L' w w'):Told L' B w' o out:=by
 obtain ⟨ps,h1,h2,h3⟩:=h.outs;refine ⟨⟨ps,h1,λx hx=>⟨(h2 x hx).1,⟨((h2 x hx).2.keeps hs.keeps).reads,λk hb=>⟨λhm=>?_,D8 ((h2 x hx).2.far k hb).2 hs.keeps.size⟩,(h2 x hx).2.off⟩⟩,hs.keeps.own h3 (λk e=>(h.far k e).1)⟩,λk e=>⟨λhm=>?_,D8 (h.far k e).2 hs.keeps.size⟩,h.off⟩
 ·rcases hs.of k hm with e | e
  ·exact ((h2 x hx).2.far k hb).1 e
  ·exact absurd ((h2 x hx).2.far k hb).2 (by omega)
 ·rcases hs.of k hm with h1 | h1
  ·exact (h.far k e).1 h1
  ·have:=(h.far k e).2;omega
section
set_option maxHeartbeats 4000000
set_option maxRecDepth 20000
attribute [local go_sem] An
variable {w:World} {B:Zone} {g q:Nat} {v f bd t o:Value} {p:Nat} {b:Bd} {s:T}
theorem Own.less {rd:Ln.M} {fs ts:List Fld} {body:List UInt8} {out:List Eo} (h:Own w B g q v f bd t o rd fs body ts out):Own w B g q v f bd t nil rd fs body ts []:=by
 have e:blks g q v f bd t nil=(blks g q v f bd t o).set 6 none:=rfl;refine ⟨h.R,h.F,h.D,h.TR,⟨[],rfl,(by intro x hx;cases hx),Hp _ _ _ _⟩,?_,h.ge,h.lt,h.zone.of (D5 _) (by rw [e];exact Of.set 6 none (.inl rfl))⟩;rw [e]
 exact h.lone.set h.in 6 none (.inl rfl)
theorem At.below {L:List (Option Nat)} {w':World} {x:Q} (h:At w B g p b L x) (hb:Below w.heap.size w w'):At w' B g p b L x:=by
 cases x with
 | live s=>
   obtain ⟨q,v,f,bd,t,o,rfl,h⟩:=h;exact ⟨q,v,f,bd,t,o,rfl,h.below hb⟩
 | dead e out=>
   obtain ⟨o,rfl,h⟩:=h;refine ⟨o,rfl,(hb.block g h.lt).trans h.row,h.O.keeps (BD hb:Keeps [] w w') (by simp) (by simp),h.ne,h.ge,D8 h.lt hb.size,h.bad,h.zone.of hb.size DT⟩
theorem At.low {L:List (Option Nat)} {x:Q} (h:At w B g p b L x):∀k,some k∈L->B<=k:=by
 cases x with
 | live s=>
   obtain ⟨q,v,f,bd,t,o,rfl,h⟩:=h;exact h.own.low
 | dead e out=>
   obtain ⟨o,rfl,h⟩:=h;intro k hk;obtain ⟨ps, -, -,h3⟩:=h.O;rcases (by simpa using hk:k=g∨some k=o.ownBlock) with e | e
   ·rw [e];exact h.ge
   ·exact (Ho h3 k e.symm).1
theorem At.in {L:List (Option Nat)} {x:Q} (h:At w B g p b L x):In w L:=by
 cases x with
 | live s=>
   obtain ⟨q,v,f,bd,t,o,rfl,h⟩:=h;exact h.own.in
 | dead e out=>
   obtain ⟨o,rfl,h⟩:=h;intro k hk;obtain ⟨ps, -, -,h3⟩:=h.O;rcases (by simpa using hk:k=g∨some k=o.ownBlock) with e | e
   ·rw [e];exact h.lt
   ·exact (Ho h3 k e.symm).2
theorem _root_.Go.Proofs.YtnabkcglnbdfeaaGreatDoor.XXTkD {P:Prop} (h:P:=by
 obtain ⟨i,hi⟩:=List.getElem?_of_mem hm;have h6:(blks g q v f bd t o)[6]?=some (some k):=by rw [←e];rfl
 rcases i with _ | _ | _ | _ | _ | _ | _ | i
 ·exact h.own.lone.ne (i:=0) (j:=6) (k:=k) hi (by decide) h6
 ·exact h.own.lone.ne (i:=1) (j:=6) (k:=k) hi (by decide) h6
 ·exact h.own.lone.ne (i:=2) (j:=6) (k:=k) hi (by decide) h6
 ·exact h.own.lone.ne (i:=3) (j:=6) (k:=k) hi (by decide) h6
 ·exact h.own.lone.ne (i:=4) (j:=6) (k:=k) hi (by decide) h6
 ·exact h.own.lone.ne (i:=5) (j:=6) (k:=k) hi (by decide) h6
 ·cases hi
 ·cases hi):P:=h
theorem _root_.Go.Proofs.YtnabkcglnbdfeaaGreatDoor.XX5KD {P:Prop} (h:P:=by
 simp only [CV,De,or_false,Value.ownBlock,reduceCtorEq] at hk ⊢
 rcases hk with e | e | e | e | e | e<;>simp [e]):P:=h
theorem At.tell {L:List (Option Nat)} {x:Q} (h:At w B g p b L x):∃o L',w.cell? ⟨g,26,none⟩=some o/\w.frozen? ⟨g,26,none⟩=false/\At (w.setCell ⟨g,26,none⟩ nil) B g p b L' x.told/\Told L' B (w.setCell ⟨g,26,none⟩ nil) o x.out/\Step L L' w (w.setCell ⟨g,26,none⟩ nil):=by
 cases x with
 | live s=>
   obtain ⟨q,v,f,bd,t,o,rfl,h⟩:=h;have hg:(blks g q v f bd t o)[0]?=some (some g):=rfl
   have hne:o.ownBlock≠some g:=λe=>h.own.lone.ne (i:=0) (j:=6) rfl (by decide) (by rw [←e];rfl);have hsub:∀k,some k∈blks g q v f bd t nil->some k∈blks g q v f bd t o:=λk hk=>by exact XX5KD
   refine ⟨o,blks g q v f bd t nil,h.cs.c26,h.marks 26,⟨q,v,f,bd,t,nil,rfl,⟨row_setL h.row 26 nil,(h.own.less).set 26 nil⟩⟩,⟨Outs.less (h.own.O.keeps (BF g 26 nil (Dc.2 rfl)) (λk hk=>by simp only [Dc] at hk;simp [hk]) (λk e hm=>hne (by rw [e,Dc.1 hm]))) (λk hk=>.inl (hsub k hk)),λk e=>⟨λhm=>?_,?_⟩,λk e=>h.own.zone.off k (CZ (i:=6) (by rw [←e];rfl))⟩,⟨BF g 26 nil (CZ hg),λk hk=>.inl (hsub k hk)⟩⟩
   ·exact XXTkD
   ·have:=h.own.in k (CZ (i:=6) (by rw [←e];rfl));simpa using this
 | dead e out=>
   obtain ⟨o,rfl,h⟩:=h;obtain ⟨ps, -, -,h3⟩:=h.O;refine ⟨o,[some g,none],row_cellL h.row rfl,Dy h.row 26,⟨nil,rfl,h.put 26 nil nil [] rfl ⟨[],rfl,(by intro x hx;cases hx),Hp _ _ _ _⟩ (by simp [Value.ownBlock]) (.inl rfl)⟩,⟨Outs.less (h.O.keeps (BF g 26 nil (Dc.2 rfl)) (λk hk=>by simp only [Dc] at hk;simp [hk]) (λk e hm=>h.ne (by rw [e,Dc.1 hm]))) (λk hk=>.inl (by simpa using Or.inl (by simpa using hk))),λk e=>⟨λhm=>?_,?_⟩,λk e=>h.zone.off k (by rw [←e];simp)⟩,⟨BF g 26 nil (by simp),λk hk=>.inl (by simpa using Or.inl (by simpa using hk))⟩⟩
   ·rcases (by simpa using hm:k=g) with rfl;exact h.ne e
   ·have:=(Ho h3 k e).2;simpa using this
theorem _root_.Go.Proofs.YtnabkcglnbdfeaaGreatDoor.XX086 {P:Prop} (h:P:=by
 have:=congrArg List.length (congrArg List.flatten (Do (k+1) ls));rw [List.flatten_append,CG] at this
 omega):P:=h
theorem _root_.Go.Proofs.YtnabkcglnbdfeaaGreatDoor.XXMED {P:Prop} (h:P:=by
 go_wp2_with fail;go_roundw
 case rel=>exact ⟨k+1,by omega,by go_num,BN ⟨Lq,HA2.out,HS2.out⟩⟩
 case measure=>simp [intOf];omega):P:=h
theorem feed_any (hp:p<4294967296) (x:Q) {L:List (Option Nat)} (h:At w B g p b L x) (ok:x.Ok b) (a:Option Addr) (ca:Nat) (ls:List (List UInt8)) (hl:Parts L w a ls) (hn:ls.length<=1000000) (hout:x.out.length+2*ls.flatten.length<=999999998) :
 Calls Gq 20 #[ptr g,.slice a ls.length ca] w λr w'=>∃o L',r=.returned o/\At w' B g p b L' (x.feed p b ls.flatten).told/\Told L' B w' o (x.feed p b ls.flatten).out/\Step L L' w w':=by
 have H:=BN h;have HL:=BN hl;have HOK:=BN ok;have HOU:=BN hout;obtain ⟨n,hnn⟩:∃n,ls.length=n:=⟨_,rfl⟩;have HN:=BN hnn;have hn1:n<=1000000:=by omega
 rw [hnn];clear h hl ok hout hn hnn;go_enter Tryz.func20,Tryz.ntmps20;go_upto_region 2 with fail
 go_loopw [12] (λi wr=>∃k:Nat,k<=n/\i=ZZ ZS k/\Hid (∃Lr,At wr B g p b Lr (x.feed p b (ls.take k).flatten)/\Step L Lr w wr)) (λi _=>n-(intOf i).toNat)
 case atStart=>exact ⟨0,DC _,rfl,BN ⟨L,H.out,Step.refl⟩⟩
 case round=>
  obtain ⟨k,hk,rfl,hR⟩:=hrel;rcases D9 k n with hlt | hge
  ·obtain ⟨Lr,hA,hS⟩:=hR.out;have hkl:k<ls.length:=by rw [HN.out];exact hlt
   obtain ⟨bk,off,rfl,hbk,hnb,hc⟩:=(HL.out.step hS).cells (by omega);obtain ⟨ak,ck,hcell,hB⟩:=hc k hkl;have htk:(ls.take (k+1)).flatten=(ls.take k).flatten++ls[k]:=by rw [Dq hkl,List.flatten_append];simp
   have hsum:(ls.take (k+1)).flatten.length<=ls.flatten.length:=by exact XX086
   rw [htk,CG] at hsum;have t1:(k:Int)<(n:Int):=by omega
   have HTK:=BN htk;obtain ⟨pl,hpl⟩:∃pl,ls[k]=pl:=⟨_,rfl⟩;rw [hpl] at hcell hB hsum HTK;have hpb:pl.length<=1000000000:=by have:=HOU.out;omega
   obtain ⟨m,hm⟩:∃m,pl.length=m:=⟨_,rfl⟩;rw [hm] at hcell hpb hsum;have HM:=BN hm;obtain ⟨X,hX⟩:∃X,x.feed p b (ls.take k).flatten=X:=⟨_,rfl⟩;have hXok:X.Ok b:=by rw [←hX];exact Q.Ok.feed _ HOK.out
   have hXo:X.out.length+2*m<=999999998:=by have:=Q.feed_out (p:=p) (b:=b) (ls.take k).flatten x;rw [hX] at this;have:=HOU.out;omega
   rw [hX] at hA;have HX:=BN hX;have HXO:=BN hXok;have HXL:=BN hXo;have HA:=BN hA;have HS:=BN hS;have HB:=BN hB;clear hA hS hB hX hXok hXo hsum htk hpl hm hc hR hnb hbk;go_upto_region 5 with fail
   clear hcell
   go_loopw [18] (λj wq=>∃i:Nat,i<=m/\j=ZZ ZS i/\Hid (∃Lq,At wq B g p b Lq (X.feed p b (pl.take i))/\Step Lr Lq wr wq)) (λj _=>m-(intOf j).toNat)
   case atStart=>exact ⟨0,DC _,rfl,BN ⟨Lr,HA.out,Step.refl⟩⟩
   case round=>
    obtain ⟨wC,hwC⟩:∃x,x=wr:=⟨_,rfl⟩;obtain ⟨i,hi,rfl,hR2⟩:=hrel;rcases D9 i m with hilt | hige
    ·obtain ⟨Lq,hA2,hS2⟩:=hR2.out;have hil:i<pl.length:=by rw [HM.out];exact hilt
     obtain ⟨zb,zo,rfl,hzb,hz⟩:=(HB.out.step hS2).nums.2 (by omega);have hcell:=hz i hil;have hti:pl.take (i+1)=pl.take i ++ [pl[i]]:=Dq hil;have hgi:(pl.map λc=>(c.toNat:Int))[i]?.getD 0=(pl[i].toNat:Int):=by simp [hil]
     rw [hgi] at hcell;have HTI:=BN hti;obtain ⟨c,hc⟩:∃c,pl[i]=c:=⟨_,rfl⟩;rw [hc] at hcell HTI;have t2:(i:Int)<(m:Int):=by omega
     have hok3:(X.feed p b (pl.take i)).Ok b:=Q.Ok.feed _ HXO.out;have hou3:(X.feed p b (pl.take i)).out.length<=999999998:=by have h1:=Q.feed_out (p:=p) (b:=b) (pl.take i) X;have h2:=HXL.out;rw [CO] at h1;omega
     have HTA:=BN (take_any hp c _ hA2 hok3 hou3);have HS2:=BN hS2;clear hA2 hS2 hz hzb hti hgi hc hok3 hou3 hR2
     go_wp2_with (go_at_call 75;with_reducible refine HTA.out.mono ?_;rintro r w5 ⟨rfl,L5,hA5,hS5⟩);go_roundw
     case rel=>exact ⟨i+1,by omega,by go_num,BN ⟨L5,by rw [HTI.out,feed_app];exact hA5,HS2.out.trans hS5⟩⟩
     case measure=>simp [intOf];omega
    ·obtain rfl:i=m:=by omega
     have t2:¬(i:Int)<(i:Int):=by omega
     obtain ⟨Lq,hA2,hS2⟩:=hR2.out
     have e:pl.take i=pl:=Dp (by rw [HM.out];exact D5 _);rw [e,←HX.out,←feed_app,←HTK.out] at hA2
     have HA2:=BN hA2;have HS2:=BN (HS.out.trans hS2);clear hA2 hS2 e hR2;exact XXMED
  ·obtain rfl:k=n:=by omega
   have t1:¬(k:Int)<(k:Int):=by omega
   obtain ⟨Lr,hA,hS⟩:=hR.out
   have e:ls.take k=ls:=Dp (by rw [HN.out];exact D5 _);rw [e] at hA;obtain ⟨o,L2,c26,z26,hA2,hT2,hS2⟩:=hA.tell
   have HA2:=BN hA2;have HT2:=BN hT2;have HS2:=BN (hS.trans hS2);clear hA hS hR e hA2 hT2 hS2;go_wp2_with fail;go_ret;exact ⟨o,rfl,L2,HA2.out,HT2.out,HS2.out⟩
theorem errq_any {L:List (Option Nat)} {x:Q} (h:At w B g p b L x):Calls Gq 23 #[ptr g] w λr w'=>r=.returned (ZZ ZS (x.err:Int))/\w'=w:=by
 cases x with
 | live s=>
   obtain ⟨q,v,f,bd,t,o,rfl,h⟩:=h;exact err_any h.cs.c0
 | dead e out=>
   obtain ⟨o,rfl,h⟩:=h;exact err_any h.cell0
end
end Go.Proofs.YtnabkcglnbdfeaaGreatDoor.Pg
namespace Go.Proofs.YtnabkcglnbdfeaaGreatDoor.Pg
open Go.RowKit Base Txt Mem Par
section
set_option maxHeartbeats 4000000
set_option maxRecDepth 20000
attribute [local go_sem] An
variable {w:World} {B:Zone} {g q:Nat} {v f bd t o:Value} {p:Nat} {b:Bd} {s:T}
theorem enter_new (hp:p<4294967296) (hz:B.z= []) (hrow:w.heap[g]?=some (.cells ([ZZ ZS 0,ZZ ZS 0,nil,ZY E0,ZY E0,ZZ ZS 0,ZZ ZS 0,ZW false,ZZ ZS 0,nil,ZW false,nil,ZZ ZS 0,ZZ ZQ (p:Int),ZZ ZS b.x0,ZZ ZS b.x1,ZZ ZS b.x2,ZZ ZS b.x3,ZZ ZS b.x4,ZZ ZS b.x5,ZZ ZS b.x6,ZZ ZS b.x7,ZW b.ch,ZW b.od,ZZ ZS 0,ZV none,nil]:List Value).toArray 55 (0,0))) (hB:B<=g):Calls Gq 72 #[ptr g,ZZ ZS 1,ZZ ZS b.x0] w λr w'=>
 r=.returned (ZT #[])/\∃q1,PR w' B g q1 nil nil nil nil nil p b (T.new p b)/\Keeps [some g] w w':=by
 have hlt:=Ln.row_lt hrow
 have HR1:=BN (row_setL hrow 24 (ZZ ZS 1))
 have HK1:=BN (BF (w:=w) (L:= [some g]) g 24 (ZZ ZS 1) (by simp))
 have HLT:=BN (show g<(w.setCell ⟨g,24,none⟩ (ZZ ZS 1)).heap.size by simpa using hlt);have HB:=BN hB;have c24:=row_cellL hrow (k:=24) rfl;have z24:=Dy hrow 24;clear hrow hB hlt;go_enter Tryz.func72,Tryz.ntmps72;go_upto_region 1 with fail
 generalize w.setCell ⟨g,24,none⟩ (ZZ ZS 1)=W1 at *;clear c24 z24;have c13:W1.cell? ⟨g,13,none⟩=some (ZZ ZQ (p:Int)):=row_cellL HR1.out (k:=13) rfl
 have HNL:=BN (line_new hp B b.x0 W1 (D7 HB.out (D4 HLT.out)));go_wp2_with
  (go_at_call 115;with_reducible refine HNL.out.mono ?_;rintro r w8 ⟨q1,rfl,hq1,hr1,hb8⟩
   have hrow8:=(hb8.block g HLT.out).trans HR1.out;have d25:=row_cellL hrow8 (k:=25) rfl;have y25:=Dy hrow8 25;have HR8:=BN hrow8;have HD8:=BN hr1;have HQ8:=BN hq1;have HB8:=BN hb8;clear hb8 hr1 hq1 hrow8)
 go_end0;have hgq:g≠q1:=by have:=HLT.out;have:=HQ8.out;omega
 have hk:Keeps [some g] w8 (w8.setCell ⟨g,25,none⟩ (ptr q1)):=BF g 25 _ (by simp);refine ⟨rfl,q1,⟨row_setL HR8.out 25 (ptr q1),⟨⟨hk.row HD8.out.row (by simpa using λe=>hgq e.symm),hk.own HD8.out.own (by simp [Value.ownBlock]),HD8.out.ge,HD8.out.ne⟩,Hp _ _ _ _,Hp _ _ _ _,Hp _ _ _ _,⟨[],rfl,(by intro x hx;cases hx),Hp _ _ _ _⟩,?_,HB.out,by have:=HLT.out;have:=HB8.out.size;simp;omega,by rw [hz];exact Clear.nil⟩⟩,(HK1.out.trans (BD HB8.out) DT).trans hk DT⟩;intro i j k hi hj;rcases i with _ | _ | _ | _ | _ | _ | _ | i<;>rcases j with _ | _ | _ | _ | _ | _ | _ | j<;>simp [Value.ownBlock] at hi hj ⊢<;>omega
theorem T.new_ok (p:Nat) (b:Bd):(T.new p b).Ok:=
 ⟨Ln.M.new_ok _ _ _ (Ln.mid_le _),rfl,⟨D5 _,by show 1<=7;omega⟩,DC _,DC _,D5 _,D5 _,(by intro y hy;cases hy),(by intro y hy;cases hy),DC _,DC _,DC _,λh=>(by cases h),λ_=>rfl,DC _⟩
theorem Q.new_ok (p:Nat) (b:Bd):(Q.new p b).Ok b:=by
 unfold Q.new;split
 ·rename_i h;simp only [As] at h;exact ⟨T.new_ok p b,h.1⟩
 ·trivial
theorem dead_new {W:World} (hz:B.z= []) (hrow:W.heap[g]?=some (.cells ([ZZ ZS 20,ZZ ZS 0,nil,ZY E0,ZY E0,ZZ ZS 0,ZZ ZS 0,ZW false,ZZ ZS 0,nil,ZW false,nil,ZZ ZS 0,ZZ ZQ 0,ZZ ZS 0,ZZ ZS 0,ZZ ZS 0,ZZ ZS 0,ZZ ZS 0,ZZ ZS 0,ZZ ZS 0,ZZ ZS 0,ZW false,ZW false,ZZ ZS 0,ZV none,nil]:List Value).toArray 55 (0,0))) (hB:B<=g):At W B g p b [some g,none] (.dead 20 []):=
 ⟨nil,rfl,⟨hrow,⟨[],rfl,(by intro x hx;cases hx),Hp _ _ _ _⟩,by simp [Value.ownBlock],hB,Ln.row_lt hrow,by decide,by rw [hz];exact Clear.nil⟩⟩
theorem new_any (hp:p<4294967296) (w:World):Calls Gq 18 #[ZZ ZQ (p:Int),ZU #[ZZ ZS b.x0,ZZ ZS b.x1,ZZ ZS b.x2,ZZ ZS b.x3,ZZ ZS b.x4,ZZ ZS b.x5,ZZ ZS b.x6,ZZ ZS b.x7,ZW b.ch,ZW b.od]] w λr w'=>
 ∃g L',r=.returned (ptr g)/\w.heap.size<=g/\At w' ⟨w.heap.size,[]⟩ g p b L' (Q.new p b)/\Below w.heap.size w w':=by
 have hqr:=λw=>Qk.right_any p hp w;have hbr:=λw=>Bnd.right_any b.x0 b.x1 b.x2 b.x3 b.x4 b.x5 b.x6 b.x7 b.ch b.od w
 have HB0:=BN (((Ao _ _).alloc (D5 _) (.cells #[ZZ ZS b.x0,ZZ ZS b.x1,ZZ ZS b.x2,ZZ ZS b.x3,ZZ ZS b.x4,ZZ ZS b.x5,ZZ ZS b.x6,ZZ ZS b.x7,ZW b.ch,ZW b.od] 29)):Below w.heap.size w _)
 have HZ0:=BN (Em w w.heap.size rfl 29 [ZZ ZS b.x0,ZZ ZS b.x1,ZZ ZS b.x2,ZZ ZS b.x3,ZZ ZS b.x4,ZZ ZS b.x5,ZZ ZS b.x6,ZZ ZS b.x7,ZW b.ch,ZW b.od])
 have HSZ:=BN (show w.heap.size<(w.alloc (.cells #[ZZ ZS b.x0,ZZ ZS b.x1,ZZ ZS b.x2,ZZ ZS b.x3,ZZ ZS b.x4,ZZ ZS b.x5,ZZ ZS b.x6,ZZ ZS b.x7,ZW b.ch,ZW b.od] 29)).heap.size by simp);unfold Q.new;by_cases hP:p<1073741824
 ·rw [decide_eq_true hP] at hqr ⊢;rw [Bool.and_true];have HQR:=BN hqr;unfold Bd.right;cases hb:Bnd.right b.x0 b.x1 b.x2 b.x3 b.x4 b.x5 b.x6 b.x7 with
  | true=>
    rw [hb] at hbr;have HBR:=BN hbr;rw [if_pos rfl];clear hqr hbr hb hP;go_enter Tryz.func18,Tryz.ntmps18;go_upto_region 1 with fail
    generalize w.alloc (.cells #[ZZ ZS b.x0,ZZ ZS b.x1,ZZ ZS b.x2,ZZ ZS b.x3,ZZ ZS b.x4,ZZ ZS b.x5,ZZ ZS b.x6,ZZ ZS b.x7,ZW b.ch,ZW b.od] 29)=W0 at *;have y0:=HZ0.out.c 0 _ rfl;have y1:=HZ0.out.c 1 _ rfl;have y2:=HZ0.out.c 2 _ rfl;have y3:=HZ0.out.c 3 _ rfl;have y4:=HZ0.out.c 4 _ rfl;have y5:=HZ0.out.c 5 _ rfl;have y6:=HZ0.out.c 6 _ rfl;have y7:=HZ0.out.c 7 _ rfl;have y8:=HZ0.out.c 8 _ rfl;have y9:=HZ0.out.c 9 _ rfl
    go_upto_region 4 with (first
     |(go_at_call 71;with_reducible refine (HBR.out _).mono ?_;rintro r w3 ⟨rfl,hb3⟩
       have HB3:=BN hb3;have HZ3:=BN (HZ0.out.below hb3);have x0:=HZ3.out.c 0 _ rfl;have x1:=HZ3.out.c 1 _ rfl;have x2:=HZ3.out.c 2 _ rfl;have x3:=HZ3.out.c 3 _ rfl;have x4:=HZ3.out.c 4 _ rfl;have x5:=HZ3.out.c 5 _ rfl;have x6:=HZ3.out.c 6 _ rfl;have x7:=HZ3.out.c 7 _ rfl;have x8:=HZ3.out.c 8 _ rfl;have x9:=HZ3.out.c 9 _ rfl;clear hb3)
     |(go_at_call 70;with_reducible refine Cm (HQR.out _) ?_))
    have HB4:=BN (Al HB0.out HB3.out)
    have HR4:=BN (heap_alloc_new w3 (.cells ([ZZ ZS 0,ZZ ZS 0,nil,ZY E0,ZY E0,ZZ ZS 0,ZZ ZS 0,ZW false,ZZ ZS 0,nil,ZW false,nil,ZZ ZS 0,ZZ ZQ (p:Int),ZZ ZS b.x0,ZZ ZS b.x1,ZZ ZS b.x2,ZZ ZS b.x3,ZZ ZS b.x4,ZZ ZS b.x5,ZZ ZS b.x6,ZZ ZS b.x7,ZW b.ch,ZW b.od,ZZ ZS 0,ZV none,nil]:List Value).toArray 55))
    have HG:=BN (show w.heap.size<=w3.heap.size from D7 (D4 HSZ.out) HB3.out.size)
    have HBW:=BN (HB4.out.alloc HG.out (.cells ([ZZ ZS 0,ZZ ZS 0,nil,ZY E0,ZY E0,ZZ ZS 0,ZZ ZS 0,ZW false,ZZ ZS 0,nil,ZW false,nil,ZZ ZS 0,ZZ ZQ (p:Int),ZZ ZS b.x0,ZZ ZS b.x1,ZZ ZS b.x2,ZZ ZS b.x3,ZZ ZS b.x4,ZZ ZS b.x5,ZZ ZS b.x6,ZZ ZS b.x7,ZW b.ch,ZW b.od,ZZ ZS 0,ZV none,nil]:List Value).toArray 55))
    have HX4:=BN ((HZ3.out.alloc (.cells ([ZZ ZS 0,ZZ ZS 0,nil,ZY E0,ZY E0,ZZ ZS 0,ZZ ZS 0,ZW false,ZZ ZS 0,nil,ZW false,nil,ZZ ZS 0,ZZ ZQ (p:Int),ZZ ZS b.x0,ZZ ZS b.x1,ZZ ZS b.x2,ZZ ZS b.x3,ZZ ZS b.x4,ZZ ZS b.x5,ZZ ZS b.x6,ZZ ZS b.x7,ZW b.ch,ZW b.od,ZZ ZS 0,ZV none,nil]:List Value).toArray 55)).c 0 _ rfl)
    have HE:=BN (enter_new (B:=⟨w.heap.size,[]⟩) hp rfl HR4.out HG.out);clear y0 y1 y2 y3 y4 y5 y6 y7 y8 y9 x0 x1 x2 x3 x4 x5 x6 x7 x8 x9 HR4;have x0:=HX4.out
    go_wp2_with (go_at_call 72;with_reducible refine HE.out.mono ?_;rintro r w5 ⟨rfl,q1,hP,hK⟩);go_ret;exact ⟨_,_,rfl,HG.out,⟨_,_,_,_,_,_,rfl,hP⟩,HBW.out.trans (hK.below HBW.out.size (λk hk=>by rw [DX.inj (Dc.1 hk)];exact HG.out))⟩
  | false=>
    rw [hb] at hbr;have HBR:=BN hbr;rw [if_neg (by decide)];clear hqr hbr hb hP;go_enter Tryz.func18,Tryz.ntmps18;go_upto_region 1 with fail
    generalize w.alloc (.cells #[ZZ ZS b.x0,ZZ ZS b.x1,ZZ ZS b.x2,ZZ ZS b.x3,ZZ ZS b.x4,ZZ ZS b.x5,ZZ ZS b.x6,ZZ ZS b.x7,ZW b.ch,ZW b.od] 29)=W0 at *;have y0:=HZ0.out.c 0 _ rfl;have y1:=HZ0.out.c 1 _ rfl;have y2:=HZ0.out.c 2 _ rfl;have y3:=HZ0.out.c 3 _ rfl;have y4:=HZ0.out.c 4 _ rfl;have y5:=HZ0.out.c 5 _ rfl;have y6:=HZ0.out.c 6 _ rfl;have y7:=HZ0.out.c 7 _ rfl;have y8:=HZ0.out.c 8 _ rfl;have y9:=HZ0.out.c 9 _ rfl
    go_wp2_with (first
     |(go_at_call 71;with_reducible refine (HBR.out _).mono ?_;rintro r w3 ⟨rfl,hb3⟩
       have HB3:=BN hb3;clear hb3)
     |(go_at_call 70;with_reducible refine Cm (HQR.out _) ?_))
    go_ret;have hg:=D7 (D4 HSZ.out) HB3.out.size;exact ⟨_,_,rfl,hg,dead_new (B:=⟨w.heap.size,[]⟩) rfl (heap_alloc_new w3 (.cells ([ZZ ZS 20,ZZ ZS 0,nil,ZY E0,ZY E0,ZZ ZS 0,ZZ ZS 0,ZW false,ZZ ZS 0,nil,ZW false,nil,ZZ ZS 0,ZZ ZQ 0,ZZ ZS 0,ZZ ZS 0,ZZ ZS 0,ZZ ZS 0,ZZ ZS 0,ZZ ZS 0,ZZ ZS 0,ZZ ZS 0,ZW false,ZW false,ZZ ZS 0,ZV none,nil]:List Value).toArray 55)) hg,(Al HB0.out HB3.out).alloc hg _⟩
 ·rw [decide_eq_false hP] at hqr ⊢;rw [Au,if_neg (by decide)];have HQR:=BN hqr;clear hqr hbr hP;go_enter Tryz.func18,Tryz.ntmps18;go_upto_region 1 with fail
  generalize w.alloc (.cells #[ZZ ZS b.x0,ZZ ZS b.x1,ZZ ZS b.x2,ZZ ZS b.x3,ZZ ZS b.x4,ZZ ZS b.x5,ZZ ZS b.x6,ZZ ZS b.x7,ZW b.ch,ZW b.od] 29)=W0 at *
  go_wp2_with (go_at_call 70;with_reducible refine Cm (HQR.out _) ?_);go_ret;have hg:=D4 HSZ.out;exact ⟨_,_,rfl,hg,dead_new (B:=⟨w.heap.size,[]⟩) rfl (heap_alloc_new W0 (.cells ([ZZ ZS 20,ZZ ZS 0,nil,ZY E0,ZY E0,ZZ ZS 0,ZZ ZS 0,ZW false,ZZ ZS 0,nil,ZW false,nil,ZZ ZS 0,ZZ ZQ 0,ZZ ZS 0,ZZ ZS 0,ZZ ZS 0,ZZ ZS 0,ZZ ZS 0,ZZ ZS 0,ZZ ZS 0,ZZ ZS 0,ZW false,ZW false,ZZ ZS 0,ZV none,nil]:List Value).toArray 55)) hg,HB0.out.alloc hg _⟩
end
end Go.Proofs.YtnabkcglnbdfeaaGreatDoor.Pg
namespace Go.Proofs.YtnabkcglnbdfeaaGreatDoor.Pg
open Go.RowKit Base Txt Mem Par
theorem told_err (x:Q):x.told.err=x.err:=by cases x<;>rfl
theorem told_clean (x:Q):x.told.clean=x.clean:=by cases x<;>rfl
theorem told_ok {b:Bd} {x:Q} (h:x.Ok b):x.told.Ok b:=by
 cases x with
 | live t=>exact ⟨⟨h.1.rd,h.1.nf,h.1.st,h.1.hl,h.1.bl,h.1.fsl,h.1.tsl,h.1.fss,h.1.tss,h.1.m,h.1.x,h.1.body,h.1.left,h.1.early,h.1.size⟩,h.2⟩
 | dead e o=>trivial
theorem Parts.one {L:List (Option Nat)} {w:World} {a:Option Addr} {c:Nat} {l:List UInt8} (h:Bts L w a l) (hin:In w L) (ty:TypeId):Parts L (w.alloc (.cells #[.slice a l.length c] ty)) (some ⟨w.heap.size,0,none⟩) [l]:=by
 have hb:Below w.heap.size w (w.alloc (.cells #[.slice a l.length c] ty)):=(Ao _ _).alloc (D5 _) _;refine ⟨λ_=>⟨w.heap.size,0,rfl,by simp,λhm=>by have:=hin _ hm;omega,λk hk=>?_⟩⟩;have hk:k<1:=hk;obtain rfl:k=0:=by omega
 refine ⟨a,c,?_,?_⟩
 ·have:=cell_of_row (w.alloc (.cells #[.slice a l.length c] ty)) w.heap.size 0 _ ty (0,0) (heap_alloc_new w _);exact this.trans rfl
 ·exact h.step (EH hb)
section
set_option maxHeartbeats 4000000
set_option maxRecDepth 20000
attribute [local go_sem] An
variable {w:World} {B:Zone} {g q:Nat} {v f bd t o:Value} {p:Nat} {b:Bd} {s:T}
end
theorem flat_at:∀(ps:List (Array Value × Eo)),(∀x∈ps,x.1.size=7)->∀k (hk:k<ps.length) j,j<7->(ps.flatMap (·.1.toList))[k*7+j]?=ps[k].1.toList[j]?
 | [],_,k,hk,_,_=>by cases hk
 | x::ps,h,0,_,j,hj=>by
   have hx:x.1.toList.length=7:=by simpa using h x (by simp)
   rw [List.flatMap_cons,List.getElem?_append_left (by omega),Nat.zero_mul,DB];rfl
 | x::ps,h,k+1,hk,j,hj=>by
   have hx:x.1.toList.length=7:=by simpa using h x (by simp)
   rw [List.flatMap_cons,List.getElem?_append_right (by omega),hx,show (k+1)*7+j-7=k*7+j by omega];exact flat_at ps (λy hy=>h y (by simp [hy])) k (by simpa using hk) j hj
theorem Told.at {L:List (Option Nat)} {B:Zone} {w:World} {o:Value} {out:List Eo} (h:Told L B w o out):∃a c,o=.slice a out.length c/\(0<out.length->∃bk,a=some ⟨bk,0,none⟩/\bk<w.heap.size/\
 ∀k (hk:k<out.length),∃fa fc ba bc ta tc,Flds w fa out[k].fs.length out[k].fs/\Nums .u8 w ba out[k].body.length (out[k].body.map λc=>(c.toNat:Int))/\Flds w ta out[k].ts.length out[k].ts/\
  w.cell? ⟨bk,k*7,none⟩=some (ZY out[k].m)/\w.cell? ⟨bk,k*7+1,none⟩=some (ZY out[k].x)/\w.cell? ⟨bk,k*7+2,none⟩=some (ZZ ZS out[k].k)/\w.cell? ⟨bk,k*7+3,none⟩=some (.slice fa out[k].fs.length fc)/\
  w.cell? ⟨bk,k*7+4,none⟩=some (ZW out[k].ch)/\w.cell? ⟨bk,k*7+5,none⟩=some (.slice ba out[k].body.length bc)/\w.cell? ⟨bk,k*7+6,none⟩=some (.slice ta out[k].ts.length tc)):=by
 obtain ⟨ps,h1,h2,h3⟩:=h.outs;obtain ⟨a,c,e, -⟩:=Dw h3;subst e;refine ⟨a,c,rfl,λh0=>?_⟩;obtain ⟨bk,cf,hform, -,hlt⟩:=h3.form h0;simp only [Value.slice.injEq,true_and] at hform;obtain ⟨rfl,rfl⟩:=hform;refine ⟨bk,rfl,hlt,λk hk=>?_⟩;have hkp:k<ps.length:=by rw [←h1,CK] at hk;exact hk
 have hr:out[k]=ps[k].2:=by simp [←h1]
 obtain ⟨h7,hF⟩:=h2 ps[k] (C8 hkp);obtain ⟨fa,fc,ba,bc,ta,tc,hV,f1,f2,f3⟩:=hF.reads;have hcs:ps[k].1= #[ZY ps[k].2.m,ZY ps[k].2.x,ZZ ZS ps[k].2.k,.slice fa ps[k].2.fs.length fc,ZW ps[k].2.ch,.slice ba ps[k].2.body.length bc,.slice ta ps[k].2.ts.length tc]:=by injection hV
 have key:∀j,j<7->w.cell? ⟨bk,k*7+j,none⟩=ps[k].1.toList[j]?:=by
  intro j hj
  have hc:=h3.cellAt (k*7+j) (by omega);have e:(ps.flatMap (·.1.toList))[k*7+j]?=ps[k].1.toList[j]?:=flat_at ps (λx hx=>(h2 x hx).1) k hkp j hj;exact hc.trans e
 rw [hr];rw [hcs] at key;exact ⟨fa,fc,ba,bc,ta,tc,f1,f2,f3,key 0 (by decide),key 1 (by decide),key 2 (by decide),key 3 (by decide),key 4 (by decide),key 5 (by decide),key 6 (by decide)⟩
end Go.Proofs.YtnabkcglnbdfeaaGreatDoor.Pg
namespace Go.Proofs.YtnabkcglnbdfeaaGreatDoor.By
open Go.RowKit Base
def Bytes (w:World) (g:Nat) (l:List UInt8):Prop:=∀j (h:j<l.length),w.cell? ⟨g,j,none⟩=some (ZZ ZR (l[j].toNat:Int))/\w.frozen? ⟨g,j,none⟩=false
theorem conv_bytes (s:ByteArray) (w:World):∃W cap,(convert 9 22 (ZY s)).run Gq w=.ok (ZX (some ⟨w.heap.size,0,none⟩) s.size cap) W/\Bytes W w.heap.size s.data.toList/\w.heap.size<W.heap.size/\Below w.heap.size w W:=by exact XXLUf
end Go.Proofs.YtnabkcglnbdfeaaGreatDoor.By
namespace Go.Proofs.YtnabkcglnbdfeaaGreatDoor.Pg
open Go.RowKit Base Txt Mem Par
abbrev usual:Bd:=⟨1024,32,8192,65536,32,8,4,20,true,true⟩
abbrev bdV (b:Bd):Value:=ZU #[ZZ ZS b.x0,ZZ ZS b.x1,ZZ ZS b.x2,ZZ ZS b.x3,ZZ ZS b.x4,ZZ ZS b.x5,ZZ ZS b.x6,ZZ ZS b.x7,ZW b.ch,ZW b.od]
def RecAt (w:World) (bk j:Nat) (r:Eo):Prop:=∃fa fc ba bc ta tc,Flds w fa r.fs.length r.fs/\Nums .u8 w ba r.body.length (r.body.map λc=>(c.toNat:Int))/\Flds w ta r.ts.length r.ts/\
 w.cell? ⟨bk,j,none⟩=some (ZY r.m)/\w.cell? ⟨bk,j+1,none⟩=some (ZY r.x)/\w.cell? ⟨bk,j+2,none⟩=some (ZZ ZS r.k)/\w.cell? ⟨bk,j+3,none⟩=some (.slice fa r.fs.length fc)/\
 w.cell? ⟨bk,j+4,none⟩=some (ZW r.ch)/\w.cell? ⟨bk,j+5,none⟩=some (.slice ba r.body.length bc)/\w.cell? ⟨bk,j+6,none⟩=some (.slice ta r.ts.length tc)
def Said (w:World) (o:Value) (out:List Eo):Prop:=∃a c,o=.slice a out.length c/\(0<out.length->∃bk,a=some ⟨bk,0,none⟩/\bk<w.heap.size/\∀k (hk:k<out.length),RecAt w bk (k*7) out[k])
theorem Told.said {L:List (Option Nat)} {B:Zone} {w:World} {o:Value} {out:List Eo} (h:Told L B w o out):Said w o out:=h.at
abbrev bytesV (l:List UInt8):Array Value:=(l.map λc=>Value.int .u8 (c.toNat:Int)).toArray
theorem Bts.lit {L:List (Option Nat)} {w:World} (hin:In w L) (l:List UInt8) (V:Array Value) (hV:V=bytesV l) (ty:TypeId) (fr:Nat × Nat):Bts L (w.alloc (.cells V ty fr)) (some ⟨w.heap.size,0,none⟩) l:=by
 subst hV;refine ⟨⟨by simp,λh0=>⟨w.heap.size,0,rfl,by simp,λk hk=>?_⟩⟩,λad e=>?_⟩
 ·rw [DB,cell_of_row _ _ k _ ty fr (heap_alloc_new _ _)];simp [bytesV,hk]
 ·obtain rfl:ad=⟨w.heap.size,0,none⟩:=by simpa using e.symm
  exact ⟨λhm=>by have:w.heap.size<w.heap.size:=hin _ hm;omega,by simp⟩
theorem Bts.alloc {L:List (Option Nat)} {w:World} {a:Option Addr} {l:List UInt8} (h:Bts L w a l) (o:Obj):Bts L (w.alloc o) a l:=h.step (EH ((Ao _ _).alloc (D5 _) _))
theorem in_alloc {L:List (Option Nat)} {w:World} (h:In w L) (o:Obj):In (w.alloc o) L:=h.mono (by simp)
end Go.Proofs.YtnabkcglnbdfeaaGreatDoor.Pg
namespace Go.Proofs.YtnabkcglnbdfeaaGreatDoor.Each
open Go.RowKit Base Mem Par
structure Thing (A A':World->List (Option Nat)->Prop):Prop where
 keeps:∀{w w':World} {L M:List (Option Nat)},A w L->Keeps M w w'->(∀k,some k∈L->some k∉M)->A w' L
 keeps':∀{w w':World} {L M:List (Option Nat)},A' w L->Keeps M w w'->(∀k,some k∈L->some k∉M)->A' w' L
 inn:∀{w:World} {L:List (Option Nat)},A w L->In w L
 inn':∀{w:World} {L:List (Option Nat)},A' w L->In w L
 uniq:∀{w:World} {L L':List (Option Nat)},(A w L∨A' w L)->(A w L'∨A' w L')->L=L'
theorem Thing.now {A A':World->List (Option Nat)->Prop} (h:Thing A A') {w w':World} {L M:List (Option Nat)} (hA:A w L∨A' w L) (hk:Keeps M w w') (hd:∀k,some k∈L->some k∉M):A w' L∨A' w' L:=
 hA.imp (λh1=>h.keeps h1 hk hd) (λh1=>h.keeps' h1 hk hd)
theorem Thing.in {A A':World->List (Option Nat)->Prop} (h:Thing A A') {w:World} {L:List (Option Nat)} (hA:A w L∨A' w L):In w L:=hA.elim h.inn h.inn'
def Dis (L M:List (Option Nat)):Prop:=∀k,some k∈L->some k∉M
theorem Dis.symm {L M:List (Option Nat)} (h:Dis L M):Dis M L:=λk hM hL=>h k hL hM
theorem Dis.of {W:World} {L M M':List (Option Nat)} (h:Dis L M) (hin:In W L) (ho:Of W M M'):Dis L M':=λk hL hM=>by
 rcases ho k hM with e | e
 ·exact h k hL e
 ·have:=hin k hL;omega
section
variable {P:Program} {l:List Oper} {Q:Exit->Act->World->Prop} {fs:List Fact} {a0:Act} {ds:List Nat}
variable (A A' C C':World->List (Option Nat)->Prop) (L1 L2:List (Option Nat)) (i1 i2:Nat) (W:World)
structure Two (b:Array Bool) (w:World):Prop where
 keeps:Keeps (L1++L2) W w
 both:∃M1 M2,(A' w M1/\b.getD i1 false=true∨A w M1/\M1=L1)/\(C' w M2/\b.getD i2 false=true∨C w M2/\M2=L2)/\Dis M1 M2/\Of W L1 M1/\Of W L2 M2
def RTwo (k:Nat) (w w':World):Prop:=
 if k=i1 then w'=w∨∃M1,A' w' M1/\Step L1 M1 w w' else if k=i2 then w'=w∨∃M2,C' w' M2/\Step L2 M2 w w' else Below w.heap.size w w'
variable {A A' C C' L1 L2 i1 i2 W}
theorem Two.step (hA:Thing A A') (hC:Thing C C') (h12:i1≠i2) {b:Array Bool} {k:Nat} {w w':World} (hks:k<b.size) (hbk:b.getD k false=false) (h:Two A A' C C' L1 L2 i1 i2 W b w) (hR:RTwo A' C' L1 L2 i1 i2 k w w'):Two A A' C C' L1 L2 i1 i2 W (b.setIfInBounds k true) w':=by
 obtain ⟨hk,M1,M2,h1,h2,h3,h4,h5⟩:=h
 have hin1:In w M1:=h1.elim (λh=>hA.inn' h.1) (λh=>hA.inn h.1)
 have hin2:In w M2:=h2.elim (λh=>hC.inn' h.1) (λh=>hC.inn h.1);have g1:(b.setIfInBounds k true).getD i1 false=if i1=k then true else b.getD i1 false:=get_set b k i1 hks
 have g2:(b.setIfInBounds k true).getD i2 false=if i2=k then true else b.getD i2 false:=get_set b k i2 hks
 have up1:b.getD i1 false=true->(b.setIfInBounds k true).getD i1 false=true:=λe=>by rw [g1,e];split<;>rfl
 have up2:b.getD i2 false=true->(b.setIfInBounds k true).getD i2 false=true:=λe=>by rw [g2,e];split<;>rfl
 unfold RTwo at hR;by_cases e1:k=i1
 ·rw [if_pos e1] at hR;subst e1;have h1':A w M1/\M1=L1:=by
   rcases h1 with ⟨-,h⟩ | h
   ·rw [hbk] at h;cases h
   ·exact h
  rcases hR with rfl | ⟨M1',hA',hs⟩
  ·exact ⟨hk,M1,M2,.inr h1',h2.imp (λh=>⟨h.1,up2 h.2⟩) id,h3,h4,h5⟩
  ·have e:=h1'.2;subst e;have hd:Dis M2 M1':=h3.symm.of hin2 hs.of
   exact ⟨hk.trans (hs.keeps.mono λk hk=>List.mem_append_left _ hk) DT,M1',M2,.inl ⟨hA',by rw [g1,if_pos rfl]⟩,
    h2.imp (λh=>⟨hC.keeps' h.1 hs.keeps h3.symm,up2 h.2⟩) (λh=>⟨hC.keeps h.1 hs.keeps h3.symm,h.2⟩),hd.symm,h4.trans hs.of hk.size,h5⟩
 ·rw [if_neg e1] at hR;by_cases e2:k=i2
  ·rw [if_pos e2] at hR;subst e2;have h2':C w M2/\M2=L2:=by
    rcases h2 with ⟨-,h⟩ | h
    ·rw [hbk] at h;cases h
    ·exact h
   rcases hR with rfl | ⟨M2',hC',hs⟩
   ·exact ⟨hk,M1,M2,h1.imp (λh=>⟨h.1,up1 h.2⟩) id,.inr h2',h3,h4,h5⟩
   ·have e:=h2'.2;subst e;have hd:Dis M1 M2':=h3.of hin1 hs.of
    exact ⟨hk.trans (hs.keeps.mono λk hk=>List.mem_append_right _ hk) DT,M1,M2',h1.imp (λh=>⟨hA.keeps' h.1 hs.keeps h3,up1 h.2⟩) (λh=>⟨hA.keeps h.1 hs.keeps h3,h.2⟩),
     .inl ⟨hC',by rw [g2,if_pos rfl]⟩,hd,h4,h5.trans hs.of hk.size⟩
  ·rw [if_neg e2] at hR;have hkb:Keeps [] w w':=BD hR
   exact ⟨hk.trans hkb (λk hk=>by cases hk),M1,M2,h1.imp (λh=>⟨hA.keeps' h.1 hkb (by simp),up1 h.2⟩) (λh=>⟨hA.keeps h.1 hkb (by simp),h.2⟩),
    h2.imp (λh=>⟨hC.keeps' h.1 hkb (by simp),up2 h.2⟩) (λh=>⟨hC.keeps h.1 hkb (by simp),h.2⟩),h3,h4,h5⟩
theorem fine_two {k:Nat} {o:Oper} {f:Fact} (h1:k≠i1) (h2:k≠i2) (hg:o.guard=none) (h:∀(ev:Operand->Value) (w:World),Reads a0 ds ev->Keeps (L1++L2) W w->has l fs ev w o.after.toList->Goes P o ev f w) :
 FineR P l fs (RTwo A' C' L1 L2 i1 i2) (Two A A' C C' L1 L2 i1 i2 W) a0 ds k o f:=
 λev _ w hr hK _ hh=>⟨λ_=>(h ev w hr hK.keeps hh).gen λw' hb=>by unfold RTwo;rw [if_neg h1,if_neg h2];exact hb,λhw=>by simp [Ex,hg] at hw⟩
theorem fine_first {o:Oper} {f:Fact} (hg:o.guard=none) (h:∀(ev:Operand->Value) (w:World) (M2:List (Option Nat)),Reads a0 ds ev->Keeps (L1++L2) W w->A w L1->(C w M2∨C' w M2)->Dis L1 M2->has l fs ev w o.after.toList->
 GoesR P o ev f (λw w'=>∃M1,A' w' M1/\Step L1 M1 w w') w) :
 FineR P l fs (RTwo A' C' L1 L2 i1 i2) (Two A A' C C' L1 L2 i1 i2 W) a0 ds i1 o f:=by
 intro ev b w hr hK hb hh;refine ⟨λ_=>?_,λhw=>by simp [Ex,hg] at hw⟩;obtain ⟨hk,M1,M2,h1,h2,h3,h4,h5⟩:=hK;have h1':A w M1/\M1=L1:=by
  rcases h1 with ⟨-,h⟩ | h
  ·rw [hb] at h;cases h
  ·exact h
 have e:=h1'.2;subst e;have hR:RTwo A' C' M1 L2 i1 i2 i1=λw w'=>w'=w∨∃M1',A' w' M1'/\Step M1 M1' w w':=by funext w w';unfold RTwo;rw [if_pos rfl]
 rw [hR];cases h ev w M2 hr hk h1'.1 (h2.elim (λh=>.inr h.1) (λh=>.inl h.1)) h3 hh with
 | value v w' hrun hb hf=>exact .value v w' hrun (.inr hb) hf
 | enter g args hrun hc=>
   exact XXmLr
theorem fine_second {o:Oper} {f:Fact} (h12:i1≠i2) (hg:o.guard=none) (h:∀(ev:Operand->Value) (w:World) (M1:List (Option Nat)),Reads a0 ds ev->Keeps (L1++L2) W w->C w L2->(A w M1∨A' w M1)->Dis L2 M1->has l fs ev w o.after.toList->
 GoesR P o ev f (λw w'=>∃M2,C' w' M2/\Step L2 M2 w w') w) :
 FineR P l fs (RTwo A' C' L1 L2 i1 i2) (Two A A' C C' L1 L2 i1 i2 W) a0 ds i2 o f:=by
 intro ev b w hr hK hb hh;refine ⟨λ_=>?_,λhw=>by simp [Ex,hg] at hw⟩;obtain ⟨hk,M1,M2,h1,h2,h3,h4,h5⟩:=hK;have h2':C w M2/\M2=L2:=by
  rcases h2 with ⟨-,h⟩ | h
  ·rw [hb] at h;cases h
  ·exact h
 have e:=h2'.2;subst e;have hR:RTwo A' C' L1 M2 i1 i2 i2=λw w'=>w'=w∨∃M2',C' w' M2'/\Step M2 M2' w w':=by funext w w';unfold RTwo;rw [if_neg h12.symm,if_pos rfl]
 rw [hR];cases h ev w M1 hr hk h2'.1 (h1.elim (λh=>.inr h.1) (λh=>.inl h.1)) h3.symm hh with
 | value v w' hrun hb hf=>exact .value v w' hrun (.inr hb) hf
 | enter g args hrun hc=>
   exact XXmLr
def waits (l:List Oper) (k j:Nat):Bool:=match l[k]? with
 | some o=>o.after.toList.any λe=>Eu .any e&&e.on==j
 | none=>false
def LastsTwo (l:List Oper) (A' C':World->List (Option Nat)->Prop) (L1 L2:List (Option Nat)) (i1 i2 k:Nat) (f:Fact):Prop:=
 (∀v w w',Below w.heap.size w w'->f v w->f v w')/\(k≠i1->waits l k i1=false->∀v w w' M1,A' w' M1->Step L1 M1 w w'->f v w->f v w')/\(k≠i2->waits l k i2=false->∀v w w' M2,C' w' M2->Step L2 M2 w w'->f v w->f v w')
theorem LastsTwo.pure (k:Nat) (p:Value->Prop):LastsTwo l A' C' L1 L2 i1 i2 k (λv _=>p v):=⟨λ_ _ _ _ h=>h,λ_ _ _ _ _ _ _ _ h=>h,λ_ _ _ _ _ _ _ _ h=>h⟩
theorem LastsTwo.keeps {k:Nat} {f:Fact} (h:∀v w w' M,(∀k,some k∈M->some k∈L1++L2)->Keeps M w w'->f v w->f v w'):LastsTwo l A' C' L1 L2 i1 i2 k f:=
 ⟨λv w w' hb hf=>h v w w' [] (by intro k hk;cases hk) (BD hb) hf,λ_ _ v w w' _ _ hs hf=>h v w w' L1 (λ_ hk=>List.mem_append_left _ hk) hs.keeps hf,λ_ _ v w w' _ _ hs hf=>h v w w' L2 (λ_ hk=>List.mem_append_right _ hk) hs.keeps hf⟩
def EveryTwo (l:List Oper) (A' C':World->List (Option Nat)->Prop) (L1 L2:List (Option Nat)) (i1 i2:Nat):Nat->List Fact->Prop
 | _,[]=>True
 | k,f::fs=>LastsTwo l A' C' L1 L2 i1 i2 k f/\EveryTwo l A' C' L1 L2 i1 i2 (k+1) fs
theorem everyTwo_at:∀{fs:List Fact} {n:Nat},EveryTwo l A' C' L1 L2 i1 i2 n fs->∀(k:Nat) (f:Fact),fs[k]?=some f->LastsTwo l A' C' L1 L2 i1 i2 (n+k) f
 | [],_,_,k,f,hf=>by simp at hf
 | g::fs,n,h,0,f,hf=>by simp at hf;subst hf;exact h.1
 | g::fs,n,h,k+1,f,hf=>by
   have:=everyTwo_at h.2 k f (by simpa using hf);rw [show n+(k+1)=n+1+k by omega];exact this
def AllTwo (P:Program) (l:List Oper) (fs:List Fact) (R:Nat->World->World->Prop) (K:Array Bool->World->Prop) (a0:Act) (ds:List Nat):Nat->List Oper->List Fact->Prop
 | k,o::os,f::gs=>FineR P l fs R K a0 ds k o f/\AllTwo P l fs R K a0 ds (k+1) os gs
 | _,_,_=>True
theorem allTwo_at {R:Nat->World->World->Prop} {K:Array Bool->World->Prop}:∀{os:List Oper} {gs:List Fact} {n:Nat},AllTwo P l fs R K a0 ds n os gs->∀(k:Nat) (o:Oper) (f:Fact),os[k]?=some o->gs[k]?=some f->FineR P l fs R K a0 ds (n+k) o f
 | [],_,_,_,k,o,f,ho,hf=>by simp at ho
 | _ :: _,[],_,_,k,o,f,ho,hf=>by simp at hf
 | _ :: _,_ :: _,_,h,0,o,f,ho,hf=>by simp at ho hf;subst ho hf;exact h.1
 | _ :: _,_ :: _,n,h,k+1,o,f,ho,hf=>by
   have:=allTwo_at h.2 k o f (by simpa using ho) (by simpa using hf);rw [show n+(k+1)=n+1+k by omega];exact this
theorem region_two (m:Nat) (ds:List Nat) (fs:List Fact) (i1 i2:Nat) {id:Nat} {a0:Act} {w:World} (hA:Thing A A') (hC:Thing C C') (hA0:A w L1) (hC0:C w L2) (hd:Dis L1 L2)
 (hmo:P.follows .mixedOrders=true) (hg:good l m ds [] (l.length-m)=true) (hns:Region.noSelect l.toArray=true)
 (hp:Tree.fits l.toArray .done (l.length-m) (fill l.length m [])=true) (hQ:∀c a d v w,Q (.panic c) (Ab a d v) w->Q (.panic c) a w)
 (hsz:ds.all (λd=>decide (d<a0.tmps.size))=true) (hlen:fs.length=m) (hi:(decide (i1<m)&&(decide (i2<m)&&decide (i1≠i2)))=true) (hlast:EveryTwo l A' C' L1 L2 i1 i2 0 fs)
 (hfine:AllTwo P l fs (RTwo A' C' L1 L2 i1 i2) (Two A A' C C' L1 L2 i1 i2 (w.drewN 1)) a0 ds 0 l fs)
 (hrest:∀(g:Nat->Value) (w':World) (M1 M2:List (Option Nat)),(A w' M1∨A' w' M1)->(C w' M2∨C' w' M2)->Dis M1 M2->Of w L1 M1->Of w L2 M2->Keeps (L1++L2) w w'->facts g w' ds fs->Q .normal (putg g ds a0) w'):(Code.region id l.toArray true).wp P Q a0 w:=by
 simp only [As,decide_eq_true_eq] at hi;obtain ⟨hi1,hi2,h12⟩:=hi
 have hbd:Keeps [] w (w.drewN 1):=BD (Ak (Ao w.heap.size w) 1);have hml:m<=l.length:=by simp only [good,As,decide_eq_true_eq] at hg;exact hg.1
 refine region_gen (K:=λb w'=>b.size=l.length/\Two A A' C C' L1 L2 i1 i2 (w.drewN 1) b w') (R:=RTwo A' C' L1 L2 i1 i2) m ds fs [] (l.length-m) .done hmo hg hns hp hQ hsz hlen
  ⟨by simp,Keeps.refl,L1,L2,.inr ⟨hA.keeps hA0 hbd (by simp),rfl⟩,.inr ⟨hC.keeps hC0 hbd (by simp),rfl⟩,hd,DT,DT⟩
  (λb k w1 w2 hk hbk hK hR=>⟨by simp [hK.1],hK.2.step hA hC h12 (by rw [hK.1];omega) hbk hR⟩) (λk w=>?_) (λk j f hf hjk hwt v w1 w2 hR hv=>?_) trivial (λk o f ho hf _ ev b w1 hr hK hb hh=>?_) (λg w' hK hf=>?_)
 ·unfold RTwo;split
  ·exact .inl rfl
  ·split
   ·exact .inl rfl
   ·exact Ao _ _
 ·have:=everyTwo_at hlast k f hf;rw [DB] at this;obtain ⟨l1,l2,l3⟩:=this;have hw0:∀i,j=i->waits l k i=false:=by
   intro i hi;unfold waits;cases ho:l[k]? with
   | none=>rfl
   | some o=>
     rw [Bool.eq_false_iff];intro hh;obtain ⟨e,he,h2⟩:=List.any_eq_true.1 hh;rw [As,beq_iff_eq] at h2
     exact hwt o ho e he h2.1 (h2.2.trans hi.symm)
  unfold RTwo at hR;split at hR
  ·rename_i e;rcases hR with rfl | ⟨M1,h1,h2⟩
   ·exact hv
   ·exact l2 (by omega) (hw0 _ e) v w1 w2 M1 h1 h2 hv
  ·split at hR
   ·rename_i e;rcases hR with rfl | ⟨M2,h1,h2⟩
    ·exact hv
    ·exact l3 (by omega) (hw0 _ e) v w1 w2 M2 h1 h2 hv
   ·exact l1 v w1 w2 hR hv
 ·have:=allTwo_at hfine k o f ho hf;rw [DB] at this;exact this ev b w1 hr hK.2 hb hh
 ·obtain ⟨-,hk,M1,M2,h1,h2,h3,h4,h5⟩:=hK;rw [Fk];have hof:∀{L M:List (Option Nat)},Of (w.drewN 1) L M->Of w L M:=λh k hk=>h k hk
  exact Fj (hrest g w' M1 M2 (h1.elim (λh=>.inr h.1) (λh=>.inl h.1)) (h2.elim (λh=>.inr h.1) (λh=>.inl h.1)) h3 (hof h4) (hof h5) (Keeps.trans (hbd.mono λk hk=>by cases hk) hk DT) hf)
end
end Go.Proofs.YtnabkcglnbdfeaaGreatDoor.Each
namespace Go.Proofs.YtnabkcglnbdfeaaGreatDoor.Pg
open Go.RowKit Base Txt Mem Par Each
section
variable {w w':World} {B:Zone} {g q:Nat} {v f bd t o:Value} {p:Nat} {b:Bd} {L M:List (Option Nat)} {x:Q} {rd:Ln.M} {fs ts:List Fld} {body:List UInt8}
theorem outs_nil (h:Outs L B w o []):w.ownsRow B 58 7 o 0 []:=by obtain ⟨ps,h1,h2,h3⟩:=h;have hps:ps= []:=List.map_eq_nil_iff.1 h1;subst hps;exact h3
theorem outs_of {L':List (Option Nat)} {B':Zone} (h:w.ownsRow B'.b 58 7 o 0 []):Outs L' B' w o []:=⟨[],rfl,(by intro x hx;cases hx),h⟩
theorem Own.keeps (h:Own w B g q v f bd t o rd fs body ts []) (hk:Keeps M w w') (hd:Dis (blks g q v f bd t o) M):Own w' B g q v f bd t o rd fs body ts []:=
 ⟨⟨hk.row h.R.row (hd q (by simp)),hk.own h.R.own λk e=>hd k (by simp [←e]),h.R.ge,h.R.ne⟩,hk.own h.F λk e=>hd k (by simp [←e]),hk.own h.D λk e=>hd k (by simp [←e]),hk.own h.TR λk e=>hd k (by simp [←e]),
   outs_of (hk.own (outs_nil h.O) λk e=>hd k (by simp [←e])),h.lone,h.ge,D8 h.lt hk.size,h.zone.of hk.size DT⟩
theorem Own.rezone (h:Own w B g q v f bd t o rd fs body ts []) {Z:List (Option Nat)} (hz:Clear w Z (blks g q v f bd t o)):Own w ⟨B.b,Z⟩ g q v f bd t o rd fs body ts []:=
 ⟨h.R,h.F,h.D,h.TR,outs_of (outs_nil (B:=B) h.O),h.lone,h.ge,h.lt,hz⟩
theorem At.keeps (h:At w B g p b L x) (ho:x.out= []) (hk:Keeps M w w') (hd:Dis L M):At w' B g p b L x:=by
 cases x with
 | live s=>
   obtain ⟨q,v,f,bd,t,o,rfl,h1,h2⟩:=h;have ho:s.out= []:=ho;rw [ho] at h2;refine ⟨q,v,f,bd,t,o,rfl,hk.row h1 (hd g (by simp)),?_⟩;rw [ho];exact h2.keeps hk hd
 | dead e out=>
   obtain ⟨o,rfl,h⟩:=h;have ho:out= []:=ho;subst ho;exact ⟨o,rfl,hk.row h.row (hd g (by simp)),outs_of (hk.own (outs_nil h.O) λk e=>hd k (by simp [←e])),h.ne,h.ge,D8 h.lt hk.size,h.bad,h.zone.of hk.size DT⟩
theorem At.rezone (h:At w B g p b L x) (ho:x.out= []) {Z:List (Option Nat)} (hz:Clear w Z L):At w ⟨B.b,Z⟩ g p b L x:=by
 cases x with
 | live s=>
   obtain ⟨q,v,f,bd,t,o,rfl,h1,h2⟩:=h;have ho:s.out= []:=ho;rw [ho] at h2;refine ⟨q,v,f,bd,t,o,rfl,h1,?_⟩;rw [ho];exact h2.rezone hz
 | dead e out=>
   obtain ⟨o,rfl,h⟩:=h;have ho:out= []:=ho;subst ho;exact ⟨o,rfl,h.row,outs_of (outs_nil (B:=B) h.O),h.ne,h.ge,h.lt,h.bad,hz⟩
theorem cells_inj {a c:List Value} {ty:TypeId} {fr:Nat × Nat} (h1:w.heap[g]?=some (.cells a.toArray ty fr)) (h2:w.heap[g]?=some (.cells c.toArray ty fr)):a=c:=by have h3:=h1.symm.trans h2;simp only [DX.injEq,Obj.cells.injEq,and_true] at h3;simpa using h3
theorem At.uniq {B':Zone} {p':Nat} {b':Bd} {x':Q} {L':List (Option Nat)} (h:At w B g p b L x) (h':At w B' g p' b' L' x'):L=L':=by
 cases x with
 | live s=>
   obtain ⟨q,v,f,bd,t,o,rfl,h1,h2⟩:=h;cases x' with
   | live s'=>
     obtain ⟨q',v',f',bd',t',o',rfl,h1',h2'⟩:=h';have e:=cells_inj h1 h1';have e2:f=f':=(List.cons.inj (List.cons.inj (List.cons.inj e).2).2).1
     have e9:t=t':=DX.inj (congrArg (λl:List Value=>l[9]?) e)
     have e11:bd=bd':=DX.inj (congrArg (λl:List Value=>l[11]?) e)
     have e25:ptr q=ptr q':=DX.inj (congrArg (λl:List Value=>l[25]?) e)
     have e26:o=o':=DX.inj (congrArg (λl:List Value=>l[26]?) e);have eq:q=q':=by simpa using e25
     subst eq e2 e9 e11 e26;have hr:=h2.R.row.symm.trans h2'.R.row;have ev:v=v':=by simp only [DX.injEq,Obj.cells.injEq,and_true] at hr;have h9:=congrArg (λa:Array Value=>a.toList) hr;simp at h9;exact h9.2.2.2.1
     rw [ev]
   | dead e' out'=>
     obtain ⟨o',rfl,h'⟩:=h';have e:=cells_inj h1 h'.row
     have e25:ptr q=ZV none:=DX.inj (congrArg (λl:List Value=>l[25]?) e);cases e25
 | dead e out=>
   obtain ⟨o,rfl,h⟩:=h;cases x' with
   | live s'=>
     obtain ⟨q',v',f',bd',t',o',rfl,h1',h2'⟩:=h';have e:=cells_inj h.row h1'
     have e25:Value.pointer none=ptr q':=DX.inj (congrArg (λl:List Value=>l[25]?) e);cases e25
   | dead e' out'=>
     obtain ⟨o',rfl,h'⟩:=h';have e:=cells_inj h.row h'.row
     have e26:o=o':=DX.inj (congrArg (λl:List Value=>l[26]?) e);rw [e26]
theorem obj_at {B:Zone} {g p p':Nat} {b b':Bd} {x x':Q} (hx:x.out= []) (hx':x'.out= []):Thing (λw L=>∃Z,At w ⟨B.b,Z⟩ g p b L x) (λw L=>∃Z,At w ⟨B.b,Z⟩ g p' b' L x') where
 keeps:=λ⟨Z,h⟩ hk hd=>⟨Z,h.keeps hx hk hd⟩
 keeps':=λ⟨Z,h⟩ hk hd=>⟨Z,h.keeps hx' hk hd⟩
 inn:=λ⟨_,h⟩=>h.in
 inn':=λ⟨_,h⟩=>h.in
 uniq:=λh h'=>by rcases h with ⟨_,h⟩ | ⟨_,h⟩<;>rcases h' with ⟨_,h'⟩ | ⟨_,h'⟩<;>exact h.uniq h'
theorem Told.keeps {out:List Eo} (h:Told L B w o out) (hk:Keeps M w w') (hM:∀k,some k∈M->some k∈B.z):Told L B w' o out:=by obtain ⟨ps,h1,h2,h3⟩:=h.outs;refine ⟨⟨ps,h1,λx hx=>⟨(h2 x hx).1,?_⟩,hk.own h3 λk e hm=>h.off k e (hM k hm)⟩,λk e=>⟨(h.far k e).1,D8 (h.far k e).2 hk.size⟩,h.off⟩;have hf:=(h2 x hx).2;have hf2:Far M B.z w (ZU x.1) x.2:=⟨hf.reads,λk hb=>⟨λhm=>hf.off k hb (hM k hm),(hf.far k hb).2⟩,hf.off⟩;have:=hf2.keeps hk;exact ⟨this.reads,λk hb=>⟨(hf.far k hb).1,(this.far k hb).2⟩,hf.off⟩
theorem Told.rezone {out:List Eo} (h:Told L B w o out) {Z:List (Option Nat)} (hZ:∀k,some k∈Z->some k∈B.z∨w.heap.size<=k):Told L ⟨B.b,Z⟩ w o out:=by
 obtain ⟨ps,h1,h2,h3⟩:=h.outs;refine ⟨⟨ps,h1,λx hx=>⟨(h2 x hx).1,(h2 x hx).2.reads,(h2 x hx).2.far,λk hb hz=>?_⟩,h3⟩,h.far,λk e hz=>?_⟩
 ·rcases hZ k hz with e | e
  ·exact (h2 x hx).2.off k hb e
  ·have:=((h2 x hx).2.far k hb).2;omega
 ·rcases hZ k hz with e1 | e1
  ·exact h.off k e e1
  ·have:=(h.far k e).2;omega
end
end Go.Proofs.YtnabkcglnbdfeaaGreatDoor.Pg
