import Derived.Test.YtdfabddnpgjepaaGreatDoorCze
set_option linter.unusedSimpArgs false
set_option maxHeartbeats 8000000
set_option maxRecDepth 100000
open Array renaming getD_eq_getD_getElem?→Am
open Go.Act renaming put→Ab
open Go.IntKind renaming i64→Z7,u8→Z6,u32→Z5
open Go.Lib renaming hid→Dl
open Go.Proofs.Tryz renaming ntmps190→L0,prog→Mm
open Go.Value renaming int→ZE,string→ZD,slice→ZC,bool→ZB,pointer→ZA,agg→Z9,tuple→Z8
open List renaming getElem?_cons_succ→Ep,getElem?_cons_zero→Er,getElem?_toArray→E6,setIfInBounds_toArray→F4,set_cons_succ→F6,set_cons_zero→F7
open Nat renaming eq_zero_or_pos→Gg,le_of_lt→Gh,le_trans→Gl
open Option renaming getD_some→GW
namespace Go.Proofs.YtdfabddnpgjepaaGreatDoor
open Go.RowKit
open Base renaming some_undef→A8
open Chk renaming sizeV→Bz
open Each renaming fine→BI,putg→BM,region_all→BO,region→BN
open Each.Goes renaming enter→BA
open Each.Lasts renaming eq→BF
open Ln renaming own_slice→FV
open Par.Step renaming of_below→II,set→IL
open Qk renaming has→Hs
open Tree renaming change→Jr,done→Js,grow→Ju,put1→Jw,quiet→Jx
namespace Par
open Base Txt Mem
section
attribute [local go_sem] A8
variable {w:World} {B:Zone} {g q:Nat} {v f bd t o:Value} {p:Nat} {b:Bd} {s:S}
theorem XXoMs {P:Prop} (h:P:=by refine BI rfl (λev w1 hR hb hh=>?_);have e1:=hR.old 1 rfl;have e0:=hR.old 0 rfl;simp only [Am,E6,Ep,Er,GW] at e1 e0;have q0:=(HQ.out.below hb).c 0 _ rfl;have q1:=(HQ.out.below hb).c 1 _ rfl;have q2:=(HQ.out.below hb).c 2 _ rfl;have q3:=(HQ.out.below hb).c 3 _ rfl;have q4:=(HQ.out.below hb).c 4 _ rfl;have q5:=(HQ.out.below hb).c 5 _ rfl;have q6:=(HQ.out.below hb).c 6 _ rfl;have q7:=(HQ.out.below hb).c 7 _ rfl;have q8:=(HQ.out.below hb).c 8 _ rfl;have q9:=(HQ.out.below hb).c 9 _ rfl;have q10:=(HQ.out.below hb).c 10 _ rfl;exact Each.std):P:=h
theorem XX71n {P:Prop} (h:P:=by
 refine BI rfl (λev w1 hR hb hh=>?_);have e7:ev (.tmp 7)= _:=hh.at 0;have e11:ev (.tmp 11)= _:=hh.at 1;have e15:ev (.tmp 15)= _:=hh.at 2;clear hh;have ef:=hR.func;refine BA 214 #[ZD x,ZE Z5 (p:Int),Z9 #[ZE Z7 b.x0,ZE Z7 b.x1,ZE Z7 b.x2,ZE Z7 b.x3,ZE Z7 b.x4,ZE Z7 b.x5,ZE Z7 b.x6,ZE Z7 b.x7,ZB b.ch,ZB b.od]] ZU ((HZ.out w1).mono ?_);rintro r w2 ⟨rfl,hb2⟩
 exact ⟨_,rfl,hb2,rfl⟩):P:=h
theorem XX7Qy {P:Prop} (h:P:=by
 refine ⟨?_,?_,?_,?_,?_,?_,?_,?_,?_,?_,?_,?_,?_,?_,?_,trivial⟩
 all_goals (refine BI rfl (λev w1 hR hb hh=>?_);have e4:=hR.old 4 rfl;have e0:=hR.old 0 rfl;simp only [Am,E6,Ep,Er,GW] at e4 e0;have q4:=(HQ.out.below hb).c 4 _ rfl;have q18:=(HQ.out.below hb).c 18 _ rfl;have d1:=HD.out;have d2:=HT.out;exact Each.std)):P:=h
theorem chunk_any (hp:p<4294967296) (h3:16<=b.x3/\b.x3<=1048576) (h4:0<=b.x4) (x:ByteArray) (hx:x.size<=5000) (h:PR w B g q v f bd t o p b s) (hbl:s.r.body.length<=2000000):Calls Mm 190 #[ptr g,ZD x] w λr w'=>
 r=.returned (Z8 #[])/\∃q1 v1 f1 bd1 t1,PR w' B g q1 v1 f1 bd1 t1 o p b (s.chunk p b x.data.toList)/\Step (blks g q v f bd t o) (blks g q1 v1 f1 bd1 t1 o) w w':=by
 have H:=Dl h
 have HQ:=Dl ((h.drew 1).bk);have hz:=λw=>Chk.rsize_any x p hp b.x0 b.x1 b.x2 b.x3 b.x4 b.x5 b.x6 b.x7 b.ch b.od ZZ h4 w ZZ;have HF:=chunk_facts (Hs p 27) (Hs p 28) b.x4 b.x3 x.data.toList;obtain ⟨⟨z1,z2⟩,hZ⟩:∃Z,Bz (Hs p 27) (Hs p 28) b.x4 b.x3 x.data.toList=Z:=⟨_,rfl⟩;rw [hZ] at HF;clear h hx;rcases HF with ⟨e2,h0,h1⟩ | e2 | e2
 ·have e2:z2=0:=e2;subst e2;obtain ⟨n,rfl⟩:∃n:Nat,z1=(n:Int):=⟨z1.toNat,by have:0<=z1:=h0;omega⟩;have h1:(n:Int)<=max b.x3 0:=h1;have HZ:=Dl (show∀w,Calls Mm 214 #[ZD x,ZE Z5 (p:Int),Z9 #[ZE Z7 b.x0,ZE Z7 b.x1,ZE Z7 b.x2,ZE Z7 b.x3,ZE Z7 b.x4,ZE Z7 b.x5,ZE Z7 b.x6,ZE Z7 b.x7,ZB b.ch,ZB b.od]] w λe w'=>e=.returned (Z8 #[ZE Z7 (n:Int),ZE Z7 0])/\Below w.heap.size w w' from λw=>by have:=hz w;rw [hZ] at this;exact this);clear hz;rcases Gg n with hn | hn
  ·subst hn;have e:s.chunk p b x.data.toList={s with st:=6,lines:=0,rd:=nl p b.x0}:=by unfold S.chunk;rw [hZ];rfl
   rw [e];have HZ:=Dl (show∀w,Calls Mm 214 #[ZD x,ZE Z5 (p:Int),Z9 #[ZE Z7 b.x0,ZE Z7 b.x1,ZE Z7 b.x2,ZE Z7 b.x3,ZE Z7 b.x4,ZE Z7 b.x5,ZE Z7 b.x6,ZE Z7 b.x7,ZB b.ch,ZB b.od]] w λe w'=>e=.returned (Z8 #[ZE Z7 0,ZE Z7 0])/\Below w.heap.size w w' from λw=>HZ.out w);clear e hZ h0 h1;go_enter Tryz.func190,L0;go_upto_region 0 with fail
   refine BO 15 [7,8,9,10,11,12,13,14,15,16,6,17,18,4,5] [eQ (ZD x),eP g 0,eP g 0,eP g 0,eQ (ZE Z5 (p:Int)),eP g 0,eP g 0,eP g 1,eQ (Z9 #[ZE Z7 b.x0,ZE Z7 b.x1,ZE Z7 b.x2,ZE Z7 b.x3,ZE Z7 b.x4,ZE Z7 b.x5,ZE Z7 b.x6,ZE Z7 b.x7,ZB b.ch,ZB b.od]),eQ (Z8 #[ZE Z7 0,ZE Z7 0]),eQ (Z8 #[ZE Z7 0,ZE Z7 0]),eQ (ZE Z7 0),eQ (ZE Z7 0),eQ (ZE Z7 0),eQ (ZE Z7 0)] ZY ZY ZY ZY (λ_ _ d _ _ h=>by cases d<;>exact h) ZV ZV XXa25 ?_ ?_
   ·refine ⟨?_,?_,?_,?_,?_,?_,?_,?_,?_,?_,?_,?_,?_,?_,?_,trivial⟩
    iterate 9·exact XXoMs
    ·exact XX71n
    iterate 5·exact XXoMs
   intro g1 w2 hb hf;have z4:g1 4= _:=hf.at 13;have z5:g1 5= _:=hf.at 14;clear hf;simp only [BM,Ab,F4,F7,F6];rw [z4];rw [z5];have H1:=Dl (H.out.below hb);have HB:=Dl hb;clear HQ hb
   have H2:=Dl ((H1.out.put 11 (ZE Z7 6) {s with st:=6} rfl rfl rfl rfl rfl rfl).put 20 (ZE Z7 0) {s with st:=6,lines:=0} rfl rfl rfl rfl rfl rfl);have HS2:=Dl ((II HB.out (L:=blks g q v f bd t o)).trans ((IL g 11 (ZE Z7 6) ZW).trans (IL g 20 (ZE Z7 0) ZW)));have c11:=H1.out.cs.c11;have c20:=H1.out.cs.c20;have z11:=H1.out.marks 11;have z20:=H1.out.marks 20;go_upto_region 6 with fail
   generalize (w2.setCell ⟨g,11,none⟩ (ZE Z7 6)).setCell ⟨g,20,none⟩ (ZE Z7 0)=W1 at *;clear c11 c20 z11 z20 H1 HB;obtain ⟨S1,hS1⟩:∃S1:S,{s with st:=6,lines:=0}=S1:=⟨_,rfl⟩;have HS1:=Dl hS1;rw [hS1] at H2;clear hS1
   have HQ:=Dl ((H2.out.drew 1).bk);have HBW:=Dl (show B<=(W1.drewN 1).heap.size from Gl H2.out.own.ge (Gh (H2.out.drew 1).own.lt));refine BN 11 [41,42,43,44,45,46,47,48,49,50,51] [eP g 0,eP g 0,eP g 0,eP g 0,eQ (ZE Z5 (p:Int)),eP g 0,eP g 0,eP g 1,eP g 1,eQ (ZE Z7 b.x0),λv w=>∃q1,v=ptr q1/\W1.heap.size<=q1/\Ln.Rr w B q1 nil p (nl p (b.x0))] (.quiet 11 (.quiet 12 (.act 13 .done))) ZY ZY ZY ZY (λ_ _ d _ _ h=>by cases d<;>exact h) ZV ZV ⟨BF _,BF _,BF _,BF _,BF _,BF _,BF _,BF _,BF _,BF _,((λ_ _ _ hb h=>by obtain ⟨q1,e1,h1,h2⟩:=h;exact ⟨q1,e1,h1,rr_below h2 hb⟩)),trivial⟩ ?_ ?_
   ·refine ⟨?_,?_,?_,?_,?_,?_,?_,?_,?_,?_,?_,trivial⟩
    iterate 10·exact XXSdZ
    ·refine BI rfl (λev w1 hR hb hh=>?_);have e45:ev (.tmp 45)= _:=hh.at 0;have e50:ev (.tmp 50)= _:=hh.at 1;exact XXJwx
   intro g1 w2 hb hf;have z41:g1 41= _:=hf.at 0;have z51:=hf.at 10;clear hf;obtain ⟨q1,e1,hq1,hr1⟩:=z51;simp only [BM,Ab,F4,F7,F6];rw [e1,z41];simp only [Ju,Jw,Er,Ep];refine Jx ZV (ptr g) (λ_ _=>by go_simp) ?_;simp only [Ab,F4,F7,F6];refine Jx ZV (ZA (some ⟨g,12,none⟩)) (λ_ _=>by go_simp) ?_;simp only [Ab,F4,F7,F6];have c12:=(H2.out.below hb).cs.c12;have z12:=(H2.out.below hb).marks 12;refine Jr ZV (λK hK=>?_);go_simp;refine hK _ _ trivial ?_;clear hK K;refine Js ?_;have HL:=H2.out.line hb hr1 hq1;have SL:=(Step.line (g:=g) (q:=q) (v:=v) (f:=f) (bd:=bd) (t:=t) (o:=o) hb hq1).trans (IL g 12 (ptr q1) ZW);clear HQ HBW hr1 hq1 c12 z12;rw [←HS1.out] at HL;go_wp2;go_end0;exact ⟨rfl,q1,_,_,_,_,HL,HS2.out.trans SL⟩
  ·obtain ⟨bb,cb,eb, -⟩:=FV H.out.own.D;subst eb;have HD:=Dl (Base.wrap_in (b.x3-(s.r.body.length:Int)) ZZ ZZ);have tz:¬(n:Int)=0:=ZZ;have tz':((n:Int)==0)=false:=ZM.2 tz
   by_cases hov:b.x3-(s.r.body.length:Int)<(n:Int)
   ·have e:s.chunk p b x.data.toList=s.fail 413:=by
     unfold S.chunk;exact XX7js
    rw [e];have HT:=Dl hov;clear e hZ h0 h1 hn;go_enter Tryz.func190,L0;go_upto_region 0 with fail
    refine BO 15 [7,8,9,10,11,12,13,14,15,16,6,17,18,4,5] [eQ (ZD x),eP g 0,eP g 0,eP g 0,eQ (ZE Z5 (p:Int)),eP g 0,eP g 0,eP g 1,eQ (Z9 #[ZE Z7 b.x0,ZE Z7 b.x1,ZE Z7 b.x2,ZE Z7 b.x3,ZE Z7 b.x4,ZE Z7 b.x5,ZE Z7 b.x6,ZE Z7 b.x7,ZB b.ch,ZB b.od]),eQ (Z8 #[ZE Z7 (n:Int),ZE Z7 0]),eQ (Z8 #[ZE Z7 (n:Int),ZE Z7 0]),eQ (ZE Z7 (n:Int)),eQ (ZE Z7 0),eQ (ZE Z7 (n:Int)),eQ (ZE Z7 0)] ZY ZY ZY ZY (λ_ _ d _ _ h=>by cases d<;>exact h) ZV ZV XXa25 ?_ ?_
    ·refine ⟨?_,?_,?_,?_,?_,?_,?_,?_,?_,?_,?_,?_,?_,?_,?_,trivial⟩
     iterate 9·exact XXoMs
     ·exact XX71n
     iterate 5·exact XXoMs
    intro g1 w2 hb hf;have z4:g1 4= _:=hf.at 13;have z5:g1 5= _:=hf.at 14;clear hf;simp only [BM,Ab,F4,F7,F6];rw [z4];rw [z5];have H1:=Dl (H.out.below hb);have HB:=Dl hb;clear HQ hb;go_upto_region 7 with fail
    have HQ:=Dl ((H1.out.drew 1).bk);refine BO 15 [55,56,57,58,59,60,61,62,63,64,65,66,67,68,54] [eQ (ZE Z7 ((n:Nat):Int)),eP g 0,eP g 0,eP g 1,eP g 4,eQ (ZE Z7 b.x3),eP g 0,eP g 0,eP g 13,eP g 18,eQ (.slice bb s.r.body.length cb),eQ (ZE Z7 ((s.r.body.length:Nat):Int)),eQ (ZE Z7 (b.x3-(s.r.body.length:Int))),eQ (ZB true),eQ (ZB true)] ZY ZY ZY ZY (λ_ _ d _ _ h=>by cases d<;>exact h) ZV ZV XXa25 ?_ ?_
    ·exact XX7Qy
    intro g1 w3 hb hf;have z54:g1 54= _:=hf.at 14;clear hf;simp only [BM,Ab,F4,F7,F6];rw [z54];have H2:=Dl (H1.out.below hb);have HS2:=Dl ((II HB.out (L:=blks g q v f (.slice bb s.r.body.length cb) t o)).trans (II hb));clear H1 HB hb HQ
    have HFA:=Dl (fail_at H2.out 413 413 rfl);go_wp2_with (go_at_call 115;with_reducible refine HFA.out.mono ?_;rintro r w4 ⟨rfl,hP,hS⟩);go_end0;exact ⟨rfl,_,_,_,_,_,hP,HS2.out.trans hS⟩
   ·have e:s.chunk p b x.data.toList={s with st:=4,left:=n}:=by
     unfold S.chunk;rw [hZ];show (if (0:Int)≠0 then _ else if (n:Int)=0 then _ else if b.x3-(s.r.body.length:Int)<(n:Int) then _ else ({s with st:=4,left:=(n:Int).toNat}:S))= _;rw [ZO ZX,ZO tz,ZO hov,Int.toNat_natCast]
    rw [e];have HT:=Dl hov;clear e hZ h0 h1 hn;go_enter Tryz.func190,L0;go_upto_region 0 with fail
    refine BO 15 [7,8,9,10,11,12,13,14,15,16,6,17,18,4,5] [eQ (ZD x),eP g 0,eP g 0,eP g 0,eQ (ZE Z5 (p:Int)),eP g 0,eP g 0,eP g 1,eQ (Z9 #[ZE Z7 b.x0,ZE Z7 b.x1,ZE Z7 b.x2,ZE Z7 b.x3,ZE Z7 b.x4,ZE Z7 b.x5,ZE Z7 b.x6,ZE Z7 b.x7,ZB b.ch,ZB b.od]),eQ (Z8 #[ZE Z7 (n:Int),ZE Z7 0]),eQ (Z8 #[ZE Z7 (n:Int),ZE Z7 0]),eQ (ZE Z7 (n:Int)),eQ (ZE Z7 0),eQ (ZE Z7 (n:Int)),eQ (ZE Z7 0)] ZY ZY ZY ZY (λ_ _ d _ _ h=>by cases d<;>exact h) ZV ZV XXa25 ?_ ?_
    ·refine ⟨?_,?_,?_,?_,?_,?_,?_,?_,?_,?_,?_,?_,?_,?_,?_,trivial⟩
     iterate 9·exact XXoMs
     ·exact XX71n
     iterate 5·exact XXoMs
    intro g1 w2 hb hf;have z4:g1 4= _:=hf.at 13;have z5:g1 5= _:=hf.at 14;clear hf;simp only [BM,Ab,F4,F7,F6];rw [z4];rw [z5];have H1:=Dl (H.out.below hb);have HB:=Dl hb;clear HQ hb;go_upto_region 7 with fail
    have HQ:=Dl ((H1.out.drew 1).bk);refine BO 15 [55,56,57,58,59,60,61,62,63,64,65,66,67,68,54] [eQ (ZE Z7 ((n:Nat):Int)),eP g 0,eP g 0,eP g 1,eP g 4,eQ (ZE Z7 b.x3),eP g 0,eP g 0,eP g 13,eP g 18,eQ (.slice bb s.r.body.length cb),eQ (ZE Z7 ((s.r.body.length:Nat):Int)),eQ (ZE Z7 (b.x3-(s.r.body.length:Int))),eQ (ZB false),eQ (ZB false)] ZY ZY ZY ZY (λ_ _ d _ _ h=>by cases d<;>exact h) ZV ZV XXa25 ?_ ?_
    ·exact XX7Qy
    intro g1 w3 hb hf;have z54:g1 54= _:=hf.at 14;clear hf;simp only [BM,Ab,F4,F7,F6];rw [z54];have H2:=Dl (H1.out.below hb);have HS2:=Dl ((II HB.out (L:=blks g q v f (.slice bb s.r.body.length cb) t o)).trans (II hb));clear H1 HB hb HQ
    have H3:=Dl ((H2.out.put 11 (ZE Z7 4) {s with st:=4} rfl rfl rfl rfl rfl rfl).put 22 (ZE Z7 (n:Int)) {s with st:=4,left:=n} rfl rfl rfl rfl rfl rfl);have HS3:=Dl (HS2.out.trans ((IL g 11 (ZE Z7 4) ZW).trans (IL g 22 (ZE Z7 (n:Int)) ZW)));have c11:=H2.out.cs.c11;have c22:=H2.out.cs.c22;have z11:=H2.out.marks 11;have z22:=H2.out.marks 22;go_wp2;go_end0;exact ⟨rfl,_,_,_,_,_,H3.out,HS3.out⟩
 ·have e2:z2=400:=e2;subst e2;have HZ:=Dl (show∀w,Calls Mm 214 #[ZD x,ZE Z5 (p:Int),Z9 #[ZE Z7 b.x0,ZE Z7 b.x1,ZE Z7 b.x2,ZE Z7 b.x3,ZE Z7 b.x4,ZE Z7 b.x5,ZE Z7 b.x6,ZE Z7 b.x7,ZB b.ch,ZB b.od]] w λe w'=>e=.returned (Z8 #[ZE Z7 z1,ZE Z7 400])/\Below w.heap.size w w' from λw=>by have:=hz w;rw [hZ] at this;exact this);have e:s.chunk p b x.data.toList=s.fail 400:=by unfold S.chunk;rw [hZ];rfl
  rw [e];clear hz hZ e;go_enter Tryz.func190,L0;go_upto_region 0 with fail
  refine BO 15 [7,8,9,10,11,12,13,14,15,16,6,17,18,4,5] [eQ (ZD x),eP g 0,eP g 0,eP g 0,eQ (ZE Z5 (p:Int)),eP g 0,eP g 0,eP g 1,eQ (Z9 #[ZE Z7 b.x0,ZE Z7 b.x1,ZE Z7 b.x2,ZE Z7 b.x3,ZE Z7 b.x4,ZE Z7 b.x5,ZE Z7 b.x6,ZE Z7 b.x7,ZB b.ch,ZB b.od]),eQ (Z8 #[ZE Z7 z1,ZE Z7 400]),eQ (Z8 #[ZE Z7 z1,ZE Z7 400]),eQ (ZE Z7 z1),eQ (ZE Z7 400),eQ (ZE Z7 z1),eQ (ZE Z7 400)] ZY ZY ZY ZY (λ_ _ d _ _ h=>by cases d<;>exact h) ZV ZV XXa25 ?_ ?_
  ·refine ⟨?_,?_,?_,?_,?_,?_,?_,?_,?_,?_,?_,?_,?_,?_,?_,trivial⟩
   iterate 9·exact XXoMs
   ·exact XX71n
   iterate 5·exact XXoMs
  intro g1 w2 hb hf;have z4:g1 4= _:=hf.at 13;have z5:g1 5= _:=hf.at 14;clear hf;simp only [BM,Ab,F4,F7,F6];rw [z4];rw [z5];have H1:=Dl (H.out.below hb);have HB:=Dl hb;clear HQ hb;have HFA:=Dl (fail_at H1.out 400 400 rfl);exact XX8YT
 ·have e2:z2=413:=e2;subst e2;have HZ:=Dl (show∀w,Calls Mm 214 #[ZD x,ZE Z5 (p:Int),Z9 #[ZE Z7 b.x0,ZE Z7 b.x1,ZE Z7 b.x2,ZE Z7 b.x3,ZE Z7 b.x4,ZE Z7 b.x5,ZE Z7 b.x6,ZE Z7 b.x7,ZB b.ch,ZB b.od]] w λe w'=>e=.returned (Z8 #[ZE Z7 z1,ZE Z7 413])/\Below w.heap.size w w' from λw=>by have:=hz w;rw [hZ] at this;exact this);have e:s.chunk p b x.data.toList=s.fail 413:=by unfold S.chunk;rw [hZ];rfl
  rw [e];clear hz hZ e;go_enter Tryz.func190,L0;go_upto_region 0 with fail
  refine BO 15 [7,8,9,10,11,12,13,14,15,16,6,17,18,4,5] [eQ (ZD x),eP g 0,eP g 0,eP g 0,eQ (ZE Z5 (p:Int)),eP g 0,eP g 0,eP g 1,eQ (Z9 #[ZE Z7 b.x0,ZE Z7 b.x1,ZE Z7 b.x2,ZE Z7 b.x3,ZE Z7 b.x4,ZE Z7 b.x5,ZE Z7 b.x6,ZE Z7 b.x7,ZB b.ch,ZB b.od]),eQ (Z8 #[ZE Z7 z1,ZE Z7 413]),eQ (Z8 #[ZE Z7 z1,ZE Z7 413]),eQ (ZE Z7 z1),eQ (ZE Z7 413),eQ (ZE Z7 z1),eQ (ZE Z7 413)] ZY ZY ZY ZY (λ_ _ d _ _ h=>by cases d<;>exact h) ZV ZV XXa25 ?_ ?_
  ·refine ⟨?_,?_,?_,?_,?_,?_,?_,?_,?_,?_,?_,?_,?_,?_,?_,trivial⟩
   iterate 9·exact XXoMs
   ·exact XX71n
   iterate 5·exact XXoMs
  intro g1 w2 hb hf;have z4:g1 4= _:=hf.at 13;have z5:g1 5= _:=hf.at 14;clear hf;simp only [BM,Ab,F4,F7,F6];rw [z4];rw [z5];have H1:=Dl (H.out.below hb);have HB:=Dl hb;clear HQ hb;have HFA:=Dl (fail_at H1.out 413 413 rfl);exact XX8YT
end
end Par
open _root_.Array renaming getElem?_eq_none→Ao
open _root_.Bool renaming and_eq_true→AM,and_false→AN,and_true→AO,eq_iff_iff→AR,false_and→AS,false_or→AV,or_eq_true→Bc,or_false→Be,true_and→Bg,true_or→Bh
open _root_.Go.Addr renaming add→Ac
open _root_.Go.Proofs.Tryz renaming func210→JS,ntmps187→Lx,ntmps210→LA,underlying229→Nb
open _root_.Go.RowKit.Below renaming refl→AE
open _root_.List renaming drop_eq_getElem_cons→DR,getElem?_eq_getElem→Et,length_append→EO,length_pos_iff→EX,length_singleton→Fa,length_take→Fc
open _root_.Nat renaming le_refl→Gi,lt_or_ge→Gp,zero_le→Gz
open _root_.UInt8 renaming toNat_inj→NI
open Base renaming below_drewN→Az,below_step→A6
open Base.Ints renaming one→CO
open Oct renaming allOf→GA,blank→GC,digit→GF
open Qk renaming rhas_any→Hu
open Tgt renaming parse→Jm
namespace Rq
open Base Txt
theorem pair_info:(Mm.info? 232).map (λi=>(i.zero,i.size,i.bytes))=some (some (Z9 #[ZE Z7 0,ZE Z7 0]),2,16):=ZY
section
attribute [local go_sem] A8
theorem rbytes_any (t:ByteArray) (p:Nat) (hp:p<4294967296) (w:World) (h0:0<t.size) (ht:t.size<=900000000):Calls Mm 208 #[ZD t,ZE Z5 (p:Nat)] w λe w'=>
 e=.returned (ZB (tgtB (clOf p) t.data.toList))/\w'=w:=by
 have H7:=Dl (λw=>Hu p hp 7 w);have H8:=Dl (λw=>Hu p hp 8 w);have hlets:∀x,letsT (clOf p) x=(Oct.visible (x.toNat:Int)|| (Hs p 7&&GC (x.toNat:Int)||Hs p 8&&Oct.control (x.toNat:Int))):=λ_=>rfl;have hok:tgtB (clOf p) t.data.toList=t.data.toList.all (letsT (clOf p)):=rfl;have t0:=first_no t h0;rw [hok];clear hok;generalize hq:letsT (clOf p)=q at *;clear hq;have HL:=Dl hlets;clear hlets;generalize Hs p 7=sp at *;generalize Hs p 8=co at *;cases sp<;>cases co;all_goals
  go_enter Tryz.func208,Tryz.ntmps208;go_upto_region 2 with fail
  go_loopw [5] (λi wr=>∃k:Nat,k<=t.size/\i=ZE Z7 k/\wr=w/\Hid ((t.data.toList.take k).all q=true)) (λi _=>t.size-(intOf i).toNat)
  case atStart=>exact ⟨0,Gz _,rfl,rfl,Dl rfl⟩
  case round=>
   obtain ⟨k,hk,rfl,hwr,hpre⟩:=hrel;subst hwr;rcases Gp k t.size with hlt | hge
   ·have i1:(k:Int)<(t.size:Int):=by omega
    have HQ:=Dl (HL.out (t[k]))
    have HS:=Dl (all_take q t.data.toList k (by rw [len];exact hlt) hpre.out);have HN:=Dl (all_not q t.data.toList k (by rw [len];exact hlt));have hgt:t.data.toList[k]'(by rw [len];exact hlt)=t[k]:=rfl;rw [hgt] at HS HN;clear hgt;obtain ⟨b,hb⟩:∃b,t[k]=b:=⟨_,rfl⟩;have hn:∀hh,t[k]'hh=b:=λ_=>hb;rw [hb] at HQ HS HN;clear hb
    have HV:=Dl (λw=>Oct.rvisible_any (b.toNat:Int) w)
    have HB:=Dl (λw=>Oct.rblank_any (b.toNat:Int) w);have HC:=Dl (λw=>Oct.rcontrol_any (b.toNat:Int) w);generalize Oct.visible (b.toNat:Int)=v at *;generalize GC (b.toNat:Int)=bk at *;generalize Oct.control (b.toNat:Int)=ct at *;cases v
    ·cases bk<;>cases ct;all_goals
      go_wp2_with (first
       |(go_at_call 197;with_reducible refine Cm (HV.out _) ?_)
       |(go_at_call 136;with_reducible refine Cm (HB.out _) ?_)
       |(go_at_call 229;with_reducible refine Cm (HC.out _) ?_)
       |(go_at_call 44;with_reducible refine Cm (H7.out _) ?_)
       |(go_at_call 44;with_reducible refine Cm (H8.out _) ?_))
      first
       |(go_ret;exact ⟨by rw [HN.out (by rw [HQ.out];rfl)];rfl,rfl⟩)
       |(go_roundw
         case rel=>exact ⟨k+1,ZZ,ZT,by first | rfl | trivial,Dl (HS.out (by rw [HQ.out];rfl))⟩
         case measure=>simp [intOf];omega)
    ·go_wp2_with (go_at_call 197;with_reducible refine Cm (HV.out _) ?_);exact XXqnM
   ·obtain rfl:k=t.size:=by omega
    have hall:=hpre.out;rw [take_all t _ (Gi _)] at hall;have HALL:=Dl hall;clear hpre hall HL;go_wp2_with fail;go_ret;rw [HALL.out];exact ⟨by first | rfl | simp,rfl⟩
theorem rversion_any (s:ByteArray) (p:Nat) (hp:p<4294967296) (w:World) (h0:0<s.size):Calls Mm 210 #[ZD s,ZE Z5 (p:Nat)] w λe w'=>
 (∃k:Nat,e=.returned (Z8 #[ZE Z7 (k:Int),ZB (verL (clOf p) s.data.toList).isSome])/\∀j,verL (clOf p) s.data.toList=some j->k=j)/\Below w.heap.size w w':=by
 have hne:s.data.toList≠ []:=λh=>by
  have:s.size=0:=by rw [←len,h];rfl
  omega
 have ev:verL (clOf p) s.data.toList=if knownV (clOf p) s.data.toList=true then (if s.data.toList.getD 7 0=48 then some 0 else if (s.data.toList.getD 7 0==49||Hs p 4)=true then some 1 else none) else none:=by rw [verL,ZO hne];rfl
 clear hne;by_cases h8:s.size=8
 ·obtain ⟨e1,e2⟩:=len8 s h8;have hx:(s.extract 0 7).size=7:=by rw [←len,e2,Fc,len];omega
  have H5:=Dl (λw=>Hu p hp 5 w)
  have H4:=Dl (λw=>Hu p hp 4 w)
  have HS:=Dl (λw=>rsame_any (s.extract 0 7) ⟨#[72,84,84,80,47,49,46]⟩ w (by rw [hx];decide) ZX);have HD:=Dl (λw=>Oct.rdigit_any ((s[7]'(by omega)).toNat:Int) w);have ek:knownV (clOf p) s.data.toList=(GF ((s[7]'(by omega)).toNat:Int)&&(((s.extract 0 7).data.toList==http1)|| (Hs p 5&&same (s.extract 0 7) ⟨#[72,84,84,80,47,49,46]⟩))):=by exact XXwj4
  obtain ⟨t1,t2⟩:=eq_facts (s.extract 0 7) [72,84,84,80,47,49,46] (decide ((s.extract 0 7).data.toList=http1)) rfl;have e3:((s.extract 0 7).data.toList==http1)=decide ((s.extract 0 7).data.toList=http1):=by rw [AR,ZI,ZJ]
  rw [ek,e1,e3] at ev;clear e1 e2 ek e3 hx;have hsz:(s.size:Int)=8:=ZZ;obtain ⟨d,hd⟩:∃d,s[7]'(by omega)=d:=⟨_,rfl⟩;have hn:∀hh,s[7]'hh=d:=λ_=>hd;rw [hd] at HD ev;clear hd;generalize decide ((s.extract 0 7).data.toList=http1)=r1 at *;generalize same (s.extract 0 7) ⟨#[72,84,84,80,47,49,46]⟩=r2 at *;generalize Hs p 5=r3 at *;generalize Hs p 4=r5 at *;generalize GF (d.toNat:Int)=r4 at *;generalize verL (clOf p) s.data.toList=V at *;obtain ⟨x,hx⟩:∃x,s.extract 0 7=x:=⟨_,rfl⟩;rw [hx] at HS t1 t2;cases r4 with
  | false=>
    rw [AS,ZO ZX] at ev;subst ev;go_enter JS,LA;go_wp2_with (go_at_call 198;with_reducible refine Cm (HD.out _) ?_);go_ret2;exact ⟨⟨0,rfl,λj h=>by cases h⟩,AE _ _⟩
  | true=>
    have hb:(r1=false/\r3=false)∨(r1=false/\r3=true/\r2=false)∨(r1|| (r3&&r2))=true:=by cases r1<;>cases r2<;>cases r3<;>simp
    by_cases h1:(r1|| (r3&&r2))=true
    ·rw [h1,AO,ZN rfl] at ev;by_cases h48:d=48
     ·rw [ZN h48] at ev;subst ev h48
      replace HD:Hid (∀w,Calls Mm 198 #[ZE Z6 48] w λe w'=>e=.returned (ZB true)/\w'=w):=HD
      cases r1<;>cases r3<;>cases r2<;>simp at h1;all_goals
       go_enter JS,LA
       go_wp2_with (first
        |(go_at_call 198;with_reducible refine Cm (HD.out _) ?_)
        |(go_at_call 44;with_reducible refine Cm (H5.out _) ?_)
        |(go_at_call 148;with_reducible refine (HS.out _).mono ?_;rintro e w2 ⟨rfl,hb2⟩))
       go_ret2;first
        | exact ⟨⟨0,rfl,λj h=>by cases h;rfl⟩,hb2⟩
        | exact ⟨⟨0,rfl,λj h=>by cases h;rfl⟩,AE _ _⟩
     ·rw [ZO h48] at ev;have n48:¬(d.toNat:Int)=48:=λh=>h48 (NI.1 (by show d.toNat=48;omega));clear h48;by_cases h49:d=49
      ·subst h49;rw [ZN ZV] at ev;subst ev
       replace HD:Hid (∀w,Calls Mm 198 #[ZE Z6 49] w λe w'=>e=.returned (ZB true)/\w'=w):=HD
       cases r1<;>cases r3<;>cases r2<;>simp at h1;all_goals
        go_enter JS,LA
        go_wp2_with (first
         |(go_at_call 198;with_reducible refine Cm (HD.out _) ?_)
         |(go_at_call 44;with_reducible refine Cm (H5.out _) ?_)
         |(go_at_call 148;with_reducible refine (HS.out _).mono ?_;rintro e w2 ⟨rfl,hb2⟩))
        go_ret2;first
         | exact ⟨⟨1,rfl,λj h=>by cases h;rfl⟩,hb2⟩
         | exact ⟨⟨1,rfl,λj h=>by cases h;rfl⟩,AE _ _⟩
      ·have n49:¬(d.toNat:Int)=49:=λh=>h49 (NI.1 (by show d.toNat=49;omega));have e49:(d==49)=false:=by simpa using h49
       rw [e49,AV] at ev;clear h49 e49;have hV:V.isSome=r5/\∀j,V=some j->1=j:=by
        cases r5 with
        | true=>rw [ZN rfl] at ev;subst ev;exact ⟨rfl,λj h=>by cases h;rfl⟩
        | false=>rw [ZO ZX] at ev;subst ev;exact ⟨rfl,λj h=>by cases h⟩
       rw [hV.1];have HVV:=Dl hV.2;clear hV ev;cases r1<;>cases r3<;>cases r2<;>simp at h1;all_goals
        go_enter JS,LA
        go_wp2_with (first
         |(go_at_call 198;with_reducible refine Cm (HD.out _) ?_)
         |(go_at_call 44;with_reducible refine Cm (H5.out _) ?_)
         |(go_at_call 44;with_reducible refine Cm (H4.out _) ?_)
         |(go_at_call 148;with_reducible refine (HS.out _).mono ?_;rintro e w2 ⟨rfl,hb2⟩))
        go_ret2;first
         | exact ⟨⟨1,rfl,HVV.out⟩,hb2⟩
         | exact ⟨⟨1,rfl,HVV.out⟩,AE _ _⟩
    ·have h1f:(r1|| (r3&&r2))=false:=by simpa using h1
     rw [h1f,AN,ZO ZX] at ev;subst ev;cases r1<;>cases r3<;>cases r2<;>simp at h1f;all_goals
      go_enter JS,LA
      go_wp2_with (first
       |(go_at_call 198;with_reducible refine Cm (HD.out _) ?_)
       |(go_at_call 44;with_reducible refine Cm (H5.out _) ?_)
       |(go_at_call 148;with_reducible refine (HS.out _).mono ?_;rintro e w2 ⟨rfl,hb2⟩))
      go_ret2;first
       | exact ⟨⟨0,rfl,λj h=>by cases h⟩,hb2⟩
       | exact ⟨⟨0,rfl,λj h=>by cases h⟩,AE _ _⟩
 ·have e:knownV (clOf p) s.data.toList=false:=by unfold knownV;rw [len,ZL h8];rfl
  rw [e,ZO ZX] at ev;rw [ev];clear e ev;have h1:¬(s.size:Int)=8:=ZZ;go_enter JS,LA;go_wp2_with fail;go_ret2;exact ⟨⟨0,rfl,λj h=>by cases h⟩,AE _ _⟩
end
end Rq
namespace Rq
open Base Txt
def Spn (w:World) (a:Option Addr) (n:Nat) (sp:List (Nat × Nat)):Prop:=
 sp.length=n/\(0<n->∃b,a=some ⟨b,0,none⟩/\b<w.heap.size/\∀k,(hk:k<sp.length)->w.cell? ⟨b,k*2,none⟩=some (ZE Z7 (sp[k].1:Nat))/\w.cell? ⟨b,k*2+1,none⟩=some (ZE Z7 (sp[k].2:Nat)))
theorem Spn.of_own {w:World} {base:Nat} {e:TypeId} {v:Value} {sp:List (Nat × Nat)} (h:w.ownsRow base e 2 v sp.length (Lib.spanCells sp)):∃A c,v=.slice A sp.length c/\Spn w A sp.length sp:=by
 rcases h.2 with ⟨rfl,hx⟩ | ⟨g,cap,cur,rfl,hb,hh,hcap,hcs,h9,ht⟩
 ·have h0:sp.length=0:=hx;rw [h0];exact ⟨none,0,rfl,h0,λq=>ZG q ZZ⟩
 ·have hlt:g<w.heap.size:=by
   rcases Gp g w.heap.size with h | h
   ·exact h
   ·rw [Ao h] at hh;cases hh
  refine ⟨_,_,rfl,rfl,λ_=>⟨g,rfl,hlt,λk hk=>?_⟩⟩;have h1:=h.cellAt (k*2) ZZ;have h2:=h.cellAt (k*2+1) ZZ;have h3:=Lib.spanCells_at sp k sp[k] (Et hk);exact ⟨h1.trans h3.1,h2.trans h3.2⟩
def Done (bl:Bool) (l:List UInt8) (k f:Nat) (done:List (Nat × Nat)):Prop:=
 (k<=l.length/\f<=k/\spans bl l=(pcs (sepB bl) (!bl) (l.drop k) k f).map (done ++ ·))∨(k=l.length+1/\spans bl l=some done)
theorem Done.start (bl:Bool) (l:List UInt8):Done bl l 0 0 []:=.inl ⟨Gz _,Gi _,by rw [List.drop_zero];show _=(spans bl l).map _;cases spans bl l<;>simp⟩
theorem Done.miss {bl:Bool} {l:List UInt8} {k f:Nat} {done:List (Nat × Nat)} (h:Done bl l k f done) (hk:k<l.length) (hp:sepB bl l[k]=false):f<=k/\Done bl l (k+1) f done:=by
 rcases h with ⟨_,h1,h2⟩ | ⟨h,_⟩
 ·refine ⟨h1,.inl ⟨ZZ,ZZ,?_⟩⟩;rw [h2,DR hk,pcs,ZO (by rw [hp];decide)]
 ·omega
theorem Done.empty {bl:Bool} {l:List UInt8} {k:Nat} {done:List (Nat × Nat)} (h:Done bl l k k done) (hk:k<l.length) (hp:sepB bl l[k]=true):if bl=true then Done bl l (k+1) (k+1) done else spans bl l=none:=by
 rcases h with ⟨_,_,h2⟩ | ⟨h,_⟩
 ·rw [DR hk,pcs,ZN hp,ZN rfl] at h2;cases bl with
  | true=>exact .inl ⟨ZZ,Gi _,h2⟩
  | false=>exact h2
 ·omega
theorem Done.empty' {bl:Bool} {l:List UInt8} {k f:Nat} {done:List (Nat × Nat)} (h:Done bl l k f done) (e:f=k) (hk:k<l.length) (hp:sepB bl l[k]=true):if bl=true then Done bl l (k+1) (k+1) done else spans bl l=none:=by subst e;exact h.empty hk hp
theorem Done.end_empty' {bl:Bool} {l:List UInt8} {f:Nat} {done:List (Nat × Nat)} (n:Nat) (hn:l.length=n) (h:Done bl l n f done) (e:f=n):if bl=true then Done bl l (n+1) (n+1) done else spans bl l=none:=by
 subst e;subst hn;rcases h with ⟨_,_,h2⟩ | ⟨h,_⟩
 ·rw [List.drop_length,pcs,ZN rfl] at h2;cases bl with
  | true=>exact .inr ⟨rfl,by rw [h2];simp⟩
  | false=>exact h2
 ·omega
theorem Done.end_hit' {bl:Bool} {l:List UInt8} {f:Nat} {done:List (Nat × Nat)} (n:Nat) (hn:l.length=n) (h:Done bl l n f done) (hf:f<n):Done bl l (n+1) (n+1) (done ++ [(f,n)]):=by
 subst hn;rcases h with ⟨_,_,h2⟩ | ⟨h,_⟩
 ·refine .inr ⟨rfl,?_⟩;rw [h2,List.drop_length,pcs,ZO ZZ];rfl
 ·omega
theorem Done.full {bl:Bool} {l:List UInt8} {k f:Nat} {done:List (Nat × Nat)} (h:Done bl l k f done) (hk:l.length<k):spans bl l=some done:=by
 rcases h with ⟨h,_⟩ | ⟨_,h⟩
 ·omega
 ·exact h
theorem Done.hit {bl:Bool} {l:List UInt8} {k f:Nat} {done:List (Nat × Nat)} (h:Done bl l k f done) (hf:f<k) (hk:k<l.length) (hp:sepB bl l[k]=true):Done bl l (k+1) (k+1) (done ++ [(f,k)]):=by
 rcases h with ⟨_,h1,h2⟩ | ⟨h,_⟩
 ·refine .inl ⟨ZZ,Gi _,?_⟩;rw [h2,DR hk,pcs,ZN hp,ZO ZZ,Option.map_map]
  congr 1
  funext x
  simp
 ·omega
theorem Done.le {bl:Bool} {l:List UInt8} {k f:Nat} {done:List (Nat × Nat)} (h:Done bl l k f done) (hk:k<=l.length):f<=k:=by
 rcases h with ⟨_,h1,_⟩ | ⟨h,_⟩
 ·exact h1
 ·omega
theorem news_two (w:World) (x y:Value) (t:TypeId):∀(j:Nat) (u:Value),[x,y][j]?=some u->(w.alloc (.cells #[x,y] t)).cell? (Ac ⟨w.heap.size,0,none⟩ j)=some u:=by
 intro j u hu;have hj:j=0∨j=1:=by
  rcases Gp j 2 with h | h
  ·omega
  ·rw [List.getElem?_eq_none (by simpa using h)] at hu;cases hu
 have key:=cell_of_row (w.alloc (.cells #[x,y] t)) w.heap.size j #[x,y] t (0,0) (heap_alloc_new w _);have e2:Ac ⟨w.heap.size,0,none⟩ j=⟨w.heap.size,j,none⟩:=by unfold Ac;rcases hj with rfl | rfl<;>simp
 rw [e2];refine key.trans ?_;rcases hj with rfl | rfl<;>simpa using hu
section
attribute [local go_sem] A8
theorem XXlSI {P:Prop} (h:P:=by
 intro v' w' hown' hgr _
 have H2:Hid (w'.ownsRow w.heap.size 232 2 v' (done ++ [(f,k)]).length (Lib.spanCells (done ++ [(f,k)]))):=Dl (by rw [Lib.spanCells_snoc];simpa using hown');have H3:=Dl ((hbr.out.alloc hbr.out.size _).grown hgr XXde6 (own_base hown.out));clear hown' hgr hown hbr;go_wp2;go_roundw
 case rel=>exact ⟨k+1,k+1,done ++ [(f,k)],ZZ,ZZ,XXfa1,ZT,ZT,HD,H2,H3⟩
 case measure=>simp [intOf];omega):P:=h
theorem XX8hT {P:Prop} (h:P:=by
 intro v' w' hown' hgr _
 have H2:Hid (w'.ownsRow w.heap.size 232 2 v' (done ++ [(f,s.size)]).length (Lib.spanCells (done ++ [(f,s.size)]))):=Dl (by rw [Lib.spanCells_snoc];simpa using hown');have H3:=Dl ((hbr.out.alloc hbr.out.size _).grown hgr XXde6 (own_base hown.out));clear hown' hgr hown hbr;go_wp2;go_roundw
 case rel=>exact ⟨s.size+1,s.size+1,done ++ [(f,s.size)],ZZ,ZZ,XXfa1,ZT,ZT,HD,H2,H3⟩
 case measure=>simp [intOf]):P:=h
theorem XXQ0D {P:Prop} (h:P:=by
 clear hbb;go_wp2_with (go_at_call 136;with_reducible refine Cm (HB.out _) ?_);go_roundw
 case rel=>exact ⟨k+1,f,done,ZZ,ZZ,ZZ,by first | rfl | go_num,ZT,HD,hown,hbr⟩
 case measure=>simp [intOf];omega):P:=h
theorem XXTIx {P:Prop} (h:P:=by
 go_wp2_with (go_at_call 136;with_reducible refine Cm (HB.out _) ?_);go_roundw
 case rel=>exact ⟨f+1,f+1,done,ZZ,ZZ,ZZ,by first | rfl | go_num,ZT,HD,hown,hbr⟩
 case measure=>simp [intOf];omega):P:=h
theorem XXOmU {P:Prop} (h:P:=by
 have hno:PS=none:=HPS.out.symm.trans (by simpa using HD);subst hno;clear HD;go_wp2_with fail;go_ret2
 exact ⟨rfl,hbr.out⟩):P:=h
theorem rpieces_any (s:ByteArray) (bl:Bool) (w:World) (hs:s.size<=900000000):Calls Mm 228 #[ZD s,ZB bl] w λe w'=>
 (match spans bl s.data.toList with
   | none=>e=.returned (.tuple #[.slice none 0 0,.bool false])
   | some sp=>∃a c,e=.returned (.tuple #[.slice a sp.length c,.bool true])/\Spn w' a sp.length sp)/\Below w.heap.size w w':=by
 obtain ⟨i0,hi,hz0,hz1,hz2⟩:=info_parts pair_info;have G1:=Dl hi;have G2:=Dl hz0;have G3:=Dl hz1;have G4:=Dl hz2;clear hi hz0 hz1 hz2;obtain ⟨PS,hPS⟩:∃PS,spans bl s.data.toList=PS:=⟨_,rfl⟩;rw [hPS];have HPS:=Dl hPS;clear hPS;go_enter Tryz.func228,Tryz.ntmps228;go_wp2
 go_loopw [6,7,8] (λv fr i wr=>∃(k f:Nat) (done:List (Nat × Nat)),k<=s.size+1/\f<=s.size+1/\done.length<=k/\fr=ZE Z7 f/\i=ZE Z7 k/\Hid (Done bl s.data.toList k f done)/\Hid (wr.ownsRow w.heap.size 232 2 v done.length (Lib.spanCells done))/\Hid (Below w.heap.size w wr)) (λ_ _ i _=>s.size+1-(intOf i).toNat)
 case atStart=>exact ⟨0,0,[],ZZ,ZZ,Gi _,rfl,rfl,Dl (Done.start _ _),Dl ⟨rfl,.inl ⟨rfl,rfl⟩⟩,Dl (AE _ _)⟩
 case round=>
  obtain ⟨k,f,done,hk,hf,hdn,rfl,rfl,hpt,hown,hbr⟩:=hrel;rcases Gp k s.size with hlt | hge
  ·have t0:(k:Int)<=(s.size:Int):=by omega
   have i1:(k:Int)<(s.size:Int):=ZZ;have hkl:k<s.data.toList.length:=by rw [len];exact hlt
   have hfk:=hpt.out.le ZZ;obtain ⟨b,hb⟩:∃b,s[k]=b:=⟨_,rfl⟩;have hn:∀hh,s[k]'hh=b:=λ_=>hb;have hbl:s.data.toList[k]=b:=hb
   have HM:=Dl (λhp=>(hpt.out.miss hkl hp).2)
   have HE:=Dl (λ(e:f=k) hp=>hpt.out.empty' e hkl hp);have HH:=Dl (λe hp=>hpt.out.hit e hkl hp);rw [hbl] at HM HE HH;clear hb hbl hkl hpt;have HB:=Dl (λw=>Oct.rblank_any (b.toNat:Int) w);have m1:IntKind.i64.wrap ((k:Int)+1)=((k+1:Nat):Int):=by rw [wrap_in _ ZZ ZZ];omega
   have hsep:sepB bl b=(b==32|| (bl&&GC (b.toNat:Int))):=by
    unfold sepB GC;have e9:(b==9)=decide ((b.toNat:Int)=9):=by rw [AR,ZI,ZJ];exact ⟨λh=>by rw [h];rfl,λh=>NI.1 (by show b.toNat=9;omega)⟩
    have e32:(b==32)=decide ((b.toNat:Int)=32):=by rw [AR,ZI,ZJ];exact ⟨λh=>by rw [h];rfl,λh=>NI.1 (by show b.toNat=32;omega)⟩
    rw [e9,e32];cases bl<;>cases decide ((b.toNat:Int)=32)<;>cases decide ((b.toNat:Int)=9)<;>rfl
   have n32:(b==32)=false->¬(b.toNat:Int)=32:=λh e=>by have:b=32:=NI.1 (by show b.toNat=32;omega);rw [this] at h;cases h
   have y32:(b==32)=true->(b.toNat:Int)=32:=λh=>by rw [ZI.1 h];rfl
   generalize (b==32)=q at *;generalize GC (b.toNat:Int)=bk at *;have hcase:(q=true)∨(q=false/\bl=true/\bk=true)∨(q=false/\(bl&&bk)=false):=by cases q<;>cases bl<;>cases bk<;>simp
   have hmiss:(q=false/\(bl&&bk)=false)->sepB bl b=false:=λh=>by rw [hsep,h.1,h.2];rfl
   have hhit:(q=true)∨(q=false/\bl=true/\bk=true)->sepB bl b=true:=λh=>by
    rcases h with h | ⟨h1,h2,h3⟩
    ·rw [hsep,h];rfl
    ·rw [hsep,h1,h2,h3];rfl
   clear hsep;have HX:=Dl hmiss;have HY:=Dl hhit;clear hmiss hhit;rcases hcase with hq | ⟨hq,hbl,hbk⟩ | ⟨hq,hbb⟩
   ·have hsp:=HY.out (.inl hq);have e32:=y32 hq;clear n32 y32 hq
    replace HH:=Dl (λe=>HH.out e hsp)
    replace HE:=Dl (λe=>HE.out e hsp)
    clear HX HY HM hsp;rcases Gp f k with hfl | hfg
    ·have g1:¬(k:Int)=(f:Int):=by omega
     have g2:(f:Int)<(k:Int):=ZZ;have HD:=Dl (HH.out hfl);clear HH HE;cases bl
     ·go_wp2_with (first
       |(go_at_call 136;with_reducible refine Cm (HB.out _) ?_)
       |(at_builtin;refine wpList_append_own _ rfl _ _ 229 rfl w.heap.size 232 i0 (.agg #[.int .i64 0,.int .i64 0]) 2 16 Nb G1.out G2.out G3.out G4.out rfl ZX _ _ _ rfl (hown.out.alloc _) ⟨wr.heap.size,0,none⟩ 1 1 [.int .i64 (f:Nat),.int .i64 (k:Nat)] rfl rfl ?ca1 ?cb1 ?cc1 ?cd1 ?ce1 ?_))
      case ca1=>exact news_two wr _ _ _
      case cb1=>intro u hu;rcases (by simpa using hu:u=ZE Z7 (f:Nat)∨u=ZE Z7 (k:Nat)) with rfl | rfl<;>rfl
      case cc1=>unfold maxLen;omega
      case cd1=>omega
      case ce1=>have:=hbr.out.size;simp;omega
      exact XXlSI
     ·go_wp2_with (first
       |(go_at_call 136;with_reducible refine Cm (HB.out _) ?_)
       |(at_builtin;refine wpList_append_own _ rfl _ _ 229 rfl w.heap.size 232 i0 (.agg #[.int .i64 0,.int .i64 0]) 2 16 Nb G1.out G2.out G3.out G4.out rfl ZX _ _ _ rfl (hown.out.alloc _) ⟨wr.heap.size,0,none⟩ 1 1 [.int .i64 (f:Nat),.int .i64 (k:Nat)] rfl rfl ?ca2 ?cb2 ?cc2 ?cd2 ?ce2 ?_))
      case ca2=>exact news_two wr _ _ _
      case cb2=>intro u hu;rcases (by simpa using hu:u=ZE Z7 (f:Nat)∨u=ZE Z7 (k:Nat)) with rfl | rfl<;>rfl
      case cc2=>unfold maxLen;omega
      case cd2=>omega
      case ce2=>have:=hbr.out.size;simp;omega
      exact XXlSI
    ·obtain rfl:f=k:=by omega
     have HD:=HE.out rfl;clear HH HE;cases bl
     ·exact XXOmU
     ·replace HD:=Dl (show Done true s.data.toList (f+1) (f+1) done by simpa using HD)
      exact XXTIx
   ·have hsp:=HY.out (.inr ⟨hq,hbl,hbk⟩);have e32:=n32 hq;clear n32 y32 hq
    replace HH:=Dl (λe=>HH.out e hsp)
    replace HE:=Dl (λe=>HE.out e hsp)
    clear HX HY HM hsp;subst hbl hbk;rcases Gp f k with hfl | hfg
    ·have g1:¬(k:Int)=(f:Int):=by omega
     have g2:(f:Int)<(k:Int):=ZZ;have HD:=Dl (HH.out hfl);clear HH HE
     go_wp2_with (first
      |(go_at_call 136;with_reducible refine Cm (HB.out _) ?_)
      |(at_builtin;refine wpList_append_own _ rfl _ _ 229 rfl w.heap.size 232 i0 (.agg #[.int .i64 0,.int .i64 0]) 2 16 Nb G1.out G2.out G3.out G4.out rfl ZX _ _ _ rfl (hown.out.alloc _) ⟨wr.heap.size,0,none⟩ 1 1 [.int .i64 (f:Nat),.int .i64 (k:Nat)] rfl rfl ?ca3 ?cb3 ?cc3 ?cd3 ?ce3 ?_))
     case ca3=>exact news_two wr _ _ _
     case cb3=>intro u hu;rcases (by simpa using hu:u=ZE Z7 (f:Nat)∨u=ZE Z7 (k:Nat)) with rfl | rfl<;>rfl
     case cc3=>unfold maxLen;omega
     case cd3=>omega
     case ce3=>have:=hbr.out.size;simp;omega
     exact XXlSI
    ·obtain rfl:f=k:=by omega
     have HD:=Dl (show Done true s.data.toList (f+1) (f+1) done by simpa using HE.out rfl);clear HH HE;exact XXTIx
   ·have HD:=Dl (HM.out (HX.out ⟨hq,hbb⟩));have e32:=n32 hq;clear n32 y32 hq HX HY HM HH HE;cases bl
    ·exact XXQ0D
    ·have hbk:bk=false:=by simpa using hbb
     subst hbk;exact XXQ0D
  ·rcases Gp s.size k with hgt | hle
   ·obtain rfl:k=s.size+1:=by omega
    have t0:¬((s.size+1:Nat):Int)<=(s.size:Int):=ZZ;have hfin:PS=some done:=HPS.out.symm.trans (hpt.out.full (by rw [len];omega));subst hfin;obtain ⟨A,cp,rfl,hA⟩:=Spn.of_own hown.out;have HA:=Dl hA;clear hA hown hpt;go_wp2;go_ret2;first | exact ⟨⟨A,cp,rfl,HA.out⟩,hbr.out⟩ | exact ⟨⟨A,⟨cp,rfl⟩,HA.out⟩,hbr.out⟩
   ·obtain rfl:k=s.size:=by omega
    have hfk:=hpt.out.le XXc2a
    have HE:=Dl (λe=>hpt.out.end_empty' s.size (len s) e);have HH:=Dl (λe=>hpt.out.end_hit' s.size (len s) e);clear hpt;have t0:(s.size:Int)<=(s.size:Int):=ZZ;have m1:IntKind.i64.wrap ((s.size:Int)+1)=((s.size+1:Nat):Int):=by rw [wrap_in _ ZZ ZZ];omega
    have HB:=Dl (λw=>Oct.rblank_any (0:Int) w);rcases Gp f s.size with hfl | hfg
    ·have g1:¬(s.size:Int)=(f:Int):=by omega
     have g2:(f:Int)<(s.size:Int):=ZZ;have HD:=Dl (HH.out hfl);clear HH HE;cases bl
     ·go_wp2_with (first
       |(go_at_call 136;with_reducible refine Cm (HB.out _) ?_)
       |(at_builtin;refine wpList_append_own _ rfl _ _ 229 rfl w.heap.size 232 i0 (.agg #[.int .i64 0,.int .i64 0]) 2 16 Nb G1.out G2.out G3.out G4.out rfl ZX _ _ _ rfl (hown.out.alloc _) ⟨wr.heap.size,0,none⟩ 1 1 [.int .i64 (f:Nat),.int .i64 (s.size:Nat)] rfl rfl ?ca4 ?cb4 ?cc4 ?cd4 ?ce4 ?_))
      case ca4=>exact news_two wr _ _ _
      case cb4=>intro u hu;rcases (by simpa using hu:u=ZE Z7 (f:Nat)∨u=ZE Z7 (s.size:Nat)) with rfl | rfl<;>rfl
      case cc4=>unfold maxLen;omega
      case cd4=>omega
      case ce4=>have:=hbr.out.size;simp;omega
      exact XX8hT
     ·go_wp2_with (first
       |(go_at_call 136;with_reducible refine Cm (HB.out _) ?_)
       |(at_builtin;refine wpList_append_own _ rfl _ _ 229 rfl w.heap.size 232 i0 (.agg #[.int .i64 0,.int .i64 0]) 2 16 Nb G1.out G2.out G3.out G4.out rfl ZX _ _ _ rfl (hown.out.alloc _) ⟨wr.heap.size,0,none⟩ 1 1 [.int .i64 (f:Nat),.int .i64 (s.size:Nat)] rfl rfl ?ca5 ?cb5 ?cc5 ?cd5 ?ce5 ?_))
      case ca5=>exact news_two wr _ _ _
      case cb5=>intro u hu;rcases (by simpa using hu:u=ZE Z7 (f:Nat)∨u=ZE Z7 (s.size:Nat)) with rfl | rfl<;>rfl
      case cc5=>unfold maxLen;omega
      case cd5=>omega
      case ce5=>have:=hbr.out.size;simp;omega
      exact XX8hT
    ·obtain rfl:f=s.size:=by omega
     have HD:=HE.out rfl;clear HH HE;cases bl
     ·exact XXOmU
     ·replace HD:=Dl (show Done true s.data.toList (s.size+1) (s.size+1) done by simpa using HD)
      go_wp2_with (go_at_call 136;with_reducible refine Cm (HB.out _) ?_);go_roundw
      case rel=>exact ⟨s.size+1,s.size+1,done,ZZ,ZZ,ZZ,by first | rfl | go_num,ZT,HD,hown,hbr⟩
      case measure=>simp [intOf]
end
end Rq
theorem XXe72 {P:Prop} (h:P:=by first | exact hWs | omega):P:=h
namespace Rq
open Base Txt
def rpv (bl:Bool) (l:List UInt8):Value:=
 match spans bl l with
 | none=>.tuple #[.string ⟨#[]⟩,.string ⟨#[]⟩,.string ⟨#[]⟩,.int .i64 0,.bool false]
 | some sp=>if sp.length<2 then .tuple #[.string ⟨#[]⟩,.string ⟨#[]⟩,.string ⟨#[]⟩,.int .i64 (sp.length:Nat),.bool false]
   else Z8 #[ZD (ba (ext l (sp.getD 0 (0,0)))),ZD (ba (if 2<sp.length then ext l ((sp.getD 1 (0,0)).1,(sp.getD (sp.length-2) (0,0)).2) else [])),ZD (ba (ext l (sp.getD (sp.length-1) (0,0)))),ZE Z7 (sp.length:Nat),ZB true]
section
attribute [local go_sem] A8
theorem XXwzX {P:Prop} (h:P:=by
 clear hq hW hWs h0 h1 h2' h3;generalize W.heap.size=g at *;rcases Gp 2 n with h3n | h3n
 ·obtain ⟨r1,r2⟩:=h4 h3n;obtain ⟨U1,U2⟩:=hms h3n;have r1':=(hWF.cell (p:=⟨b,2,none⟩) hbl).trans r1;have r2':=(hWF.cell (p:=⟨b,(n-2)*2+1,none⟩) hbl).trans r2;obtain ⟨j,hj⟩:∃j,n-2=j:=⟨_,rfl⟩;rw [hj] at r2';have l1:(u1:Int)<=(u2:Int):=by omega
  have l2:(u2:Int)<=(s.size:Int):=ZZ;have l3:(2:Int)<(n:Int):=ZZ;have l4:IntKind.i64.wrap ((n:Int)-2)=(j:Int):=by rw [wrap_in _ ZZ ZZ];omega
  have l5:(j:Int)<(n:Int):=ZZ;have l6:j<n:=ZZ;have l7:1<n:=ZZ;have l8:(1:Int)<(n:Int):=ZZ;have hMM:=HM.out;rw [ZN h3n,ext_ba] at hMM
  replace HM:=Dl hMM
  clear hMM;clear r1 r2 h4 hms hj;go_wp2_with fail;go_quiet (fail);rename_i nq;go_wp2_with fail;go_quiet (fail);rename_i nq2;go_wp2;exact ZF (v:=Z8 #[ZD (s.extract a1 a2),ZD (s.extract u1 u2),ZD (s.extract d1 d2),ZE Z7 (n:Nat),ZB true]) (by simp [results,Tryz.results207,go_sem]) rfl ⟨by rw [←HM.out],by first | exact Az (A6 hb hWF) _ | exact Az (Az (A6 hb hWF) _) _⟩
 ·have l3:¬(2:Int)<(n:Int):=by omega
  have hMM:=HM.out;rw [ZO ZZ] at hMM
  replace HM:=Dl hMM
  clear hMM;clear h4 hms;go_wp2_with fail;go_quiet (fail);rename_i nq2;go_wp2
  exact ZF (v:=Z8 #[ZD (s.extract a1 a2),ZD ⟨#[]⟩,ZD (s.extract d1 d2),ZE Z7 (n:Nat),ZB true]) (by simp [results,Tryz.results207,go_sem]) rfl ⟨by rw [←HM.out];rfl,Az (A6 hb hWF) _⟩):P:=h
theorem rparts_any (s:ByteArray) (bl:Bool) (w:World) (hs:s.size<=900000000):Calls Mm 207 #[ZD s,ZB bl] w λe w'=>e=.returned (rpv bl s.data.toList)/\Below w.heap.size w w':=by
 have HP:=Dl (λw=>rpieces_any s bl w hs);unfold rpv;cases hsp:spans bl s.data.toList with
 | none=>
   rw [hsp] at HP;dsimp only at HP ⊢;clear hsp;go_enter Tryz.func207,Tryz.ntmps207;go_wp2_with (go_at_call 228;with_reducible refine (HP.out _).mono ?_;rintro e w1 ⟨rfl,hb⟩);exact ZF (v:=Z8 #[ZD ⟨#[]⟩,ZD ⟨#[]⟩,ZD ⟨#[]⟩,ZE Z7 0,ZB false]) (by simp [results,Tryz.results207,go_sem]) rfl ⟨rfl,hb⟩
 | some sp=>
   rw [hsp] at HP;dsimp only at HP ⊢;have hcov:=(spans_cov hsp).1;have hle:sp.length<=s.size+1:=by
    have:=pcs_le _ _ _ _ (show pcs (sepB bl) (!bl) s.data.toList 0 0=some sp from hsp)
    rwa [len] at this
   clear hsp;rcases Gp sp.length 2 with h2 | h2
   ·rw [ZN h2];obtain ⟨n,hn⟩:∃n,sp.length=n:=⟨_,rfl⟩;rw [hn] at HP h2 ⊢;have c2:(n:Int)<2:=by omega
    clear hcov hn hle;go_enter Tryz.func207,Tryz.ntmps207;go_wp2_with (go_at_call 228;with_reducible refine (HP.out _).mono ?_;rintro e w1 ⟨⟨a,c,rfl,hS⟩,hb⟩);exact ZF (v:=Z8 #[ZD ⟨#[]⟩,ZD ⟨#[]⟩,ZD ⟨#[]⟩,ZE Z7 (n:Nat),ZB false]) (by simp [results,Tryz.results207,go_sem]) rfl ⟨rfl,hb⟩
   ·rw [ZO ZZ];have A0:(sp[0]'(by omega)).1<(sp[0]'(by omega)).2/\(sp[0]'(by omega)).2<=s.size:=by
     have h:=hcov.at 0 ZZ;rw [←len];exact ⟨h.2.1,h.2.2.1⟩
    have A3:(sp[sp.length-1]'(by omega)).1<(sp[sp.length-1]'(by omega)).2/\(sp[sp.length-1]'(by omega)).2<=s.size:=by have h:=hcov.at (sp.length-1) ZZ;rw [←len];exact ⟨h.2.1,h.2.2.1⟩
    have HX:=Dl (λw a (hS:Spn w a sp.length sp)=>hS.2 ZZ);rw [getD_at sp 0 ZZ,getD_at sp (sp.length-1) ZZ];have hmid:2<sp.length->((sp.getD 1 (0,0)).1<=(sp.getD (sp.length-2) (0,0)).2/\(sp.getD (sp.length-2) (0,0)).2<=s.size)/\∃(h1:1<sp.length) (h2:sp.length-2<sp.length),sp.getD 1 (0,0)=sp[1]/\sp.getD (sp.length-2) (0,0)=sp[sp.length-2]:=λh=>by
     refine ⟨?_,ZZ,ZZ,getD_at sp 1 ZZ,getD_at sp _ ZZ⟩;rw [getD_at sp 1 ZZ,getD_at sp _ ZZ];have B1:=hcov.at 1 ZZ;have B2:=hcov.at (sp.length-2) ZZ;have B3:=hcov.mono 1 (sp.length-3) ZZ;have e:∀hh,sp[1+(sp.length-3)]'hh=sp[sp.length-2]:=λ_=>by congr 1;omega
     rw [e] at B3;rw [←len];omega
    have HC:Hid (∀w a,Spn w a sp.length sp->∃b,a=some ⟨b,0,none⟩/\b<w.heap.size/\(w.cell? ⟨b,0,none⟩=some (ZE Z7 (sp[0].1:Nat))/\w.cell? ⟨b,1,none⟩=some (ZE Z7 (sp[0].2:Nat)))/\
     (w.cell? ⟨b,(sp.length-1)*2,none⟩=some (ZE Z7 (sp[sp.length-1].1:Nat))/\w.cell? ⟨b,(sp.length-1)*2+1,none⟩=some (ZE Z7 (sp[sp.length-1].2:Nat)))/\
     (2<sp.length->w.cell? ⟨b,2,none⟩=some (ZE Z7 ((sp.getD 1 (0,0)).1:Nat))/\w.cell? ⟨b,(sp.length-2)*2+1,none⟩=some (ZE Z7 ((sp.getD (sp.length-2) (0,0)).2:Nat)))):=Dl λw a hS=>by
     obtain ⟨b,e,hlt,hc⟩:=hS.2 ZZ;refine ⟨b,e,hlt,hc 0 ZZ,hc (sp.length-1) ZZ,λh=>?_⟩;obtain ⟨_,_,_,e1,e2⟩:=hmid h;rw [e1,e2];exact ⟨(hc 1 ZZ).1,(hc (sp.length-2) ZZ).2⟩
    have hms:2<sp.length->(sp.getD 1 (0,0)).1<=(sp.getD (sp.length-2) (0,0)).2/\(sp.getD (sp.length-2) (0,0)).2<=s.size:=λh=>(hmid h).1;clear HX hmid hcov;obtain ⟨x0,hx0⟩:∃x,sp[0]=x:=⟨_,rfl⟩;obtain ⟨x3,hx3⟩:∃x,sp[sp.length-1]=x:=⟨_,rfl⟩;obtain ⟨u1,hu1⟩:∃x,(sp.getD 1 (0,0)).1=x:=⟨_,rfl⟩;obtain ⟨u2,hu2⟩:∃x,(sp.getD (sp.length-2) (0,0)).2=x:=⟨_,rfl⟩;rw [hx0] at A0 HC ⊢;rw [hx3] at A3 HC ⊢;rw [hu1,hu2] at hms HC ⊢;clear hx0 hx3 hu1 hu2;obtain ⟨a1,a2⟩:=x0;obtain ⟨d1,d2⟩:=x3;obtain ⟨A1,A2⟩:=A0;obtain ⟨D1,D2⟩:=A3;dsimp only at A1 A2 D1 D2 HC;obtain ⟨n,hn⟩:∃n,sp.length=n:=⟨_,rfl⟩
    have HP':Hid (∀w,Calls Mm 228 #[ZD s,ZB bl] w λe w'=>∃b c,e=.returned (Z8 #[ZC (some ⟨b,0,none⟩) n c,ZB true])/\b<w'.heap.size/\(w'.cell? ⟨b,0,none⟩=some (ZE Z7 (a1:Nat))/\w'.cell? ⟨b,1,none⟩=some (ZE Z7 (a2:Nat)))/\
     (w'.cell? ⟨b,(n-1)*2,none⟩=some (ZE Z7 (d1:Nat))/\w'.cell? ⟨b,(n-1)*2+1,none⟩=some (ZE Z7 (d2:Nat)))/\
     (2<n->w'.cell? ⟨b,2,none⟩=some (ZE Z7 (u1:Nat))/\w'.cell? ⟨b,(n-2)*2+1,none⟩=some (ZE Z7 (u2:Nat)))/\Below w.heap.size w w'):=Dl λw=>(HP.out w).mono (by
     rintro e w' ⟨⟨a,c,rfl,hS⟩,hb⟩;obtain ⟨b,rfl,hlt,h0,h1,h2⟩:=HC.out w' a hS;rw [hn] at h1 h2 ⊢;exact ⟨b,c,rfl,hlt,h0,h1,h2,hb⟩)
    rw [hn] at h2 hms hle ⊢;clear HC HP hn;have hn2:¬(n:Int)<2:=ZZ;obtain ⟨k,hk⟩:∃k,n=k+1:=⟨n-1,ZZ⟩;have e1:n-1=k:=ZZ;rw [e1] at HP';have i1:IntKind.i64.wrap ((n:Int)-1)=(k:Int):=by rw [wrap_in _ ZZ ZZ];omega
    have i2:(k:Int)<(n:Int):=ZZ;have i3:k<n:=ZZ;have i4:0<n:=ZZ;have HKN:=Dl hk;clear hk e1;obtain ⟨M,hM⟩:∃M,ba (if 2<n then ext s.data.toList (u1,u2) else [])=M:=⟨_,rfl⟩;rw [ext_ba,ext_ba,hM];have HM:=Dl hM;clear hM;have j1:(a1:Int)<=(a2:Int):=ZZ;have j2:(a2:Int)<=(s.size:Int):=ZZ;have j3:(d1:Int)<=(d2:Int):=ZZ;have j4:(d2:Int)<=(s.size:Int):=ZZ;have J1:a1<=a2:=ZZ;have J3:d1<=d2:=ZZ;go_enter Tryz.func207,Tryz.ntmps207;go_wp2_with (go_at_call 228;with_reducible refine (HP'.out _).mono ?_;rintro e w1 ⟨b,c,rfl,hbl,⟨h0,h1⟩,⟨h2',h3⟩,h4,hb⟩);clear HP';refine Tree.region (.quiet 0 (.quiet 1 (.quiet 2 (.quiet 3 (.quiet 4 (.quiet 5 (.quiet 6 (.quiet 7 (.two 8 (.act 9 (.act 10 (.act 11 .done))) 9 (.act 8 (.act 10 (.act 11 .done)))))))))))) (λw'=>Below w1.heap.size w1 w') ZY ZY (λ_ _ d _ _ h=>by cases d<;>exact h) (Az (AE _ _) 1) ?_;simp only [Ju,Jw,Er,Ep];have hq:∀w',Below w1.heap.size w1 w'->w'.cell? ⟨b,0,none⟩=some (ZE Z7 (a1:Nat))/\w'.cell? ⟨b,1,none⟩=some (ZE Z7 (a2:Nat))/\w'.cell? ⟨b,k*2,none⟩=some (ZE Z7 (d1:Nat))/\w'.cell? ⟨b,k*2+1,none⟩=some (ZE Z7 (d2:Nat)):=λw' hS=>⟨(hS.cell (p:=⟨b,0,none⟩) hbl).trans h0,(hS.cell (p:=⟨b,1,none⟩) hbl).trans h1,(hS.cell (p:=⟨b,k*2,none⟩) hbl).trans h2',(hS.cell (p:=⟨b,k*2+1,none⟩) hbl).trans h3⟩
    iterate 8
     refine Jx ZV ?_ ?_ ?_
     rotate_left 1
     ·intro w' hS;obtain ⟨q0,q1,q2,q3⟩:=hq w' hS;go_simp;with_reducible rfl
     simp only [Ab,F4,F7,F6]
    have hW:Below w1.heap.size w1 (World.drewN w1 1):=Az (AE _ _) 1;generalize World.drewN w1 1=W at *;have hWs:=hW.size;refine Tree.both ?_ ?_
    ·iterate 4
      refine Jr ZV (λK hK=>?_);go_simp;refine hK _ _ ?_ ?_
      ·first
        | exact hW.alloc hW.size _
        | exact (hW.alloc hW.size _).alloc ZQ _
        | exact (((hW.alloc hW.size _).alloc ZQ _).setCell XXe72 _).setCell XXe72 _
        | exact (((((hW.alloc hW.size _).alloc ZQ _).setCell XXe72 _).setCell XXe72 _).setCell XXe72 _).setCell XXe72 _
        | trace_state
      clear hK K
     refine Js ?_;have hWF:Below w1.heap.size w1 ((W.alloc (.cells #[ZE Z7 (a1:Nat),ZE Z7 (a2:Nat)] 232)).alloc (.cells #[ZE Z7 (d1:Nat),ZE Z7 (d2:Nat)] 232)):=(hW.alloc hW.size _).alloc ZQ _;have p0:((W.alloc (.cells #[ZE Z7 (a1:Nat),ZE Z7 (a2:Nat)] 232)).alloc (.cells #[ZE Z7 (d1:Nat),ZE Z7 (d2:Nat)] 232)).cell? ⟨W.heap.size,0,none⟩=some (ZE Z7 (a1:Nat)):=ZU;have p1:((W.alloc (.cells #[ZE Z7 (a1:Nat),ZE Z7 (a2:Nat)] 232)).alloc (.cells #[ZE Z7 (d1:Nat),ZE Z7 (d2:Nat)] 232)).cell? ⟨W.heap.size,1,none⟩=some (ZE Z7 (a2:Nat)):=ZU;have p2:((W.alloc (.cells #[ZE Z7 (a1:Nat),ZE Z7 (a2:Nat)] 232)).alloc (.cells #[ZE Z7 (d1:Nat),ZE Z7 (d2:Nat)] 232)).cell? ⟨W.heap.size+1,0,none⟩=some (ZE Z7 (d1:Nat)):=ZU;have p3:((W.alloc (.cells #[ZE Z7 (a1:Nat),ZE Z7 (a2:Nat)] 232)).alloc (.cells #[ZE Z7 (d1:Nat),ZE Z7 (d2:Nat)] 232)).cell? ⟨W.heap.size+1,1,none⟩=some (ZE Z7 (d2:Nat)):=ZU;generalize (W.alloc (.cells #[ZE Z7 (a1:Nat),ZE Z7 (a2:Nat)] 232)).alloc (.cells #[ZE Z7 (d1:Nat),ZE Z7 (d2:Nat)] 232)=WF at *;exact XXwzX
    ·iterate 4
      refine Jr ZV (λK hK=>?_);go_simp;refine hK _ _ ?_ ?_
      ·first
        | exact hW.alloc hW.size _
        | exact (hW.alloc hW.size _).alloc ZQ _
        | exact (((hW.alloc hW.size _).alloc ZQ _).setCell XXe72 _).setCell XXe72 _
        | exact (((((hW.alloc hW.size _).alloc ZQ _).setCell XXe72 _).setCell XXe72 _).setCell XXe72 _).setCell XXe72 _
        | trace_state
      clear hK K
     refine Js ?_;have hWF:Below w1.heap.size w1 ((W.alloc (.cells #[ZE Z7 (d1:Nat),ZE Z7 (d2:Nat)] 232)).alloc (.cells #[ZE Z7 (a1:Nat),ZE Z7 (a2:Nat)] 232)):=(hW.alloc hW.size _).alloc ZQ _;have p0:((W.alloc (.cells #[ZE Z7 (d1:Nat),ZE Z7 (d2:Nat)] 232)).alloc (.cells #[ZE Z7 (a1:Nat),ZE Z7 (a2:Nat)] 232)).cell? ⟨W.heap.size,0,none⟩=some (ZE Z7 (d1:Nat)):=ZU;have p1:((W.alloc (.cells #[ZE Z7 (d1:Nat),ZE Z7 (d2:Nat)] 232)).alloc (.cells #[ZE Z7 (a1:Nat),ZE Z7 (a2:Nat)] 232)).cell? ⟨W.heap.size,1,none⟩=some (ZE Z7 (d2:Nat)):=ZU;have p2:((W.alloc (.cells #[ZE Z7 (d1:Nat),ZE Z7 (d2:Nat)] 232)).alloc (.cells #[ZE Z7 (a1:Nat),ZE Z7 (a2:Nat)] 232)).cell? ⟨W.heap.size+1,0,none⟩=some (ZE Z7 (a1:Nat)):=ZU;have p3:((W.alloc (.cells #[ZE Z7 (d1:Nat),ZE Z7 (d2:Nat)] 232)).alloc (.cells #[ZE Z7 (a1:Nat),ZE Z7 (a2:Nat)] 232)).cell? ⟨W.heap.size+1,1,none⟩=some (ZE Z7 (a2:Nat)):=ZU;generalize (W.alloc (.cells #[ZE Z7 (d1:Nat),ZE Z7 (d2:Nat)] 232)).alloc (.cells #[ZE Z7 (a1:Nat),ZE Z7 (a2:Nat)] 232)=WF at *;exact XXwzX
end
end Rq
theorem XXc6f {P:Prop} (h:P:=by (simp [results,Tryz.results187,go_sem]);first|done|fail):P:=h
theorem XX2ea {P:Prop} (h:P:=by rintro e w' ⟨rfl,q,rfl⟩;exact ⟨rfl,Az (AE _ _) q⟩):P:=h
theorem XXc13 {P:Prop} (h:P:=by rintro e w' ⟨⟨j,rfl,hj⟩,hb⟩;rw [hj k rfl];exact ⟨rfl,hb⟩):P:=h
namespace Rq
open Base Txt
theorem rpv_cases (c:Cl) (l:List UInt8) :
 (pick c l=none/\∃(M T V:ByteArray) (n:Nat) (ok:Bool),n<=l.length+1/\rpv c.bl l=Z8 #[ZD M,ZD T,ZD V,ZE Z7 (n:Nat),ZB ok]/\(ok=false∨(ok=true/\n=2/\c.nv=false)∨(ok=true/\3<n/\c.sp=false)))∨
 (∃m t,pick c l=some (m,t,[])/\c.nv=true/\rpv c.bl l=Z8 #[ZD (ba m),ZD ⟨#[]⟩,ZD (ba t),ZE Z7 2,ZB true])∨
 (∃m t v n,pick c l=some (m,t,v)/\v≠ []/\n<=l.length+1/\(n=3∨(3<n/\c.sp=true))/\rpv c.bl l=Z8 #[ZD (ba m),ZD (ba t),ZD (ba v),ZE Z7 (n:Nat),ZB true]):=by
 unfold pick rpv;cases hs:spans c.bl l with
 | none=>exact .inl ⟨rfl,_,_,_,0,false,ZZ,rfl,.inl rfl⟩
 | some sp=>
   have hle:sp.length<=l.length+1:=pcs_le _ _ _ _ hs;dsimp only;rcases Gp sp.length 2 with h2 | h2
   ·rw [ZN h2,ZO ZQ,ZO ZQ];exact .inl ⟨rfl,_,_,_,_,false,hle,rfl,.inl rfl⟩
   ·rw [ZO (by omega:¬sp.length<2)];by_cases h3:(sp.length==3|| (decide (3<sp.length)&&c.sp))=true
    ·rw [ZN h3];have hn:sp.length=3∨(3<sp.length/\c.sp=true):=by simpa using h3
     rw [ZN (by omega:2<sp.length)];refine .inr (.inr ⟨_,_,_,sp.length,rfl,?_,hle,hn,rfl⟩);intro e;have:=spans_pos hs (sp.length-1) ZZ;rw [getD_at sp _ ZZ] at e;rw [e] at this;simp at this
    ·rw [ZO h3];by_cases hv:(sp.length==2&&c.nv)=true
     ·rw [ZN hv];simp only [AM,ZI] at hv;obtain ⟨e2,hnv⟩:=hv;rw [e2,ZO ZX]
      exact .inr (.inl ⟨_,_,rfl,hnv,rfl⟩)
     ·rw [ZO hv];refine .inl ⟨rfl,_,_,_,sp.length,true,hle,rfl,.inr ?_⟩;simp only [Bc,ZI,AM,ZJ,not_or,not_and,Bool.not_eq_true] at h3 hv;rcases (by omega:sp.length=2∨3<sp.length) with h | h
      ·exact .inl ⟨rfl,h,hv h⟩
      ·exact .inr ⟨rfl,h,h3.2 h⟩
section
attribute [local go_sem] A8
theorem XXRjR {P:Prop} (h:P:=by exact bodyPost_ret (v:=Z8 #[ZD ⟨#[]⟩,ZD ⟨#[]⟩,ZE Z7 0,ZE Z7 400]) (by simp [results,Tryz.results187,go_sem]) rfl ⟨rfl,A6 HW.out hb⟩):P:=h
theorem rrequest_parts (s:ByteArray) (p:Nat) (hp:p<4294967296) (x0 x1 x2 x3 x4 x5 x6 x7:Int) (ch old:Bool) (w:World) (hs:s.size<=900000000) (M T V:ByteArray) (n:Nat) (ok:Bool) (hle:n<=s.size+1) (hpv:rpv (Hs p 3) s.data.toList=Z8 #[ZD M,ZD T,ZD V,ZE Z7 (n:Nat),ZB ok])
 (hc:ok=false∨(ok=true/\n=2/\Hs p 6=false)∨(ok=true/\3<n/\Hs p 7=false)) (R:List UInt8 × List UInt8 × Nat × Nat) (hR:R=badR) :
 Calls Mm 187 #[ZD s,ZE Z5 (p:Nat),Bnd.bnd x0 x1 x2 x3 x4 x5 x6 x7 ch old] w λe w'=>e=.returned (rv R)/\Below w.heap.size w w':=by
 have HA0:=Dl (Bnd.At.new w 29 x0 x1 x2 x3 x4 x5 x6 x7 ch old)
 have HG0:=Dl (show w.heap.size<(w.alloc (.cells #[ZE Z7 x0,ZE Z7 x1,ZE Z7 x2,ZE Z7 x3,ZE Z7 x4,ZE Z7 x5,ZE Z7 x6,ZE Z7 x7,ZB ch,ZB old] 29)).heap.size by simp)
 have HW:=Dl (show Below w.heap.size w (w.alloc (.cells #[ZE Z7 x0,ZE Z7 x1,ZE Z7 x2,ZE Z7 x3,ZE Z7 x4,ZE Z7 x5,ZE Z7 x6,ZE Z7 x7,ZB ch,ZB old] 29)) from (AE _ _).alloc (Gi _) _)
 have H3:=Dl (λw=>Hu p hp 3 w)
 have H6:=Dl (λw=>Hu p hp 6 w)
 have H7:=Dl (λw=>Hu p hp 7 w);have HP:=Dl (λw=>rparts_any s (Hs p 3) w hs);rw [hpv] at HP;subst hR;clear hpv;generalize Hs p 3=b3 at *;generalize Hs p 6=b6 at *;generalize Hs p 7=b7 at *;rcases hc with rfl | ⟨rfl,rfl,rfl⟩ | ⟨rfl,h3,rfl⟩
 ·go_enter Tryz.func187,Lx
  go_wp2_with (first
   |(go_at_call 207;with_reducible refine (HP.out _).mono ?_;rintro e w1 ⟨rfl,hb⟩)
   |(go_at_call 44;with_reducible refine Cm (H3.out _) ?_))
  exact XXRjR
 ·go_enter Tryz.func187,Lx
  go_wp2_with (first
   |(go_at_call 207;with_reducible refine (HP.out _).mono ?_;rintro e w1 ⟨rfl,hb⟩)
   |(go_at_call 44;with_reducible refine Cm (H3.out _) ?_)
   |(go_at_call 44;with_reducible refine Cm (H6.out _) ?_))
  exact XXRjR
 ·have c1:¬(n:Int)<2:=by omega
  have c2:¬(n:Int)=2:=ZZ;have c3:(3:Int)<(n:Int):=ZZ;go_enter Tryz.func187,Lx
  go_wp2_with (first
   |(go_at_call 207;with_reducible refine (HP.out _).mono ?_;rintro e w1 ⟨rfl,hb⟩)
   |(go_at_call 44;with_reducible refine Cm (H3.out _) ?_)
   |(go_at_call 44;with_reducible refine Cm (H7.out _) ?_))
  exact XXRjR
theorem XXs1e {P:Prop} (h:P:=by
 go_enter Tryz.func187,Lx
 go_wp2_with (first
  |(go_at_call 207;with_reducible refine (HP.out _).mono ?_;rintro e w1 ⟨rfl,hb⟩
    have q9:=(HA0.out.below HG0.out hb).q9)
  |(go_at_call 44;with_reducible refine Cm (H3.out _) ?_)
  |(go_at_call 44;with_reducible refine Cm (H6.out _) ?_)
  |(go_at_call 44;with_reducible refine Cm (H7.out _) ?_)
  |(go_at_call 44;with_reducible refine Cm (H8.out _) ?_)
  |(go_at_call 137;with_reducible refine (HA.out _ _ (CO _ _ rfl _ _)).mono ?_;rintro e w2 ⟨rfl,hb2⟩
    replace hb:=A6 (hb.alloc hb.size (.cells #[ZE Z7 1] 3)) hb2
    clear hb2 q9;have q9:=(HA0.out.below HG0.out hb).q9)
  |(go_at_call 208;with_reducible refine Cm (HT.out _) ?_)
  |(go_at_call 209;with_reducible refine (HG.out _).mono ?_;rintro e w3 ⟨rfl,hb3⟩
    replace hb:=(A6 hb hb3).alloc (A6 hb hb3).size (.cells #[ZE Z7 f,ZD h1,ZD p1,ZD q1,ZB ta] 209)
    clear hb3 q9;have q9:=(HA0.out.below HG0.out hb).q9)
  |(go_at_call 210;with_reducible refine (HV.out _).mono ?_;rintro e w4 ⟨rfl,hb4⟩
    replace hb:=A6 hb hb4
    clear hb4 q9;have q9:=(HA0.out.below HG0.out hb).q9))
 first
  |exact ZF (v:=.tuple #[.string ⟨#[]⟩,.string ⟨#[]⟩,.int .i64 0,.int .i64 400]) XXc6f rfl ⟨rfl,A6 HW.out hb⟩
  |exact ZF (v:=.tuple #[.string ⟨#[]⟩,.string ⟨#[]⟩,.int .i64 0,.int .i64 505]) XXc6f rfl ⟨rfl,A6 HW.out hb⟩
  |exact ZF (v:=.tuple #[.string (ba m),.string (ba t),.int .i64 0,.int .i64 0]) XXc6f rfl ⟨rfl,A6 HW.out hb⟩
  |exact ZF (v:=.tuple #[.string (ba m),.string (ba t),.int .i64 1,.int .i64 0]) XXc6f rfl ⟨rfl,A6 HW.out hb⟩):P:=h
theorem rrequest_two (s:ByteArray) (p:Nat) (hp:p<4294967296) (x0 x1 x2 x3 x4 x5 x6 x7:Int) (ch old:Bool) (w:World) (hs:s.size<=900000000) (m t:List UInt8) (hm0:0<m.length) (hms:m.length<=s.size) (ht0:0<t.length) (hts:t.length<=s.size) (h6:Hs p 6=true)
 (hpv:rpv (Hs p 3) s.data.toList=Z8 #[ZD (ba m),ZD ⟨#[]⟩,ZD (ba t),ZE Z7 2,ZB true])
 (R:List UInt8 × List UInt8 × Nat × Nat) (hR:(if (methOk m&&tgtOk (clOf p) m t)=true then (match verL (clOf p) [] with | none=>verR | some k=>if (k==0 && !old)=true then verR else (m,t,k,0)) else badR)=R) :
 Calls Mm 187 #[ZD s,ZE Z5 (p:Nat),Bnd.bnd x0 x1 x2 x3 x4 x5 x6 x7 ch old] w λe w'=>e=.returned (rv R)/\Below w.heap.size w w':=by
 have HA0:=Dl (Bnd.At.new w 29 x0 x1 x2 x3 x4 x5 x6 x7 ch old)
 have HG0:=Dl (show w.heap.size<(w.alloc (.cells #[ZE Z7 x0,ZE Z7 x1,ZE Z7 x2,ZE Z7 x3,ZE Z7 x4,ZE Z7 x5,ZE Z7 x6,ZE Z7 x7,ZB ch,ZB old] 29)).heap.size by simp)
 have HW:=Dl (show Below w.heap.size w (w.alloc (.cells #[ZE Z7 x0,ZE Z7 x1,ZE Z7 x2,ZE Z7 x3,ZE Z7 x4,ZE Z7 x5,ZE Z7 x6,ZE Z7 x7,ZB ch,ZB old] 29)) from (AE _ _).alloc (Gi _) _)
 have H3:=Dl (λw=>Hu p hp 3 w)
 have H6:=Dl (λw=>Hu p hp 6 w)
 have H7:=Dl (λw=>Hu p hp 7 w)
 have HP:=Dl (λw=>rparts_any s (Hs p 3) w hs);have H8:=Dl (λw=>Hu p hp 8 w);rw [hpv] at HP;clear hpv
 have HT:=Dl (λw=>rbytes_any (ba t) p hp w XXbde XXbde);have HA:Hid (∀w a,Ints w a 1 [1]->Calls Mm 137 #[ZD (ba m),.slice a 1 1] w λe w'=>e=.returned (ZB (GA [1] m))/\Below w.heap.size w w'):=Dl λw a hk=>(Oct.rall_any (ba m) a 1 1 [1] w (by rw [ba_size];unfold maxLen;omega) hk ZX).mono XX2ea;have HG:=Dl (λw=>Tgt.rtarget_any (ba m) (ba t) w XXbde);have b1:(ba m).data.toList=m:=rfl;have b2:(ba t).data.toList=t:=rfl;rw [b1,b2] at HG;rw [b2] at HT;have hsm:(ba m).size=m.length:=ba_size m;clear b1 b2;have htk:tgtOk (clOf p) m t=(tgtB (clOf p) t&&(Hs p 7||Hs p 8|| (Jm m t).isSome)):=rfl;have hmk:methOk m=(decide (m.length<=32)&&GA [1] m):=rfl;rw [htk,hmk] at hR;clear htk hmk;generalize GA [1] m=al at *;generalize tgtB (clOf p) t=tb at *;have hv2:verL (clOf p) []=some 0:=by unfold verL;rw [ZN rfl]
 rw [hv2] at hR;dsimp only at hR;clear hv2;have hans:∃(f:Int) (h1 p1 q1:ByteArray) (a:Bool) (en:Int),Tgt.ans (Jm m t)=Z8 #[Tgt.tv f h1 p1 q1 a,ZE Z7 en]/\(en=0/\(Jm m t).isSome=true∨en=400/\(Jm m t).isSome=false):=by
  cases Jm m t with
  | none=>exact ⟨0,Tgt.E0,Tgt.E0,Tgt.E0,false,400,rfl,.inr ⟨rfl,rfl⟩⟩
  | some g=>exact ⟨_,_,_,_,_,0,rfl,.inl ⟨rfl,rfl⟩⟩
 obtain ⟨f,h1,p1,q1,ta,en,hE,hen⟩:=hans;rw [hE] at HG;clear hE;generalize (Jm m t).isSome=okp at *;have c0:¬((ba m).size:Int)<1:=ZZ;rw [h6] at H6;clear h6;generalize Hs p 7=b7 at *;generalize Hs p 8=b8 at *;generalize Hs p 3=b3 at *;rcases Gp 32 m.length with hl | hl
 ·have c1:(32:Int)<((ba m).size:Int):=by omega
  rw [ZL ZZ,AS,AS,ZO ZX] at hR;subst hR;clear HG HT HA hen;exact XXs1e
 have c1:¬(32:Int)<((ba m).size:Int):=ZZ;rw [ZK hl,Bg] at hR;clear hl hsm;cases al with
 | false=>
   rw [AS,ZO ZX] at hR;subst hR;clear HG HT hen;exact XXs1e
 | true=>
 rw [Bg] at hR;cases tb with
 | false=>
   rw [AS,ZO ZX] at hR;subst hR;clear HG hen;exact XXs1e
 | true=>
 rw [Bg] at hR;cases b7 with
 | true=>
   rw [Bh,Bh,ZN rfl] at hR;clear HG hen;cases old with
   | false=>
     rw [ZN ZX] at hR;subst hR;exact XXs1e
   | true=>
     rw [ZO ZX] at hR;subst hR;exact XXs1e
 | false=>
 cases b8 with
 | true=>
   rw [Bool.or_true,Bh,ZN rfl] at hR;clear HG hen;cases old with
   | false=>
     rw [ZN ZX] at hR;subst hR;exact XXs1e
   | true=>
     rw [ZO ZX] at hR;subst hR;exact XXs1e
 | false=>
 rw [Be,AV] at hR;rcases hen with ⟨rfl,rfl⟩ | ⟨rfl,rfl⟩
 ·rw [ZN rfl] at hR;cases old with
  | false=>
    rw [ZN ZX] at hR;subst hR;exact XXs1e
  | true=>
    rw [ZO ZX] at hR;subst hR;exact XXs1e
 ·rw [ZO ZX] at hR;subst hR;exact XXs1e
theorem XXdTD {P:Prop} (h:P:=by
 rw [hvl] at hR HV0;dsimp only at hR;subst hR;clear hvl;have HV:Hid (∀w,Calls Mm 210 #[ZD (ba v),ZE Z5 (p:Nat)] w λe w'=>(∃k:Nat,e=.returned (Z8 #[ZE Z7 (k:Int),ZB false]))/\Below w.heap.size w w'):=Dl λw=>(HV0.out w).mono (by rintro e w' ⟨⟨k,rfl,_⟩,hb⟩;exact ⟨⟨k,rfl⟩,hb⟩);clear HV0;go_enter Tryz.func187,Lx
 go_wp2_with (first
  |(go_at_call 207;with_reducible refine (HP.out _).mono ?_;rintro e w1 ⟨rfl,hb⟩
    have q9:=(HA0.out.below HG0.out hb).q9)
  |(go_at_call 44;with_reducible refine Cm (H3.out _) ?_)
  |(go_at_call 44;with_reducible refine Cm (H6.out _) ?_)
  |(go_at_call 44;with_reducible refine Cm (H7.out _) ?_)
  |(go_at_call 44;with_reducible refine Cm (H8.out _) ?_)
  |(go_at_call 137;with_reducible refine (HA.out _ _ (CO _ _ rfl _ _)).mono ?_;rintro e w2 ⟨rfl,hb2⟩
    replace hb:=A6 (hb.alloc hb.size (.cells #[ZE Z7 1] 3)) hb2
    clear hb2 q9;have q9:=(HA0.out.below HG0.out hb).q9)
  |(go_at_call 208;with_reducible refine Cm (HT.out _) ?_)
  |(go_at_call 209;with_reducible refine (HG.out _).mono ?_;rintro e w3 ⟨rfl,hb3⟩
    replace hb:=(A6 hb hb3).alloc (A6 hb hb3).size (.cells #[ZE Z7 f,ZD h1,ZD p1,ZD q1,ZB ta] 209)
    clear hb3 q9;have q9:=(HA0.out.below HG0.out hb).q9)
  |(go_at_call 210;with_reducible refine (HV.out _).mono ?_;rintro e w4 ⟨⟨kk,rfl⟩,hb4⟩
    replace hb:=A6 hb hb4
    clear hb4 q9;have q9:=(HA0.out.below HG0.out hb).q9))
 exact ZF (v:=Z8 #[ZD ⟨#[]⟩,ZD ⟨#[]⟩,ZE Z7 0,ZE Z7 505]) (by simp [results,Tryz.results187,go_sem]) rfl ⟨rfl,A6 HW.out hb⟩):P:=h
theorem rrequest_three (s:ByteArray) (p:Nat) (hp:p<4294967296) (x0 x1 x2 x3 x4 x5 x6 x7:Int) (ch old:Bool) (w:World) (hs:s.size<=900000000) (m t:List UInt8) (v:List UInt8) (hm0:0<m.length) (hms:m.length<=s.size) (ht0:0<t.length) (hts:t.length<=s.size) (hv0:0<v.length)
 (hpv:rpv (Hs p 3) s.data.toList=Z8 #[ZD (ba m),ZD (ba t),ZD (ba v),ZE Z7 3,ZB true])
 (R:List UInt8 × List UInt8 × Nat × Nat) (hR:(if (methOk m&&tgtOk (clOf p) m t)=true then (match verL (clOf p) v with | none=>verR | some k=>if (k==0 && !old)=true then verR else (m,t,k,0)) else badR)=R) :
 Calls Mm 187 #[ZD s,ZE Z5 (p:Nat),Bnd.bnd x0 x1 x2 x3 x4 x5 x6 x7 ch old] w λe w'=>e=.returned (rv R)/\Below w.heap.size w w':=by
 have HA0:=Dl (Bnd.At.new w 29 x0 x1 x2 x3 x4 x5 x6 x7 ch old)
 have HG0:=Dl (show w.heap.size<(w.alloc (.cells #[ZE Z7 x0,ZE Z7 x1,ZE Z7 x2,ZE Z7 x3,ZE Z7 x4,ZE Z7 x5,ZE Z7 x6,ZE Z7 x7,ZB ch,ZB old] 29)).heap.size by simp)
 have HW:=Dl (show Below w.heap.size w (w.alloc (.cells #[ZE Z7 x0,ZE Z7 x1,ZE Z7 x2,ZE Z7 x3,ZE Z7 x4,ZE Z7 x5,ZE Z7 x6,ZE Z7 x7,ZB ch,ZB old] 29)) from (AE _ _).alloc (Gi _) _)
 have H3:=Dl (λw=>Hu p hp 3 w)
 have H6:=Dl (λw=>Hu p hp 6 w)
 have H7:=Dl (λw=>Hu p hp 7 w)
 have HP:=Dl (λw=>rparts_any s (Hs p 3) w hs);have H8:=Dl (λw=>Hu p hp 8 w);rw [hpv] at HP;clear hpv
 have HT:=Dl (λw=>rbytes_any (ba t) p hp w XXbde XXbde);have HA:Hid (∀w a,Ints w a 1 [1]->Calls Mm 137 #[ZD (ba m),.slice a 1 1] w λe w'=>e=.returned (ZB (GA [1] m))/\Below w.heap.size w w'):=Dl λw a hk=>(Oct.rall_any (ba m) a 1 1 [1] w (by rw [ba_size];unfold maxLen;omega) hk ZX).mono XX2ea;have HG:=Dl (λw=>Tgt.rtarget_any (ba m) (ba t) w XXbde);have b1:(ba m).data.toList=m:=rfl;have b2:(ba t).data.toList=t:=rfl;rw [b1,b2] at HG;rw [b2] at HT;have hsm:(ba m).size=m.length:=ba_size m;clear b1 b2;have htk:tgtOk (clOf p) m t=(tgtB (clOf p) t&&(Hs p 7||Hs p 8|| (Jm m t).isSome)):=rfl;have hmk:methOk m=(decide (m.length<=32)&&GA [1] m):=rfl;rw [htk,hmk] at hR;clear htk hmk;have HV0:=Dl (λw=>rversion_any (ba v) p hp w (by rw [ba_size];exact hv0));have b3:(ba v).data.toList=v:=rfl;rw [b3] at HV0;clear b3;generalize GA [1] m=al at *;generalize tgtB (clOf p) t=tb at *;have hans:∃(f:Int) (h1 p1 q1:ByteArray) (a:Bool) (en:Int),Tgt.ans (Jm m t)=Z8 #[Tgt.tv f h1 p1 q1 a,ZE Z7 en]/\(en=0/\(Jm m t).isSome=true∨en=400/\(Jm m t).isSome=false):=by
  cases Jm m t with
  | none=>exact ⟨0,Tgt.E0,Tgt.E0,Tgt.E0,false,400,rfl,.inr ⟨rfl,rfl⟩⟩
  | some g=>exact ⟨_,_,_,_,_,0,rfl,.inl ⟨rfl,rfl⟩⟩
 obtain ⟨f,h1,p1,q1,ta,en,hE,hen⟩:=hans;rw [hE] at HG;clear hE;generalize (Jm m t).isSome=okp at *;have c0:¬((ba m).size:Int)<1:=ZZ;generalize Hs p 7=b7 at *;generalize Hs p 8=b8 at *;generalize Hs p 6=b6 at *;generalize Hs p 3=b3 at *;rcases Gp 32 m.length with hl | hl
 ·have c1:(32:Int)<((ba m).size:Int):=by omega
  rw [ZL ZZ,AS,AS,ZO ZX] at hR;subst hR;clear HG HT HA hen;exact XXs1e
 have c1:¬(32:Int)<((ba m).size:Int):=ZZ;rw [ZK hl,Bg] at hR;clear hl hsm;cases al with
 | false=>
   rw [AS,ZO ZX] at hR;subst hR;clear HG HT hen;exact XXs1e
 | true=>
 rw [Bg] at hR;cases tb with
 | false=>
   rw [AS,ZO ZX] at hR;subst hR;clear HG hen;exact XXs1e
 | true=>
 rw [Bg] at hR;cases b7 with
 | true=>
   rw [Bh,Bh,ZN rfl] at hR;clear HG hen;cases hvl:verL (clOf p) v with
   | none=>
     exact XXdTD
   | some k=>
     have h01:=verL_01 hvl;rw [hvl] at hR HV0;dsimp only at hR;clear hvl;have HV:Hid (∀w,Calls Mm 210 #[ZD (ba v),ZE Z5 (p:Nat)] w λe w'=>e=.returned (Z8 #[ZE Z7 (k:Int),ZB true])/\Below w.heap.size w w'):=Dl λw=>(HV0.out w).mono XXc13;clear HV0;rcases h01 with rfl | rfl
     ·cases old with
      | false=>
        rw [ZN ZX] at hR;subst hR;exact XXs1e
      | true=>
        rw [ZO ZX] at hR;subst hR;exact XXs1e
     ·rw [ZO ZW] at hR;subst hR;exact XXs1e
 | false=>
 cases b8 with
 | true=>
   rw [Bool.or_true,Bh,ZN rfl] at hR;clear HG hen;cases hvl:verL (clOf p) v with
   | none=>
     exact XXdTD
   | some k=>
     have h01:=verL_01 hvl;rw [hvl] at hR HV0;dsimp only at hR;clear hvl;have HV:Hid (∀w,Calls Mm 210 #[ZD (ba v),ZE Z5 (p:Nat)] w λe w'=>e=.returned (Z8 #[ZE Z7 (k:Int),ZB true])/\Below w.heap.size w w'):=Dl λw=>(HV0.out w).mono XXc13;clear HV0;rcases h01 with rfl | rfl
     ·cases old with
      | false=>
        rw [ZN ZX] at hR;subst hR;exact XXs1e
      | true=>
        rw [ZO ZX] at hR;subst hR;exact XXs1e
     ·rw [ZO ZW] at hR;subst hR;exact XXs1e
 | false=>
 rw [Be,AV] at hR;rcases hen with ⟨rfl,rfl⟩ | ⟨rfl,rfl⟩
 ·rw [ZN rfl] at hR;cases hvl:verL (clOf p) v with
  | none=>
    exact XXdTD
  | some k=>
    have h01:=verL_01 hvl;rw [hvl] at hR HV0;dsimp only at hR;clear hvl;have HV:Hid (∀w,Calls Mm 210 #[ZD (ba v),ZE Z5 (p:Nat)] w λe w'=>e=.returned (Z8 #[ZE Z7 (k:Int),ZB true])/\Below w.heap.size w w'):=Dl λw=>(HV0.out w).mono XXc13;clear HV0;rcases h01 with rfl | rfl
    ·cases old with
     | false=>
       rw [ZN ZX] at hR;subst hR;exact XXs1e
     | true=>
       rw [ZO ZX] at hR;subst hR;exact XXs1e
    ·rw [ZO ZW] at hR;subst hR;exact XXs1e
 ·rw [ZO ZX] at hR;subst hR;exact XXs1e
theorem rrequest_more (s:ByteArray) (p:Nat) (hp:p<4294967296) (x0 x1 x2 x3 x4 x5 x6 x7:Int) (ch old:Bool) (w:World) (hs:s.size<=900000000) (m t:List UInt8) (v:List UInt8) (n:Nat) (hm0:0<m.length) (hms:m.length<=s.size) (ht0:0<t.length) (hts:t.length<=s.size) (hv0:0<v.length) (h3n:3<n) (h7:Hs p 7=true)
 (hpv:rpv (Hs p 3) s.data.toList=Z8 #[ZD (ba m),ZD (ba t),ZD (ba v),ZE Z7 (n:Nat),ZB true])
 (R:List UInt8 × List UInt8 × Nat × Nat) (hR:(if (methOk m&&tgtOk (clOf p) m t)=true then (match verL (clOf p) v with | none=>verR | some k=>if (k==0 && !old)=true then verR else (m,t,k,0)) else badR)=R) :
 Calls Mm 187 #[ZD s,ZE Z5 (p:Nat),Bnd.bnd x0 x1 x2 x3 x4 x5 x6 x7 ch old] w λe w'=>e=.returned (rv R)/\Below w.heap.size w w':=by
 have HA0:=Dl (Bnd.At.new w 29 x0 x1 x2 x3 x4 x5 x6 x7 ch old)
 have HG0:=Dl (show w.heap.size<(w.alloc (.cells #[ZE Z7 x0,ZE Z7 x1,ZE Z7 x2,ZE Z7 x3,ZE Z7 x4,ZE Z7 x5,ZE Z7 x6,ZE Z7 x7,ZB ch,ZB old] 29)).heap.size by simp)
 have HW:=Dl (show Below w.heap.size w (w.alloc (.cells #[ZE Z7 x0,ZE Z7 x1,ZE Z7 x2,ZE Z7 x3,ZE Z7 x4,ZE Z7 x5,ZE Z7 x6,ZE Z7 x7,ZB ch,ZB old] 29)) from (AE _ _).alloc (Gi _) _)
 have H3:=Dl (λw=>Hu p hp 3 w)
 have H6:=Dl (λw=>Hu p hp 6 w)
 have H7:=Dl (λw=>Hu p hp 7 w)
 have HP:=Dl (λw=>rparts_any s (Hs p 3) w hs);have H8:=Dl (λw=>Hu p hp 8 w);rw [hpv] at HP;clear hpv
 have HT:=Dl (λw=>rbytes_any (ba t) p hp w XXbde XXbde);have HA:Hid (∀w a,Ints w a 1 [1]->Calls Mm 137 #[ZD (ba m),.slice a 1 1] w λe w'=>e=.returned (ZB (GA [1] m))/\Below w.heap.size w w'):=Dl λw a hk=>(Oct.rall_any (ba m) a 1 1 [1] w (by rw [ba_size];unfold maxLen;omega) hk ZX).mono XX2ea;have HG:=Dl (λw=>Tgt.rtarget_any (ba m) (ba t) w XXbde);have b1:(ba m).data.toList=m:=rfl;have b2:(ba t).data.toList=t:=rfl;rw [b1,b2] at HG;rw [b2] at HT;have hsm:(ba m).size=m.length:=ba_size m;clear b1 b2;have htk:tgtOk (clOf p) m t=(tgtB (clOf p) t&&(Hs p 7||Hs p 8|| (Jm m t).isSome)):=rfl;have hmk:methOk m=(decide (m.length<=32)&&GA [1] m):=rfl;rw [htk,hmk] at hR;clear htk hmk;have HV0:=Dl (λw=>rversion_any (ba v) p hp w (by rw [ba_size];exact hv0));have b3:(ba v).data.toList=v:=rfl;rw [b3] at HV0;clear b3;generalize GA [1] m=al at *;generalize tgtB (clOf p) t=tb at *;have hans:∃(f:Int) (h1 p1 q1:ByteArray) (a:Bool) (en:Int),Tgt.ans (Jm m t)=Z8 #[Tgt.tv f h1 p1 q1 a,ZE Z7 en]/\(en=0/\(Jm m t).isSome=true∨en=400/\(Jm m t).isSome=false):=by
  cases Jm m t with
  | none=>exact ⟨0,Tgt.E0,Tgt.E0,Tgt.E0,false,400,rfl,.inr ⟨rfl,rfl⟩⟩
  | some g=>exact ⟨_,_,_,_,_,0,rfl,.inl ⟨rfl,rfl⟩⟩
 obtain ⟨f,h1,p1,q1,ta,en,hE,hen⟩:=hans;rw [hE] at HG;clear hE;generalize (Jm m t).isSome=okp at *;have c0:¬((ba m).size:Int)<1:=ZZ;have n1:¬(n:Int)<2:=ZZ;have n2:¬(n:Int)=2:=ZZ;have n3:(3:Int)<(n:Int):=ZZ;rw [h7] at H7 hR;clear h7 h3n;generalize Hs p 8=b8 at *;generalize Hs p 6=b6 at *;generalize Hs p 3=b3 at *;rcases Gp 32 m.length with hl | hl
 ·have c1:(32:Int)<((ba m).size:Int):=by omega
  rw [ZL ZZ,AS,AS,ZO ZX] at hR;subst hR;clear HG HT HA hen;exact XXs1e
 have c1:¬(32:Int)<((ba m).size:Int):=ZZ;rw [ZK hl,Bg] at hR;clear hl hsm;cases al with
 | false=>
   rw [AS,ZO ZX] at hR;subst hR;clear HG HT hen;exact XXs1e
 | true=>
 rw [Bg] at hR;cases tb with
 | false=>
   rw [AS,ZO ZX] at hR;subst hR;clear HG hen;exact XXs1e
 | true=>
 rw [Bg] at hR;rw [Bh,Bh,ZN rfl] at hR;clear HG hen;cases hvl:verL (clOf p) v with
 | none=>
   exact XXdTD
 | some k=>
   have h01:=verL_01 hvl;rw [hvl] at hR HV0;dsimp only at hR;clear hvl;have HV:Hid (∀w,Calls Mm 210 #[ZD (ba v),ZE Z5 (p:Nat)] w λe w'=>e=.returned (Z8 #[ZE Z7 (k:Int),ZB true])/\Below w.heap.size w w'):=Dl λw=>(HV0.out w).mono XXc13;clear HV0;rcases h01 with rfl | rfl
   ·cases old with
    | false=>
      rw [ZN ZX] at hR;subst hR;exact XXs1e
    | true=>
      rw [ZO ZX] at hR;subst hR;exact XXs1e
   ·rw [ZO ZW] at hR;subst hR;exact XXs1e
theorem rrequest_any (s:ByteArray) (p:Nat) (hp:p<4294967296) (x0 x1 x2 x3 x4 x5 x6 x7:Int) (ch old:Bool) (w:World) (hs:s.size<=900000000) :
 Calls Mm 187 #[ZD s,ZE Z5 (p:Nat),Bnd.bnd x0 x1 x2 x3 x4 x5 x6 x7 ch old] w λe w'=>e=.returned (rv (request (clOf p) old s.data.toList))/\Below w.heap.size w w':=by
 rcases rpv_cases (clOf p) s.data.toList with ⟨hp1,M,T,V,n,ok,hle,hpv,hc⟩ | ⟨m,t,hp1,hnv,hpv⟩ | ⟨m,t,v,n,hp1,hv,hle,hn,hpv⟩
 ·rw [len] at hle
  exact rrequest_parts s p hp x0 x1 x2 x3 x4 x5 x6 x7 ch old w hs M T V n ok hle hpv hc _ (by unfold request;rw [hp1]<;>rfl)
 ·obtain ⟨z1,z2,z3,z4,_⟩:=pick_some hp1;rw [len] at z2 z4
  exact rrequest_two s p hp x0 x1 x2 x3 x4 x5 x6 x7 ch old w hs m t z1 z2 z3 z4 hnv hpv _ (by unfold request;rw [hp1]<;>rfl)
 ·obtain ⟨z1,z2,z3,z4,_⟩:=pick_some hp1;rw [len] at z2 z4 hle;have hv0:0<v.length:=EX.2 hv;rcases hn with rfl | ⟨h3,hsp⟩
  ·exact rrequest_three s p hp x0 x1 x2 x3 x4 x5 x6 x7 ch old w hs m t v z1 z2 z3 z4 hv0 hpv _ (by unfold request;rw [hp1]<;>rfl)
  ·exact rrequest_more s p hp x0 x1 x2 x3 x4 x5 x6 x7 ch old w hs m t v n z1 z2 z3 z4 hv0 h3 hsp hpv _ (by unfold request;rw [hp1]<;>rfl)
end
end Rq
open _root_.Go.Act renaming eval→Aa
open _root_.Go.Proofs.Tryz renaming func116→J5,func161→JE,ntmps116→Lf,ntmps161→Lp,underlying22→MZ
open _root_.List renaming mem_singleton→Fv
open _root_.Nat renaming lt_of_lt_of_le→Gn,zero_add→Gy
open App renaming wpList_append_list→Ai
open Each renaming oper_enter→BL,region_float→BP
open Ln renaming row_frozen→FX
open Mem.Keeps renaming grown→CP
open Par.S renaming ended→Iz,plain→I6
open Rec renaming R→Hz,byteV→Ib,wraps→Ih
open Rec.Bk renaming new→Hw
open Rq renaming request→Is
open Tree renaming assign→Jq
namespace Par
open Base Txt Mem
structure Fits (s:S):Prop where
 lines:s.st=1∨s.st=6->s.lines<=1000
 fss:∀y∈s.r.fs,y.1.size<=1000000/\y.2.size<=1000000
 fsl:s.r.fs.length<=500
 tss:∀y∈s.r.ts,y.1.size<=1000000/\y.2.size<=1000000
 tsl:s.r.ts.length<=500
 body:s.r.body.length<=2000000
 out:s.out.length<=1000000000
theorem empty_of {x:ByteArray} (h:x.size=0):x=⟨#[]⟩:=by
 have:x.data.size=0:=h;cases x with
 | mk d=>
   have e:d= #[]:=Array.eq_empty_of_size_eq_zero this;rw [e]
theorem list_ne {x:ByteArray} (h:0<x.size):x.data.toList≠ []:=λe=>by
 have:x.size=0:=by rw [←len,e];rfl
 omega
section
attribute [local go_sem] A8
variable {w:World} {B:Zone} {g q:Nat} {v f bd t o:Value} {p:Nat} {b:Bd} {s:S}
theorem ended_size (hp:p<4294967296) (h3:16<=b.x3/\b.x3<=1048576) (h4:0<=b.x4) (x:ByteArray) (hx:x.size<=5000) (h:PR w B g q v f bd t o p b s) (hst:s.st=3) (ok:Fits s):Calls Mm 161 #[ptr g,ZD x] w λr w'=>
 r=.returned (Z8 #[])/\∃q1 v1 f1 bd1 t1 o1,PR w' B g q1 v1 f1 bd1 t1 o1 p b (s.ended p b x.data.toList)/\Step (blks g q v f bd t o) (blks g q1 v1 f1 bd1 t1 o1) w w':=by
 have es:s.ended p b x.data.toList=s.chunk p b x.data.toList:=by unfold Iz;rw [hst];rfl
 rw [es];have c11:=h.cs.c11;rw [hst] at c11;have H:=Dl h;clear es;have HC:=Dl (chunk_any hp h3 h4 x hx h ok.body);clear h hst;go_enter JE,Lp;go_wp2_with (go_at_call 190;with_reducible refine HC.out.mono ?_;rintro r w2 ⟨rfl,q1,v1,f1,bd1,t1,hP,hS⟩);go_end0;exact ⟨rfl,q1,v1,f1,bd1,t1,o,hP,hS⟩
theorem XX2R2 {P:Prop} (h:P:=by
 refine ⟨?_,?_,?_,?_,?_,?_,?_,?_,?_,?_,?_,?_,trivial⟩
 all_goals (refine BI rfl (λev w1 hR hb hh=>?_);have e0:=hR.old 0 rfl;have e1:=hR.old 1 rfl;simp only [Am,E6,Ep,Er,GW] at e0 e1;have q16:=(HQ.out.below hb).c 16 _ rfl;have q2:=(HQ.out.below hb).c 2 _ rfl;exact Each.std)):P:=h
theorem ended_fields (hp:p<4294967296) (h3:16<=b.x3/\b.x3<=1048576) (x:ByteArray) (hx:x.size<=5000) (h:PR w B g q v f bd t o p b s) (hst:s.st=1) (ok:Fits s):Calls Mm 161 #[ptr g,ZD x] w λr w'=>
 r=.returned (Z8 #[])/\∃q1 v1 f1 bd1 t1 o1,PR w' B g q1 v1 f1 bd1 t1 o1 p b (s.ended p b x.data.toList)/\Step (blks g q v f bd t o) (blks g q1 v1 f1 bd1 t1 o1) w w':=by
 have es:s.ended p b x.data.toList=s.fields p b x.data.toList:=by unfold Iz;rw [hst];rfl
 rw [es];have c11:=h.cs.c11;rw [hst] at c11;have H:=Dl h;clear es;rcases Gg x.size with h0 | h0
 ·obtain rfl:=empty_of h0;have e:s.fields p b (⟨#[]⟩:ByteArray).data.toList=s.over p b:=by unfold S.fields;rfl
  rw [e];have HC:=Dl (over_any hp h3 h ok.fsl ok.fss ok.out);clear h hst e;go_enter JE,Lp;go_wp2_with (go_at_call 188;with_reducible refine HC.out.mono ?_;rintro r w2 ⟨rfl,q1,v1,f1,bd1,t1,o1,hP,hS⟩);refine ZF (results_none rfl _ _ _) rfl ?_;exact ⟨rfl,_,_,_,_,_,_,hP,hS⟩
 ·have hne:=list_ne h0;obtain ⟨bf,cbf,eb, -⟩:=FV h.own.F;subst eb;have te:=Fd.first_no x h0;have HQ:=Dl ((H.out.drew 1).bk);unfold S.fields;rw [ZO hne];have hfi:=λw1 (hb:Below w.heap.size w w1)=>fieldF_any hp x hx b.x1 (h.below hb) (ok.lines (.inl hst)) ok.fss ok.fsl;have hlt:=h.own.lt;cases hfv:fieldV p s.lines s.r.fs x.data.toList b.x1 with
  | inl e=>
    rw [hfv] at hfi;have HFI0:=Dl hfi;clear h hst hne h0 hfv hfi hlt;go_enter JE,Lp;go_upto_region 13 with fail
    refine BN 12 [78,79,80,81,82,83,84,85,86,87,88,89] [eP g 0,eP g 0,eP g 0,eP g 13,eP g 16,eQ (.slice bf s.r.fs.length cbf),eQ (ZD x),eP g 0,eP g 0,eP g 1,eP g 2,eQ (ZE Z7 b.x1)] (.act 12 (.quiet 13 .done)) ZY ZY ZY ZY (λ_ _ d _ _ h=>by cases d<;>exact h) ZV ZV XXa25 ?_ ?_
    ·exact XX2R2
    intro g1 w2 hb hf;have z78:g1 78= _:=hf.at 0;have z83:g1 83= _:=hf.at 5;have z84:g1 84= _:=hf.at 6;have z89:g1 89= _:=hf.at 11;clear hf;simp only [BM,Ab,F4,F7,F6];rw [z78,z83,z84,z89];simp only [Ju,Jw,Er,Ep]
    have H1:=Dl (H.out.below hb)
    have HS1:=Dl (II hb (L:=blks g q v (.slice bf s.r.fs.length cbf) bd t o));have HFI:=Dl (HFI0.out _ hb);clear hb HQ
    refine Jr ZV (λK hK=>?_);refine BL (g:=189) (args:=#[ptr g,.slice bf s.r.fs.length cbf,ZD x,ZE Z7 b.x1]) ZU (HFI.out.mono ?_);rintro r w3 ⟨rfl,hP,hS⟩;refine ⟨_,rfl,?_⟩;refine hK _ _ trivial ?_;clear hK K;simp only [Ab,F4,F7,F6];refine Jq _ ZV ZV ?_;simp only [Ab,Aa,Am,E6,Er,Ep,GW,F4,F7,F6];refine Js ?_;have c16:=hP.cs.c16;have z16:=hP.marks 16
    have HP2:=Dl (hP.put 16 nil (S.fail {s with lines:=s.lines+1} e) rfl rfl rfl rfl rfl rfl);have HS2:=Dl ((HS1.out.trans hS).trans (IL g 16 nil ZW));clear hP hS HFI H1 HS1;go_wp2;go_end0;exact ⟨rfl,_,_,_,_,_,_,HP2.out,HS2.out⟩
  | inr l=>
    rw [hfv] at hfi;have HFI0:=Dl hfi;clear h hst hne h0 hfv hfi hlt;go_enter JE,Lp;go_upto_region 13 with fail
    refine BN 12 [78,79,80,81,82,83,84,85,86,87,88,89] [eP g 0,eP g 0,eP g 0,eP g 13,eP g 16,eQ (.slice bf s.r.fs.length cbf),eQ (ZD x),eP g 0,eP g 0,eP g 1,eP g 2,eQ (ZE Z7 b.x1)] (.act 12 (.quiet 13 .done)) ZY ZY ZY ZY (λ_ _ d _ _ h=>by cases d<;>exact h) ZV ZV XXa25 ?_ ?_
    ·exact XX2R2
    intro g1 w2 hb hf;have z78:g1 78= _:=hf.at 0;have z83:g1 83= _:=hf.at 5;have z84:g1 84= _:=hf.at 6;have z89:g1 89= _:=hf.at 11;clear hf;simp only [BM,Ab,F4,F7,F6];rw [z78,z83,z84,z89];simp only [Ju,Jw,Er,Ep]
    have H1:=Dl (H.out.below hb)
    have HS1:=Dl (II hb (L:=blks g q v (.slice bf s.r.fs.length cbf) bd t o));have HFI:=Dl (HFI0.out _ hb);clear hb HQ
    refine Jr ZV (λK hK=>?_);refine BL (g:=189) (args:=#[ptr g,.slice bf s.r.fs.length cbf,ZD x,ZE Z7 b.x1]) ZU (HFI.out.mono ?_);rintro r w3 ⟨u',rfl,hrow,how,hS⟩;obtain ⟨b9,c9,e9, -⟩:=FV how.F;subst e9;refine ⟨_,rfl,?_⟩;refine hK _ _ trivial ?_;clear hK K;simp only [Ab,F4,F7,F6];refine Jq _ ZV ZV ?_;simp only [Ab,Aa,Am,E6,Er,Ep,GW,F4,F7,F6];refine Js ?_;have c16:=(Cs.of hrow).c16;have z16:=FX hrow 16
    have HR2:=Dl (row_setL hrow 16 (.slice b9 l.length c9))
    have HO2:=Dl (how.set 16 (.slice b9 l.length c9));have HS2:=Dl ((HS1.out.trans hS).trans (IL g 16 (.slice b9 l.length c9) ZW));clear hrow how hS HFI H1 HS1;go_wp2;go_end0;exact ⟨rfl,_,_,_,_,_,_,⟨HR2.out,HO2.out⟩,HS2.out⟩
theorem XX2Cw {P:Prop} (h:P:=by
 refine ⟨?_,?_,?_,?_,?_,?_,?_,?_,?_,?_,?_,?_,trivial⟩
 all_goals (refine BI rfl (λev w1 hR hb hh=>?_);have e0:=hR.old 0 rfl;have e1:=hR.old 1 rfl;simp only [Am,E6,Ep,Er,GW] at e0 e1;have q19:=(HQ.out.below hb).c 19 _ rfl;have q6:=(HQ.out.below hb).c 6 _ rfl;exact Each.std)):P:=h
theorem ended_trail (hp:p<4294967296) (x:ByteArray) (hx:x.size<=5000) (h:PR w B g q v f bd t o p b s) (hst:s.st=6) (ok:Fits s):Calls Mm 161 #[ptr g,ZD x] w λr w'=>
 r=.returned (Z8 #[])/\∃q1 v1 f1 bd1 t1 o1,PR w' B g q1 v1 f1 bd1 t1 o1 p b (s.ended p b x.data.toList)/\Step (blks g q v f bd t o) (blks g q1 v1 f1 bd1 t1 o1) w w':=by
 have es:s.ended p b x.data.toList=s.trail p b x.data.toList:=by unfold Iz;rw [hst];rfl
 rw [es];have c11:=h.cs.c11;rw [hst] at c11;have H:=Dl h;clear es;rcases Gg x.size with h0 | h0
 ·obtain rfl:=empty_of h0;have e:s.trail p b (⟨#[]⟩:ByteArray).data.toList=s.whole p b:=by unfold S.trail;rfl
  rw [e];have HC:=Dl (whole_any h ok.out);clear h hst e;go_enter JE,Lp;go_wp2_with (go_at_call 158;with_reducible refine HC.out.mono ?_;rintro r w2 ⟨rfl,q1,o1,hP,hS⟩);refine ZF (results_none rfl _ _ _) rfl ?_;exact ⟨rfl,_,_,_,_,_,_,hP,hS⟩
 ·have hne:=list_ne h0;obtain ⟨bt,cbt,eb, -⟩:=FV h.own.T;subst eb;have te:=Fd.first_no x h0;have HQ:=Dl ((H.out.drew 1).bk);unfold S.trail;rw [ZO hne];have hfi:=λw1 (hb:Below w.heap.size w w1)=>fieldT_any hp x hx b.x5 (h.below hb) (ok.lines (.inr hst)) ok.tss ok.tsl;have hlt:=h.own.lt;cases hfv:fieldV p s.lines s.r.ts x.data.toList b.x5 with
  | inl e=>
    rw [hfv] at hfi;have HFI0:=Dl hfi;clear h hst hne h0 hfv hfi hlt;go_enter JE,Lp;go_upto_region 18 with fail
    refine BN 12 [102,103,104,105,106,107,108,109,110,111,112,113] [eP g 0,eP g 0,eP g 0,eP g 13,eP g 19,eQ (.slice bt s.r.ts.length cbt),eQ (ZD x),eP g 0,eP g 0,eP g 1,eP g 6,eQ (ZE Z7 b.x5)] (.act 12 (.quiet 13 .done)) ZY ZY ZY ZY (λ_ _ d _ _ h=>by cases d<;>exact h) ZV ZV XXa25 ?_ ?_
    ·exact XX2Cw
    intro g1 w2 hb hf;have z102:g1 102= _:=hf.at 0;have z107:g1 107= _:=hf.at 5;have z108:g1 108= _:=hf.at 6;have z113:g1 113= _:=hf.at 11;clear hf;simp only [BM,Ab,F4,F7,F6];rw [z102,z107,z108,z113];simp only [Ju,Jw,Er,Ep]
    have H1:=Dl (H.out.below hb)
    have HS1:=Dl (II hb (L:=blks g q v f bd (.slice bt s.r.ts.length cbt) o));have HFI:=Dl (HFI0.out _ hb);clear hb HQ
    refine Jr ZV (λK hK=>?_);refine BL (g:=189) (args:=#[ptr g,.slice bt s.r.ts.length cbt,ZD x,ZE Z7 b.x5]) ZU (HFI.out.mono ?_);rintro r w3 ⟨rfl,hP,hS⟩;refine ⟨_,rfl,?_⟩;refine hK _ _ trivial ?_;clear hK K;simp only [Ab,F4,F7,F6];refine Jq _ ZV ZV ?_;simp only [Ab,Aa,Am,E6,Er,Ep,GW,F4,F7,F6];refine Js ?_;have c19:=hP.cs.c19;have z19:=hP.marks 19
    have HP2:=Dl (hP.put 19 nil (S.fail {s with lines:=s.lines+1} e) rfl rfl rfl rfl rfl rfl);have HS2:=Dl ((HS1.out.trans hS).trans (IL g 19 nil ZW));clear hP hS HFI H1 HS1;go_wp2;go_end0;exact ⟨rfl,_,_,_,_,_,_,HP2.out,HS2.out⟩
  | inr l=>
    rw [hfv] at hfi;have HFI0:=Dl hfi;clear h hst hne h0 hfv hfi hlt;go_enter JE,Lp;go_upto_region 18 with fail
    refine BN 12 [102,103,104,105,106,107,108,109,110,111,112,113] [eP g 0,eP g 0,eP g 0,eP g 13,eP g 19,eQ (.slice bt s.r.ts.length cbt),eQ (ZD x),eP g 0,eP g 0,eP g 1,eP g 6,eQ (ZE Z7 b.x5)] (.act 12 (.quiet 13 .done)) ZY ZY ZY ZY (λ_ _ d _ _ h=>by cases d<;>exact h) ZV ZV XXa25 ?_ ?_
    ·exact XX2Cw
    intro g1 w2 hb hf;have z102:g1 102= _:=hf.at 0;have z107:g1 107= _:=hf.at 5;have z108:g1 108= _:=hf.at 6;have z113:g1 113= _:=hf.at 11;clear hf;simp only [BM,Ab,F4,F7,F6];rw [z102,z107,z108,z113];simp only [Ju,Jw,Er,Ep]
    have H1:=Dl (H.out.below hb)
    have HS1:=Dl (II hb (L:=blks g q v f bd (.slice bt s.r.ts.length cbt) o));have HFI:=Dl (HFI0.out _ hb);clear hb HQ
    refine Jr ZV (λK hK=>?_);refine BL (g:=189) (args:=#[ptr g,.slice bt s.r.ts.length cbt,ZD x,ZE Z7 b.x5]) ZU (HFI.out.mono ?_);rintro r w3 ⟨u',rfl,hrow,how,hS⟩;obtain ⟨b9,c9,e9, -⟩:=FV how.T;subst e9;refine ⟨_,rfl,?_⟩;refine hK _ _ trivial ?_;clear hK K;simp only [Ab,F4,F7,F6];refine Jq _ ZV ZV ?_;simp only [Ab,Aa,Am,E6,Er,Ep,GW,F4,F7,F6];refine Js ?_;have c19:=(Cs.of hrow).c19;have z19:=FX hrow 19
    have HR2:=Dl (row_setL hrow 19 (.slice b9 l.length c9))
    have HO2:=Dl (how.set 19 (.slice b9 l.length c9));have HS2:=Dl ((HS1.out.trans hS).trans (IL g 19 (.slice b9 l.length c9) ZW));clear hrow how hS HFI H1 HS1;go_wp2;go_end0;exact ⟨rfl,_,_,_,_,_,_,⟨HR2.out,HO2.out⟩,HS2.out⟩
theorem XX5kR {P:Prop} (h:P:=by
 go_wp2;first | go_end0 | refine ZF (results_none rfl _ _ _) rfl ?_
 first
  |exact ⟨rfl,_,_,_,_,_,_,H2.out,HS.out⟩
  |exact ⟨rfl,_,_,_,_,_,_,H2.out,HS2.out⟩
  |exact ⟨rfl,_,_,_,_,_,_,H7.out,HS7.out⟩):P:=h
theorem ended_first (hp:p<4294967296) (x:ByteArray) (hx:x.size<=5000) (h:PR w B g q v f bd t o p b s) (hst:s.st=0) (he:s.e=0):Calls Mm 161 #[ptr g,ZD x] w λr w'=>
 r=.returned (Z8 #[])/\∃q1 v1 f1 bd1 t1 o1,PR w' B g q1 v1 f1 bd1 t1 o1 p b (s.ended p b x.data.toList)/\Step (blks g q v f bd t o) (blks g q1 v1 f1 bd1 t1 o1) w w':=by
 have es:s.ended p b x.data.toList=s.first p b x.data.toList:=by unfold Iz;rw [hst];rfl
 rw [es];have c11:=h.cs.c11;rw [hst] at c11;have H:=Dl h;clear es;have c25:=h.cs.c25;rw [he] at c25;rcases Gg x.size with h0 | h0
 ·obtain rfl:=empty_of h0;have c0:=h.cs.c0;have HH:=Dl (λw=>Hu p hp 0 w);have c24:=h.cs.c24;have z24:=h.marks 24;cases hb:Hs p 0 with
  | true=>
    have e:s.first p b (⟨#[]⟩:ByteArray).data.toList={s with clean:=true}:=by show (if Hs p 0=true then ({s with clean:=true}:S) else s.fail 400)= _;rw [hb];rfl
    rw [e];have H2:=Dl (h.put 24 (ZB true) {s with clean:=true} rfl rfl rfl rfl rfl rfl);rw [hb] at HH;clear h hst e hx h0;go_enter JE,Lp;go_wp2_with (go_at_call 44;with_reducible refine Cm (HH.out _) ?_);first | go_end0 | refine ZF (results_none rfl _ _ _) rfl ?_
    exact ⟨rfl,_,_,_,_,_,_,H2.out,IL g 24 (ZB true) ZW⟩
  | false=>
    have e:s.first p b (⟨#[]⟩:ByteArray).data.toList=s.fail 400:=by show (if Hs p 0=true then ({s with clean:=true}:S) else s.fail 400)= _;rw [hb];rfl
    rw [e];have HFA:=Dl (fail_at h 400 400 rfl);rw [hb] at HH;clear h hst e hx h0 c24 z24;go_enter JE,Lp
    go_upto_region 5 with (first
     |(go_at_call 115;with_reducible refine HFA.out.mono ?_;rintro r w2 ⟨rfl,hP,hS⟩)
     |(go_at_call 44;with_reducible refine Cm (HH.out _) ?_))
    clear c0 c11 c25;have c25:=hP.cs.c25;have c24:=hP.cs.c24;have z24:=hP.marks 24;have c25':w2.cell? ⟨g,25,none⟩=some (ZE Z7 400):=c25;clear c25
    have H2:=Dl (hP.put 24 (ZB false) (s.fail 400) rfl rfl rfl rfl rfl rfl);have HS:=Dl (hS.trans (IL g 24 (ZB false) ZW));clear hP hS HFA;exact XX5kR
 ·have hne:=list_ne h0;have te:=Fd.first_no x h0
  have HQ:=Dl ((h.drew 1).bk);have hz:=λw=>Rq.rrequest_any x p hp b.x0 b.x1 b.x2 b.x3 b.x4 b.x5 b.x6 b.x7 b.ch b.od w ZZ;unfold S.first;rw [ZO hne];obtain ⟨⟨m1,t1,qk,qe⟩,hq⟩:∃Q,Is (Rq.clOf p) b.od x.data.toList=Q:=⟨_,rfl⟩;rw [hq] at hz;simp only [Rq.rv] at hz;rw [hq];obtain ⟨qm,hqm⟩:∃qm,ba m1=qm:=⟨_,rfl⟩;obtain ⟨qt,hqt⟩:∃qt,ba t1=qt:=⟨_,rfl⟩;rw [hqm,hqt] at hz;have HZ:=Dl hz;simp only [hqm,hqt];clear hz hq hqm hqt hne h0 hx c25 he hst h;by_cases hqe:qe=0
  ·subst hqe;rw [ZO ZX];have HZ:=Dl (show∀w,Calls Mm 187 #[ZD x,ZE Z5 (p:Int),Z9 #[ZE Z7 b.x0,ZE Z7 b.x1,ZE Z7 b.x2,ZE Z7 b.x3,ZE Z7 b.x4,ZE Z7 b.x5,ZE Z7 b.x6,ZE Z7 b.x7,ZB b.ch,ZB b.od]] w λe w'=>e=.returned (Z8 #[ZD qm,ZD qt,ZE Z7 (qk:Int),ZE Z7 0])/\Below w.heap.size w w' from λw=>HZ.out w);go_enter JE,Lp;go_upto_region 6 with fail
   refine BO 19 [35,36,37,38,39,40,41,42,43,44,34,45,46,47,48,4,5,6,7] [eQ (ZD x),eP g 0,eP g 0,eP g 0,eQ (ZE Z5 (p:Int)),eP g 0,eP g 0,eP g 1,eQ (Z9 #[ZE Z7 b.x0,ZE Z7 b.x1,ZE Z7 b.x2,ZE Z7 b.x3,ZE Z7 b.x4,ZE Z7 b.x5,ZE Z7 b.x6,ZE Z7 b.x7,ZB b.ch,ZB b.od]),eQ (Z8 #[ZD qm,ZD qt,ZE Z7 (qk:Int),ZE Z7 0]),eQ (Z8 #[ZD qm,ZD qt,ZE Z7 (qk:Int),ZE Z7 0]),eQ (ZD qm),eQ (ZD qt),eQ (ZE Z7 (qk:Int)),eQ (ZE Z7 0),eQ (ZD qm),eQ (ZD qt),eQ (ZE Z7 (qk:Int)),eQ (ZE Z7 0)] ZY ZY ZY ZY (λ_ _ d _ _ h=>by cases d<;>exact h) ZV ZV XXa25 ?_ ?_
   ·refine ⟨?_,?_,?_,?_,?_,?_,?_,?_,?_,?_,?_,?_,?_,?_,?_,?_,?_,?_,?_,trivial⟩
    iterate 9·exact XXoMs
    ·refine BI rfl (λev w1 hR hb hh=>?_);have e35:ev (.tmp 35)= _:=hh.at 0;have e39:ev (.tmp 39)= _:=hh.at 1;have e43:ev (.tmp 43)= _:=hh.at 2;clear hh;have ef:=hR.func;refine BA 187 #[ZD x,ZE Z5 (p:Int),Z9 #[ZE Z7 b.x0,ZE Z7 b.x1,ZE Z7 b.x2,ZE Z7 b.x3,ZE Z7 b.x4,ZE Z7 b.x5,ZE Z7 b.x6,ZE Z7 b.x7,ZB b.ch,ZB b.od]] ZU ((HZ.out w1).mono ?_);exact XXUgj
    iterate 9·exact XXoMs
   intro g1 w2 hb hf;have z4:g1 4= _:=hf.at 15;have z5:g1 5= _:=hf.at 16;have z6:g1 6= _:=hf.at 17;have z7:g1 7= _:=hf.at 18;clear hf;simp only [BM,Ab,F4,F7,F6];rw [z4];rw [z5];rw [z6];rw [z7];have H1:=Dl (H.out.below hb);have HS1:=Dl (II hb (L:=blks g q v f bd t o));clear hb HQ
   have H2:=Dl ((((H1.out.put 13 (ZD qm) {s with r:={s.r with m:=qm}} rfl rfl rfl rfl rfl rfl).put 14 (ZD qt) {s with r:={s.r with m:=qm,x:=qt}} rfl rfl rfl rfl rfl rfl).put 15 (ZE Z7 (qk:Int)) {s with r:={s.r with m:=qm,x:=qt,k:=(qk:Int)}} rfl rfl rfl rfl rfl rfl).put 11 (ZE Z7 1) {s with r:={s.r with m:=qm,x:=qt,k:=(qk:Int)},st:=1} rfl rfl rfl rfl rfl rfl);have HS2:=Dl (HS1.out.trans ((((IL g 13 (ZD qm) ZW).trans (IL g 14 (ZD qt) ZW)).trans (IL g 15 (ZE Z7 (qk:Int)) ZW)).trans (IL g 11 (ZE Z7 1) ZW)));clear c11;have c11:=H1.out.cs.c11;have c13:=H1.out.cs.c13;have c14:=H1.out.cs.c14;have c15:=H1.out.cs.c15;have z11:=H1.out.marks 11;have z13:=H1.out.marks 13;have z14:=H1.out.marks 14;have z15:=H1.out.marks 15;exact XX5kR
  ·rw [ZN hqe];have tz:¬(qe:Int)=0:=by omega
   have tz':((qe:Int)==0)=false:=ZM.2 tz;clear hqe;go_enter JE,Lp;go_upto_region 6 with fail
   refine BO 19 [35,36,37,38,39,40,41,42,43,44,34,45,46,47,48,4,5,6,7] [eQ (ZD x),eP g 0,eP g 0,eP g 0,eQ (ZE Z5 (p:Int)),eP g 0,eP g 0,eP g 1,eQ (Z9 #[ZE Z7 b.x0,ZE Z7 b.x1,ZE Z7 b.x2,ZE Z7 b.x3,ZE Z7 b.x4,ZE Z7 b.x5,ZE Z7 b.x6,ZE Z7 b.x7,ZB b.ch,ZB b.od]),eQ (Z8 #[ZD qm,ZD qt,ZE Z7 (qk:Int),ZE Z7 (qe:Int)]),eQ (Z8 #[ZD qm,ZD qt,ZE Z7 (qk:Int),ZE Z7 (qe:Int)]),eQ (ZD qm),eQ (ZD qt),eQ (ZE Z7 (qk:Int)),eQ (ZE Z7 (qe:Int)),eQ (ZD qm),eQ (ZD qt),eQ (ZE Z7 (qk:Int)),eQ (ZE Z7 (qe:Int))] ZY ZY ZY ZY (λ_ _ d _ _ h=>by cases d<;>exact h) ZV ZV XXa25 ?_ ?_
   ·refine ⟨?_,?_,?_,?_,?_,?_,?_,?_,?_,?_,?_,?_,?_,?_,?_,?_,?_,?_,?_,trivial⟩
    iterate 9·exact XXoMs
    ·refine BI rfl (λev w1 hR hb hh=>?_);have e35:ev (.tmp 35)= _:=hh.at 0;have e39:ev (.tmp 39)= _:=hh.at 1;have e43:ev (.tmp 43)= _:=hh.at 2;clear hh;have ef:=hR.func;refine BA 187 #[ZD x,ZE Z5 (p:Int),Z9 #[ZE Z7 b.x0,ZE Z7 b.x1,ZE Z7 b.x2,ZE Z7 b.x3,ZE Z7 b.x4,ZE Z7 b.x5,ZE Z7 b.x6,ZE Z7 b.x7,ZB b.ch,ZB b.od]] ZU ((HZ.out w1).mono ?_);exact XXUgj
    iterate 9·exact XXoMs
   intro g1 w2 hb hf;have z4:g1 4= _:=hf.at 15;have z5:g1 5= _:=hf.at 16;have z6:g1 6= _:=hf.at 17;have z7:g1 7= _:=hf.at 18;clear hf;simp only [BM,Ab,F4,F7,F6];rw [z4];rw [z5];rw [z6];rw [z7];have HFA:=Dl (fail_any (H.out.below hb) qe);have HS1:=Dl (II hb (L:=blks g q v f bd t o));clear hb HQ;go_wp2_with (go_at_call 115;with_reducible refine HFA.out.mono ?_;rintro r w4 ⟨rfl,hP,hS⟩);first | go_end0 | refine ZF (results_none rfl _ _ _) rfl ?_
   exact ⟨rfl,_,_,_,_,_,_,hP,HS1.out.trans hS⟩
theorem XXwO9 {P:Prop} (h:P:=by
 refine Jx ZV (ptr g) (λ_ _=>by go_simp) ?_;simp only [Ab,F4,F7,F6];refine Jx ZV (ZA (some ⟨g,11,none⟩)) (λ_ _=>by go_simp) ?_;simp only [Ab,F4,F7,F6];have h1:=H.out.below hb;have ho:=H.out.own.line hb hr1 hq1;have d11:=h1.cs.c11;have z11:=h1.marks 11;refine Jr ZV (λK hK=>?_);go_simp;refine hK _ _ trivial ?_;clear hK K;refine Jx ZV (ptr g) (λ_ _=>by go_simp) ?_;simp only [Ab,F4,F7,F6];refine Jx ZV (ZA (some ⟨g,12,none⟩)) (λ_ _=>by go_simp) ?_;simp only [Ab,F4,F7,F6];have c12:=h1.cs.c12;have z12:=h1.marks 12;refine Jr ZV (λK hK=>?_);go_simp;refine hK _ _ trivial ?_;clear hK K;refine Js ?_
 have HR:=Dl (row_setL (row_setL h1.row 11 (ZE Z7 3)) 12 (ptr q1))
 have HO:=Dl ((ho.set 11 (ZE Z7 3)).set 12 (ptr q1));have HS:=Dl ((Step.line (g:=g) (q:=q) (v:=v) (f:=f) (bd:=bd) (t:=t) (o:=o) hb hq1).trans ((IL g 11 (ZE Z7 3) ZW).trans (IL g 12 (ptr q1) ZW)));clear HQ HBW hr1 hq1 c12 z12 d11 z11 h1 ho hb;go_wp2;first | go_end0 | refine ZF (results_none rfl _ _ _) rfl ?_
 exact ⟨rfl,_,_,_,_,_,_,⟨HR.out,HO.out⟩,HS.out⟩):P:=h
theorem ended_behind (x:ByteArray) (h:PR w B g q v f bd t o p b s) (hst:s.st=5):Calls Mm 161 #[ptr g,ZD x] w λr w'=>
 r=.returned (Z8 #[])/\∃q1 v1 f1 bd1 t1 o1,PR w' B g q1 v1 f1 bd1 t1 o1 p b (s.ended p b x.data.toList)/\Step (blks g q v f bd t o) (blks g q1 v1 f1 bd1 t1 o1) w w':=by
 have es:s.ended p b x.data.toList={s with st:=3,rd:=nl p b.x0}:=by unfold Iz;rw [hst];rfl
 rw [es];have c11:=h.cs.c11;rw [hst] at c11;have H:=Dl h;clear es
 have HQ:=Dl ((h.drew 1).bk);have HBW:=Dl (show B<=(w.drewN 1).heap.size from Gl h.own.ge (Gh (h.drew 1).own.lt));clear h hst;go_enter JE,Lp;go_upto_region 21 with fail
 clear c11;refine BP 12 [122,123,124,125,126,127,128,129,130,131,132,133] [eP g 0,eP g 0,eP g 0,eP g 0,eP g 0,eQ (ZE Z5 (p:Int)),eP g 0,eP g 0,eP g 1,eP g 1,eQ (ZE Z7 b.x0),λv u=>∃q1,v=ptr q1/\w.heap.size<=q1/\Ln.Rr u B q1 nil p (nl p (b.x0))] [] 6 (some 1) (.quiet 12 (.quiet 13 (.act 14 (.quiet 15 (.quiet 16 (.act 17 .done)))))) (.quiet 1 (.quiet 12 (.quiet 13 (.act 14 (.quiet 15 (.quiet 16 (.act 17 .done))))))) ZY ZY ZY ZY (λk0 h=>by cases h;kernel_rfl) (λ_ _ d _ _ h=>by cases d<;>exact h) ZV ZV ⟨BF _,BF _,BF _,BF _,BF _,BF _,BF _,BF _,BF _,BF _,BF _,((λ_ _ _ hb h=>by obtain ⟨q1,e1,h1,h2⟩:=h;exact ⟨q1,e1,h1,rr_below h2 hb⟩)),trivial⟩ trivial ZV ?_ ?_ ?_
 ·refine ⟨?_,?_,?_,?_,?_,?_,?_,?_,?_,?_,?_,?_,trivial⟩
  iterate 11·exact XXSdZ
  ·refine BI rfl (λev w1 hR hb hh=>?_);have e127:ev (.tmp 127)= _:=hh.at 0;have e132:ev (.tmp 132)= _:=hh.at 1;exact XXJwx
 ·intro g1 w2 hb hf;have z122:g1 122= _:=hf.at 0;have z123:g1 123= _:=hf.at 1;have z133:=hf.at 11;clear hf;obtain ⟨q1,e1,hq1,hr1⟩:=z133;simp only [BM,Ab,F4,F7,F6];rw [e1,z122,z123];simp only [Ju,Jw,Er,Ep];exact XXwO9
 ·intro k0 hk0 g1 w2 hb hf;cases hk0;have z122:g1 122= _:=hf.at 0;have z133:=hf.at 11;clear hf;obtain ⟨q1,e1,hq1,hr1⟩:=z133;simp only [BM,Ab,F4,F7,F6];rw [e1,z122];simp only [Ju,Jw,Er,Ep];refine Jx ZV (ptr g) (λ_ _=>by go_simp) ?_;simp only [Ab,F4,F7,F6];exact XXwO9
end
end Par
theorem XX2a9 {P:Prop} (h:P:=by have:=H1.out.own.lt;have:=H1.out.own.ge;simp;omega):P:=h
namespace Par
open Base Txt Mem
section
attribute [local go_sem] A8
variable {w:World} {B:Zone} {g q:Nat} {v f bd t o:Value} {p:Nat} {b:Bd} {s:S}
theorem body_any (c:UInt8) (h:PR w B g q v f bd t o p b s) (hst0:s.st=2∨s.st=4) (hl:1<=s.left/\s.left<=2000000) (hbl:s.r.body.length<=2000000) (hout:s.out.length<=1000000000):Calls Mm 116 #[ptr g,ZE Z6 (c.toNat:Int)] w λr w'=>
 r=.returned (Z8 #[])/\∃q1 v1 f1 bd1 t1 o1,PR w' B g q1 v1 f1 bd1 t1 o1 p b (S.bodyB p b {s with fresh:=false} c)/\Step (blks g q v f bd t o) (blks g q1 v1 f1 bd1 t1 o1) w w':=by
 obtain ⟨iB,hi,hz0,hz1,hz2⟩:=info_parts byte_info;have I1:=Dl hi;have I2:=Dl hz0;have I3:=Dl hz1;have I4:=Dl hz2;obtain ⟨bb,cb,eb, -⟩:=FV h.own.D;subst eb;have H:=Dl h;have HBL:=Dl hbl;have HOU:=Dl hout
 have H1:=Dl (h.put 23 (ZB false) {s with fresh:=false} rfl rfl rfl rfl rfl rfl);have HS1:=Dl (IL (w:=w) (L:=blks g q v f (.slice bb s.r.body.length cb) t o) g 23 (ZB false) ZW);have c23:=h.cs.c23;have z23:=h.marks 23;clear hi hz0 hz1 hz2 hbl hout h;by_cases hmore:1<s.left
 ·obtain ⟨k,hleft⟩:∃k,s.left=k+1:=⟨s.left-1,ZZ⟩;have e:S.bodyB p b {s with fresh:=false} c={s with fresh:=false,r:={s.r with body:=s.r.body ++ [c]},left:=k}:=by
   unfold S.bodyB;show (if 1<s.left then ({s with fresh:=false,r:={s.r with body:=s.r.body ++ [c]},left:=s.left-1}:S) else _)= _;rw [ZN hmore,hleft];rfl
  rw [e];obtain ⟨a1,a2⟩:=Ih (k:Int) ⟨ZZ,ZZ⟩;have a3:(k:Int)+1-1=(k:Int):=ZZ;have t1:(0:Int)<(k:Int):=ZZ;have t1n:0<k:=ZZ;clear e hmore;rcases hst0 with hst | hst
  ·clear hl;have HST:=Dl hst;have HLE:=Dl hleft;clear hst hleft;have c11:w.cell? ⟨g,11,none⟩=some (ZE Z7 2):=by have:=H.out.cs.c11;rw [HST.out] at this;exact this
   go_enter J5,Lf;go_upto_region 2 with fail
   generalize w.setCell ⟨g,23,none⟩ (ZB false)=W1 at *;clear c11 c23 z23;have c18:=H1.out.cs.c18;have z18:=H1.out.marks 18;go_upto_region 3 with
    (at_builtin;refine Ai _ rfl _ _ 22 rfl B 5 iB (.int .u8 0) 1 1 MZ I1.out I2.out I3.out I4.out rfl ZX (.slice bb s.r.body.length cb) s.r.body.length (Rec.vals s.r.body) rfl (H1.out.own.D.alloc (.cells #[Ib c] 5)) (some ⟨W1.heap.size,0,none⟩) 1 1 [Ib c] rfl rfl (λ_=>⟨W1.heap.size,0,rfl,λj u hu=>by rw [Gy];exact (Hw W1 _ rfl 5 [Ib c]).c j u hu⟩) (λu hu=>by rw [Fv.1 hu];rfl) XXc64 (by have:=HBL.out;omega) XX2a9 ?_;intro v2 w5 hO5 hgr5 _ hor5;obtain ⟨b9,c9,e9, -⟩:=FV hO5;subst e9;have hk5:Keeps [(.slice bb s.r.body.length cb:Value).ownBlock] (W1.alloc (.cells #[Ib c] 5)) w5:=CP hgr5 λk e=>by rw [e];exact Fv.2 rfl
     have h4:=H1.out.below ((AE _ _).alloc (Gi _) (.cells #[Ib c] 5));have hl:(s.r.body ++ [c]).length=s.r.body.length+1:=ZW
     obtain ⟨ho5,hs5⟩:=h4.own.setD (bd':=.slice b9 (s.r.body.length+1) c9) (body':=s.r.body ++ [c]) hk5 XXca6 (by
      rcases hor5 with e | e
      ·exact .inl e
      ·exact .inr ⟨_,e,Gi _⟩)
     have hrow:w5.heap[g]?= _:=hk5.row h4.row (λhm=>by
      have e:some g=(.slice bb s.r.body.length cb:Value).ownBlock:=by simpa using hm
      exact h4.own.lone.ne (i:=0) (j:=4) rfl ZX XX1c2)
     have HR5:=Dl hrow;have HO5:=Dl ho5;have HS5:=Dl ((II ((AE W1.heap.size W1).alloc (Gi _) (.cells #[Ib c] 5))).trans hs5);have d18:=row_cellL hrow (k:=18) rfl;have y18:=FX hrow 18;clear hO5 hgr5 hor5 hk5 h4 hl ho5 hs5 hrow c18 z18)
   have H6:=Dl (show PR (w5.setCell ⟨g,18,none⟩ (.slice b9 (s.r.body.length+1) c9)) B g q v f (.slice b9 (s.r.body.length+1) c9) t o p b {s with fresh:=false,r:={s.r with body:=s.r.body ++ [c]}} from ⟨row_setL HR5.out 18 (.slice b9 (s.r.body.length+1) c9),HO5.out.set 18 (.slice b9 (s.r.body.length+1) c9)⟩);have HS6:=Dl ((HS1.out.trans HS5.out).trans (IL g 18 (.slice b9 (s.r.body.length+1) c9) ZW));clear HR5 HO5 HS5 d18 y18 HS1;generalize w5.setCell ⟨g,18,none⟩ (.slice b9 (s.r.body.length+1) c9)=W6 at *;have c22:W6.cell? ⟨g,22,none⟩=some (ZE Z7 ((k:Int)+1)):=by have:=H6.out.cs.c22;rw [HLE.out] at this;exact this
   have z22:=H6.out.marks 22;have c11:W6.cell? ⟨g,11,none⟩=some (ZE Z7 2):=by have:=H6.out.cs.c11;rw [HST.out] at this;exact this
   have H7:=Dl (H6.out.put 22 (ZE Z7 (k:Int)) {s with fresh:=false,r:={s.r with body:=s.r.body ++ [c]},left:=k} rfl rfl rfl rfl rfl rfl);have HS7:=Dl (HS6.out.trans (IL g 22 (ZE Z7 (k:Int)) ZW));clear HS6 H1;clear H6;exact XX5kR
  ·clear hl;have HST:=Dl hst;have HLE:=Dl hleft;clear hst hleft;have c11:w.cell? ⟨g,11,none⟩=some (ZE Z7 4):=by have:=H.out.cs.c11;rw [HST.out] at this;exact this
   go_enter J5,Lf;go_upto_region 2 with fail
   generalize w.setCell ⟨g,23,none⟩ (ZB false)=W1 at *;clear c11 c23 z23;have c18:=H1.out.cs.c18;have z18:=H1.out.marks 18;go_upto_region 3 with
    (at_builtin;refine Ai _ rfl _ _ 22 rfl B 5 iB (.int .u8 0) 1 1 MZ I1.out I2.out I3.out I4.out rfl ZX (.slice bb s.r.body.length cb) s.r.body.length (Rec.vals s.r.body) rfl (H1.out.own.D.alloc (.cells #[Ib c] 5)) (some ⟨W1.heap.size,0,none⟩) 1 1 [Ib c] rfl rfl (λ_=>⟨W1.heap.size,0,rfl,λj u hu=>by rw [Gy];exact (Hw W1 _ rfl 5 [Ib c]).c j u hu⟩) (λu hu=>by rw [Fv.1 hu];rfl) XXc64 (by have:=HBL.out;omega) XX2a9 ?_;intro v2 w5 hO5 hgr5 _ hor5;obtain ⟨b9,c9,e9, -⟩:=FV hO5;subst e9;have hk5:Keeps [(.slice bb s.r.body.length cb:Value).ownBlock] (W1.alloc (.cells #[Ib c] 5)) w5:=CP hgr5 λk e=>by rw [e];exact Fv.2 rfl
     have h4:=H1.out.below ((AE _ _).alloc (Gi _) (.cells #[Ib c] 5));have hl:(s.r.body ++ [c]).length=s.r.body.length+1:=ZW
     obtain ⟨ho5,hs5⟩:=h4.own.setD (bd':=.slice b9 (s.r.body.length+1) c9) (body':=s.r.body ++ [c]) hk5 XXca6 (by
      rcases hor5 with e | e
      ·exact .inl e
      ·exact .inr ⟨_,e,Gi _⟩)
     have hrow:w5.heap[g]?= _:=hk5.row h4.row (λhm=>by
      have e:some g=(.slice bb s.r.body.length cb:Value).ownBlock:=by simpa using hm
      exact h4.own.lone.ne (i:=0) (j:=4) rfl ZX XX1c2)
     have HR5:=Dl hrow;have HO5:=Dl ho5;have HS5:=Dl ((II ((AE W1.heap.size W1).alloc (Gi _) (.cells #[Ib c] 5))).trans hs5);have d18:=row_cellL hrow (k:=18) rfl;have y18:=FX hrow 18;clear hO5 hgr5 hor5 hk5 h4 hl ho5 hs5 hrow c18 z18)
   have H6:=Dl (show PR (w5.setCell ⟨g,18,none⟩ (.slice b9 (s.r.body.length+1) c9)) B g q v f (.slice b9 (s.r.body.length+1) c9) t o p b {s with fresh:=false,r:={s.r with body:=s.r.body ++ [c]}} from ⟨row_setL HR5.out 18 (.slice b9 (s.r.body.length+1) c9),HO5.out.set 18 (.slice b9 (s.r.body.length+1) c9)⟩);have HS6:=Dl ((HS1.out.trans HS5.out).trans (IL g 18 (.slice b9 (s.r.body.length+1) c9) ZW));clear HR5 HO5 HS5 d18 y18 HS1;generalize w5.setCell ⟨g,18,none⟩ (.slice b9 (s.r.body.length+1) c9)=W6 at *;have c22:W6.cell? ⟨g,22,none⟩=some (ZE Z7 ((k:Int)+1)):=by have:=H6.out.cs.c22;rw [HLE.out] at this;exact this
   have z22:=H6.out.marks 22;have c11:W6.cell? ⟨g,11,none⟩=some (ZE Z7 4):=by have:=H6.out.cs.c11;rw [HST.out] at this;exact this
   have H7:=Dl (H6.out.put 22 (ZE Z7 (k:Int)) {s with fresh:=false,r:={s.r with body:=s.r.body ++ [c]},left:=k} rfl rfl rfl rfl rfl rfl);have HS7:=Dl (HS6.out.trans (IL g 22 (ZE Z7 (k:Int)) ZW));clear HS6 H1;clear H6;exact XX5kR
 ·have hleft:s.left=1:=by omega
  rcases hst0 with hst | hst
  ·have e:S.bodyB p b {s with fresh:=false} c=S.whole p b {s with fresh:=false,r:={s.r with body:=s.r.body ++ [c]},left:=0}:=by
    unfold S.bodyB;show (if 1<s.left then _ else if s.st=2 then S.whole p b {s with fresh:=false,r:={s.r with body:=s.r.body ++ [c]},left:=s.left-1} else _)= _;rw [ZO hmore,ZN hst,hleft]
   rw [e];clear e hmore hl;have HST:=Dl hst;have HLE:=Dl hleft;clear hst hleft;have c11:w.cell? ⟨g,11,none⟩=some (ZE Z7 2):=by have:=H.out.cs.c11;rw [HST.out] at this;exact this
   go_enter J5,Lf;go_upto_region 2 with fail
   generalize w.setCell ⟨g,23,none⟩ (ZB false)=W1 at *;clear c11 c23 z23;have c18:=H1.out.cs.c18;have z18:=H1.out.marks 18;go_upto_region 3 with
    (at_builtin;refine Ai _ rfl _ _ 22 rfl B 5 iB (.int .u8 0) 1 1 MZ I1.out I2.out I3.out I4.out rfl ZX (.slice bb s.r.body.length cb) s.r.body.length (Rec.vals s.r.body) rfl (H1.out.own.D.alloc (.cells #[Ib c] 5)) (some ⟨W1.heap.size,0,none⟩) 1 1 [Ib c] rfl rfl (λ_=>⟨W1.heap.size,0,rfl,λj u hu=>by rw [Gy];exact (Hw W1 _ rfl 5 [Ib c]).c j u hu⟩) (λu hu=>by rw [Fv.1 hu];rfl) XXc64 (by have:=HBL.out;omega) XX2a9 ?_;intro v2 w5 hO5 hgr5 _ hor5;obtain ⟨b9,c9,e9, -⟩:=FV hO5;subst e9;have hk5:Keeps [(.slice bb s.r.body.length cb:Value).ownBlock] (W1.alloc (.cells #[Ib c] 5)) w5:=CP hgr5 λk e=>by rw [e];exact Fv.2 rfl
     have h4:=H1.out.below ((AE _ _).alloc (Gi _) (.cells #[Ib c] 5));have hl:(s.r.body ++ [c]).length=s.r.body.length+1:=ZW
     obtain ⟨ho5,hs5⟩:=h4.own.setD (bd':=.slice b9 (s.r.body.length+1) c9) (body':=s.r.body ++ [c]) hk5 XXca6 (by
      rcases hor5 with e | e
      ·exact .inl e
      ·exact .inr ⟨_,e,Gi _⟩)
     have hrow:w5.heap[g]?= _:=hk5.row h4.row (λhm=>by
      have e:some g=(.slice bb s.r.body.length cb:Value).ownBlock:=by simpa using hm
      exact h4.own.lone.ne (i:=0) (j:=4) rfl ZX XX1c2)
     have HR5:=Dl hrow;have HO5:=Dl ho5;have HS5:=Dl ((II ((AE W1.heap.size W1).alloc (Gi _) (.cells #[Ib c] 5))).trans hs5);have d18:=row_cellL hrow (k:=18) rfl;have y18:=FX hrow 18;clear hO5 hgr5 hor5 hk5 h4 hl ho5 hs5 hrow c18 z18)
   have H6:=Dl (show PR (w5.setCell ⟨g,18,none⟩ (.slice b9 (s.r.body.length+1) c9)) B g q v f (.slice b9 (s.r.body.length+1) c9) t o p b {s with fresh:=false,r:={s.r with body:=s.r.body ++ [c]}} from ⟨row_setL HR5.out 18 (.slice b9 (s.r.body.length+1) c9),HO5.out.set 18 (.slice b9 (s.r.body.length+1) c9)⟩);have HS6:=Dl ((HS1.out.trans HS5.out).trans (IL g 18 (.slice b9 (s.r.body.length+1) c9) ZW));clear HR5 HO5 HS5 d18 y18 HS1;generalize w5.setCell ⟨g,18,none⟩ (.slice b9 (s.r.body.length+1) c9)=W6 at *;have c22:W6.cell? ⟨g,22,none⟩=some (ZE Z7 1):=by have:=H6.out.cs.c22;rw [HLE.out] at this;exact this
   have z22:=H6.out.marks 22;have c11:W6.cell? ⟨g,11,none⟩=some (ZE Z7 2):=by have:=H6.out.cs.c11;rw [HST.out] at this;exact this
   have H7:=Dl (H6.out.put 22 (ZE Z7 0) {s with fresh:=false,r:={s.r with body:=s.r.body ++ [c]},left:=0} rfl rfl rfl rfl rfl rfl);have HS7:=Dl (HS6.out.trans (IL g 22 (ZE Z7 0) ZW));clear HS6 H1;clear H6
   have HW:=Dl (whole_any H7.out HOU.out);go_wp2_with (go_at_call 158;with_reducible refine HW.out.mono ?_;rintro r w7 ⟨rfl,q1,o1,hP,hS⟩);first | go_end0 | refine ZF (results_none rfl _ _ _) rfl ?_
   exact ⟨rfl,_,_,_,_,_,_,hP,HS7.out.trans hS⟩
  ·have e:S.bodyB p b {s with fresh:=false} c={s with fresh:=false,r:={s.r with body:=s.r.body ++ [c]},left:=0,st:=5,rd:=nl p 0}:=by
    unfold S.bodyB;show (if 1<s.left then _ else if s.st=2 then _ else ({s with fresh:=false,r:={s.r with body:=s.r.body ++ [c]},left:=s.left-1,st:=5,rd:=nl p 0}:S))= _;rw [ZO hmore,ZO ZZ,hleft]
   rw [e];clear e hmore hl;have HST:=Dl hst;have HLE:=Dl hleft;clear hst hleft;have c11:w.cell? ⟨g,11,none⟩=some (ZE Z7 4):=by have:=H.out.cs.c11;rw [HST.out] at this;exact this
   go_enter J5,Lf;go_upto_region 2 with fail
   generalize w.setCell ⟨g,23,none⟩ (ZB false)=W1 at *;clear c11 c23 z23;have c18:=H1.out.cs.c18;have z18:=H1.out.marks 18;go_upto_region 3 with
    (at_builtin;refine Ai _ rfl _ _ 22 rfl B 5 iB (.int .u8 0) 1 1 MZ I1.out I2.out I3.out I4.out rfl ZX (.slice bb s.r.body.length cb) s.r.body.length (Rec.vals s.r.body) rfl (H1.out.own.D.alloc (.cells #[Ib c] 5)) (some ⟨W1.heap.size,0,none⟩) 1 1 [Ib c] rfl rfl (λ_=>⟨W1.heap.size,0,rfl,λj u hu=>by rw [Gy];exact (Hw W1 _ rfl 5 [Ib c]).c j u hu⟩) (λu hu=>by rw [Fv.1 hu];rfl) XXc64 (by have:=HBL.out;omega) XX2a9 ?_;intro v2 w5 hO5 hgr5 _ hor5;obtain ⟨b9,c9,e9, -⟩:=FV hO5;subst e9;have hk5:Keeps [(.slice bb s.r.body.length cb:Value).ownBlock] (W1.alloc (.cells #[Ib c] 5)) w5:=CP hgr5 λk e=>by rw [e];exact Fv.2 rfl
     have h4:=H1.out.below ((AE _ _).alloc (Gi _) (.cells #[Ib c] 5));have hl:(s.r.body ++ [c]).length=s.r.body.length+1:=ZW
     obtain ⟨ho5,hs5⟩:=h4.own.setD (bd':=.slice b9 (s.r.body.length+1) c9) (body':=s.r.body ++ [c]) hk5 XXca6 (by
      rcases hor5 with e | e
      ·exact .inl e
      ·exact .inr ⟨_,e,Gi _⟩)
     have hrow:w5.heap[g]?= _:=hk5.row h4.row (λhm=>by
      have e:some g=(.slice bb s.r.body.length cb:Value).ownBlock:=by simpa using hm
      exact h4.own.lone.ne (i:=0) (j:=4) rfl ZX XX1c2)
     have HR5:=Dl hrow;have HO5:=Dl ho5;have HS5:=Dl ((II ((AE W1.heap.size W1).alloc (Gi _) (.cells #[Ib c] 5))).trans hs5);have d18:=row_cellL hrow (k:=18) rfl;have y18:=FX hrow 18;clear hO5 hgr5 hor5 hk5 h4 hl ho5 hs5 hrow c18 z18)
   have H6:=Dl (show PR (w5.setCell ⟨g,18,none⟩ (.slice b9 (s.r.body.length+1) c9)) B g q v f (.slice b9 (s.r.body.length+1) c9) t o p b {s with fresh:=false,r:={s.r with body:=s.r.body ++ [c]}} from ⟨row_setL HR5.out 18 (.slice b9 (s.r.body.length+1) c9),HO5.out.set 18 (.slice b9 (s.r.body.length+1) c9)⟩);have HS6:=Dl ((HS1.out.trans HS5.out).trans (IL g 18 (.slice b9 (s.r.body.length+1) c9) ZW));clear HR5 HO5 HS5 d18 y18 HS1;generalize w5.setCell ⟨g,18,none⟩ (.slice b9 (s.r.body.length+1) c9)=W6 at *;have c22:W6.cell? ⟨g,22,none⟩=some (ZE Z7 1):=by have:=H6.out.cs.c22;rw [HLE.out] at this;exact this
   have z22:=H6.out.marks 22;have c11:W6.cell? ⟨g,11,none⟩=some (ZE Z7 4):=by have:=H6.out.cs.c11;rw [HST.out] at this;exact this
   have H7:=Dl (H6.out.put 22 (ZE Z7 0) {s with fresh:=false,r:={s.r with body:=s.r.body ++ [c]},left:=0} rfl rfl rfl rfl rfl rfl);have HS7:=Dl (HS6.out.trans (IL g 22 (ZE Z7 0) ZW));clear HS6 H1;clear H6;go_upto_region 4 with fail
   generalize W6.setCell ⟨g,22,none⟩ (ZE Z7 0)=W7 at *;clear c22 z22 c11;have c0:=H7.out.cs.c0;have e11:=H7.out.cs.c11;have e12:=H7.out.cs.c12;have z11:=H7.out.marks 11;have z12:=H7.out.marks 12;have HNL:=Dl (rnew_line (p:=p) B 0 W7 (Gl H7.out.own.ge (Gh H7.out.own.lt)));go_wp2_with
    (go_at_call 113;with_reducible refine HNL.out.mono ?_;rintro r w8 ⟨q1,rfl,hq1,hr1,hb8⟩
     have d11:=(hb8.cell (p:=⟨g,11,none⟩) H7.out.own.lt).trans e11;have d12:=(hb8.cell (p:=⟨g,12,none⟩) H7.out.own.lt).trans e12;have y11:=(hb8.frozen (p:=⟨g,11,none⟩) H7.out.own.lt).trans z11;have y12:=(hb8.frozen (p:=⟨g,12,none⟩) H7.out.own.lt).trans z12;have HR8:=Dl ((H7.out.below hb8).row);have HO8:=Dl (H7.out.own.line hb8 hr1 hq1);have HS8:=Dl (HS7.out.trans (Step.line hb8 hq1));clear hb8 hr1 hq1 e11 e12 z11 z12)
   first | go_end0 | refine ZF (results_none rfl _ _ _) rfl ?_
   exact ⟨rfl,_,_,_,_,_,_,⟨row_setL (row_setL HR8.out 11 (ZE Z7 5)) 12 (ptr q1),(HO8.out.set 11 (ZE Z7 5)).set 12 (ptr q1)⟩,HS8.out.trans ((IL g 11 (ZE Z7 5) ZW).trans (IL g 12 (ptr q1) ZW))⟩
end
end Par
namespace Par
open Base Txt Mem
section
variable {w w':World} {B:Zone} {g q:Nat} {v f bd t o:Value} {p:Nat} {rd:Ln.R} {fs ts:List Fld} {body:List UInt8} {out:List Hz}
theorem Own.reader (h:Own w B g q v f bd t o p rd fs body ts out) {v':Value} {rd':Ln.R} (hk:Ln.Kept q v.ownBlock w w') (hm:Ln.Moved w v.ownBlock v'.ownBlock) (hr:Ln.Rr w' B q v' p rd') :
 Own w' B g q v' f bd t o p rd' fs body ts out/\Step (blks g q v f bd t o) (blks g q v' f bd t o) w w'/\Keeps [some q,v.ownBlock] w w':=by
 have hk2:Keeps [some q,v.ownBlock] w w':=Keeps.of_kept hk ZW λk e=>by simp [e]
 have hn:∀i j,i≠1->i≠2->(blks g q v f bd t o)[i]?=some (some j)->some j∉ [some q,v.ownBlock]:=λi j h1 h2 hj hm=>by exact XXVqF
 have e:blks g q v' f bd t o=(blks g q v f bd t o).set 2 v'.ownBlock:=rfl;have ho:v'.ownBlock=none∨(blks g q v f bd t o)[2]?=some v'.ownBlock∨∃k,v'.ownBlock=some k/\w.heap.size<=k:=by
  rcases hm with e | e | e
  ·exact .inr (.inl XX1c2)
  ·exact .inl e
  ·exact .inr (.inr e)
 have hof:Of w (blks g q v f bd t o) (blks g q v' f bd t o):=by rw [e];exact Of.set 2 _ ho
 have hkL:Keeps (blks g q v f bd t o) w w':=hk2.mono λk hk=>by
  rcases (by simpa using hk:k=q∨some k=v.ownBlock) with e | e
  ·simp [e]
  ·simp [e]
 obtain ⟨ps,h1,h2,h3⟩:=h.O
 refine ⟨⟨hr,hk2.own h.F λj e=>hn 3 j ZX ZX XXd29,hk2.own h.D λj e=>hn 4 j ZX ZX XXd29,hk2.own h.T λj e=>hn 5 j ZX ZX XXd29,
  ⟨ps,h1,λx hx=>⟨(h2 x hx).1,by
    have hx2:=(h2 x hx).2.keeps hkL
    exact ⟨hx2.reads,λk hb=>⟨λhm=>by
     rcases hof k hm with e | e
     ·exact (hx2.far k hb).1 e
     ·exact ZG ((h2 x hx).2.far k hb).2 ZZ,(hx2.far k hb).2⟩,hx2.off⟩⟩,hk2.own h3 λj e=>hn 6 j ZX ZX XXd29⟩,?_,h.ge,Gn h.lt hk2.size,h.zone.of hk2.size hof⟩,⟨hkL,hof⟩,hk2⟩
 rw [e];exact h.lone.set h.in 2 _ ho
theorem PR.reader {b:Bd} {s:S} (h:PR w B g q v f bd t o p b s) {v':Value} {rd':Ln.R} (hk:Ln.Kept q v.ownBlock w w') (hm:Ln.Moved w v.ownBlock v'.ownBlock) (hr:Ln.Rr w' B q v' p rd') :
 PR w' B g q v' f bd t o p b {s with rd:=rd'}/\Step (blks g q v f bd t o) (blks g q v' f bd t o) w w':=by
 obtain ⟨h1,h2,h3⟩:=h.own.reader hk hm hr;refine ⟨⟨h3.row h.row λhm=>?_,h1⟩,h2⟩;rcases (by simpa using hm:g=q∨some g=v.ownBlock) with e | e
 ·exact ZG (h.own.lone 0 1 g rfl XX1c2) ZX
 ·exact ZG (h.own.lone 0 2 g rfl XX1c2) ZX
end
section
attribute [local go_sem] A8
variable {w:World} {B:Zone} {g q:Nat} {v f bd t o:Value} {p:Nat} {b:Bd} {s:S}
theorem XXxcF {P:Prop} (h:P:=by
 clear h hst;go_enter Tryz.func160,Tryz.ntmps160
 go_wp2_with (first
  |(go_at_call 115;with_reducible refine HFA.out.mono ?_;rintro r w2 ⟨rfl,hP,hS⟩)
  |(go_at_call 44;with_reducible refine Cm (HH.out _) ?_))
 first | go_end0 | refine ZF (results_none rfl _ _ _) rfl ?_
 exact ⟨rfl,hP,hS⟩):P:=h
theorem long_any (hp:p<4294967296) (c:UInt8) (h:PR w B g q v f bd t o p b s) (hs:s.st=0∨s.st=1∨s.st=3∨s.st=5∨s.st=6) (hb:s.st=5->Hs p 29=false):Calls Mm 160 #[ptr g,ZE Z6 (c.toNat:Int)] w λr w'=>
 r=.returned (Z8 #[])/\PR w' B g q v nil nil nil o p b (s.fail (longE s.st))/\Step (blks g q v f bd t o) (blks g q v nil nil nil o) w w':=by
 have HH:=Dl (λw=>Hu p hp 29 w);rcases hs with hst | hst | hst | hst | hst
 ·have e:longE s.st=414:=by rw [hst];rfl
  rw [e];clear hb e;have c11:w.cell? ⟨g,11,none⟩=some (ZE Z7 0):=by have:=h.cs.c11;rw [hst] at this;exact this
  have HFA:=Dl (fail_at h 414 414 rfl);exact XXxcF
 ·have e:longE s.st=431:=by rw [hst];rfl
  rw [e];clear hb e;have c11:w.cell? ⟨g,11,none⟩=some (ZE Z7 1):=by have:=h.cs.c11;rw [hst] at this;exact this
  have HFA:=Dl (fail_at h 431 431 rfl);exact XXxcF
 ·have e:longE s.st=400:=by rw [hst];rfl
  rw [e];clear hb e;have c11:w.cell? ⟨g,11,none⟩=some (ZE Z7 3):=by have:=h.cs.c11;rw [hst] at this;exact this
  have HFA:=Dl (fail_at h 400 400 rfl);exact XXxcF
 ·have e:longE s.st=400:=by rw [hst];rfl
  rw [e];rw [hb hst] at HH;clear hb e;have c11:w.cell? ⟨g,11,none⟩=some (ZE Z7 5):=by have:=h.cs.c11;rw [hst] at this;exact this
  have HFA:=Dl (fail_at h 400 400 rfl);have c0:=h.cs.c0;exact XXxcF
 ·have e:longE s.st=431:=by rw [hst];rfl
  rw [e];clear hb e;have c11:w.cell? ⟨g,11,none⟩=some (ZE Z7 6):=by have:=h.cs.c11;rw [hst] at this;exact this
  have HFA:=Dl (fail_at h 431 431 rfl);exact XXxcF
end
end Par
theorem XXe5Z {P:Prop} (h:P:=by rcases hs with e | e | e | e | e<;>omega):P:=h
namespace Par
open Base Txt Mem
def lined (st:Nat):Prop:=st=0∨st=1∨st=3∨st=5∨st=6
structure LineOk (p:Nat) (q:Ln.R):Prop where
 lf:q.lf=Hs p 1
 cr:q.cr=Hs p 2
 most:q.most<=4096
 len:q.B.length<=q.most
theorem how_plain (q:Ln.R) (c:UInt8) (h:q.CR=false):q.how c=0∨q.how c=1∨q.how c=3∨q.how c=4:=by
 unfold Ln.R.how;rw [h]
 repeat' split
 all_goals simp_all
theorem byte_L (q:Ln.R) (c:UInt8) (h:q.how c=1∨q.how c=2):(q.byte c).L=q.B:=by
 unfold Ln.R.how at h;unfold Ln.R.byte
 repeat' split
 all_goals first | rfl |(exfalso;simp_all)
section
attribute [local go_sem] A8
variable {w:World} {B:Zone} {g q:Nat} {v f bd t o:Value} {p:Nat} {b:Bd} {s:S}
theorem ended_any (hp:p<4294967296) (h3:16<=b.x3/\b.x3<=1048576) (h4:0<=b.x4) (x:ByteArray) (hx:x.size<=5000) (h:PR w B g q v f bd t o p b s) (hs:lined s.st) (he:s.e=0) (ok:Fits s):Calls Mm 161 #[ptr g,ZD x] w λr w'=>
 r=.returned (Z8 #[])/\∃q1 v1 f1 bd1 t1 o1,PR w' B g q1 v1 f1 bd1 t1 o1 p b (s.ended p b x.data.toList)/\Step (blks g q v f bd t o) (blks g q1 v1 f1 bd1 t1 o1) w w':=by
 rcases hs with hst | hst | hst | hst | hst
 ·exact ended_first hp x hx h hst he
 ·exact ended_fields hp h3 x hx h hst ok
 ·exact ended_size hp h3 h4 x hx h hst ok
 ·exact ended_behind x h hst
 ·exact ended_trail hp x hx h hst ok
theorem XXRMR {P:Prop} (h:P:=by
 go_enter J5,Lf;go_upto_region 8 with fail
 generalize w.setCell ⟨g,23,none⟩ (ZB false)=W1 at *;clear c23 z23 c11;have c12:=H1.out.cs.c12
 go_wp2_with (first
  |(go_at_call 161;with_reducible refine (HEN.out _ _ _ HP2.out).mono ?_;rintro r w3 ⟨rfl,q1,v1,f1,bd1,t1,o1,hP3,hS3⟩)
  |(go_at_call 159;with_reducible refine HRB.out.mono ?_;rintro r w2 ⟨v2,rfl,hr2,hk2,hm2⟩
    obtain ⟨hP2,hS2⟩:=H1.out.reader hk2 hm2 hr2;have HP2:=Dl hP2;have HS2:=Dl (HS1.out.trans hS2);have c11:=hP2.cs.c11;have c12:=hP2.cs.c12;have y4:w2.cell? ⟨q,4,none⟩=some (ZD x):=by rw [←HX.out];exact Ln.row_cell hr2.row (k:=4) rfl
    clear hr2 hk2 hm2 hP2 hS2))
 first | go_end0 | refine ZF (results_none rfl _ _ _) rfl ?_
 exact ⟨rfl,_,_,_,_,_,_,hP3,HS2.out.trans hS3⟩):P:=h
theorem XXKEP {P:Prop} (h:P:=by
 go_enter J5,Lf;go_upto_region 8 with fail
 generalize w.setCell ⟨g,23,none⟩ (ZB false)=W1 at *;clear c23 z23 c11;have c12:=H1.out.cs.c12;go_wp2_with
  (go_at_call 159;with_reducible refine HRB.out.mono ?_;rintro r w2 ⟨v2,rfl,hr2,hk2,hm2⟩
   obtain ⟨hP2,hS2⟩:=H1.out.reader hk2 hm2 hr2;have HP2:=Dl hP2;have HS2:=Dl (HS1.out.trans hS2);clear hr2 hk2 hm2 hP2 hS2)
 first | go_end0 | refine ZF (results_none rfl _ _ _) rfl ?_
 exact ⟨rfl,_,_,_,_,_,_,HP2.out,HS2.out⟩):P:=h
theorem XXtPE {P:Prop} (h:P:=by exact ⟨rfl,_,_,_,_,_,_,hP3,HS2.out.trans hS3⟩):P:=h
theorem plain_any (hp:p<4294967296) (h3:16<=b.x3/\b.x3<=1048576) (h4:0<=b.x4) (c:UInt8) (h:PR w B g q v f bd t o p b s) (hs:lined s.st) (he:s.e=0) (ok:Fits s) (hl:LineOk p s.rd) (hcr:s.rd.CR=false) (h5:s.st=5->s.rd.how c=4->Hs p 29=false) :
 Calls Mm 116 #[ptr g,ZE Z6 (c.toNat:Int)] w λr w'=>r=.returned (Z8 #[])/\∃q1 v1 f1 bd1 t1 o1,PR w' B g q1 v1 f1 bd1 t1 o1 p b (s.plain p b c)/\Step (blks g q v f bd t o) (blks g q1 v1 f1 bd1 t1 o1) w w':=by
 have hbod:bodied s.st=false:=by rcases hs with e | e | e | e | e<;>rw [e]<;>rfl
 have t2:((s.st:Int)==2)=false:=ZM.2 XXe5Z;have t4:((s.st:Int)==4)=false:=ZM.2 XXe5Z;have n2:¬(s.st:Int)=2:=ZM.1 t2;have n4:¬(s.st:Int)=4:=ZM.1 t4;have m2:¬s.st=2:=ZZ;have m4:¬s.st=4:=ZZ
 have H1:=Dl (h.put 23 (ZB false) {s with fresh:=false} rfl rfl rfl rfl rfl rfl);have HS1:=Dl (IL (w:=w) (L:=blks g q v f bd t o) g 23 (ZB false) ZW);have c23:=h.cs.c23;have z23:=h.marks 23;have c11:=h.cs.c11;have hrb:=Ln.rbyte_any c s.rd hl.most p hp hl.lf hl.cr (w.setCell ⟨g,23,none⟩ (ZB false)) B q v H1.out.own.R;clear h;have hL:s.rd.how c=1->(s.rd.byte c).L.length<=5000:=λe=>by rw [byte_L s.rd c (.inl e)];have:=hl.len;have:=hl.most;omega
 rcases how_plain s.rd c hcr with hw | hw | hw | hw
 ·have e:s.plain p b c={s with fresh:=false,rd:=s.rd.byte c}:=by unfold I6;simp [hbod,hw]
  rw [e];rw [hw] at hrb;have HRB:=Dl hrb;clear e hw hL hrb h5 hbod hs he hl hcr ok;exact XXKEP
 ·have e:s.plain p b c=Iz p b {s with fresh:=false,rd:=s.rd.byte c} (s.rd.byte c).L:=by unfold I6;simp [hbod,hw]
  rw [e];rw [hw] at hrb;have HRB:=Dl hrb;obtain ⟨x,hx⟩:∃x:ByteArray,ba (s.rd.byte c).L=x:=⟨_,rfl⟩;have hxl:(s.rd.byte c).L=x.data.toList:=by rw [←hx];simp [ba]
  have hxs:x.size<=5000:=by rw [←hx,ba_size];exact hL hw
  rw [hxl];have HEN:=Dl (λw2 q1 v1 (h:PR w2 B g q1 v1 f bd t o p b {s with fresh:=false,rd:=s.rd.byte c})=>ended_any hp h3 h4 x hxs h hs he ⟨ok.lines,ok.fss,ok.fsl,ok.tss,ok.tsl,ok.body,ok.out⟩);have HX:=Dl hx;clear e hw hL hrb h5 hbod hs he hl hcr ok hx hxl hxs;exact XXRMR
 ·have e:s.plain p b c=S.fail {s with fresh:=false,rd:=s.rd.byte c} 400:=by unfold I6;simp [hbod,hw]
  rw [e];rw [hw] at hrb;have HRB:=Dl hrb;have HFA:=Dl (λw2 q1 v1 (h:PR w2 B g q1 v1 f bd t o p b {s with fresh:=false,rd:=s.rd.byte c})=>fail_at h 400 400 rfl);clear e hw hL hrb h5 hbod hs he hl hcr ok;go_enter J5,Lf;go_upto_region 8 with fail
  generalize w.setCell ⟨g,23,none⟩ (ZB false)=W1 at *;clear c23 z23 c11;have c12:=H1.out.cs.c12
  go_wp2_with (first
   |(go_at_call 115;with_reducible refine (HFA.out _ _ _ HP2.out).mono ?_;rintro r w3 ⟨rfl,hP3,hS3⟩)
   |(go_at_call 159;with_reducible refine HRB.out.mono ?_;rintro r w2 ⟨v2,rfl,hr2,hk2,hm2⟩
     obtain ⟨hP2,hS2⟩:=H1.out.reader hk2 hm2 hr2;have HP2:=Dl hP2;have HS2:=Dl (HS1.out.trans hS2);have c11:=hP2.cs.c11;have c12:=hP2.cs.c12;have y4:=Ln.row_cell hr2.row (k:=4) rfl;clear hr2 hk2 hm2 hP2 hS2))
  first | go_end0 | refine ZF (results_none rfl _ _ _) rfl ?_
  exact XXtPE
 ·have e:s.plain p b c=S.fail {s with fresh:=false,rd:=s.rd.byte c} (longE s.st):=by unfold I6;simp [hbod,hw]
  rw [e];have h6:=λe=>h5 e hw;rw [hw] at hrb;have HRB:=Dl hrb;have HLO:=Dl (λw2 q1 v1 (h:PR w2 B g q1 v1 f bd t o p b {s with fresh:=false,rd:=s.rd.byte c})=>long_any hp c h hs h6);clear e hw hL hrb h5 h6 hbod hs he hl hcr ok;go_enter J5,Lf;go_upto_region 8 with fail
  generalize w.setCell ⟨g,23,none⟩ (ZB false)=W1 at *;clear c23 z23 c11;have c12:=H1.out.cs.c12
  go_wp2_with (first
   |(go_at_call 160;with_reducible refine (HLO.out _ _ _ HP2.out).mono ?_;rintro r w3 ⟨rfl,hP3,hS3⟩)
   |(go_at_call 159;with_reducible refine HRB.out.mono ?_;rintro r w2 ⟨v2,rfl,hr2,hk2,hm2⟩
     obtain ⟨hP2,hS2⟩:=H1.out.reader hk2 hm2 hr2;have HP2:=Dl hP2;have HS2:=Dl (HS1.out.trans hS2);have c11:=hP2.cs.c11;have c12:=hP2.cs.c12;have y4:=Ln.row_cell hr2.row (k:=4) rfl;clear hr2 hk2 hm2 hP2 hS2))
  first | go_end0 | refine ZF (results_none rfl _ _ _) rfl ?_
  exact XXtPE
end
end Par
open _root_.Go.Region renaming binds→Ii
open _root_.Go.World renaming ownsRow_nil→NY
open _root_.List renaming mem_cons→Fk,mem_of_getElem?→Fs,not_mem_nil→Fx
open Ln renaming M→FJ,row_lt→FY
open Mem.Keeps renaming of_below→CQ
open Mem.Of renaming refl→GQ
open Par.S renaming again→It
open Pg renaming Q→Hd
namespace Par
open Base Txt Mem
section
attribute [local go_sem] A8
variable {w:World} {B:Zone} {g q:Nat} {v f bd t o:Value} {p:Nat} {b:Bd} {s:S}
theorem XXdM0 {P:Prop} (h:P:=by
 have c25:w.cell? ⟨g,25,none⟩=some (ZE Z7 0):=by have:=H.out.cs.c25;rw [he] at this;exact this
 clear hst he;go_enter Tryz.func72,Tryz.ntmps72;go_upto_region 3 with fail
 generalize w.setCell ⟨g,21,none⟩ (ZE Z7 ((s.head:Int)+1))=W1 at *;clear c11 c25 c21 z21 a1 a2;have HQ:=Dl ((H1.out.drew 1).bk);refine BO 10 [35,36,37,38,39,40,41,42,43,44] [eP g 0,eP g 0,eP g 21,eQ (ZE Z7 (S1.head:Int)),eP g 0,eP g 0,eP g 1,eP g 3,eQ (ZE Z7 b.x2),eQ (ZB false)] ZY ZY ZY ZY (λ_ _ d _ _ h=>by cases d<;>exact h) ZV ZV XXa25 ?_ ?_
 ·refine ⟨?_,?_,?_,?_,?_,?_,?_,?_,?_,?_,trivial⟩
  all_goals (refine BI rfl (λev w1 hR hb hh=>?_);have e0:=hR.old 0 rfl;simp only [Am,E6,Ep,Er,GW] at e0;have q21:=(HQ.out.below hb).c 21 _ rfl;have q3:=(HQ.out.below hb).c 3 _ rfl;have d1:=HT.out;exact Each.std)
 intro g1 w2 hb hf;have z44:g1 44= _:=hf.at 9;clear hf;simp only [BM,Ab,F4,F7,F6];rw [z44];have H2:=Dl (H1.out.below hb);have HS2:=Dl (HS1.out.trans (II hb));clear hb HQ;have c24:=H2.out.cs.c24;have z24:=H2.out.marks 24
 have H3:=Dl (H2.out.put 24 (ZB false) {S1 with clean:=false} rfl rfl rfl rfl rfl rfl)
 have HS3:=Dl (HS2.out.trans (IL g 24 (ZB false) ZW))
 have HB3:=Dl (HB.out _ {S1 with clean:=false} (.inl ⟨HD.out,by rw [←HSS.out],HT.out⟩) H3.out);go_wp2_with (go_at_call 116;with_reducible refine HB3.out.mono ?_;rintro r w3 ⟨rfl,q1,v1,f1,bd1,t1,o1,hP,hS⟩);first | go_end0 | refine ZF (results_none rfl _ _ _) rfl ?_
 exact ⟨rfl,_,_,_,_,_,_,hP,HS3.out.trans hS⟩):P:=h
theorem XXUQs {P:Prop} (h:P:=by
 have c25:w.cell? ⟨g,25,none⟩=some (ZE Z7 0):=by have:=H.out.cs.c25;rw [he] at this;exact this
 clear hst he;go_enter Tryz.func72,Tryz.ntmps72;go_upto_region 3 with fail
 generalize w.setCell ⟨g,21,none⟩ (ZE Z7 ((s.head:Int)+1))=W1 at *;clear c11 c25 c21 z21 a1 a2;have HQ:=Dl ((H1.out.drew 1).bk);refine BO 10 [35,36,37,38,39,40,41,42,43,44] [eP g 0,eP g 0,eP g 21,eQ (ZE Z7 (S1.head:Int)),eP g 0,eP g 0,eP g 1,eP g 3,eQ (ZE Z7 b.x2),eQ (ZB true)] ZY ZY ZY ZY (λ_ _ d _ _ h=>by cases d<;>exact h) ZV ZV XXa25 ?_ ?_
 ·refine ⟨?_,?_,?_,?_,?_,?_,?_,?_,?_,?_,trivial⟩
  all_goals (refine BI rfl (λev w1 hR hb hh=>?_);have e0:=hR.old 0 rfl;simp only [Am,E6,Ep,Er,GW] at e0;have q21:=(HQ.out.below hb).c 21 _ rfl;have q3:=(HQ.out.below hb).c 3 _ rfl;have d1:=HT.out;exact Each.std)
 intro g1 w2 hb hf;have z44:g1 44= _:=hf.at 9;clear hf;simp only [BM,Ab,F4,F7,F6];rw [z44];have HFA:=Dl (fail_at (H1.out.below hb) 431 431 rfl);have HS2:=Dl (HS1.out.trans (II hb));clear hb HQ;go_wp2_with (go_at_call 115;with_reducible refine HFA.out.mono ?_;rintro r w3 ⟨rfl,hP,hS⟩);first | go_end0 | refine ZF (results_none rfl _ _ _) rfl ?_
 exact ⟨rfl,_,_,_,_,_,_,hP,HS2.out.trans hS⟩):P:=h
theorem count_any (c:UInt8) (G:S->S) (h:PR w B g q v f bd t o p b s) (he:s.e=0) (hh:s.head<=1000000)
 (HB0:∀(w2:World) (s2:S),(headed s.st=true/\s2={s with head:=s.head+1,clean:=false}/\¬b.x2<(s2.head:Int))∨(headed s.st=false/\s2={s with clean:=false})->PR w2 B g q v f bd t o p b s2->Calls Mm 116 #[ptr g,ZE Z6 (c.toNat:Int)] w2 λr w'=>
   r=.returned (Z8 #[])/\∃q1 v1 f1 bd1 t1 o1,PR w' B g q1 v1 f1 bd1 t1 o1 p b (G s2)/\Step (blks g q v f bd t o) (blks g q1 v1 f1 bd1 t1 o1) w2 w') :
 Calls Mm 72 #[ptr g,ZE Z6 (c.toNat:Int)] w λr w'=>r=.returned (Z8 #[])/\∃q1 v1 f1 bd1 t1 o1,PR w' B g q1 v1 f1 bd1 t1 o1 p b (s.count b G)/\Step (blks g q v f bd t o) (blks g q1 v1 f1 bd1 t1 o1) w w':=by
 have HB:=Dl HB0;have H:=Dl h;unfold S.count;rw [ZO (by rw [he];decide)];by_cases hd:headed s.st=true
 ·rw [ZN hd];have hst0:s.st=0∨s.st=1∨s.st=6:=by
   unfold headed at hd;simp only [Bc,ZI] at hd;rcases hd with (e | e) | e
   ·exact .inl e
   ·exact .inr (.inl e)
   ·exact .inr (.inr e)
  obtain ⟨a1,a2⟩:=Ih ((s.head:Int)+1) ⟨ZZ,ZZ⟩;obtain ⟨S1,hS1⟩:∃S1:S,{s with head:=s.head+1}=S1:=⟨_,rfl⟩
  have H1:=Dl (h.put 21 (ZE Z7 ((s.head:Int)+1)) {s with head:=s.head+1} rfl rfl rfl rfl rfl rfl);have HS1:=Dl (IL (w:=w) (L:=blks g q v f bd t o) g 21 (ZE Z7 ((s.head:Int)+1)) ZW);have c21:=h.cs.c21;have z21:=h.marks 21;have HSS:=Dl hS1;have hd1:((s.head+1:Nat):Int)=(S1.head:Int):=by rw [←hS1]
  have e2:({s with head:=s.head+1,clean:=false}:S)={S1 with clean:=false}:=by rw [←hS1]
  have HD:=Dl hd;rw [hS1] at H1;rw [hd1,hS1,e2];clear h HB0 hS1 hd hh e2 hd1
  by_cases hov:b.x2<(S1.head:Int)
  ·rw [ZN hov];have HT:=Dl hov;clear hov;rcases hst0 with hst | hst | hst
   ·have c11:w.cell? ⟨g,11,none⟩=some (ZE Z7 0):=by have:=H.out.cs.c11;rw [hst] at this;exact this
    exact XXUQs
   ·have c11:w.cell? ⟨g,11,none⟩=some (ZE Z7 1):=by have:=H.out.cs.c11;rw [hst] at this;exact this
    exact XXUQs
   ·have c11:w.cell? ⟨g,11,none⟩=some (ZE Z7 6):=by have:=H.out.cs.c11;rw [hst] at this;exact this
    exact XXUQs
  ·rw [ZO hov];have HT:=Dl hov;clear hov;rcases hst0 with hst | hst | hst
   ·have c11:w.cell? ⟨g,11,none⟩=some (ZE Z7 0):=by have:=H.out.cs.c11;rw [hst] at this;exact this
    exact XXdM0
   ·have c11:w.cell? ⟨g,11,none⟩=some (ZE Z7 1):=by have:=H.out.cs.c11;rw [hst] at this;exact this
    exact XXdM0
   ·have c11:w.cell? ⟨g,11,none⟩=some (ZE Z7 6):=by have:=H.out.cs.c11;rw [hst] at this;exact this
    exact XXdM0
 ·rw [ZO hd];have hn:¬s.st=0/\¬s.st=1/\¬s.st=6:=by
   unfold headed at hd;simp only [Bc,ZI,not_or] at hd;exact ⟨hd.1.1,hd.1.2,hd.2⟩
  obtain ⟨n0,n1,n6⟩:=hn;have t0:((s.st:Int)==0)=false:=ZM.2 ZZ;have t1:((s.st:Int)==1)=false:=ZM.2 ZZ;have t6:((s.st:Int)==6)=false:=ZM.2 ZZ;have m0:¬(s.st:Int)=0:=ZZ;have m1:¬(s.st:Int)=1:=ZZ;have m6:¬(s.st:Int)=6:=ZZ;have c11:=h.cs.c11;have c25:w.cell? ⟨g,25,none⟩=some (ZE Z7 0):=by have:=h.cs.c25;rw [he] at this;exact this
  have c24:=h.cs.c24;have z24:=h.marks 24
  have H3:=Dl (h.put 24 (ZB false) {s with clean:=false} rfl rfl rfl rfl rfl rfl)
  have HS3:=Dl (IL (w:=w) (L:=blks g q v f bd t o) g 24 (ZB false) ZW);have HB3:=Dl (HB.out _ _ (.inr ⟨by simpa using hd,rfl⟩) H3.out);clear h HB0 hd hh he;go_enter Tryz.func72,Tryz.ntmps72;go_wp2_with (go_at_call 116;with_reducible refine HB3.out.mono ?_;rintro r w3 ⟨rfl,q1,v1,f1,bd1,t1,o1,hP,hS⟩);first | go_end0 | refine ZF (results_none rfl _ _ _) rfl ?_
  exact ⟨rfl,_,_,_,_,_,_,hP,HS3.out.trans hS⟩
end
end Par
namespace Par
open Base Txt Mem
structure PlainOk (p:Nat) (s:S) (c:UInt8):Prop where
 e:s.e=0
 fit:Fits s
 st:lined s.st∨s.st=2∨s.st=4
 left:bodied s.st=true->1<=s.left/\s.left<=2000000
 line:lined s.st->LineOk p s.rd/\s.rd.CR=false/\(s.st=5->s.rd.how c=4->Hs p 29=false)
theorem PlainOk.of {p:Nat} {s s2:S} {c:UInt8} (h:PlainOk p s c) {k:Nat} {cl:Bool} (h2:s2={s with head:=k,clean:=cl}):PlainOk p s2 c:=by subst h2;exact ⟨h.e,⟨h.fit.lines,h.fit.fss,h.fit.fsl,h.fit.tss,h.fit.tsl,h.fit.body,h.fit.out⟩,h.st,h.left,h.line⟩
section
attribute [local go_sem] A8
variable {w:World} {B:Zone} {g q:Nat} {v f bd t o:Value} {p:Nat} {b:Bd} {s:S}
theorem once_any (hp:p<4294967296) (h3:16<=b.x3/\b.x3<=1048576) (h4:0<=b.x4) (c:UInt8) (h:PR w B g q v f bd t o p b s) (ok:PlainOk p s c) :
 Calls Mm 116 #[ptr g,ZE Z6 (c.toNat:Int)] w λr w'=>r=.returned (Z8 #[])/\∃q1 v1 f1 bd1 t1 o1,PR w' B g q1 v1 f1 bd1 t1 o1 p b (s.plain p b c)/\Step (blks g q v f bd t o) (blks g q1 v1 f1 bd1 t1 o1) w w':=by
 have key:∀hst:s.st=2∨s.st=4,Calls Mm 116 #[ptr g,ZE Z6 (c.toNat:Int)] w λr w'=>
  r=.returned (Z8 #[])/\∃q1 v1 f1 bd1 t1 o1,PR w' B g q1 v1 f1 bd1 t1 o1 p b (s.plain p b c)/\Step (blks g q v f bd t o) (blks g q1 v1 f1 bd1 t1 o1) w w':=by
  intro hst;have hb:bodied s.st=true:=by rcases hst with e | e<;>rw [e]<;>rfl
  have e:s.plain p b c=S.bodyB p b {s with fresh:=false} c:=by unfold I6;simp [hb]
  rw [e];exact body_any c h hst (ok.left hb) ok.fit.body ok.fit.out
 rcases ok.st with hs | hs | hs
 ·obtain ⟨h5,h6,h7⟩:=ok.line hs;exact plain_any hp h3 h4 c h hs ok.e ok.fit h5 h6 h7
 ·exact key (.inl hs)
 ·exact key (.inr hs)
theorem countOnce_any (hp:p<4294967296) (h3:16<=b.x3/\b.x3<=1048576) (h4:0<=b.x4) (c:UInt8) (h:PR w B g q v f bd t o p b s) (ok:PlainOk p s c) (hh:s.head<=1000000) :
 Calls Mm 72 #[ptr g,ZE Z6 (c.toNat:Int)] w λr w'=>r=.returned (Z8 #[])/\∃q1 v1 f1 bd1 t1 o1,PR w' B g q1 v1 f1 bd1 t1 o1 p b (s.count b λs=>s.plain p b c)/\Step (blks g q v f bd t o) (blks g q1 v1 f1 bd1 t1 o1) w w':=
 count_any c (λs=>s.plain p b c) h ok.e hh λw2 s2 hs h2=>once_any hp h3 h4 c h2 (by
  rcases hs with ⟨-,e, -⟩ | ⟨-,e⟩
  ·exact ok.of e
  ·exact ok.of (k:=s.head) (by rw [e]))
theorem XXjbB {P:Prop} (h:P:=by
 go_enter Tryz.func162,Tryz.ntmps162;go_wp2_with (go_at_call 116;with_reducible refine HP.out.mono ?_;rintro r w3 ⟨rfl,q1,v1,f1,bd1,t1,o1,hP,hS⟩);first | go_end0 | refine ZF (results_none rfl _ _ _) rfl ?_
 exact ⟨rfl,_,_,_,_,_,_,hP,HS2.out.trans hS⟩):P:=h
theorem XXPkf {P:Prop} (h:P:=by
 rw [e]
 replace c11:w.cell? ⟨g,11,none⟩=some (ZE Z7 0):=by rw [hst] at c11;exact c11
 clear e h hst;go_enter Tryz.func162,Tryz.ntmps162;go_wp2_with (go_at_call 72;with_reducible refine HBy.out.mono ?_;rintro r w3 ⟨rfl,q1,v1,f1,bd1,t1,o1,hP,hS⟩);first | go_end0 | refine ZF (results_none rfl _ _ _) rfl ?_
 exact ⟨rfl,_,_,_,_,_,_,hP,hS⟩):P:=h
theorem XX9Mt {P:Prop} (h:P:=by
 rw [e]
 replace c11:w.cell? ⟨g,11,none⟩=some (ZE Z7 6):=by rw [hst] at c11;exact c11
 clear e h hst;go_enter Tryz.func162,Tryz.ntmps162;go_wp2_with (go_at_call 72;with_reducible refine HC.out.mono ?_;rintro r w3 ⟨rfl,q1,v1,f1,bd1,t1,o1,hP,hS⟩);first | go_end0 | refine ZF (results_none rfl _ _ _) rfl ?_
 exact ⟨rfl,_,_,_,_,_,_,hP,HS2.out.trans hS⟩):P:=h
theorem again_any (hp:p<4294967296) (h3:16<=b.x3/\b.x3<=1048576) (h4:0<=b.x4) (c:UInt8) (was:Nat) (h:PR w B g q v f bd t o p b s) (ok:PlainOk p s c) (hh:s.head<=1000000) (hw:lined was) :
 Calls Mm 162 #[ptr g,ZE Z6 (c.toNat:Int),ZE Z7 (was:Int)] w λr w'=>r=.returned (Z8 #[])/\∃q1 v1 f1 bd1 t1 o1,PR w' B g q1 v1 f1 bd1 t1 o1 p b (It p b s c was)/\Step (blks g q v f bd t o) (blks g q1 v1 f1 bd1 t1 o1) w w':=by
 have c11:=h.cs.c11;have c24:=h.cs.c24;have z24:=h.marks 24
 have H2:=Dl (h.put 24 (ZB false) {s with clean:=false} rfl rfl rfl rfl rfl rfl);have HS2:=Dl (IL (w:=w) (L:=blks g q v f bd t o) g 24 (ZB false) ZW);have ok2:PlainOk p {s with clean:=false} c:=ok.of (k:=s.head) rfl
 have HBy:=Dl (countOnce_any hp h3 h4 c h ok hh)
 have HC:=Dl (countOnce_any hp h3 h4 c H2.out ok2 hh);have HP:=Dl (once_any hp h3 h4 c H2.out ok2);clear ok ok2 hh;rcases hw with rfl | rfl | rfl | rfl | rfl
 ·rcases (by omega:s.st=0∨s.st=6∨(¬s.st=0/\¬s.st=6)) with hst | hst | ⟨n0,n6⟩
  ·have e:It p b s c 0=I6 p b {s with clean:=false} c:=by simp [It,headed,hst]
   rw [e]
   replace c11:w.cell? ⟨g,11,none⟩=some (ZE Z7 0):=by rw [hst] at c11;exact c11
   clear e h hst;exact XXjbB
  ·have e:It p b s c 0=I6 p b {s with clean:=false} c:=by simp [It,headed,hst]
   rw [e]
   replace c11:w.cell? ⟨g,11,none⟩=some (ZE Z7 6):=by rw [hst] at c11;exact c11
   clear e h hst;exact XXjbB
  ·have e:It p b s c 0=I6 p b {s with clean:=false} c:=by simp [It,headed]
   rw [e];have t0:((s.st:Int)==0)=false:=ZM.2 ZZ;have t6:((s.st:Int)==6)=false:=ZM.2 ZZ;have m0:¬(s.st:Int)=0:=ZZ;have m6:¬(s.st:Int)=6:=ZZ;clear e h;exact XXjbB
 ·rcases (by omega:s.st=0∨s.st=6∨(¬s.st=0/\¬s.st=6)) with hst | hst | ⟨n0,n6⟩
  ·have e:It p b s c 1=s.count b λs=>s.plain p b c:=by simp [It,hst]
   exact XXPkf
  ·have e:It p b s c 1=I6 p b {s with clean:=false} c:=by simp [It,headed,hst]
   rw [e]
   replace c11:w.cell? ⟨g,11,none⟩=some (ZE Z7 6):=by rw [hst] at c11;exact c11
   clear e h hst;exact XXjbB
  ·have e:It p b s c 1=I6 p b {s with clean:=false} c:=by simp [It,headed,n0]
   rw [e];have t0:((s.st:Int)==0)=false:=ZM.2 ZZ;have t6:((s.st:Int)==6)=false:=ZM.2 ZZ;have m0:¬(s.st:Int)=0:=ZZ;have m6:¬(s.st:Int)=6:=ZZ;clear e h;exact XXjbB
 ·rcases (by omega:s.st=0∨s.st=6∨(¬s.st=0/\¬s.st=6)) with hst | hst | ⟨n0,n6⟩
  ·have e:It p b s c 3=s.count b λs=>s.plain p b c:=by simp [It,hst]
   exact XXPkf
  ·have e:It p b s c 3=S.count b (λs=>s.plain p b c) {s with clean:=false}:=by simp [It,headed,hst]
   exact XX9Mt
  ·have e:It p b s c 3=I6 p b {s with clean:=false} c:=by simp [It,headed,n0,n6]
   rw [e];have t0:((s.st:Int)==0)=false:=ZM.2 ZZ;have t6:((s.st:Int)==6)=false:=ZM.2 ZZ;have m0:¬(s.st:Int)=0:=ZZ;have m6:¬(s.st:Int)=6:=ZZ;clear e h;exact XXjbB
 ·rcases (by omega:s.st=0∨s.st=6∨(¬s.st=0/\¬s.st=6)) with hst | hst | ⟨n0,n6⟩
  ·have e:It p b s c 5=s.count b λs=>s.plain p b c:=by simp [It,hst]
   exact XXPkf
  ·have e:It p b s c 5=S.count b (λs=>s.plain p b c) {s with clean:=false}:=by simp [It,headed,hst]
   exact XX9Mt
  ·have e:It p b s c 5=I6 p b {s with clean:=false} c:=by simp [It,headed,n0,n6]
   rw [e];have t0:((s.st:Int)==0)=false:=ZM.2 ZZ;have t6:((s.st:Int)==6)=false:=ZM.2 ZZ;have m0:¬(s.st:Int)=0:=ZZ;have m6:¬(s.st:Int)=6:=ZZ;clear e h;exact XXjbB
 ·rcases (by omega:s.st=0∨s.st=6∨(¬s.st=0/\¬s.st=6)) with hst | hst | ⟨n0,n6⟩
  ·have e:It p b s c 6=s.count b λs=>s.plain p b c:=by simp [It,hst]
   exact XXPkf
  ·have e:It p b s c 6=I6 p b {s with clean:=false} c:=by simp [It,headed,hst]
   rw [e]
   replace c11:w.cell? ⟨g,11,none⟩=some (ZE Z7 6):=by rw [hst] at c11;exact c11
   clear e h hst;exact XXjbB
  ·have e:It p b s c 6=I6 p b {s with clean:=false} c:=by simp [It,headed,n0]
   rw [e];have t0:((s.st:Int)==0)=false:=ZM.2 ZZ;have t6:((s.st:Int)==6)=false:=ZM.2 ZZ;have m0:¬(s.st:Int)=0:=ZZ;have m6:¬(s.st:Int)=6:=ZZ;clear e h;exact XXjbB
end
end Par
namespace Par
open Base Txt Mem
section
attribute [local go_sem] A8
variable {w:World} {B:Zone} {g q:Nat} {v f bd t o:Value} {p:Nat} {b:Bd} {s:S}
theorem XXxfD {P:Prop} (h:P:=by
 refine Jx ZV (ptr g) (λ_ _=>by go_simp) ?_;simp only [Ab,F4,F7,F6];refine Jx ZV (ZA (some ⟨g,11,none⟩)) (λ_ _=>by go_simp) ?_;simp only [Ab,F4,F7,F6];have h1:=H.out.below hb;have ho:=H.out.own.line hb hr1 hq1;have d11:=h1.cs.c11;have z11:=h1.marks 11;refine Jr ZV (λK hK=>?_);go_simp;refine hK _ _ trivial ?_;clear hK K;refine Jx ZV (ptr g) (λ_ _=>by go_simp) ?_;simp only [Ab,F4,F7,F6];refine Jx ZV (ZA (some ⟨g,12,none⟩)) (λ_ _=>by go_simp) ?_;simp only [Ab,F4,F7,F6];have c12:=h1.cs.c12;have z12:=h1.marks 12;refine Jr ZV (λK hK=>?_);go_simp;refine hK _ _ trivial ?_;clear hK K;refine Js ?_;have HP2:Hid (PR ((w2.setCell ⟨g,11,none⟩ (ZE Z7 3)).setCell ⟨g,12,none⟩ (ptr q1)) B g q1 nil f bd t o p b {s with st:=3,rd:=nl p b.x0}):=Dl ⟨row_setL (row_setL h1.row 11 (ZE Z7 3)) 12 (ptr q1),(ho.set 11 (ZE Z7 3)).set 12 (ptr q1)⟩
 have HS:=Dl ((Step.line (g:=g) (q:=q) (v:=v) (f:=f) (bd:=bd) (t:=t) (o:=o) hb hq1).trans ((IL g 11 (ZE Z7 3) ZW).trans (IL g 12 (ptr q1) ZW)));have HON:=Dl (HO.out _ _ HP2.out);clear HQ HBW hr1 hq1 c12 z12 d11 z11 h1 ho hb HP2;generalize (w2.setCell ⟨g,11,none⟩ (ZE Z7 3)).setCell ⟨g,12,none⟩ (ptr q1)=W3 at *;go_wp2_with (go_at_call 116;with_reducible refine HON.out.mono ?_;rintro r w4 ⟨rfl,q2,v2,f2,bd2,t2,o2,hP,hS⟩);first | go_end0 | refine ZF (results_none rfl _ _ _) rfl ?_
 exact ⟨rfl,_,_,_,_,_,_,hP,HS.out.trans hS⟩):P:=h
theorem longEnd_any (hp:p<4294967296) (h3:16<=b.x3/\b.x3<=1048576) (h4:0<=b.x4) (c:UInt8) (h:PR w B g q v f bd t o p b s) (hst:s.st=5) (hh:Hs p 29=true) (ok:PlainOk p {s with st:=3,rd:=nl p b.x0} c):Calls Mm 160 #[ptr g,ZE Z6 (c.toNat:Int)] w λr w'=>
 r=.returned (Z8 #[])/\∃q1 v1 f1 bd1 t1 o1,PR w' B g q1 v1 f1 bd1 t1 o1 p b (I6 p b {s with st:=3,rd:=nl p b.x0} c)/\Step (blks g q v f bd t o) (blks g q1 v1 f1 bd1 t1 o1) w w':=by
 have HH:=Dl (λw=>Hu p hp 29 w);rw [hh] at HH;have c11:w.cell? ⟨g,11,none⟩=some (ZE Z7 5):=by have:=h.cs.c11;rw [hst] at this;exact this
 have c0:=h.cs.c0;have H:=Dl h
 have HO:=Dl (λw2 q1 (h:PR w2 B g q1 nil f bd t o p b {s with st:=3,rd:=nl p b.x0})=>once_any hp h3 h4 c h ok)
 have HQ:=Dl ((h.drew 1).bk);have HBW:=Dl (show B<=(w.drewN 1).heap.size from Gl h.own.ge (Gh (h.drew 1).own.lt));clear h hst ok hh;go_enter Tryz.func160,Tryz.ntmps160
 go_upto_region 2 with (go_at_call 44;with_reducible refine Cm (HH.out _) ?_)
 clear c11 c0;refine BP 12 [19,20,21,22,23,24,25,26,27,28,29,30] [eP g 0,eP g 0,eP g 0,eP g 0,eP g 0,eQ (ZE Z5 (p:Int)),eP g 0,eP g 0,eP g 1,eP g 1,eQ (ZE Z7 b.x0),λv u=>∃q1,v=ptr q1/\w.heap.size<=q1/\Ln.Rr u B q1 nil p (nl p (b.x0))] [] 6 (some 1) (.quiet 12 (.quiet 13 (.act 14 (.quiet 15 (.quiet 16 (.act 17 .done)))))) (.quiet 1 (.quiet 12 (.quiet 13 (.act 14 (.quiet 15 (.quiet 16 (.act 17 .done))))))) ZY ZY ZY ZY (λk0 h=>by cases h;kernel_rfl) (λ_ _ d _ _ h=>by cases d<;>exact h) ZV ZV ⟨BF _,BF _,BF _,BF _,BF _,BF _,BF _,BF _,BF _,BF _,BF _,((λ_ _ _ hb h=>by obtain ⟨q1,e1,h1,h2⟩:=h;exact ⟨q1,e1,h1,rr_below h2 hb⟩)),trivial⟩ trivial ZV ?_ ?_ ?_
 ·refine ⟨?_,?_,?_,?_,?_,?_,?_,?_,?_,?_,?_,?_,trivial⟩
  iterate 11·exact XXSdZ
  ·refine BI rfl (λev w1 hR hb hh=>?_);have e24:ev (.tmp 24)= _:=hh.at 0;have e29:ev (.tmp 29)= _:=hh.at 1;exact XXJwx
 ·intro g1 w2 hb hf;have z19:g1 19= _:=hf.at 0;have z20:g1 20= _:=hf.at 1;have z30:=hf.at 11;clear hf;obtain ⟨q1,e1,hq1,hr1⟩:=z30;simp only [BM,Ab,F4,F7,F6];rw [e1,z19,z20];simp only [Ju,Jw,Er,Ep];exact XXxfD
 ·intro k0 hk0 g1 w2 hb hf;cases hk0;have z19:g1 19= _:=hf.at 0;have z30:=hf.at 11;clear hf;obtain ⟨q1,e1,hq1,hr1⟩:=z30;simp only [BM,Ab,F4,F7,F6];rw [e1,z19];simp only [Ju,Jw,Er,Ep];refine Jx ZV (ptr g) (λ_ _=>by go_simp) ?_;simp only [Ab,F4,F7,F6];exact XXxfD
end
end Par
namespace Par
open Base Txt Mem
theorem how_is (q:Ln.R) (c:UInt8):q.how c=0∨q.how c=1∨q.how c=2∨q.how c=3∨q.how c=4:=by
 unfold Ln.R.how
 repeat' split
 all_goals simp
section
attribute [local go_sem] A8
variable {w:World} {B:Zone} {g q:Nat} {v f bd t o:Value} {p:Nat} {b:Bd} {s:S}
theorem byte_any (hp:p<4294967296) (h3:16<=b.x3/\b.x3<=1048576) (h4:0<=b.x4) (c:UInt8) (h:PR w B g q v f bd t o p b s) (hs:lined s.st) (he:s.e=0) (ok:Fits s) (hl:LineOk p s.rd)
 (hlong:s.st=5->s.rd.how c=4->Hs p 29=true->PlainOk p {s with fresh:=false,rd:=nl p b.x0,st:=3} c)
 (hag:s.rd.how c=2->(Iz p b {s with fresh:=false,rd:=s.rd.byte c} (s.rd.byte c).L).e=0->PlainOk p (Iz p b {s with fresh:=false,rd:=s.rd.byte c} (s.rd.byte c).L) c/\(Iz p b {s with fresh:=false,rd:=s.rd.byte c} (s.rd.byte c).L).head<=1000000) :
 Calls Mm 116 #[ptr g,ZE Z6 (c.toNat:Int)] w λr w'=>r=.returned (Z8 #[])/\∃q1 v1 f1 bd1 t1 o1,PR w' B g q1 v1 f1 bd1 t1 o1 p b (s.byte1 p b c)/\Step (blks g q v f bd t o) (blks g q1 v1 f1 bd1 t1 o1) w w':=by
 have hbod:bodied s.st=false:=by rcases hs with e | e | e | e | e<;>rw [e]<;>rfl
 have t2:((s.st:Int)==2)=false:=ZM.2 XXe5Z;have t4:((s.st:Int)==4)=false:=ZM.2 XXe5Z;have n2:¬(s.st:Int)=2:=ZM.1 t2;have n4:¬(s.st:Int)=4:=ZM.1 t4;have m2:¬s.st=2:=ZZ;have m4:¬s.st=4:=ZZ
 have H1:=Dl (h.put 23 (ZB false) {s with fresh:=false} rfl rfl rfl rfl rfl rfl);have HS1:=Dl (IL (w:=w) (L:=blks g q v f bd t o) g 23 (ZB false) ZW);have c23:=h.cs.c23;have z23:=h.marks 23;have c11:=h.cs.c11;have hrb:=Ln.rbyte_any c s.rd hl.most p hp hl.lf hl.cr (w.setCell ⟨g,23,none⟩ (ZB false)) B q v H1.out.own.R;clear h;have hL:(s.rd.how c=1∨s.rd.how c=2)->(s.rd.byte c).L.length<=5000:=λe=>by rw [byte_L s.rd c e];have:=hl.len;have:=hl.most;omega
 rcases how_is s.rd c with hw | hw | hw | hw | hw
 ·have e:s.byte1 p b c={s with fresh:=false,rd:=s.rd.byte c}:=by unfold S.byte1;simp [hbod,hw]
  rw [e];rw [hw] at hrb;have HRB:=Dl hrb;clear e hw hL hrb hbod hs he hl ok hlong hag;exact XXKEP
 ·have e:s.byte1 p b c=Iz p b {s with fresh:=false,rd:=s.rd.byte c} (s.rd.byte c).L:=by unfold S.byte1;simp [hbod,hw]
  rw [e];rw [hw] at hrb;have HRB:=Dl hrb;obtain ⟨x,hx⟩:∃x:ByteArray,ba (s.rd.byte c).L=x:=⟨_,rfl⟩;have hxl:(s.rd.byte c).L=x.data.toList:=by rw [←hx];simp [ba]
  have hxs:x.size<=5000:=by rw [←hx,ba_size];exact hL (.inl hw)
  have HEN:=Dl (λw2 q1 v1 (h:PR w2 B g q1 v1 f bd t o p b {s with fresh:=false,rd:=s.rd.byte c})=>ended_any hp h3 h4 x hxs h hs he ⟨ok.lines,ok.fss,ok.fsl,ok.tss,ok.tsl,ok.body,ok.out⟩);have HX:=Dl hx;rw [hxl];clear e hw hL hrb hbod hs he hl ok hlong hag hx hxl hxs;exact XXRMR
 ·rw [hw] at hrb;have HRB:=Dl hrb;obtain ⟨x,hx⟩:∃x:ByteArray,ba (s.rd.byte c).L=x:=⟨_,rfl⟩;have hxl:(s.rd.byte c).L=x.data.toList:=by rw [←hx];simp [ba]
  have hxs:x.size<=5000:=by rw [←hx,ba_size];exact hL (.inr hw)
  have HEN:=Dl (λw2 q1 v1 (h:PR w2 B g q1 v1 f bd t o p b {s with fresh:=false,rd:=s.rd.byte c})=>ended_any hp h3 h4 x hxs h hs he ⟨ok.lines,ok.fss,ok.fsl,ok.tss,ok.tsl,ok.body,ok.out⟩);have HX:=Dl hx;rw [hxl] at hag;obtain ⟨s3,hs3⟩:∃s3,Iz p b {s with fresh:=false,rd:=s.rd.byte c} x.data.toList=s3:=⟨_,rfl⟩;rw [hs3] at hag HEN;by_cases he3:s3.e=0
  ·obtain ⟨ok3,hh3⟩:=hag hw he3;have e:s.byte1 p b c=It p b s3 c s.st:=by
    unfold S.byte1;simp [hbod,hw,hxl,hs3,he3]
   rw [e];have HAG:=Dl (λw2 q1 v1 f1 bd1 t1 o1 (h:PR w2 B g q1 v1 f1 bd1 t1 o1 p b s3)=>again_any hp h3 h4 c s.st h ok3 hh3 hs);have HE2:=Dl he3;clear e hw hL hrb hbod hs he hl ok hlong hag hx hxl hxs hs3 he3 ok3 hh3;go_enter J5,Lf;go_upto_region 8 with fail
   generalize w.setCell ⟨g,23,none⟩ (ZB false)=W1 at *;clear c23 z23 c11;have c12:=H1.out.cs.c12
   go_wp2_with (first
    |(go_at_call 162;with_reducible refine (HAG.out _ _ _ _ _ _ _ HP3.out).mono ?_;rintro r w4 ⟨rfl,q2,v3,f2,bd2,t2',o2,hP4,hS4⟩)
    |(go_at_call 161;with_reducible refine (HEN.out _ _ _ HP2.out).mono ?_;rintro r w3 ⟨rfl,q1,v1,f1,bd1,t1,o1,hP3,hS3⟩
      have HP3:=Dl hP3;have HS3:=Dl (HS2.out.trans hS3);have c25:w3.cell? ⟨g,25,none⟩=some (ZE Z7 0):=by have:=hP3.cs.c25;rw [HE2.out] at this;exact this
      clear hP3 hS3)
    |(go_at_call 159;with_reducible refine HRB.out.mono ?_;rintro r w2 ⟨v2,rfl,hr2,hk2,hm2⟩
      obtain ⟨hP2,hS2⟩:=H1.out.reader hk2 hm2 hr2;have HP2:=Dl hP2;have HS2:=Dl (HS1.out.trans hS2);have c11:=hP2.cs.c11;have c12:=hP2.cs.c12;have y4:w2.cell? ⟨q,4,none⟩=some (ZD x):=by rw [←HX.out];exact Ln.row_cell hr2.row (k:=4) rfl
      clear hr2 hk2 hm2 hP2 hS2))
   first | go_end0 | refine ZF (results_none rfl _ _ _) rfl ?_
   exact ⟨rfl,_,_,_,_,_,_,hP4,HS3.out.trans hS4⟩
  ·have e:s.byte1 p b c=s3:=by
    unfold S.byte1;simp [hbod,hw,hxl,hs3,he3]
   rw [e];obtain ⟨k,hk⟩:∃k,s3.e=k:=⟨_,rfl⟩;have t5:((k:Int)==0)=false:=ZM.2 ZZ;have n5:¬(k:Int)=0:=ZZ;have n6:¬k=0:=ZZ;have HE2:=Dl hk;clear e hw hL hrb hbod hs he hl ok hlong hag hx hxl hxs hs3 he3 hk;go_enter J5,Lf;go_upto_region 8 with fail
   generalize w.setCell ⟨g,23,none⟩ (ZB false)=W1 at *;clear c23 z23 c11;have c12:=H1.out.cs.c12
   go_wp2_with (first
    |(go_at_call 161;with_reducible refine (HEN.out _ _ _ HP2.out).mono ?_;rintro r w3 ⟨rfl,q1,v1,f1,bd1,t1,o1,hP3,hS3⟩
      have HP3:=Dl hP3;have HS3:=Dl (HS2.out.trans hS3);have c25:w3.cell? ⟨g,25,none⟩=some (ZE Z7 (k:Int)):=by have:=hP3.cs.c25;rw [HE2.out] at this;exact this
      clear hP3 hS3)
    |(go_at_call 159;with_reducible refine HRB.out.mono ?_;rintro r w2 ⟨v2,rfl,hr2,hk2,hm2⟩
      obtain ⟨hP2,hS2⟩:=H1.out.reader hk2 hm2 hr2;have HP2:=Dl hP2;have HS2:=Dl (HS1.out.trans hS2);have c11:=hP2.cs.c11;have c12:=hP2.cs.c12;have y4:w2.cell? ⟨q,4,none⟩=some (ZD x):=by rw [←HX.out];exact Ln.row_cell hr2.row (k:=4) rfl
      clear hr2 hk2 hm2 hP2 hS2))
   first | go_end0 | refine ZF (results_none rfl _ _ _) rfl ?_
   exact ⟨rfl,_,_,_,_,_,_,HP3.out,HS3.out⟩
 ·have e:s.byte1 p b c=S.fail {s with fresh:=false,rd:=s.rd.byte c} 400:=by unfold S.byte1;simp [hbod,hw]
  rw [e];rw [hw] at hrb;have HRB:=Dl hrb;have HFA:=Dl (λw2 q1 v1 (h:PR w2 B g q1 v1 f bd t o p b {s with fresh:=false,rd:=s.rd.byte c})=>fail_at h 400 400 rfl);clear e hw hL hrb hbod hs he hl ok hlong hag;go_enter J5,Lf;go_upto_region 8 with fail
  generalize w.setCell ⟨g,23,none⟩ (ZB false)=W1 at *;clear c23 z23 c11;have c12:=H1.out.cs.c12
  go_wp2_with (first
   |(go_at_call 115;with_reducible refine (HFA.out _ _ _ HP2.out).mono ?_;rintro r w3 ⟨rfl,hP3,hS3⟩)
   |(go_at_call 159;with_reducible refine HRB.out.mono ?_;rintro r w2 ⟨v2,rfl,hr2,hk2,hm2⟩
     obtain ⟨hP2,hS2⟩:=H1.out.reader hk2 hm2 hr2;have HP2:=Dl hP2;have HS2:=Dl (HS1.out.trans hS2);clear hr2 hk2 hm2 hP2 hS2))
  first | go_end0 | refine ZF (results_none rfl _ _ _) rfl ?_
  exact XXtPE
 ·by_cases hce:(s.st==5&&Hs p 29)=true
  ·have hce2:s.st=5/\Hs p 29=true:=by simpa using hce
   have e:s.byte1 p b c=I6 p b {s with fresh:=false,rd:=nl p b.x0,st:=3} c:=by unfold S.byte1;simp [bodied,hw,hce2.1,hce2.2]
   rw [e];have ok3:=hlong hce2.1 hw hce2.2;rw [hw] at hrb;have HRB:=Dl hrb;have HLO:=Dl (λw2 q1 v1 (h:PR w2 B g q1 v1 f bd t o p b {s with fresh:=false,rd:=s.rd.byte c})=>longEnd_any hp h3 h4 c h hce2.1 hce2.2 ok3);clear e hw hL hrb hbod hs he hl ok hlong hag hce hce2 ok3;go_enter J5,Lf;go_upto_region 8 with fail
   generalize w.setCell ⟨g,23,none⟩ (ZB false)=W1 at *;clear c23 z23 c11;have c12:=H1.out.cs.c12
   go_wp2_with (first
    |(go_at_call 160;with_reducible refine (HLO.out _ _ _ HP2.out).mono ?_;rintro r w3 ⟨rfl,q1,v1,f1,bd1,t1,o1,hP3,hS3⟩)
    |(go_at_call 159;with_reducible refine HRB.out.mono ?_;rintro r w2 ⟨v2,rfl,hr2,hk2,hm2⟩
      obtain ⟨hP2,hS2⟩:=H1.out.reader hk2 hm2 hr2;have HP2:=Dl hP2;have HS2:=Dl (HS1.out.trans hS2);clear hr2 hk2 hm2 hP2 hS2))
   first | go_end0 | refine ZF (results_none rfl _ _ _) rfl ?_
   exact XXtPE
  ·have e:s.byte1 p b c=S.fail {s with fresh:=false,rd:=s.rd.byte c} (longE s.st):=by unfold S.byte1;simp [hbod,hw,hce]
   rw [e];have h6:s.st=5->Hs p 29=false:=λe=>by
    cases h:Hs p 29 with
    | false=>rfl
    | true=>exact ZG (by rw [e,h];rfl) hce
   rw [hw] at hrb;have HRB:=Dl hrb;have HLO:=Dl (λw2 q1 v1 (h:PR w2 B g q1 v1 f bd t o p b {s with fresh:=false,rd:=s.rd.byte c})=>long_any hp c h hs h6);clear e hw hL hrb hbod hs he hl ok hlong hag hce h6;go_enter J5,Lf;go_upto_region 8 with fail
   generalize w.setCell ⟨g,23,none⟩ (ZB false)=W1 at *;clear c23 z23 c11;have c12:=H1.out.cs.c12
   go_wp2_with (first
    |(go_at_call 160;with_reducible refine (HLO.out _ _ _ HP2.out).mono ?_;rintro r w3 ⟨rfl,hP3,hS3⟩)
    |(go_at_call 159;with_reducible refine HRB.out.mono ?_;rintro r w2 ⟨v2,rfl,hr2,hk2,hm2⟩
      obtain ⟨hP2,hS2⟩:=H1.out.reader hk2 hm2 hr2;have HP2:=Dl hP2;have HS2:=Dl (HS1.out.trans hS2);clear hr2 hk2 hm2 hP2 hS2))
   first | go_end0 | refine ZF (results_none rfl _ _ _) rfl ?_
   exact XXtPE
end
end Par
namespace Par
open Base Txt Mem
section
variable {p:Nat} {b:Bd} {x:Pg.T} {s:S}
theorem fits_of (h:Pg.R0 p b x s) (ok:x.Ok) (ho:s.out.length<=1000000000):Fits s:=by
 have k1:=ok.hl;have k2:=ok.bl;have k3:=ok.fsl;have k4:=ok.tsl;have k5:=ok.body;refine ⟨λe=>?_,λy hy=>?_,?_,λy hy=>?_,?_,?_,ho⟩
 ·rcases e with e | e
  ·rw [h.hl ZZ];omega
  ·rw [h.bl e];omega
 ·rw [h.r] at hy;have:=ok.fss y hy;omega
 ·rw [h.r];omega
 ·rw [h.r] at hy;have:=ok.tss y hy;omega
 ·rw [h.r];omega
 ·rw [h.r];omega
theorem lineOk_of (h:Pg.R0 p b x s) (ok:x.Ok) (hn:bodied s.st=false):LineOk p s.rd:=by
 have r:=h.rd hn;have h1:=ok.rd.len;have h2:=ok.rd.most;refine ⟨r.lf.trans h.lf,r.cr.trans h.cr,by rw [r.most];exact h2,?_⟩;rw [r.B,r.most];split
 ·exact Gz _
 ·exact h1
theorem lined_of (h:Pg.R0 p b x s) (ok:x.Ok) (hn:bodied s.st=false):lined s.st:=by
 have h7:=ok.st;have ht:=h.st;have hn2:s.st≠2/\s.st≠4:=by constructor<;> (intro e;rw [e] at hn;exact ZG hn ZX)
 unfold lined;omega
theorem plainOk_of (h:Pg.R0 p b x s) (ok:x.Ok) (hp:x.rd.pend=false) (h6:x.st≠6) (ho:s.out.length<=1000000000) (c:UInt8):PlainOk p s c:=by
 have h7:=ok.st;have ht:=h.st;refine ⟨h.e,fits_of h ok ho,?_,λhb=>?_,λhl=>?_⟩
 ·unfold lined;omega
 ·have h1:=h.left hb;have h2:=ok.left (by rw [Pg.bod h];exact hb);have h3:=ok.body;omega
 ·have hn:bodied s.st=false:=by rcases hl with e | e | e | e | e<;>rw [e]<;>rfl
  exact ⟨lineOk_of h ok hn,(h.rd hn).CR.trans hp,λe=>ZG (ht.trans (by rw [e])) h6⟩
theorem ended_ok (h:Pg.R0 p b x s) (ok:x.Ok) (hb:b.right=true) (hn:bodied s.st=false) (hc:s.clean=false) (ho:s.out.length<=999999998) (c:UInt8) (h2:s.rd.how c=2)
 (he:(Iz p b {s with fresh:=false,rd:=s.rd.byte c} (s.rd.byte c).L).e=0) :
 PlainOk p (Iz p b {s with fresh:=false,rd:=s.rd.byte c} (s.rd.byte c).L) c/\(Iz p b {s with fresh:=false,rd:=s.rd.byte c} (s.rd.byte c).L).head<=1000000:=by
 obtain ⟨n,hnx⟩:∃n,x.rd.clear.next c=n:=⟨_,rfl⟩;obtain ⟨k1, -,k3⟩:=Pg.took_sim h hn ok hc c hnx;have e2:n=2:=k1.symm.trans h2;subst e2;have k4:=k3 (.inr rfl);have hb0:Pg.bodied x.st=false:=(Pg.bod h).trans hn;generalize hs2:Iz p b {s with fresh:=false,rd:=s.rd.byte c} (s.rd.byte c).L=s2 at k4 he ⊢;generalize hq:Pg.ends (Pg.T.line p b {x with rd:=x.rd.byte c} (x.rd.byte c).line)=y at k4;rcases Pg.ends_cases hq with ⟨t2,g1,rfl⟩ | ⟨e,o,rfl⟩
 ·have k5:Pg.RR p b t2 s2:=k4;have hin:x.inLine p b c=(.live t2,false):=by
   unfold Pg.T.inLine;simp only [hnx,Int.reduceEq,if_false,BEq.rfl,Bool.not_true];rw [hq]
  have ok2:t2.Ok:=ok.inLine hb c (by rw [hin]);obtain ⟨g2,g3⟩:=Pg.inLine_again hb0 c hin;have hout:=Pg.inLine_out (p:=p) (b:=b) x c;rw [hin] at hout;have ho2:s2.out.length<=1000000000:=by rw [k5.out];have h1:t2.out.length<=x.out.length+1:=hout;rw [←h.out] at h1;omega
  exact ⟨plainOk_of k5.toR0 ok2 g2 g3 ho2 c,by rw [k5.head];have:=ok2.size;omega⟩
 ·exact ZG he k4.err
end
section
variable {w:World} {B:Zone} {g q:Nat} {v f bd t o:Value} {p:Nat} {b:Bd} {s:S} {x:Pg.T}
theorem byte1_any (hp:p<4294967296) (hb:b.right=true) (c:UInt8) (h:PR w B g q v f bd t o p b s) (h0:Pg.R0 p b x s) (ok:x.Ok) (hc:s.clean=false) (ho:s.out.length<=999999998) :
 Calls Mm 116 #[ptr g,ZE Z6 (c.toNat:Int)] w λr w'=>r=.returned (Z8 #[])/\∃q1 v1 f1 bd1 t1 o1,PR w' B g q1 v1 f1 bd1 t1 o1 p b (s.byte1 p b c)/\Step (blks g q v f bd t o) (blks g q1 v1 f1 bd1 t1 o1) w w':=by
 obtain ⟨-, -, -,h3,h4, -⟩:=Pg.Bd.edges hb;have hf:=fits_of h0 ok ZZ;by_cases hbd:bodied s.st=true
 ·have hst:s.st=2∨s.st=4:=by
   unfold bodied at hbd;simpa using hbd
  have e:s.byte1 p b c=S.bodyB p b {s with fresh:=false} c:=by unfold S.byte1;simp [hbd]
  rw [e];have h1:=h0.left hbd;have h2:=ok.left (by rw [Pg.bod h0];exact hbd);have h5:=ok.body;exact body_any c h hst ⟨ZZ,ZZ⟩ hf.body hf.out
 ·have hn:bodied s.st=false:=by simpa using hbd
  refine byte_any hp h3 h4.1 c h (lined_of h0 ok hn) h0.e hf (lineOk_of h0 ok hn) (λh5 _ _=>?_) (λh2 he=>ended_ok h0 ok hb hn hc ho c h2 he);have he:=Pg.enter_sim (t:=x) (s:={s with fresh:=false}) {h0 with} h5;exact plainOk_of he (ok.enter (.inl rfl) b.x0) rfl (by show (4:Nat)≠6;decide) (by show s.out.length<=_;omega) c
theorem byteS_any (hp:p<4294967296) (hb:b.right=true) (c:UInt8) (h:PR w B g q v f bd t o p b s) (hr:Pg.RR p b x s) (ok:x.Ok) (ho:s.out.length<=999999998) :
 Calls Mm 72 #[ptr g,ZE Z6 (c.toNat:Int)] w λr w'=>r=.returned (Z8 #[])/\∃q1 v1 f1 bd1 t1 o1,PR w' B g q1 v1 f1 bd1 t1 o1 p b (s.byte p b c)/\Step (blks g q v f bd t o) (blks g q1 v1 f1 bd1 t1 o1) w w':=by
 have h0:Pg.R0 p b ({x with cnt:=false}:Pg.T) {s with clean:=false}:=⟨hr.e,hr.st,hr.r,hr.out,hr.head,hr.hl,hr.bl,hr.bl0,hr.left,hr.rd,hr.fr,hr.lf,hr.cr,hr.most,hr.beh,hr.ch⟩;have ok0:({x with cnt:=false}:Pg.T).Ok:=ok.cleared;refine count_any c (λs=>s.byte1 p b c) h hr.e (by rw [hr.head];have:=ok.size;omega) λw2 s2 hs h2=>?_;rcases hs with ⟨hh,rfl,hx⟩ | ⟨hh,rfl⟩
 ·have h1:Pg.R0 p b ({x with cnt:=false}:Pg.T).counted {s with head:=s.head+1,clean:=false}:=h0.of_counted rfl;have esz:({x with cnt:=false}:Pg.T).counted.size=s.head+1:=h1.head.symm;exact byte1_any hp hb c h2 h1 (ok0.counted hb (by rw [esz];exact hx)) rfl ho
 ·exact byte1_any hp hb c h2 h0 ok0 rfl ho
end
end Par
namespace Each
open Base Mem Par
structure Thing (A A':World->List (Option Nat)->Prop):Prop where
 keeps:∀{w w':World} {L M:List (Option Nat)},A w L->Keeps M w w'->(∀k,some k∈L->some k∉M)->A w' L
 keeps':∀{w w':World} {L M:List (Option Nat)},A' w L->Keeps M w w'->(∀k,some k∈L->some k∉M)->A' w' L
 inn:∀{w:World} {L:List (Option Nat)},A w L->In w L
 inn':∀{w:World} {L:List (Option Nat)},A' w L->In w L
 uniq:∀{w:World} {L L':List (Option Nat)},(A w L∨A' w L)->(A w L'∨A' w L')->L=L'
def Dis (L M:List (Option Nat)):Prop:=∀k,some k∈L->some k∉M
section
variable {P:Program} {l:List Oper} {Q:Exit->Act->World->Prop} {fs:List Fact} {a0:Act} {ds:List Nat}
variable (A A' C C':World->List (Option Nat)->Prop) (L1 L2:List (Option Nat)) (i1 i2:Nat) (W:World)
structure Two (b:Array Bool) (w:World):Prop where
 keeps:Keeps (L1++L2) W w
 both:∃M1 M2,(A' w M1/\b.getD i1 false=true∨A w M1/\M1=L1)/\(C' w M2/\b.getD i2 false=true∨C w M2/\M2=L2)/\Dis M1 M2/\Of W L1 M1/\Of W L2 M2
def RTwo (k:Nat) (w w':World):Prop:=
 if k=i1 then w'=w∨∃M1,A' w' M1/\Step L1 M1 w w' else if k=i2 then w'=w∨∃M2,C' w' M2/\Step L2 M2 w w' else Below w.heap.size w w'
variable {A A' C C' L1 L2 i1 i2 W}
def waits (l:List Oper) (k j:Nat):Bool:=match l[k]? with
 | some o=>o.after.toList.any λe=>Ii .any e&&e.on==j
 | none=>false
def LastsTwo (l:List Oper) (A' C':World->List (Option Nat)->Prop) (L1 L2:List (Option Nat)) (i1 i2 k:Nat) (f:Fact):Prop:=
 (∀v w w',Below w.heap.size w w'->f v w->f v w')/\(k≠i1->waits l k i1=false->∀v w w' M1,A' w' M1->Step L1 M1 w w'->f v w->f v w')/\(k≠i2->waits l k i2=false->∀v w w' M2,C' w' M2->Step L2 M2 w w'->f v w->f v w')
def EveryTwo (l:List Oper) (A' C':World->List (Option Nat)->Prop) (L1 L2:List (Option Nat)) (i1 i2:Nat):Nat->List Fact->Prop
 | _,[]=>True
 | k,f::fs=>LastsTwo l A' C' L1 L2 i1 i2 k f/\EveryTwo l A' C' L1 L2 i1 i2 (k+1) fs
def AllTwo (P:Program) (l:List Oper) (fs:List Fact) (R:Nat->World->World->Prop) (K:Array Bool->World->Prop) (a0:Act) (ds:List Nat):Nat->List Oper->List Fact->Prop
 | k,o::os,f::gs=>FineR P l fs R K a0 ds k o f/\AllTwo P l fs R K a0 ds (k+1) os gs
 | _,_,_=>True
end
end Each
namespace Pg
open Base Txt Mem Par Each
section
variable {w w':World} {B:Zone} {g q:Nat} {v f bd t o:Value} {p:Nat} {b:Bd} {L M:List (Option Nat)} {x:Q} {rd:FJ} {fs ts:List Fld} {body:List UInt8}
end
end Pg
namespace Par
open Base Txt Mem Each
abbrev ncells (p:Nat) (b:Bd) (cl:Bool) (e:Nat):List Value:=
 [ZE Z5 (p:Int),ZE Z7 b.x0,ZE Z7 b.x1,ZE Z7 b.x2,ZE Z7 b.x3,ZE Z7 b.x4,ZE Z7 b.x5,ZE Z7 b.x6,ZE Z7 b.x7,ZB b.ch,ZB b.od,ZE Z7 0,ZA none,
   ZD E0,ZD E0,ZE Z7 0,nil,ZB false,nil,nil,ZE Z7 0,ZE Z7 0,ZE Z7 0,ZB false,ZB cl,ZE Z7 (e:Int),nil]
structure Bad (w:World) (B:Zone) (g p:Nat) (b:Bd) (s:S):Prop where
 row:w.heap[g]?=some (.cells (ncells p b false 20).toArray 60 (0,0))
 e:s.e=20
 clean:s.clean=false
 out:s.out= []
 ge:B<=g
 zone:Clear w B.z [some g]
structure Rest (w:World) (B:Zone) (g q:Nat) (v f bd t:Value) (p:Nat) (b:Bd) (s:S):Prop where
 row:∃o,w.heap[g]?=some (.cells (pcells p b s q f bd t o).toArray 60 (0,0))
 own:Own w B g q v f bd t nil p s.rd s.r.fs s.r.body s.r.ts []
def Run (w:World) (B:Zone) (g p:Nat) (b:Bd) (L:List (Option Nat)) (s:S):Prop:=
 (∃q v f bd t o,L=blks g q v f bd t o/\PR w B g q v f bd t o p b s)∨(L= [some g]/\Bad w B g p b s)
def DAt (w:World) (B:Zone) (g p:Nat) (b:Bd) (L:List (Option Nat)) (s:S):Prop:=
 (∃q v f bd t,L=blks g q v f bd t nil/\Rest w B g q v f bd t p b s)∨(L= [some g]/\Bad w B g p b s)
def DQ (w:World) (B:Zone) (g p:Nat) (b:Bd) (L:List (Option Nat)) (x:Hd):Prop:=∃s,Pg.RQ p b x s/\x.Fine b/\DAt w B g p b L s
theorem fine_of {b:Bd} {x:Hd} (h:x.Ok b):x.Fine b:=by cases x<;>exact h
section
variable {w w':World} {B:Zone} {g q:Nat} {v f bd t o:Value} {p:Nat} {b:Bd} {L M:List (Option Nat)} {s:S} {x:Hd} {rd:Ln.R} {fs ts:List Fld} {body:List UInt8} {out:List Hz}
theorem Own.less (h:Own w B g q v f bd t o p rd fs body ts out):Own w B g q v f bd t nil p rd fs body ts []:=by
 have e:blks g q v f bd t nil=(blks g q v f bd t o).set 6 none:=rfl;refine ⟨h.R,h.F,h.D,h.T,⟨[],rfl,XXZe9,NY _ _ _ _⟩,?_,h.ge,h.lt,h.zone.of (Gi _) (by rw [e];exact Of.set 6 none (.inl rfl))⟩;rw [e]
 exact h.lone.set h.in 6 none (.inl rfl)
theorem Run.tell (h:Run w B g p b L s):∃o L',w.cell? ⟨g,26,none⟩=some o/\DAt w B g p b L' s/\Pg.Told L' B w o s.out/\Step L L' w w:=by
 rcases h with ⟨q,v,f,bd,t,o,rfl,h⟩ | ⟨rfl,h⟩
 ·have hsub:∀k,some k∈blks g q v f bd t nil->some k∈blks g q v f bd t o:=λk hk=>by
   exact XX5KD
  refine ⟨o,blks g q v f bd t nil,h.cs.c26,.inl ⟨q,v,f,bd,t,rfl,⟨o,h.row⟩,h.own.less⟩,⟨Pg.Outs.less h.own.O (λk hk=>.inl (hsub k hk)),λk e=>⟨λhm=>?_,?_⟩,λk e=>h.own.zone.off k (Fs (i:=6) XXd29)⟩,⟨Keeps.refl,λk hk=>.inl (hsub k hk)⟩⟩
  ·exact XXTkD
  ·exact h.own.in k (Fs (i:=6) XXd29)
 ·exact ⟨nil,[some g],row_cellL h.row rfl,.inr ⟨rfl,h⟩,by rw [h.out];exact ⟨⟨[],rfl,XXZe9,NY _ _ _ _⟩,(λk e=>by cases e),(λk e=>by cases e)⟩,Step.refl⟩
theorem DAt.start (h:DAt w B g p b L s) (ho:s.out= []):w.frozen? ⟨g,26,none⟩=false/\(∃o,w.cell? ⟨g,26,none⟩=some o)/\Run (w.setCell ⟨g,26,none⟩ nil) B g p b L s/\Step L L w (w.setCell ⟨g,26,none⟩ nil):=by
 rcases h with ⟨q,v,f,bd,t,rfl,⟨o,hrow⟩,hown⟩ | ⟨rfl,h⟩
 ·refine ⟨FX hrow 26,⟨o,row_cellL hrow rfl⟩,.inl ⟨q,v,f,bd,t,nil,rfl,row_setL hrow 26 nil,?_⟩,IL g 26 nil ZW⟩;rw [ho];exact hown.set 26 nil
 ·exact ⟨FX h.row 26,⟨_,row_cellL h.row rfl⟩,.inr ⟨rfl,row_setL h.row 26 nil,h.e,h.clean,h.out,h.ge,h.zone.of ZW GQ⟩,IL g 26 nil ZW⟩
theorem Own.keepsD (h:Own w B g q v f bd t nil p rd fs body ts []) (hk:Keeps M w w') (hd:Dis (blks g q v f bd t nil) M):Own w' B g q v f bd t nil p rd fs body ts []:=
 ⟨⟨hk.row h.R.row (hd q ZW),hk.own h.R.own λk e=>hd k (by simp [←e]),h.R.ge,h.R.ne⟩,hk.own h.F λk e=>hd k (by simp [←e]),hk.own h.D λk e=>hd k (by simp [←e]),hk.own h.T λk e=>hd k (by simp [←e]),
   ⟨[],rfl,XXZe9,NY _ _ _ _⟩,h.lone,h.ge,Gn h.lt hk.size,h.zone.of hk.size GQ⟩
theorem Own.rezoneD (h:Own w B g q v f bd t nil p rd fs body ts []) {Z:List (Option Nat)} (hz:Clear w Z (blks g q v f bd t nil)):Own w ⟨B.b,Z⟩ g q v f bd t nil p rd fs body ts []:=
 ⟨h.R,h.F,h.D,h.T,⟨[],rfl,XXZe9,NY _ _ _ _⟩,h.lone,h.ge,h.lt,hz⟩
theorem DAt.keeps (h:DAt w B g p b L s) (hk:Keeps M w w') (hd:Dis L M):DAt w' B g p b L s:=by
 rcases h with ⟨q,v,f,bd,t,rfl,⟨o,hrow⟩,hown⟩ | ⟨rfl,h⟩
 ·exact .inl ⟨q,v,f,bd,t,rfl,⟨o,hk.row hrow (hd g ZW)⟩,hown.keepsD hk hd⟩
 ·exact .inr ⟨rfl,hk.row h.row (hd g ZW),h.e,h.clean,h.out,h.ge,h.zone.of hk.size GQ⟩
theorem DAt.rezone (h:DAt w B g p b L s) {Z:List (Option Nat)} (hz:Clear w Z L):DAt w ⟨B.b,Z⟩ g p b L s:=by
 rcases h with ⟨q,v,f,bd,t,rfl,hrow,hown⟩ | ⟨rfl,h⟩
 ·exact .inl ⟨q,v,f,bd,t,rfl,hrow,hown.rezoneD hz⟩
 ·exact .inr ⟨rfl,h.row,h.e,h.clean,h.out,h.ge,hz⟩
theorem DAt.in (h:DAt w B g p b L s):In w L:=by
 rcases h with ⟨q,v,f,bd,t,rfl, -,hown⟩ | ⟨rfl,h⟩
 ·exact hown.in
 ·intro k hk;obtain rfl:k=g:=by simpa using hk
  exact FY h.row
theorem DAt.low (h:DAt w B g p b L s):∀k,some k∈L->B<=k:=by
 rcases h with ⟨q,v,f,bd,t,rfl, -,hown⟩ | ⟨rfl,h⟩
 ·exact hown.low
 ·intro k hk;obtain rfl:k=g:=by simpa using hk
  exact h.ge
theorem DQ.keeps (h:DQ w B g p b L x) (hk:Keeps M w w') (hd:Dis L M):DQ w' B g p b L x:=by obtain ⟨s,h1,h2,h3⟩:=h;exact ⟨s,h1,h2,h3.keeps hk hd⟩
theorem DQ.below (h:DQ w B g p b L x) (hb:Below w.heap.size w w'):DQ w' B g p b L x:=h.keeps (M:= []) (CQ hb) (λk _ hk=>by cases hk)
theorem DQ.rezone (h:DQ w B g p b L x) {Z:List (Option Nat)} (hz:Clear w Z L):DQ w ⟨B.b,Z⟩ g p b L x:=by obtain ⟨s,h1,h2,h3⟩:=h;exact ⟨s,h1,h2,h3.rezone hz⟩
theorem DQ.in (h:DQ w B g p b L x):In w L:=by obtain ⟨_,_,_,h3⟩:=h;exact h3.in
theorem DQ.low (h:DQ w B g p b L x):∀k,some k∈L->B<=k:=by obtain ⟨_,_,_,h3⟩:=h;exact h3.low
end
section
attribute [local go_sem] A8
variable {w:World} {B:Zone} {g q:Nat} {v f bd t o:Value} {p:Nat} {b:Bd} {s:S} {x:Hd} {L:List (Option Nat)}
theorem byteDead_any (c:UInt8) {e:Nat} (he:e≠0) (c25:w.cell? ⟨g,25,none⟩=some (ZE Z7 (e:Int))) :
 Calls Mm 72 #[ptr g,ZE Z6 (c.toNat:Int)] w λr w'=>r=.returned (Z8 #[])/\w'=w:=by
 have t5:((e:Int)==0)=false:=ZM.2 ZZ;have n5:¬(e:Int)=0:=ZZ;go_enter Tryz.func72,Tryz.ntmps72;go_wp2;first | go_end0 | refine ZF (results_none rfl _ _ _) rfl ?_
 exact ⟨rfl,rfl⟩
theorem byteRun_any (hp:p<4294967296) (c:UInt8) (h:Run w B g p b L s) (hr:Pg.RQ p b x s) (ok:x.Fine b) (ho:s.out.length<=999999998) :
 Calls Mm 72 #[ptr g,ZE Z6 (c.toNat:Int)] w λr w'=>r=.returned (Z8 #[])/\∃L',Run w' B g p b L' (s.byte p b c)/\Step L L' w w':=by
 cases x with
 | live y=>
   obtain ⟨ok1,ok2⟩:=ok;have hr:Pg.RR p b y s:=hr;rcases h with ⟨q,v,f,bd,t,o,rfl,h⟩ | ⟨rfl,h⟩
   ·refine (byteS_any hp ok2 c h hr ok1 ho).mono ?_;rintro r w' ⟨rfl,q1,v1,f1,bd1,t1,o1,hP,hS⟩;exact ⟨rfl,_,.inl ⟨q1,v1,f1,bd1,t1,o1,rfl,hP⟩,hS⟩
   ·exact ZG (hr.e.symm.trans h.e) ZX
 | dead e o=>
   have he:=hr.err;rw [S.byte_dead he];have key:∀c25:w.cell? ⟨g,25,none⟩=some (ZE Z7 (s.e:Int)),Calls Mm 72 #[ptr g,ZE Z6 (c.toNat:Int)] w λr w'=>r=.returned (Z8 #[])/\∃L',Run w' B g p b L' s/\Step L L' w w':=by intro c25;refine (byteDead_any c he c25).mono ?_;rintro r w' ⟨rfl,rfl⟩;exact ⟨rfl,L,h,Step.refl⟩
   rcases h with ⟨q,v,f,bd,t,o,rfl,h1⟩ | ⟨rfl,h1⟩
   ·exact key h1.cs.c25
   ·exact key (by rw [h1.e];exact row_cellL h1.row rfl)
end
end Par
open _root_.Bool renaming eq_false_or_eq_true→AQ
open _root_.Go.Proofs.Tryz renaming underlying5→Nr,underlying9→Ns
open _root_.List renaming append_assoc→D7,append_nil→D8,eq_nil_of_length_eq_zero→DX,getElem?_map→Ew,getElem_mem→EB,length_nil→EW,take_append_drop→FD,take_of_length_le→FF,take_succ_eq_append_getElem→FG
open _root_.Option renaming some→GZ
open Each renaming Lasts→BE,When→BH,fine_when→BJ
open Each.Goes renaming same→BC
open Each.Lasts renaming when→BG
open Mem.Keeps renaming set→CU
open Pg.Q renaming new→He,read→Hr
open Rec renaming Bk→Hv,Reads→Ia
namespace Par
open Base Txt Mem Each
section
variable {w:World} {B:Zone} {g p:Nat} {b:Bd} {s:S} {x:Hd} {L:List (Option Nat)}
theorem DAt.cell (h:DAt w B g p b L s):w.cell? ⟨g,25,none⟩=some (ZE Z7 (s.e:Int))/\w.cell? ⟨g,24,none⟩=some (ZB s.clean):=by
 rcases h with ⟨q,v,f,bd,t,rfl,⟨o,hrow⟩,hown⟩ | ⟨rfl,h⟩
 ·exact ⟨row_cellL hrow rfl,row_cellL hrow rfl⟩
 ·rw [h.e,h.clean];exact ⟨row_cellL h.row rfl,row_cellL h.row rfl⟩
theorem DQ.e (h:DQ w B g p b L x):w.cell? ⟨g,25,none⟩=some (ZE Z7 (x.err:Int)):=by obtain ⟨s,h1,h2,h3⟩:=h;rw [←(Pg.said_sim h1 h2).1];exact h3.cell.1
theorem DQ.cl (h:DQ w B g p b L x):w.cell? ⟨g,24,none⟩=some (ZB x.clean):=by obtain ⟨s,h1,h2,h3⟩:=h;rw [←(Pg.said_sim h1 h2).2.2.2.2];exact h3.cell.2
theorem DAt.told (h:DAt w B g p b L s):DAt w B g p b L {s with out:= []}:=by
 rcases h with ⟨q,v,f,bd,t,rfl,hrow,hown⟩ | ⟨rfl,h⟩
 ·exact .inl ⟨q,v,f,bd,t,rfl,hrow,hown⟩
 ·exact .inr ⟨rfl,h.row,h.e,h.clean,rfl,h.ge,h.zone⟩
end
section
attribute [local go_sem] A8
variable {w:World} {B:Zone} {g q:Nat} {v f bd t o:Value} {p:Nat} {b:Bd} {s:S} {x:Hd} {L:List (Option Nat)}
theorem next_new (hrow:w.heap[g]?=some (.cells (ncells p b true 0).toArray 60 (0,0))) (hB:B<=g) (hz:B.z= []):Calls Mm 70 #[ptr g] w λr w'=>
 r=.returned (Z8 #[])/\∃q1,PR w' B g q1 nil nil nil nil nil p b ⟨0,nl p b.x0,zero,0,0,0,false,true,0,[]⟩/\Keeps [some g] w w':=by
 have hlt:=FY hrow
 have HR1:=Dl (show (((((((((((((w.setCell ⟨g,13,none⟩ (ZD E0)).setCell ⟨g,14,none⟩ (ZD E0)).setCell ⟨g,15,none⟩ (ZE Z7 0)).setCell ⟨g,16,none⟩ (nil)).setCell ⟨g,17,none⟩ (ZB false)).setCell ⟨g,18,none⟩ (nil)).setCell ⟨g,19,none⟩ (nil)).setCell ⟨g,11,none⟩ (ZE Z7 0)).setCell ⟨g,20,none⟩ (ZE Z7 0)).setCell ⟨g,21,none⟩ (ZE Z7 0)).setCell ⟨g,23,none⟩ (ZB false)).setCell ⟨g,24,none⟩ (ZB true))).heap[g]?=some (.cells (ncells p b true 0).toArray 60 (0,0)) from (row_setL (row_setL (row_setL (row_setL (row_setL (row_setL (row_setL (row_setL (row_setL (row_setL (row_setL (row_setL hrow 13 (ZD E0)) 14 (ZD E0)) 15 (ZE Z7 0)) 16 (nil)) 17 (ZB false)) 18 (nil)) 19 (nil)) 11 (ZE Z7 0)) 20 (ZE Z7 0)) 21 (ZE Z7 0)) 23 (ZB false)) 24 (ZB true)));have HK1:=Dl (show Keeps [some g] w ((((((((((((w.setCell ⟨g,13,none⟩ (ZD E0)).setCell ⟨g,14,none⟩ (ZD E0)).setCell ⟨g,15,none⟩ (ZE Z7 0)).setCell ⟨g,16,none⟩ (nil)).setCell ⟨g,17,none⟩ (ZB false)).setCell ⟨g,18,none⟩ (nil)).setCell ⟨g,19,none⟩ (nil)).setCell ⟨g,11,none⟩ (ZE Z7 0)).setCell ⟨g,20,none⟩ (ZE Z7 0)).setCell ⟨g,21,none⟩ (ZE Z7 0)).setCell ⟨g,23,none⟩ (ZB false)).setCell ⟨g,24,none⟩ (ZB true)) from ((((((((((((CU (L:= [some g]) g 13 (ZD E0) ZW).trans (CU (L:= [some g]) g 14 (ZD E0) ZW) GQ).trans (CU (L:= [some g]) g 15 (ZE Z7 0) ZW) GQ).trans (CU (L:= [some g]) g 16 (nil) ZW) GQ).trans (CU (L:= [some g]) g 17 (ZB false) ZW) GQ).trans (CU (L:= [some g]) g 18 (nil) ZW) GQ).trans (CU (L:= [some g]) g 19 (nil) ZW) GQ).trans (CU (L:= [some g]) g 11 (ZE Z7 0) ZW) GQ).trans (CU (L:= [some g]) g 20 (ZE Z7 0) ZW) GQ).trans (CU (L:= [some g]) g 21 (ZE Z7 0) ZW) GQ).trans (CU (L:= [some g]) g 23 (ZB false) ZW) GQ).trans (CU (L:= [some g]) g 24 (ZB true) ZW) GQ));have c11:=row_cellL hrow (k:=11) rfl;have z11:=FX hrow 11;have c13:=row_cellL hrow (k:=13) rfl;have z13:=FX hrow 13;have c14:=row_cellL hrow (k:=14) rfl;have z14:=FX hrow 14;have c15:=row_cellL hrow (k:=15) rfl;have z15:=FX hrow 15;have c16:=row_cellL hrow (k:=16) rfl;have z16:=FX hrow 16;have c17:=row_cellL hrow (k:=17) rfl;have z17:=FX hrow 17;have c18:=row_cellL hrow (k:=18) rfl;have z18:=FX hrow 18;have c19:=row_cellL hrow (k:=19) rfl;have z19:=FX hrow 19;have c20:=row_cellL hrow (k:=20) rfl;have z20:=FX hrow 20;have c21:=row_cellL hrow (k:=21) rfl;have z21:=FX hrow 21;have c23:=row_cellL hrow (k:=23) rfl;have z23:=FX hrow 23;have c24:=row_cellL hrow (k:=24) rfl;have z24:=FX hrow 24;have HB:=Dl hB;have HZ:=Dl hz;clear hrow hB hlt hz;go_enter Tryz.func70,Tryz.ntmps70;go_upto_region 1 with fail
 generalize ((((((((((((w.setCell ⟨g,13,none⟩ (ZD E0)).setCell ⟨g,14,none⟩ (ZD E0)).setCell ⟨g,15,none⟩ (ZE Z7 0)).setCell ⟨g,16,none⟩ (nil)).setCell ⟨g,17,none⟩ (ZB false)).setCell ⟨g,18,none⟩ (nil)).setCell ⟨g,19,none⟩ (nil)).setCell ⟨g,11,none⟩ (ZE Z7 0)).setCell ⟨g,20,none⟩ (ZE Z7 0)).setCell ⟨g,21,none⟩ (ZE Z7 0)).setCell ⟨g,23,none⟩ (ZB false)).setCell ⟨g,24,none⟩ (ZB true))=W1 at *;clear c13 z13 c14 z14 c15 z15 c16 z16 c17 z17 c18 z18 c19 z19 c11 z11 c20 z20 c21 z21 c23 z23 c24 z24
 have HRD:=Dl (show (W1.drewN 1).heap[g]?=some (.cells (ncells p b true 0).toArray 60 (0,0)) from HR1.out)
 have HQ:=Dl (show Hv (W1.drewN 1) g (ncells p b true 0) from ⟨λ_ _ hu=>row_cellL HRD.out hu,λk _=>FX HRD.out k,FY HRD.out⟩);have HBW:=Dl (show B<=(W1.drewN 1).heap.size from Gl HB.out (Gh (FY HRD.out)));refine BN 11 [21,22,23,24,25,26,27,28,29,30,31] [eP g 0,eP g 0,eP g 0,eP g 0,eQ (ZE Z5 (p:Int)),eP g 0,eP g 0,eP g 1,eP g 1,eQ (ZE Z7 b.x0),λv w=>∃q1,v=ptr q1/\W1.heap.size<=q1/\Ln.Rr w B.b q1 nil p (nl p (b.x0))] (.quiet 11 (.quiet 12 (.act 13 .done))) ZY ZY ZY ZY (λ_ _ d _ _ h=>by cases d<;>exact h) ZV ZV ⟨BF _,BF _,BF _,BF _,BF _,BF _,BF _,BF _,BF _,BF _,((λ_ _ _ hb h=>by obtain ⟨q1,e1,h1,h2⟩:=h;exact ⟨q1,e1,h1,rr_below h2 hb⟩)),trivial⟩ ?_ ?_
 ·refine ⟨?_,?_,?_,?_,?_,?_,?_,?_,?_,?_,?_,trivial⟩
  iterate 10·exact XXSdZ
  ·refine BI rfl (λev w1 hR hb hh=>?_);have e25:ev (.tmp 25)= _:=hh.at 0;have e30:ev (.tmp 30)= _:=hh.at 1;clear hh;have ef:=hR.func;refine BA 113 #[ZE Z5 (p:Int),ZE Z7 (b.x0)] ZU ((rnew_line B.b (b.x0) w1 (Gl HBW.out hb.size)).mono ?_);rintro r w2 ⟨q1,rfl,h1,h2,hb2⟩;exact ⟨_,rfl,hb2,q1,rfl,Gl hb.size h1,h2⟩
 intro g1 w2 hb hf;have z21:g1 21= _:=hf.at 0;have z31:=hf.at 10;clear hf;obtain ⟨q1,e1,hq1,hr1⟩:=z31;simp only [BM,Ab,F4,F7,F6];rw [e1,z21];simp only [Ju,Jw,Er,Ep];refine Jx ZV (ptr g) (λ_ _=>by go_simp) ?_;simp only [Ab,F4,F7,F6];refine Jx ZV (ZA (some ⟨g,12,none⟩)) (λ_ _=>by go_simp) ?_;simp only [Ab,F4,F7,F6];have hrow2:=(hb.block g (FY HR1.out)).trans HR1.out;have c12:=row_cellL hrow2 (k:=12) rfl;have z12:=FX hrow2 12;refine Jr ZV (λK hK=>?_);go_simp;refine hK _ _ trivial ?_;clear hK K;refine Js ?_;have HR2:=Dl hrow2;have HRR:=Dl hr1;have HQ1:=Dl hq1;have HB2:=Dl hb;clear HQ HBW HRD hr1 hq1 hrow2 c12 z12 hb;go_wp2;go_end0;have hgq:g≠q1:=by have:=FY HR1.out;have:=HQ1.out;omega
 have hk:Keeps [some g] w2 (w2.setCell ⟨g,12,none⟩ (ptr q1)):=CU g 12 _ ZW;refine ⟨rfl,q1,⟨row_setL HR2.out 12 (ptr q1),⟨⟨hk.row HRR.out.row (by simpa using λe=>hgq e.symm),hk.own HRR.out.own XX5ba,HRR.out.ge,HRR.out.ne⟩,NY _ _ _ _,NY _ _ _ _,NY _ _ _ _,⟨[],rfl,XXZe9,NY _ _ _ _⟩,?_,HB.out,by have:=FY HR2.out;simpa using this,by rw [HZ.out];exact Clear.nil⟩⟩,(HK1.out.trans (CQ HB2.out) GQ).trans hk GQ⟩;intro i j k hi hj;rcases i with _ | _ | _ | _ | _ | _ | _ | i<;>rcases j with _ | _ | _ | _ | _ | _ | _ | j<;>simp [Value.ownBlock] at hi hj ⊢<;>omega
theorem fine_new (p:Nat) (b:Bd):(He p b).Fine b:=fine_of (Hd.new_ok p b)
theorem XX9L8 {P:Prop} (h:P:=by
 clear x0 x1 x2 x3 x4 x5 x6 x7 x8 x9;go_wp2_with fail;go_ret
 exact KEY.out W0 _ (A6 HB4.out HB3.out) HG.out (Gn HLT.out HB3.out.size) HR5.out):P:=h
theorem dnew_any (hp:p<4294967296) (w:World):Calls Mm 16 #[ZE Z5 (p:Int),Z9 #[ZE Z7 b.x0,ZE Z7 b.x1,ZE Z7 b.x2,ZE Z7 b.x3,ZE Z7 b.x4,ZE Z7 b.x5,ZE Z7 b.x6,ZE Z7 b.x7,ZB b.ch,ZB b.od]] w λr w'=>
 ∃g L',r=.returned (ptr g)/\w.heap.size<=g/\DQ w' ⟨w.heap.size,[]⟩ g p b L' (He p b)/\Below w.heap.size w w':=by
 have hqr:=λw=>Qk.rright_any p hp w;have hbr:=λw=>Bnd.rright_any b.x0 b.x1 b.x2 b.x3 b.x4 b.x5 b.x6 b.x7 b.ch b.od w
 have HB0:=Dl (((AE _ _).alloc (Gi _) (.cells #[ZE Z7 b.x0,ZE Z7 b.x1,ZE Z7 b.x2,ZE Z7 b.x3,ZE Z7 b.x4,ZE Z7 b.x5,ZE Z7 b.x6,ZE Z7 b.x7,ZB b.ch,ZB b.od] 29)):Below w.heap.size w _)
 have HZ0:=Dl (Hw w w.heap.size rfl 29 [ZE Z7 b.x0,ZE Z7 b.x1,ZE Z7 b.x2,ZE Z7 b.x3,ZE Z7 b.x4,ZE Z7 b.x5,ZE Z7 b.x6,ZE Z7 b.x7,ZB b.ch,ZB b.od])
 have HSZ:=Dl (show w.heap.size<(w.alloc (.cells #[ZE Z7 b.x0,ZE Z7 b.x1,ZE Z7 b.x2,ZE Z7 b.x3,ZE Z7 b.x4,ZE Z7 b.x5,ZE Z7 b.x6,ZE Z7 b.x7,ZB b.ch,ZB b.od] 29)).heap.size by simp);have HSIM:=Dl (Pg.new_sim (p:=p) (b:=b));have HFI:=Dl (fine_new p b);have hnew:He p b=if (b.right&&decide (p<1073741824))=true then .live (Pg.T.new p b) else .dead 20 []:=rfl
 have hsn:S.new p b=if (b.right&&decide (p<1073741824))=true then ⟨0,nl p b.x0,zero,0,0,0,false,true,0,[]⟩ else ⟨0,nl p b.x0,zero,0,0,0,false,false,20,[]⟩:=rfl
 generalize He p b=X at HSIM HFI hnew ⊢;generalize S.new p b=s0 at HSIM hsn;have good:b.right=true->p<1073741824->s0=⟨0,nl p b.x0,zero,0,0,0,false,true,0,[]⟩:=λh1 h2=>by rw [hsn,ZN (by rw [h1,ZK h2];rfl)]
 have bad:¬(b.right=true/\p<1073741824)->s0=⟨0,nl p b.x0,zero,0,0,0,false,false,20,[]⟩:=λh=>by rw [hsn,ZO (by simpa using h)]
 clear hnew hsn;by_cases hok:b.right=true/\p<1073741824
 ·have es:=good hok.1 hok.2;subst es;rw [ZK hok.2] at hqr;rw [show Bnd.right b.x0 b.x1 b.x2 b.x3 b.x4 b.x5 b.x6 b.x7=true from hok.1] at hbr;have HQR:=Dl hqr;have HBR:=Dl hbr;clear hqr hbr good bad hok;go_enter Tryz.func16,Tryz.ntmps16;go_upto_region 1 with fail
  generalize w.alloc (.cells #[ZE Z7 b.x0,ZE Z7 b.x1,ZE Z7 b.x2,ZE Z7 b.x3,ZE Z7 b.x4,ZE Z7 b.x5,ZE Z7 b.x6,ZE Z7 b.x7,ZB b.ch,ZB b.od] 29)=W0 at *;have y0:=HZ0.out.c 0 _ rfl;have y1:=HZ0.out.c 1 _ rfl;have y2:=HZ0.out.c 2 _ rfl;have y3:=HZ0.out.c 3 _ rfl;have y4:=HZ0.out.c 4 _ rfl;have y5:=HZ0.out.c 5 _ rfl;have y6:=HZ0.out.c 6 _ rfl;have y7:=HZ0.out.c 7 _ rfl;have y8:=HZ0.out.c 8 _ rfl;have y9:=HZ0.out.c 9 _ rfl
  have HG:=Dl (Gh HSZ.out)
  have HR4:=Dl (heap_alloc_new W0 (.cells #[ZE Z5 (p:Int),ZE Z7 b.x0,ZE Z7 b.x1,ZE Z7 b.x2,ZE Z7 b.x3,ZE Z7 b.x4,ZE Z7 b.x5,ZE Z7 b.x6,ZE Z7 b.x7,ZB b.ch,ZB b.od,ZE Z7 0,ZA none,ZD E0,ZD E0,ZE Z7 0,nil,ZB false,nil,nil,ZE Z7 0,ZE Z7 0,ZE Z7 0,ZB false,ZB true,ZE Z7 0,nil] 60))
  have HB4:=Dl (HB0.out.alloc HG.out (.cells #[ZE Z5 (p:Int),ZE Z7 b.x0,ZE Z7 b.x1,ZE Z7 b.x2,ZE Z7 b.x3,ZE Z7 b.x4,ZE Z7 b.x5,ZE Z7 b.x6,ZE Z7 b.x7,ZB b.ch,ZB b.od,ZE Z7 0,ZA none,ZD E0,ZD E0,ZE Z7 0,nil,ZB false,nil,nil,ZE Z7 0,ZE Z7 0,ZE Z7 0,ZB false,ZB true,ZE Z7 0,nil] 60))
  have HX4:=Dl (HZ0.out.alloc (.cells #[ZE Z5 (p:Int),ZE Z7 b.x0,ZE Z7 b.x1,ZE Z7 b.x2,ZE Z7 b.x3,ZE Z7 b.x4,ZE Z7 b.x5,ZE Z7 b.x6,ZE Z7 b.x7,ZB b.ch,ZB b.od,ZE Z7 0,ZA none,ZD E0,ZD E0,ZE Z7 0,nil,ZB false,nil,nil,ZE Z7 0,ZE Z7 0,ZE Z7 0,ZB false,ZB true,ZE Z7 0,nil] 60));have HLT:=Dl (show W0.heap.size<(W0.alloc (.cells #[ZE Z5 (p:Int),ZE Z7 b.x0,ZE Z7 b.x1,ZE Z7 b.x2,ZE Z7 b.x3,ZE Z7 b.x4,ZE Z7 b.x5,ZE Z7 b.x6,ZE Z7 b.x7,ZB b.ch,ZB b.od,ZE Z7 0,ZA none,ZD E0,ZD E0,ZE Z7 0,nil,ZB false,nil,nil,ZE Z7 0,ZE Z7 0,ZE Z7 0,ZB false,ZB true,ZE Z7 0,nil] 60)).heap.size by simp);go_upto_region 2 with fail
  generalize hgg:W0.heap.size=g at *;generalize W0.alloc (.cells #[ZE Z5 (p:Int),ZE Z7 b.x0,ZE Z7 b.x1,ZE Z7 b.x2,ZE Z7 b.x3,ZE Z7 b.x4,ZE Z7 b.x5,ZE Z7 b.x6,ZE Z7 b.x7,ZB b.ch,ZB b.od,ZE Z7 0,ZA none,ZD E0,ZD E0,ZE Z7 0,nil,ZB false,nil,nil,ZE Z7 0,ZE Z7 0,ZE Z7 0,ZB false,ZB true,ZE Z7 0,nil] 60)=W2 at *;clear y0 y1 y2 y3 y4 y5 y6 y7 y8 y9;have x0:=HX4.out.c 0 _ rfl;have x1:=HX4.out.c 1 _ rfl;have x2:=HX4.out.c 2 _ rfl;have x3:=HX4.out.c 3 _ rfl;have x4:=HX4.out.c 4 _ rfl;have x5:=HX4.out.c 5 _ rfl;have x6:=HX4.out.c 6 _ rfl;have x7:=HX4.out.c 7 _ rfl;have x8:=HX4.out.c 8 _ rfl;have x9:=HX4.out.c 9 _ rfl
  go_wp2_with (first
   |(go_at_call 70;with_reducible refine (next_new (B:=⟨w.heap.size,[]⟩) HR5.out HG.out rfl).mono ?_;rintro r w5 ⟨rfl,q1,hP,hK⟩)
   |(go_at_call 69;with_reducible refine Cm (HQR.out _) ?_)
   |(go_at_call 43;with_reducible refine (HBR.out _).mono ?_;rintro r w3 ⟨rfl,hb3⟩
     have HB3:=Dl hb3;have HR5:=Dl ((hb3.block g HLT.out).trans HR4.out);clear hb3))
  go_ret;have hbw:=A6 HB4.out HB3.out;exact ⟨g,_,rfl,HG.out,⟨_,HSIM.out,HFI.out,.inl ⟨q1,nil,nil,nil,nil,rfl,⟨nil,hP.row⟩,hP.own⟩⟩,hbw.trans (hK.below hbw.size (λk hk=>by rw [GZ.inj (Fv.1 hk)];exact HG.out))⟩
 ·have es:=bad hok;subst es;have hbr':b.right=false∨(b.right=true/\decide (p<1073741824)=false):=by
   cases h:b.right with
   | false=>exact .inl rfl
   | true=>exact .inr ⟨rfl,ZL λe=>hok ⟨h,e⟩⟩
  clear good bad hok;have HQR:=Dl hqr;have HBR:=Dl hbr;clear hqr hbr;have key:∀(W0:World) (W:World),Below w.heap.size w W->w.heap.size<=W0.heap.size->W0.heap.size<W.heap.size->W.heap[W0.heap.size]?=some (.cells (ncells p b true 0).toArray 60 (0,0))->
   ∃g L',(Ending.returned (ptr W0.heap.size))=.returned (ptr g)/\w.heap.size<=g/\DQ ((W.setCell ⟨W0.heap.size,25,none⟩ (ZE Z7 20)).setCell ⟨W0.heap.size,24,none⟩ (ZB false)) ⟨w.heap.size,[]⟩ g p b L' X/\Below w.heap.size w ((W.setCell ⟨W0.heap.size,25,none⟩ (ZE Z7 20)).setCell ⟨W0.heap.size,24,none⟩ (ZB false)):=by
   intro W0 W hb hg hlt hr;have hk:Keeps [some W0.heap.size] W ((W.setCell ⟨W0.heap.size,25,none⟩ (ZE Z7 20)).setCell ⟨W0.heap.size,24,none⟩ (ZB false)):=(CU _ 25 _ ZW).trans (CU _ 24 _ ZW) GQ;exact ⟨W0.heap.size,[some W0.heap.size],rfl,hg,⟨_,HSIM.out,HFI.out,.inr ⟨rfl,row_setL (row_setL hr 25 (ZE Z7 20)) 24 (ZB false),rfl,rfl,rfl,hg,Clear.nil⟩⟩,hb.trans (hk.below hb.size (λk hk=>by rw [GZ.inj (Fv.1 hk)];exact hg))⟩
  have KEY:=Dl key;clear key HSIM HFI;rcases hbr' with h1 | ⟨h1,h2⟩
  ·rw [show Bnd.right b.x0 b.x1 b.x2 b.x3 b.x4 b.x5 b.x6 b.x7=false from h1] at HBR;clear HQR h1;go_enter Tryz.func16,Tryz.ntmps16;go_upto_region 1 with fail
   generalize w.alloc (.cells #[ZE Z7 b.x0,ZE Z7 b.x1,ZE Z7 b.x2,ZE Z7 b.x3,ZE Z7 b.x4,ZE Z7 b.x5,ZE Z7 b.x6,ZE Z7 b.x7,ZB b.ch,ZB b.od] 29)=W0 at *;have y0:=HZ0.out.c 0 _ rfl;have y1:=HZ0.out.c 1 _ rfl;have y2:=HZ0.out.c 2 _ rfl;have y3:=HZ0.out.c 3 _ rfl;have y4:=HZ0.out.c 4 _ rfl;have y5:=HZ0.out.c 5 _ rfl;have y6:=HZ0.out.c 6 _ rfl;have y7:=HZ0.out.c 7 _ rfl;have y8:=HZ0.out.c 8 _ rfl;have y9:=HZ0.out.c 9 _ rfl
   have HG:=Dl (Gh HSZ.out)
   have HR4:=Dl (heap_alloc_new W0 (.cells #[ZE Z5 (p:Int),ZE Z7 b.x0,ZE Z7 b.x1,ZE Z7 b.x2,ZE Z7 b.x3,ZE Z7 b.x4,ZE Z7 b.x5,ZE Z7 b.x6,ZE Z7 b.x7,ZB b.ch,ZB b.od,ZE Z7 0,ZA none,ZD E0,ZD E0,ZE Z7 0,nil,ZB false,nil,nil,ZE Z7 0,ZE Z7 0,ZE Z7 0,ZB false,ZB true,ZE Z7 0,nil] 60))
   have HB4:=Dl (HB0.out.alloc HG.out (.cells #[ZE Z5 (p:Int),ZE Z7 b.x0,ZE Z7 b.x1,ZE Z7 b.x2,ZE Z7 b.x3,ZE Z7 b.x4,ZE Z7 b.x5,ZE Z7 b.x6,ZE Z7 b.x7,ZB b.ch,ZB b.od,ZE Z7 0,ZA none,ZD E0,ZD E0,ZE Z7 0,nil,ZB false,nil,nil,ZE Z7 0,ZE Z7 0,ZE Z7 0,ZB false,ZB true,ZE Z7 0,nil] 60))
   have HX4:=Dl (HZ0.out.alloc (.cells #[ZE Z5 (p:Int),ZE Z7 b.x0,ZE Z7 b.x1,ZE Z7 b.x2,ZE Z7 b.x3,ZE Z7 b.x4,ZE Z7 b.x5,ZE Z7 b.x6,ZE Z7 b.x7,ZB b.ch,ZB b.od,ZE Z7 0,ZA none,ZD E0,ZD E0,ZE Z7 0,nil,ZB false,nil,nil,ZE Z7 0,ZE Z7 0,ZE Z7 0,ZB false,ZB true,ZE Z7 0,nil] 60));have HLT:=Dl (show W0.heap.size<(W0.alloc (.cells #[ZE Z5 (p:Int),ZE Z7 b.x0,ZE Z7 b.x1,ZE Z7 b.x2,ZE Z7 b.x3,ZE Z7 b.x4,ZE Z7 b.x5,ZE Z7 b.x6,ZE Z7 b.x7,ZB b.ch,ZB b.od,ZE Z7 0,ZA none,ZD E0,ZD E0,ZE Z7 0,nil,ZB false,nil,nil,ZE Z7 0,ZE Z7 0,ZE Z7 0,ZB false,ZB true,ZE Z7 0,nil] 60)).heap.size by simp);go_upto_region 2 with fail
   generalize W0.alloc (.cells #[ZE Z5 (p:Int),ZE Z7 b.x0,ZE Z7 b.x1,ZE Z7 b.x2,ZE Z7 b.x3,ZE Z7 b.x4,ZE Z7 b.x5,ZE Z7 b.x6,ZE Z7 b.x7,ZB b.ch,ZB b.od,ZE Z7 0,ZA none,ZD E0,ZD E0,ZE Z7 0,nil,ZB false,nil,nil,ZE Z7 0,ZE Z7 0,ZE Z7 0,ZB false,ZB true,ZE Z7 0,nil] 60)=W2 at *;clear y0 y1 y2 y3 y4 y5 y6 y7 y8 y9;have x0:=HX4.out.c 0 _ rfl;have x1:=HX4.out.c 1 _ rfl;have x2:=HX4.out.c 2 _ rfl;have x3:=HX4.out.c 3 _ rfl;have x4:=HX4.out.c 4 _ rfl;have x5:=HX4.out.c 5 _ rfl;have x6:=HX4.out.c 6 _ rfl;have x7:=HX4.out.c 7 _ rfl;have x8:=HX4.out.c 8 _ rfl;have x9:=HX4.out.c 9 _ rfl;go_upto_region 3 with
    (go_at_call 43;with_reducible refine (HBR.out _).mono ?_;rintro r w3 ⟨rfl,hb3⟩
     have HB3:=Dl hb3;have hr5:=(hb3.block _ HLT.out).trans HR4.out;have d25:=row_cellL hr5 (k:=25) rfl;have e25:=FX hr5 25;have d24:=row_cellL hr5 (k:=24) rfl;have e24:=FX hr5 24;have HR5:=Dl hr5;clear hb3 hr5)
   exact XX9L8
  ·rw [show Bnd.right b.x0 b.x1 b.x2 b.x3 b.x4 b.x5 b.x6 b.x7=true from h1] at HBR;rw [h2] at HQR;clear h1 h2;go_enter Tryz.func16,Tryz.ntmps16;go_upto_region 1 with fail
   generalize w.alloc (.cells #[ZE Z7 b.x0,ZE Z7 b.x1,ZE Z7 b.x2,ZE Z7 b.x3,ZE Z7 b.x4,ZE Z7 b.x5,ZE Z7 b.x6,ZE Z7 b.x7,ZB b.ch,ZB b.od] 29)=W0 at *;have y0:=HZ0.out.c 0 _ rfl;have y1:=HZ0.out.c 1 _ rfl;have y2:=HZ0.out.c 2 _ rfl;have y3:=HZ0.out.c 3 _ rfl;have y4:=HZ0.out.c 4 _ rfl;have y5:=HZ0.out.c 5 _ rfl;have y6:=HZ0.out.c 6 _ rfl;have y7:=HZ0.out.c 7 _ rfl;have y8:=HZ0.out.c 8 _ rfl;have y9:=HZ0.out.c 9 _ rfl
   have HG:=Dl (Gh HSZ.out)
   have HR4:=Dl (heap_alloc_new W0 (.cells #[ZE Z5 (p:Int),ZE Z7 b.x0,ZE Z7 b.x1,ZE Z7 b.x2,ZE Z7 b.x3,ZE Z7 b.x4,ZE Z7 b.x5,ZE Z7 b.x6,ZE Z7 b.x7,ZB b.ch,ZB b.od,ZE Z7 0,ZA none,ZD E0,ZD E0,ZE Z7 0,nil,ZB false,nil,nil,ZE Z7 0,ZE Z7 0,ZE Z7 0,ZB false,ZB true,ZE Z7 0,nil] 60))
   have HB4:=Dl (HB0.out.alloc HG.out (.cells #[ZE Z5 (p:Int),ZE Z7 b.x0,ZE Z7 b.x1,ZE Z7 b.x2,ZE Z7 b.x3,ZE Z7 b.x4,ZE Z7 b.x5,ZE Z7 b.x6,ZE Z7 b.x7,ZB b.ch,ZB b.od,ZE Z7 0,ZA none,ZD E0,ZD E0,ZE Z7 0,nil,ZB false,nil,nil,ZE Z7 0,ZE Z7 0,ZE Z7 0,ZB false,ZB true,ZE Z7 0,nil] 60))
   have HX4:=Dl (HZ0.out.alloc (.cells #[ZE Z5 (p:Int),ZE Z7 b.x0,ZE Z7 b.x1,ZE Z7 b.x2,ZE Z7 b.x3,ZE Z7 b.x4,ZE Z7 b.x5,ZE Z7 b.x6,ZE Z7 b.x7,ZB b.ch,ZB b.od,ZE Z7 0,ZA none,ZD E0,ZD E0,ZE Z7 0,nil,ZB false,nil,nil,ZE Z7 0,ZE Z7 0,ZE Z7 0,ZB false,ZB true,ZE Z7 0,nil] 60));have HLT:=Dl (show W0.heap.size<(W0.alloc (.cells #[ZE Z5 (p:Int),ZE Z7 b.x0,ZE Z7 b.x1,ZE Z7 b.x2,ZE Z7 b.x3,ZE Z7 b.x4,ZE Z7 b.x5,ZE Z7 b.x6,ZE Z7 b.x7,ZB b.ch,ZB b.od,ZE Z7 0,ZA none,ZD E0,ZD E0,ZE Z7 0,nil,ZB false,nil,nil,ZE Z7 0,ZE Z7 0,ZE Z7 0,ZB false,ZB true,ZE Z7 0,nil] 60)).heap.size by simp);go_upto_region 2 with fail
   generalize W0.alloc (.cells #[ZE Z5 (p:Int),ZE Z7 b.x0,ZE Z7 b.x1,ZE Z7 b.x2,ZE Z7 b.x3,ZE Z7 b.x4,ZE Z7 b.x5,ZE Z7 b.x6,ZE Z7 b.x7,ZB b.ch,ZB b.od,ZE Z7 0,ZA none,ZD E0,ZD E0,ZE Z7 0,nil,ZB false,nil,nil,ZE Z7 0,ZE Z7 0,ZE Z7 0,ZB false,ZB true,ZE Z7 0,nil] 60)=W2 at *;clear y0 y1 y2 y3 y4 y5 y6 y7 y8 y9;have x0:=HX4.out.c 0 _ rfl;have x1:=HX4.out.c 1 _ rfl;have x2:=HX4.out.c 2 _ rfl;have x3:=HX4.out.c 3 _ rfl;have x4:=HX4.out.c 4 _ rfl;have x5:=HX4.out.c 5 _ rfl;have x6:=HX4.out.c 6 _ rfl;have x7:=HX4.out.c 7 _ rfl;have x8:=HX4.out.c 8 _ rfl;have x9:=HX4.out.c 9 _ rfl
   go_upto_region 3 with (first
    |(go_at_call 69;with_reducible refine Cm (HQR.out _) ?_)
    |(go_at_call 43;with_reducible refine (HBR.out _).mono ?_;rintro r w3 ⟨rfl,hb3⟩
      have HB3:=Dl hb3;have hr5:=(hb3.block _ HLT.out).trans HR4.out;have d25:=row_cellL hr5 (k:=25) rfl;have e25:=FX hr5 25;have d24:=row_cellL hr5 (k:=24) rfl;have e24:=FX hr5 24;have HR5:=Dl hr5;clear hb3 hr5))
   exact XX9L8
theorem dclean_any (h:DQ w B g p b L x):Calls Mm 26 #[ptr g] w λr w'=>r=.returned (ZB x.clean)/\w'=w:=by have c24:=h.cl;clear h;generalize x.clean=cl at *;go_enter Tryz.func26,Tryz.ntmps26;go_wp2;go_ret;exact ⟨rfl,rfl⟩
end
end Par
namespace Par
open Base Txt Mem Each
section
attribute [local go_sem] A8
variable {w:World} {B:Zone} {g q:Nat} {v f bd t o:Value} {p:Nat} {b:Bd} {s:S} {x:Hd} {L:List (Option Nat)}
theorem dfeed_any (hp:p<4294967296) (h:DQ w B g p b L x) (xo:x.out= []) (a:Option Addr) (ca:Nat) (ls:List (List UInt8)) (hl:Pg.Parts L w a ls) (hn:ls.length<=1000000) (hout:2*ls.flatten.length<=999999998) :
 Calls Mm 18 #[ptr g,.slice a ls.length ca] w λr w'=>∃o L',r=.returned o/\DQ w' B g p b L' (x.feed p b ls.flatten).told/\Pg.Told L' B w' o (x.feed p b ls.flatten).out/\Step L L' w w':=by
 obtain ⟨s,hr,ok,hd⟩:=h;have ho:s.out= []:=(Pg.said_sim hr ok).2.1.trans xo;obtain ⟨z26,⟨o0,c26⟩,hrun,hst⟩:=hd.start ho;have HR:=Dl hr;have HOK:=Dl ok;have HU:=Dl hrun;have HS0:=Dl hst;have HL:=Dl (hl.step hst);have HOU:=Dl hout;have HXO:=Dl xo;obtain ⟨n,hnn⟩:∃n,ls.length=n:=⟨_,rfl⟩;have HN:=Dl hnn;have hn1:n<=1000000:=ZZ;rw [hnn];clear hd hr ok hrun hst hl hout xo ho hn hnn;go_enter Tryz.func18,Tryz.ntmps18;go_upto_region 3 with fail
 generalize w.setCell ⟨g,26,none⟩ nil=W1 at *;clear z26 c26
 go_loopw [5] (λi wr=>∃k:Nat,k<=n/\i=ZE Z7 k/\Hid (∃Lr,Run wr B g p b Lr (s.feed p b (ls.take k).flatten)/\Step L Lr W1 wr)) (λi _=>n-(intOf i).toNat)
 case atStart=>exact ⟨0,Gz _,rfl,Dl ⟨L,HU.out,Step.refl⟩⟩
 case round=>
  obtain ⟨k,hk,rfl,hR⟩:=hrel;rcases Gp k n with hlt | hge
  ·obtain ⟨Lr,hA,hS⟩:=hR.out;have hkl:k<ls.length:=by rw [HN.out];exact hlt
   obtain ⟨bk,off,rfl, -, -, -⟩:=HL.out.cells ZZ;have htk:(ls.take (k+1)).flatten=(ls.take k).flatten++ls[k]:=by rw [FG hkl,List.flatten_append];simp
   have hsum:(ls.take (k+1)).flatten.length<=ls.flatten.length:=by exact XX086
   rw [htk,EO] at hsum;have t1:(k:Int)<(n:Int):=ZZ;have HTK:=Dl htk;obtain ⟨pl,hpl⟩:∃pl,ls[k]=pl:=⟨_,rfl⟩;rw [hpl] at hsum HTK;obtain ⟨m,hm⟩:∃m,pl.length=m:=⟨_,rfl⟩;rw [hm] at hsum;have HM:=Dl hm;obtain ⟨q0,hq0⟩:∃q0,(ls.take k).flatten=q0:=⟨_,rfl⟩;rw [hq0] at hA hsum HTK;have hsum2:2*(q0.length+m)<=999999998:=by have:=HOU.out;omega
   have HSUM:=Dl hsum2;have hm9:m<=1000000000:=ZZ
   have HCE:=Dl (show∀(wq:World) (Lq:List (Option Nat)),Step L Lq W1 wq->∃ak ck,wq.cell? ⟨bk,off+k,none⟩=some (.slice ak m ck)/\Pg.Bts Lq wq ak pl from λwq Lq hS=>by obtain ⟨bk',off',e, -, -,hc⟩:=(HL.out.step hS).cells ZZ;cases e;obtain ⟨ak,ck,h1,h2⟩:=hc k hkl;rw [hpl,hm] at h1;rw [hpl] at h2;exact ⟨ak,ck,h1,h2⟩);have HA:=Dl hA;have HS:=Dl hS;clear hA hS hsum hsum2 htk hpl hm hR hq0 hkl;go_upto_region 6 with fail
   go_loopw [6] (λj wq=>∃i:Nat,i<=m/\j=ZE Z7 i/\Hid (∃Lq,Run wq B g p b Lq (s.feed p b (q0++pl.take i))/\Step L Lq W1 wq)) (λj _=>m-(intOf j).toNat)
   case atStart=>exact ⟨0,Gz _,rfl,Dl ⟨Lr,by rw [List.take_zero,D8];exact HA.out,HS.out⟩⟩
   case round=>
    obtain ⟨i,hi,rfl,hR2⟩:=hrel;rcases Gp i m with hilt | hige
    ·obtain ⟨Lq,hA2,hS2⟩:=hR2.out;have hil:i<pl.length:=by rw [HM.out];exact hilt
     obtain ⟨ak,ck,hcell,hbt⟩:=HCE.out _ _ hS2;obtain ⟨zb,zo,rfl,hzb,hz⟩:=hbt.nums.2 ZZ;have hbyte:=hz i hil;have hti:pl.take (i+1)=pl.take i ++ [pl[i]]:=FG hil;have hgi:(pl.map λc=>(c.toNat:Int))[i]?.getD 0=(pl[i].toNat:Int):=by simp [hil]
     rw [hgi] at hbyte;have HTI:=Dl hti;obtain ⟨c,hc⟩:∃c,pl[i]=c:=⟨_,rfl⟩;rw [hc] at hbyte HTI;have t2:(i:Int)<(m:Int):=ZZ;obtain ⟨hr3,ok3⟩:=Pg.feed_sim (q0++pl.take i) HR.out HOK.out;have hou3:(s.feed p b (q0++pl.take i)).out.length<=999999998:=by rw [(Pg.said_sim hr3 ok3).2.1];have h1:=Hd.feed_out (p:=p) (b:=b) (q0++pl.take i) x;have h2:=HSUM.out;rw [HXO.out,EO,Fc] at h1;simp only [EW] at h1;omega
     have HTA:=Dl (byteRun_any hp c hA2 hr3 ok3 hou3);have HS2:=Dl hS2;clear hA2 hS2 hz hzb hti hgi hc hr3 ok3 hou3 hR2 hbt;go_wp2_with (go_at_call 72;with_reducible refine HTA.out.mono ?_;rintro r w5 ⟨rfl,L5,hA5,hS5⟩);go_roundw
     case rel=>exact ⟨i+1,ZZ,ZT,Dl ⟨L5,by rw [HTI.out,←D7,S.feed_app];exact hA5,HS2.out.trans hS5⟩⟩
     case measure=>simp [intOf];omega
    ·obtain rfl:i=m:=by omega
     have t2:¬(i:Int)<(i:Int):=ZZ;obtain ⟨Lq,hA2,hS2⟩:=hR2.out;obtain ⟨ak,ck,hcell,hbt⟩:=HCE.out _ _ hS2;have e:pl.take i=pl:=FF (by rw [HM.out];exact Gi _);rw [e,←HTK.out] at hA2;have HA2:=Dl hA2;have HS2:=Dl hS2;clear hA2 hS2 e hR2 hbt;exact XXMED
  ·obtain rfl:k=n:=by omega
   have t1:¬(k:Int)<(k:Int):=ZZ;obtain ⟨Lr,hA,hS⟩:=hR.out;have e:ls.take k=ls:=FF (by rw [HN.out];exact Gi _);rw [e] at hA;obtain ⟨o,L2,c26,hA2,hT2,hS2⟩:=hA.tell;obtain ⟨hr3,ok3⟩:=Pg.feed_sim ls.flatten HR.out HOK.out;have e2:=(Pg.said_sim hr3 ok3).2.1;rw [e2] at hT2;have HA2:=Dl (show DQ wr B g p b L2 (x.feed p b ls.flatten).told from ⟨_,Pg.told_sim hr3,Pg.told_fine ok3,hA2.told⟩);have HT2:=Dl hT2;have HS2:=Dl ((HS0.out.trans hS).trans hS2);clear hA hS hR e hA2 hT2 hS2 hr3 ok3 e2;go_wp2_with fail;go_ret;exact ⟨o,rfl,L2,HA2.out,HT2.out,HS2.out⟩
theorem told_clean' (X:Hd):X.told.clean=X.clean:=Pg.told_clean X
theorem told_err' (X:Hd):X.told.err=X.err:=Pg.told_err X
theorem qnew_out:(He p b).out= []:=by unfold He;split<;>rfl
theorem XX5SR {P:Prop} (h:P:=by refine BI rfl (λev w1 hR hb hh=>?_);have e10:=hR.old 10 rfl;have e9:=hR.old 9 rfl;simp only [Am,E6,Ep,Er,GW] at e10 e9;have q25:=HDQ.out w1 hb;exact Each.std):P:=h
theorem dread_zone (hp:p<4294967296) (w:World) (Z:List (Option Nat)) (hz:∀k,some k∈Z->k<w.heap.size) (a:Option Addr) (c:Nat) (l:List UInt8) (hl:Pg.Bts [] w a l) (hn:l.length<=400000000):Calls Mm 53 #[ZE Z5 (p:Int),Z9 #[ZE Z7 b.x0,ZE Z7 b.x1,ZE Z7 b.x2,ZE Z7 b.x3,ZE Z7 b.x4,ZE Z7 b.x5,ZE Z7 b.x6,ZE Z7 b.x7,ZB b.ch,ZB b.od],.slice a l.length c] w λr w'=>
 ∃o L B0,r=.returned (Z8 #[o,ZE Z7 ((Hd.read p b l).err:Int),ZB (Hd.read p b l).clean])/\Pg.Told L ⟨B0,Z⟩ w' o (Hd.read p b l).out/\Below w.heap.size w w':=by
 have HB0:=Dl (((AE _ _).alloc (Gi _) (.cells #[ZE Z7 b.x0,ZE Z7 b.x1,ZE Z7 b.x2,ZE Z7 b.x3,ZE Z7 b.x4,ZE Z7 b.x5,ZE Z7 b.x6,ZE Z7 b.x7,ZB b.ch,ZB b.od] 29)):Below w.heap.size w _)
 have HZ0:=Dl (Hw w w.heap.size rfl 29 [ZE Z7 b.x0,ZE Z7 b.x1,ZE Z7 b.x2,ZE Z7 b.x3,ZE Z7 b.x4,ZE Z7 b.x5,ZE Z7 b.x6,ZE Z7 b.x7,ZB b.ch,ZB b.od]);have HSZ:=Dl (show w.heap.size<(w.alloc (.cells #[ZE Z7 b.x0,ZE Z7 b.x1,ZE Z7 b.x2,ZE Z7 b.x3,ZE Z7 b.x4,ZE Z7 b.x5,ZE Z7 b.x6,ZE Z7 b.x7,ZB b.ch,ZB b.od] 29)).heap.size by simp);have HL:=Dl hl;have HN:=Dl hn;have HZZ:=Dl hz;unfold Hd.read;obtain ⟨X,hX⟩:∃X,Hd.feed p b (He p b) l=X:=⟨_,rfl⟩;rw [hX];have HX:=Dl hX;obtain ⟨m,hm⟩:∃m,l.length=m:=⟨_,rfl⟩;have HM:=Dl hm;rw [hm];clear hl hn hm hX hz;go_enter Tryz.func53,Tryz.ntmps53;go_upto_region 1 with fail
 generalize w.alloc (.cells #[ZE Z7 b.x0,ZE Z7 b.x1,ZE Z7 b.x2,ZE Z7 b.x3,ZE Z7 b.x4,ZE Z7 b.x5,ZE Z7 b.x6,ZE Z7 b.x7,ZB b.ch,ZB b.od] 29)=W0 at *;have y0:=HZ0.out.c 0 _ rfl;have y1:=HZ0.out.c 1 _ rfl;have y2:=HZ0.out.c 2 _ rfl;have y3:=HZ0.out.c 3 _ rfl;have y4:=HZ0.out.c 4 _ rfl;have y5:=HZ0.out.c 5 _ rfl;have y6:=HZ0.out.c 6 _ rfl;have y7:=HZ0.out.c 7 _ rfl;have y8:=HZ0.out.c 8 _ rfl;have y9:=HZ0.out.c 9 _ rfl;have HNW:=Dl (dnew_any (b:=b) hp W0);go_upto_region 2 with
  (go_at_call 16;with_reducible refine HNW.out.mono ?_;rintro r w1 ⟨g,L1,rfl,hg,hA,hb1⟩
   have HG:=Dl hg;have HA:=Dl (hA.rezone (Z:=Z) ⟨(λk hk=>Gn (HZZ.out k hk) (Gl (Gh HSZ.out) hb1.size)),(λk hk hm=>by have h1:=hA.low k hk;have h2:=HZZ.out k hm;have h3:=HSZ.out;exact ZG h2 (Nat.not_lt.2 (Gl (Gh h3) h1)))⟩);have HB1:=Dl hb1;clear hg hA hb1)
 have hlow:=HA.out.low;have hlA:Pg.Bts L1 w1 a l:=by exact XXIoU
 have hpa:=Pg.Parts.one (c:=c) hlA HA.out.in 22;rw [HM.out] at hpa;have hb2:Below w1.heap.size w1 (w1.alloc (.cells #[.slice a m c] 22)):=(AE _ _).alloc (Gi _) _
 have hfe:=dfeed_any hp (HA.out.below hb2) qnew_out (some ⟨w1.heap.size,0,none⟩) 1 [l] hpa ZW (by have h2:=HN.out;simp only [List.flatten_cons,List.flatten_nil,D8];omega);have efl: [l].flatten=l:=ZW;rw [efl] at hfe;have HFE:=Dl (show Calls Mm 18 #[ptr g,ZC (some ⟨w1.heap.size,0,none⟩) 1 1] (w1.alloc (.cells #[.slice a m c] 22)) λr w'=>∃o L',r=.returned o/\DQ w' ⟨W0.heap.size,Z⟩ g p b L' (Hd.feed p b (He p b) l).told/\Pg.Told L' ⟨W0.heap.size,Z⟩ w' o (Hd.feed p b (He p b) l).out/\Step L1 L' (w1.alloc (.cells #[.slice a m c] 22)) w' from hfe);have HLOW:=Dl hlow;have HB2:=Dl (A6 (A6 HB0.out HB1.out) hb2);rw [HX.out] at HFE;clear hlA hpa hb2 hfe efl hlow y0 y1 y2 y3 y4 y5 y6 y7 y8 y9;go_upto_region 3 with
  (go_at_call 18;with_reducible refine HFE.out.mono ?_;rintro r w3 ⟨o,L',rfl,hA3,hT3,hS3⟩
   have HCL:=Dl (λw4 (hb:Below (w3.drewN 1).heap.size (w3.drewN 1) w4)=>show Calls Mm 26 #[ptr g] w4 λr w'=>r=.returned (ZB X.clean)/\w'=w4 from told_clean' X ▸ dclean_any (hA3.below ((Az (AE _ _) 1).trans hb)));have HDQ:=Dl (λw4 (hb:Below (w3.drewN 1).heap.size (w3.drewN 1) w4)=>show w4.cell? ⟨g,25,none⟩=some (ZE Z7 (X.err:Int)) from told_err' X ▸ (hA3.below ((Az (AE _ _) 1).trans hb)).e);have HT3:=Dl hT3;have HS3:=Dl hS3;clear hA3 hT3 hS3)
 refine BO 10 [18,19,20,21,22,23,24,6,7,8] [eQ (o),eP g 0,eP g 0,eP g 25,eQ (ZE Z7 (X.err:Int)),eP g 0,eQ (ZB X.clean),eQ (o),eQ (ZE Z7 (X.err:Int)),eQ (ZB X.clean)] ZY ZY ZY ZY (λ_ _ d _ _ h=>by cases d<;>exact h) ZV ZV XXa25 ?_ ?_
 ·refine ⟨?_,?_,?_,?_,?_,?_,?_,?_,?_,?_,trivial⟩
  iterate 6·exact XX5SR
  ·refine BI rfl (λev w1 hR hb hh=>?_);have e23:ev (.tmp 23)= _:=hh.at 0;clear hh;have ef:=hR.func;refine BA 26 #[ptr g] ZU ((HCL.out w1 hb).mono ?_);rintro r w2 ⟨rfl,hw⟩;rw [hw];exact ⟨_,rfl,AE _ _,rfl⟩
  iterate 3·exact XX5SR
 intro ga w4 hb4 hf;have z6:ga 6= _:=hf.at 7;have z7:ga 7= _:=hf.at 8;have z8:ga 8= _:=hf.at 9;clear hf;simp only [BM,Ab,F4,F7,F6];rw [z6];rw [z7];rw [z8];have HB4:=Dl hb4;clear hb4 HCL HDQ HFE;go_wp2;refine ZF (v:=Z8 #[o,ZE Z7 (X.err:Int),ZB X.clean]) (by simp [results,Tryz.results53,go_sem]) rfl ?_;have hb3:Below w.heap.size w w3:=HB2.out.trans (HS3.out.keeps.below HB2.out.size (λk hk=>by have:=HLOW.out k hk;have:=HSZ.out;omega));have hb34:Below w3.heap.size w3 w4:=HB4.out;exact ⟨_,_,_,rfl,HT3.out.step (II hb34),A6 hb3 hb34⟩
theorem dread_any (hp:p<4294967296) (w:World) (a:Option Addr) (c:Nat) (l:List UInt8) (hl:Pg.Bts [] w a l) (hn:l.length<=400000000):Calls Mm 53 #[ZE Z5 (p:Int),Z9 #[ZE Z7 b.x0,ZE Z7 b.x1,ZE Z7 b.x2,ZE Z7 b.x3,ZE Z7 b.x4,ZE Z7 b.x5,ZE Z7 b.x6,ZE Z7 b.x7,ZB b.ch,ZB b.od],.slice a l.length c] w λr w'=>
 ∃o L B0,r=.returned (Z8 #[o,ZE Z7 ((Hd.read p b l).err:Int),ZB (Hd.read p b l).clean])/\Pg.Told L B0 w' o (Hd.read p b l).out/\Below w.heap.size w w':=
 (dread_zone hp w [] (λk hk=>by cases hk) a c l hl hn).mono (by rintro r w' ⟨o,L,B0,h⟩;exact ⟨o,L,_,h⟩)
end
end Par
namespace Can
open Base Txt Par Pg
def Gat (w:World) (B:Nat) (v:Value) (xs:List UInt8):Prop:=(v=ZC none 0 0/\xs= [])∨By.Buf w B v xs
def FldsF (l:List Fld):Each.Fact:=λv w=>∃a c,v=.slice a l.length c/\Flds w a l.length l
theorem FldsF.lasts {l:List Fld}:BE (FldsF l):=λ_ _ _ hb ⟨a,c,e,h⟩=>⟨a,c,e,h.below hb⟩
section
variable {w w':World} {B:Nat} {v x:Value} {xs ys:List UInt8}
end
section
attribute [local go_sem] A8
theorem conv_rd {w:World} {v:Value} {ys:List UInt8} (h:By.Rd w v ys):(convert 22 9 v).run Mm w=.ok (ZD ⟨ys.toArray⟩) w:=by
 obtain ⟨a,c,rfl,hl,hc⟩:=h;rcases Gg ys.length with h0 | h0
 ·obtain rfl:ys= []:=DX h0;exact run_convert_bytes_zero w 22 5 MZ Nr a c 9 Ns
 ·obtain ⟨b,off,rfl,hlt,hcc⟩:=hc h0
  exact run_convert_bytes_back (P:=Mm) w 22 9 5 ⟨b,off,none⟩ c ys MZ Nr Ns (λj hj=>by
   have e:(⟨b,off,none⟩:Addr).add j=⟨b,off+j,none⟩:=by unfold Ac;by_cases h:j=0<;>simp [h]
   rw [e,hcc j hj];simp [hj])
theorem dread_said {p:Nat} (hp:p<4294967296) (b:Bd) (w:World) (a:Option Addr) (c:Nat) (l:List UInt8) (hl:Bts [] w a l) (hn:l.length<=400000000) (e:Nat) (cl:Bool) (out:List Hz) (he:(Hr p b l).err=e) (hc:(Hr p b l).clean=cl) (ho:(Hr p b l).out=out):Calls Mm 53 #[ZE Z5 (p:Int),bdV b,.slice a l.length c] w λr w'=>
 ∃o,r=.returned (Z8 #[o,ZE Z7 (e:Int),ZB cl])/\Said w' o out/\Below w.heap.size w w':=by
 refine (Par.dread_any (b:=b) hp w a c l hl hn).mono ?_;rintro r w' ⟨o,L,B0,rfl,hT,hb⟩;rw [he,hc];rw [ho] at hT;exact ⟨o,rfl,hT.said,hb⟩
end
end Can
namespace Can
open Base Txt Par Pg
theorem wrap_many {k L:Nat} (h:k<=L) (hL:L<=1000000):wrap64 ((k:Int)+1)=(k:Int)+1:=by unfold wrap64;omega
section
attribute [local go_sem] A8
theorem bts_of_bytes {w:World} {g:Nat} {s:List UInt8} (h:By.Bytes w g s) (hlt:g<w.heap.size):Bts [] w (some ⟨g,0,none⟩) s:=by
 refine ⟨⟨ZW,λh0=>⟨g,0,rfl,hlt,λk hk=>?_⟩⟩,λad e=>?_⟩
 ·rw [Gy,(h k hk).1,Ew,Et hk];rfl
 ·obtain rfl:ad=⟨g,0,none⟩:=by simpa using e.symm
  exact ⟨λhm=>(by cases hm),hlt⟩
theorem XXyDZ {P:Prop} (h:P:=by refine BI rfl (λev w1 hR hb hh=>?_);have e9:=hR.old 9 rfl;simp only [Am,E6,Ep,Er,GW] at e9;have ec:=hR.const;exact Each.std):P:=h
theorem canonAgain_law (a0:Option Addr) (l0 c0:Nat) (n0:List Int) (w:World) (i0:Nums .u8 w a0 l0 n0) (lc0:l0<=c0) :
 Calls Mm 9 #[.slice a0 l0 c0] w λe w'=>e=.returned (ZB true)/\Below w.heap.size w w':=by
 have HK:=Dl (λw=>known_any w);rcases Gp 40 l0 with hbig | hsm
 ·have h1:(40:Int)<(l0:Int):=by omega
  go_enter Tryz.func9,Tryz.ntmps9;go_wp2_with (go_at_call 50;with_reducible refine (HK.out _).mono ?_;rintro e w1 ⟨rfl,hb1⟩);go_ret;exact ⟨rfl,hb1⟩
 have h1:¬(40:Int)<(l0:Int):=ZZ;have HST:=Dl (λw' (hb':Below w.heap.size w w')=>Rq.stream_any a0 l0 c0 n0 w' (i0.below hb') hsm lc0);clear i0 hsm lc0;go_enter Tryz.func9,Tryz.ntmps9
 go_upto_block 7 with (first
  |(go_at_call 53;with_reducible refine HRD.out.mono ?_;rintro e w4 ⟨o,rfl,hs4,hb4⟩
    obtain ⟨a3,c3,e3,hsd⟩:=hs4;subst e3;have HSD:=Dl hsd;have HB4:=Dl (A6 HB3.out hb4);clear hsd hb4)
  |(go_at_call 13;with_reducible refine (HST.out _ HB2.out).mono ?_;rintro e w3 ⟨gs,s,cs,rfl, -,hsl, -,hgw,hby,hb3⟩
    have HB3:=Dl (A6 HB2.out hb3);obtain ⟨E,hE⟩:∃E,(Hr 0 usual s).err=E:=⟨_,rfl⟩;obtain ⟨CL,hC⟩:∃CL,(Hr 0 usual s).clean=CL:=⟨_,rfl⟩;obtain ⟨OUT,hO⟩:∃OUT,(Hr 0 usual s).out=OUT:=⟨_,rfl⟩
    have HCM:Hid (∀r∈OUT,Came r):=Dl (by rw [←hO];exact came_read s);have HOL:Hid (OUT.length<=5000):=Dl (by have:=read_few (p:=0) (b:=usual) s;rw [hO] at this;omega);have HRD:Hid (Calls Mm 53 #[ZE Z5 0,Z9 #[ZE Z7 1024,ZE Z7 32,ZE Z7 8192,ZE Z7 65536,ZE Z7 32,ZE Z7 8,ZE Z7 4,ZE Z7 20,ZB true,ZB true],ZC (some ⟨gs,0,none⟩) s.length cs] w3 λr w'=>∃o,r=.returned (Z8 #[o,ZE Z7 (E:Int),ZB CL])/\Said w' o OUT/\Below w3.heap.size w3 w'):=
     Dl (dread_said (p:=0) ZX usual w3 _ cs s (bts_of_bytes hby hgw) ZZ E CL OUT hE hC hO)
    clear hsl hgw hby hb3 hE hC hO)
  |(go_at_call 47;with_reducible refine (Bnd.rusual_any _).mono ?_;rintro e w2 ⟨rfl,hb2⟩
    have HB2:=Dl (A6 HB1.out hb2);clear hb2)
  |(go_at_call 50;with_reducible refine (HK.out _).mono ?_;rintro e w1 ⟨rfl,hb1⟩
    have HB1:=Dl hb1;clear hb1))
 have HLL:=Dl (show∀k (hk:k<OUT.length),OUT[k]∈OUT from λk hk=>EB hk);obtain ⟨L,hL⟩:∃L,OUT.length=L:=⟨_,rfl⟩;have HL:=Dl hL;rw [hL];clear hL
 go_loopw [6] (λi wr=>∃k:Nat,k<=L/\i=ZE Z7 k/\Hid (Below w4.heap.size w4 wr)) (λi _=>L-(intOf i).toNat)
 case atStart=>exact ⟨0,Gz _,rfl,Dl (AE _ _)⟩
 case round=>
  obtain ⟨k,hk,rfl,hRk⟩:=hrel;rcases Gp k L with hlt | hge
  ·have t1:(k:Int)<(L:Int):=by omega
   rcases Gp k 4 with hl4 | hg4
   ·have t2:(k:Int)<4:=by omega
    have hko:k<OUT.length:=by rw [HL.out];exact hlt
    obtain ⟨bk,rfl,hbk,hat⟩:=HSD.out (Nat.lt_of_le_of_lt (Gz k) hko);have hrec:=(hat k hko).below hbk hRk.out;obtain ⟨r,hr⟩:∃r,OUT[k]=r:=⟨_,rfl⟩;have HCR:=Dl (show Came r from hr ▸ HCM.out _ (HLL.out k hko));rw [hr] at hrec;obtain ⟨fa,fc,ba,bc,ta,tc,f1,f2,f3,x0,x1,x2,x3,x4,x5,x6⟩:=hrec;have HR:Hid (∀wk,Below wr.heap.size wr wk->Ia wk (Z9 #[ZD r.m,ZD r.x,ZE Z7 r.k,.slice fa r.fs.length fc,ZB r.ch,.slice ba r.body.length bc,.slice ta r.ts.length tc]) r):=Dl λwk hb=>⟨fa,fc,ba,bc,ta,tc,rfl,f1.below hb,f2.below hb,f3.below hb⟩;have HRC0:Hid (wr.cell? ⟨bk,k*7,none⟩=some (ZD r.m)/\wr.cell? ⟨bk,k*7+1,none⟩=some (ZD r.x)/\wr.cell? ⟨bk,k*7+2,none⟩=some (ZE Z7 r.k)/\wr.cell? ⟨bk,k*7+3,none⟩=some (.slice fa r.fs.length fc)/\wr.cell? ⟨bk,k*7+4,none⟩=some (ZB r.ch)/\wr.cell? ⟨bk,k*7+5,none⟩=some (.slice ba r.body.length bc)/\wr.cell? ⟨bk,k*7+6,none⟩=some (.slice ta r.ts.length tc)):=Dl ⟨x0,x1,x2,x3,x4,x5,x6⟩;have HBK0:=Dl (Gn hbk hRk.out.size);have HKL:=Dl t1;have HKK:=Dl hlt;have HSM:=Dl HCR.out.sm;have HP:=Dl λwk hb=>put_any _ r wk (HR.out wk hb) HSM.out;have HFL:Hid ((fieldsV r.m r.fs r.body r.ts).length<=1000000000):=Dl (by have:=HSM.out.fields.2;unfold fieldsR at this;omega);have HDR:Hid (∀(wk:World) a7 c7,Bts [] wk a7 (putR r)->Calls Mm 53 #[ZE Z5 0,Z9 #[ZE Z7 4096,ZE Z7 100,ZE Z7 65536,ZE Z7 1048576,ZE Z7 256,ZE Z7 100,ZE Z7 16,ZE Z7 1000,ZB true,ZB true],.slice a7 (putR r).length c7] wk λe w'=>∃b2 c2,e=.returned (Z8 #[ZC (some ⟨b2,0,none⟩) 1 c2,ZE Z7 0,ZB true])/\b2<w'.heap.size/\RecAt w' b2 0 (wrR r)/\Below wk.heap.size wk w'):=
     Dl λwk a7 c7 hbt=>by
      obtain ⟨h1,h2,h3⟩:=put_read1 (p:=0) wide_right ZX HCR.out.wide;refine (dread_said (p:=0) ZX wide wk a7 c7 _ hbt (by have:=HSM.out.put;omega) 0 true _ h1 h2 h3).mono ?_;rintro e w' ⟨o,rfl,⟨a,cc,rfl,ho⟩,hb'⟩;obtain ⟨b2,rfl,hlt,hc⟩:=ho (Nat.succ_pos 0);exact ⟨b2,cc,rfl,hlt,hc 0 (Nat.succ_pos 0),hb'⟩
    clear hat hr hbk hko f1 f2 f3
    go_upto_region 11 with (first
     |(go_at_call 53;with_reducible refine (HDR.out _ _ _ HBT6.out).mono ?_;rintro e w7 ⟨b2,c2,rfl,hl7,hx7,hb7⟩
       have HB7:=Dl (A6 HB6.out hb7);have HL7:=Dl hl7;have HX7:=Dl hx7;have HRP0:=Dl (HRP6.out.below hb7);clear hl7 hx7 hb7)
     |(go_at_call 41;with_reducible refine (Bnd.rwide_any _).mono ?_;rintro e w6 ⟨rfl,hb6⟩
       have HB6:=Dl (A6 HB5.out hb6);have HBT6:=Dl (HBT5.out.step (II hb6));have HRP6:=Dl (HRP5.out.below hb6);clear hb6)
     |(go_at_call 54;with_reducible refine (HP.out _ (AE _ _)).mono ?_;rintro e w5 ⟨v5,rfl,hbuf5,hb5⟩
       obtain ⟨a7,c7,e7,hbt5⟩:=bts_of_buf hbuf5;have hrd5:=hbuf5.rd;rw [e7] at hrd5 ⊢;have HBT5:=Dl hbt5;have HRP5:=Dl hrd5;have HB5:=Dl hb5;clear hbt5 hbuf5 hrd5 hb5 e7 x0 x1 x2 x3 x4 x5 x6))
    clear t1 t2;have hd7:Below w7.heap.size w7 (w7.drewN 1):=Az (AE _ _) 1;have hwr:Below wr.heap.size wr (w7.drewN 1):=Az HB7.out 1;obtain ⟨fx,fcx,bx,bcx,tx,tcx,g1,g2,g3,x0,x1,x2,x3,x4,x5,x6⟩:=HX7.out.below HL7.out hd7;obtain ⟨C,hC⟩:∃C,decide (r.ts≠ [])=C:=⟨_,rfl⟩;have HXC:Hid ((w7.drewN 1).cell? ⟨b2,0,none⟩=some (ZD r.m)/\(w7.drewN 1).cell? ⟨b2,1,none⟩=some (ZD r.x)/\(w7.drewN 1).cell? ⟨b2,2,none⟩=some (ZE Z7 1)/\(w7.drewN 1).cell? ⟨b2,3,none⟩=some (.slice fx (fieldsV r.m r.fs r.body r.ts).length fcx)/\(w7.drewN 1).cell? ⟨b2,4,none⟩=some (ZB C)/\(w7.drewN 1).cell? ⟨b2,5,none⟩=some (.slice bx r.body.length bcx)/\(w7.drewN 1).cell? ⟨b2,6,none⟩=some (.slice tx r.ts.length tcx)):=Dl ⟨x0,x1,x2,x3,by rw [←hC];exact x4,x5,x6⟩;have HFX:Hid (Flds (w7.drewN 1) fx (fieldsV r.m r.fs r.body r.ts).length (fieldsV r.m r.fs r.body r.ts)):=Dl g1;have HRX:Hid (∀wk,Below (w7.drewN 1).heap.size (w7.drewN 1) wk->Ia wk (Z9 #[ZD r.m,ZD r.x,ZE Z7 1,.slice fx (fieldsV r.m r.fs r.body r.ts).length fcx,ZB C,.slice bx r.body.length bcx,.slice tx r.ts.length tcx]) (wrR r)):=Dl λwk hb=>⟨fx,fcx,bx,bcx,tx,tcx,by rw [←hC];rfl,g1.below hb,g2.below hb,g3.below hb⟩;have HPX:Hid (∀wk,Below (w7.drewN 1).heap.size (w7.drewN 1) wk->Calls Mm 54 #[Z9 #[ZD r.m,ZD r.x,ZE Z7 1,.slice fx (fieldsV r.m r.fs r.body r.ts).length fcx,ZB C,.slice bx r.body.length bcx,.slice tx r.ts.length tcx]] wk λe w'=>∃v,e=.returned v/\By.Buf w' wk.heap.size v (putR r)/\Below wk.heap.size wk w'):=
     Dl λwk hb=>(put_any _ (wrR r) wk (HRX.out wk hb) HCR.out.wrSm).mono (by rw [wr_put];exact λe w' h=>h)
    have HFX2:Hid (∀wk,Below (w7.drewN 1).heap.size (w7.drewN 1) wk->Calls Mm 57 #[Z9 #[ZD r.m,ZD r.x,ZE Z7 1,.slice fx (fieldsV r.m r.fs r.body r.ts).length fcx,ZB C,.slice bx r.body.length bcx,.slice tx r.ts.length tcx]] wk λe w'=>∃a c,e=.returned (.slice a (fieldsV r.m r.fs r.body r.ts).length c)/\Flds w' a (fieldsV r.m r.fs r.body r.ts).length (fieldsV r.m r.fs r.body r.ts)/\Below wk.heap.size wk w'):=
     Dl λwk hb=>(fields_any _ (wrR r) wk (HRX.out wk hb) (by have:=HCR.out.wrSm.fl;omega) (λf hf=>by have:=HCR.out.wrSm.fs f hf;omega) (by have:=HCR.out.wrSm.body;omega)).mono (by have e9:fieldsV (wrR r).m (wrR r).fs (wrR r).body (wrR r).ts=(fieldsV r.m r.fs r.body r.ts):=wr_fields r;rw [e9];rintro e w' ⟨a,c,h1,h2,h3, -⟩;exact ⟨a,c,h1,h2,h3⟩)
    have HRI:Hid (∀wk,Below (w7.drewN 1).heap.size (w7.drewN 1) wk->Calls Mm 61 #[Z9 #[ZD r.m,ZD r.x,ZE Z7 r.k,.slice fa r.fs.length fc,ZB r.ch,.slice ba r.body.length bc,.slice ta r.ts.length tc],Z9 #[ZE Z7 4096,ZE Z7 100,ZE Z7 65536,ZE Z7 1048576,ZE Z7 256,ZE Z7 100,ZE Z7 16,ZE Z7 1000,ZB true,ZB true]] wk λe w'=>e=.returned (ZB true)/\Below wk.heap.size wk w'):=
     Dl λwk hb=>(right_any _ r wide wk (HR.out wk (A6 hwr hb)) HSM.out).mono (by rw [put_right wide_right HCR.out.wide];exact λe w' h=>h)
    have HRC:Hid ((w7.drewN 1).cell? ⟨bk,k*7,none⟩=some (ZD r.m)/\(w7.drewN 1).cell? ⟨bk,k*7+1,none⟩=some (ZD r.x)/\(w7.drewN 1).cell? ⟨bk,k*7+2,none⟩=some (ZE Z7 r.k)/\(w7.drewN 1).cell? ⟨bk,k*7+3,none⟩=some (.slice fa r.fs.length fc)/\(w7.drewN 1).cell? ⟨bk,k*7+4,none⟩=some (ZB r.ch)/\(w7.drewN 1).cell? ⟨bk,k*7+5,none⟩=some (.slice ba r.body.length bc)/\(w7.drewN 1).cell? ⟨bk,k*7+6,none⟩=some (.slice ta r.ts.length tc)):=Dl (by obtain ⟨u0,u1,u2,u3,u4,u5,u6⟩:=HRC0.out;exact ⟨(hwr.cell (p:=⟨bk,k*7,none⟩) HBK0.out).trans u0,(hwr.cell (p:=⟨bk,k*7+1,none⟩) HBK0.out).trans u1,(hwr.cell (p:=⟨bk,k*7+2,none⟩) HBK0.out).trans u2,(hwr.cell (p:=⟨bk,k*7+3,none⟩) HBK0.out).trans u3,(hwr.cell (p:=⟨bk,k*7+4,none⟩) HBK0.out).trans u4,(hwr.cell (p:=⟨bk,k*7+5,none⟩) HBK0.out).trans u5,(hwr.cell (p:=⟨bk,k*7+6,none⟩) HBK0.out).trans u6⟩)
    have HBK:=Dl (Gn HBK0.out hwr.size)
    have HB2L:=Dl (Gn HL7.out hd7.size);have HRP:=Dl (HRP0.out.below hd7);clear hd7 hwr x0 x1 x2 x3 x4 x5 x6 g1 g2 g3 hC;refine BO 42 [46,47,48,49,50,51,52,53,54,55,56,57,58,59,60,61,62,63,64,65,66,67,68,69,70,71,72,73,74,75,76,77,78,79,80,81,82,83,84,85,86,87] [eQ (ZE Z7 0),eQ (ZB false),eQ (ZB false),BH (false) false (λv _=>v=ZB true),BH (false) false (λv _=>v=ZB false),eQ (ZB ((false&&true))),eQ (ZB ((false&&true))),BH ((false&&true)) false (λv _=>v=ZC (some ⟨b2,0,none⟩) 1 c2),BH ((false&&true)) false (λv _=>v=ZE Z7 1),BH ((false&&true)) false (λv _=>v=ZB false),eQ (ZB (((false&&true)&&true))),eQ (ZB (((false&&true)&&true))),BH (((false&&true)&&true)) false (λv _=>v=ZC (some ⟨b2,0,none⟩) 1 c2),BH (((false&&true)&&true)) false (λv _=>v=ZA (some ⟨b2,0,none⟩)),BH (((false&&true)&&true)) false (λv _=>v=Z9 #[ZD r.m,ZD r.x,ZE Z7 1,.slice fx (fieldsV r.m r.fs r.body r.ts).length fcx,ZB C,.slice bx r.body.length bcx,.slice tx r.ts.length tcx]),BH (((false&&true)&&true)) false (BufF (putR r)),BH (((false&&true)&&true)) false (λv _=>v=ZD ⟨(putR r).toArray⟩),BH (((false&&true)&&true)) false (λv _=>v=.slice a7 (putR r).length c7),BH (((false&&true)&&true)) false (λv _=>v=ZD ⟨(putR r).toArray⟩),BH (((false&&true)&&true)) false (λv _=>v=ZB false),eQ (ZB ((((false&&true)&&true)&&true))),eQ (ZB ((((false&&true)&&true)&&true))),BH ((((false&&true)&&true)&&true)) false (λv _=>v=ZC (some ⟨b2,0,none⟩) 1 c2),BH ((((false&&true)&&true)&&true)) false (λv _=>v=ZA (some ⟨b2,0,none⟩)),BH ((((false&&true)&&true)&&true)) false (λv _=>v=Z9 #[ZD r.m,ZD r.x,ZE Z7 1,.slice fx (fieldsV r.m r.fs r.body r.ts).length fcx,ZB C,.slice bx r.body.length bcx,.slice tx r.ts.length tcx]),BH ((((false&&true)&&true)&&true)) false (FldsF (fieldsV r.m r.fs r.body r.ts)),BH ((((false&&true)&&true)&&true)) false (λv _=>v=ZC (some ⟨b2,0,none⟩) 1 c2),BH ((((false&&true)&&true)&&true)) false (λv _=>v=ZA (some ⟨b2,0,none⟩)),BH ((((false&&true)&&true)&&true)) false (λv _=>v=ZA (some ⟨b2,3,none⟩)),BH ((((false&&true)&&true)&&true)) false (λv _=>v=.slice fx (fieldsV r.m r.fs r.body r.ts).length fcx),BH ((((false&&true)&&true)&&true)) false (λv _=>v=ZB true),BH ((((false&&true)&&true)&&true)) false (λv _=>v=ZB false),eQ (ZB (((((false&&true)&&true)&&true)&&true))),eQ (ZB (((((false&&true)&&true)&&true)&&true))),BH (((((false&&true)&&true)&&true)&&true)) false (λv _=>v=ZC (some ⟨bk,0,none⟩) L c3),BH (((((false&&true)&&true)&&true)&&true)) false (λv _=>v=ZE Z7 (k:Int)),BH (((((false&&true)&&true)&&true)&&true)) false (λv _=>v=ZA (some ⟨bk,k*7,none⟩)),BH (((((false&&true)&&true)&&true)&&true)) false (λv _=>v=Z9 #[ZD r.m,ZD r.x,ZE Z7 r.k,.slice fa r.fs.length fc,ZB r.ch,.slice ba r.body.length bc,.slice ta r.ts.length tc]),BH (((((false&&true)&&true)&&true)&&true)) false (λv _=>v=Z9 #[ZE Z7 4096,ZE Z7 100,ZE Z7 65536,ZE Z7 1048576,ZE Z7 256,ZE Z7 100,ZE Z7 16,ZE Z7 1000,ZB true,ZB true]),BH (((((false&&true)&&true)&&true)&&true)) false (λv _=>v=ZB true),BH (((((false&&true)&&true)&&true)&&true)) false (λv _=>v=ZB false),eQ (ZB ((((((false&&true)&&true)&&true)&&true)&&true)))] (by as_aux_lemma=>kernel_rfl) (by as_aux_lemma=>kernel_rfl) (by as_aux_lemma=>kernel_rfl) (by as_aux_lemma=>kernel_rfl) (λ_ _ d _ _ h=>by cases d<;>exact h) ZV ZV ⟨BF _,BF _,BF _,BG (BF _),BG (BF _),BF _,BF _,BG (BF _),BG (BF _),BG (BF _),BF _,BF _,BG (BF _),BG (BF _),BG (BF _),BG (BufF.lasts),BG (BF _),BG (BF _),BG (BF _),BG (BF _),BF _,BF _,BG (BF _),BG (BF _),BG (BF _),BG (FldsF.lasts),BG (BF _),BG (BF _),BG (BF _),BG (BF _),BG (BF _),BG (BF _),BF _,BF _,BG (BF _),BG (BF _),BG (BF _),BG (BF _),BG (BF _),BG (BF _),BG (BF _),BF _,trivial⟩ ?_ ?_
    ·refine ⟨?_,?_,?_,?_,?_,?_,?_,?_,?_,?_,?_,?_,?_,?_,?_,?_,?_,?_,?_,?_,?_,?_,?_,?_,?_,?_,?_,?_,?_,?_,?_,?_,?_,?_,?_,?_,?_,?_,?_,?_,?_,?_,trivial⟩
     iterate 3·exact XXyDZ
     ·refine BJ 2 48 rfl rfl (λev w1 hh=>?_) (λhg ev w1 hR hb hh=>?_)
      ·exact hh.at 0
      ·clear hh;have e10:=hR.old 10 rfl;simp only [Am,E6,Ep,Er,GW] at e10;exact XXqTe
     ·refine BJ 2 48 rfl rfl (λev w1 hh=>?_) (λhg ev w1 hR hb hh=>?_)
      ·exact hh.at 1
      ·have e49:=(show ((false)=false->ev (.tmp 49)=ZB true) from hh.at 0) hg;clear hh;exact XXqTe
     ·refine BI rfl (λev w1 hR hb hh=>?_);have e48:ev (.tmp 48)= _:=hh.at 0;have h50:((false)=false->ev (.tmp 50)=ZB false):=hh.at 1;clear hh;have ec:=hR.const;refine BC ?_;have e50:=h50 rfl;go_simp;try with_reducible rfl
     ·exact XXyDZ
     ·refine BJ 6 52 rfl rfl (λev w1 hh=>?_) (λhg ev w1 hR hb hh=>?_)
      ·exact hh.at 0
      ·clear hh;have e8:=hR.old 8 rfl;simp only [Am,E6,Ep,Er,GW] at e8;exact XXqTe
     ·refine BJ 6 52 rfl rfl (λev w1 hh=>?_) (λhg ev w1 hR hb hh=>?_)
      ·exact hh.at 1
      ·have e53:=(show (((false&&true))=false->ev (.tmp 53)=ZC (some ⟨b2,0,none⟩) 1 c2) from hh.at 0) hg;clear hh;exact XXqTe
     ·refine BJ 6 52 rfl rfl (λev w1 hh=>?_) (λhg ev w1 hR hb hh=>?_)
      ·exact hh.at 1
      ·have e54:=(show (((false&&true))=false->ev (.tmp 54)=ZE Z7 1) from hh.at 0) hg;clear hh;have ec:=hR.const;exact XXqTe
     ·refine BI rfl (λev w1 hR hb hh=>?_);have e52:ev (.tmp 52)= _:=hh.at 0;have h55:(((false&&true))=false->ev (.tmp 55)=ZB false):=hh.at 1;clear hh;have ec:=hR.const;refine BC ?_;rcases AQ ((false&&true)) with hx | hx
      ·rw [hx] at e52 ⊢;go_simp;try with_reducible rfl
      ·rw [hx] at e52 ⊢;have e55:=h55 hx;go_simp;try with_reducible rfl
     ·exact XXyDZ
     ·refine BJ 11 57 rfl rfl (λev w1 hh=>?_) (λhg ev w1 hR hb hh=>?_)
      ·exact hh.at 0
      ·clear hh;have e8:=hR.old 8 rfl;simp only [Am,E6,Ep,Er,GW] at e8;exact XXqTe
     ·refine BJ 11 57 rfl rfl (λev w1 hh=>?_) (λhg ev w1 hR hb hh=>?_)
      ·exact hh.at 1
      ·have e58:=(show ((((false&&true)&&true))=false->ev (.tmp 58)=ZC (some ⟨b2,0,none⟩) 1 c2) from hh.at 0) hg;clear hh;have ec:=hR.const;exact XXqTe
     ·refine BJ 11 57 rfl rfl (λev w1 hh=>?_) (λhg ev w1 hR hb hh=>?_)
      ·exact hh.at 1
      ·have e59:=(show ((((false&&true)&&true))=false->ev (.tmp 59)=ZA (some ⟨b2,0,none⟩)) from hh.at 0) hg;clear hh;obtain ⟨u0,u1,u2,u3,u4,u5,u6⟩:=HXC.out;have y0:=(hb.cell (p:=⟨b2,0,none⟩) HB2L.out).trans u0;have y1:=(hb.cell (p:=⟨b2,1,none⟩) HB2L.out).trans u1;have y2:=(hb.cell (p:=⟨b2,2,none⟩) HB2L.out).trans u2;have y3:=(hb.cell (p:=⟨b2,3,none⟩) HB2L.out).trans u3;have y4:=(hb.cell (p:=⟨b2,4,none⟩) HB2L.out).trans u4;have y5:=(hb.cell (p:=⟨b2,5,none⟩) HB2L.out).trans u5;have y6:=(hb.cell (p:=⟨b2,6,none⟩) HB2L.out).trans u6;clear u0 u1 u2 u3 u4 u5 u6;exact XXqTe
     ·refine BJ 11 57 rfl rfl (λev w1 hh=>?_) (λhg ev w1 hR hb hh=>?_)
      ·exact hh.at 1
      ·have e60:=(show ((((false&&true)&&true))=false->ev (.tmp 60)=Z9 #[ZD r.m,ZD r.x,ZE Z7 1,.slice fx (fieldsV r.m r.fs r.body r.ts).length fcx,ZB C,.slice bx r.body.length bcx,.slice tx r.ts.length tcx]) from hh.at 0) hg;clear hh;have ef:=hR.func;refine BA 54 #[Z9 #[ZD r.m,ZD r.x,ZE Z7 1,.slice fx (fieldsV r.m r.fs r.body r.ts).length fcx,ZB C,.slice bx r.body.length bcx,.slice tx r.ts.length tcx]] ZU ((HPX.out w1 hb).mono ?_);rintro e w2 ⟨v,rfl,hr,h2⟩;exact ⟨_,rfl,h2,⟨_,hr⟩⟩
     ·refine BJ 11 57 rfl rfl (λev w1 hh=>?_) (λhg ev w1 hR hb hh=>?_)
      ·exact hh.at 1
      ·have e61:=(show ((((false&&true)&&true))=false->(BufF (putR r)) (ev (.tmp 61)) w1) from hh.at 0) hg;clear hh;have hcv:=conv_of_buf e61;exact XXqTe
     ·refine BJ 11 57 rfl rfl (λev w1 hh=>?_) (λhg ev w1 hR hb hh=>?_)
      ·exact hh.at 0
      ·clear hh;have e7:=hR.old 7 rfl;simp only [Am,E6,Ep,Er,GW] at e7;exact XXqTe
     ·refine BJ 11 57 rfl rfl (λev w1 hh=>?_) (λhg ev w1 hR hb hh=>?_)
      ·exact hh.at 1
      ·have e63:=(show ((((false&&true)&&true))=false->ev (.tmp 63)=.slice a7 (putR r).length c7) from hh.at 0) hg;clear hh;have hcv:=conv_rd (HRP.out.below hb);exact XXqTe
     ·refine BJ 11 57 rfl rfl (λev w1 hh=>?_) (λhg ev w1 hR hb hh=>?_)
      ·exact hh.at 2
      ·have e62:=(show ((((false&&true)&&true))=false->ev (.tmp 62)=ZD ⟨(putR r).toArray⟩) from hh.at 0) hg;have e64:=(show ((((false&&true)&&true))=false->ev (.tmp 64)=ZD ⟨(putR r).toArray⟩) from hh.at 1) hg;clear hh;exact XXqTe
     ·refine BI rfl (λev w1 hR hb hh=>?_);have e57:ev (.tmp 57)= _:=hh.at 0;have h65:((((false&&true)&&true))=false->ev (.tmp 65)=ZB false):=hh.at 1;clear hh;have ec:=hR.const;refine BC ?_;rcases AQ (((false&&true)&&true)) with hx | hx
      ·rw [hx] at e57 ⊢;go_simp;try with_reducible rfl
      ·rw [hx] at e57 ⊢;have e65:=h65 hx;go_simp;try with_reducible rfl
     ·exact XXyDZ
     ·refine BJ 21 67 rfl rfl (λev w1 hh=>?_) (λhg ev w1 hR hb hh=>?_)
      ·exact hh.at 0
      ·clear hh;have e8:=hR.old 8 rfl;simp only [Am,E6,Ep,Er,GW] at e8;exact XXqTe
     ·refine BJ 21 67 rfl rfl (λev w1 hh=>?_) (λhg ev w1 hR hb hh=>?_)
      ·exact hh.at 1
      ·have e68:=(show (((((false&&true)&&true)&&true))=false->ev (.tmp 68)=ZC (some ⟨b2,0,none⟩) 1 c2) from hh.at 0) hg;clear hh;have ec:=hR.const;exact XXqTe
     ·refine BJ 21 67 rfl rfl (λev w1 hh=>?_) (λhg ev w1 hR hb hh=>?_)
      ·exact hh.at 1
      ·have e69:=(show (((((false&&true)&&true)&&true))=false->ev (.tmp 69)=ZA (some ⟨b2,0,none⟩)) from hh.at 0) hg;clear hh;obtain ⟨u0,u1,u2,u3,u4,u5,u6⟩:=HXC.out;have y0:=(hb.cell (p:=⟨b2,0,none⟩) HB2L.out).trans u0;have y1:=(hb.cell (p:=⟨b2,1,none⟩) HB2L.out).trans u1;have y2:=(hb.cell (p:=⟨b2,2,none⟩) HB2L.out).trans u2;have y3:=(hb.cell (p:=⟨b2,3,none⟩) HB2L.out).trans u3;have y4:=(hb.cell (p:=⟨b2,4,none⟩) HB2L.out).trans u4;have y5:=(hb.cell (p:=⟨b2,5,none⟩) HB2L.out).trans u5;have y6:=(hb.cell (p:=⟨b2,6,none⟩) HB2L.out).trans u6;clear u0 u1 u2 u3 u4 u5 u6;exact XXqTe
     ·refine BJ 21 67 rfl rfl (λev w1 hh=>?_) (λhg ev w1 hR hb hh=>?_)
      ·exact hh.at 1
      ·have e70:=(show (((((false&&true)&&true)&&true))=false->ev (.tmp 70)=Z9 #[ZD r.m,ZD r.x,ZE Z7 1,.slice fx (fieldsV r.m r.fs r.body r.ts).length fcx,ZB C,.slice bx r.body.length bcx,.slice tx r.ts.length tcx]) from hh.at 0) hg;clear hh;have ef:=hR.func;refine BA 57 #[Z9 #[ZD r.m,ZD r.x,ZE Z7 1,.slice fx (fieldsV r.m r.fs r.body r.ts).length fcx,ZB C,.slice bx r.body.length bcx,.slice tx r.ts.length tcx]] ZU ((HFX2.out w1 hb).mono ?_);rintro e w2 ⟨a,cc,rfl,hf,h2⟩;exact ⟨_,rfl,h2,⟨a,cc,rfl,hf⟩⟩
     ·refine BJ 21 67 rfl rfl (λev w1 hh=>?_) (λhg ev w1 hR hb hh=>?_)
      ·exact hh.at 0
      ·clear hh;have e8:=hR.old 8 rfl;simp only [Am,E6,Ep,Er,GW] at e8;exact XXqTe
     ·refine BJ 21 67 rfl rfl (λev w1 hh=>?_) (λhg ev w1 hR hb hh=>?_)
      ·exact hh.at 1
      ·have e72:=(show (((((false&&true)&&true)&&true))=false->ev (.tmp 72)=ZC (some ⟨b2,0,none⟩) 1 c2) from hh.at 0) hg;clear hh;have ec:=hR.const;exact XXqTe
     ·refine BJ 21 67 rfl rfl (λev w1 hh=>?_) (λhg ev w1 hR hb hh=>?_)
      ·exact hh.at 1
      ·have e73:=(show (((((false&&true)&&true)&&true))=false->ev (.tmp 73)=ZA (some ⟨b2,0,none⟩)) from hh.at 0) hg;clear hh;exact XXqTe
     ·refine BJ 21 67 rfl rfl (λev w1 hh=>?_) (λhg ev w1 hR hb hh=>?_)
      ·exact hh.at 1
      ·have e74:=(show (((((false&&true)&&true)&&true))=false->ev (.tmp 74)=ZA (some ⟨b2,3,none⟩)) from hh.at 0) hg;clear hh;obtain ⟨u0,u1,u2,u3,u4,u5,u6⟩:=HXC.out;have y3:=(hb.cell (p:=⟨b2,3,none⟩) HB2L.out).trans u3;clear u0 u1 u2 u3 u4 u5 u6;exact XXqTe
     ·refine BJ 21 67 rfl rfl (λev w1 hh=>?_) (λhg ev w1 hR hb hh=>?_)
      ·exact hh.at 3
      ·have e71:=(show (((((false&&true)&&true)&&true))=false->(FldsF (fieldsV r.m r.fs r.body r.ts)) (ev (.tmp 71)) w1) from hh.at 0) hg;have e75:=(show (((((false&&true)&&true)&&true))=false->ev (.tmp 75)=.slice fx (fieldsV r.m r.fs r.body r.ts).length fcx) from hh.at 1) hg;clear hh;have ef:=hR.func;obtain ⟨a,cc,e71x,hf⟩:=e71;refine BA 56 #[.slice a (fieldsV r.m r.fs r.body r.ts).length cc,.slice fx (fieldsV r.m r.fs r.body r.ts).length fcx] ZU ((rfields_any _ _ _ (fieldsV r.m r.fs r.body r.ts) _ _ _ (fieldsV r.m r.fs r.body r.ts) w1 hf (HFX.out.below hb) HFL.out HFL.out).mono ?_);rintro e w2 ⟨rfl,q,hq⟩;exact ⟨_,rfl,by rw [hq];exact Az (AE _ _) q,ZW⟩
     ·refine BJ 21 67 rfl rfl (λev w1 hh=>?_) (λhg ev w1 hR hb hh=>?_)
      ·exact hh.at 1
      ·have e76:=(show (((((false&&true)&&true)&&true))=false->ev (.tmp 76)=ZB true) from hh.at 0) hg;clear hh;exact XXqTe
     ·refine BI rfl (λev w1 hR hb hh=>?_);have e67:ev (.tmp 67)= _:=hh.at 0;have h77:(((((false&&true)&&true)&&true))=false->ev (.tmp 77)=ZB false):=hh.at 1;clear hh;have ec:=hR.const;refine BC ?_;rcases AQ ((((false&&true)&&true)&&true)) with hx | hx
      ·rw [hx] at e67 ⊢;go_simp;try with_reducible rfl
      ·rw [hx] at e67 ⊢;have e77:=h77 hx;go_simp;try with_reducible rfl
     ·exact XXyDZ
     ·refine BJ 33 79 rfl rfl (λev w1 hh=>?_) (λhg ev w1 hR hb hh=>?_)
      ·exact hh.at 0
      ·clear hh;have e3:=hR.old 3 rfl;simp only [Am,E6,Ep,Er,GW] at e3;exact XXqTe
     ·refine BJ 33 79 rfl rfl (λev w1 hh=>?_) (λhg ev w1 hR hb hh=>?_)
      ·exact hh.at 0
      ·clear hh;have e6:=hR.old 6 rfl;simp only [Am,E6,Ep,Er,GW] at e6;exact XXqTe
     ·refine BJ 33 79 rfl rfl (λev w1 hh=>?_) (λhg ev w1 hR hb hh=>?_)
      ·exact hh.at 2
      ·have e80:=(show ((((((false&&true)&&true)&&true)&&true))=false->ev (.tmp 80)=ZC (some ⟨bk,0,none⟩) L c3) from hh.at 0) hg;have e81:=(show ((((((false&&true)&&true)&&true)&&true))=false->ev (.tmp 81)=ZE Z7 (k:Int)) from hh.at 1) hg;clear hh;have j1:=HKL.out;exact XXqTe
     ·refine BJ 33 79 rfl rfl (λev w1 hh=>?_) (λhg ev w1 hR hb hh=>?_)
      ·exact hh.at 1
      ·have e82:=(show ((((((false&&true)&&true)&&true)&&true))=false->ev (.tmp 82)=ZA (some ⟨bk,k*7,none⟩)) from hh.at 0) hg;clear hh;obtain ⟨u0,u1,u2,u3,u4,u5,u6⟩:=HRC.out;have y0:=(hb.cell (p:=⟨bk,k*7,none⟩) HBK.out).trans u0;have y1:=(hb.cell (p:=⟨bk,k*7+1,none⟩) HBK.out).trans u1;have y2:=(hb.cell (p:=⟨bk,k*7+2,none⟩) HBK.out).trans u2;have y3:=(hb.cell (p:=⟨bk,k*7+3,none⟩) HBK.out).trans u3;have y4:=(hb.cell (p:=⟨bk,k*7+4,none⟩) HBK.out).trans u4;have y5:=(hb.cell (p:=⟨bk,k*7+5,none⟩) HBK.out).trans u5;have y6:=(hb.cell (p:=⟨bk,k*7+6,none⟩) HBK.out).trans u6;clear u0 u1 u2 u3 u4 u5 u6;exact XXqTe
     ·refine BJ 33 79 rfl rfl (λev w1 hh=>?_) (λhg ev w1 hR hb hh=>?_)
      ·exact hh.at 0
      ·clear hh;have ef:=hR.func;refine BA 41 #[] ZU ((Bnd.rwide_any w1).mono ?_);exact XXVvd
     ·refine BJ 33 79 rfl rfl (λev w1 hh=>?_) (λhg ev w1 hR hb hh=>?_)
      ·exact hh.at 3
      ·have e83:=(show ((((((false&&true)&&true)&&true)&&true))=false->ev (.tmp 83)=Z9 #[ZD r.m,ZD r.x,ZE Z7 r.k,.slice fa r.fs.length fc,ZB r.ch,.slice ba r.body.length bc,.slice ta r.ts.length tc]) from hh.at 0) hg;have e84:=(show ((((((false&&true)&&true)&&true)&&true))=false->ev (.tmp 84)=Z9 #[ZE Z7 4096,ZE Z7 100,ZE Z7 65536,ZE Z7 1048576,ZE Z7 256,ZE Z7 100,ZE Z7 16,ZE Z7 1000,ZB true,ZB true]) from hh.at 1) hg;clear hh;have ef:=hR.func;refine BA 61 #[Z9 #[ZD r.m,ZD r.x,ZE Z7 r.k,.slice fa r.fs.length fc,ZB r.ch,.slice ba r.body.length bc,.slice ta r.ts.length tc],Z9 #[ZE Z7 4096,ZE Z7 100,ZE Z7 65536,ZE Z7 1048576,ZE Z7 256,ZE Z7 100,ZE Z7 16,ZE Z7 1000,ZB true,ZB true]] ZU ((HRI.out w1 hb).mono ?_);rintro e w2 ⟨rfl,h2⟩;exact ⟨_,rfl,h2,rfl⟩
     ·refine BJ 33 79 rfl rfl (λev w1 hh=>?_) (λhg ev w1 hR hb hh=>?_)
      ·exact hh.at 1
      ·have e85:=(show ((((((false&&true)&&true)&&true)&&true))=false->ev (.tmp 85)=ZB true) from hh.at 0) hg;clear hh;exact XXqTe
     ·refine BI rfl (λev w1 hR hb hh=>?_);have e79:ev (.tmp 79)= _:=hh.at 0;have h86:((((((false&&true)&&true)&&true)&&true))=false->ev (.tmp 86)=ZB false):=hh.at 1;clear hh;have ec:=hR.const;refine BC ?_;rcases AQ (((((false&&true)&&true)&&true)&&true)) with hx | hx
      ·rw [hx] at e79 ⊢;go_simp;try with_reducible rfl
      ·rw [hx] at e79 ⊢;have e86:=h86 hx;go_simp;try with_reducible rfl
    intro g1 w11 hb11 hf;have z87:g1 87= _:=hf.at 41;clear hf;simp only [BM,Ab,F4,F7,F6];rw [z87]
    have HB11:=Dl (hRk.out.trans ((HB7.out.trans (hb11.mono HB7.out.size)).mono hRk.out.size));have e1:wrap64 ((k:Int)+1)=(k:Int)+1:=wrap_many (Gh HKK.out) (by have:=HOL.out;rw [HL.out] at this;omega);clear hb11;go_wp2_with fail;go_roundw
    case rel=>exact ⟨k+1,HKK.out,ZT,HB11⟩
    case measure=>(try rw [e1]);clear e1;have:=HKK.out;simp [intOf];omega
   ·have t2:¬(k:Int)<4:=by omega
    go_wp2_with fail;go_ret;exact ⟨rfl,HB4.out.trans (hRk.out.mono HB4.out.size)⟩
  ·have t1:¬(k:Int)<(L:Int):=by omega
   go_wp2_with fail;go_ret;exact ⟨rfl,HB4.out.trans (hRk.out.mono HB4.out.size)⟩
end
end Can
end Go.Proofs.YtdfabddnpgjepaaGreatDoor
