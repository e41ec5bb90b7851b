import Derived.Test.YtnabkcglnbdfeaaGreatDoorFeo
namespace Go.Proofs.YtnabkcglnbdfeaaGreatDoor.Pg
open Go.RowKit Base Txt Mem Par
theorem empty_of {x:ByteArray} (h:x.size=0):x=⟨#[]⟩:=by
 have:x.data.size=0:=h;cases x with
 | mk d=>
   have e:d= #[]:=Array.eq_empty_of_size_eq_zero this;rw [e]
theorem list_ne {x:ByteArray} (h:0<x.size):x.data.toList≠ []:=fun e=>by
 have:x.size=0:=by rw [←len,e];rfl
 omega
section code
set_option maxHeartbeats 4000000
set_option maxRecDepth 20000
attribute [local go_sem] Base.some_undef
variable {w:World} {B:Zone} {g q:Nat} {v f bd t o:Value} {p:Nat} {b:Bd} {s:T}
theorem firstLine_any (hp:p<4294967296) (x:ByteArray) (hx:x.size≤5000) (h:PR w B g q v f bd t o p b s):Calls Tryz.prog 206 #[ptr g,.string x] w fun r w'=>
 r=.returned (.int .i64 (((s.first p b x.data.toList).1:Nat):Int))∧∃q1 v1 f1 bd1 t1 o1,PR w' B g q1 v1 f1 bd1 t1 o1 p b (s.first p b x.data.toList).2∧Step (blks g q v f bd t o) (blks g q1 v1 f1 bd1 t1 o1) w w':=by
 have H:=Lib.hid h;rcases Nat.eq_zero_or_pos x.size with h0 | h0
 ·obtain rfl:=empty_of h0
  have HE:=Lib.hid (emptyLine_any (g:=g) hp h.cs.c13);have e:s.first p b (⟨#[]⟩:ByteArray).data.toList=(if Qk.has p 0=true then 0 else 400,s):=rfl;rw [e];obtain ⟨z,hz⟩:∃z:Nat,(if Qk.has p 0=true then 0 else 400)=z:=⟨_,rfl⟩;rw [hz] at HE ⊢;clear h h0 hx e hz;go_enter Tryz.func206,Tryz.ntmps206
  go_wp2_with (go_at_call 226;with_reducible refine HE.out.mono ?_;rintro r w2 ⟨rfl,hw⟩;rw [hw];clear hw);go_ret;exact ⟨rfl,_,_,_,_,_,_,H.out,Step.refl⟩
 ·have hne:=list_ne h0;have te:=Fd.first_no x h0
  have HQ:=Lib.hid ((h.drew 1).bk)
  have hz:=fun w=>Rq.parse_any x p hp b.x0 b.x1 b.x2 b.x3 b.x4 b.x5 b.x6 b.x7 b.ch b.od w (by omega);unfold T.first;rw [if_neg hne];obtain ⟨⟨m1,t1,qk,qe⟩,hq⟩:∃Q,Rq.request (Rq.clOf p) b.od x.data.toList=Q:=⟨_,rfl⟩;rw [hq] at hz;simp only [Rq.rv] at hz;rw [hq];obtain ⟨qm,hqm⟩:∃qm,ba m1=qm:=⟨_,rfl⟩;obtain ⟨qt,hqt⟩:∃qt,ba t1=qt:=⟨_,rfl⟩;rw [hqm,hqt] at hz;have HZ:=Lib.hid hz;simp only [hqm,hqt];clear hz hq hqm hqt hne h0 hx h;by_cases hqe:qe=0
  ·subst hqe;rw [if_pos rfl]
   have HZ:=Lib.hid (show∀w,Calls Tryz.prog 227 #[.string x,.int .u32 (p:Int),.agg #[.int .i64 b.x0,.int .i64 b.x1,.int .i64 b.x2,.int .i64 b.x3,.int .i64 b.x4,.int .i64 b.x5,.int .i64 b.x6,.int .i64 b.x7,.bool b.ch,.bool b.od]] w fun e w'=>e=.returned (.tuple #[.string qm,.string qt,.int .i64 (qk:Int),.int .i64 0])∧Below w.heap.size w w' from fun w=>HZ.out w);go_enter Tryz.func206,Tryz.ntmps206;go_upto_region 3 with fail
   refine Each.region_all 19 [14,15,16,17,18,19,20,21,22,23,13,24,25,26,27,5,6,7,8]
    [fun v _=>v=.string x,
      fun v _=>v=.pointer (some ⟨g,0,none⟩),
      fun v _=>v=.pointer (some ⟨g,0,none⟩),
      fun v _=>v=.pointer (some ⟨g,13,none⟩),
      fun v _=>v=.int .u32 (p:Int),
      fun v _=>v=.pointer (some ⟨g,0,none⟩),
      fun v _=>v=.pointer (some ⟨g,0,none⟩),
      fun v _=>v=.pointer (some ⟨g,14,none⟩),
      fun v _=>v=.agg #[.int .i64 b.x0,.int .i64 b.x1,.int .i64 b.x2,.int .i64 b.x3,.int .i64 b.x4,.int .i64 b.x5,.int .i64 b.x6,.int .i64 b.x7,.bool b.ch,.bool b.od],
      fun v _=>v=.tuple #[.string qm,.string qt,.int .i64 (qk:Int),.int .i64 0],
      fun v _=>v=.tuple #[.string qm,.string qt,.int .i64 (qk:Int),.int .i64 0],
      fun v _=>v=.string qm,
      fun v _=>v=.string qt,
      fun v _=>v=.int .i64 (qk:Int),
      fun v _=>v=.int .i64 0,
      fun v _=>v=.string qm,
      fun v _=>v=.string qt,
      fun v _=>v=.int .i64 (qk:Int),
      fun v _=>v=.int .i64 0]
     (by kernel_rfl) (by kernel_rfl) (by kernel_rfl) (by kernel_rfl) (fun _ _ d _ _ h=>by cases d<;>exact h) (by rfl) (by rfl)
    ⟨Each.Lasts.eq _,Each.Lasts.eq _,Each.Lasts.eq _,Each.Lasts.eq _,Each.Lasts.eq _,Each.Lasts.eq _,Each.Lasts.eq _,Each.Lasts.eq _,Each.Lasts.eq _,Each.Lasts.eq _,Each.Lasts.eq _,Each.Lasts.eq _,Each.Lasts.eq _,Each.Lasts.eq _,Each.Lasts.eq _,Each.Lasts.eq _,Each.Lasts.eq _,Each.Lasts.eq _,Each.Lasts.eq _,trivial⟩ ?_ ?_
   ·refine ⟨?_,?_,?_,?_,?_,?_,?_,?_,?_,?_,?_,?_,?_,?_,?_,?_,?_,?_,?_,trivial⟩
    ·refine Each.fine rfl (fun ev w1 hR hb hh=>?_);clear hh;have e1:=hR.old 1 rfl;simp only [Array.getD_eq_getD_getElem?,List.getElem?_toArray,List.getElem?_cons_succ,List.getElem?_cons_zero,Option.getD_some] at e1;refine Each.Goes.same ?_;go_simp;try with_reducible rfl
    ·refine Each.fine rfl (fun ev w1 hR hb hh=>?_);clear hh;have e0:=hR.old 0 rfl;simp only [Array.getD_eq_getD_getElem?,List.getElem?_toArray,List.getElem?_cons_zero,Option.getD_some] at e0;refine Each.Goes.same ?_;go_simp;try with_reducible rfl
    ·refine Each.fine rfl (fun ev w1 hR hb hh=>?_);have e15:(ev (.tmp 15)=.pointer (some ⟨g,0,none⟩)):=hh.at 0;clear hh;refine Each.Goes.same ?_;go_simp;try with_reducible rfl
    ·refine Each.fine rfl (fun ev w1 hR hb hh=>?_);have e16:(ev (.tmp 16)=.pointer (some ⟨g,0,none⟩)):=hh.at 0;clear hh;refine Each.Goes.same ?_;go_simp;try with_reducible rfl
    ·refine Each.fine rfl (fun ev w1 hR hb hh=>?_);have e17:(ev (.tmp 17)=.pointer (some ⟨g,13,none⟩)):=hh.at 0;clear hh;have q13:=(HQ.out.below hb).c 13 _ rfl;refine Each.Goes.same ?_;go_simp;try with_reducible rfl
    ·refine Each.fine rfl (fun ev w1 hR hb hh=>?_);clear hh;have e0:=hR.old 0 rfl;simp only [Array.getD_eq_getD_getElem?,List.getElem?_toArray,List.getElem?_cons_zero,Option.getD_some] at e0;refine Each.Goes.same ?_;go_simp;try with_reducible rfl
    ·refine Each.fine rfl (fun ev w1 hR hb hh=>?_);have e19:(ev (.tmp 19)=.pointer (some ⟨g,0,none⟩)):=hh.at 0;clear hh;refine Each.Goes.same ?_;go_simp;try with_reducible rfl
    ·refine Each.fine rfl (fun ev w1 hR hb hh=>?_);have e20:(ev (.tmp 20)=.pointer (some ⟨g,0,none⟩)):=hh.at 0;clear hh;refine Each.Goes.same ?_;go_simp;try with_reducible rfl
    ·refine Each.fine rfl (fun ev w1 hR hb hh=>?_);have e21:(ev (.tmp 21)=.pointer (some ⟨g,14,none⟩)):=hh.at 0;clear hh;have q14:=(HQ.out.below hb).c 14 _ rfl;have q15:=(HQ.out.below hb).c 15 _ rfl;have q16:=(HQ.out.below hb).c 16 _ rfl;have q17:=(HQ.out.below hb).c 17 _ rfl;have q18:=(HQ.out.below hb).c 18 _ rfl;have q19:=(HQ.out.below hb).c 19 _ rfl;have q20:=(HQ.out.below hb).c 20 _ rfl;have q21:=(HQ.out.below hb).c 21 _ rfl;have q22:=(HQ.out.below hb).c 22 _ rfl;have q23:=(HQ.out.below hb).c 23 _ rfl;refine Each.Goes.same ?_;go_simp;try with_reducible rfl
    ·refine Each.fine rfl (fun ev w1 hR hb hh=>?_);have e14:(ev (.tmp 14)=.string x):=hh.at 0;have e18:(ev (.tmp 18)=.int .u32 (p:Int)):=hh.at 1;have e22:(ev (.tmp 22)=.agg #[.int .i64 b.x0,.int .i64 b.x1,.int .i64 b.x2,.int .i64 b.x3,.int .i64 b.x4,.int .i64 b.x5,.int .i64 b.x6,.int .i64 b.x7,.bool b.ch,.bool b.od]):=hh.at 2;clear hh;have ef:=hR.func
     refine Each.Goes.enter 227 #[.string x,.int .u32 (p:Int),.agg #[.int .i64 b.x0,.int .i64 b.x1,.int .i64 b.x2,.int .i64 b.x3,.int .i64 b.x4,.int .i64 b.x5,.int .i64 b.x6,.int .i64 b.x7,.bool b.ch,.bool b.od]] (by go_simp) ((HZ.out w1).mono ?_);rintro r w2 ⟨rfl,hb2⟩;exact ⟨_,rfl,hb2,rfl⟩
    ·refine Each.fine rfl (fun ev w1 hR hb hh=>?_);have e23:(ev (.tmp 23)=.tuple #[.string qm,.string qt,.int .i64 (qk:Int),.int .i64 0]):=hh.at 0;clear hh;refine Each.Goes.same ?_;go_simp;try with_reducible rfl
    ·refine Each.fine rfl (fun ev w1 hR hb hh=>?_);have e13:(ev (.tmp 13)=.tuple #[.string qm,.string qt,.int .i64 (qk:Int),.int .i64 0]):=hh.at 0;clear hh;refine Each.Goes.same ?_;go_simp;try with_reducible rfl
    ·refine Each.fine rfl (fun ev w1 hR hb hh=>?_);have e13:(ev (.tmp 13)=.tuple #[.string qm,.string qt,.int .i64 (qk:Int),.int .i64 0]):=hh.at 0;clear hh;refine Each.Goes.same ?_;go_simp;try with_reducible rfl
    ·refine Each.fine rfl (fun ev w1 hR hb hh=>?_);have e13:(ev (.tmp 13)=.tuple #[.string qm,.string qt,.int .i64 (qk:Int),.int .i64 0]):=hh.at 0;clear hh;refine Each.Goes.same ?_;go_simp;try with_reducible rfl
    ·refine Each.fine rfl (fun ev w1 hR hb hh=>?_);have e13:(ev (.tmp 13)=.tuple #[.string qm,.string qt,.int .i64 (qk:Int),.int .i64 0]):=hh.at 0;clear hh;refine Each.Goes.same ?_;go_simp;try with_reducible rfl
    ·refine Each.fine rfl (fun ev w1 hR hb hh=>?_);have e24:(ev (.tmp 24)=.string qm):=hh.at 0;clear hh;refine Each.Goes.same ?_;go_simp;try with_reducible rfl
    ·refine Each.fine rfl (fun ev w1 hR hb hh=>?_);have e25:(ev (.tmp 25)=.string qt):=hh.at 0;clear hh;refine Each.Goes.same ?_;go_simp;try with_reducible rfl
    ·refine Each.fine rfl (fun ev w1 hR hb hh=>?_);have e26:(ev (.tmp 26)=.int .i64 (qk:Int)):=hh.at 0;clear hh;refine Each.Goes.same ?_;go_simp;try with_reducible rfl
    ·refine Each.fine rfl (fun ev w1 hR hb hh=>?_);have e27:(ev (.tmp 27)=.int .i64 0):=hh.at 0;clear hh;refine Each.Goes.same ?_;go_simp;try with_reducible rfl
   intro g1 w2 hb hf;have z5:(g1 5=.string qm):=hf.at 15;have z6:(g1 6=.string qt):=hf.at 16;have z7:(g1 7=.int .i64 (qk:Int)):=hf.at 17;have z8:(g1 8=.int .i64 0):=hf.at 18;clear hf;simp only [Each.putg,Act.put,List.setIfInBounds_toArray,List.set_cons_zero,List.set_cons_succ];rw [z5];rw [z6];rw [z7];rw [z8]
   have H1:=Lib.hid (H.out.below hb);have HS1:=Lib.hid (Step.of_below hb (L:=blks g q v f bd t o));clear hb HQ
   have H2:=Lib.hid (((((H1.out).put 3 (.string qm) {s with r:={s.r with m:=qm}} rfl rfl rfl rfl rfl rfl).put 4 (.string qt) {s with r:={s.r with m:=qm,x:=qt}} rfl rfl rfl rfl rfl rfl).put 5 (.int .i64 (qk:Int)) {s with r:={s.r with m:=qm,x:=qt,k:=(qk:Int)}} rfl rfl rfl rfl rfl rfl).put 24 (.int .i64 2) {s with r:={s.r with m:=qm,x:=qt,k:=(qk:Int)},st:=2} rfl rfl rfl rfl rfl rfl)
   have HS2:=Lib.hid (((((HS1.out).trans (Step.set g 3 (.string qm) (by simp))).trans (Step.set g 4 (.string qt) (by simp))).trans (Step.set g 5 (.int .i64 (qk:Int)) (by simp))).trans (Step.set g 24 (.int .i64 2) (by simp)));have c3:=H1.out.cs.c3;have z3:=H1.out.marks 3;have c4:=H1.out.cs.c4;have z4:=H1.out.marks 4;have c5:=H1.out.cs.c5;have z5:=H1.out.marks 5;have c24:=H1.out.cs.c24;have z24:=H1.out.marks 24;go_wp2;first | go_end0 | go_ret
   exact ⟨rfl,_,_,_,_,_,_,H2.out,HS2.out⟩
  ·rw [if_neg hqe];have tz:¬(qe:Int)=0:=by omega
   have tz':((qe:Int)==0)=false:=beq_eq_false_iff_ne.2 tz;clear hqe;go_enter Tryz.func206,Tryz.ntmps206;go_upto_region 3 with fail
   refine Each.region_all 19 [14,15,16,17,18,19,20,21,22,23,13,24,25,26,27,5,6,7,8]
    [fun v _=>v=.string x,
      fun v _=>v=.pointer (some ⟨g,0,none⟩),
      fun v _=>v=.pointer (some ⟨g,0,none⟩),
      fun v _=>v=.pointer (some ⟨g,13,none⟩),
      fun v _=>v=.int .u32 (p:Int),
      fun v _=>v=.pointer (some ⟨g,0,none⟩),
      fun v _=>v=.pointer (some ⟨g,0,none⟩),
      fun v _=>v=.pointer (some ⟨g,14,none⟩),
      fun v _=>v=.agg #[.int .i64 b.x0,.int .i64 b.x1,.int .i64 b.x2,.int .i64 b.x3,.int .i64 b.x4,.int .i64 b.x5,.int .i64 b.x6,.int .i64 b.x7,.bool b.ch,.bool b.od],
      fun v _=>v=.tuple #[.string qm,.string qt,.int .i64 (qk:Int),.int .i64 (qe:Int)],
      fun v _=>v=.tuple #[.string qm,.string qt,.int .i64 (qk:Int),.int .i64 (qe:Int)],
      fun v _=>v=.string qm,
      fun v _=>v=.string qt,
      fun v _=>v=.int .i64 (qk:Int),
      fun v _=>v=.int .i64 (qe:Int),
      fun v _=>v=.string qm,
      fun v _=>v=.string qt,
      fun v _=>v=.int .i64 (qk:Int),
      fun v _=>v=.int .i64 (qe:Int)]
     (by kernel_rfl) (by kernel_rfl) (by kernel_rfl) (by kernel_rfl) (fun _ _ d _ _ h=>by cases d<;>exact h) (by rfl) (by rfl)
    ⟨Each.Lasts.eq _,Each.Lasts.eq _,Each.Lasts.eq _,Each.Lasts.eq _,Each.Lasts.eq _,Each.Lasts.eq _,Each.Lasts.eq _,Each.Lasts.eq _,Each.Lasts.eq _,Each.Lasts.eq _,Each.Lasts.eq _,Each.Lasts.eq _,Each.Lasts.eq _,Each.Lasts.eq _,Each.Lasts.eq _,Each.Lasts.eq _,Each.Lasts.eq _,Each.Lasts.eq _,Each.Lasts.eq _,trivial⟩ ?_ ?_
   ·refine ⟨?_,?_,?_,?_,?_,?_,?_,?_,?_,?_,?_,?_,?_,?_,?_,?_,?_,?_,?_,trivial⟩
    ·refine Each.fine rfl (fun ev w1 hR hb hh=>?_);clear hh;have e1:=hR.old 1 rfl;simp only [Array.getD_eq_getD_getElem?,List.getElem?_toArray,List.getElem?_cons_succ,List.getElem?_cons_zero,Option.getD_some] at e1;refine Each.Goes.same ?_;go_simp;try with_reducible rfl
    ·refine Each.fine rfl (fun ev w1 hR hb hh=>?_);clear hh;have e0:=hR.old 0 rfl;simp only [Array.getD_eq_getD_getElem?,List.getElem?_toArray,List.getElem?_cons_zero,Option.getD_some] at e0;refine Each.Goes.same ?_;go_simp;try with_reducible rfl
    ·refine Each.fine rfl (fun ev w1 hR hb hh=>?_);have e15:(ev (.tmp 15)=.pointer (some ⟨g,0,none⟩)):=hh.at 0;clear hh;refine Each.Goes.same ?_;go_simp;try with_reducible rfl
    ·refine Each.fine rfl (fun ev w1 hR hb hh=>?_);have e16:(ev (.tmp 16)=.pointer (some ⟨g,0,none⟩)):=hh.at 0;clear hh;refine Each.Goes.same ?_;go_simp;try with_reducible rfl
    ·refine Each.fine rfl (fun ev w1 hR hb hh=>?_);have e17:(ev (.tmp 17)=.pointer (some ⟨g,13,none⟩)):=hh.at 0;clear hh;have q13:=(HQ.out.below hb).c 13 _ rfl;refine Each.Goes.same ?_;go_simp;try with_reducible rfl
    ·refine Each.fine rfl (fun ev w1 hR hb hh=>?_);clear hh;have e0:=hR.old 0 rfl;simp only [Array.getD_eq_getD_getElem?,List.getElem?_toArray,List.getElem?_cons_zero,Option.getD_some] at e0;refine Each.Goes.same ?_;go_simp;try with_reducible rfl
    ·refine Each.fine rfl (fun ev w1 hR hb hh=>?_);have e19:(ev (.tmp 19)=.pointer (some ⟨g,0,none⟩)):=hh.at 0;clear hh;refine Each.Goes.same ?_;go_simp;try with_reducible rfl
    ·refine Each.fine rfl (fun ev w1 hR hb hh=>?_);have e20:(ev (.tmp 20)=.pointer (some ⟨g,0,none⟩)):=hh.at 0;clear hh;refine Each.Goes.same ?_;go_simp;try with_reducible rfl
    ·refine Each.fine rfl (fun ev w1 hR hb hh=>?_);have e21:(ev (.tmp 21)=.pointer (some ⟨g,14,none⟩)):=hh.at 0;clear hh;have q14:=(HQ.out.below hb).c 14 _ rfl;have q15:=(HQ.out.below hb).c 15 _ rfl;have q16:=(HQ.out.below hb).c 16 _ rfl;have q17:=(HQ.out.below hb).c 17 _ rfl;have q18:=(HQ.out.below hb).c 18 _ rfl;have q19:=(HQ.out.below hb).c 19 _ rfl;have q20:=(HQ.out.below hb).c 20 _ rfl;have q21:=(HQ.out.below hb).c 21 _ rfl;have q22:=(HQ.out.below hb).c 22 _ rfl;have q23:=(HQ.out.below hb).c 23 _ rfl;refine Each.Goes.same ?_;go_simp;try with_reducible rfl
    ·refine Each.fine rfl (fun ev w1 hR hb hh=>?_);have e14:(ev (.tmp 14)=.string x):=hh.at 0;have e18:(ev (.tmp 18)=.int .u32 (p:Int)):=hh.at 1;have e22:(ev (.tmp 22)=.agg #[.int .i64 b.x0,.int .i64 b.x1,.int .i64 b.x2,.int .i64 b.x3,.int .i64 b.x4,.int .i64 b.x5,.int .i64 b.x6,.int .i64 b.x7,.bool b.ch,.bool b.od]):=hh.at 2;clear hh;have ef:=hR.func
     refine Each.Goes.enter 227 #[.string x,.int .u32 (p:Int),.agg #[.int .i64 b.x0,.int .i64 b.x1,.int .i64 b.x2,.int .i64 b.x3,.int .i64 b.x4,.int .i64 b.x5,.int .i64 b.x6,.int .i64 b.x7,.bool b.ch,.bool b.od]] (by go_simp) ((HZ.out w1).mono ?_);rintro r w2 ⟨rfl,hb2⟩;exact ⟨_,rfl,hb2,rfl⟩
    ·refine Each.fine rfl (fun ev w1 hR hb hh=>?_);have e23:(ev (.tmp 23)=.tuple #[.string qm,.string qt,.int .i64 (qk:Int),.int .i64 (qe:Int)]):=hh.at 0;clear hh;refine Each.Goes.same ?_;go_simp;try with_reducible rfl
    ·refine Each.fine rfl (fun ev w1 hR hb hh=>?_);have e13:(ev (.tmp 13)=.tuple #[.string qm,.string qt,.int .i64 (qk:Int),.int .i64 (qe:Int)]):=hh.at 0;clear hh;refine Each.Goes.same ?_;go_simp;try with_reducible rfl
    ·refine Each.fine rfl (fun ev w1 hR hb hh=>?_);have e13:(ev (.tmp 13)=.tuple #[.string qm,.string qt,.int .i64 (qk:Int),.int .i64 (qe:Int)]):=hh.at 0;clear hh;refine Each.Goes.same ?_;go_simp;try with_reducible rfl
    ·refine Each.fine rfl (fun ev w1 hR hb hh=>?_);have e13:(ev (.tmp 13)=.tuple #[.string qm,.string qt,.int .i64 (qk:Int),.int .i64 (qe:Int)]):=hh.at 0;clear hh;refine Each.Goes.same ?_;go_simp;try with_reducible rfl
    ·refine Each.fine rfl (fun ev w1 hR hb hh=>?_);have e13:(ev (.tmp 13)=.tuple #[.string qm,.string qt,.int .i64 (qk:Int),.int .i64 (qe:Int)]):=hh.at 0;clear hh;refine Each.Goes.same ?_;go_simp;try with_reducible rfl
    ·refine Each.fine rfl (fun ev w1 hR hb hh=>?_);have e24:(ev (.tmp 24)=.string qm):=hh.at 0;clear hh;refine Each.Goes.same ?_;go_simp;try with_reducible rfl
    ·refine Each.fine rfl (fun ev w1 hR hb hh=>?_);have e25:(ev (.tmp 25)=.string qt):=hh.at 0;clear hh;refine Each.Goes.same ?_;go_simp;try with_reducible rfl
    ·refine Each.fine rfl (fun ev w1 hR hb hh=>?_);have e26:(ev (.tmp 26)=.int .i64 (qk:Int)):=hh.at 0;clear hh;refine Each.Goes.same ?_;go_simp;try with_reducible rfl
    ·refine Each.fine rfl (fun ev w1 hR hb hh=>?_);have e27:(ev (.tmp 27)=.int .i64 (qe:Int)):=hh.at 0;clear hh;refine Each.Goes.same ?_;go_simp;try with_reducible rfl
   intro g1 w2 hb hf;have z5:(g1 5=.string qm):=hf.at 15;have z6:(g1 6=.string qt):=hf.at 16;have z7:(g1 7=.int .i64 (qk:Int)):=hf.at 17;have z8:(g1 8=.int .i64 (qe:Int)):=hf.at 18;clear hf;simp only [Each.putg,Act.put,List.setIfInBounds_toArray,List.set_cons_zero,List.set_cons_succ];rw [z5];rw [z6];rw [z7];rw [z8]
   have H1:=Lib.hid (H.out.below hb);have HS1:=Lib.hid (Step.of_below hb (L:=blks g q v f bd t o));clear hb HQ;go_wp2;first | go_end0 | go_ret
   exact ⟨rfl,_,_,_,_,_,_,H1.out,HS1.out⟩
theorem sizeLine_any (hp:p<4294967296) (h3:16≤b.x3∧b.x3≤1048576) (x:ByteArray) (hx:x.size≤5000) (h:PR w B g q v f bd t o p b s) (hbl:s.r.body.length≤2000000):Calls Tryz.prog 208 #[ptr g,.string x] w fun r w'=>
 r=.returned (.int .i64 (((s.chunk p b x.data.toList).1:Nat):Int))∧∃q1 v1 f1 bd1 t1 o1,PR w' B g q1 v1 f1 bd1 t1 o1 p b (s.chunk p b x.data.toList).2∧Step (blks g q v f bd t o) (blks g q1 v1 f1 bd1 t1 o1) w w':=by
 have H:=Lib.hid h
 have HQ:=Lib.hid ((h.drew 1).bk)
 have hz:=fun w=>Chk.size_any x p hp b.x0 b.x1 b.x2 b.x3 b.x4 b.x5 b.x6 b.x7 b.ch b.od (by omega) w (by omega);have HF:=chunk_facts (Qk.has p 27) (Qk.has p 28) b.x4 b.x3 x.data.toList;obtain ⟨⟨z1,z2⟩,hZ⟩:∃Z,Chk.sizeV (Qk.has p 27) (Qk.has p 28) b.x4 b.x3 x.data.toList=Z:=⟨_,rfl⟩;rw [hZ] at HF;clear h hx;rcases HF with ⟨e2,h0,h1⟩ | e2 | e2
 ·have e2:z2=0:=e2;subst e2;obtain ⟨n,rfl⟩:∃n:Nat,z1=(n:Int):=⟨z1.toNat,by have:0≤z1:=h0;omega⟩;have h1:(n:Int)≤max b.x3 0:=h1
  have HZ:=Lib.hid (show∀w,Calls Tryz.prog 230 #[.string x,.int .u32 (p:Int),.agg #[.int .i64 b.x0,.int .i64 b.x1,.int .i64 b.x2,.int .i64 b.x3,.int .i64 b.x4,.int .i64 b.x5,.int .i64 b.x6,.int .i64 b.x7,.bool b.ch,.bool b.od]] w fun e w'=>e=.returned (.tuple #[.int .i64 (n:Int),.int .i64 0])∧Below w.heap.size w w' from fun w=>by have:=hz w;rw [hZ] at this;exact this);clear hz;rcases Nat.eq_zero_or_pos n with hn | hn
  ·subst hn;have e:s.chunk p b x.data.toList=(0,{s with st:=7}):=by unfold T.chunk;rw [hZ];rfl
   rw [e]
   have HZ:=Lib.hid (show∀w,Calls Tryz.prog 230 #[.string x,.int .u32 (p:Int),.agg #[.int .i64 b.x0,.int .i64 b.x1,.int .i64 b.x2,.int .i64 b.x3,.int .i64 b.x4,.int .i64 b.x5,.int .i64 b.x6,.int .i64 b.x7,.bool b.ch,.bool b.od]] w fun e w'=>e=.returned (.tuple #[.int .i64 0,.int .i64 0])∧Below w.heap.size w w' from fun w=>HZ.out w);clear e hZ h0 h1;go_enter Tryz.func208,Tryz.ntmps208;go_upto_region 1 with fail
   refine Each.region_all 15 [8,9,10,11,12,13,14,15,16,17,7,18,19,5,6]
    [fun v _=>v=.string x,
      fun v _=>v=.pointer (some ⟨g,0,none⟩),
      fun v _=>v=.pointer (some ⟨g,0,none⟩),
      fun v _=>v=.pointer (some ⟨g,13,none⟩),
      fun v _=>v=.int .u32 (p:Int),
      fun v _=>v=.pointer (some ⟨g,0,none⟩),
      fun v _=>v=.pointer (some ⟨g,0,none⟩),
      fun v _=>v=.pointer (some ⟨g,14,none⟩),
      fun v _=>v=.agg #[.int .i64 b.x0,.int .i64 b.x1,.int .i64 b.x2,.int .i64 b.x3,.int .i64 b.x4,.int .i64 b.x5,.int .i64 b.x6,.int .i64 b.x7,.bool b.ch,.bool b.od],
      fun v _=>v=.tuple #[.int .i64 0,.int .i64 0],
      fun v _=>v=.tuple #[.int .i64 0,.int .i64 0],
      fun v _=>v=.int .i64 0,
      fun v _=>v=.int .i64 0,
      fun v _=>v=.int .i64 0,
      fun v _=>v=.int .i64 0]
     (by kernel_rfl) (by kernel_rfl) (by kernel_rfl) (by kernel_rfl) (fun _ _ d _ _ h=>by cases d<;>exact h) (by rfl) (by rfl)
    ⟨Each.Lasts.eq _,Each.Lasts.eq _,Each.Lasts.eq _,Each.Lasts.eq _,Each.Lasts.eq _,Each.Lasts.eq _,Each.Lasts.eq _,Each.Lasts.eq _,Each.Lasts.eq _,Each.Lasts.eq _,Each.Lasts.eq _,Each.Lasts.eq _,Each.Lasts.eq _,Each.Lasts.eq _,Each.Lasts.eq _,trivial⟩ ?_ ?_
   ·refine ⟨?_,?_,?_,?_,?_,?_,?_,?_,?_,?_,?_,?_,?_,?_,?_,trivial⟩
    ·refine Each.fine rfl (fun ev w1 hR hb hh=>?_);clear hh;have e1:=hR.old 1 rfl;simp only [Array.getD_eq_getD_getElem?,List.getElem?_toArray,List.getElem?_cons_succ,List.getElem?_cons_zero,Option.getD_some] at e1;refine Each.Goes.same ?_;go_simp;try with_reducible rfl
    ·refine Each.fine rfl (fun ev w1 hR hb hh=>?_);clear hh;have e0:=hR.old 0 rfl;simp only [Array.getD_eq_getD_getElem?,List.getElem?_toArray,List.getElem?_cons_zero,Option.getD_some] at e0;refine Each.Goes.same ?_;go_simp;try with_reducible rfl
    ·refine Each.fine rfl (fun ev w1 hR hb hh=>?_);have e9:(ev (.tmp 9)=.pointer (some ⟨g,0,none⟩)):=hh.at 0;clear hh;refine Each.Goes.same ?_;go_simp;try with_reducible rfl
    ·refine Each.fine rfl (fun ev w1 hR hb hh=>?_);have e10:(ev (.tmp 10)=.pointer (some ⟨g,0,none⟩)):=hh.at 0;clear hh;refine Each.Goes.same ?_;go_simp;try with_reducible rfl
    ·refine Each.fine rfl (fun ev w1 hR hb hh=>?_);have e11:(ev (.tmp 11)=.pointer (some ⟨g,13,none⟩)):=hh.at 0;clear hh;have q13:=(HQ.out.below hb).c 13 _ rfl;refine Each.Goes.same ?_;go_simp;try with_reducible rfl
    ·refine Each.fine rfl (fun ev w1 hR hb hh=>?_);clear hh;have e0:=hR.old 0 rfl;simp only [Array.getD_eq_getD_getElem?,List.getElem?_toArray,List.getElem?_cons_zero,Option.getD_some] at e0;refine Each.Goes.same ?_;go_simp;try with_reducible rfl
    ·refine Each.fine rfl (fun ev w1 hR hb hh=>?_);have e13:(ev (.tmp 13)=.pointer (some ⟨g,0,none⟩)):=hh.at 0;clear hh;refine Each.Goes.same ?_;go_simp;try with_reducible rfl
    ·refine Each.fine rfl (fun ev w1 hR hb hh=>?_);have e14:(ev (.tmp 14)=.pointer (some ⟨g,0,none⟩)):=hh.at 0;clear hh;refine Each.Goes.same ?_;go_simp;try with_reducible rfl
    ·refine Each.fine rfl (fun ev w1 hR hb hh=>?_);have e15:(ev (.tmp 15)=.pointer (some ⟨g,14,none⟩)):=hh.at 0;clear hh;have q14:=(HQ.out.below hb).c 14 _ rfl;have q15:=(HQ.out.below hb).c 15 _ rfl;have q16:=(HQ.out.below hb).c 16 _ rfl;have q17:=(HQ.out.below hb).c 17 _ rfl;have q18:=(HQ.out.below hb).c 18 _ rfl;have q19:=(HQ.out.below hb).c 19 _ rfl;have q20:=(HQ.out.below hb).c 20 _ rfl;have q21:=(HQ.out.below hb).c 21 _ rfl;have q22:=(HQ.out.below hb).c 22 _ rfl;have q23:=(HQ.out.below hb).c 23 _ rfl;refine Each.Goes.same ?_;go_simp;try with_reducible rfl
    ·refine Each.fine rfl (fun ev w1 hR hb hh=>?_);have e8:(ev (.tmp 8)=.string x):=hh.at 0;have e12:(ev (.tmp 12)=.int .u32 (p:Int)):=hh.at 1;have e16:(ev (.tmp 16)=.agg #[.int .i64 b.x0,.int .i64 b.x1,.int .i64 b.x2,.int .i64 b.x3,.int .i64 b.x4,.int .i64 b.x5,.int .i64 b.x6,.int .i64 b.x7,.bool b.ch,.bool b.od]):=hh.at 2;clear hh;have ef:=hR.func
     refine Each.Goes.enter 230 #[.string x,.int .u32 (p:Int),.agg #[.int .i64 b.x0,.int .i64 b.x1,.int .i64 b.x2,.int .i64 b.x3,.int .i64 b.x4,.int .i64 b.x5,.int .i64 b.x6,.int .i64 b.x7,.bool b.ch,.bool b.od]] (by go_simp) ((HZ.out w1).mono ?_);rintro r w2 ⟨rfl,hb2⟩;exact ⟨_,rfl,hb2,rfl⟩
    ·refine Each.fine rfl (fun ev w1 hR hb hh=>?_);have e17:(ev (.tmp 17)=.tuple #[.int .i64 0,.int .i64 0]):=hh.at 0;clear hh;refine Each.Goes.same ?_;go_simp;try with_reducible rfl
    ·refine Each.fine rfl (fun ev w1 hR hb hh=>?_);have e7:(ev (.tmp 7)=.tuple #[.int .i64 0,.int .i64 0]):=hh.at 0;clear hh;refine Each.Goes.same ?_;go_simp;try with_reducible rfl
    ·refine Each.fine rfl (fun ev w1 hR hb hh=>?_);have e7:(ev (.tmp 7)=.tuple #[.int .i64 0,.int .i64 0]):=hh.at 0;clear hh;refine Each.Goes.same ?_;go_simp;try with_reducible rfl
    ·refine Each.fine rfl (fun ev w1 hR hb hh=>?_);have e18:(ev (.tmp 18)=.int .i64 0):=hh.at 0;clear hh;refine Each.Goes.same ?_;go_simp;try with_reducible rfl
    ·refine Each.fine rfl (fun ev w1 hR hb hh=>?_);have e19:(ev (.tmp 19)=.int .i64 0):=hh.at 0;clear hh;refine Each.Goes.same ?_;go_simp;try with_reducible rfl
   intro g1 w2 hb hf;have z5:(g1 5=.int .i64 0):=hf.at 13;have z6:(g1 6=.int .i64 0):=hf.at 14;clear hf;simp only [Each.putg,Act.put,List.setIfInBounds_toArray,List.set_cons_zero,List.set_cons_succ];rw [z5];rw [z6];have H1:=Lib.hid (H.out.below hb);have HB:=Lib.hid hb;clear HQ hb
   have H2:=Lib.hid (H1.out.put 24 (.int .i64 7) {s with st:=7} rfl rfl rfl rfl rfl rfl)
   have HS2:=Lib.hid ((Step.of_below HB.out (L:=blks g q v f bd t o)).trans (Step.set g 24 (.int .i64 7) (by simp)));have c24:=H1.out.cs.c24;have z24:=H1.out.marks 24;go_wp2;go_ret;exact ⟨rfl,_,_,_,_,_,_,H2.out,HS2.out⟩
  ·obtain ⟨bb,cb,eb, -⟩:=Ln.own_slice H.out.own.D;subst eb
   have HD:=Lib.hid (Base.wrap_in (b.x3-(s.r.body.length:Int)) (by omega) (by omega));have tz:¬(n:Int)=0:=by omega
   have tz':((n:Int)==0)=false:=beq_eq_false_iff_ne.2 tz
   by_cases hov:b.x3-(s.r.body.length:Int)<(n:Int)
   ·have e:s.chunk p b x.data.toList=(413,s):=by
     unfold T.chunk;rw [hZ];show (if (0:Int)≠0 then _ else if (n:Int)=0 then _ else if b.x3-(s.r.body.length:Int)<(n:Int) then _ else _)= _;rw [if_neg (by decide),if_neg tz,if_pos hov]
    rw [e];have HT:=Lib.hid hov;clear e hZ h0 h1 hn;go_enter Tryz.func208,Tryz.ntmps208;go_upto_region 1 with fail
    refine Each.region_all 15 [8,9,10,11,12,13,14,15,16,17,7,18,19,5,6]
     [fun v _=>v=.string x,
       fun v _=>v=.pointer (some ⟨g,0,none⟩),
       fun v _=>v=.pointer (some ⟨g,0,none⟩),
       fun v _=>v=.pointer (some ⟨g,13,none⟩),
       fun v _=>v=.int .u32 (p:Int),
       fun v _=>v=.pointer (some ⟨g,0,none⟩),
       fun v _=>v=.pointer (some ⟨g,0,none⟩),
       fun v _=>v=.pointer (some ⟨g,14,none⟩),
       fun v _=>v=.agg #[.int .i64 b.x0,.int .i64 b.x1,.int .i64 b.x2,.int .i64 b.x3,.int .i64 b.x4,.int .i64 b.x5,.int .i64 b.x6,.int .i64 b.x7,.bool b.ch,.bool b.od],
       fun v _=>v=.tuple #[.int .i64 (n:Int),.int .i64 0],
       fun v _=>v=.tuple #[.int .i64 (n:Int),.int .i64 0],
       fun v _=>v=.int .i64 (n:Int),
       fun v _=>v=.int .i64 0,
       fun v _=>v=.int .i64 (n:Int),
       fun v _=>v=.int .i64 0]
      (by kernel_rfl) (by kernel_rfl) (by kernel_rfl) (by kernel_rfl) (fun _ _ d _ _ h=>by cases d<;>exact h) (by rfl) (by rfl)
     ⟨Each.Lasts.eq _,Each.Lasts.eq _,Each.Lasts.eq _,Each.Lasts.eq _,Each.Lasts.eq _,Each.Lasts.eq _,Each.Lasts.eq _,Each.Lasts.eq _,Each.Lasts.eq _,Each.Lasts.eq _,Each.Lasts.eq _,Each.Lasts.eq _,Each.Lasts.eq _,Each.Lasts.eq _,Each.Lasts.eq _,trivial⟩ ?_ ?_
    ·refine ⟨?_,?_,?_,?_,?_,?_,?_,?_,?_,?_,?_,?_,?_,?_,?_,trivial⟩
     ·refine Each.fine rfl (fun ev w1 hR hb hh=>?_);clear hh;have e1:=hR.old 1 rfl;simp only [Array.getD_eq_getD_getElem?,List.getElem?_toArray,List.getElem?_cons_succ,List.getElem?_cons_zero,Option.getD_some] at e1;refine Each.Goes.same ?_;go_simp;try with_reducible rfl
     ·refine Each.fine rfl (fun ev w1 hR hb hh=>?_);clear hh;have e0:=hR.old 0 rfl;simp only [Array.getD_eq_getD_getElem?,List.getElem?_toArray,List.getElem?_cons_zero,Option.getD_some] at e0;refine Each.Goes.same ?_;go_simp;try with_reducible rfl
     ·refine Each.fine rfl (fun ev w1 hR hb hh=>?_);have e9:(ev (.tmp 9)=.pointer (some ⟨g,0,none⟩)):=hh.at 0;clear hh;refine Each.Goes.same ?_;go_simp;try with_reducible rfl
     ·refine Each.fine rfl (fun ev w1 hR hb hh=>?_);have e10:(ev (.tmp 10)=.pointer (some ⟨g,0,none⟩)):=hh.at 0;clear hh;refine Each.Goes.same ?_;go_simp;try with_reducible rfl
     ·refine Each.fine rfl (fun ev w1 hR hb hh=>?_);have e11:(ev (.tmp 11)=.pointer (some ⟨g,13,none⟩)):=hh.at 0;clear hh;have q13:=(HQ.out.below hb).c 13 _ rfl;refine Each.Goes.same ?_;go_simp;try with_reducible rfl
     ·refine Each.fine rfl (fun ev w1 hR hb hh=>?_);clear hh;have e0:=hR.old 0 rfl;simp only [Array.getD_eq_getD_getElem?,List.getElem?_toArray,List.getElem?_cons_zero,Option.getD_some] at e0;refine Each.Goes.same ?_;go_simp;try with_reducible rfl
     ·refine Each.fine rfl (fun ev w1 hR hb hh=>?_);have e13:(ev (.tmp 13)=.pointer (some ⟨g,0,none⟩)):=hh.at 0;clear hh;refine Each.Goes.same ?_;go_simp;try with_reducible rfl
     ·refine Each.fine rfl (fun ev w1 hR hb hh=>?_);have e14:(ev (.tmp 14)=.pointer (some ⟨g,0,none⟩)):=hh.at 0;clear hh;refine Each.Goes.same ?_;go_simp;try with_reducible rfl
     ·refine Each.fine rfl (fun ev w1 hR hb hh=>?_);have e15:(ev (.tmp 15)=.pointer (some ⟨g,14,none⟩)):=hh.at 0;clear hh;have q14:=(HQ.out.below hb).c 14 _ rfl;have q15:=(HQ.out.below hb).c 15 _ rfl;have q16:=(HQ.out.below hb).c 16 _ rfl;have q17:=(HQ.out.below hb).c 17 _ rfl;have q18:=(HQ.out.below hb).c 18 _ rfl;have q19:=(HQ.out.below hb).c 19 _ rfl;have q20:=(HQ.out.below hb).c 20 _ rfl;have q21:=(HQ.out.below hb).c 21 _ rfl;have q22:=(HQ.out.below hb).c 22 _ rfl;have q23:=(HQ.out.below hb).c 23 _ rfl;refine Each.Goes.same ?_;go_simp;try with_reducible rfl
     ·refine Each.fine rfl (fun ev w1 hR hb hh=>?_);have e8:(ev (.tmp 8)=.string x):=hh.at 0;have e12:(ev (.tmp 12)=.int .u32 (p:Int)):=hh.at 1;have e16:(ev (.tmp 16)=.agg #[.int .i64 b.x0,.int .i64 b.x1,.int .i64 b.x2,.int .i64 b.x3,.int .i64 b.x4,.int .i64 b.x5,.int .i64 b.x6,.int .i64 b.x7,.bool b.ch,.bool b.od]):=hh.at 2;clear hh;have ef:=hR.func
      refine Each.Goes.enter 230 #[.string x,.int .u32 (p:Int),.agg #[.int .i64 b.x0,.int .i64 b.x1,.int .i64 b.x2,.int .i64 b.x3,.int .i64 b.x4,.int .i64 b.x5,.int .i64 b.x6,.int .i64 b.x7,.bool b.ch,.bool b.od]] (by go_simp) ((HZ.out w1).mono ?_);rintro r w2 ⟨rfl,hb2⟩;exact ⟨_,rfl,hb2,rfl⟩
     ·refine Each.fine rfl (fun ev w1 hR hb hh=>?_);have e17:(ev (.tmp 17)=.tuple #[.int .i64 (n:Int),.int .i64 0]):=hh.at 0;clear hh;refine Each.Goes.same ?_;go_simp;try with_reducible rfl
     ·refine Each.fine rfl (fun ev w1 hR hb hh=>?_);have e7:(ev (.tmp 7)=.tuple #[.int .i64 (n:Int),.int .i64 0]):=hh.at 0;clear hh;refine Each.Goes.same ?_;go_simp;try with_reducible rfl
     ·refine Each.fine rfl (fun ev w1 hR hb hh=>?_);have e7:(ev (.tmp 7)=.tuple #[.int .i64 (n:Int),.int .i64 0]):=hh.at 0;clear hh;refine Each.Goes.same ?_;go_simp;try with_reducible rfl
     ·refine Each.fine rfl (fun ev w1 hR hb hh=>?_);have e18:(ev (.tmp 18)=.int .i64 (n:Int)):=hh.at 0;clear hh;refine Each.Goes.same ?_;go_simp;try with_reducible rfl
     ·refine Each.fine rfl (fun ev w1 hR hb hh=>?_);have e19:(ev (.tmp 19)=.int .i64 0):=hh.at 0;clear hh;refine Each.Goes.same ?_;go_simp;try with_reducible rfl
    intro g1 w2 hb hf;have z5:(g1 5=.int .i64 (n:Int)):=hf.at 13;have z6:(g1 6=.int .i64 0):=hf.at 14;clear hf;simp only [Each.putg,Act.put,List.setIfInBounds_toArray,List.set_cons_zero,List.set_cons_succ];rw [z5];rw [z6];have H1:=Lib.hid (H.out.below hb);have HB:=Lib.hid hb;clear HQ hb;go_upto_region 8 with fail
    have HQ:=Lib.hid ((H1.out.drew 1).bk);refine Each.region_all 15 [39,40,41,42,43,44,45,46,47,48,49,50,51,52,38]
     [fun v _=>v=.int .i64 ((n:Nat):Int),
       fun v _=>v=.pointer (some ⟨g,0,none⟩),
       fun v _=>v=.pointer (some ⟨g,0,none⟩),
       fun v _=>v=.pointer (some ⟨g,14,none⟩),
       fun v _=>v=.pointer (some ⟨g,17,none⟩),
       fun v _=>v=.int .i64 b.x3,
       fun v _=>v=.pointer (some ⟨g,0,none⟩),
       fun v _=>v=.pointer (some ⟨g,0,none⟩),
       fun v _=>v=.pointer (some ⟨g,8,none⟩),
       fun v _=>v=.pointer (some ⟨g,11,none⟩),
       fun v _=>v=.slice bb s.r.body.length cb,
       fun v _=>v=.int .i64 ((s.r.body.length:Nat):Int),
       fun v _=>v=.int .i64 (b.x3-(s.r.body.length:Int)),
       fun v _=>v=.bool true,
       fun v _=>v=.bool true]
      (by kernel_rfl) (by kernel_rfl) (by kernel_rfl) (by kernel_rfl) (fun _ _ d _ _ h=>by cases d<;>exact h) (by rfl) (by rfl)
     ⟨Each.Lasts.eq _,Each.Lasts.eq _,Each.Lasts.eq _,Each.Lasts.eq _,Each.Lasts.eq _,Each.Lasts.eq _,Each.Lasts.eq _,Each.Lasts.eq _,Each.Lasts.eq _,Each.Lasts.eq _,Each.Lasts.eq _,Each.Lasts.eq _,Each.Lasts.eq _,Each.Lasts.eq _,Each.Lasts.eq _,trivial⟩ ?_ ?_
    ·refine ⟨?_,?_,?_,?_,?_,?_,?_,?_,?_,?_,?_,?_,?_,?_,?_,trivial⟩
     ·refine Each.fine rfl (fun ev w1 hR hb hh=>?_);clear hh;have e5:=hR.old 5 rfl;simp only [Array.getD_eq_getD_getElem?,List.getElem?_toArray,List.getElem?_cons_succ,List.getElem?_cons_zero,Option.getD_some] at e5;refine Each.Goes.same ?_;go_simp;try with_reducible rfl
     ·refine Each.fine rfl (fun ev w1 hR hb hh=>?_);clear hh;have e0:=hR.old 0 rfl;simp only [Array.getD_eq_getD_getElem?,List.getElem?_toArray,List.getElem?_cons_zero,Option.getD_some] at e0;refine Each.Goes.same ?_;go_simp;try with_reducible rfl
     ·refine Each.fine rfl (fun ev w1 hR hb hh=>?_);have e40:(ev (.tmp 40)=.pointer (some ⟨g,0,none⟩)):=hh.at 0;clear hh;refine Each.Goes.same ?_;go_simp;try with_reducible rfl
     ·refine Each.fine rfl (fun ev w1 hR hb hh=>?_);have e41:(ev (.tmp 41)=.pointer (some ⟨g,0,none⟩)):=hh.at 0;clear hh;refine Each.Goes.same ?_;go_simp;try with_reducible rfl
     ·refine Each.fine rfl (fun ev w1 hR hb hh=>?_);have e42:(ev (.tmp 42)=.pointer (some ⟨g,14,none⟩)):=hh.at 0;clear hh;refine Each.Goes.same ?_;go_simp;try with_reducible rfl
     ·refine Each.fine rfl (fun ev w1 hR hb hh=>?_);have e43:(ev (.tmp 43)=.pointer (some ⟨g,17,none⟩)):=hh.at 0;clear hh;have q17:=(HQ.out.below hb).c 17 _ rfl;refine Each.Goes.same ?_;go_simp;try with_reducible rfl
     ·refine Each.fine rfl (fun ev w1 hR hb hh=>?_);clear hh;have e0:=hR.old 0 rfl;simp only [Array.getD_eq_getD_getElem?,List.getElem?_toArray,List.getElem?_cons_zero,Option.getD_some] at e0;refine Each.Goes.same ?_;go_simp;try with_reducible rfl
     ·refine Each.fine rfl (fun ev w1 hR hb hh=>?_);have e45:(ev (.tmp 45)=.pointer (some ⟨g,0,none⟩)):=hh.at 0;clear hh;refine Each.Goes.same ?_;go_simp;try with_reducible rfl
     ·refine Each.fine rfl (fun ev w1 hR hb hh=>?_);have e46:(ev (.tmp 46)=.pointer (some ⟨g,0,none⟩)):=hh.at 0;clear hh;refine Each.Goes.same ?_;go_simp;try with_reducible rfl
     ·refine Each.fine rfl (fun ev w1 hR hb hh=>?_);have e47:(ev (.tmp 47)=.pointer (some ⟨g,8,none⟩)):=hh.at 0;clear hh;refine Each.Goes.same ?_;go_simp;try with_reducible rfl
     ·refine Each.fine rfl (fun ev w1 hR hb hh=>?_);have e48:(ev (.tmp 48)=.pointer (some ⟨g,11,none⟩)):=hh.at 0;clear hh;have q11:=(HQ.out.below hb).c 11 _ rfl;refine Each.Goes.same ?_;go_simp;try with_reducible rfl
     ·refine Each.fine rfl (fun ev w1 hR hb hh=>?_);have e49:(ev (.tmp 49)=.slice bb s.r.body.length cb):=hh.at 0;clear hh;refine Each.Goes.same ?_;go_simp;try with_reducible rfl
     ·refine Each.fine rfl (fun ev w1 hR hb hh=>?_);have e44:(ev (.tmp 44)=.int .i64 b.x3):=hh.at 0;have e50:(ev (.tmp 50)=.int .i64 ((s.r.body.length:Nat):Int)):=hh.at 1;clear hh;have d1:=HD.out;refine Each.Goes.same ?_;go_simp;try with_reducible rfl
     ·refine Each.fine rfl (fun ev w1 hR hb hh=>?_);have e39:(ev (.tmp 39)=.int .i64 ((n:Nat):Int)):=hh.at 0;have e51:(ev (.tmp 51)=.int .i64 (b.x3-(s.r.body.length:Int))):=hh.at 1;clear hh;have d2:=HT.out;refine Each.Goes.same ?_;go_simp;try with_reducible rfl
     ·refine Each.fine rfl (fun ev w1 hR hb hh=>?_);have e52:(ev (.tmp 52)=.bool true):=hh.at 0;clear hh;refine Each.Goes.same ?_;go_simp;try with_reducible rfl
    intro g1 w3 hb hf;have z38:(g1 38=.bool true):=hf.at 14;clear hf;simp only [Each.putg,Act.put,List.setIfInBounds_toArray,List.set_cons_zero,List.set_cons_succ];rw [z38]
    have H2:=Lib.hid (H1.out.below hb);have HS2:=Lib.hid ((Step.of_below HB.out (L:=blks g q v f (.slice bb s.r.body.length cb) t o)).trans (Step.of_below hb));clear H1 HB hb HQ;go_wp2;go_ret;exact ⟨rfl,_,_,_,_,_,_,H2.out,HS2.out⟩
   ·have e:s.chunk p b x.data.toList=(0,{s with st:=5,left:=n}):=by
     unfold T.chunk;rw [hZ];show (if (0:Int)≠0 then _ else if (n:Int)=0 then _ else if b.x3-(s.r.body.length:Int)<(n:Int) then _ else (0,({s with left:=(n:Int).toNat,st:=5}:T)))= _;rw [if_neg (by decide),if_neg tz,if_neg hov,Int.toNat_natCast]
    rw [e];have HT:=Lib.hid hov;clear e hZ h0 h1 hn;go_enter Tryz.func208,Tryz.ntmps208;go_upto_region 1 with fail
    refine Each.region_all 15 [8,9,10,11,12,13,14,15,16,17,7,18,19,5,6]
     [fun v _=>v=.string x,
       fun v _=>v=.pointer (some ⟨g,0,none⟩),
       fun v _=>v=.pointer (some ⟨g,0,none⟩),
       fun v _=>v=.pointer (some ⟨g,13,none⟩),
       fun v _=>v=.int .u32 (p:Int),
       fun v _=>v=.pointer (some ⟨g,0,none⟩),
       fun v _=>v=.pointer (some ⟨g,0,none⟩),
       fun v _=>v=.pointer (some ⟨g,14,none⟩),
       fun v _=>v=.agg #[.int .i64 b.x0,.int .i64 b.x1,.int .i64 b.x2,.int .i64 b.x3,.int .i64 b.x4,.int .i64 b.x5,.int .i64 b.x6,.int .i64 b.x7,.bool b.ch,.bool b.od],
       fun v _=>v=.tuple #[.int .i64 (n:Int),.int .i64 0],
       fun v _=>v=.tuple #[.int .i64 (n:Int),.int .i64 0],
       fun v _=>v=.int .i64 (n:Int),
       fun v _=>v=.int .i64 0,
       fun v _=>v=.int .i64 (n:Int),
       fun v _=>v=.int .i64 0]
      (by kernel_rfl) (by kernel_rfl) (by kernel_rfl) (by kernel_rfl) (fun _ _ d _ _ h=>by cases d<;>exact h) (by rfl) (by rfl)
     ⟨Each.Lasts.eq _,Each.Lasts.eq _,Each.Lasts.eq _,Each.Lasts.eq _,Each.Lasts.eq _,Each.Lasts.eq _,Each.Lasts.eq _,Each.Lasts.eq _,Each.Lasts.eq _,Each.Lasts.eq _,Each.Lasts.eq _,Each.Lasts.eq _,Each.Lasts.eq _,Each.Lasts.eq _,Each.Lasts.eq _,trivial⟩ ?_ ?_
    ·refine ⟨?_,?_,?_,?_,?_,?_,?_,?_,?_,?_,?_,?_,?_,?_,?_,trivial⟩
     ·refine Each.fine rfl (fun ev w1 hR hb hh=>?_);clear hh;have e1:=hR.old 1 rfl;simp only [Array.getD_eq_getD_getElem?,List.getElem?_toArray,List.getElem?_cons_succ,List.getElem?_cons_zero,Option.getD_some] at e1;refine Each.Goes.same ?_;go_simp;try with_reducible rfl
     ·refine Each.fine rfl (fun ev w1 hR hb hh=>?_);clear hh;have e0:=hR.old 0 rfl;simp only [Array.getD_eq_getD_getElem?,List.getElem?_toArray,List.getElem?_cons_zero,Option.getD_some] at e0;refine Each.Goes.same ?_;go_simp;try with_reducible rfl
     ·refine Each.fine rfl (fun ev w1 hR hb hh=>?_);have e9:(ev (.tmp 9)=.pointer (some ⟨g,0,none⟩)):=hh.at 0;clear hh;refine Each.Goes.same ?_;go_simp;try with_reducible rfl
     ·refine Each.fine rfl (fun ev w1 hR hb hh=>?_);have e10:(ev (.tmp 10)=.pointer (some ⟨g,0,none⟩)):=hh.at 0;clear hh;refine Each.Goes.same ?_;go_simp;try with_reducible rfl
     ·refine Each.fine rfl (fun ev w1 hR hb hh=>?_);have e11:(ev (.tmp 11)=.pointer (some ⟨g,13,none⟩)):=hh.at 0;clear hh;have q13:=(HQ.out.below hb).c 13 _ rfl;refine Each.Goes.same ?_;go_simp;try with_reducible rfl
     ·refine Each.fine rfl (fun ev w1 hR hb hh=>?_);clear hh;have e0:=hR.old 0 rfl;simp only [Array.getD_eq_getD_getElem?,List.getElem?_toArray,List.getElem?_cons_zero,Option.getD_some] at e0;refine Each.Goes.same ?_;go_simp;try with_reducible rfl
     ·refine Each.fine rfl (fun ev w1 hR hb hh=>?_);have e13:(ev (.tmp 13)=.pointer (some ⟨g,0,none⟩)):=hh.at 0;clear hh;refine Each.Goes.same ?_;go_simp;try with_reducible rfl
     ·refine Each.fine rfl (fun ev w1 hR hb hh=>?_);have e14:(ev (.tmp 14)=.pointer (some ⟨g,0,none⟩)):=hh.at 0;clear hh;refine Each.Goes.same ?_;go_simp;try with_reducible rfl
     ·refine Each.fine rfl (fun ev w1 hR hb hh=>?_);have e15:(ev (.tmp 15)=.pointer (some ⟨g,14,none⟩)):=hh.at 0;clear hh;have q14:=(HQ.out.below hb).c 14 _ rfl;have q15:=(HQ.out.below hb).c 15 _ rfl;have q16:=(HQ.out.below hb).c 16 _ rfl;have q17:=(HQ.out.below hb).c 17 _ rfl;have q18:=(HQ.out.below hb).c 18 _ rfl;have q19:=(HQ.out.below hb).c 19 _ rfl;have q20:=(HQ.out.below hb).c 20 _ rfl;have q21:=(HQ.out.below hb).c 21 _ rfl;have q22:=(HQ.out.below hb).c 22 _ rfl;have q23:=(HQ.out.below hb).c 23 _ rfl;refine Each.Goes.same ?_;go_simp;try with_reducible rfl
     ·refine Each.fine rfl (fun ev w1 hR hb hh=>?_);have e8:(ev (.tmp 8)=.string x):=hh.at 0;have e12:(ev (.tmp 12)=.int .u32 (p:Int)):=hh.at 1;have e16:(ev (.tmp 16)=.agg #[.int .i64 b.x0,.int .i64 b.x1,.int .i64 b.x2,.int .i64 b.x3,.int .i64 b.x4,.int .i64 b.x5,.int .i64 b.x6,.int .i64 b.x7,.bool b.ch,.bool b.od]):=hh.at 2;clear hh;have ef:=hR.func
      refine Each.Goes.enter 230 #[.string x,.int .u32 (p:Int),.agg #[.int .i64 b.x0,.int .i64 b.x1,.int .i64 b.x2,.int .i64 b.x3,.int .i64 b.x4,.int .i64 b.x5,.int .i64 b.x6,.int .i64 b.x7,.bool b.ch,.bool b.od]] (by go_simp) ((HZ.out w1).mono ?_);rintro r w2 ⟨rfl,hb2⟩;exact ⟨_,rfl,hb2,rfl⟩
     ·refine Each.fine rfl (fun ev w1 hR hb hh=>?_);have e17:(ev (.tmp 17)=.tuple #[.int .i64 (n:Int),.int .i64 0]):=hh.at 0;clear hh;refine Each.Goes.same ?_;go_simp;try with_reducible rfl
     ·refine Each.fine rfl (fun ev w1 hR hb hh=>?_);have e7:(ev (.tmp 7)=.tuple #[.int .i64 (n:Int),.int .i64 0]):=hh.at 0;clear hh;refine Each.Goes.same ?_;go_simp;try with_reducible rfl
     ·refine Each.fine rfl (fun ev w1 hR hb hh=>?_);have e7:(ev (.tmp 7)=.tuple #[.int .i64 (n:Int),.int .i64 0]):=hh.at 0;clear hh;refine Each.Goes.same ?_;go_simp;try with_reducible rfl
     ·refine Each.fine rfl (fun ev w1 hR hb hh=>?_);have e18:(ev (.tmp 18)=.int .i64 (n:Int)):=hh.at 0;clear hh;refine Each.Goes.same ?_;go_simp;try with_reducible rfl
     ·refine Each.fine rfl (fun ev w1 hR hb hh=>?_);have e19:(ev (.tmp 19)=.int .i64 0):=hh.at 0;clear hh;refine Each.Goes.same ?_;go_simp;try with_reducible rfl
    intro g1 w2 hb hf;have z5:(g1 5=.int .i64 (n:Int)):=hf.at 13;have z6:(g1 6=.int .i64 0):=hf.at 14;clear hf;simp only [Each.putg,Act.put,List.setIfInBounds_toArray,List.set_cons_zero,List.set_cons_succ];rw [z5];rw [z6];have H1:=Lib.hid (H.out.below hb);have HB:=Lib.hid hb;clear HQ hb;go_upto_region 8 with fail
    have HQ:=Lib.hid ((H1.out.drew 1).bk);refine Each.region_all 15 [39,40,41,42,43,44,45,46,47,48,49,50,51,52,38]
     [fun v _=>v=.int .i64 ((n:Nat):Int),
       fun v _=>v=.pointer (some ⟨g,0,none⟩),
       fun v _=>v=.pointer (some ⟨g,0,none⟩),
       fun v _=>v=.pointer (some ⟨g,14,none⟩),
       fun v _=>v=.pointer (some ⟨g,17,none⟩),
       fun v _=>v=.int .i64 b.x3,
       fun v _=>v=.pointer (some ⟨g,0,none⟩),
       fun v _=>v=.pointer (some ⟨g,0,none⟩),
       fun v _=>v=.pointer (some ⟨g,8,none⟩),
       fun v _=>v=.pointer (some ⟨g,11,none⟩),
       fun v _=>v=.slice bb s.r.body.length cb,
       fun v _=>v=.int .i64 ((s.r.body.length:Nat):Int),
       fun v _=>v=.int .i64 (b.x3-(s.r.body.length:Int)),
       fun v _=>v=.bool false,
       fun v _=>v=.bool false]
      (by kernel_rfl) (by kernel_rfl) (by kernel_rfl) (by kernel_rfl) (fun _ _ d _ _ h=>by cases d<;>exact h) (by rfl) (by rfl)
     ⟨Each.Lasts.eq _,Each.Lasts.eq _,Each.Lasts.eq _,Each.Lasts.eq _,Each.Lasts.eq _,Each.Lasts.eq _,Each.Lasts.eq _,Each.Lasts.eq _,Each.Lasts.eq _,Each.Lasts.eq _,Each.Lasts.eq _,Each.Lasts.eq _,Each.Lasts.eq _,Each.Lasts.eq _,Each.Lasts.eq _,trivial⟩ ?_ ?_
    ·refine ⟨?_,?_,?_,?_,?_,?_,?_,?_,?_,?_,?_,?_,?_,?_,?_,trivial⟩
     ·refine Each.fine rfl (fun ev w1 hR hb hh=>?_);clear hh;have e5:=hR.old 5 rfl;simp only [Array.getD_eq_getD_getElem?,List.getElem?_toArray,List.getElem?_cons_succ,List.getElem?_cons_zero,Option.getD_some] at e5;refine Each.Goes.same ?_;go_simp;try with_reducible rfl
     ·refine Each.fine rfl (fun ev w1 hR hb hh=>?_);clear hh;have e0:=hR.old 0 rfl;simp only [Array.getD_eq_getD_getElem?,List.getElem?_toArray,List.getElem?_cons_zero,Option.getD_some] at e0;refine Each.Goes.same ?_;go_simp;try with_reducible rfl
     ·refine Each.fine rfl (fun ev w1 hR hb hh=>?_);have e40:(ev (.tmp 40)=.pointer (some ⟨g,0,none⟩)):=hh.at 0;clear hh;refine Each.Goes.same ?_;go_simp;try with_reducible rfl
     ·refine Each.fine rfl (fun ev w1 hR hb hh=>?_);have e41:(ev (.tmp 41)=.pointer (some ⟨g,0,none⟩)):=hh.at 0;clear hh;refine Each.Goes.same ?_;go_simp;try with_reducible rfl
     ·refine Each.fine rfl (fun ev w1 hR hb hh=>?_);have e42:(ev (.tmp 42)=.pointer (some ⟨g,14,none⟩)):=hh.at 0;clear hh;refine Each.Goes.same ?_;go_simp;try with_reducible rfl
     ·refine Each.fine rfl (fun ev w1 hR hb hh=>?_);have e43:(ev (.tmp 43)=.pointer (some ⟨g,17,none⟩)):=hh.at 0;clear hh;have q17:=(HQ.out.below hb).c 17 _ rfl;refine Each.Goes.same ?_;go_simp;try with_reducible rfl
     ·refine Each.fine rfl (fun ev w1 hR hb hh=>?_);clear hh;have e0:=hR.old 0 rfl;simp only [Array.getD_eq_getD_getElem?,List.getElem?_toArray,List.getElem?_cons_zero,Option.getD_some] at e0;refine Each.Goes.same ?_;go_simp;try with_reducible rfl
     ·refine Each.fine rfl (fun ev w1 hR hb hh=>?_);have e45:(ev (.tmp 45)=.pointer (some ⟨g,0,none⟩)):=hh.at 0;clear hh;refine Each.Goes.same ?_;go_simp;try with_reducible rfl
     ·refine Each.fine rfl (fun ev w1 hR hb hh=>?_);have e46:(ev (.tmp 46)=.pointer (some ⟨g,0,none⟩)):=hh.at 0;clear hh;refine Each.Goes.same ?_;go_simp;try with_reducible rfl
     ·refine Each.fine rfl (fun ev w1 hR hb hh=>?_);have e47:(ev (.tmp 47)=.pointer (some ⟨g,8,none⟩)):=hh.at 0;clear hh;refine Each.Goes.same ?_;go_simp;try with_reducible rfl
     ·refine Each.fine rfl (fun ev w1 hR hb hh=>?_);have e48:(ev (.tmp 48)=.pointer (some ⟨g,11,none⟩)):=hh.at 0;clear hh;have q11:=(HQ.out.below hb).c 11 _ rfl;refine Each.Goes.same ?_;go_simp;try with_reducible rfl
     ·refine Each.fine rfl (fun ev w1 hR hb hh=>?_);have e49:(ev (.tmp 49)=.slice bb s.r.body.length cb):=hh.at 0;clear hh;refine Each.Goes.same ?_;go_simp;try with_reducible rfl
     ·refine Each.fine rfl (fun ev w1 hR hb hh=>?_);have e44:(ev (.tmp 44)=.int .i64 b.x3):=hh.at 0;have e50:(ev (.tmp 50)=.int .i64 ((s.r.body.length:Nat):Int)):=hh.at 1;clear hh;have d1:=HD.out;refine Each.Goes.same ?_;go_simp;try with_reducible rfl
     ·refine Each.fine rfl (fun ev w1 hR hb hh=>?_);have e39:(ev (.tmp 39)=.int .i64 ((n:Nat):Int)):=hh.at 0;have e51:(ev (.tmp 51)=.int .i64 (b.x3-(s.r.body.length:Int))):=hh.at 1;clear hh;have d2:=HT.out;refine Each.Goes.same ?_;go_simp;try with_reducible rfl
     ·refine Each.fine rfl (fun ev w1 hR hb hh=>?_);have e52:(ev (.tmp 52)=.bool false):=hh.at 0;clear hh;refine Each.Goes.same ?_;go_simp;try with_reducible rfl
    intro g1 w3 hb hf;have z38:(g1 38=.bool false):=hf.at 14;clear hf;simp only [Each.putg,Act.put,List.setIfInBounds_toArray,List.set_cons_zero,List.set_cons_succ];rw [z38]
    have H2:=Lib.hid (H1.out.below hb);have HS2:=Lib.hid ((Step.of_below HB.out (L:=blks g q v f (.slice bb s.r.body.length cb) t o)).trans (Step.of_below hb));clear H1 HB hb HQ
    have H3:=Lib.hid ((H2.out.put 12 (.int .i64 (n:Int)) {s with left:=n} rfl rfl rfl rfl rfl rfl).put 24 (.int .i64 5) {s with left:=n,st:=5} rfl rfl rfl rfl rfl rfl)
    have HS3:=Lib.hid (HS2.out.trans ((Step.set g 12 (.int .i64 (n:Int)) (by simp)).trans (Step.set g 24 (.int .i64 5) (by simp))));have c12:=H2.out.cs.c12;have z12:=H2.out.marks 12;have c24:=H2.out.cs.c24;have z24:=H2.out.marks 24;go_wp2;go_ret;exact ⟨rfl,_,_,_,_,_,_,H3.out,HS3.out⟩
 ·have e2:z2=400:=e2;subst e2
  have HZ:=Lib.hid (show∀w,Calls Tryz.prog 230 #[.string x,.int .u32 (p:Int),.agg #[.int .i64 b.x0,.int .i64 b.x1,.int .i64 b.x2,.int .i64 b.x3,.int .i64 b.x4,.int .i64 b.x5,.int .i64 b.x6,.int .i64 b.x7,.bool b.ch,.bool b.od]] w fun e w'=>e=.returned (.tuple #[.int .i64 z1,.int .i64 400])∧Below w.heap.size w w' from fun w=>by have:=hz w;rw [hZ] at this;exact this);have e:s.chunk p b x.data.toList=(400,s):=by unfold T.chunk;rw [hZ];rfl
  rw [e];clear hz hZ e;go_enter Tryz.func208,Tryz.ntmps208;go_upto_region 1 with fail
  refine Each.region_all 15 [8,9,10,11,12,13,14,15,16,17,7,18,19,5,6]
   [fun v _=>v=.string x,
     fun v _=>v=.pointer (some ⟨g,0,none⟩),
     fun v _=>v=.pointer (some ⟨g,0,none⟩),
     fun v _=>v=.pointer (some ⟨g,13,none⟩),
     fun v _=>v=.int .u32 (p:Int),
     fun v _=>v=.pointer (some ⟨g,0,none⟩),
     fun v _=>v=.pointer (some ⟨g,0,none⟩),
     fun v _=>v=.pointer (some ⟨g,14,none⟩),
     fun v _=>v=.agg #[.int .i64 b.x0,.int .i64 b.x1,.int .i64 b.x2,.int .i64 b.x3,.int .i64 b.x4,.int .i64 b.x5,.int .i64 b.x6,.int .i64 b.x7,.bool b.ch,.bool b.od],
     fun v _=>v=.tuple #[.int .i64 z1,.int .i64 400],
     fun v _=>v=.tuple #[.int .i64 z1,.int .i64 400],
     fun v _=>v=.int .i64 z1,
     fun v _=>v=.int .i64 400,
     fun v _=>v=.int .i64 z1,
     fun v _=>v=.int .i64 400]
    (by kernel_rfl) (by kernel_rfl) (by kernel_rfl) (by kernel_rfl) (fun _ _ d _ _ h=>by cases d<;>exact h) (by rfl) (by rfl)
   ⟨Each.Lasts.eq _,Each.Lasts.eq _,Each.Lasts.eq _,Each.Lasts.eq _,Each.Lasts.eq _,Each.Lasts.eq _,Each.Lasts.eq _,Each.Lasts.eq _,Each.Lasts.eq _,Each.Lasts.eq _,Each.Lasts.eq _,Each.Lasts.eq _,Each.Lasts.eq _,Each.Lasts.eq _,Each.Lasts.eq _,trivial⟩ ?_ ?_
  ·refine ⟨?_,?_,?_,?_,?_,?_,?_,?_,?_,?_,?_,?_,?_,?_,?_,trivial⟩
   ·refine Each.fine rfl (fun ev w1 hR hb hh=>?_);clear hh;have e1:=hR.old 1 rfl;simp only [Array.getD_eq_getD_getElem?,List.getElem?_toArray,List.getElem?_cons_succ,List.getElem?_cons_zero,Option.getD_some] at e1;refine Each.Goes.same ?_;go_simp;try with_reducible rfl
   ·refine Each.fine rfl (fun ev w1 hR hb hh=>?_);clear hh;have e0:=hR.old 0 rfl;simp only [Array.getD_eq_getD_getElem?,List.getElem?_toArray,List.getElem?_cons_zero,Option.getD_some] at e0;refine Each.Goes.same ?_;go_simp;try with_reducible rfl
   ·refine Each.fine rfl (fun ev w1 hR hb hh=>?_);have e9:(ev (.tmp 9)=.pointer (some ⟨g,0,none⟩)):=hh.at 0;clear hh;refine Each.Goes.same ?_;go_simp;try with_reducible rfl
   ·refine Each.fine rfl (fun ev w1 hR hb hh=>?_);have e10:(ev (.tmp 10)=.pointer (some ⟨g,0,none⟩)):=hh.at 0;clear hh;refine Each.Goes.same ?_;go_simp;try with_reducible rfl
   ·refine Each.fine rfl (fun ev w1 hR hb hh=>?_);have e11:(ev (.tmp 11)=.pointer (some ⟨g,13,none⟩)):=hh.at 0;clear hh;have q13:=(HQ.out.below hb).c 13 _ rfl;refine Each.Goes.same ?_;go_simp;try with_reducible rfl
   ·refine Each.fine rfl (fun ev w1 hR hb hh=>?_);clear hh;have e0:=hR.old 0 rfl;simp only [Array.getD_eq_getD_getElem?,List.getElem?_toArray,List.getElem?_cons_zero,Option.getD_some] at e0;refine Each.Goes.same ?_;go_simp;try with_reducible rfl
   ·refine Each.fine rfl (fun ev w1 hR hb hh=>?_);have e13:(ev (.tmp 13)=.pointer (some ⟨g,0,none⟩)):=hh.at 0;clear hh;refine Each.Goes.same ?_;go_simp;try with_reducible rfl
   ·refine Each.fine rfl (fun ev w1 hR hb hh=>?_);have e14:(ev (.tmp 14)=.pointer (some ⟨g,0,none⟩)):=hh.at 0;clear hh;refine Each.Goes.same ?_;go_simp;try with_reducible rfl
   ·refine Each.fine rfl (fun ev w1 hR hb hh=>?_);have e15:(ev (.tmp 15)=.pointer (some ⟨g,14,none⟩)):=hh.at 0;clear hh;have q14:=(HQ.out.below hb).c 14 _ rfl;have q15:=(HQ.out.below hb).c 15 _ rfl;have q16:=(HQ.out.below hb).c 16 _ rfl;have q17:=(HQ.out.below hb).c 17 _ rfl;have q18:=(HQ.out.below hb).c 18 _ rfl;have q19:=(HQ.out.below hb).c 19 _ rfl;have q20:=(HQ.out.below hb).c 20 _ rfl;have q21:=(HQ.out.below hb).c 21 _ rfl;have q22:=(HQ.out.below hb).c 22 _ rfl;have q23:=(HQ.out.below hb).c 23 _ rfl;refine Each.Goes.same ?_;go_simp;try with_reducible rfl
   ·refine Each.fine rfl (fun ev w1 hR hb hh=>?_);have e8:(ev (.tmp 8)=.string x):=hh.at 0;have e12:(ev (.tmp 12)=.int .u32 (p:Int)):=hh.at 1;have e16:(ev (.tmp 16)=.agg #[.int .i64 b.x0,.int .i64 b.x1,.int .i64 b.x2,.int .i64 b.x3,.int .i64 b.x4,.int .i64 b.x5,.int .i64 b.x6,.int .i64 b.x7,.bool b.ch,.bool b.od]):=hh.at 2;clear hh;have ef:=hR.func
    refine Each.Goes.enter 230 #[.string x,.int .u32 (p:Int),.agg #[.int .i64 b.x0,.int .i64 b.x1,.int .i64 b.x2,.int .i64 b.x3,.int .i64 b.x4,.int .i64 b.x5,.int .i64 b.x6,.int .i64 b.x7,.bool b.ch,.bool b.od]] (by go_simp) ((HZ.out w1).mono ?_);rintro r w2 ⟨rfl,hb2⟩;exact ⟨_,rfl,hb2,rfl⟩
   ·refine Each.fine rfl (fun ev w1 hR hb hh=>?_);have e17:(ev (.tmp 17)=.tuple #[.int .i64 z1,.int .i64 400]):=hh.at 0;clear hh;refine Each.Goes.same ?_;go_simp;try with_reducible rfl
   ·refine Each.fine rfl (fun ev w1 hR hb hh=>?_);have e7:(ev (.tmp 7)=.tuple #[.int .i64 z1,.int .i64 400]):=hh.at 0;clear hh;refine Each.Goes.same ?_;go_simp;try with_reducible rfl
   ·refine Each.fine rfl (fun ev w1 hR hb hh=>?_);have e7:(ev (.tmp 7)=.tuple #[.int .i64 z1,.int .i64 400]):=hh.at 0;clear hh;refine Each.Goes.same ?_;go_simp;try with_reducible rfl
   ·refine Each.fine rfl (fun ev w1 hR hb hh=>?_);have e18:(ev (.tmp 18)=.int .i64 z1):=hh.at 0;clear hh;refine Each.Goes.same ?_;go_simp;try with_reducible rfl
   ·refine Each.fine rfl (fun ev w1 hR hb hh=>?_);have e19:(ev (.tmp 19)=.int .i64 400):=hh.at 0;clear hh;refine Each.Goes.same ?_;go_simp;try with_reducible rfl
  intro g1 w2 hb hf;have z5:(g1 5=.int .i64 z1):=hf.at 13;have z6:(g1 6=.int .i64 400):=hf.at 14;clear hf;simp only [Each.putg,Act.put,List.setIfInBounds_toArray,List.set_cons_zero,List.set_cons_succ];rw [z5];rw [z6];have H1:=Lib.hid (H.out.below hb);have HB:=Lib.hid hb;clear HQ hb;go_wp2;go_ret;exact ⟨rfl,_,_,_,_,_,_,H1.out,Step.of_below HB.out⟩
 ·have e2:z2=413:=e2;subst e2
  have HZ:=Lib.hid (show∀w,Calls Tryz.prog 230 #[.string x,.int .u32 (p:Int),.agg #[.int .i64 b.x0,.int .i64 b.x1,.int .i64 b.x2,.int .i64 b.x3,.int .i64 b.x4,.int .i64 b.x5,.int .i64 b.x6,.int .i64 b.x7,.bool b.ch,.bool b.od]] w fun e w'=>e=.returned (.tuple #[.int .i64 z1,.int .i64 413])∧Below w.heap.size w w' from fun w=>by have:=hz w;rw [hZ] at this;exact this);have e:s.chunk p b x.data.toList=(413,s):=by unfold T.chunk;rw [hZ];rfl
  rw [e];clear hz hZ e;go_enter Tryz.func208,Tryz.ntmps208;go_upto_region 1 with fail
  refine Each.region_all 15 [8,9,10,11,12,13,14,15,16,17,7,18,19,5,6]
   [fun v _=>v=.string x,
     fun v _=>v=.pointer (some ⟨g,0,none⟩),
     fun v _=>v=.pointer (some ⟨g,0,none⟩),
     fun v _=>v=.pointer (some ⟨g,13,none⟩),
     fun v _=>v=.int .u32 (p:Int),
     fun v _=>v=.pointer (some ⟨g,0,none⟩),
     fun v _=>v=.pointer (some ⟨g,0,none⟩),
     fun v _=>v=.pointer (some ⟨g,14,none⟩),
     fun v _=>v=.agg #[.int .i64 b.x0,.int .i64 b.x1,.int .i64 b.x2,.int .i64 b.x3,.int .i64 b.x4,.int .i64 b.x5,.int .i64 b.x6,.int .i64 b.x7,.bool b.ch,.bool b.od],
     fun v _=>v=.tuple #[.int .i64 z1,.int .i64 413],
     fun v _=>v=.tuple #[.int .i64 z1,.int .i64 413],
     fun v _=>v=.int .i64 z1,
     fun v _=>v=.int .i64 413,
     fun v _=>v=.int .i64 z1,
     fun v _=>v=.int .i64 413]
    (by kernel_rfl) (by kernel_rfl) (by kernel_rfl) (by kernel_rfl) (fun _ _ d _ _ h=>by cases d<;>exact h) (by rfl) (by rfl)
   ⟨Each.Lasts.eq _,Each.Lasts.eq _,Each.Lasts.eq _,Each.Lasts.eq _,Each.Lasts.eq _,Each.Lasts.eq _,Each.Lasts.eq _,Each.Lasts.eq _,Each.Lasts.eq _,Each.Lasts.eq _,Each.Lasts.eq _,Each.Lasts.eq _,Each.Lasts.eq _,Each.Lasts.eq _,Each.Lasts.eq _,trivial⟩ ?_ ?_
  ·refine ⟨?_,?_,?_,?_,?_,?_,?_,?_,?_,?_,?_,?_,?_,?_,?_,trivial⟩
   ·refine Each.fine rfl (fun ev w1 hR hb hh=>?_);clear hh;have e1:=hR.old 1 rfl;simp only [Array.getD_eq_getD_getElem?,List.getElem?_toArray,List.getElem?_cons_succ,List.getElem?_cons_zero,Option.getD_some] at e1;refine Each.Goes.same ?_;go_simp;try with_reducible rfl
   ·refine Each.fine rfl (fun ev w1 hR hb hh=>?_);clear hh;have e0:=hR.old 0 rfl;simp only [Array.getD_eq_getD_getElem?,List.getElem?_toArray,List.getElem?_cons_zero,Option.getD_some] at e0;refine Each.Goes.same ?_;go_simp;try with_reducible rfl
   ·refine Each.fine rfl (fun ev w1 hR hb hh=>?_);have e9:(ev (.tmp 9)=.pointer (some ⟨g,0,none⟩)):=hh.at 0;clear hh;refine Each.Goes.same ?_;go_simp;try with_reducible rfl
   ·refine Each.fine rfl (fun ev w1 hR hb hh=>?_);have e10:(ev (.tmp 10)=.pointer (some ⟨g,0,none⟩)):=hh.at 0;clear hh;refine Each.Goes.same ?_;go_simp;try with_reducible rfl
   ·refine Each.fine rfl (fun ev w1 hR hb hh=>?_);have e11:(ev (.tmp 11)=.pointer (some ⟨g,13,none⟩)):=hh.at 0;clear hh;have q13:=(HQ.out.below hb).c 13 _ rfl;refine Each.Goes.same ?_;go_simp;try with_reducible rfl
   ·refine Each.fine rfl (fun ev w1 hR hb hh=>?_);clear hh;have e0:=hR.old 0 rfl;simp only [Array.getD_eq_getD_getElem?,List.getElem?_toArray,List.getElem?_cons_zero,Option.getD_some] at e0;refine Each.Goes.same ?_;go_simp;try with_reducible rfl
   ·refine Each.fine rfl (fun ev w1 hR hb hh=>?_);have e13:(ev (.tmp 13)=.pointer (some ⟨g,0,none⟩)):=hh.at 0;clear hh;refine Each.Goes.same ?_;go_simp;try with_reducible rfl
   ·refine Each.fine rfl (fun ev w1 hR hb hh=>?_);have e14:(ev (.tmp 14)=.pointer (some ⟨g,0,none⟩)):=hh.at 0;clear hh;refine Each.Goes.same ?_;go_simp;try with_reducible rfl
   ·refine Each.fine rfl (fun ev w1 hR hb hh=>?_);have e15:(ev (.tmp 15)=.pointer (some ⟨g,14,none⟩)):=hh.at 0;clear hh;have q14:=(HQ.out.below hb).c 14 _ rfl;have q15:=(HQ.out.below hb).c 15 _ rfl;have q16:=(HQ.out.below hb).c 16 _ rfl;have q17:=(HQ.out.below hb).c 17 _ rfl;have q18:=(HQ.out.below hb).c 18 _ rfl;have q19:=(HQ.out.below hb).c 19 _ rfl;have q20:=(HQ.out.below hb).c 20 _ rfl;have q21:=(HQ.out.below hb).c 21 _ rfl;have q22:=(HQ.out.below hb).c 22 _ rfl;have q23:=(HQ.out.below hb).c 23 _ rfl;refine Each.Goes.same ?_;go_simp;try with_reducible rfl
   ·refine Each.fine rfl (fun ev w1 hR hb hh=>?_);have e8:(ev (.tmp 8)=.string x):=hh.at 0;have e12:(ev (.tmp 12)=.int .u32 (p:Int)):=hh.at 1;have e16:(ev (.tmp 16)=.agg #[.int .i64 b.x0,.int .i64 b.x1,.int .i64 b.x2,.int .i64 b.x3,.int .i64 b.x4,.int .i64 b.x5,.int .i64 b.x6,.int .i64 b.x7,.bool b.ch,.bool b.od]):=hh.at 2;clear hh;have ef:=hR.func
    refine Each.Goes.enter 230 #[.string x,.int .u32 (p:Int),.agg #[.int .i64 b.x0,.int .i64 b.x1,.int .i64 b.x2,.int .i64 b.x3,.int .i64 b.x4,.int .i64 b.x5,.int .i64 b.x6,.int .i64 b.x7,.bool b.ch,.bool b.od]] (by go_simp) ((HZ.out w1).mono ?_);rintro r w2 ⟨rfl,hb2⟩;exact ⟨_,rfl,hb2,rfl⟩
   ·refine Each.fine rfl (fun ev w1 hR hb hh=>?_);have e17:(ev (.tmp 17)=.tuple #[.int .i64 z1,.int .i64 413]):=hh.at 0;clear hh;refine Each.Goes.same ?_;go_simp;try with_reducible rfl
   ·refine Each.fine rfl (fun ev w1 hR hb hh=>?_);have e7:(ev (.tmp 7)=.tuple #[.int .i64 z1,.int .i64 413]):=hh.at 0;clear hh;refine Each.Goes.same ?_;go_simp;try with_reducible rfl
   ·refine Each.fine rfl (fun ev w1 hR hb hh=>?_);have e7:(ev (.tmp 7)=.tuple #[.int .i64 z1,.int .i64 413]):=hh.at 0;clear hh;refine Each.Goes.same ?_;go_simp;try with_reducible rfl
   ·refine Each.fine rfl (fun ev w1 hR hb hh=>?_);have e18:(ev (.tmp 18)=.int .i64 z1):=hh.at 0;clear hh;refine Each.Goes.same ?_;go_simp;try with_reducible rfl
   ·refine Each.fine rfl (fun ev w1 hR hb hh=>?_);have e19:(ev (.tmp 19)=.int .i64 413):=hh.at 0;clear hh;refine Each.Goes.same ?_;go_simp;try with_reducible rfl
  intro g1 w2 hb hf;have z5:(g1 5=.int .i64 z1):=hf.at 13;have z6:(g1 6=.int .i64 413):=hf.at 14;clear hf;simp only [Each.putg,Act.put,List.setIfInBounds_toArray,List.set_cons_zero,List.set_cons_succ];rw [z5];rw [z6];have H1:=Lib.hid (H.out.below hb);have HB:=Lib.hid hb;clear HQ hb;go_wp2;go_ret;exact ⟨rfl,_,_,_,_,_,_,H1.out,Step.of_below HB.out⟩
theorem endHead_any (hp:p<4294967296) (h3:16≤b.x3∧b.x3≤1048576) (h:PR w B g q v f bd t o p b s) (hn:s.r.fs.length≤500) (hs:∀y∈s.r.fs,y.1.size≤1000000∧y.2.size≤1000000) (hout:s.out.length≤1000000000):Calls Tryz.prog 228 #[ptr g] w fun r w'=>
 r=.returned (.int .i64 (((s.endHead p b).1:Nat):Int))∧∃q1 v1 f1 bd1 t1 o1,PR w' B g q1 v1 f1 bd1 t1 o1 p b (s.endHead p b).2∧Step (blks g q v f bd t o) (blks g q1 v1 f1 bd1 t1 o1) w w':=by
 obtain ⟨A,c,e,hv⟩:=Flds.of_own h.own.F;obtain ⟨bf,cf,eb, -⟩:=Ln.own_slice h.own.F;subst eb;simp only [Value.slice.injEq,true_and] at e;obtain ⟨rfl,rfl⟩:=e;have H:=Lib.hid h
 have HQ:=Lib.hid ((h.drew 1).bk)
 have hvd:=hv.below (Base.below_drewN (Below.refl w.heap.size w) 1);have hz:=fun w2 (hb:Below (w.drewN 1).heap.size (w.drewN 1) w2)=>Frm.decide_any p hp b.x0 b.x1 b.x2 b.x3 b.x4 b.x5 b.x6 b.x7 b.ch b.od (by omega) s.r.k _ _ cf s.r.fs w2 (hvd.below hb) hn hs;have HO:=Lib.hid hout;clear h hn hs hout hv;rcases decide_facts (Frm.clOf p) b.ch b.x3 s.r.k s.r.fs with hD | ⟨n,hle,hD⟩ | ⟨e,he,hD⟩
 ·have HZ:=Lib.hid (show∀w2,Below (w.drewN 1).heap.size (w.drewN 1) w2→Calls Tryz.prog 247 #[.int .u32 (p:Int),.agg #[.int .i64 b.x0,.int .i64 b.x1,.int .i64 b.x2,.int .i64 b.x3,.int .i64 b.x4,.int .i64 b.x5,.int .i64 b.x6,.int .i64 b.x7,.bool b.ch,.bool b.od],.int .i64 s.r.k,.slice bf s.r.fs.length cf] w2 fun r w'=>r=.returned (.tuple #[.agg #[.int .i64 2,.int .i64 0],.int .i64 0])∧Below w2.heap.size w2 w' from fun w2 hb=>by have:=hz w2 hb;rw [hD] at this;exact this);have e:s.endHead p b=(0,{s with r:={s.r with ch:=true},st:=4}):=by unfold T.endHead;rw [hD];rfl
  rw [e];clear hz hD e hvd;go_enter Tryz.func228,Tryz.ntmps228;go_upto_region 1 with fail
  go_cut [3,4] from 5 to 27 (fun u c wx=>∃g2,u=ptr g2∧c=.int .i64 0∧Hid (Below w.heap.size w wx)∧Hid (Rec.Bk wx g2 [.int .i64 2,.int .i64 0])∧Hid (w.heap.size≤g2))
  case first=>
   refine Each.region_float 24 [6,7,8,9,10,11,12,13,14,15,16,17,18,19,20,21,22,23,24,25,5,26,27,3]
    [fun v _=>v=.pointer (some ⟨g,0,none⟩),
      fun v _=>v=.pointer (some ⟨g,0,none⟩),
      fun v _=>v=.pointer (some ⟨g,13,none⟩),
      fun v _=>v=.int .u32 (p:Int),
      fun v _=>v=.pointer (some ⟨g,0,none⟩),
      fun v _=>v=.pointer (some ⟨g,0,none⟩),
      fun v _=>v=.pointer (some ⟨g,14,none⟩),
      fun v _=>v=.agg #[.int .i64 b.x0,.int .i64 b.x1,.int .i64 b.x2,.int .i64 b.x3,.int .i64 b.x4,.int .i64 b.x5,.int .i64 b.x6,.int .i64 b.x7,.bool b.ch,.bool b.od],
      fun v _=>v=.pointer (some ⟨g,0,none⟩),
      fun v _=>v=.pointer (some ⟨g,0,none⟩),
      fun v _=>v=.pointer (some ⟨g,1,none⟩),
      fun v _=>v=.pointer (some ⟨g,5,none⟩),
      fun v _=>v=.int .i64 s.r.k,
      fun v _=>v=.pointer (some ⟨g,0,none⟩),
      fun v _=>v=.pointer (some ⟨g,0,none⟩),
      fun v _=>v=.pointer (some ⟨g,1,none⟩),
      fun v _=>v=.pointer (some ⟨g,1,none⟩),
      fun v _=>v=.pointer (some ⟨g,2,none⟩),
      fun v _=>v=.slice bf s.r.fs.length cf,
      fun v _=>v=.tuple #[.agg #[.int .i64 2,.int .i64 0],.int .i64 0],
      fun v _=>v=.tuple #[.agg #[.int .i64 2,.int .i64 0],.int .i64 0],
      fun v _=>v=.agg #[.int .i64 2,.int .i64 0],
      fun v _=>v=.int .i64 0,
      fun v u=>∃g2,v=ptr g2∧w.heap.size≤g2∧Rec.Bk u g2 [.int .i64 0,.int .i64 0]]
    [] 2 (some 22) (.act 24 (.quiet 25 .done)) (.quiet 22 (.act 24 (.quiet 25 .done))) (by kernel_rfl) (by kernel_rfl) (by kernel_rfl) (by kernel_rfl) (fun k0 h=>by cases h;kernel_rfl) (fun _ _ d _ _ h=>by cases d<;>exact h) (by rfl) (by rfl)
    ⟨Each.Lasts.eq _,Each.Lasts.eq _,Each.Lasts.eq _,Each.Lasts.eq _,Each.Lasts.eq _,Each.Lasts.eq _,Each.Lasts.eq _,Each.Lasts.eq _,Each.Lasts.eq _,Each.Lasts.eq _,Each.Lasts.eq _,Each.Lasts.eq _,Each.Lasts.eq _,Each.Lasts.eq _,Each.Lasts.eq _,Each.Lasts.eq _,Each.Lasts.eq _,Each.Lasts.eq _,Each.Lasts.eq _,Each.Lasts.eq _,Each.Lasts.eq _,Each.Lasts.eq _,Each.Lasts.eq _,((fun _ _ _ hb h=>by obtain ⟨g2,e1,h1,hB⟩:=h;exact ⟨g2,e1,h1,hB.below hb⟩)),trivial⟩ trivial (by rfl) ?_ ?_ ?_
   ·refine ⟨?_,?_,?_,?_,?_,?_,?_,?_,?_,?_,?_,?_,?_,?_,?_,?_,?_,?_,?_,?_,?_,?_,?_,?_,trivial⟩
    ·refine Each.fine rfl (fun ev w1 hR hb hh=>?_);clear hh;have e0:=hR.old 0 rfl;simp only [Array.getD_eq_getD_getElem?,List.getElem?_toArray,List.getElem?_cons_zero,Option.getD_some] at e0;refine Each.Goes.same ?_;go_simp;try with_reducible rfl
    ·refine Each.fine rfl (fun ev w1 hR hb hh=>?_);have e6:(ev (.tmp 6)=.pointer (some ⟨g,0,none⟩)):=hh.at 0;clear hh;refine Each.Goes.same ?_;go_simp;try with_reducible rfl
    ·refine Each.fine rfl (fun ev w1 hR hb hh=>?_);have e7:(ev (.tmp 7)=.pointer (some ⟨g,0,none⟩)):=hh.at 0;clear hh;refine Each.Goes.same ?_;go_simp;try with_reducible rfl
    ·refine Each.fine rfl (fun ev w1 hR hb hh=>?_);have e8:(ev (.tmp 8)=.pointer (some ⟨g,13,none⟩)):=hh.at 0;clear hh;have q13:=(HQ.out.below hb).c 13 _ rfl;refine Each.Goes.same ?_;go_simp;try with_reducible rfl
    ·refine Each.fine rfl (fun ev w1 hR hb hh=>?_);clear hh;have e0:=hR.old 0 rfl;simp only [Array.getD_eq_getD_getElem?,List.getElem?_toArray,List.getElem?_cons_zero,Option.getD_some] at e0;refine Each.Goes.same ?_;go_simp;try with_reducible rfl
    ·refine Each.fine rfl (fun ev w1 hR hb hh=>?_);have e10:(ev (.tmp 10)=.pointer (some ⟨g,0,none⟩)):=hh.at 0;clear hh;refine Each.Goes.same ?_;go_simp;try with_reducible rfl
    ·refine Each.fine rfl (fun ev w1 hR hb hh=>?_);have e11:(ev (.tmp 11)=.pointer (some ⟨g,0,none⟩)):=hh.at 0;clear hh;refine Each.Goes.same ?_;go_simp;try with_reducible rfl
    ·refine Each.fine rfl (fun ev w1 hR hb hh=>?_);have e12:(ev (.tmp 12)=.pointer (some ⟨g,14,none⟩)):=hh.at 0;clear hh;have q14:=(HQ.out.below hb).c 14 _ rfl;have q15:=(HQ.out.below hb).c 15 _ rfl;have q16:=(HQ.out.below hb).c 16 _ rfl;have q17:=(HQ.out.below hb).c 17 _ rfl;have q18:=(HQ.out.below hb).c 18 _ rfl;have q19:=(HQ.out.below hb).c 19 _ rfl;have q20:=(HQ.out.below hb).c 20 _ rfl;have q21:=(HQ.out.below hb).c 21 _ rfl;have q22:=(HQ.out.below hb).c 22 _ rfl;have q23:=(HQ.out.below hb).c 23 _ rfl;refine Each.Goes.same ?_;go_simp;try with_reducible rfl
    ·refine Each.fine rfl (fun ev w1 hR hb hh=>?_);clear hh;have e0:=hR.old 0 rfl;simp only [Array.getD_eq_getD_getElem?,List.getElem?_toArray,List.getElem?_cons_zero,Option.getD_some] at e0;refine Each.Goes.same ?_;go_simp;try with_reducible rfl
    ·refine Each.fine rfl (fun ev w1 hR hb hh=>?_);have e14:(ev (.tmp 14)=.pointer (some ⟨g,0,none⟩)):=hh.at 0;clear hh;refine Each.Goes.same ?_;go_simp;try with_reducible rfl
    ·refine Each.fine rfl (fun ev w1 hR hb hh=>?_);have e15:(ev (.tmp 15)=.pointer (some ⟨g,0,none⟩)):=hh.at 0;clear hh;refine Each.Goes.same ?_;go_simp;try with_reducible rfl
    ·refine Each.fine rfl (fun ev w1 hR hb hh=>?_);have e16:(ev (.tmp 16)=.pointer (some ⟨g,1,none⟩)):=hh.at 0;clear hh;refine Each.Goes.same ?_;go_simp;try with_reducible rfl
    ·refine Each.fine rfl (fun ev w1 hR hb hh=>?_);have e17:(ev (.tmp 17)=.pointer (some ⟨g,5,none⟩)):=hh.at 0;clear hh;have q5:=(HQ.out.below hb).c 5 _ rfl;refine Each.Goes.same ?_;go_simp;try with_reducible rfl
    ·refine Each.fine rfl (fun ev w1 hR hb hh=>?_);clear hh;have e0:=hR.old 0 rfl;simp only [Array.getD_eq_getD_getElem?,List.getElem?_toArray,List.getElem?_cons_zero,Option.getD_some] at e0;refine Each.Goes.same ?_;go_simp;try with_reducible rfl
    ·refine Each.fine rfl (fun ev w1 hR hb hh=>?_);have e19:(ev (.tmp 19)=.pointer (some ⟨g,0,none⟩)):=hh.at 0;clear hh;refine Each.Goes.same ?_;go_simp;try with_reducible rfl
    ·refine Each.fine rfl (fun ev w1 hR hb hh=>?_);have e20:(ev (.tmp 20)=.pointer (some ⟨g,0,none⟩)):=hh.at 0;clear hh;refine Each.Goes.same ?_;go_simp;try with_reducible rfl
    ·refine Each.fine rfl (fun ev w1 hR hb hh=>?_);have e21:(ev (.tmp 21)=.pointer (some ⟨g,1,none⟩)):=hh.at 0;clear hh;refine Each.Goes.same ?_;go_simp;try with_reducible rfl
    ·refine Each.fine rfl (fun ev w1 hR hb hh=>?_);have e22:(ev (.tmp 22)=.pointer (some ⟨g,1,none⟩)):=hh.at 0;clear hh;refine Each.Goes.same ?_;go_simp;try with_reducible rfl
    ·refine Each.fine rfl (fun ev w1 hR hb hh=>?_);have e23:(ev (.tmp 23)=.pointer (some ⟨g,2,none⟩)):=hh.at 0;clear hh;have q2:=(HQ.out.below hb).c 2 _ rfl;refine Each.Goes.same ?_;go_simp;try with_reducible rfl
    ·refine Each.fine rfl (fun ev w1 hR hb hh=>?_);have e9:(ev (.tmp 9)=.int .u32 (p:Int)):=hh.at 0;have e13:(ev (.tmp 13)=.agg #[.int .i64 b.x0,.int .i64 b.x1,.int .i64 b.x2,.int .i64 b.x3,.int .i64 b.x4,.int .i64 b.x5,.int .i64 b.x6,.int .i64 b.x7,.bool b.ch,.bool b.od]):=hh.at 1;have e18:(ev (.tmp 18)=.int .i64 s.r.k):=hh.at 2;have e24:(ev (.tmp 24)=.slice bf s.r.fs.length cf):=hh.at 3;clear hh;have ef:=hR.func
     refine Each.Goes.enter 247 #[.int .u32 (p:Int),.agg #[.int .i64 b.x0,.int .i64 b.x1,.int .i64 b.x2,.int .i64 b.x3,.int .i64 b.x4,.int .i64 b.x5,.int .i64 b.x6,.int .i64 b.x7,.bool b.ch,.bool b.od],.int .i64 s.r.k,.slice bf s.r.fs.length cf] (by go_simp) ((HZ.out w1 hb).mono ?_);rintro r w2 ⟨rfl,hb2⟩;exact ⟨_,rfl,hb2,rfl⟩
    ·refine Each.fine rfl (fun ev w1 hR hb hh=>?_);have e25:(ev (.tmp 25)=.tuple #[.agg #[.int .i64 2,.int .i64 0],.int .i64 0]):=hh.at 0;clear hh;refine Each.Goes.same ?_;go_simp;try with_reducible rfl
    ·refine Each.fine rfl (fun ev w1 hR hb hh=>?_);have e5:(ev (.tmp 5)=.tuple #[.agg #[.int .i64 2,.int .i64 0],.int .i64 0]):=hh.at 0;clear hh;refine Each.Goes.same ?_;go_simp;try with_reducible rfl
    ·refine Each.fine rfl (fun ev w1 hR hb hh=>?_);have e5:(ev (.tmp 5)=.tuple #[.agg #[.int .i64 2,.int .i64 0],.int .i64 0]):=hh.at 0;clear hh;refine Each.Goes.same ?_;go_simp;try with_reducible rfl
    ·refine Each.fine rfl (fun ev w1 hR hb hh=>?_);clear hh;exact Each.Goes.value (ptr w1.heap.size) (w1.alloc (.cells #[.int .i64 0,.int .i64 0] 217)) (by go_simp) ((Below.refl _ _).alloc (Nat.le_refl _) _) ⟨_,rfl,hb.size,Rec.Bk.new w1 _ rfl 217 [.int .i64 0,.int .i64 0]⟩
   ·intro g1 w2 hb hf;have z5:(g1 5=.tuple #[.agg #[.int .i64 2,.int .i64 0],.int .i64 0]):=hf.at 20;have z26:(g1 26=.agg #[.int .i64 2,.int .i64 0]):=hf.at 21;have z27:(g1 27=.int .i64 0):=hf.at 22;have z3:((fun v u=>∃g2,v=ptr g2∧w.heap.size≤g2∧Rec.Bk u g2 [.int .i64 0,.int .i64 0]) (g1 3) w2):=hf.at 23;clear hf;obtain ⟨g2,e2,hg2,hB2⟩:=z3;simp only [Each.putg,Act.put,List.setIfInBounds_toArray,List.set_cons_zero,List.set_cons_succ];rw [z5,z26,z27,e2];simp only [Tree.grow,Tree.put1,List.getElem?_cons_zero,List.getElem?_cons_succ]
    have y0:=hB2.c 0 _ rfl;have y1:=hB2.c 1 _ rfl;have x0:=hB2.z 0 (by simp);have x1:=hB2.z 1 (by simp)
    refine Tree.change (by rfl) (fun K hK=>?_);go_simp;refine hK _ _ trivial ?_;clear hK K y0 y1 x0 x1;refine Tree.assign _ (by rfl) (by rfl) ?_;simp only [Act.put,Act.eval,Array.getD_eq_getD_getElem?,List.getElem?_toArray,List.getElem?_cons_zero,List.getElem?_cons_succ,Option.getD_some,List.setIfInBounds_toArray,List.set_cons_zero,List.set_cons_succ];refine Tree.done ?_;go_wp2_with fail;go_meet
    case rel=>exact ⟨g2,rfl,rfl,Lib.hid ((hb.setCell hg2 _).setCell hg2 _),Lib.hid ((hB2.set 0 (.int .i64 2) (by simp)).set 1 (.int .i64 0) (by simp)),Lib.hid hg2⟩
   ·intro k0 hk0 g1 w2 hb hf;cases hk0;have z5:(g1 5=.tuple #[.agg #[.int .i64 2,.int .i64 0],.int .i64 0]):=hf.at 20;have z26:(g1 26=.agg #[.int .i64 2,.int .i64 0]):=hf.at 21;have z3:((fun v u=>∃g2,v=ptr g2∧w.heap.size≤g2∧Rec.Bk u g2 [.int .i64 0,.int .i64 0]) (g1 3) w2):=hf.at 23;clear hf;obtain ⟨g2,e2,hg2,hB2⟩:=z3;simp only [Each.putg,Act.put,List.setIfInBounds_toArray,List.set_cons_zero,List.set_cons_succ];rw [z5,z26,e2];simp only [Tree.grow,Tree.put1,List.getElem?_cons_zero,List.getElem?_cons_succ];refine Tree.quiet (by rfl) (.int .i64 0) (fun _ _=>by go_simp) ?_;simp only [Act.put,List.setIfInBounds_toArray,List.set_cons_zero,List.set_cons_succ]
    have y0:=hB2.c 0 _ rfl;have y1:=hB2.c 1 _ rfl;have x0:=hB2.z 0 (by simp);have x1:=hB2.z 1 (by simp)
    refine Tree.change (by rfl) (fun K hK=>?_);go_simp;refine hK _ _ trivial ?_;clear hK K y0 y1 x0 x1;refine Tree.assign _ (by rfl) (by rfl) ?_;simp only [Act.put,Act.eval,Array.getD_eq_getD_getElem?,List.getElem?_toArray,List.getElem?_cons_zero,List.getElem?_cons_succ,Option.getD_some,List.setIfInBounds_toArray,List.set_cons_zero,List.set_cons_succ];refine Tree.done ?_;go_wp2_with fail;go_meet
    case rel=>exact ⟨g2,rfl,rfl,Lib.hid ((hb.setCell hg2 _).setCell hg2 _),Lib.hid ((hB2.set 0 (.int .i64 2) (by simp)).set 1 (.int .i64 0) (by simp)),Lib.hid hg2⟩
  case rest=>
  obtain ⟨g2,rfl,rfl,HB,HG,HG2⟩:=hcut
  have H1:=Lib.hid (H.out.below HB.out);clear HQ;obtain ⟨W0,hW0⟩:∃x,x=wc:=⟨_,rfl⟩;subst hW0;have y0:=HG.out.c 0 _ rfl;have y1:=HG.out.c 1 _ rfl
  have H2:=Lib.hid ((H1.out.put 10 (.bool true) {s with r:={s.r with ch:=true}} rfl rfl rfl rfl rfl rfl).put 24 (.int .i64 4) {s with r:={s.r with ch:=true},st:=4} rfl rfl rfl rfl rfl rfl)
  have HS2:=Lib.hid ((Step.of_below HB.out (L:=blks g q v (.slice bf s.r.fs.length cf) bd t o)).trans ((Step.set g 10 (.bool true) (by simp)).trans (Step.set g 24 (.int .i64 4) (by simp))));have c10:=H1.out.cs.c10;have z10:=H1.out.marks 10;have c24:=H1.out.cs.c24;have z24:=H1.out.marks 24;go_wp2;go_ret;exact ⟨rfl,_,_,_,_,_,_,H2.out,HS2.out⟩
 ·have HZ:=Lib.hid (show∀w2,Below (w.drewN 1).heap.size (w.drewN 1) w2→Calls Tryz.prog 247 #[.int .u32 (p:Int),.agg #[.int .i64 b.x0,.int .i64 b.x1,.int .i64 b.x2,.int .i64 b.x3,.int .i64 b.x4,.int .i64 b.x5,.int .i64 b.x6,.int .i64 b.x7,.bool b.ch,.bool b.od],.int .i64 s.r.k,.slice bf s.r.fs.length cf] w2 fun r w'=>r=.returned (.tuple #[.agg #[.int .i64 1,.int .i64 (n:Int)],.int .i64 0])∧Below w2.heap.size w2 w' from fun w2 hb=>by have:=hz w2 hb;rw [hD] at this;exact this);rcases Nat.eq_zero_or_pos n with hn | hn
  ·subst hn
   have HZ:=Lib.hid (show∀w2,Below (w.drewN 1).heap.size (w.drewN 1) w2→Calls Tryz.prog 247 #[.int .u32 (p:Int),.agg #[.int .i64 b.x0,.int .i64 b.x1,.int .i64 b.x2,.int .i64 b.x3,.int .i64 b.x4,.int .i64 b.x5,.int .i64 b.x6,.int .i64 b.x7,.bool b.ch,.bool b.od],.int .i64 s.r.k,.slice bf s.r.fs.length cf] w2 fun e w'=>e=.returned (.tuple #[.agg #[.int .i64 1,.int .i64 0],.int .i64 0])∧Below w2.heap.size w2 w' from fun w2 hb=>HZ.out w2 hb);have e:s.endHead p b=(0,s.fin):=by unfold T.endHead;rw [hD];rfl
   rw [e];clear hz hD e hvd hle;go_enter Tryz.func228,Tryz.ntmps228;go_upto_region 1 with fail
   go_cut [3,4] from 5 to 27 (fun u c wx=>∃g2,u=ptr g2∧c=.int .i64 0∧Hid (Below w.heap.size w wx)∧Hid (Rec.Bk wx g2 [.int .i64 1,.int .i64 0])∧Hid (w.heap.size≤g2))
   case first=>
    refine Each.region_float 24 [6,7,8,9,10,11,12,13,14,15,16,17,18,19,20,21,22,23,24,25,5,26,27,3]
     [fun v _=>v=.pointer (some ⟨g,0,none⟩),
       fun v _=>v=.pointer (some ⟨g,0,none⟩),
       fun v _=>v=.pointer (some ⟨g,13,none⟩),
       fun v _=>v=.int .u32 (p:Int),
       fun v _=>v=.pointer (some ⟨g,0,none⟩),
       fun v _=>v=.pointer (some ⟨g,0,none⟩),
       fun v _=>v=.pointer (some ⟨g,14,none⟩),
       fun v _=>v=.agg #[.int .i64 b.x0,.int .i64 b.x1,.int .i64 b.x2,.int .i64 b.x3,.int .i64 b.x4,.int .i64 b.x5,.int .i64 b.x6,.int .i64 b.x7,.bool b.ch,.bool b.od],
       fun v _=>v=.pointer (some ⟨g,0,none⟩),
       fun v _=>v=.pointer (some ⟨g,0,none⟩),
       fun v _=>v=.pointer (some ⟨g,1,none⟩),
       fun v _=>v=.pointer (some ⟨g,5,none⟩),
       fun v _=>v=.int .i64 s.r.k,
       fun v _=>v=.pointer (some ⟨g,0,none⟩),
       fun v _=>v=.pointer (some ⟨g,0,none⟩),
       fun v _=>v=.pointer (some ⟨g,1,none⟩),
       fun v _=>v=.pointer (some ⟨g,1,none⟩),
       fun v _=>v=.pointer (some ⟨g,2,none⟩),
       fun v _=>v=.slice bf s.r.fs.length cf,
       fun v _=>v=.tuple #[.agg #[.int .i64 1,.int .i64 0],.int .i64 0],
       fun v _=>v=.tuple #[.agg #[.int .i64 1,.int .i64 0],.int .i64 0],
       fun v _=>v=.agg #[.int .i64 1,.int .i64 0],
       fun v _=>v=.int .i64 0,
       fun v u=>∃g2,v=ptr g2∧w.heap.size≤g2∧Rec.Bk u g2 [.int .i64 0,.int .i64 0]]
     [] 2 (some 22) (.act 24 (.quiet 25 .done)) (.quiet 22 (.act 24 (.quiet 25 .done))) (by kernel_rfl) (by kernel_rfl) (by kernel_rfl) (by kernel_rfl) (fun k0 h=>by cases h;kernel_rfl) (fun _ _ d _ _ h=>by cases d<;>exact h) (by rfl) (by rfl)
     ⟨Each.Lasts.eq _,Each.Lasts.eq _,Each.Lasts.eq _,Each.Lasts.eq _,Each.Lasts.eq _,Each.Lasts.eq _,Each.Lasts.eq _,Each.Lasts.eq _,Each.Lasts.eq _,Each.Lasts.eq _,Each.Lasts.eq _,Each.Lasts.eq _,Each.Lasts.eq _,Each.Lasts.eq _,Each.Lasts.eq _,Each.Lasts.eq _,Each.Lasts.eq _,Each.Lasts.eq _,Each.Lasts.eq _,Each.Lasts.eq _,Each.Lasts.eq _,Each.Lasts.eq _,Each.Lasts.eq _,((fun _ _ _ hb h=>by obtain ⟨g2,e1,h1,hB⟩:=h;exact ⟨g2,e1,h1,hB.below hb⟩)),trivial⟩ trivial (by rfl) ?_ ?_ ?_
    ·refine ⟨?_,?_,?_,?_,?_,?_,?_,?_,?_,?_,?_,?_,?_,?_,?_,?_,?_,?_,?_,?_,?_,?_,?_,?_,trivial⟩
     ·refine Each.fine rfl (fun ev w1 hR hb hh=>?_);clear hh;have e0:=hR.old 0 rfl;simp only [Array.getD_eq_getD_getElem?,List.getElem?_toArray,List.getElem?_cons_zero,Option.getD_some] at e0;refine Each.Goes.same ?_;go_simp;try with_reducible rfl
     ·refine Each.fine rfl (fun ev w1 hR hb hh=>?_);have e6:(ev (.tmp 6)=.pointer (some ⟨g,0,none⟩)):=hh.at 0;clear hh;refine Each.Goes.same ?_;go_simp;try with_reducible rfl
     ·refine Each.fine rfl (fun ev w1 hR hb hh=>?_);have e7:(ev (.tmp 7)=.pointer (some ⟨g,0,none⟩)):=hh.at 0;clear hh;refine Each.Goes.same ?_;go_simp;try with_reducible rfl
     ·refine Each.fine rfl (fun ev w1 hR hb hh=>?_);have e8:(ev (.tmp 8)=.pointer (some ⟨g,13,none⟩)):=hh.at 0;clear hh;have q13:=(HQ.out.below hb).c 13 _ rfl;refine Each.Goes.same ?_;go_simp;try with_reducible rfl
     ·refine Each.fine rfl (fun ev w1 hR hb hh=>?_);clear hh;have e0:=hR.old 0 rfl;simp only [Array.getD_eq_getD_getElem?,List.getElem?_toArray,List.getElem?_cons_zero,Option.getD_some] at e0;refine Each.Goes.same ?_;go_simp;try with_reducible rfl
     ·refine Each.fine rfl (fun ev w1 hR hb hh=>?_);have e10:(ev (.tmp 10)=.pointer (some ⟨g,0,none⟩)):=hh.at 0;clear hh;refine Each.Goes.same ?_;go_simp;try with_reducible rfl
     ·refine Each.fine rfl (fun ev w1 hR hb hh=>?_);have e11:(ev (.tmp 11)=.pointer (some ⟨g,0,none⟩)):=hh.at 0;clear hh;refine Each.Goes.same ?_;go_simp;try with_reducible rfl
     ·refine Each.fine rfl (fun ev w1 hR hb hh=>?_);have e12:(ev (.tmp 12)=.pointer (some ⟨g,14,none⟩)):=hh.at 0;clear hh;have q14:=(HQ.out.below hb).c 14 _ rfl;have q15:=(HQ.out.below hb).c 15 _ rfl;have q16:=(HQ.out.below hb).c 16 _ rfl;have q17:=(HQ.out.below hb).c 17 _ rfl;have q18:=(HQ.out.below hb).c 18 _ rfl;have q19:=(HQ.out.below hb).c 19 _ rfl;have q20:=(HQ.out.below hb).c 20 _ rfl;have q21:=(HQ.out.below hb).c 21 _ rfl;have q22:=(HQ.out.below hb).c 22 _ rfl;have q23:=(HQ.out.below hb).c 23 _ rfl;refine Each.Goes.same ?_;go_simp;try with_reducible rfl
     ·refine Each.fine rfl (fun ev w1 hR hb hh=>?_);clear hh;have e0:=hR.old 0 rfl;simp only [Array.getD_eq_getD_getElem?,List.getElem?_toArray,List.getElem?_cons_zero,Option.getD_some] at e0;refine Each.Goes.same ?_;go_simp;try with_reducible rfl
     ·refine Each.fine rfl (fun ev w1 hR hb hh=>?_);have e14:(ev (.tmp 14)=.pointer (some ⟨g,0,none⟩)):=hh.at 0;clear hh;refine Each.Goes.same ?_;go_simp;try with_reducible rfl
     ·refine Each.fine rfl (fun ev w1 hR hb hh=>?_);have e15:(ev (.tmp 15)=.pointer (some ⟨g,0,none⟩)):=hh.at 0;clear hh;refine Each.Goes.same ?_;go_simp;try with_reducible rfl
     ·refine Each.fine rfl (fun ev w1 hR hb hh=>?_);have e16:(ev (.tmp 16)=.pointer (some ⟨g,1,none⟩)):=hh.at 0;clear hh;refine Each.Goes.same ?_;go_simp;try with_reducible rfl
     ·refine Each.fine rfl (fun ev w1 hR hb hh=>?_);have e17:(ev (.tmp 17)=.pointer (some ⟨g,5,none⟩)):=hh.at 0;clear hh;have q5:=(HQ.out.below hb).c 5 _ rfl;refine Each.Goes.same ?_;go_simp;try with_reducible rfl
     ·refine Each.fine rfl (fun ev w1 hR hb hh=>?_);clear hh;have e0:=hR.old 0 rfl;simp only [Array.getD_eq_getD_getElem?,List.getElem?_toArray,List.getElem?_cons_zero,Option.getD_some] at e0;refine Each.Goes.same ?_;go_simp;try with_reducible rfl
     ·refine Each.fine rfl (fun ev w1 hR hb hh=>?_);have e19:(ev (.tmp 19)=.pointer (some ⟨g,0,none⟩)):=hh.at 0;clear hh;refine Each.Goes.same ?_;go_simp;try with_reducible rfl
     ·refine Each.fine rfl (fun ev w1 hR hb hh=>?_);have e20:(ev (.tmp 20)=.pointer (some ⟨g,0,none⟩)):=hh.at 0;clear hh;refine Each.Goes.same ?_;go_simp;try with_reducible rfl
     ·refine Each.fine rfl (fun ev w1 hR hb hh=>?_);have e21:(ev (.tmp 21)=.pointer (some ⟨g,1,none⟩)):=hh.at 0;clear hh;refine Each.Goes.same ?_;go_simp;try with_reducible rfl
     ·refine Each.fine rfl (fun ev w1 hR hb hh=>?_);have e22:(ev (.tmp 22)=.pointer (some ⟨g,1,none⟩)):=hh.at 0;clear hh;refine Each.Goes.same ?_;go_simp;try with_reducible rfl
     ·refine Each.fine rfl (fun ev w1 hR hb hh=>?_);have e23:(ev (.tmp 23)=.pointer (some ⟨g,2,none⟩)):=hh.at 0;clear hh;have q2:=(HQ.out.below hb).c 2 _ rfl;refine Each.Goes.same ?_;go_simp;try with_reducible rfl
     ·refine Each.fine rfl (fun ev w1 hR hb hh=>?_);have e9:(ev (.tmp 9)=.int .u32 (p:Int)):=hh.at 0;have e13:(ev (.tmp 13)=.agg #[.int .i64 b.x0,.int .i64 b.x1,.int .i64 b.x2,.int .i64 b.x3,.int .i64 b.x4,.int .i64 b.x5,.int .i64 b.x6,.int .i64 b.x7,.bool b.ch,.bool b.od]):=hh.at 1;have e18:(ev (.tmp 18)=.int .i64 s.r.k):=hh.at 2;have e24:(ev (.tmp 24)=.slice bf s.r.fs.length cf):=hh.at 3;clear hh;have ef:=hR.func
      refine Each.Goes.enter 247 #[.int .u32 (p:Int),.agg #[.int .i64 b.x0,.int .i64 b.x1,.int .i64 b.x2,.int .i64 b.x3,.int .i64 b.x4,.int .i64 b.x5,.int .i64 b.x6,.int .i64 b.x7,.bool b.ch,.bool b.od],.int .i64 s.r.k,.slice bf s.r.fs.length cf] (by go_simp) ((HZ.out w1 hb).mono ?_);rintro r w2 ⟨rfl,hb2⟩;exact ⟨_,rfl,hb2,rfl⟩
     ·refine Each.fine rfl (fun ev w1 hR hb hh=>?_);have e25:(ev (.tmp 25)=.tuple #[.agg #[.int .i64 1,.int .i64 0],.int .i64 0]):=hh.at 0;clear hh;refine Each.Goes.same ?_;go_simp;try with_reducible rfl
     ·refine Each.fine rfl (fun ev w1 hR hb hh=>?_);have e5:(ev (.tmp 5)=.tuple #[.agg #[.int .i64 1,.int .i64 0],.int .i64 0]):=hh.at 0;clear hh;refine Each.Goes.same ?_;go_simp;try with_reducible rfl
     ·refine Each.fine rfl (fun ev w1 hR hb hh=>?_);have e5:(ev (.tmp 5)=.tuple #[.agg #[.int .i64 1,.int .i64 0],.int .i64 0]):=hh.at 0;clear hh;refine Each.Goes.same ?_;go_simp;try with_reducible rfl
     ·refine Each.fine rfl (fun ev w1 hR hb hh=>?_);clear hh;exact Each.Goes.value (ptr w1.heap.size) (w1.alloc (.cells #[.int .i64 0,.int .i64 0] 217)) (by go_simp) ((Below.refl _ _).alloc (Nat.le_refl _) _) ⟨_,rfl,hb.size,Rec.Bk.new w1 _ rfl 217 [.int .i64 0,.int .i64 0]⟩
    ·intro g1 w2 hb hf;have z5:(g1 5=.tuple #[.agg #[.int .i64 1,.int .i64 0],.int .i64 0]):=hf.at 20;have z26:(g1 26=.agg #[.int .i64 1,.int .i64 0]):=hf.at 21;have z27:(g1 27=.int .i64 0):=hf.at 22;have z3:((fun v u=>∃g2,v=ptr g2∧w.heap.size≤g2∧Rec.Bk u g2 [.int .i64 0,.int .i64 0]) (g1 3) w2):=hf.at 23;clear hf;obtain ⟨g2,e2,hg2,hB2⟩:=z3;simp only [Each.putg,Act.put,List.setIfInBounds_toArray,List.set_cons_zero,List.set_cons_succ];rw [z5,z26,z27,e2];simp only [Tree.grow,Tree.put1,List.getElem?_cons_zero,List.getElem?_cons_succ]
     have y0:=hB2.c 0 _ rfl;have y1:=hB2.c 1 _ rfl;have x0:=hB2.z 0 (by simp);have x1:=hB2.z 1 (by simp)
     refine Tree.change (by rfl) (fun K hK=>?_);go_simp;refine hK _ _ trivial ?_;clear hK K y0 y1 x0 x1;refine Tree.assign _ (by rfl) (by rfl) ?_;simp only [Act.put,Act.eval,Array.getD_eq_getD_getElem?,List.getElem?_toArray,List.getElem?_cons_zero,List.getElem?_cons_succ,Option.getD_some,List.setIfInBounds_toArray,List.set_cons_zero,List.set_cons_succ];refine Tree.done ?_;go_wp2_with fail;go_meet
     case rel=>exact ⟨g2,rfl,rfl,Lib.hid ((hb.setCell hg2 _).setCell hg2 _),Lib.hid ((hB2.set 0 (.int .i64 1) (by simp)).set 1 (.int .i64 0) (by simp)),Lib.hid hg2⟩
    ·intro k0 hk0 g1 w2 hb hf;cases hk0;have z5:(g1 5=.tuple #[.agg #[.int .i64 1,.int .i64 0],.int .i64 0]):=hf.at 20;have z26:(g1 26=.agg #[.int .i64 1,.int .i64 0]):=hf.at 21;have z3:((fun v u=>∃g2,v=ptr g2∧w.heap.size≤g2∧Rec.Bk u g2 [.int .i64 0,.int .i64 0]) (g1 3) w2):=hf.at 23;clear hf;obtain ⟨g2,e2,hg2,hB2⟩:=z3;simp only [Each.putg,Act.put,List.setIfInBounds_toArray,List.set_cons_zero,List.set_cons_succ];rw [z5,z26,e2];simp only [Tree.grow,Tree.put1,List.getElem?_cons_zero,List.getElem?_cons_succ];refine Tree.quiet (by rfl) (.int .i64 0) (fun _ _=>by go_simp) ?_;simp only [Act.put,List.setIfInBounds_toArray,List.set_cons_zero,List.set_cons_succ]
     have y0:=hB2.c 0 _ rfl;have y1:=hB2.c 1 _ rfl;have x0:=hB2.z 0 (by simp);have x1:=hB2.z 1 (by simp)
     refine Tree.change (by rfl) (fun K hK=>?_);go_simp;refine hK _ _ trivial ?_;clear hK K y0 y1 x0 x1;refine Tree.assign _ (by rfl) (by rfl) ?_;simp only [Act.put,Act.eval,Array.getD_eq_getD_getElem?,List.getElem?_toArray,List.getElem?_cons_zero,List.getElem?_cons_succ,Option.getD_some,List.setIfInBounds_toArray,List.set_cons_zero,List.set_cons_succ];refine Tree.done ?_;go_wp2_with fail;go_meet
     case rel=>exact ⟨g2,rfl,rfl,Lib.hid ((hb.setCell hg2 _).setCell hg2 _),Lib.hid ((hB2.set 0 (.int .i64 1) (by simp)).set 1 (.int .i64 0) (by simp)),Lib.hid hg2⟩
   case rest=>
   obtain ⟨g2,rfl,rfl,HB,HG,HG2⟩:=hcut
   have H1:=Lib.hid (H.out.below HB.out);clear HQ;obtain ⟨W0,hW0⟩:∃x,x=wc:=⟨_,rfl⟩;subst hW0;have y0:=HG.out.c 0 _ rfl;have y1:=HG.out.c 1 _ rfl
   have HW:=Lib.hid (finish_any H1.out HO.out)
   go_wp2_with (go_at_call 183;with_reducible refine HW.out.mono ?_;rintro r w3 ⟨rfl,o1,hP,hS⟩);go_ret;exact ⟨rfl,_,_,_,_,_,_,hP,(Step.of_below HB.out).trans hS⟩
  ·have tz:¬(n:Int)=0:=by omega
   have tz':((n:Int)==0)=false:=beq_eq_false_iff_ne.2 tz;have e:s.endHead p b=(0,{s with st:=3,left:=n}):=by unfold T.endHead;rw [hD];show (if (0:Int)≠0 then _ else if (1:Int)=2 then _ else if (n:Int)=0 then _ else (0,({s with left:=(n:Int).toNat,st:=3}:T)))= _;rw [if_neg (by decide),if_neg (by decide),if_neg tz,Int.toNat_natCast]
   rw [e];clear hz hD e hvd hle hn;go_enter Tryz.func228,Tryz.ntmps228;go_upto_region 1 with fail
   go_cut [3,4] from 5 to 27 (fun u c wx=>∃g2,u=ptr g2∧c=.int .i64 0∧Hid (Below w.heap.size w wx)∧Hid (Rec.Bk wx g2 [.int .i64 1,.int .i64 (n:Int)])∧Hid (w.heap.size≤g2))
   case first=>
    refine Each.region_float 24 [6,7,8,9,10,11,12,13,14,15,16,17,18,19,20,21,22,23,24,25,5,26,27,3]
     [fun v _=>v=.pointer (some ⟨g,0,none⟩),
       fun v _=>v=.pointer (some ⟨g,0,none⟩),
       fun v _=>v=.pointer (some ⟨g,13,none⟩),
       fun v _=>v=.int .u32 (p:Int),
       fun v _=>v=.pointer (some ⟨g,0,none⟩),
       fun v _=>v=.pointer (some ⟨g,0,none⟩),
       fun v _=>v=.pointer (some ⟨g,14,none⟩),
       fun v _=>v=.agg #[.int .i64 b.x0,.int .i64 b.x1,.int .i64 b.x2,.int .i64 b.x3,.int .i64 b.x4,.int .i64 b.x5,.int .i64 b.x6,.int .i64 b.x7,.bool b.ch,.bool b.od],
       fun v _=>v=.pointer (some ⟨g,0,none⟩),
       fun v _=>v=.pointer (some ⟨g,0,none⟩),
       fun v _=>v=.pointer (some ⟨g,1,none⟩),
       fun v _=>v=.pointer (some ⟨g,5,none⟩),
       fun v _=>v=.int .i64 s.r.k,
       fun v _=>v=.pointer (some ⟨g,0,none⟩),
       fun v _=>v=.pointer (some ⟨g,0,none⟩),
       fun v _=>v=.pointer (some ⟨g,1,none⟩),
       fun v _=>v=.pointer (some ⟨g,1,none⟩),
       fun v _=>v=.pointer (some ⟨g,2,none⟩),
       fun v _=>v=.slice bf s.r.fs.length cf,
       fun v _=>v=.tuple #[.agg #[.int .i64 1,.int .i64 (n:Int)],.int .i64 0],
       fun v _=>v=.tuple #[.agg #[.int .i64 1,.int .i64 (n:Int)],.int .i64 0],
       fun v _=>v=.agg #[.int .i64 1,.int .i64 (n:Int)],
       fun v _=>v=.int .i64 0,
       fun v u=>∃g2,v=ptr g2∧w.heap.size≤g2∧Rec.Bk u g2 [.int .i64 0,.int .i64 0]]
     [] 2 (some 22) (.act 24 (.quiet 25 .done)) (.quiet 22 (.act 24 (.quiet 25 .done))) (by kernel_rfl) (by kernel_rfl) (by kernel_rfl) (by kernel_rfl) (fun k0 h=>by cases h;kernel_rfl) (fun _ _ d _ _ h=>by cases d<;>exact h) (by rfl) (by rfl)
     ⟨Each.Lasts.eq _,Each.Lasts.eq _,Each.Lasts.eq _,Each.Lasts.eq _,Each.Lasts.eq _,Each.Lasts.eq _,Each.Lasts.eq _,Each.Lasts.eq _,Each.Lasts.eq _,Each.Lasts.eq _,Each.Lasts.eq _,Each.Lasts.eq _,Each.Lasts.eq _,Each.Lasts.eq _,Each.Lasts.eq _,Each.Lasts.eq _,Each.Lasts.eq _,Each.Lasts.eq _,Each.Lasts.eq _,Each.Lasts.eq _,Each.Lasts.eq _,Each.Lasts.eq _,Each.Lasts.eq _,((fun _ _ _ hb h=>by obtain ⟨g2,e1,h1,hB⟩:=h;exact ⟨g2,e1,h1,hB.below hb⟩)),trivial⟩ trivial (by rfl) ?_ ?_ ?_
    ·refine ⟨?_,?_,?_,?_,?_,?_,?_,?_,?_,?_,?_,?_,?_,?_,?_,?_,?_,?_,?_,?_,?_,?_,?_,?_,trivial⟩
     ·refine Each.fine rfl (fun ev w1 hR hb hh=>?_);clear hh;have e0:=hR.old 0 rfl;simp only [Array.getD_eq_getD_getElem?,List.getElem?_toArray,List.getElem?_cons_zero,Option.getD_some] at e0;refine Each.Goes.same ?_;go_simp;try with_reducible rfl
     ·refine Each.fine rfl (fun ev w1 hR hb hh=>?_);have e6:(ev (.tmp 6)=.pointer (some ⟨g,0,none⟩)):=hh.at 0;clear hh;refine Each.Goes.same ?_;go_simp;try with_reducible rfl
     ·refine Each.fine rfl (fun ev w1 hR hb hh=>?_);have e7:(ev (.tmp 7)=.pointer (some ⟨g,0,none⟩)):=hh.at 0;clear hh;refine Each.Goes.same ?_;go_simp;try with_reducible rfl
     ·refine Each.fine rfl (fun ev w1 hR hb hh=>?_);have e8:(ev (.tmp 8)=.pointer (some ⟨g,13,none⟩)):=hh.at 0;clear hh;have q13:=(HQ.out.below hb).c 13 _ rfl;refine Each.Goes.same ?_;go_simp;try with_reducible rfl
     ·refine Each.fine rfl (fun ev w1 hR hb hh=>?_);clear hh;have e0:=hR.old 0 rfl;simp only [Array.getD_eq_getD_getElem?,List.getElem?_toArray,List.getElem?_cons_zero,Option.getD_some] at e0;refine Each.Goes.same ?_;go_simp;try with_reducible rfl
     ·refine Each.fine rfl (fun ev w1 hR hb hh=>?_);have e10:(ev (.tmp 10)=.pointer (some ⟨g,0,none⟩)):=hh.at 0;clear hh;refine Each.Goes.same ?_;go_simp;try with_reducible rfl
     ·refine Each.fine rfl (fun ev w1 hR hb hh=>?_);have e11:(ev (.tmp 11)=.pointer (some ⟨g,0,none⟩)):=hh.at 0;clear hh;refine Each.Goes.same ?_;go_simp;try with_reducible rfl
     ·refine Each.fine rfl (fun ev w1 hR hb hh=>?_);have e12:(ev (.tmp 12)=.pointer (some ⟨g,14,none⟩)):=hh.at 0;clear hh;have q14:=(HQ.out.below hb).c 14 _ rfl;have q15:=(HQ.out.below hb).c 15 _ rfl;have q16:=(HQ.out.below hb).c 16 _ rfl;have q17:=(HQ.out.below hb).c 17 _ rfl;have q18:=(HQ.out.below hb).c 18 _ rfl;have q19:=(HQ.out.below hb).c 19 _ rfl;have q20:=(HQ.out.below hb).c 20 _ rfl;have q21:=(HQ.out.below hb).c 21 _ rfl;have q22:=(HQ.out.below hb).c 22 _ rfl;have q23:=(HQ.out.below hb).c 23 _ rfl;refine Each.Goes.same ?_;go_simp;try with_reducible rfl
     ·refine Each.fine rfl (fun ev w1 hR hb hh=>?_);clear hh;have e0:=hR.old 0 rfl;simp only [Array.getD_eq_getD_getElem?,List.getElem?_toArray,List.getElem?_cons_zero,Option.getD_some] at e0;refine Each.Goes.same ?_;go_simp;try with_reducible rfl
     ·refine Each.fine rfl (fun ev w1 hR hb hh=>?_);have e14:(ev (.tmp 14)=.pointer (some ⟨g,0,none⟩)):=hh.at 0;clear hh;refine Each.Goes.same ?_;go_simp;try with_reducible rfl
     ·refine Each.fine rfl (fun ev w1 hR hb hh=>?_);have e15:(ev (.tmp 15)=.pointer (some ⟨g,0,none⟩)):=hh.at 0;clear hh;refine Each.Goes.same ?_;go_simp;try with_reducible rfl
     ·refine Each.fine rfl (fun ev w1 hR hb hh=>?_);have e16:(ev (.tmp 16)=.pointer (some ⟨g,1,none⟩)):=hh.at 0;clear hh;refine Each.Goes.same ?_;go_simp;try with_reducible rfl
     ·refine Each.fine rfl (fun ev w1 hR hb hh=>?_);have e17:(ev (.tmp 17)=.pointer (some ⟨g,5,none⟩)):=hh.at 0;clear hh;have q5:=(HQ.out.below hb).c 5 _ rfl;refine Each.Goes.same ?_;go_simp;try with_reducible rfl
     ·refine Each.fine rfl (fun ev w1 hR hb hh=>?_);clear hh;have e0:=hR.old 0 rfl;simp only [Array.getD_eq_getD_getElem?,List.getElem?_toArray,List.getElem?_cons_zero,Option.getD_some] at e0;refine Each.Goes.same ?_;go_simp;try with_reducible rfl
     ·refine Each.fine rfl (fun ev w1 hR hb hh=>?_);have e19:(ev (.tmp 19)=.pointer (some ⟨g,0,none⟩)):=hh.at 0;clear hh;refine Each.Goes.same ?_;go_simp;try with_reducible rfl
     ·refine Each.fine rfl (fun ev w1 hR hb hh=>?_);have e20:(ev (.tmp 20)=.pointer (some ⟨g,0,none⟩)):=hh.at 0;clear hh;refine Each.Goes.same ?_;go_simp;try with_reducible rfl
     ·refine Each.fine rfl (fun ev w1 hR hb hh=>?_);have e21:(ev (.tmp 21)=.pointer (some ⟨g,1,none⟩)):=hh.at 0;clear hh;refine Each.Goes.same ?_;go_simp;try with_reducible rfl
     ·refine Each.fine rfl (fun ev w1 hR hb hh=>?_);have e22:(ev (.tmp 22)=.pointer (some ⟨g,1,none⟩)):=hh.at 0;clear hh;refine Each.Goes.same ?_;go_simp;try with_reducible rfl
     ·refine Each.fine rfl (fun ev w1 hR hb hh=>?_);have e23:(ev (.tmp 23)=.pointer (some ⟨g,2,none⟩)):=hh.at 0;clear hh;have q2:=(HQ.out.below hb).c 2 _ rfl;refine Each.Goes.same ?_;go_simp;try with_reducible rfl
     ·refine Each.fine rfl (fun ev w1 hR hb hh=>?_);have e9:(ev (.tmp 9)=.int .u32 (p:Int)):=hh.at 0;have e13:(ev (.tmp 13)=.agg #[.int .i64 b.x0,.int .i64 b.x1,.int .i64 b.x2,.int .i64 b.x3,.int .i64 b.x4,.int .i64 b.x5,.int .i64 b.x6,.int .i64 b.x7,.bool b.ch,.bool b.od]):=hh.at 1;have e18:(ev (.tmp 18)=.int .i64 s.r.k):=hh.at 2;have e24:(ev (.tmp 24)=.slice bf s.r.fs.length cf):=hh.at 3;clear hh;have ef:=hR.func
      refine Each.Goes.enter 247 #[.int .u32 (p:Int),.agg #[.int .i64 b.x0,.int .i64 b.x1,.int .i64 b.x2,.int .i64 b.x3,.int .i64 b.x4,.int .i64 b.x5,.int .i64 b.x6,.int .i64 b.x7,.bool b.ch,.bool b.od],.int .i64 s.r.k,.slice bf s.r.fs.length cf] (by go_simp) ((HZ.out w1 hb).mono ?_);rintro r w2 ⟨rfl,hb2⟩;exact ⟨_,rfl,hb2,rfl⟩
     ·refine Each.fine rfl (fun ev w1 hR hb hh=>?_);have e25:(ev (.tmp 25)=.tuple #[.agg #[.int .i64 1,.int .i64 (n:Int)],.int .i64 0]):=hh.at 0;clear hh;refine Each.Goes.same ?_;go_simp;try with_reducible rfl
     ·refine Each.fine rfl (fun ev w1 hR hb hh=>?_);have e5:(ev (.tmp 5)=.tuple #[.agg #[.int .i64 1,.int .i64 (n:Int)],.int .i64 0]):=hh.at 0;clear hh;refine Each.Goes.same ?_;go_simp;try with_reducible rfl
     ·refine Each.fine rfl (fun ev w1 hR hb hh=>?_);have e5:(ev (.tmp 5)=.tuple #[.agg #[.int .i64 1,.int .i64 (n:Int)],.int .i64 0]):=hh.at 0;clear hh;refine Each.Goes.same ?_;go_simp;try with_reducible rfl
     ·refine Each.fine rfl (fun ev w1 hR hb hh=>?_);clear hh;exact Each.Goes.value (ptr w1.heap.size) (w1.alloc (.cells #[.int .i64 0,.int .i64 0] 217)) (by go_simp) ((Below.refl _ _).alloc (Nat.le_refl _) _) ⟨_,rfl,hb.size,Rec.Bk.new w1 _ rfl 217 [.int .i64 0,.int .i64 0]⟩
    ·intro g1 w2 hb hf;have z5:(g1 5=.tuple #[.agg #[.int .i64 1,.int .i64 (n:Int)],.int .i64 0]):=hf.at 20;have z26:(g1 26=.agg #[.int .i64 1,.int .i64 (n:Int)]):=hf.at 21;have z27:(g1 27=.int .i64 0):=hf.at 22;have z3:((fun v u=>∃g2,v=ptr g2∧w.heap.size≤g2∧Rec.Bk u g2 [.int .i64 0,.int .i64 0]) (g1 3) w2):=hf.at 23;clear hf;obtain ⟨g2,e2,hg2,hB2⟩:=z3;simp only [Each.putg,Act.put,List.setIfInBounds_toArray,List.set_cons_zero,List.set_cons_succ];rw [z5,z26,z27,e2];simp only [Tree.grow,Tree.put1,List.getElem?_cons_zero,List.getElem?_cons_succ]
     have y0:=hB2.c 0 _ rfl;have y1:=hB2.c 1 _ rfl;have x0:=hB2.z 0 (by simp);have x1:=hB2.z 1 (by simp)
     refine Tree.change (by rfl) (fun K hK=>?_);go_simp;refine hK _ _ trivial ?_;clear hK K y0 y1 x0 x1;refine Tree.assign _ (by rfl) (by rfl) ?_;simp only [Act.put,Act.eval,Array.getD_eq_getD_getElem?,List.getElem?_toArray,List.getElem?_cons_zero,List.getElem?_cons_succ,Option.getD_some,List.setIfInBounds_toArray,List.set_cons_zero,List.set_cons_succ];refine Tree.done ?_;go_wp2_with fail;go_meet
     case rel=>exact ⟨g2,rfl,rfl,Lib.hid ((hb.setCell hg2 _).setCell hg2 _),Lib.hid ((hB2.set 0 (.int .i64 1) (by simp)).set 1 (.int .i64 (n:Int)) (by simp)),Lib.hid hg2⟩
    ·intro k0 hk0 g1 w2 hb hf;cases hk0;have z5:(g1 5=.tuple #[.agg #[.int .i64 1,.int .i64 (n:Int)],.int .i64 0]):=hf.at 20;have z26:(g1 26=.agg #[.int .i64 1,.int .i64 (n:Int)]):=hf.at 21;have z3:((fun v u=>∃g2,v=ptr g2∧w.heap.size≤g2∧Rec.Bk u g2 [.int .i64 0,.int .i64 0]) (g1 3) w2):=hf.at 23;clear hf;obtain ⟨g2,e2,hg2,hB2⟩:=z3;simp only [Each.putg,Act.put,List.setIfInBounds_toArray,List.set_cons_zero,List.set_cons_succ];rw [z5,z26,e2];simp only [Tree.grow,Tree.put1,List.getElem?_cons_zero,List.getElem?_cons_succ];refine Tree.quiet (by rfl) (.int .i64 0) (fun _ _=>by go_simp) ?_;simp only [Act.put,List.setIfInBounds_toArray,List.set_cons_zero,List.set_cons_succ]
     have y0:=hB2.c 0 _ rfl;have y1:=hB2.c 1 _ rfl;have x0:=hB2.z 0 (by simp);have x1:=hB2.z 1 (by simp)
     refine Tree.change (by rfl) (fun K hK=>?_);go_simp;refine hK _ _ trivial ?_;clear hK K y0 y1 x0 x1;refine Tree.assign _ (by rfl) (by rfl) ?_;simp only [Act.put,Act.eval,Array.getD_eq_getD_getElem?,List.getElem?_toArray,List.getElem?_cons_zero,List.getElem?_cons_succ,Option.getD_some,List.setIfInBounds_toArray,List.set_cons_zero,List.set_cons_succ];refine Tree.done ?_;go_wp2_with fail;go_meet
     case rel=>exact ⟨g2,rfl,rfl,Lib.hid ((hb.setCell hg2 _).setCell hg2 _),Lib.hid ((hB2.set 0 (.int .i64 1) (by simp)).set 1 (.int .i64 (n:Int)) (by simp)),Lib.hid hg2⟩
   case rest=>
   obtain ⟨g2,rfl,rfl,HB,HG,HG2⟩:=hcut
   have H1:=Lib.hid (H.out.below HB.out);clear HQ;obtain ⟨W0,hW0⟩:∃x,x=wc:=⟨_,rfl⟩;subst hW0;have y0:=HG.out.c 0 _ rfl;have y1:=HG.out.c 1 _ rfl
   have H2:=Lib.hid ((H1.out.put 12 (.int .i64 (n:Int)) {s with left:=n} rfl rfl rfl rfl rfl rfl).put 24 (.int .i64 3) {s with left:=n,st:=3} rfl rfl rfl rfl rfl rfl)
   have HS2:=Lib.hid ((Step.of_below HB.out (L:=blks g q v (.slice bf s.r.fs.length cf) bd t o)).trans ((Step.set g 12 (.int .i64 (n:Int)) (by simp)).trans (Step.set g 24 (.int .i64 3) (by simp))));have c12:=H1.out.cs.c12;have z12:=H1.out.marks 12;have c24:=H1.out.cs.c24;have z24:=H1.out.marks 24;go_wp2;go_ret;exact ⟨rfl,_,_,_,_,_,_,H2.out,HS2.out⟩
 ·have HZ:=Lib.hid (show∀w2,Below (w.drewN 1).heap.size (w.drewN 1) w2→Calls Tryz.prog 247 #[.int .u32 (p:Int),.agg #[.int .i64 b.x0,.int .i64 b.x1,.int .i64 b.x2,.int .i64 b.x3,.int .i64 b.x4,.int .i64 b.x5,.int .i64 b.x6,.int .i64 b.x7,.bool b.ch,.bool b.od],.int .i64 s.r.k,.slice bf s.r.fs.length cf] w2 fun r w'=>r=.returned (.tuple #[.agg #[.int .i64 0,.int .i64 0],.int .i64 (e:Int)])∧Below w2.heap.size w2 w' from fun w2 hb=>by have:=hz w2 hb;rw [hD] at this;exact this);have tz:¬(e:Int)=0:=by omega
  have tz':((e:Int)==0)=false:=beq_eq_false_iff_ne.2 tz;have tz2:((e:Int) != 0)=true:=bne_iff_ne.2 tz;have e1:s.endHead p b=(e,s):=by unfold T.endHead;rw [hD];show (if (e:Int)≠0 then ((e:Int).toNat,s) else _)= _;rw [if_pos tz,Int.toNat_natCast]
  rw [e1];clear hz hD e1 hvd he;go_enter Tryz.func228,Tryz.ntmps228;go_upto_region 1 with fail
  go_cut [3,4] from 5 to 27 (fun u c wx=>∃g2,u=ptr g2∧c=.int .i64 (e:Int)∧Hid (Below w.heap.size w wx)∧Hid (Rec.Bk wx g2 [.int .i64 0,.int .i64 0])∧Hid (w.heap.size≤g2))
  case first=>
   refine Each.region_float 24 [6,7,8,9,10,11,12,13,14,15,16,17,18,19,20,21,22,23,24,25,5,26,27,3]
    [fun v _=>v=.pointer (some ⟨g,0,none⟩),
      fun v _=>v=.pointer (some ⟨g,0,none⟩),
      fun v _=>v=.pointer (some ⟨g,13,none⟩),
      fun v _=>v=.int .u32 (p:Int),
      fun v _=>v=.pointer (some ⟨g,0,none⟩),
      fun v _=>v=.pointer (some ⟨g,0,none⟩),
      fun v _=>v=.pointer (some ⟨g,14,none⟩),
      fun v _=>v=.agg #[.int .i64 b.x0,.int .i64 b.x1,.int .i64 b.x2,.int .i64 b.x3,.int .i64 b.x4,.int .i64 b.x5,.int .i64 b.x6,.int .i64 b.x7,.bool b.ch,.bool b.od],
      fun v _=>v=.pointer (some ⟨g,0,none⟩),
      fun v _=>v=.pointer (some ⟨g,0,none⟩),
      fun v _=>v=.pointer (some ⟨g,1,none⟩),
      fun v _=>v=.pointer (some ⟨g,5,none⟩),
      fun v _=>v=.int .i64 s.r.k,
      fun v _=>v=.pointer (some ⟨g,0,none⟩),
      fun v _=>v=.pointer (some ⟨g,0,none⟩),
      fun v _=>v=.pointer (some ⟨g,1,none⟩),
      fun v _=>v=.pointer (some ⟨g,1,none⟩),
      fun v _=>v=.pointer (some ⟨g,2,none⟩),
      fun v _=>v=.slice bf s.r.fs.length cf,
      fun v _=>v=.tuple #[.agg #[.int .i64 0,.int .i64 0],.int .i64 (e:Int)],
      fun v _=>v=.tuple #[.agg #[.int .i64 0,.int .i64 0],.int .i64 (e:Int)],
      fun v _=>v=.agg #[.int .i64 0,.int .i64 0],
      fun v _=>v=.int .i64 (e:Int),
      fun v u=>∃g2,v=ptr g2∧w.heap.size≤g2∧Rec.Bk u g2 [.int .i64 0,.int .i64 0]]
    [] 2 (some 22) (.act 24 (.quiet 25 .done)) (.quiet 22 (.act 24 (.quiet 25 .done))) (by kernel_rfl) (by kernel_rfl) (by kernel_rfl) (by kernel_rfl) (fun k0 h=>by cases h;kernel_rfl) (fun _ _ d _ _ h=>by cases d<;>exact h) (by rfl) (by rfl)
    ⟨Each.Lasts.eq _,Each.Lasts.eq _,Each.Lasts.eq _,Each.Lasts.eq _,Each.Lasts.eq _,Each.Lasts.eq _,Each.Lasts.eq _,Each.Lasts.eq _,Each.Lasts.eq _,Each.Lasts.eq _,Each.Lasts.eq _,Each.Lasts.eq _,Each.Lasts.eq _,Each.Lasts.eq _,Each.Lasts.eq _,Each.Lasts.eq _,Each.Lasts.eq _,Each.Lasts.eq _,Each.Lasts.eq _,Each.Lasts.eq _,Each.Lasts.eq _,Each.Lasts.eq _,Each.Lasts.eq _,((fun _ _ _ hb h=>by obtain ⟨g2,e1,h1,hB⟩:=h;exact ⟨g2,e1,h1,hB.below hb⟩)),trivial⟩ trivial (by rfl) ?_ ?_ ?_
   ·refine ⟨?_,?_,?_,?_,?_,?_,?_,?_,?_,?_,?_,?_,?_,?_,?_,?_,?_,?_,?_,?_,?_,?_,?_,?_,trivial⟩
    ·refine Each.fine rfl (fun ev w1 hR hb hh=>?_);clear hh;have e0:=hR.old 0 rfl;simp only [Array.getD_eq_getD_getElem?,List.getElem?_toArray,List.getElem?_cons_zero,Option.getD_some] at e0;refine Each.Goes.same ?_;go_simp;try with_reducible rfl
    ·refine Each.fine rfl (fun ev w1 hR hb hh=>?_);have e6:(ev (.tmp 6)=.pointer (some ⟨g,0,none⟩)):=hh.at 0;clear hh;refine Each.Goes.same ?_;go_simp;try with_reducible rfl
    ·refine Each.fine rfl (fun ev w1 hR hb hh=>?_);have e7:(ev (.tmp 7)=.pointer (some ⟨g,0,none⟩)):=hh.at 0;clear hh;refine Each.Goes.same ?_;go_simp;try with_reducible rfl
    ·refine Each.fine rfl (fun ev w1 hR hb hh=>?_);have e8:(ev (.tmp 8)=.pointer (some ⟨g,13,none⟩)):=hh.at 0;clear hh;have q13:=(HQ.out.below hb).c 13 _ rfl;refine Each.Goes.same ?_;go_simp;try with_reducible rfl
    ·refine Each.fine rfl (fun ev w1 hR hb hh=>?_);clear hh;have e0:=hR.old 0 rfl;simp only [Array.getD_eq_getD_getElem?,List.getElem?_toArray,List.getElem?_cons_zero,Option.getD_some] at e0;refine Each.Goes.same ?_;go_simp;try with_reducible rfl
    ·refine Each.fine rfl (fun ev w1 hR hb hh=>?_);have e10:(ev (.tmp 10)=.pointer (some ⟨g,0,none⟩)):=hh.at 0;clear hh;refine Each.Goes.same ?_;go_simp;try with_reducible rfl
    ·refine Each.fine rfl (fun ev w1 hR hb hh=>?_);have e11:(ev (.tmp 11)=.pointer (some ⟨g,0,none⟩)):=hh.at 0;clear hh;refine Each.Goes.same ?_;go_simp;try with_reducible rfl
    ·refine Each.fine rfl (fun ev w1 hR hb hh=>?_);have e12:(ev (.tmp 12)=.pointer (some ⟨g,14,none⟩)):=hh.at 0;clear hh;have q14:=(HQ.out.below hb).c 14 _ rfl;have q15:=(HQ.out.below hb).c 15 _ rfl;have q16:=(HQ.out.below hb).c 16 _ rfl;have q17:=(HQ.out.below hb).c 17 _ rfl;have q18:=(HQ.out.below hb).c 18 _ rfl;have q19:=(HQ.out.below hb).c 19 _ rfl;have q20:=(HQ.out.below hb).c 20 _ rfl;have q21:=(HQ.out.below hb).c 21 _ rfl;have q22:=(HQ.out.below hb).c 22 _ rfl;have q23:=(HQ.out.below hb).c 23 _ rfl;refine Each.Goes.same ?_;go_simp;try with_reducible rfl
    ·refine Each.fine rfl (fun ev w1 hR hb hh=>?_);clear hh;have e0:=hR.old 0 rfl;simp only [Array.getD_eq_getD_getElem?,List.getElem?_toArray,List.getElem?_cons_zero,Option.getD_some] at e0;refine Each.Goes.same ?_;go_simp;try with_reducible rfl
    ·refine Each.fine rfl (fun ev w1 hR hb hh=>?_);have e14:(ev (.tmp 14)=.pointer (some ⟨g,0,none⟩)):=hh.at 0;clear hh;refine Each.Goes.same ?_;go_simp;try with_reducible rfl
    ·refine Each.fine rfl (fun ev w1 hR hb hh=>?_);have e15:(ev (.tmp 15)=.pointer (some ⟨g,0,none⟩)):=hh.at 0;clear hh;refine Each.Goes.same ?_;go_simp;try with_reducible rfl
    ·refine Each.fine rfl (fun ev w1 hR hb hh=>?_);have e16:(ev (.tmp 16)=.pointer (some ⟨g,1,none⟩)):=hh.at 0;clear hh;refine Each.Goes.same ?_;go_simp;try with_reducible rfl
    ·refine Each.fine rfl (fun ev w1 hR hb hh=>?_);have e17:(ev (.tmp 17)=.pointer (some ⟨g,5,none⟩)):=hh.at 0;clear hh;have q5:=(HQ.out.below hb).c 5 _ rfl;refine Each.Goes.same ?_;go_simp;try with_reducible rfl
    ·refine Each.fine rfl (fun ev w1 hR hb hh=>?_);clear hh;have e0:=hR.old 0 rfl;simp only [Array.getD_eq_getD_getElem?,List.getElem?_toArray,List.getElem?_cons_zero,Option.getD_some] at e0;refine Each.Goes.same ?_;go_simp;try with_reducible rfl
    ·refine Each.fine rfl (fun ev w1 hR hb hh=>?_);have e19:(ev (.tmp 19)=.pointer (some ⟨g,0,none⟩)):=hh.at 0;clear hh;refine Each.Goes.same ?_;go_simp;try with_reducible rfl
    ·refine Each.fine rfl (fun ev w1 hR hb hh=>?_);have e20:(ev (.tmp 20)=.pointer (some ⟨g,0,none⟩)):=hh.at 0;clear hh;refine Each.Goes.same ?_;go_simp;try with_reducible rfl
    ·refine Each.fine rfl (fun ev w1 hR hb hh=>?_);have e21:(ev (.tmp 21)=.pointer (some ⟨g,1,none⟩)):=hh.at 0;clear hh;refine Each.Goes.same ?_;go_simp;try with_reducible rfl
    ·refine Each.fine rfl (fun ev w1 hR hb hh=>?_);have e22:(ev (.tmp 22)=.pointer (some ⟨g,1,none⟩)):=hh.at 0;clear hh;refine Each.Goes.same ?_;go_simp;try with_reducible rfl
    ·refine Each.fine rfl (fun ev w1 hR hb hh=>?_);have e23:(ev (.tmp 23)=.pointer (some ⟨g,2,none⟩)):=hh.at 0;clear hh;have q2:=(HQ.out.below hb).c 2 _ rfl;refine Each.Goes.same ?_;go_simp;try with_reducible rfl
    ·refine Each.fine rfl (fun ev w1 hR hb hh=>?_);have e9:(ev (.tmp 9)=.int .u32 (p:Int)):=hh.at 0;have e13:(ev (.tmp 13)=.agg #[.int .i64 b.x0,.int .i64 b.x1,.int .i64 b.x2,.int .i64 b.x3,.int .i64 b.x4,.int .i64 b.x5,.int .i64 b.x6,.int .i64 b.x7,.bool b.ch,.bool b.od]):=hh.at 1;have e18:(ev (.tmp 18)=.int .i64 s.r.k):=hh.at 2;have e24:(ev (.tmp 24)=.slice bf s.r.fs.length cf):=hh.at 3;clear hh;have ef:=hR.func
     refine Each.Goes.enter 247 #[.int .u32 (p:Int),.agg #[.int .i64 b.x0,.int .i64 b.x1,.int .i64 b.x2,.int .i64 b.x3,.int .i64 b.x4,.int .i64 b.x5,.int .i64 b.x6,.int .i64 b.x7,.bool b.ch,.bool b.od],.int .i64 s.r.k,.slice bf s.r.fs.length cf] (by go_simp) ((HZ.out w1 hb).mono ?_);rintro r w2 ⟨rfl,hb2⟩;exact ⟨_,rfl,hb2,rfl⟩
    ·refine Each.fine rfl (fun ev w1 hR hb hh=>?_);have e25:(ev (.tmp 25)=.tuple #[.agg #[.int .i64 0,.int .i64 0],.int .i64 (e:Int)]):=hh.at 0;clear hh;refine Each.Goes.same ?_;go_simp;try with_reducible rfl
    ·refine Each.fine rfl (fun ev w1 hR hb hh=>?_);have e5:(ev (.tmp 5)=.tuple #[.agg #[.int .i64 0,.int .i64 0],.int .i64 (e:Int)]):=hh.at 0;clear hh;refine Each.Goes.same ?_;go_simp;try with_reducible rfl
    ·refine Each.fine rfl (fun ev w1 hR hb hh=>?_);have e5:(ev (.tmp 5)=.tuple #[.agg #[.int .i64 0,.int .i64 0],.int .i64 (e:Int)]):=hh.at 0;clear hh;refine Each.Goes.same ?_;go_simp;try with_reducible rfl
    ·refine Each.fine rfl (fun ev w1 hR hb hh=>?_);clear hh;exact Each.Goes.value (ptr w1.heap.size) (w1.alloc (.cells #[.int .i64 0,.int .i64 0] 217)) (by go_simp) ((Below.refl _ _).alloc (Nat.le_refl _) _) ⟨_,rfl,hb.size,Rec.Bk.new w1 _ rfl 217 [.int .i64 0,.int .i64 0]⟩
   ·intro g1 w2 hb hf;have z5:(g1 5=.tuple #[.agg #[.int .i64 0,.int .i64 0],.int .i64 (e:Int)]):=hf.at 20;have z26:(g1 26=.agg #[.int .i64 0,.int .i64 0]):=hf.at 21;have z27:(g1 27=.int .i64 (e:Int)):=hf.at 22;have z3:((fun v u=>∃g2,v=ptr g2∧w.heap.size≤g2∧Rec.Bk u g2 [.int .i64 0,.int .i64 0]) (g1 3) w2):=hf.at 23;clear hf;obtain ⟨g2,e2,hg2,hB2⟩:=z3;simp only [Each.putg,Act.put,List.setIfInBounds_toArray,List.set_cons_zero,List.set_cons_succ];rw [z5,z26,z27,e2];simp only [Tree.grow,Tree.put1,List.getElem?_cons_zero,List.getElem?_cons_succ]
    have y0:=hB2.c 0 _ rfl;have y1:=hB2.c 1 _ rfl;have x0:=hB2.z 0 (by simp);have x1:=hB2.z 1 (by simp)
    refine Tree.change (by rfl) (fun K hK=>?_);go_simp;refine hK _ _ trivial ?_;clear hK K y0 y1 x0 x1;refine Tree.assign _ (by rfl) (by rfl) ?_;simp only [Act.put,Act.eval,Array.getD_eq_getD_getElem?,List.getElem?_toArray,List.getElem?_cons_zero,List.getElem?_cons_succ,Option.getD_some,List.setIfInBounds_toArray,List.set_cons_zero,List.set_cons_succ];refine Tree.done ?_;go_wp2_with fail;go_meet
    case rel=>exact ⟨g2,rfl,rfl,Lib.hid ((hb.setCell hg2 _).setCell hg2 _),Lib.hid ((hB2.set 0 (.int .i64 0) (by simp)).set 1 (.int .i64 0) (by simp)),Lib.hid hg2⟩
   ·intro k0 hk0 g1 w2 hb hf;cases hk0;have z5:(g1 5=.tuple #[.agg #[.int .i64 0,.int .i64 0],.int .i64 (e:Int)]):=hf.at 20;have z26:(g1 26=.agg #[.int .i64 0,.int .i64 0]):=hf.at 21;have z3:((fun v u=>∃g2,v=ptr g2∧w.heap.size≤g2∧Rec.Bk u g2 [.int .i64 0,.int .i64 0]) (g1 3) w2):=hf.at 23;clear hf;obtain ⟨g2,e2,hg2,hB2⟩:=z3;simp only [Each.putg,Act.put,List.setIfInBounds_toArray,List.set_cons_zero,List.set_cons_succ];rw [z5,z26,e2];simp only [Tree.grow,Tree.put1,List.getElem?_cons_zero,List.getElem?_cons_succ];refine Tree.quiet (by rfl) (.int .i64 (e:Int)) (fun _ _=>by go_simp) ?_;simp only [Act.put,List.setIfInBounds_toArray,List.set_cons_zero,List.set_cons_succ]
    have y0:=hB2.c 0 _ rfl;have y1:=hB2.c 1 _ rfl;have x0:=hB2.z 0 (by simp);have x1:=hB2.z 1 (by simp)
    refine Tree.change (by rfl) (fun K hK=>?_);go_simp;refine hK _ _ trivial ?_;clear hK K y0 y1 x0 x1;refine Tree.assign _ (by rfl) (by rfl) ?_;simp only [Act.put,Act.eval,Array.getD_eq_getD_getElem?,List.getElem?_toArray,List.getElem?_cons_zero,List.getElem?_cons_succ,Option.getD_some,List.setIfInBounds_toArray,List.set_cons_zero,List.set_cons_succ];refine Tree.done ?_;go_wp2_with fail;go_meet
    case rel=>exact ⟨g2,rfl,rfl,Lib.hid ((hb.setCell hg2 _).setCell hg2 _),Lib.hid ((hB2.set 0 (.int .i64 0) (by simp)).set 1 (.int .i64 0) (by simp)),Lib.hid hg2⟩
  case rest=>
  obtain ⟨g2,rfl,rfl,HB,HG,HG2⟩:=hcut
  have H1:=Lib.hid (H.out.below HB.out);clear HQ;obtain ⟨W0,hW0⟩:∃x,x=wc:=⟨_,rfl⟩;subst hW0;have y0:=HG.out.c 0 _ rfl;have y1:=HG.out.c 1 _ rfl;go_wp2;go_ret;exact ⟨rfl,_,_,_,_,_,_,H1.out,Step.of_below HB.out⟩
theorem fieldLine_any (hp:p<4294967296) (h3:16≤b.x3∧b.x3≤1048576) (x:ByteArray) (hx:x.size≤5000) (h:PR w B g q v f bd t o p b s) (hl:s.hl≤1000) (hlen:s.r.fs.length≤500) (hsz:∀y∈s.r.fs,y.1.size≤1000000∧y.2.size≤1000000) (hout:s.out.length≤1000000000):Calls Tryz.prog 207 #[ptr g,.string x] w fun r w'=>
 r=.returned (.int .i64 (((s.fields p b x.data.toList).1:Nat):Int))∧∃q1 v1 f1 bd1 t1 o1,PR w' B g q1 v1 f1 bd1 t1 o1 p b (s.fields p b x.data.toList).2∧Step (blks g q v f bd t o) (blks g q1 v1 f1 bd1 t1 o1) w w':=by
 rcases Nat.eq_zero_or_pos x.size with h0 | h0
 ·obtain rfl:=empty_of h0
  have HE:=Lib.hid (endHead_any hp h3 h hlen hsz hout);have e:s.fields p b (⟨#[]⟩:ByteArray).data.toList=s.endHead p b:=rfl;rw [e];clear h h0 hx e hl hlen hsz hout;go_enter Tryz.func207,Tryz.ntmps207
  go_wp2_with (go_at_call 228;with_reducible refine HE.out.mono ?_;rintro r w2 ⟨rfl,q1,v1,f1,bd1,t1,o1,hP,hS⟩);go_ret;exact ⟨rfl,_,_,_,_,_,_,hP,hS⟩
 ·have hne:=list_ne h0;have te:=Fd.first_no x h0
  have HQ:=Lib.hid ((h.drew 1).bk);unfold T.fields;rw [if_neg hne]
  have HFI0:=Lib.hid (fun w1 (hb:Below w.heap.size w w1)=>addF_any hp x hx b.x1 (h.below hb) hl hsz hlen);clear h hne h0 hl hlen hsz hout hx;go_enter Tryz.func207,Tryz.ntmps207;go_upto_region 3 with fail
  refine Each.region 14 [9,10,11,12,13,14,15,16,17,18,19,20,21,22]
   [fun v _=>v=.pointer (some ⟨g,0,none⟩),
     fun v _=>v=.pointer (some ⟨g,0,none⟩),
     fun v _=>v=.pointer (some ⟨g,1,none⟩),
     fun v _=>v=.pointer (some ⟨g,1,none⟩),
     fun v _=>v=.string x,
     fun v _=>v=.pointer (some ⟨g,0,none⟩),
     fun v _=>v=.pointer (some ⟨g,0,none⟩),
     fun v _=>v=.pointer (some ⟨g,13,none⟩),
     fun v _=>v=.int .u32 (p:Int),
     fun v _=>v=.pointer (some ⟨g,0,none⟩),
     fun v _=>v=.pointer (some ⟨g,0,none⟩),
     fun v _=>v=.pointer (some ⟨g,14,none⟩),
     fun v _=>v=.pointer (some ⟨g,15,none⟩),
     fun v _=>v=.int .i64 b.x1]
   (.act 14 (.quiet 15 .done)) (by kernel_rfl) (by kernel_rfl) (by kernel_rfl) (by kernel_rfl) (fun _ _ d _ _ h=>by cases d<;>exact h) (by rfl) (by rfl)
   ⟨Each.Lasts.eq _,Each.Lasts.eq _,Each.Lasts.eq _,Each.Lasts.eq _,Each.Lasts.eq _,Each.Lasts.eq _,Each.Lasts.eq _,Each.Lasts.eq _,Each.Lasts.eq _,Each.Lasts.eq _,Each.Lasts.eq _,Each.Lasts.eq _,Each.Lasts.eq _,Each.Lasts.eq _,trivial⟩ ?_ ?_
  ·refine ⟨?_,?_,?_,?_,?_,?_,?_,?_,?_,?_,?_,?_,?_,?_,trivial⟩
   ·refine Each.fine rfl (fun ev w1 hR hb hh=>?_);clear hh;have e0:=hR.old 0 rfl;simp only [Array.getD_eq_getD_getElem?,List.getElem?_toArray,List.getElem?_cons_zero,Option.getD_some] at e0;refine Each.Goes.same ?_;go_simp;try with_reducible rfl
   ·refine Each.fine rfl (fun ev w1 hR hb hh=>?_);have e9:(ev (.tmp 9)=.pointer (some ⟨g,0,none⟩)):=hh.at 0;clear hh;refine Each.Goes.same ?_;go_simp;try with_reducible rfl
   ·refine Each.fine rfl (fun ev w1 hR hb hh=>?_);have e10:(ev (.tmp 10)=.pointer (some ⟨g,0,none⟩)):=hh.at 0;clear hh;refine Each.Goes.same ?_;go_simp;try with_reducible rfl
   ·refine Each.fine rfl (fun ev w1 hR hb hh=>?_);have e11:(ev (.tmp 11)=.pointer (some ⟨g,1,none⟩)):=hh.at 0;clear hh;refine Each.Goes.same ?_;go_simp;try with_reducible rfl
   ·refine Each.fine rfl (fun ev w1 hR hb hh=>?_);clear hh;have e1:=hR.old 1 rfl;simp only [Array.getD_eq_getD_getElem?,List.getElem?_toArray,List.getElem?_cons_succ,List.getElem?_cons_zero,Option.getD_some] at e1;refine Each.Goes.same ?_;go_simp;try with_reducible rfl
   ·refine Each.fine rfl (fun ev w1 hR hb hh=>?_);clear hh;have e0:=hR.old 0 rfl;simp only [Array.getD_eq_getD_getElem?,List.getElem?_toArray,List.getElem?_cons_zero,Option.getD_some] at e0;refine Each.Goes.same ?_;go_simp;try with_reducible rfl
   ·refine Each.fine rfl (fun ev w1 hR hb hh=>?_);have e14:(ev (.tmp 14)=.pointer (some ⟨g,0,none⟩)):=hh.at 0;clear hh;refine Each.Goes.same ?_;go_simp;try with_reducible rfl
   ·refine Each.fine rfl (fun ev w1 hR hb hh=>?_);have e15:(ev (.tmp 15)=.pointer (some ⟨g,0,none⟩)):=hh.at 0;clear hh;refine Each.Goes.same ?_;go_simp;try with_reducible rfl
   ·refine Each.fine rfl (fun ev w1 hR hb hh=>?_);have e16:(ev (.tmp 16)=.pointer (some ⟨g,13,none⟩)):=hh.at 0;clear hh;have q13:=(HQ.out.below hb).c 13 _ rfl;refine Each.Goes.same ?_;go_simp;try with_reducible rfl
   ·refine Each.fine rfl (fun ev w1 hR hb hh=>?_);clear hh;have e0:=hR.old 0 rfl;simp only [Array.getD_eq_getD_getElem?,List.getElem?_toArray,List.getElem?_cons_zero,Option.getD_some] at e0;refine Each.Goes.same ?_;go_simp;try with_reducible rfl
   ·refine Each.fine rfl (fun ev w1 hR hb hh=>?_);have e18:(ev (.tmp 18)=.pointer (some ⟨g,0,none⟩)):=hh.at 0;clear hh;refine Each.Goes.same ?_;go_simp;try with_reducible rfl
   ·refine Each.fine rfl (fun ev w1 hR hb hh=>?_);have e19:(ev (.tmp 19)=.pointer (some ⟨g,0,none⟩)):=hh.at 0;clear hh;refine Each.Goes.same ?_;go_simp;try with_reducible rfl
   ·refine Each.fine rfl (fun ev w1 hR hb hh=>?_);have e20:(ev (.tmp 20)=.pointer (some ⟨g,14,none⟩)):=hh.at 0;clear hh;refine Each.Goes.same ?_;go_simp;try with_reducible rfl
   ·refine Each.fine rfl (fun ev w1 hR hb hh=>?_);have e21:(ev (.tmp 21)=.pointer (some ⟨g,15,none⟩)):=hh.at 0;clear hh;have q15:=(HQ.out.below hb).c 15 _ rfl;refine Each.Goes.same ?_;go_simp;try with_reducible rfl
  intro g1 w2 hb hf;have z12:(g1 12=.pointer (some ⟨g,1,none⟩)):=hf.at 3;have z13:(g1 13=.string x):=hf.at 4;have z17:(g1 17=.int .u32 (p:Int)):=hf.at 8;have z22:(g1 22=.int .i64 b.x1):=hf.at 13;clear hf;simp only [Each.putg,Act.put,List.setIfInBounds_toArray,List.set_cons_zero,List.set_cons_succ];rw [z12,z13,z17,z22];simp only [Tree.grow,Tree.put1,List.getElem?_cons_zero,List.getElem?_cons_succ]
  have HS1:=Lib.hid (Step.of_below hb (L:=blks g q v f bd t o))
  have HFI:=Lib.hid (HFI0.out _ hb);clear hb HQ
  refine Tree.change (by rfl) (fun K hK=>?_)
  refine Each.oper_enter (g:=229) (args:=#[.pointer (some ⟨g,1,none⟩),.string x,.int .u32 (p:Int),.int .i64 b.x1]) (by go_simp) (HFI.out.mono ?_);rintro r w3 ⟨rfl,f1,hP,hS⟩;refine ⟨_,rfl,?_⟩;refine hK _ _ trivial ?_;clear hK K;simp only [Act.put,List.setIfInBounds_toArray,List.set_cons_zero,List.set_cons_succ];refine Tree.assign _ (by rfl) (by rfl) ?_;simp only [Act.put,Act.eval,Array.getD_eq_getD_getElem?,List.getElem?_toArray,List.getElem?_cons_zero,List.getElem?_cons_succ,Option.getD_some,List.setIfInBounds_toArray,List.set_cons_zero,List.set_cons_succ];refine Tree.done ?_
  have HP2:=Lib.hid hP;have HS2:=Lib.hid (HS1.out.trans hS);clear hP hS HFI HS1 HFI0;go_wp2;go_ret;exact ⟨rfl,_,_,_,_,_,_,HP2.out,HS2.out⟩
theorem trailerLine_any (hp:p<4294967296) (x:ByteArray) (hx:x.size≤5000) (h:PR w B g q v f bd t o p b s) (hl:s.bl≤1000) (hlen:s.r.ts.length≤500) (hsz:∀y∈s.r.ts,y.1.size≤1000000∧y.2.size≤1000000) (hout:s.out.length≤1000000000):Calls Tryz.prog 209 #[ptr g,.string x] w fun r w'=>
 r=.returned (.int .i64 (((s.trail p b x.data.toList).1:Nat):Int))∧∃q1 v1 f1 bd1 t1 o1,PR w' B g q1 v1 f1 bd1 t1 o1 p b (s.trail p b x.data.toList).2∧Step (blks g q v f bd t o) (blks g q1 v1 f1 bd1 t1 o1) w w':=by
 rcases Nat.eq_zero_or_pos x.size with h0 | h0
 ·obtain rfl:=empty_of h0
  have HE:=Lib.hid (finish_any h hout);have e:s.trail p b (⟨#[]⟩:ByteArray).data.toList=(0,s.fin):=rfl;rw [e];clear h h0 hx e hl hlen hsz hout;go_enter Tryz.func209,Tryz.ntmps209
  go_wp2_with (go_at_call 183;with_reducible refine HE.out.mono ?_;rintro r w2 ⟨rfl,o1,hP,hS⟩);go_ret;exact ⟨rfl,_,_,_,_,_,_,hP,hS⟩
 ·have hne:=list_ne h0;have te:=Fd.first_no x h0
  have HQ:=Lib.hid ((h.drew 1).bk);unfold T.trail;rw [if_neg hne]
  have HFI0:=Lib.hid (fun w1 (hb:Below w.heap.size w w1)=>addTR_any hp x hx b.x5 (h.below hb) hl hsz hlen);clear h hne h0 hl hlen hsz hout hx;go_enter Tryz.func209,Tryz.ntmps209;go_upto_region 4 with fail
  refine Each.region 14 [9,10,11,12,13,14,15,16,17,18,19,20,21,22]
   [fun v _=>v=.pointer (some ⟨g,0,none⟩),
     fun v _=>v=.pointer (some ⟨g,0,none⟩),
     fun v _=>v=.pointer (some ⟨g,8,none⟩),
     fun v _=>v=.pointer (some ⟨g,8,none⟩),
     fun v _=>v=.string x,
     fun v _=>v=.pointer (some ⟨g,0,none⟩),
     fun v _=>v=.pointer (some ⟨g,0,none⟩),
     fun v _=>v=.pointer (some ⟨g,13,none⟩),
     fun v _=>v=.int .u32 (p:Int),
     fun v _=>v=.pointer (some ⟨g,0,none⟩),
     fun v _=>v=.pointer (some ⟨g,0,none⟩),
     fun v _=>v=.pointer (some ⟨g,14,none⟩),
     fun v _=>v=.pointer (some ⟨g,19,none⟩),
     fun v _=>v=.int .i64 b.x5]
   (.act 14 (.quiet 15 .done)) (by kernel_rfl) (by kernel_rfl) (by kernel_rfl) (by kernel_rfl) (fun _ _ d _ _ h=>by cases d<;>exact h) (by rfl) (by rfl)
   ⟨Each.Lasts.eq _,Each.Lasts.eq _,Each.Lasts.eq _,Each.Lasts.eq _,Each.Lasts.eq _,Each.Lasts.eq _,Each.Lasts.eq _,Each.Lasts.eq _,Each.Lasts.eq _,Each.Lasts.eq _,Each.Lasts.eq _,Each.Lasts.eq _,Each.Lasts.eq _,Each.Lasts.eq _,trivial⟩ ?_ ?_
  ·refine ⟨?_,?_,?_,?_,?_,?_,?_,?_,?_,?_,?_,?_,?_,?_,trivial⟩
   ·refine Each.fine rfl (fun ev w1 hR hb hh=>?_);clear hh;have e0:=hR.old 0 rfl;simp only [Array.getD_eq_getD_getElem?,List.getElem?_toArray,List.getElem?_cons_zero,Option.getD_some] at e0;refine Each.Goes.same ?_;go_simp;try with_reducible rfl
   ·refine Each.fine rfl (fun ev w1 hR hb hh=>?_);have e9:(ev (.tmp 9)=.pointer (some ⟨g,0,none⟩)):=hh.at 0;clear hh;refine Each.Goes.same ?_;go_simp;try with_reducible rfl
   ·refine Each.fine rfl (fun ev w1 hR hb hh=>?_);have e10:(ev (.tmp 10)=.pointer (some ⟨g,0,none⟩)):=hh.at 0;clear hh;refine Each.Goes.same ?_;go_simp;try with_reducible rfl
   ·refine Each.fine rfl (fun ev w1 hR hb hh=>?_);have e11:(ev (.tmp 11)=.pointer (some ⟨g,8,none⟩)):=hh.at 0;clear hh;refine Each.Goes.same ?_;go_simp;try with_reducible rfl
   ·refine Each.fine rfl (fun ev w1 hR hb hh=>?_);clear hh;have e1:=hR.old 1 rfl;simp only [Array.getD_eq_getD_getElem?,List.getElem?_toArray,List.getElem?_cons_succ,List.getElem?_cons_zero,Option.getD_some] at e1;refine Each.Goes.same ?_;go_simp;try with_reducible rfl
   ·refine Each.fine rfl (fun ev w1 hR hb hh=>?_);clear hh;have e0:=hR.old 0 rfl;simp only [Array.getD_eq_getD_getElem?,List.getElem?_toArray,List.getElem?_cons_zero,Option.getD_some] at e0;refine Each.Goes.same ?_;go_simp;try with_reducible rfl
   ·refine Each.fine rfl (fun ev w1 hR hb hh=>?_);have e14:(ev (.tmp 14)=.pointer (some ⟨g,0,none⟩)):=hh.at 0;clear hh;refine Each.Goes.same ?_;go_simp;try with_reducible rfl
   ·refine Each.fine rfl (fun ev w1 hR hb hh=>?_);have e15:(ev (.tmp 15)=.pointer (some ⟨g,0,none⟩)):=hh.at 0;clear hh;refine Each.Goes.same ?_;go_simp;try with_reducible rfl
   ·refine Each.fine rfl (fun ev w1 hR hb hh=>?_);have e16:(ev (.tmp 16)=.pointer (some ⟨g,13,none⟩)):=hh.at 0;clear hh;have q13:=(HQ.out.below hb).c 13 _ rfl;refine Each.Goes.same ?_;go_simp;try with_reducible rfl
   ·refine Each.fine rfl (fun ev w1 hR hb hh=>?_);clear hh;have e0:=hR.old 0 rfl;simp only [Array.getD_eq_getD_getElem?,List.getElem?_toArray,List.getElem?_cons_zero,Option.getD_some] at e0;refine Each.Goes.same ?_;go_simp;try with_reducible rfl
   ·refine Each.fine rfl (fun ev w1 hR hb hh=>?_);have e18:(ev (.tmp 18)=.pointer (some ⟨g,0,none⟩)):=hh.at 0;clear hh;refine Each.Goes.same ?_;go_simp;try with_reducible rfl
   ·refine Each.fine rfl (fun ev w1 hR hb hh=>?_);have e19:(ev (.tmp 19)=.pointer (some ⟨g,0,none⟩)):=hh.at 0;clear hh;refine Each.Goes.same ?_;go_simp;try with_reducible rfl
   ·refine Each.fine rfl (fun ev w1 hR hb hh=>?_);have e20:(ev (.tmp 20)=.pointer (some ⟨g,14,none⟩)):=hh.at 0;clear hh;refine Each.Goes.same ?_;go_simp;try with_reducible rfl
   ·refine Each.fine rfl (fun ev w1 hR hb hh=>?_);have e21:(ev (.tmp 21)=.pointer (some ⟨g,19,none⟩)):=hh.at 0;clear hh;have q19:=(HQ.out.below hb).c 19 _ rfl;refine Each.Goes.same ?_;go_simp;try with_reducible rfl
  intro g1 w2 hb hf;have z12:(g1 12=.pointer (some ⟨g,8,none⟩)):=hf.at 3;have z13:(g1 13=.string x):=hf.at 4;have z17:(g1 17=.int .u32 (p:Int)):=hf.at 8;have z22:(g1 22=.int .i64 b.x5):=hf.at 13;clear hf;simp only [Each.putg,Act.put,List.setIfInBounds_toArray,List.set_cons_zero,List.set_cons_succ];rw [z12,z13,z17,z22];simp only [Tree.grow,Tree.put1,List.getElem?_cons_zero,List.getElem?_cons_succ]
  have HS1:=Lib.hid (Step.of_below hb (L:=blks g q v f bd t o))
  have HFI:=Lib.hid (HFI0.out _ hb);clear hb HQ
  refine Tree.change (by rfl) (fun K hK=>?_)
  refine Each.oper_enter (g:=229) (args:=#[.pointer (some ⟨g,8,none⟩),.string x,.int .u32 (p:Int),.int .i64 b.x5]) (by go_simp) (HFI.out.mono ?_);rintro r w3 ⟨rfl,t1,hP,hS⟩;refine ⟨_,rfl,?_⟩;refine hK _ _ trivial ?_;clear hK K;simp only [Act.put,List.setIfInBounds_toArray,List.set_cons_zero,List.set_cons_succ];refine Tree.assign _ (by rfl) (by rfl) ?_;simp only [Act.put,Act.eval,Array.getD_eq_getD_getElem?,List.getElem?_toArray,List.getElem?_cons_zero,List.getElem?_cons_succ,Option.getD_some,List.setIfInBounds_toArray,List.set_cons_zero,List.set_cons_succ];refine Tree.done ?_
  have HP2:=Lib.hid hP;have HS2:=Lib.hid (HS1.out.trans hS);clear hP hS HFI HS1 HFI0;go_wp2;go_ret;exact ⟨rfl,_,_,_,_,_,_,HP2.out,HS2.out⟩
theorem endLine_any (hp:p<4294967296) (hb:b.right=true) (x:ByteArray) (hx:x.size≤4096) (h:PR w B g q v f bd t o p b s) (ok:s.Ok) (hout:s.out.length≤1000000000):Calls Tryz.prog 185 #[ptr g,.string x] w fun r w'=>
 r=.returned (.int .i64 (((s.line p b x.data.toList).1:Nat):Int))∧∃q1 v1 f1 bd1 t1 o1,PR w' B g q1 v1 f1 bd1 t1 o1 p b (s.line p b x.data.toList).2∧Step (blks g q v f bd t o) (blks g q1 v1 f1 bd1 t1 o1) w w':=by
 have e3:=(Bd.edges hb).2.2.2.1;have c24:=h.cs.c24;have hh:=ok.hl;have hbl:=ok.bl;have hfl:=ok.fsl;have htl:=ok.tsl;have hbd:=ok.body;have hfs:∀y∈s.r.fs,y.1.size≤1000000∧y.2.size≤1000000:=fun y hy=>by have:=ok.fss y hy;omega
 have hts:∀y∈s.r.ts,y.1.size≤1000000∧y.2.size≤1000000:=fun y hy=>by have:=ok.tss y hy;omega
 unfold T.line;by_cases h1:s.st=1
 ·rw [if_pos h1];rw [h1] at c24
  have HA:=Lib.hid (firstLine_any hp x (by omega) h);clear h ok h1 hx hfs hts hh hbl hfl htl hbd hout e3;go_enter Tryz.func185,Tryz.ntmps185
  go_wp2_with (go_at_call 206;with_reducible refine HA.out.mono ?_;rintro r w2 ⟨rfl,q1,v1,f1,bd1,t1,o1,hP,hS⟩);go_ret;exact ⟨rfl,_,_,_,_,_,_,hP,hS⟩
 ·rw [if_neg h1];by_cases h2:s.st=2
  ·rw [if_pos h2];rw [h2] at c24
   have HA:=Lib.hid (fieldLine_any hp e3 x (by omega) h (by omega) (by omega) hfs hout);clear h ok h1 h2 hx hfs hts hh hbl hfl htl hbd hout e3;go_enter Tryz.func185,Tryz.ntmps185
   go_wp2_with (go_at_call 207;with_reducible refine HA.out.mono ?_;rintro r w2 ⟨rfl,q1,v1,f1,bd1,t1,o1,hP,hS⟩);go_ret;exact ⟨rfl,_,_,_,_,_,_,hP,hS⟩
  ·rw [if_neg h2];by_cases h4:s.st=4
   ·rw [if_pos h4];rw [h4] at c24
    have HA:=Lib.hid (sizeLine_any hp e3 x (by omega) h (by omega));clear h ok h1 h2 h4 hx hfs hts hh hbl hfl htl hbd hout e3;go_enter Tryz.func185,Tryz.ntmps185
    go_wp2_with (go_at_call 208;with_reducible refine HA.out.mono ?_;rintro r w2 ⟨rfl,q1,v1,f1,bd1,t1,o1,hP,hS⟩);go_ret;exact ⟨rfl,_,_,_,_,_,_,hP,hS⟩
   ·rw [if_neg h4];by_cases h7:s.st=7
    ·rw [if_pos h7];rw [h7] at c24
     have HA:=Lib.hid (trailerLine_any hp x (by omega) h (by omega) (by omega) hts hout);clear h ok h1 h2 h4 h7 hx hfs hts hh hbl hfl htl hbd hout e3;go_enter Tryz.func185,Tryz.ntmps185
     go_wp2_with (go_at_call 209;with_reducible refine HA.out.mono ?_;rintro r w2 ⟨rfl,q1,v1,f1,bd1,t1,o1,hP,hS⟩);go_ret;exact ⟨rfl,_,_,_,_,_,_,hP,hS⟩
    ·rw [if_neg h7]
     have t1:((s.st:Int)==1)=false:=beq_eq_false_iff_ne.2 (by omega)
     have t2:((s.st:Int)==2)=false:=beq_eq_false_iff_ne.2 (by omega)
     have t4:((s.st:Int)==4)=false:=beq_eq_false_iff_ne.2 (by omega)
     have t7:((s.st:Int)==7)=false:=beq_eq_false_iff_ne.2 (by omega);have m1:¬(s.st:Int)=1:=by omega
     have m2:¬(s.st:Int)=2:=by omega
     have m4:¬(s.st:Int)=4:=by omega
     have m7:¬(s.st:Int)=7:=by omega
     have c14:=h.cs.c14
     have HA:=Lib.hid (enter_any hp h 4 4 rfl b.x0);clear h ok hx hfs hts hh hbl hfl htl hbd hout e3;go_enter Tryz.func185,Tryz.ntmps185
     go_wp2_with (go_at_call 72;with_reducible refine HA.out.mono ?_;rintro r w2 ⟨rfl,q1,hP,hS⟩);go_ret;exact ⟨rfl,_,_,_,_,_,_,hP,hS⟩
end code
end Go.Proofs.YtnabkcglnbdfeaaGreatDoor.Pg
