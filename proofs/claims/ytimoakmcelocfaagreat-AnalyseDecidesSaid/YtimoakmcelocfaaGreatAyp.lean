import Derived.Test.YtimoakmcelocfaaGreatAyk
import Derived.Test.YtimoakmcelocfaaGreatAyo
namespace Go.Proofs.YtimoakmcelocfaaGreat.Par
open Go.RowKit Base Txt Mem
section code
set_option maxHeartbeats 4000000
set_option maxRecDepth 20000
attribute [local go_sem] Base.some_undef
variable {w:World} {B:Zone} {g q:Nat} {v f bd t o:Value} {p:Nat} {b:Bd} {s:S}
theorem chunk_any (hp:p<4294967296) (h3:16≤b.x3∧b.x3≤1048576) (h4:0≤b.x4) (x:ByteArray) (hx:x.size≤5000) (h:PR w B g q v f bd t o p b s) (hbl:s.r.body.length≤2000000):Calls Tryz.prog 83 #[ptr g,.string x] w fun r w'=>
 r=.returned (.tuple #[])∧∃q1 v1 f1 bd1 t1,PR w' B g q1 v1 f1 bd1 t1 o p b (s.chunk p b x.data.toList)∧Step (blks g q v f bd t o) (blks g q1 v1 f1 bd1 t1 o) w w':=by
 have H:=Lib.hid h
 have HQ:=Lib.hid ((h.drew 1).bk)
 have hz:=fun w=>Chk.rsize_any x p hp b.x0 b.x1 b.x2 b.x3 b.x4 b.x5 b.x6 b.x7 b.ch b.od (by omega) h4 w (by omega);have HF:=chunk_facts (Qk.has p 27) (Qk.has p 28) b.x4 b.x3 x.data.toList;obtain ⟨⟨z1,z2⟩,hZ⟩:∃Z,Chk.sizeV (Qk.has p 27) (Qk.has p 28) b.x4 b.x3 x.data.toList=Z:=⟨_,rfl⟩;rw [hZ] at HF;clear h hx;rcases HF with ⟨e2,h0,h1⟩ | e2 | e2
 ·have e2:z2=0:=e2;subst e2;obtain ⟨n,rfl⟩:∃n:Nat,z1=(n:Int):=⟨z1.toNat,by have:0≤z1:=h0;omega⟩;have h1:(n:Int)≤max b.x3 0:=h1
  have HZ:=Lib.hid (show∀w,Calls Tryz.prog 95 #[.string x,.int .u32 (p:Int),.agg #[.int .i64 b.x0,.int .i64 b.x1,.int .i64 b.x2,.int .i64 b.x3,.int .i64 b.x4,.int .i64 b.x5,.int .i64 b.x6,.int .i64 b.x7,.bool b.ch,.bool b.od]] w fun e w'=>e=.returned (.tuple #[.int .i64 (n:Int),.int .i64 0])∧Below w.heap.size w w' from fun w=>by have:=hz w;rw [hZ] at this;exact this);clear hz;rcases Nat.eq_zero_or_pos n with hn | hn
  ·subst hn;have e:s.chunk p b x.data.toList={s with st:=6,lines:=0,rd:=nl p b.x0}:=by unfold S.chunk;rw [hZ];rfl
   rw [e]
   have HZ:=Lib.hid (show∀w,Calls Tryz.prog 95 #[.string x,.int .u32 (p:Int),.agg #[.int .i64 b.x0,.int .i64 b.x1,.int .i64 b.x2,.int .i64 b.x3,.int .i64 b.x4,.int .i64 b.x5,.int .i64 b.x6,.int .i64 b.x7,.bool b.ch,.bool b.od]] w fun e w'=>e=.returned (.tuple #[.int .i64 0,.int .i64 0])∧Below w.heap.size w w' from fun w=>HZ.out w);clear e hZ h0 h1;go_enter Tryz.func83,Tryz.ntmps83;go_upto_region 0 with fail
   refine Each.region_all 15 [7,8,9,10,11,12,13,14,15,16,6,17,18,4,5]
    [Each.is (.string x),
      Each.is (.pointer (some ⟨g,0,none⟩)),
      Each.is (.pointer (some ⟨g,0,none⟩)),
      Each.is (.pointer (some ⟨g,0,none⟩)),
      Each.is (.int .u32 (p:Int)),
      Each.is (.pointer (some ⟨g,0,none⟩)),
      Each.is (.pointer (some ⟨g,0,none⟩)),
      Each.is (.pointer (some ⟨g,1,none⟩)),
      Each.is (.agg #[.int .i64 b.x0,.int .i64 b.x1,.int .i64 b.x2,.int .i64 b.x3,.int .i64 b.x4,.int .i64 b.x5,.int .i64 b.x6,.int .i64 b.x7,.bool b.ch,.bool b.od]),
      Each.is (.tuple #[.int .i64 0,.int .i64 0]),
      Each.is (.tuple #[.int .i64 0,.int .i64 0]),
      Each.is (.int .i64 0),
      Each.is (.int .i64 0),
      Each.is (.int .i64 0),
      Each.is (.int .i64 0)]
     (by kernel_rfl) (by kernel_rfl) (by kernel_rfl) (by kernel_rfl) (fun _ _ d _ _ h=>by cases d<;>exact h) (by rfl) (by rfl)
    (by repeat first | exact trivial | refine ⟨Each.Lasts.eq _,?_⟩) ?_ ?_
   ·refine ⟨?_,?_,?_,?_,?_,?_,?_,?_,?_,?_,?_,?_,?_,?_,?_,trivial⟩
    ·refine Each.fine rfl (fun ev w1 hR hb hh=>?_);clear hh;have e1:=hR.old 1 rfl;simp only [qA,qT,qS,qZ,qO] at e1;refine Each.Goes.same ?_;go_simp;try with_reducible rfl
    ·refine Each.fine rfl (fun ev w1 hR hb hh=>?_);clear hh;have e0:=hR.old 0 rfl;simp only [qA,qT,qZ,qO] at e0;refine Each.Goes.same ?_;go_simp;try with_reducible rfl
    ·refine Each.fine rfl (fun ev w1 hR hb hh=>?_);have e8:(ev (.tmp 8)=.pointer (some ⟨g,0,none⟩)):=hh.at 0;clear hh;refine Each.Goes.same ?_;go_simp;try with_reducible rfl
    ·refine Each.fine rfl (fun ev w1 hR hb hh=>?_);have e9:(ev (.tmp 9)=.pointer (some ⟨g,0,none⟩)):=hh.at 0;clear hh;refine Each.Goes.same ?_;go_simp;try with_reducible rfl
    ·refine Each.fine rfl (fun ev w1 hR hb hh=>?_);have e10:(ev (.tmp 10)=.pointer (some ⟨g,0,none⟩)):=hh.at 0;clear hh;have q0:=(HQ.out.below hb).c 0 _ rfl;refine Each.Goes.same ?_;go_simp;try with_reducible rfl
    ·refine Each.fine rfl (fun ev w1 hR hb hh=>?_);clear hh;have e0:=hR.old 0 rfl;simp only [qA,qT,qZ,qO] at e0;refine Each.Goes.same ?_;go_simp;try with_reducible rfl
    ·refine Each.fine rfl (fun ev w1 hR hb hh=>?_);have e12:(ev (.tmp 12)=.pointer (some ⟨g,0,none⟩)):=hh.at 0;clear hh;refine Each.Goes.same ?_;go_simp;try with_reducible rfl
    ·refine Each.fine rfl (fun ev w1 hR hb hh=>?_);have e13:(ev (.tmp 13)=.pointer (some ⟨g,0,none⟩)):=hh.at 0;clear hh;refine Each.Goes.same ?_;go_simp;try with_reducible rfl
    ·refine Each.fine rfl (fun ev w1 hR hb hh=>?_);have e14:(ev (.tmp 14)=.pointer (some ⟨g,1,none⟩)):=hh.at 0;clear hh;have q1:=(HQ.out.below hb).c 1 _ rfl;have q2:=(HQ.out.below hb).c 2 _ rfl;have q3:=(HQ.out.below hb).c 3 _ rfl;have q4:=(HQ.out.below hb).c 4 _ rfl;have q5:=(HQ.out.below hb).c 5 _ rfl;have q6:=(HQ.out.below hb).c 6 _ rfl;have q7:=(HQ.out.below hb).c 7 _ rfl;have q8:=(HQ.out.below hb).c 8 _ rfl;have q9:=(HQ.out.below hb).c 9 _ rfl;have q10:=(HQ.out.below hb).c 10 _ rfl;refine Each.Goes.same ?_;go_simp;try with_reducible rfl
    ·refine Each.fine rfl (fun ev w1 hR hb hh=>?_);have e7:(ev (.tmp 7)=.string x):=hh.at 0;have e11:(ev (.tmp 11)=.int .u32 (p:Int)):=hh.at 1;have e15:(ev (.tmp 15)=.agg #[.int .i64 b.x0,.int .i64 b.x1,.int .i64 b.x2,.int .i64 b.x3,.int .i64 b.x4,.int .i64 b.x5,.int .i64 b.x6,.int .i64 b.x7,.bool b.ch,.bool b.od]):=hh.at 2;clear hh;have ef:=hR.func
     refine Each.Goes.enter 95 #[.string x,.int .u32 (p:Int),.agg #[.int .i64 b.x0,.int .i64 b.x1,.int .i64 b.x2,.int .i64 b.x3,.int .i64 b.x4,.int .i64 b.x5,.int .i64 b.x6,.int .i64 b.x7,.bool b.ch,.bool b.od]] (by go_simp) ((HZ.out w1).mono ?_);rintro r w2 ⟨rfl,hb2⟩;exact ⟨_,rfl,hb2,rfl⟩
    ·refine Each.fine rfl (fun ev w1 hR hb hh=>?_);have e16:(ev (.tmp 16)=.tuple #[.int .i64 0,.int .i64 0]):=hh.at 0;clear hh;refine Each.Goes.same ?_;go_simp;try with_reducible rfl
    ·refine Each.fine rfl (fun ev w1 hR hb hh=>?_);have e6:(ev (.tmp 6)=.tuple #[.int .i64 0,.int .i64 0]):=hh.at 0;clear hh;refine Each.Goes.same ?_;go_simp;try with_reducible rfl
    ·refine Each.fine rfl (fun ev w1 hR hb hh=>?_);have e6:(ev (.tmp 6)=.tuple #[.int .i64 0,.int .i64 0]):=hh.at 0;clear hh;refine Each.Goes.same ?_;go_simp;try with_reducible rfl
    ·refine Each.fine rfl (fun ev w1 hR hb hh=>?_);have e17:(ev (.tmp 17)=.int .i64 0):=hh.at 0;clear hh;refine Each.Goes.same ?_;go_simp;try with_reducible rfl
    ·refine Each.fine rfl (fun ev w1 hR hb hh=>?_);have e18:(ev (.tmp 18)=.int .i64 0):=hh.at 0;clear hh;refine Each.Goes.same ?_;go_simp;try with_reducible rfl
   intro g1 w2 hb hf;have z4:(g1 4=.int .i64 0):=hf.at 13;have z5:(g1 5=.int .i64 0):=hf.at 14;clear hf;simp only [Each.putg,Act.put,qI,qY,qX];rw [z4];rw [z5];have H1:=Lib.hid (H.out.below hb);have HB:=Lib.hid hb;clear HQ hb
   have H2:=Lib.hid ((H1.out.put 11 (.int .i64 6) {s with st:=6} rfl rfl rfl rfl rfl rfl).put 20 (.int .i64 0) {s with st:=6,lines:=0} rfl rfl rfl rfl rfl rfl)
   have HS2:=Lib.hid ((Step.of_below HB.out (L:=blks g q v f bd t o)).trans ((Step.set g 11 (.int .i64 6) (by simp)).trans (Step.set g 20 (.int .i64 0) (by simp))));have c11:=H1.out.cs.c11;have c20:=H1.out.cs.c20;have z11:=H1.out.marks 11;have z20:=H1.out.marks 20;go_upto_region 6 with fail
   generalize (w2.setCell ⟨g,11,none⟩ (.int .i64 6)).setCell ⟨g,20,none⟩ (.int .i64 0)=W1 at *;clear c11 c20 z11 z20 H1 HB;obtain ⟨S1,hS1⟩:∃S1:S,{s with st:=6,lines:=0}=S1:=⟨_,rfl⟩;have HS1:=Lib.hid hS1;rw [hS1] at H2;clear hS1
   have HQ:=Lib.hid ((H2.out.drew 1).bk)
   have HBW:=Lib.hid (show B≤(W1.drewN 1).heap.size from Nat.le_trans H2.out.own.ge (Nat.le_of_lt (H2.out.drew 1).own.lt));refine Each.region 11 [41,42,43,44,45,46,47,48,49,50,51]
    [Each.is (.pointer (some ⟨g,0,none⟩)),
      Each.is (.pointer (some ⟨g,0,none⟩)),
      Each.is (.pointer (some ⟨g,0,none⟩)),
      Each.is (.pointer (some ⟨g,0,none⟩)),
      Each.is (.int .u32 (p:Int)),
      Each.is (.pointer (some ⟨g,0,none⟩)),
      Each.is (.pointer (some ⟨g,0,none⟩)),
      Each.is (.pointer (some ⟨g,1,none⟩)),
      Each.is (.pointer (some ⟨g,1,none⟩)),
      Each.is (.int .i64 b.x0),
      fun v w=>∃q1,v=ptr q1∧W1.heap.size≤q1∧Ln.Rr w B q1 nil p (nl p (b.x0))]
    (.quiet 11 (.quiet 12 (.act 13 .done))) (by kernel_rfl) (by kernel_rfl) (by kernel_rfl) (by kernel_rfl) (fun _ _ d _ _ h=>by cases d<;>exact h) (by rfl) (by rfl)
    ⟨Each.Lasts.eq _,Each.Lasts.eq _,Each.Lasts.eq _,Each.Lasts.eq _,Each.Lasts.eq _,Each.Lasts.eq _,Each.Lasts.eq _,Each.Lasts.eq _,Each.Lasts.eq _,Each.Lasts.eq _,((fun _ _ _ hb h=>by obtain ⟨q1,e1,h1,h2⟩:=h;exact ⟨q1,e1,h1,rr_below h2 hb⟩)),trivial⟩ ?_ ?_
   ·refine ⟨?_,?_,?_,?_,?_,?_,?_,?_,?_,?_,?_,trivial⟩
    ·refine Each.fine rfl (fun ev w1 hR hb hh=>?_);clear hh;have e0:=hR.old 0 rfl;simp only [qA,qT,qZ,qO] at e0;refine Each.Goes.same ?_;go_simp;try with_reducible rfl
    ·refine Each.fine rfl (fun ev w1 hR hb hh=>?_);clear hh;have e0:=hR.old 0 rfl;simp only [qA,qT,qZ,qO] at e0;refine Each.Goes.same ?_;go_simp;try with_reducible rfl
    ·refine Each.fine rfl (fun ev w1 hR hb hh=>?_);have e42:(ev (.tmp 42)=.pointer (some ⟨g,0,none⟩)):=hh.at 0;clear hh;refine Each.Goes.same ?_;go_simp;try with_reducible rfl
    ·refine Each.fine rfl (fun ev w1 hR hb hh=>?_);have e43:(ev (.tmp 43)=.pointer (some ⟨g,0,none⟩)):=hh.at 0;clear hh;refine Each.Goes.same ?_;go_simp;try with_reducible rfl
    ·refine Each.fine rfl (fun ev w1 hR hb hh=>?_);have e44:(ev (.tmp 44)=.pointer (some ⟨g,0,none⟩)):=hh.at 0;clear hh;have q0:=(HQ.out.below hb).c 0 _ rfl;refine Each.Goes.same ?_;go_simp;try with_reducible rfl
    ·refine Each.fine rfl (fun ev w1 hR hb hh=>?_);clear hh;have e0:=hR.old 0 rfl;simp only [qA,qT,qZ,qO] at e0;refine Each.Goes.same ?_;go_simp;try with_reducible rfl
    ·refine Each.fine rfl (fun ev w1 hR hb hh=>?_);have e46:(ev (.tmp 46)=.pointer (some ⟨g,0,none⟩)):=hh.at 0;clear hh;refine Each.Goes.same ?_;go_simp;try with_reducible rfl
    ·refine Each.fine rfl (fun ev w1 hR hb hh=>?_);have e47:(ev (.tmp 47)=.pointer (some ⟨g,0,none⟩)):=hh.at 0;clear hh;refine Each.Goes.same ?_;go_simp;try with_reducible rfl
    ·refine Each.fine rfl (fun ev w1 hR hb hh=>?_);have e48:(ev (.tmp 48)=.pointer (some ⟨g,1,none⟩)):=hh.at 0;clear hh;refine Each.Goes.same ?_;go_simp;try with_reducible rfl
    ·refine Each.fine rfl (fun ev w1 hR hb hh=>?_);have e49:(ev (.tmp 49)=.pointer (some ⟨g,1,none⟩)):=hh.at 0;clear hh;have q1:=(HQ.out.below hb).c 1 _ rfl;refine Each.Goes.same ?_;go_simp;try with_reducible rfl
    ·refine Each.fine rfl (fun ev w1 hR hb hh=>?_);have e45:(ev (.tmp 45)=.int .u32 (p:Int)):=hh.at 0;have e50:(ev (.tmp 50)=.int .i64 b.x0):=hh.at 1;clear hh;have ef:=hR.func
     refine Each.Goes.enter 55 #[.int .u32 (p:Int),.int .i64 (b.x0)] (by go_simp) ((rnew_line B (b.x0) w1 (Nat.le_trans HBW.out hb.size)).mono ?_);rintro r w2 ⟨q1,rfl,h1,h2,hb2⟩;exact ⟨_,rfl,hb2,q1,rfl,Nat.le_trans hb.size h1,h2⟩
   intro g1 w2 hb hf;have z41:(g1 41=.pointer (some ⟨g,0,none⟩)):=hf.at 0;have z51:((fun v w=>∃q1,v=ptr q1∧W1.heap.size≤q1∧Ln.Rr w B q1 nil p (nl p (b.x0))) (g1 51) w2):=hf.at 10;clear hf;obtain ⟨q1,e1,hq1,hr1⟩:=z51;simp only [Each.putg,Act.put,qI,qY,qX];rw [e1,z41];simp only [Tree.grow,Tree.put1,qZ,qS];refine Tree.quiet (by rfl) (ptr g) (fun _ _=>by go_simp) ?_;simp only [Act.put,qI,qY,qX];refine Tree.quiet (by rfl) (.pointer (some ⟨g,12,none⟩)) (fun _ _=>by go_simp) ?_;simp only [Act.put,qI,qY,qX];have c12:=(H2.out.below hb).cs.c12;have z12:=(H2.out.below hb).marks 12
   refine Tree.change (by rfl) (fun K hK=>?_);go_simp;refine hK _ _ trivial ?_;clear hK K;refine Tree.done ?_;have HL:=H2.out.line hb hr1 hq1
   have SL:=(Step.line (g:=g) (q:=q) (v:=v) (f:=f) (bd:=bd) (t:=t) (o:=o) hb hq1).trans (Step.set g 12 (ptr q1) (by simp));clear HQ HBW hr1 hq1 c12 z12;rw [←HS1.out] at HL;go_wp2;go_end0;exact ⟨rfl,q1,_,_,_,_,HL,HS2.out.trans SL⟩
  ·obtain ⟨bb,cb,eb, -⟩:=Ln.own_slice H.out.own.D;subst eb
   have HD:=Lib.hid (Base.wrap_in (b.x3-(s.r.body.length:Int)) (by omega) (by omega));have tz:¬(n:Int)=0:=by omega
   have tz':((n:Int)==0)=false:=beq_eq_false_iff_ne.2 tz
   by_cases hov:b.x3-(s.r.body.length:Int)<(n:Int)
   ·have e:s.chunk p b x.data.toList=s.fail 413:=by
     unfold S.chunk;rw [hZ];show (if (0:Int)≠0 then _ else if (n:Int)=0 then _ else if b.x3-(s.r.body.length:Int)<(n:Int) then _ else _)= _;rw [if_neg (by decide),if_neg tz,if_pos hov]
    rw [e];have HT:=Lib.hid hov;clear e hZ h0 h1 hn;go_enter Tryz.func83,Tryz.ntmps83;go_upto_region 0 with fail
    refine Each.region_all 15 [7,8,9,10,11,12,13,14,15,16,6,17,18,4,5]
     [Each.is (.string x),
       Each.is (.pointer (some ⟨g,0,none⟩)),
       Each.is (.pointer (some ⟨g,0,none⟩)),
       Each.is (.pointer (some ⟨g,0,none⟩)),
       Each.is (.int .u32 (p:Int)),
       Each.is (.pointer (some ⟨g,0,none⟩)),
       Each.is (.pointer (some ⟨g,0,none⟩)),
       Each.is (.pointer (some ⟨g,1,none⟩)),
       Each.is (.agg #[.int .i64 b.x0,.int .i64 b.x1,.int .i64 b.x2,.int .i64 b.x3,.int .i64 b.x4,.int .i64 b.x5,.int .i64 b.x6,.int .i64 b.x7,.bool b.ch,.bool b.od]),
       Each.is (.tuple #[.int .i64 (n:Int),.int .i64 0]),
       Each.is (.tuple #[.int .i64 (n:Int),.int .i64 0]),
       Each.is (.int .i64 (n:Int)),
       Each.is (.int .i64 0),
       Each.is (.int .i64 (n:Int)),
       Each.is (.int .i64 0)]
      (by kernel_rfl) (by kernel_rfl) (by kernel_rfl) (by kernel_rfl) (fun _ _ d _ _ h=>by cases d<;>exact h) (by rfl) (by rfl)
     (by repeat first | exact trivial | refine ⟨Each.Lasts.eq _,?_⟩) ?_ ?_
    ·refine ⟨?_,?_,?_,?_,?_,?_,?_,?_,?_,?_,?_,?_,?_,?_,?_,trivial⟩
     ·refine Each.fine rfl (fun ev w1 hR hb hh=>?_);clear hh;have e1:=hR.old 1 rfl;simp only [qA,qT,qS,qZ,qO] at e1;refine Each.Goes.same ?_;go_simp;try with_reducible rfl
     ·refine Each.fine rfl (fun ev w1 hR hb hh=>?_);clear hh;have e0:=hR.old 0 rfl;simp only [qA,qT,qZ,qO] at e0;refine Each.Goes.same ?_;go_simp;try with_reducible rfl
     ·refine Each.fine rfl (fun ev w1 hR hb hh=>?_);have e8:(ev (.tmp 8)=.pointer (some ⟨g,0,none⟩)):=hh.at 0;clear hh;refine Each.Goes.same ?_;go_simp;try with_reducible rfl
     ·refine Each.fine rfl (fun ev w1 hR hb hh=>?_);have e9:(ev (.tmp 9)=.pointer (some ⟨g,0,none⟩)):=hh.at 0;clear hh;refine Each.Goes.same ?_;go_simp;try with_reducible rfl
     ·refine Each.fine rfl (fun ev w1 hR hb hh=>?_);have e10:(ev (.tmp 10)=.pointer (some ⟨g,0,none⟩)):=hh.at 0;clear hh;have q0:=(HQ.out.below hb).c 0 _ rfl;refine Each.Goes.same ?_;go_simp;try with_reducible rfl
     ·refine Each.fine rfl (fun ev w1 hR hb hh=>?_);clear hh;have e0:=hR.old 0 rfl;simp only [qA,qT,qZ,qO] at e0;refine Each.Goes.same ?_;go_simp;try with_reducible rfl
     ·refine Each.fine rfl (fun ev w1 hR hb hh=>?_);have e12:(ev (.tmp 12)=.pointer (some ⟨g,0,none⟩)):=hh.at 0;clear hh;refine Each.Goes.same ?_;go_simp;try with_reducible rfl
     ·refine Each.fine rfl (fun ev w1 hR hb hh=>?_);have e13:(ev (.tmp 13)=.pointer (some ⟨g,0,none⟩)):=hh.at 0;clear hh;refine Each.Goes.same ?_;go_simp;try with_reducible rfl
     ·refine Each.fine rfl (fun ev w1 hR hb hh=>?_);have e14:(ev (.tmp 14)=.pointer (some ⟨g,1,none⟩)):=hh.at 0;clear hh;have q1:=(HQ.out.below hb).c 1 _ rfl;have q2:=(HQ.out.below hb).c 2 _ rfl;have q3:=(HQ.out.below hb).c 3 _ rfl;have q4:=(HQ.out.below hb).c 4 _ rfl;have q5:=(HQ.out.below hb).c 5 _ rfl;have q6:=(HQ.out.below hb).c 6 _ rfl;have q7:=(HQ.out.below hb).c 7 _ rfl;have q8:=(HQ.out.below hb).c 8 _ rfl;have q9:=(HQ.out.below hb).c 9 _ rfl;have q10:=(HQ.out.below hb).c 10 _ rfl;refine Each.Goes.same ?_;go_simp;try with_reducible rfl
     ·refine Each.fine rfl (fun ev w1 hR hb hh=>?_);have e7:(ev (.tmp 7)=.string x):=hh.at 0;have e11:(ev (.tmp 11)=.int .u32 (p:Int)):=hh.at 1;have e15:(ev (.tmp 15)=.agg #[.int .i64 b.x0,.int .i64 b.x1,.int .i64 b.x2,.int .i64 b.x3,.int .i64 b.x4,.int .i64 b.x5,.int .i64 b.x6,.int .i64 b.x7,.bool b.ch,.bool b.od]):=hh.at 2;clear hh;have ef:=hR.func
      refine Each.Goes.enter 95 #[.string x,.int .u32 (p:Int),.agg #[.int .i64 b.x0,.int .i64 b.x1,.int .i64 b.x2,.int .i64 b.x3,.int .i64 b.x4,.int .i64 b.x5,.int .i64 b.x6,.int .i64 b.x7,.bool b.ch,.bool b.od]] (by go_simp) ((HZ.out w1).mono ?_);rintro r w2 ⟨rfl,hb2⟩;exact ⟨_,rfl,hb2,rfl⟩
     ·refine Each.fine rfl (fun ev w1 hR hb hh=>?_);have e16:(ev (.tmp 16)=.tuple #[.int .i64 (n:Int),.int .i64 0]):=hh.at 0;clear hh;refine Each.Goes.same ?_;go_simp;try with_reducible rfl
     ·refine Each.fine rfl (fun ev w1 hR hb hh=>?_);have e6:(ev (.tmp 6)=.tuple #[.int .i64 (n:Int),.int .i64 0]):=hh.at 0;clear hh;refine Each.Goes.same ?_;go_simp;try with_reducible rfl
     ·refine Each.fine rfl (fun ev w1 hR hb hh=>?_);have e6:(ev (.tmp 6)=.tuple #[.int .i64 (n:Int),.int .i64 0]):=hh.at 0;clear hh;refine Each.Goes.same ?_;go_simp;try with_reducible rfl
     ·refine Each.fine rfl (fun ev w1 hR hb hh=>?_);have e17:(ev (.tmp 17)=.int .i64 (n:Int)):=hh.at 0;clear hh;refine Each.Goes.same ?_;go_simp;try with_reducible rfl
     ·refine Each.fine rfl (fun ev w1 hR hb hh=>?_);have e18:(ev (.tmp 18)=.int .i64 0):=hh.at 0;clear hh;refine Each.Goes.same ?_;go_simp;try with_reducible rfl
    intro g1 w2 hb hf;have z4:(g1 4=.int .i64 (n:Int)):=hf.at 13;have z5:(g1 5=.int .i64 0):=hf.at 14;clear hf;simp only [Each.putg,Act.put,qI,qY,qX];rw [z4];rw [z5];have H1:=Lib.hid (H.out.below hb);have HB:=Lib.hid hb;clear HQ hb;go_upto_region 7 with fail
    have HQ:=Lib.hid ((H1.out.drew 1).bk);refine Each.region_all 15 [55,56,57,58,59,60,61,62,63,64,65,66,67,68,54]
     [Each.is (.int .i64 ((n:Nat):Int)),
       Each.is (.pointer (some ⟨g,0,none⟩)),
       Each.is (.pointer (some ⟨g,0,none⟩)),
       Each.is (.pointer (some ⟨g,1,none⟩)),
       Each.is (.pointer (some ⟨g,4,none⟩)),
       Each.is (.int .i64 b.x3),
       Each.is (.pointer (some ⟨g,0,none⟩)),
       Each.is (.pointer (some ⟨g,0,none⟩)),
       Each.is (.pointer (some ⟨g,13,none⟩)),
       Each.is (.pointer (some ⟨g,18,none⟩)),
       Each.is (.slice bb s.r.body.length cb),
       Each.is (.int .i64 ((s.r.body.length:Nat):Int)),
       Each.is (.int .i64 (b.x3-(s.r.body.length:Int))),
       Each.is (.bool true),
       Each.is (.bool true)]
      (by kernel_rfl) (by kernel_rfl) (by kernel_rfl) (by kernel_rfl) (fun _ _ d _ _ h=>by cases d<;>exact h) (by rfl) (by rfl)
     (by repeat first | exact trivial | refine ⟨Each.Lasts.eq _,?_⟩) ?_ ?_
    ·refine ⟨?_,?_,?_,?_,?_,?_,?_,?_,?_,?_,?_,?_,?_,?_,?_,trivial⟩
     ·refine Each.fine rfl (fun ev w1 hR hb hh=>?_);clear hh;have e4:=hR.old 4 rfl;simp only [qA,qT,qS,qZ,qO] at e4;refine Each.Goes.same ?_;go_simp;try with_reducible rfl
     ·refine Each.fine rfl (fun ev w1 hR hb hh=>?_);clear hh;have e0:=hR.old 0 rfl;simp only [qA,qT,qZ,qO] at e0;refine Each.Goes.same ?_;go_simp;try with_reducible rfl
     ·refine Each.fine rfl (fun ev w1 hR hb hh=>?_);have e56:(ev (.tmp 56)=.pointer (some ⟨g,0,none⟩)):=hh.at 0;clear hh;refine Each.Goes.same ?_;go_simp;try with_reducible rfl
     ·refine Each.fine rfl (fun ev w1 hR hb hh=>?_);have e57:(ev (.tmp 57)=.pointer (some ⟨g,0,none⟩)):=hh.at 0;clear hh;refine Each.Goes.same ?_;go_simp;try with_reducible rfl
     ·refine Each.fine rfl (fun ev w1 hR hb hh=>?_);have e58:(ev (.tmp 58)=.pointer (some ⟨g,1,none⟩)):=hh.at 0;clear hh;refine Each.Goes.same ?_;go_simp;try with_reducible rfl
     ·refine Each.fine rfl (fun ev w1 hR hb hh=>?_);have e59:(ev (.tmp 59)=.pointer (some ⟨g,4,none⟩)):=hh.at 0;clear hh;have q4:=(HQ.out.below hb).c 4 _ rfl;refine Each.Goes.same ?_;go_simp;try with_reducible rfl
     ·refine Each.fine rfl (fun ev w1 hR hb hh=>?_);clear hh;have e0:=hR.old 0 rfl;simp only [qA,qT,qZ,qO] at e0;refine Each.Goes.same ?_;go_simp;try with_reducible rfl
     ·refine Each.fine rfl (fun ev w1 hR hb hh=>?_);have e61:(ev (.tmp 61)=.pointer (some ⟨g,0,none⟩)):=hh.at 0;clear hh;refine Each.Goes.same ?_;go_simp;try with_reducible rfl
     ·refine Each.fine rfl (fun ev w1 hR hb hh=>?_);have e62:(ev (.tmp 62)=.pointer (some ⟨g,0,none⟩)):=hh.at 0;clear hh;refine Each.Goes.same ?_;go_simp;try with_reducible rfl
     ·refine Each.fine rfl (fun ev w1 hR hb hh=>?_);have e63:(ev (.tmp 63)=.pointer (some ⟨g,13,none⟩)):=hh.at 0;clear hh;refine Each.Goes.same ?_;go_simp;try with_reducible rfl
     ·refine Each.fine rfl (fun ev w1 hR hb hh=>?_);have e64:(ev (.tmp 64)=.pointer (some ⟨g,18,none⟩)):=hh.at 0;clear hh;have q18:=(HQ.out.below hb).c 18 _ rfl;refine Each.Goes.same ?_;go_simp;try with_reducible rfl
     ·refine Each.fine rfl (fun ev w1 hR hb hh=>?_);have e65:(ev (.tmp 65)=.slice bb s.r.body.length cb):=hh.at 0;clear hh;refine Each.Goes.same ?_;go_simp;try with_reducible rfl
     ·refine Each.fine rfl (fun ev w1 hR hb hh=>?_);have e60:(ev (.tmp 60)=.int .i64 b.x3):=hh.at 0;have e66:(ev (.tmp 66)=.int .i64 ((s.r.body.length:Nat):Int)):=hh.at 1;clear hh;have d1:=HD.out;refine Each.Goes.same ?_;go_simp;try with_reducible rfl
     ·refine Each.fine rfl (fun ev w1 hR hb hh=>?_);have e55:(ev (.tmp 55)=.int .i64 ((n:Nat):Int)):=hh.at 0;have e67:(ev (.tmp 67)=.int .i64 (b.x3-(s.r.body.length:Int))):=hh.at 1;clear hh;have d2:=HT.out;refine Each.Goes.same ?_;go_simp;try with_reducible rfl
     ·refine Each.fine rfl (fun ev w1 hR hb hh=>?_);have e68:(ev (.tmp 68)=.bool true):=hh.at 0;clear hh;refine Each.Goes.same ?_;go_simp;try with_reducible rfl
    intro g1 w3 hb hf;have z54:(g1 54=.bool true):=hf.at 14;clear hf;simp only [Each.putg,Act.put,qI,qY,qX];rw [z54]
    have H2:=Lib.hid (H1.out.below hb);have HS2:=Lib.hid ((Step.of_below HB.out (L:=blks g q v f (.slice bb s.r.body.length cb) t o)).trans (Step.of_below hb));clear H1 HB hb HQ
    have HFA:=Lib.hid (fail_at H2.out 413 413 rfl)
    go_wp2_with (go_at_call 56;with_reducible refine HFA.out.mono ?_;rintro r w4 ⟨rfl,hP,hS⟩);go_end0;exact ⟨rfl,_,_,_,_,_,hP,HS2.out.trans hS⟩
   ·have e:s.chunk p b x.data.toList={s with st:=4,left:=n}:=by
     unfold S.chunk;rw [hZ];show (if (0:Int)≠0 then _ else if (n:Int)=0 then _ else if b.x3-(s.r.body.length:Int)<(n:Int) then _ else ({s with st:=4,left:=(n:Int).toNat}:S))= _;rw [if_neg (by decide),if_neg tz,if_neg hov,Int.toNat_natCast]
    rw [e];have HT:=Lib.hid hov;clear e hZ h0 h1 hn;go_enter Tryz.func83,Tryz.ntmps83;go_upto_region 0 with fail
    refine Each.region_all 15 [7,8,9,10,11,12,13,14,15,16,6,17,18,4,5]
     [Each.is (.string x),
       Each.is (.pointer (some ⟨g,0,none⟩)),
       Each.is (.pointer (some ⟨g,0,none⟩)),
       Each.is (.pointer (some ⟨g,0,none⟩)),
       Each.is (.int .u32 (p:Int)),
       Each.is (.pointer (some ⟨g,0,none⟩)),
       Each.is (.pointer (some ⟨g,0,none⟩)),
       Each.is (.pointer (some ⟨g,1,none⟩)),
       Each.is (.agg #[.int .i64 b.x0,.int .i64 b.x1,.int .i64 b.x2,.int .i64 b.x3,.int .i64 b.x4,.int .i64 b.x5,.int .i64 b.x6,.int .i64 b.x7,.bool b.ch,.bool b.od]),
       Each.is (.tuple #[.int .i64 (n:Int),.int .i64 0]),
       Each.is (.tuple #[.int .i64 (n:Int),.int .i64 0]),
       Each.is (.int .i64 (n:Int)),
       Each.is (.int .i64 0),
       Each.is (.int .i64 (n:Int)),
       Each.is (.int .i64 0)]
      (by kernel_rfl) (by kernel_rfl) (by kernel_rfl) (by kernel_rfl) (fun _ _ d _ _ h=>by cases d<;>exact h) (by rfl) (by rfl)
     (by repeat first | exact trivial | refine ⟨Each.Lasts.eq _,?_⟩) ?_ ?_
    ·refine ⟨?_,?_,?_,?_,?_,?_,?_,?_,?_,?_,?_,?_,?_,?_,?_,trivial⟩
     ·refine Each.fine rfl (fun ev w1 hR hb hh=>?_);clear hh;have e1:=hR.old 1 rfl;simp only [qA,qT,qS,qZ,qO] at e1;refine Each.Goes.same ?_;go_simp;try with_reducible rfl
     ·refine Each.fine rfl (fun ev w1 hR hb hh=>?_);clear hh;have e0:=hR.old 0 rfl;simp only [qA,qT,qZ,qO] at e0;refine Each.Goes.same ?_;go_simp;try with_reducible rfl
     ·refine Each.fine rfl (fun ev w1 hR hb hh=>?_);have e8:(ev (.tmp 8)=.pointer (some ⟨g,0,none⟩)):=hh.at 0;clear hh;refine Each.Goes.same ?_;go_simp;try with_reducible rfl
     ·refine Each.fine rfl (fun ev w1 hR hb hh=>?_);have e9:(ev (.tmp 9)=.pointer (some ⟨g,0,none⟩)):=hh.at 0;clear hh;refine Each.Goes.same ?_;go_simp;try with_reducible rfl
     ·refine Each.fine rfl (fun ev w1 hR hb hh=>?_);have e10:(ev (.tmp 10)=.pointer (some ⟨g,0,none⟩)):=hh.at 0;clear hh;have q0:=(HQ.out.below hb).c 0 _ rfl;refine Each.Goes.same ?_;go_simp;try with_reducible rfl
     ·refine Each.fine rfl (fun ev w1 hR hb hh=>?_);clear hh;have e0:=hR.old 0 rfl;simp only [qA,qT,qZ,qO] at e0;refine Each.Goes.same ?_;go_simp;try with_reducible rfl
     ·refine Each.fine rfl (fun ev w1 hR hb hh=>?_);have e12:(ev (.tmp 12)=.pointer (some ⟨g,0,none⟩)):=hh.at 0;clear hh;refine Each.Goes.same ?_;go_simp;try with_reducible rfl
     ·refine Each.fine rfl (fun ev w1 hR hb hh=>?_);have e13:(ev (.tmp 13)=.pointer (some ⟨g,0,none⟩)):=hh.at 0;clear hh;refine Each.Goes.same ?_;go_simp;try with_reducible rfl
     ·refine Each.fine rfl (fun ev w1 hR hb hh=>?_);have e14:(ev (.tmp 14)=.pointer (some ⟨g,1,none⟩)):=hh.at 0;clear hh;have q1:=(HQ.out.below hb).c 1 _ rfl;have q2:=(HQ.out.below hb).c 2 _ rfl;have q3:=(HQ.out.below hb).c 3 _ rfl;have q4:=(HQ.out.below hb).c 4 _ rfl;have q5:=(HQ.out.below hb).c 5 _ rfl;have q6:=(HQ.out.below hb).c 6 _ rfl;have q7:=(HQ.out.below hb).c 7 _ rfl;have q8:=(HQ.out.below hb).c 8 _ rfl;have q9:=(HQ.out.below hb).c 9 _ rfl;have q10:=(HQ.out.below hb).c 10 _ rfl;refine Each.Goes.same ?_;go_simp;try with_reducible rfl
     ·refine Each.fine rfl (fun ev w1 hR hb hh=>?_);have e7:(ev (.tmp 7)=.string x):=hh.at 0;have e11:(ev (.tmp 11)=.int .u32 (p:Int)):=hh.at 1;have e15:(ev (.tmp 15)=.agg #[.int .i64 b.x0,.int .i64 b.x1,.int .i64 b.x2,.int .i64 b.x3,.int .i64 b.x4,.int .i64 b.x5,.int .i64 b.x6,.int .i64 b.x7,.bool b.ch,.bool b.od]):=hh.at 2;clear hh;have ef:=hR.func
      refine Each.Goes.enter 95 #[.string x,.int .u32 (p:Int),.agg #[.int .i64 b.x0,.int .i64 b.x1,.int .i64 b.x2,.int .i64 b.x3,.int .i64 b.x4,.int .i64 b.x5,.int .i64 b.x6,.int .i64 b.x7,.bool b.ch,.bool b.od]] (by go_simp) ((HZ.out w1).mono ?_);rintro r w2 ⟨rfl,hb2⟩;exact ⟨_,rfl,hb2,rfl⟩
     ·refine Each.fine rfl (fun ev w1 hR hb hh=>?_);have e16:(ev (.tmp 16)=.tuple #[.int .i64 (n:Int),.int .i64 0]):=hh.at 0;clear hh;refine Each.Goes.same ?_;go_simp;try with_reducible rfl
     ·refine Each.fine rfl (fun ev w1 hR hb hh=>?_);have e6:(ev (.tmp 6)=.tuple #[.int .i64 (n:Int),.int .i64 0]):=hh.at 0;clear hh;refine Each.Goes.same ?_;go_simp;try with_reducible rfl
     ·refine Each.fine rfl (fun ev w1 hR hb hh=>?_);have e6:(ev (.tmp 6)=.tuple #[.int .i64 (n:Int),.int .i64 0]):=hh.at 0;clear hh;refine Each.Goes.same ?_;go_simp;try with_reducible rfl
     ·refine Each.fine rfl (fun ev w1 hR hb hh=>?_);have e17:(ev (.tmp 17)=.int .i64 (n:Int)):=hh.at 0;clear hh;refine Each.Goes.same ?_;go_simp;try with_reducible rfl
     ·refine Each.fine rfl (fun ev w1 hR hb hh=>?_);have e18:(ev (.tmp 18)=.int .i64 0):=hh.at 0;clear hh;refine Each.Goes.same ?_;go_simp;try with_reducible rfl
    intro g1 w2 hb hf;have z4:(g1 4=.int .i64 (n:Int)):=hf.at 13;have z5:(g1 5=.int .i64 0):=hf.at 14;clear hf;simp only [Each.putg,Act.put,qI,qY,qX];rw [z4];rw [z5];have H1:=Lib.hid (H.out.below hb);have HB:=Lib.hid hb;clear HQ hb;go_upto_region 7 with fail
    have HQ:=Lib.hid ((H1.out.drew 1).bk);refine Each.region_all 15 [55,56,57,58,59,60,61,62,63,64,65,66,67,68,54]
     [Each.is (.int .i64 ((n:Nat):Int)),
       Each.is (.pointer (some ⟨g,0,none⟩)),
       Each.is (.pointer (some ⟨g,0,none⟩)),
       Each.is (.pointer (some ⟨g,1,none⟩)),
       Each.is (.pointer (some ⟨g,4,none⟩)),
       Each.is (.int .i64 b.x3),
       Each.is (.pointer (some ⟨g,0,none⟩)),
       Each.is (.pointer (some ⟨g,0,none⟩)),
       Each.is (.pointer (some ⟨g,13,none⟩)),
       Each.is (.pointer (some ⟨g,18,none⟩)),
       Each.is (.slice bb s.r.body.length cb),
       Each.is (.int .i64 ((s.r.body.length:Nat):Int)),
       Each.is (.int .i64 (b.x3-(s.r.body.length:Int))),
       Each.is (.bool false),
       Each.is (.bool false)]
      (by kernel_rfl) (by kernel_rfl) (by kernel_rfl) (by kernel_rfl) (fun _ _ d _ _ h=>by cases d<;>exact h) (by rfl) (by rfl)
     (by repeat first | exact trivial | refine ⟨Each.Lasts.eq _,?_⟩) ?_ ?_
    ·refine ⟨?_,?_,?_,?_,?_,?_,?_,?_,?_,?_,?_,?_,?_,?_,?_,trivial⟩
     ·refine Each.fine rfl (fun ev w1 hR hb hh=>?_);clear hh;have e4:=hR.old 4 rfl;simp only [qA,qT,qS,qZ,qO] at e4;refine Each.Goes.same ?_;go_simp;try with_reducible rfl
     ·refine Each.fine rfl (fun ev w1 hR hb hh=>?_);clear hh;have e0:=hR.old 0 rfl;simp only [qA,qT,qZ,qO] at e0;refine Each.Goes.same ?_;go_simp;try with_reducible rfl
     ·refine Each.fine rfl (fun ev w1 hR hb hh=>?_);have e56:(ev (.tmp 56)=.pointer (some ⟨g,0,none⟩)):=hh.at 0;clear hh;refine Each.Goes.same ?_;go_simp;try with_reducible rfl
     ·refine Each.fine rfl (fun ev w1 hR hb hh=>?_);have e57:(ev (.tmp 57)=.pointer (some ⟨g,0,none⟩)):=hh.at 0;clear hh;refine Each.Goes.same ?_;go_simp;try with_reducible rfl
     ·refine Each.fine rfl (fun ev w1 hR hb hh=>?_);have e58:(ev (.tmp 58)=.pointer (some ⟨g,1,none⟩)):=hh.at 0;clear hh;refine Each.Goes.same ?_;go_simp;try with_reducible rfl
     ·refine Each.fine rfl (fun ev w1 hR hb hh=>?_);have e59:(ev (.tmp 59)=.pointer (some ⟨g,4,none⟩)):=hh.at 0;clear hh;have q4:=(HQ.out.below hb).c 4 _ rfl;refine Each.Goes.same ?_;go_simp;try with_reducible rfl
     ·refine Each.fine rfl (fun ev w1 hR hb hh=>?_);clear hh;have e0:=hR.old 0 rfl;simp only [qA,qT,qZ,qO] at e0;refine Each.Goes.same ?_;go_simp;try with_reducible rfl
     ·refine Each.fine rfl (fun ev w1 hR hb hh=>?_);have e61:(ev (.tmp 61)=.pointer (some ⟨g,0,none⟩)):=hh.at 0;clear hh;refine Each.Goes.same ?_;go_simp;try with_reducible rfl
     ·refine Each.fine rfl (fun ev w1 hR hb hh=>?_);have e62:(ev (.tmp 62)=.pointer (some ⟨g,0,none⟩)):=hh.at 0;clear hh;refine Each.Goes.same ?_;go_simp;try with_reducible rfl
     ·refine Each.fine rfl (fun ev w1 hR hb hh=>?_);have e63:(ev (.tmp 63)=.pointer (some ⟨g,13,none⟩)):=hh.at 0;clear hh;refine Each.Goes.same ?_;go_simp;try with_reducible rfl
     ·refine Each.fine rfl (fun ev w1 hR hb hh=>?_);have e64:(ev (.tmp 64)=.pointer (some ⟨g,18,none⟩)):=hh.at 0;clear hh;have q18:=(HQ.out.below hb).c 18 _ rfl;refine Each.Goes.same ?_;go_simp;try with_reducible rfl
     ·refine Each.fine rfl (fun ev w1 hR hb hh=>?_);have e65:(ev (.tmp 65)=.slice bb s.r.body.length cb):=hh.at 0;clear hh;refine Each.Goes.same ?_;go_simp;try with_reducible rfl
     ·refine Each.fine rfl (fun ev w1 hR hb hh=>?_);have e60:(ev (.tmp 60)=.int .i64 b.x3):=hh.at 0;have e66:(ev (.tmp 66)=.int .i64 ((s.r.body.length:Nat):Int)):=hh.at 1;clear hh;have d1:=HD.out;refine Each.Goes.same ?_;go_simp;try with_reducible rfl
     ·refine Each.fine rfl (fun ev w1 hR hb hh=>?_);have e55:(ev (.tmp 55)=.int .i64 ((n:Nat):Int)):=hh.at 0;have e67:(ev (.tmp 67)=.int .i64 (b.x3-(s.r.body.length:Int))):=hh.at 1;clear hh;have d2:=HT.out;refine Each.Goes.same ?_;go_simp;try with_reducible rfl
     ·refine Each.fine rfl (fun ev w1 hR hb hh=>?_);have e68:(ev (.tmp 68)=.bool false):=hh.at 0;clear hh;refine Each.Goes.same ?_;go_simp;try with_reducible rfl
    intro g1 w3 hb hf;have z54:(g1 54=.bool false):=hf.at 14;clear hf;simp only [Each.putg,Act.put,qI,qY,qX];rw [z54]
    have H2:=Lib.hid (H1.out.below hb);have HS2:=Lib.hid ((Step.of_below HB.out (L:=blks g q v f (.slice bb s.r.body.length cb) t o)).trans (Step.of_below hb));clear H1 HB hb HQ
    have H3:=Lib.hid ((H2.out.put 11 (.int .i64 4) {s with st:=4} rfl rfl rfl rfl rfl rfl).put 22 (.int .i64 (n:Int)) {s with st:=4,left:=n} rfl rfl rfl rfl rfl rfl)
    have HS3:=Lib.hid (HS2.out.trans ((Step.set g 11 (.int .i64 4) (by simp)).trans (Step.set g 22 (.int .i64 (n:Int)) (by simp))));have c11:=H2.out.cs.c11;have c22:=H2.out.cs.c22;have z11:=H2.out.marks 11;have z22:=H2.out.marks 22;go_wp2;go_end0;exact ⟨rfl,_,_,_,_,_,H3.out,HS3.out⟩
 ·have e2:z2=400:=e2;subst e2
  have HZ:=Lib.hid (show∀w,Calls Tryz.prog 95 #[.string x,.int .u32 (p:Int),.agg #[.int .i64 b.x0,.int .i64 b.x1,.int .i64 b.x2,.int .i64 b.x3,.int .i64 b.x4,.int .i64 b.x5,.int .i64 b.x6,.int .i64 b.x7,.bool b.ch,.bool b.od]] w fun e w'=>e=.returned (.tuple #[.int .i64 z1,.int .i64 400])∧Below w.heap.size w w' from fun w=>by have:=hz w;rw [hZ] at this;exact this);have e:s.chunk p b x.data.toList=s.fail 400:=by unfold S.chunk;rw [hZ];rfl
  rw [e];clear hz hZ e;go_enter Tryz.func83,Tryz.ntmps83;go_upto_region 0 with fail
  refine Each.region_all 15 [7,8,9,10,11,12,13,14,15,16,6,17,18,4,5]
   [Each.is (.string x),
     Each.is (.pointer (some ⟨g,0,none⟩)),
     Each.is (.pointer (some ⟨g,0,none⟩)),
     Each.is (.pointer (some ⟨g,0,none⟩)),
     Each.is (.int .u32 (p:Int)),
     Each.is (.pointer (some ⟨g,0,none⟩)),
     Each.is (.pointer (some ⟨g,0,none⟩)),
     Each.is (.pointer (some ⟨g,1,none⟩)),
     Each.is (.agg #[.int .i64 b.x0,.int .i64 b.x1,.int .i64 b.x2,.int .i64 b.x3,.int .i64 b.x4,.int .i64 b.x5,.int .i64 b.x6,.int .i64 b.x7,.bool b.ch,.bool b.od]),
     Each.is (.tuple #[.int .i64 z1,.int .i64 400]),
     Each.is (.tuple #[.int .i64 z1,.int .i64 400]),
     Each.is (.int .i64 z1),
     Each.is (.int .i64 400),
     Each.is (.int .i64 z1),
     Each.is (.int .i64 400)]
    (by kernel_rfl) (by kernel_rfl) (by kernel_rfl) (by kernel_rfl) (fun _ _ d _ _ h=>by cases d<;>exact h) (by rfl) (by rfl)
   (by repeat first | exact trivial | refine ⟨Each.Lasts.eq _,?_⟩) ?_ ?_
  ·refine ⟨?_,?_,?_,?_,?_,?_,?_,?_,?_,?_,?_,?_,?_,?_,?_,trivial⟩
   ·refine Each.fine rfl (fun ev w1 hR hb hh=>?_);clear hh;have e1:=hR.old 1 rfl;simp only [qA,qT,qS,qZ,qO] at e1;refine Each.Goes.same ?_;go_simp;try with_reducible rfl
   ·refine Each.fine rfl (fun ev w1 hR hb hh=>?_);clear hh;have e0:=hR.old 0 rfl;simp only [qA,qT,qZ,qO] at e0;refine Each.Goes.same ?_;go_simp;try with_reducible rfl
   ·refine Each.fine rfl (fun ev w1 hR hb hh=>?_);have e8:(ev (.tmp 8)=.pointer (some ⟨g,0,none⟩)):=hh.at 0;clear hh;refine Each.Goes.same ?_;go_simp;try with_reducible rfl
   ·refine Each.fine rfl (fun ev w1 hR hb hh=>?_);have e9:(ev (.tmp 9)=.pointer (some ⟨g,0,none⟩)):=hh.at 0;clear hh;refine Each.Goes.same ?_;go_simp;try with_reducible rfl
   ·refine Each.fine rfl (fun ev w1 hR hb hh=>?_);have e10:(ev (.tmp 10)=.pointer (some ⟨g,0,none⟩)):=hh.at 0;clear hh;have q0:=(HQ.out.below hb).c 0 _ rfl;refine Each.Goes.same ?_;go_simp;try with_reducible rfl
   ·refine Each.fine rfl (fun ev w1 hR hb hh=>?_);clear hh;have e0:=hR.old 0 rfl;simp only [qA,qT,qZ,qO] at e0;refine Each.Goes.same ?_;go_simp;try with_reducible rfl
   ·refine Each.fine rfl (fun ev w1 hR hb hh=>?_);have e12:(ev (.tmp 12)=.pointer (some ⟨g,0,none⟩)):=hh.at 0;clear hh;refine Each.Goes.same ?_;go_simp;try with_reducible rfl
   ·refine Each.fine rfl (fun ev w1 hR hb hh=>?_);have e13:(ev (.tmp 13)=.pointer (some ⟨g,0,none⟩)):=hh.at 0;clear hh;refine Each.Goes.same ?_;go_simp;try with_reducible rfl
   ·refine Each.fine rfl (fun ev w1 hR hb hh=>?_);have e14:(ev (.tmp 14)=.pointer (some ⟨g,1,none⟩)):=hh.at 0;clear hh;have q1:=(HQ.out.below hb).c 1 _ rfl;have q2:=(HQ.out.below hb).c 2 _ rfl;have q3:=(HQ.out.below hb).c 3 _ rfl;have q4:=(HQ.out.below hb).c 4 _ rfl;have q5:=(HQ.out.below hb).c 5 _ rfl;have q6:=(HQ.out.below hb).c 6 _ rfl;have q7:=(HQ.out.below hb).c 7 _ rfl;have q8:=(HQ.out.below hb).c 8 _ rfl;have q9:=(HQ.out.below hb).c 9 _ rfl;have q10:=(HQ.out.below hb).c 10 _ rfl;refine Each.Goes.same ?_;go_simp;try with_reducible rfl
   ·refine Each.fine rfl (fun ev w1 hR hb hh=>?_);have e7:(ev (.tmp 7)=.string x):=hh.at 0;have e11:(ev (.tmp 11)=.int .u32 (p:Int)):=hh.at 1;have e15:(ev (.tmp 15)=.agg #[.int .i64 b.x0,.int .i64 b.x1,.int .i64 b.x2,.int .i64 b.x3,.int .i64 b.x4,.int .i64 b.x5,.int .i64 b.x6,.int .i64 b.x7,.bool b.ch,.bool b.od]):=hh.at 2;clear hh;have ef:=hR.func
    refine Each.Goes.enter 95 #[.string x,.int .u32 (p:Int),.agg #[.int .i64 b.x0,.int .i64 b.x1,.int .i64 b.x2,.int .i64 b.x3,.int .i64 b.x4,.int .i64 b.x5,.int .i64 b.x6,.int .i64 b.x7,.bool b.ch,.bool b.od]] (by go_simp) ((HZ.out w1).mono ?_);rintro r w2 ⟨rfl,hb2⟩;exact ⟨_,rfl,hb2,rfl⟩
   ·refine Each.fine rfl (fun ev w1 hR hb hh=>?_);have e16:(ev (.tmp 16)=.tuple #[.int .i64 z1,.int .i64 400]):=hh.at 0;clear hh;refine Each.Goes.same ?_;go_simp;try with_reducible rfl
   ·refine Each.fine rfl (fun ev w1 hR hb hh=>?_);have e6:(ev (.tmp 6)=.tuple #[.int .i64 z1,.int .i64 400]):=hh.at 0;clear hh;refine Each.Goes.same ?_;go_simp;try with_reducible rfl
   ·refine Each.fine rfl (fun ev w1 hR hb hh=>?_);have e6:(ev (.tmp 6)=.tuple #[.int .i64 z1,.int .i64 400]):=hh.at 0;clear hh;refine Each.Goes.same ?_;go_simp;try with_reducible rfl
   ·refine Each.fine rfl (fun ev w1 hR hb hh=>?_);have e17:(ev (.tmp 17)=.int .i64 z1):=hh.at 0;clear hh;refine Each.Goes.same ?_;go_simp;try with_reducible rfl
   ·refine Each.fine rfl (fun ev w1 hR hb hh=>?_);have e18:(ev (.tmp 18)=.int .i64 400):=hh.at 0;clear hh;refine Each.Goes.same ?_;go_simp;try with_reducible rfl
  intro g1 w2 hb hf;have z4:(g1 4=.int .i64 z1):=hf.at 13;have z5:(g1 5=.int .i64 400):=hf.at 14;clear hf;simp only [Each.putg,Act.put,qI,qY,qX];rw [z4];rw [z5];have H1:=Lib.hid (H.out.below hb);have HB:=Lib.hid hb;clear HQ hb
  have HFA:=Lib.hid (fail_at H1.out 400 400 rfl)
  go_wp2_with (go_at_call 56;with_reducible refine HFA.out.mono ?_;rintro r w3 ⟨rfl,hP,hS⟩);go_end0;exact ⟨rfl,_,_,_,_,_,hP,(Step.of_below HB.out).trans hS⟩
 ·have e2:z2=413:=e2;subst e2
  have HZ:=Lib.hid (show∀w,Calls Tryz.prog 95 #[.string x,.int .u32 (p:Int),.agg #[.int .i64 b.x0,.int .i64 b.x1,.int .i64 b.x2,.int .i64 b.x3,.int .i64 b.x4,.int .i64 b.x5,.int .i64 b.x6,.int .i64 b.x7,.bool b.ch,.bool b.od]] w fun e w'=>e=.returned (.tuple #[.int .i64 z1,.int .i64 413])∧Below w.heap.size w w' from fun w=>by have:=hz w;rw [hZ] at this;exact this);have e:s.chunk p b x.data.toList=s.fail 413:=by unfold S.chunk;rw [hZ];rfl
  rw [e];clear hz hZ e;go_enter Tryz.func83,Tryz.ntmps83;go_upto_region 0 with fail
  refine Each.region_all 15 [7,8,9,10,11,12,13,14,15,16,6,17,18,4,5]
   [Each.is (.string x),
     Each.is (.pointer (some ⟨g,0,none⟩)),
     Each.is (.pointer (some ⟨g,0,none⟩)),
     Each.is (.pointer (some ⟨g,0,none⟩)),
     Each.is (.int .u32 (p:Int)),
     Each.is (.pointer (some ⟨g,0,none⟩)),
     Each.is (.pointer (some ⟨g,0,none⟩)),
     Each.is (.pointer (some ⟨g,1,none⟩)),
     Each.is (.agg #[.int .i64 b.x0,.int .i64 b.x1,.int .i64 b.x2,.int .i64 b.x3,.int .i64 b.x4,.int .i64 b.x5,.int .i64 b.x6,.int .i64 b.x7,.bool b.ch,.bool b.od]),
     Each.is (.tuple #[.int .i64 z1,.int .i64 413]),
     Each.is (.tuple #[.int .i64 z1,.int .i64 413]),
     Each.is (.int .i64 z1),
     Each.is (.int .i64 413),
     Each.is (.int .i64 z1),
     Each.is (.int .i64 413)]
    (by kernel_rfl) (by kernel_rfl) (by kernel_rfl) (by kernel_rfl) (fun _ _ d _ _ h=>by cases d<;>exact h) (by rfl) (by rfl)
   (by repeat first | exact trivial | refine ⟨Each.Lasts.eq _,?_⟩) ?_ ?_
  ·refine ⟨?_,?_,?_,?_,?_,?_,?_,?_,?_,?_,?_,?_,?_,?_,?_,trivial⟩
   ·refine Each.fine rfl (fun ev w1 hR hb hh=>?_);clear hh;have e1:=hR.old 1 rfl;simp only [qA,qT,qS,qZ,qO] at e1;refine Each.Goes.same ?_;go_simp;try with_reducible rfl
   ·refine Each.fine rfl (fun ev w1 hR hb hh=>?_);clear hh;have e0:=hR.old 0 rfl;simp only [qA,qT,qZ,qO] at e0;refine Each.Goes.same ?_;go_simp;try with_reducible rfl
   ·refine Each.fine rfl (fun ev w1 hR hb hh=>?_);have e8:(ev (.tmp 8)=.pointer (some ⟨g,0,none⟩)):=hh.at 0;clear hh;refine Each.Goes.same ?_;go_simp;try with_reducible rfl
   ·refine Each.fine rfl (fun ev w1 hR hb hh=>?_);have e9:(ev (.tmp 9)=.pointer (some ⟨g,0,none⟩)):=hh.at 0;clear hh;refine Each.Goes.same ?_;go_simp;try with_reducible rfl
   ·refine Each.fine rfl (fun ev w1 hR hb hh=>?_);have e10:(ev (.tmp 10)=.pointer (some ⟨g,0,none⟩)):=hh.at 0;clear hh;have q0:=(HQ.out.below hb).c 0 _ rfl;refine Each.Goes.same ?_;go_simp;try with_reducible rfl
   ·refine Each.fine rfl (fun ev w1 hR hb hh=>?_);clear hh;have e0:=hR.old 0 rfl;simp only [qA,qT,qZ,qO] at e0;refine Each.Goes.same ?_;go_simp;try with_reducible rfl
   ·refine Each.fine rfl (fun ev w1 hR hb hh=>?_);have e12:(ev (.tmp 12)=.pointer (some ⟨g,0,none⟩)):=hh.at 0;clear hh;refine Each.Goes.same ?_;go_simp;try with_reducible rfl
   ·refine Each.fine rfl (fun ev w1 hR hb hh=>?_);have e13:(ev (.tmp 13)=.pointer (some ⟨g,0,none⟩)):=hh.at 0;clear hh;refine Each.Goes.same ?_;go_simp;try with_reducible rfl
   ·refine Each.fine rfl (fun ev w1 hR hb hh=>?_);have e14:(ev (.tmp 14)=.pointer (some ⟨g,1,none⟩)):=hh.at 0;clear hh;have q1:=(HQ.out.below hb).c 1 _ rfl;have q2:=(HQ.out.below hb).c 2 _ rfl;have q3:=(HQ.out.below hb).c 3 _ rfl;have q4:=(HQ.out.below hb).c 4 _ rfl;have q5:=(HQ.out.below hb).c 5 _ rfl;have q6:=(HQ.out.below hb).c 6 _ rfl;have q7:=(HQ.out.below hb).c 7 _ rfl;have q8:=(HQ.out.below hb).c 8 _ rfl;have q9:=(HQ.out.below hb).c 9 _ rfl;have q10:=(HQ.out.below hb).c 10 _ rfl;refine Each.Goes.same ?_;go_simp;try with_reducible rfl
   ·refine Each.fine rfl (fun ev w1 hR hb hh=>?_);have e7:(ev (.tmp 7)=.string x):=hh.at 0;have e11:(ev (.tmp 11)=.int .u32 (p:Int)):=hh.at 1;have e15:(ev (.tmp 15)=.agg #[.int .i64 b.x0,.int .i64 b.x1,.int .i64 b.x2,.int .i64 b.x3,.int .i64 b.x4,.int .i64 b.x5,.int .i64 b.x6,.int .i64 b.x7,.bool b.ch,.bool b.od]):=hh.at 2;clear hh;have ef:=hR.func
    refine Each.Goes.enter 95 #[.string x,.int .u32 (p:Int),.agg #[.int .i64 b.x0,.int .i64 b.x1,.int .i64 b.x2,.int .i64 b.x3,.int .i64 b.x4,.int .i64 b.x5,.int .i64 b.x6,.int .i64 b.x7,.bool b.ch,.bool b.od]] (by go_simp) ((HZ.out w1).mono ?_);rintro r w2 ⟨rfl,hb2⟩;exact ⟨_,rfl,hb2,rfl⟩
   ·refine Each.fine rfl (fun ev w1 hR hb hh=>?_);have e16:(ev (.tmp 16)=.tuple #[.int .i64 z1,.int .i64 413]):=hh.at 0;clear hh;refine Each.Goes.same ?_;go_simp;try with_reducible rfl
   ·refine Each.fine rfl (fun ev w1 hR hb hh=>?_);have e6:(ev (.tmp 6)=.tuple #[.int .i64 z1,.int .i64 413]):=hh.at 0;clear hh;refine Each.Goes.same ?_;go_simp;try with_reducible rfl
   ·refine Each.fine rfl (fun ev w1 hR hb hh=>?_);have e6:(ev (.tmp 6)=.tuple #[.int .i64 z1,.int .i64 413]):=hh.at 0;clear hh;refine Each.Goes.same ?_;go_simp;try with_reducible rfl
   ·refine Each.fine rfl (fun ev w1 hR hb hh=>?_);have e17:(ev (.tmp 17)=.int .i64 z1):=hh.at 0;clear hh;refine Each.Goes.same ?_;go_simp;try with_reducible rfl
   ·refine Each.fine rfl (fun ev w1 hR hb hh=>?_);have e18:(ev (.tmp 18)=.int .i64 413):=hh.at 0;clear hh;refine Each.Goes.same ?_;go_simp;try with_reducible rfl
  intro g1 w2 hb hf;have z4:(g1 4=.int .i64 z1):=hf.at 13;have z5:(g1 5=.int .i64 413):=hf.at 14;clear hf;simp only [Each.putg,Act.put,qI,qY,qX];rw [z4];rw [z5];have H1:=Lib.hid (H.out.below hb);have HB:=Lib.hid hb;clear HQ hb
  have HFA:=Lib.hid (fail_at H1.out 413 413 rfl)
  go_wp2_with (go_at_call 56;with_reducible refine HFA.out.mono ?_;rintro r w3 ⟨rfl,hP,hS⟩);go_end0;exact ⟨rfl,_,_,_,_,_,hP,(Step.of_below HB.out).trans hS⟩
end code
end Go.Proofs.YtimoakmcelocfaaGreat.Par
