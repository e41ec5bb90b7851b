import Derived.Test.YtimoakmcelocfaaGreatAyk
import Derived.Test.YtimoakmcelocfaaGreatAym
namespace Go.Proofs.YtimoakmcelocfaaGreat.Par
open Go.RowKit Base Txt Mem
section code
set_option maxHeartbeats 4000000
set_option maxRecDepth 20000
attribute [local go_sem] Base.some_undef
variable {w:World} {B:Zone} {g q:Nat} {v f bd t o:Value} {p:Nat} {b:Bd} {s:S}
theorem over_any (hp:p<4294967296) (h3:16≤b.x3∧b.x3≤1048576) (h:PR w B g q v f bd t o p b s) (hn:s.r.fs.length≤500) (hs:∀y∈s.r.fs,y.1.size≤1000000∧y.2.size≤1000000) (hout:s.out.length≤1000000000):Calls Tryz.prog 81 #[ptr g] w fun r w'=>
 r=.returned (.tuple #[])∧∃q1 v1 f1 bd1 t1 o1,PR w' B g q1 v1 f1 bd1 t1 o1 p b (s.over p b)∧Step (blks g q v f bd t o) (blks g q1 v1 f1 bd1 t1 o1) w w':=by
 obtain ⟨A,c,e,hv⟩:=Flds.of_own h.own.F;obtain ⟨bf,cf,eb, -⟩:=Ln.own_slice h.own.F;subst eb;simp only [Value.slice.injEq,true_and] at e;obtain ⟨rfl,rfl⟩:=e;have H:=Lib.hid h
 have HQ:=Lib.hid ((h.drew 1).bk)
 have hvd:=hv.below (Base.below_drewN (Below.refl w.heap.size w) 1);have hz:=fun w2 (hb:Below (w.drewN 1).heap.size (w.drewN 1) w2)=>Frm.rdecide_any p hp b.x0 b.x1 b.x2 b.x3 b.x4 b.x5 b.x6 b.x7 b.ch b.od (by omega) s.r.k _ _ cf s.r.fs w2 (hvd.below hb) hn hs;have HO:=Lib.hid hout;clear h hn hs hout hv;rcases decide_facts (Frm.clOf p) b.ch b.x3 s.r.k s.r.fs with hD | ⟨n,hle,hD⟩ | ⟨e,he,hD⟩
 ·have HZ:=Lib.hid (show∀w2,Below (w.drewN 1).heap.size (w.drewN 1) w2→Calls Tryz.prog 91 #[.int .u32 (p:Int),.agg #[.int .i64 b.x0,.int .i64 b.x1,.int .i64 b.x2,.int .i64 b.x3,.int .i64 b.x4,.int .i64 b.x5,.int .i64 b.x6,.int .i64 b.x7,.bool b.ch,.bool b.od],.int .i64 s.r.k,.slice bf s.r.fs.length cf] w2 fun r w'=>r=.returned (.tuple #[.agg #[.int .i64 2,.int .i64 0],.int .i64 0])∧Below w2.heap.size w2 w' from fun w2 hb=>by have:=hz w2 hb;rw [hD] at this;exact this);have e:s.over p b={s with r:={s.r with ch:=true},st:=3,fresh:=true,rd:=nl p b.x0}:=by unfold S.over;rw [hD];rfl
  rw [e];clear hz hD e hvd;go_enter Tryz.func81,Tryz.ntmps81;go_upto_region 0 with fail
  go_cut [2,3] from 4 to 25 (fun u c wx=>∃g2,u=ptr g2∧c=.int .i64 0∧Hid (Below w.heap.size w wx)∧Hid (Rec.Bk wx g2 [.int .i64 2,.int .i64 0])∧Hid (w.heap.size≤g2))
  case first=>
   refine Each.region_float 23 [5,6,7,8,9,10,11,12,13,14,15,16,17,18,19,20,21,22,23,4,24,25,2]
    [Each.is (.pointer (some ⟨g,0,none⟩)),
      Each.is (.pointer (some ⟨g,0,none⟩)),
      Each.is (.pointer (some ⟨g,0,none⟩)),
      Each.is (.int .u32 (p:Int)),
      Each.is (.pointer (some ⟨g,0,none⟩)),
      Each.is (.pointer (some ⟨g,0,none⟩)),
      Each.is (.pointer (some ⟨g,1,none⟩)),
      Each.is (.agg #[.int .i64 b.x0,.int .i64 b.x1,.int .i64 b.x2,.int .i64 b.x3,.int .i64 b.x4,.int .i64 b.x5,.int .i64 b.x6,.int .i64 b.x7,.bool b.ch,.bool b.od]),
      Each.is (.pointer (some ⟨g,0,none⟩)),
      Each.is (.pointer (some ⟨g,0,none⟩)),
      Each.is (.pointer (some ⟨g,13,none⟩)),
      Each.is (.pointer (some ⟨g,15,none⟩)),
      Each.is (.int .i64 s.r.k),
      Each.is (.pointer (some ⟨g,0,none⟩)),
      Each.is (.pointer (some ⟨g,0,none⟩)),
      Each.is (.pointer (some ⟨g,13,none⟩)),
      Each.is (.pointer (some ⟨g,16,none⟩)),
      Each.is (.slice bf s.r.fs.length cf),
      Each.is (.tuple #[.agg #[.int .i64 2,.int .i64 0],.int .i64 0]),
      Each.is (.tuple #[.agg #[.int .i64 2,.int .i64 0],.int .i64 0]),
      Each.is (.agg #[.int .i64 2,.int .i64 0]),
      Each.is (.int .i64 0),
      fun v u=>∃g2,v=ptr g2∧w.heap.size≤g2∧Rec.Bk u g2 [.int .i64 0,.int .i64 0]]
    [] 2 (some 21) (.act 23 (.quiet 24 .done)) (.quiet 21 (.act 23 (.quiet 24 .done))) (by kernel_rfl) (by kernel_rfl) (by kernel_rfl) (by kernel_rfl) (fun k0 h=>by cases h;kernel_rfl) (fun _ _ d _ _ h=>by cases d<;>exact h) (by rfl) (by rfl)
    ⟨Each.Lasts.eq _,Each.Lasts.eq _,Each.Lasts.eq _,Each.Lasts.eq _,Each.Lasts.eq _,Each.Lasts.eq _,Each.Lasts.eq _,Each.Lasts.eq _,Each.Lasts.eq _,Each.Lasts.eq _,Each.Lasts.eq _,Each.Lasts.eq _,Each.Lasts.eq _,Each.Lasts.eq _,Each.Lasts.eq _,Each.Lasts.eq _,Each.Lasts.eq _,Each.Lasts.eq _,Each.Lasts.eq _,Each.Lasts.eq _,Each.Lasts.eq _,Each.Lasts.eq _,((fun _ _ _ hb h=>by obtain ⟨g2,e1,h1,hB⟩:=h;exact ⟨g2,e1,h1,hB.below hb⟩)),trivial⟩ trivial (by rfl) ?_ ?_ ?_
   ·refine ⟨?_,?_,?_,?_,?_,?_,?_,?_,?_,?_,?_,?_,?_,?_,?_,?_,?_,?_,?_,?_,?_,?_,?_,trivial⟩
    ·refine Each.fine rfl (fun ev w1 hR hb hh=>?_);clear hh;have e0:=hR.old 0 rfl;simp only [qA,qT,qZ,qO] at e0;refine Each.Goes.same ?_;go_simp;try with_reducible rfl
    ·refine Each.fine rfl (fun ev w1 hR hb hh=>?_);have e5:(ev (.tmp 5)=.pointer (some ⟨g,0,none⟩)):=hh.at 0;clear hh;refine Each.Goes.same ?_;go_simp;try with_reducible rfl
    ·refine Each.fine rfl (fun ev w1 hR hb hh=>?_);have e6:(ev (.tmp 6)=.pointer (some ⟨g,0,none⟩)):=hh.at 0;clear hh;refine Each.Goes.same ?_;go_simp;try with_reducible rfl
    ·refine Each.fine rfl (fun ev w1 hR hb hh=>?_);have e7:(ev (.tmp 7)=.pointer (some ⟨g,0,none⟩)):=hh.at 0;clear hh;have q0:=(HQ.out.below hb).c 0 _ rfl;refine Each.Goes.same ?_;go_simp;try with_reducible rfl
    ·refine Each.fine rfl (fun ev w1 hR hb hh=>?_);clear hh;have e0:=hR.old 0 rfl;simp only [qA,qT,qZ,qO] at e0;refine Each.Goes.same ?_;go_simp;try with_reducible rfl
    ·refine Each.fine rfl (fun ev w1 hR hb hh=>?_);have e9:(ev (.tmp 9)=.pointer (some ⟨g,0,none⟩)):=hh.at 0;clear hh;refine Each.Goes.same ?_;go_simp;try with_reducible rfl
    ·refine Each.fine rfl (fun ev w1 hR hb hh=>?_);have e10:(ev (.tmp 10)=.pointer (some ⟨g,0,none⟩)):=hh.at 0;clear hh;refine Each.Goes.same ?_;go_simp;try with_reducible rfl
    ·refine Each.fine rfl (fun ev w1 hR hb hh=>?_);have e11:(ev (.tmp 11)=.pointer (some ⟨g,1,none⟩)):=hh.at 0;clear hh;have q1:=(HQ.out.below hb).c 1 _ rfl;have q2:=(HQ.out.below hb).c 2 _ rfl;have q3:=(HQ.out.below hb).c 3 _ rfl;have q4:=(HQ.out.below hb).c 4 _ rfl;have q5:=(HQ.out.below hb).c 5 _ rfl;have q6:=(HQ.out.below hb).c 6 _ rfl;have q7:=(HQ.out.below hb).c 7 _ rfl;have q8:=(HQ.out.below hb).c 8 _ rfl;have q9:=(HQ.out.below hb).c 9 _ rfl;have q10:=(HQ.out.below hb).c 10 _ rfl;refine Each.Goes.same ?_;go_simp;try with_reducible rfl
    ·refine Each.fine rfl (fun ev w1 hR hb hh=>?_);clear hh;have e0:=hR.old 0 rfl;simp only [qA,qT,qZ,qO] at e0;refine Each.Goes.same ?_;go_simp;try with_reducible rfl
    ·refine Each.fine rfl (fun ev w1 hR hb hh=>?_);have e13:(ev (.tmp 13)=.pointer (some ⟨g,0,none⟩)):=hh.at 0;clear hh;refine Each.Goes.same ?_;go_simp;try with_reducible rfl
    ·refine Each.fine rfl (fun ev w1 hR hb hh=>?_);have e14:(ev (.tmp 14)=.pointer (some ⟨g,0,none⟩)):=hh.at 0;clear hh;refine Each.Goes.same ?_;go_simp;try with_reducible rfl
    ·refine Each.fine rfl (fun ev w1 hR hb hh=>?_);have e15:(ev (.tmp 15)=.pointer (some ⟨g,13,none⟩)):=hh.at 0;clear hh;refine Each.Goes.same ?_;go_simp;try with_reducible rfl
    ·refine Each.fine rfl (fun ev w1 hR hb hh=>?_);have e16:(ev (.tmp 16)=.pointer (some ⟨g,15,none⟩)):=hh.at 0;clear hh;have q15:=(HQ.out.below hb).c 15 _ rfl;refine Each.Goes.same ?_;go_simp;try with_reducible rfl
    ·refine Each.fine rfl (fun ev w1 hR hb hh=>?_);clear hh;have e0:=hR.old 0 rfl;simp only [qA,qT,qZ,qO] at e0;refine Each.Goes.same ?_;go_simp;try with_reducible rfl
    ·refine Each.fine rfl (fun ev w1 hR hb hh=>?_);have e18:(ev (.tmp 18)=.pointer (some ⟨g,0,none⟩)):=hh.at 0;clear hh;refine Each.Goes.same ?_;go_simp;try with_reducible rfl
    ·refine Each.fine rfl (fun ev w1 hR hb hh=>?_);have e19:(ev (.tmp 19)=.pointer (some ⟨g,0,none⟩)):=hh.at 0;clear hh;refine Each.Goes.same ?_;go_simp;try with_reducible rfl
    ·refine Each.fine rfl (fun ev w1 hR hb hh=>?_);have e20:(ev (.tmp 20)=.pointer (some ⟨g,13,none⟩)):=hh.at 0;clear hh;refine Each.Goes.same ?_;go_simp;try with_reducible rfl
    ·refine Each.fine rfl (fun ev w1 hR hb hh=>?_);have e21:(ev (.tmp 21)=.pointer (some ⟨g,16,none⟩)):=hh.at 0;clear hh;have q16:=(HQ.out.below hb).c 16 _ rfl;refine Each.Goes.same ?_;go_simp;try with_reducible rfl
    ·refine Each.fine rfl (fun ev w1 hR hb hh=>?_);have e8:(ev (.tmp 8)=.int .u32 (p:Int)):=hh.at 0;have e12:(ev (.tmp 12)=.agg #[.int .i64 b.x0,.int .i64 b.x1,.int .i64 b.x2,.int .i64 b.x3,.int .i64 b.x4,.int .i64 b.x5,.int .i64 b.x6,.int .i64 b.x7,.bool b.ch,.bool b.od]):=hh.at 1;have e17:(ev (.tmp 17)=.int .i64 s.r.k):=hh.at 2;have e22:(ev (.tmp 22)=.slice bf s.r.fs.length cf):=hh.at 3;clear hh;have ef:=hR.func
     refine Each.Goes.enter 91 #[.int .u32 (p:Int),.agg #[.int .i64 b.x0,.int .i64 b.x1,.int .i64 b.x2,.int .i64 b.x3,.int .i64 b.x4,.int .i64 b.x5,.int .i64 b.x6,.int .i64 b.x7,.bool b.ch,.bool b.od],.int .i64 s.r.k,.slice bf s.r.fs.length cf] (by go_simp) ((HZ.out w1 hb).mono ?_);rintro r w2 ⟨rfl,hb2⟩;exact ⟨_,rfl,hb2,rfl⟩
    ·refine Each.fine rfl (fun ev w1 hR hb hh=>?_);have e23:(ev (.tmp 23)=.tuple #[.agg #[.int .i64 2,.int .i64 0],.int .i64 0]):=hh.at 0;clear hh;refine Each.Goes.same ?_;go_simp;try with_reducible rfl
    ·refine Each.fine rfl (fun ev w1 hR hb hh=>?_);have e4:(ev (.tmp 4)=.tuple #[.agg #[.int .i64 2,.int .i64 0],.int .i64 0]):=hh.at 0;clear hh;refine Each.Goes.same ?_;go_simp;try with_reducible rfl
    ·refine Each.fine rfl (fun ev w1 hR hb hh=>?_);have e4:(ev (.tmp 4)=.tuple #[.agg #[.int .i64 2,.int .i64 0],.int .i64 0]):=hh.at 0;clear hh;refine Each.Goes.same ?_;go_simp;try with_reducible rfl
    ·refine Each.fine rfl (fun ev w1 hR hb hh=>?_);clear hh;exact Each.Goes.value (ptr w1.heap.size) (w1.alloc (.cells #[.int .i64 0,.int .i64 0] 133)) (by go_simp) ((Below.refl _ _).alloc (Nat.le_refl _) _) ⟨_,rfl,hb.size,Rec.Bk.new w1 _ rfl 133 [.int .i64 0,.int .i64 0]⟩
   ·intro g1 w2 hb hf;have z4:(g1 4=.tuple #[.agg #[.int .i64 2,.int .i64 0],.int .i64 0]):=hf.at 19;have z24:(g1 24=.agg #[.int .i64 2,.int .i64 0]):=hf.at 20;have z25:(g1 25=.int .i64 0):=hf.at 21;have z2:((fun v u=>∃g2,v=ptr g2∧w.heap.size≤g2∧Rec.Bk u g2 [.int .i64 0,.int .i64 0]) (g1 2) w2):=hf.at 22;clear hf;obtain ⟨g2,e2,hg2,hB2⟩:=z2;simp only [Each.putg,Act.put,qI,qY,qX];rw [z4,z24,z25,e2];simp only [Tree.grow,Tree.put1,qZ,qS]
    have y0:=hB2.c 0 _ rfl;have y1:=hB2.c 1 _ rfl;have x0:=hB2.z 0 (by simp);have x1:=hB2.z 1 (by simp)
    refine Tree.change (by rfl) (fun K hK=>?_);go_simp;refine hK _ _ trivial ?_;clear hK K y0 y1 x0 x1;refine Tree.assign _ (by rfl) (by rfl) ?_;simp only [Act.put,Act.eval,qA,qT,qZ,qS,qO,qI,qY,qX];refine Tree.done ?_;go_wp2_with fail;go_meet
    case rel=>exact ⟨g2,rfl,rfl,Lib.hid ((hb.setCell hg2 _).setCell hg2 _),Lib.hid ((hB2.set 0 (.int .i64 2) (by simp)).set 1 (.int .i64 0) (by simp)),Lib.hid hg2⟩
   ·intro k0 hk0 g1 w2 hb hf;cases hk0;have z4:(g1 4=.tuple #[.agg #[.int .i64 2,.int .i64 0],.int .i64 0]):=hf.at 19;have z24:(g1 24=.agg #[.int .i64 2,.int .i64 0]):=hf.at 20;have z2:((fun v u=>∃g2,v=ptr g2∧w.heap.size≤g2∧Rec.Bk u g2 [.int .i64 0,.int .i64 0]) (g1 2) w2):=hf.at 22;clear hf;obtain ⟨g2,e2,hg2,hB2⟩:=z2;simp only [Each.putg,Act.put,qI,qY,qX];rw [z4,z24,e2];simp only [Tree.grow,Tree.put1,qZ,qS];refine Tree.quiet (by rfl) (.int .i64 0) (fun _ _=>by go_simp) ?_;simp only [Act.put,qI,qY,qX]
    have y0:=hB2.c 0 _ rfl;have y1:=hB2.c 1 _ rfl;have x0:=hB2.z 0 (by simp);have x1:=hB2.z 1 (by simp)
    refine Tree.change (by rfl) (fun K hK=>?_);go_simp;refine hK _ _ trivial ?_;clear hK K y0 y1 x0 x1;refine Tree.assign _ (by rfl) (by rfl) ?_;simp only [Act.put,Act.eval,qA,qT,qZ,qS,qO,qI,qY,qX];refine Tree.done ?_;go_wp2_with fail;go_meet
    case rel=>exact ⟨g2,rfl,rfl,Lib.hid ((hb.setCell hg2 _).setCell hg2 _),Lib.hid ((hB2.set 0 (.int .i64 2) (by simp)).set 1 (.int .i64 0) (by simp)),Lib.hid hg2⟩
  case rest=>
  obtain ⟨g2,rfl,rfl,HB,HG,HG2⟩:=hcut
  have H1:=Lib.hid (H.out.below HB.out);clear HQ;obtain ⟨W0,hW0⟩:∃x,x=wc:=⟨_,rfl⟩;subst hW0;have y0:=HG.out.c 0 _ rfl;have y1:=HG.out.c 1 _ rfl
  have H2:=Lib.hid (((H1.out.put 17 (.bool true) {s with r:={s.r with ch:=true}} rfl rfl rfl rfl rfl rfl).put 11 (.int .i64 3) {s with r:={s.r with ch:=true},st:=3} rfl rfl rfl rfl rfl rfl).put 23 (.bool true) {s with r:={s.r with ch:=true},st:=3,fresh:=true} rfl rfl rfl rfl rfl rfl)
  have HS2:=Lib.hid ((Step.of_below HB.out (L:=blks g q v (.slice bf s.r.fs.length cf) bd t o)).trans (((Step.set g 17 (.bool true) (by simp)).trans (Step.set g 11 (.int .i64 3) (by simp))).trans (Step.set g 23 (.bool true) (by simp))));have c11:=H1.out.cs.c11;have c17:=H1.out.cs.c17;have c23:=H1.out.cs.c23;have z11:=H1.out.marks 11;have z17:=H1.out.marks 17;have z23:=H1.out.marks 23;go_upto_region 6 with fail
  generalize ((W0.setCell ⟨g,17,none⟩ (.bool true)).setCell ⟨g,11,none⟩ (.int .i64 3)).setCell ⟨g,23,none⟩ (.bool true)=W1 at *;clear c11 c17 c23 z11 z17 z23 H1 HB HG y0 y1;obtain ⟨S1,hS1⟩:∃S1:S,{s with r:={s.r with ch:=true},st:=3,fresh:=true}=S1:=⟨_,rfl⟩;have HS1:=Lib.hid hS1;rw [hS1] at H2;clear hS1
  have HQ:=Lib.hid ((H2.out.drew 1).bk)
  have HBW:=Lib.hid (show B≤(W1.drewN 1).heap.size from Nat.le_trans H2.out.own.ge (Nat.le_of_lt (H2.out.drew 1).own.lt));refine Each.region 11 [57,58,59,60,61,62,63,64,65,66,67]
   [Each.is (.pointer (some ⟨g,0,none⟩)),
     Each.is (.pointer (some ⟨g,0,none⟩)),
     Each.is (.pointer (some ⟨g,0,none⟩)),
     Each.is (.pointer (some ⟨g,0,none⟩)),
     Each.is (.int .u32 (p:Int)),
     Each.is (.pointer (some ⟨g,0,none⟩)),
     Each.is (.pointer (some ⟨g,0,none⟩)),
     Each.is (.pointer (some ⟨g,1,none⟩)),
     Each.is (.pointer (some ⟨g,1,none⟩)),
     Each.is (.int .i64 b.x0),
     fun v w=>∃q1,v=ptr q1∧W1.heap.size≤q1∧Ln.Rr w B q1 nil p (nl p (b.x0))]
   (.quiet 11 (.quiet 12 (.act 13 .done))) (by kernel_rfl) (by kernel_rfl) (by kernel_rfl) (by kernel_rfl) (fun _ _ d _ _ h=>by cases d<;>exact h) (by rfl) (by rfl)
   ⟨Each.Lasts.eq _,Each.Lasts.eq _,Each.Lasts.eq _,Each.Lasts.eq _,Each.Lasts.eq _,Each.Lasts.eq _,Each.Lasts.eq _,Each.Lasts.eq _,Each.Lasts.eq _,Each.Lasts.eq _,((fun _ _ _ hb h=>by obtain ⟨q1,e1,h1,h2⟩:=h;exact ⟨q1,e1,h1,rr_below h2 hb⟩)),trivial⟩ ?_ ?_
  ·refine ⟨?_,?_,?_,?_,?_,?_,?_,?_,?_,?_,?_,trivial⟩
   ·refine Each.fine rfl (fun ev w1 hR hb hh=>?_);clear hh;have e0:=hR.old 0 rfl;simp only [qA,qT,qZ,qO] at e0;refine Each.Goes.same ?_;go_simp;try with_reducible rfl
   ·refine Each.fine rfl (fun ev w1 hR hb hh=>?_);clear hh;have e0:=hR.old 0 rfl;simp only [qA,qT,qZ,qO] at e0;refine Each.Goes.same ?_;go_simp;try with_reducible rfl
   ·refine Each.fine rfl (fun ev w1 hR hb hh=>?_);have e58:(ev (.tmp 58)=.pointer (some ⟨g,0,none⟩)):=hh.at 0;clear hh;refine Each.Goes.same ?_;go_simp;try with_reducible rfl
   ·refine Each.fine rfl (fun ev w1 hR hb hh=>?_);have e59:(ev (.tmp 59)=.pointer (some ⟨g,0,none⟩)):=hh.at 0;clear hh;refine Each.Goes.same ?_;go_simp;try with_reducible rfl
   ·refine Each.fine rfl (fun ev w1 hR hb hh=>?_);have e60:(ev (.tmp 60)=.pointer (some ⟨g,0,none⟩)):=hh.at 0;clear hh;have q0:=(HQ.out.below hb).c 0 _ rfl;refine Each.Goes.same ?_;go_simp;try with_reducible rfl
   ·refine Each.fine rfl (fun ev w1 hR hb hh=>?_);clear hh;have e0:=hR.old 0 rfl;simp only [qA,qT,qZ,qO] at e0;refine Each.Goes.same ?_;go_simp;try with_reducible rfl
   ·refine Each.fine rfl (fun ev w1 hR hb hh=>?_);have e62:(ev (.tmp 62)=.pointer (some ⟨g,0,none⟩)):=hh.at 0;clear hh;refine Each.Goes.same ?_;go_simp;try with_reducible rfl
   ·refine Each.fine rfl (fun ev w1 hR hb hh=>?_);have e63:(ev (.tmp 63)=.pointer (some ⟨g,0,none⟩)):=hh.at 0;clear hh;refine Each.Goes.same ?_;go_simp;try with_reducible rfl
   ·refine Each.fine rfl (fun ev w1 hR hb hh=>?_);have e64:(ev (.tmp 64)=.pointer (some ⟨g,1,none⟩)):=hh.at 0;clear hh;refine Each.Goes.same ?_;go_simp;try with_reducible rfl
   ·refine Each.fine rfl (fun ev w1 hR hb hh=>?_);have e65:(ev (.tmp 65)=.pointer (some ⟨g,1,none⟩)):=hh.at 0;clear hh;have q1:=(HQ.out.below hb).c 1 _ rfl;refine Each.Goes.same ?_;go_simp;try with_reducible rfl
   ·refine Each.fine rfl (fun ev w1 hR hb hh=>?_);have e61:(ev (.tmp 61)=.int .u32 (p:Int)):=hh.at 0;have e66:(ev (.tmp 66)=.int .i64 b.x0):=hh.at 1;clear hh;have ef:=hR.func
    refine Each.Goes.enter 55 #[.int .u32 (p:Int),.int .i64 (b.x0)] (by go_simp) ((rnew_line B (b.x0) w1 (Nat.le_trans HBW.out hb.size)).mono ?_);rintro r w2 ⟨q1,rfl,h1,h2,hb2⟩;exact ⟨_,rfl,hb2,q1,rfl,Nat.le_trans hb.size h1,h2⟩
  intro g1 w2 hb hf;have z57:(g1 57=.pointer (some ⟨g,0,none⟩)):=hf.at 0;have z67:((fun v w=>∃q1,v=ptr q1∧W1.heap.size≤q1∧Ln.Rr w B q1 nil p (nl p (b.x0))) (g1 67) w2):=hf.at 10;clear hf;obtain ⟨q1,e1,hq1,hr1⟩:=z67;simp only [Each.putg,Act.put,qI,qY,qX];rw [e1,z57];simp only [Tree.grow,Tree.put1,qZ,qS];refine Tree.quiet (by rfl) (ptr g) (fun _ _=>by go_simp) ?_;simp only [Act.put,qI,qY,qX];refine Tree.quiet (by rfl) (.pointer (some ⟨g,12,none⟩)) (fun _ _=>by go_simp) ?_;simp only [Act.put,qI,qY,qX];have c12:=(H2.out.below hb).cs.c12;have z12:=(H2.out.below hb).marks 12
  refine Tree.change (by rfl) (fun K hK=>?_);go_simp;refine hK _ _ trivial ?_;clear hK K;refine Tree.done ?_;have HL:=H2.out.line hb hr1 hq1
  have SL:=(Step.line (g:=g) (q:=q) (v:=v) (f:=(.slice bf s.r.fs.length cf)) (bd:=bd) (t:=t) (o:=o) hb hq1).trans (Step.set g 12 (ptr q1) (by simp));clear HQ HBW hr1 hq1 c12 z12;rw [←HS1.out] at HL;go_wp2;go_end0;exact ⟨rfl,q1,_,_,_,_,_,HL,HS2.out.trans SL⟩
 ·have HZ:=Lib.hid (show∀w2,Below (w.drewN 1).heap.size (w.drewN 1) w2→Calls Tryz.prog 91 #[.int .u32 (p:Int),.agg #[.int .i64 b.x0,.int .i64 b.x1,.int .i64 b.x2,.int .i64 b.x3,.int .i64 b.x4,.int .i64 b.x5,.int .i64 b.x6,.int .i64 b.x7,.bool b.ch,.bool b.od],.int .i64 s.r.k,.slice bf s.r.fs.length cf] w2 fun r w'=>r=.returned (.tuple #[.agg #[.int .i64 1,.int .i64 (n:Int)],.int .i64 0])∧Below w2.heap.size w2 w' from fun w2 hb=>by have:=hz w2 hb;rw [hD] at this;exact this);rcases Nat.eq_zero_or_pos n with hn | hn
  ·subst hn
   have HZ:=Lib.hid (show∀w2,Below (w.drewN 1).heap.size (w.drewN 1) w2→Calls Tryz.prog 91 #[.int .u32 (p:Int),.agg #[.int .i64 b.x0,.int .i64 b.x1,.int .i64 b.x2,.int .i64 b.x3,.int .i64 b.x4,.int .i64 b.x5,.int .i64 b.x6,.int .i64 b.x7,.bool b.ch,.bool b.od],.int .i64 s.r.k,.slice bf s.r.fs.length cf] w2 fun e w'=>e=.returned (.tuple #[.agg #[.int .i64 1,.int .i64 0],.int .i64 0])∧Below w2.heap.size w2 w' from fun w2 hb=>HZ.out w2 hb);have e:s.over p b=s.whole p b:=by unfold S.over;rw [hD];rfl
   rw [e];clear hz hD e hvd hle;go_enter Tryz.func81,Tryz.ntmps81;go_upto_region 0 with fail
   go_cut [2,3] from 4 to 25 (fun u c wx=>∃g2,u=ptr g2∧c=.int .i64 0∧Hid (Below w.heap.size w wx)∧Hid (Rec.Bk wx g2 [.int .i64 1,.int .i64 0])∧Hid (w.heap.size≤g2))
   case first=>
    refine Each.region_float 23 [5,6,7,8,9,10,11,12,13,14,15,16,17,18,19,20,21,22,23,4,24,25,2]
     [Each.is (.pointer (some ⟨g,0,none⟩)),
       Each.is (.pointer (some ⟨g,0,none⟩)),
       Each.is (.pointer (some ⟨g,0,none⟩)),
       Each.is (.int .u32 (p:Int)),
       Each.is (.pointer (some ⟨g,0,none⟩)),
       Each.is (.pointer (some ⟨g,0,none⟩)),
       Each.is (.pointer (some ⟨g,1,none⟩)),
       Each.is (.agg #[.int .i64 b.x0,.int .i64 b.x1,.int .i64 b.x2,.int .i64 b.x3,.int .i64 b.x4,.int .i64 b.x5,.int .i64 b.x6,.int .i64 b.x7,.bool b.ch,.bool b.od]),
       Each.is (.pointer (some ⟨g,0,none⟩)),
       Each.is (.pointer (some ⟨g,0,none⟩)),
       Each.is (.pointer (some ⟨g,13,none⟩)),
       Each.is (.pointer (some ⟨g,15,none⟩)),
       Each.is (.int .i64 s.r.k),
       Each.is (.pointer (some ⟨g,0,none⟩)),
       Each.is (.pointer (some ⟨g,0,none⟩)),
       Each.is (.pointer (some ⟨g,13,none⟩)),
       Each.is (.pointer (some ⟨g,16,none⟩)),
       Each.is (.slice bf s.r.fs.length cf),
       Each.is (.tuple #[.agg #[.int .i64 1,.int .i64 0],.int .i64 0]),
       Each.is (.tuple #[.agg #[.int .i64 1,.int .i64 0],.int .i64 0]),
       Each.is (.agg #[.int .i64 1,.int .i64 0]),
       Each.is (.int .i64 0),
       fun v u=>∃g2,v=ptr g2∧w.heap.size≤g2∧Rec.Bk u g2 [.int .i64 0,.int .i64 0]]
     [] 2 (some 21) (.act 23 (.quiet 24 .done)) (.quiet 21 (.act 23 (.quiet 24 .done))) (by kernel_rfl) (by kernel_rfl) (by kernel_rfl) (by kernel_rfl) (fun k0 h=>by cases h;kernel_rfl) (fun _ _ d _ _ h=>by cases d<;>exact h) (by rfl) (by rfl)
     ⟨Each.Lasts.eq _,Each.Lasts.eq _,Each.Lasts.eq _,Each.Lasts.eq _,Each.Lasts.eq _,Each.Lasts.eq _,Each.Lasts.eq _,Each.Lasts.eq _,Each.Lasts.eq _,Each.Lasts.eq _,Each.Lasts.eq _,Each.Lasts.eq _,Each.Lasts.eq _,Each.Lasts.eq _,Each.Lasts.eq _,Each.Lasts.eq _,Each.Lasts.eq _,Each.Lasts.eq _,Each.Lasts.eq _,Each.Lasts.eq _,Each.Lasts.eq _,Each.Lasts.eq _,((fun _ _ _ hb h=>by obtain ⟨g2,e1,h1,hB⟩:=h;exact ⟨g2,e1,h1,hB.below hb⟩)),trivial⟩ trivial (by rfl) ?_ ?_ ?_
    ·refine ⟨?_,?_,?_,?_,?_,?_,?_,?_,?_,?_,?_,?_,?_,?_,?_,?_,?_,?_,?_,?_,?_,?_,?_,trivial⟩
     ·refine Each.fine rfl (fun ev w1 hR hb hh=>?_);clear hh;have e0:=hR.old 0 rfl;simp only [qA,qT,qZ,qO] at e0;refine Each.Goes.same ?_;go_simp;try with_reducible rfl
     ·refine Each.fine rfl (fun ev w1 hR hb hh=>?_);have e5:(ev (.tmp 5)=.pointer (some ⟨g,0,none⟩)):=hh.at 0;clear hh;refine Each.Goes.same ?_;go_simp;try with_reducible rfl
     ·refine Each.fine rfl (fun ev w1 hR hb hh=>?_);have e6:(ev (.tmp 6)=.pointer (some ⟨g,0,none⟩)):=hh.at 0;clear hh;refine Each.Goes.same ?_;go_simp;try with_reducible rfl
     ·refine Each.fine rfl (fun ev w1 hR hb hh=>?_);have e7:(ev (.tmp 7)=.pointer (some ⟨g,0,none⟩)):=hh.at 0;clear hh;have q0:=(HQ.out.below hb).c 0 _ rfl;refine Each.Goes.same ?_;go_simp;try with_reducible rfl
     ·refine Each.fine rfl (fun ev w1 hR hb hh=>?_);clear hh;have e0:=hR.old 0 rfl;simp only [qA,qT,qZ,qO] at e0;refine Each.Goes.same ?_;go_simp;try with_reducible rfl
     ·refine Each.fine rfl (fun ev w1 hR hb hh=>?_);have e9:(ev (.tmp 9)=.pointer (some ⟨g,0,none⟩)):=hh.at 0;clear hh;refine Each.Goes.same ?_;go_simp;try with_reducible rfl
     ·refine Each.fine rfl (fun ev w1 hR hb hh=>?_);have e10:(ev (.tmp 10)=.pointer (some ⟨g,0,none⟩)):=hh.at 0;clear hh;refine Each.Goes.same ?_;go_simp;try with_reducible rfl
     ·refine Each.fine rfl (fun ev w1 hR hb hh=>?_);have e11:(ev (.tmp 11)=.pointer (some ⟨g,1,none⟩)):=hh.at 0;clear hh;have q1:=(HQ.out.below hb).c 1 _ rfl;have q2:=(HQ.out.below hb).c 2 _ rfl;have q3:=(HQ.out.below hb).c 3 _ rfl;have q4:=(HQ.out.below hb).c 4 _ rfl;have q5:=(HQ.out.below hb).c 5 _ rfl;have q6:=(HQ.out.below hb).c 6 _ rfl;have q7:=(HQ.out.below hb).c 7 _ rfl;have q8:=(HQ.out.below hb).c 8 _ rfl;have q9:=(HQ.out.below hb).c 9 _ rfl;have q10:=(HQ.out.below hb).c 10 _ rfl;refine Each.Goes.same ?_;go_simp;try with_reducible rfl
     ·refine Each.fine rfl (fun ev w1 hR hb hh=>?_);clear hh;have e0:=hR.old 0 rfl;simp only [qA,qT,qZ,qO] at e0;refine Each.Goes.same ?_;go_simp;try with_reducible rfl
     ·refine Each.fine rfl (fun ev w1 hR hb hh=>?_);have e13:(ev (.tmp 13)=.pointer (some ⟨g,0,none⟩)):=hh.at 0;clear hh;refine Each.Goes.same ?_;go_simp;try with_reducible rfl
     ·refine Each.fine rfl (fun ev w1 hR hb hh=>?_);have e14:(ev (.tmp 14)=.pointer (some ⟨g,0,none⟩)):=hh.at 0;clear hh;refine Each.Goes.same ?_;go_simp;try with_reducible rfl
     ·refine Each.fine rfl (fun ev w1 hR hb hh=>?_);have e15:(ev (.tmp 15)=.pointer (some ⟨g,13,none⟩)):=hh.at 0;clear hh;refine Each.Goes.same ?_;go_simp;try with_reducible rfl
     ·refine Each.fine rfl (fun ev w1 hR hb hh=>?_);have e16:(ev (.tmp 16)=.pointer (some ⟨g,15,none⟩)):=hh.at 0;clear hh;have q15:=(HQ.out.below hb).c 15 _ rfl;refine Each.Goes.same ?_;go_simp;try with_reducible rfl
     ·refine Each.fine rfl (fun ev w1 hR hb hh=>?_);clear hh;have e0:=hR.old 0 rfl;simp only [qA,qT,qZ,qO] at e0;refine Each.Goes.same ?_;go_simp;try with_reducible rfl
     ·refine Each.fine rfl (fun ev w1 hR hb hh=>?_);have e18:(ev (.tmp 18)=.pointer (some ⟨g,0,none⟩)):=hh.at 0;clear hh;refine Each.Goes.same ?_;go_simp;try with_reducible rfl
     ·refine Each.fine rfl (fun ev w1 hR hb hh=>?_);have e19:(ev (.tmp 19)=.pointer (some ⟨g,0,none⟩)):=hh.at 0;clear hh;refine Each.Goes.same ?_;go_simp;try with_reducible rfl
     ·refine Each.fine rfl (fun ev w1 hR hb hh=>?_);have e20:(ev (.tmp 20)=.pointer (some ⟨g,13,none⟩)):=hh.at 0;clear hh;refine Each.Goes.same ?_;go_simp;try with_reducible rfl
     ·refine Each.fine rfl (fun ev w1 hR hb hh=>?_);have e21:(ev (.tmp 21)=.pointer (some ⟨g,16,none⟩)):=hh.at 0;clear hh;have q16:=(HQ.out.below hb).c 16 _ rfl;refine Each.Goes.same ?_;go_simp;try with_reducible rfl
     ·refine Each.fine rfl (fun ev w1 hR hb hh=>?_);have e8:(ev (.tmp 8)=.int .u32 (p:Int)):=hh.at 0;have e12:(ev (.tmp 12)=.agg #[.int .i64 b.x0,.int .i64 b.x1,.int .i64 b.x2,.int .i64 b.x3,.int .i64 b.x4,.int .i64 b.x5,.int .i64 b.x6,.int .i64 b.x7,.bool b.ch,.bool b.od]):=hh.at 1;have e17:(ev (.tmp 17)=.int .i64 s.r.k):=hh.at 2;have e22:(ev (.tmp 22)=.slice bf s.r.fs.length cf):=hh.at 3;clear hh;have ef:=hR.func
      refine Each.Goes.enter 91 #[.int .u32 (p:Int),.agg #[.int .i64 b.x0,.int .i64 b.x1,.int .i64 b.x2,.int .i64 b.x3,.int .i64 b.x4,.int .i64 b.x5,.int .i64 b.x6,.int .i64 b.x7,.bool b.ch,.bool b.od],.int .i64 s.r.k,.slice bf s.r.fs.length cf] (by go_simp) ((HZ.out w1 hb).mono ?_);rintro r w2 ⟨rfl,hb2⟩;exact ⟨_,rfl,hb2,rfl⟩
     ·refine Each.fine rfl (fun ev w1 hR hb hh=>?_);have e23:(ev (.tmp 23)=.tuple #[.agg #[.int .i64 1,.int .i64 0],.int .i64 0]):=hh.at 0;clear hh;refine Each.Goes.same ?_;go_simp;try with_reducible rfl
     ·refine Each.fine rfl (fun ev w1 hR hb hh=>?_);have e4:(ev (.tmp 4)=.tuple #[.agg #[.int .i64 1,.int .i64 0],.int .i64 0]):=hh.at 0;clear hh;refine Each.Goes.same ?_;go_simp;try with_reducible rfl
     ·refine Each.fine rfl (fun ev w1 hR hb hh=>?_);have e4:(ev (.tmp 4)=.tuple #[.agg #[.int .i64 1,.int .i64 0],.int .i64 0]):=hh.at 0;clear hh;refine Each.Goes.same ?_;go_simp;try with_reducible rfl
     ·refine Each.fine rfl (fun ev w1 hR hb hh=>?_);clear hh;exact Each.Goes.value (ptr w1.heap.size) (w1.alloc (.cells #[.int .i64 0,.int .i64 0] 133)) (by go_simp) ((Below.refl _ _).alloc (Nat.le_refl _) _) ⟨_,rfl,hb.size,Rec.Bk.new w1 _ rfl 133 [.int .i64 0,.int .i64 0]⟩
    ·intro g1 w2 hb hf;have z4:(g1 4=.tuple #[.agg #[.int .i64 1,.int .i64 0],.int .i64 0]):=hf.at 19;have z24:(g1 24=.agg #[.int .i64 1,.int .i64 0]):=hf.at 20;have z25:(g1 25=.int .i64 0):=hf.at 21;have z2:((fun v u=>∃g2,v=ptr g2∧w.heap.size≤g2∧Rec.Bk u g2 [.int .i64 0,.int .i64 0]) (g1 2) w2):=hf.at 22;clear hf;obtain ⟨g2,e2,hg2,hB2⟩:=z2;simp only [Each.putg,Act.put,qI,qY,qX];rw [z4,z24,z25,e2];simp only [Tree.grow,Tree.put1,qZ,qS]
     have y0:=hB2.c 0 _ rfl;have y1:=hB2.c 1 _ rfl;have x0:=hB2.z 0 (by simp);have x1:=hB2.z 1 (by simp)
     refine Tree.change (by rfl) (fun K hK=>?_);go_simp;refine hK _ _ trivial ?_;clear hK K y0 y1 x0 x1;refine Tree.assign _ (by rfl) (by rfl) ?_;simp only [Act.put,Act.eval,qA,qT,qZ,qS,qO,qI,qY,qX];refine Tree.done ?_;go_wp2_with fail;go_meet
     case rel=>exact ⟨g2,rfl,rfl,Lib.hid ((hb.setCell hg2 _).setCell hg2 _),Lib.hid ((hB2.set 0 (.int .i64 1) (by simp)).set 1 (.int .i64 0) (by simp)),Lib.hid hg2⟩
    ·intro k0 hk0 g1 w2 hb hf;cases hk0;have z4:(g1 4=.tuple #[.agg #[.int .i64 1,.int .i64 0],.int .i64 0]):=hf.at 19;have z24:(g1 24=.agg #[.int .i64 1,.int .i64 0]):=hf.at 20;have z2:((fun v u=>∃g2,v=ptr g2∧w.heap.size≤g2∧Rec.Bk u g2 [.int .i64 0,.int .i64 0]) (g1 2) w2):=hf.at 22;clear hf;obtain ⟨g2,e2,hg2,hB2⟩:=z2;simp only [Each.putg,Act.put,qI,qY,qX];rw [z4,z24,e2];simp only [Tree.grow,Tree.put1,qZ,qS];refine Tree.quiet (by rfl) (.int .i64 0) (fun _ _=>by go_simp) ?_;simp only [Act.put,qI,qY,qX]
     have y0:=hB2.c 0 _ rfl;have y1:=hB2.c 1 _ rfl;have x0:=hB2.z 0 (by simp);have x1:=hB2.z 1 (by simp)
     refine Tree.change (by rfl) (fun K hK=>?_);go_simp;refine hK _ _ trivial ?_;clear hK K y0 y1 x0 x1;refine Tree.assign _ (by rfl) (by rfl) ?_;simp only [Act.put,Act.eval,qA,qT,qZ,qS,qO,qI,qY,qX];refine Tree.done ?_;go_wp2_with fail;go_meet
     case rel=>exact ⟨g2,rfl,rfl,Lib.hid ((hb.setCell hg2 _).setCell hg2 _),Lib.hid ((hB2.set 0 (.int .i64 1) (by simp)).set 1 (.int .i64 0) (by simp)),Lib.hid hg2⟩
   case rest=>
   obtain ⟨g2,rfl,rfl,HB,HG,HG2⟩:=hcut
   have H1:=Lib.hid (H.out.below HB.out);clear HQ;obtain ⟨W0,hW0⟩:∃x,x=wc:=⟨_,rfl⟩;subst hW0;have y0:=HG.out.c 0 _ rfl;have y1:=HG.out.c 1 _ rfl
   have HW:=Lib.hid (whole_any H1.out HO.out)
   go_wp2_with (go_at_call 69;with_reducible refine HW.out.mono ?_;rintro r w3 ⟨rfl,q1,o1,hP,hS⟩);go_end0;exact ⟨rfl,q1,_,_,_,_,o1,hP,(Step.of_below HB.out).trans hS⟩
  ·have tz:¬(n:Int)=0:=by omega
   have tz':((n:Int)==0)=false:=beq_eq_false_iff_ne.2 tz;have e:s.over p b={s with st:=2,left:=n,fresh:=true}:=by unfold S.over;rw [hD];show (if (0:Int)≠0 then _ else if (1:Int)=2 then _ else if (n:Int)=0 then _ else ({s with st:=2,left:=(n:Int).toNat,fresh:=true}:S))= _;rw [if_neg (by decide),if_neg (by decide),if_neg tz,Int.toNat_natCast]
   rw [e];clear hz hD e hvd hle hn;go_enter Tryz.func81,Tryz.ntmps81;go_upto_region 0 with fail
   go_cut [2,3] from 4 to 25 (fun u c wx=>∃g2,u=ptr g2∧c=.int .i64 0∧Hid (Below w.heap.size w wx)∧Hid (Rec.Bk wx g2 [.int .i64 1,.int .i64 (n:Int)])∧Hid (w.heap.size≤g2))
   case first=>
    refine Each.region_float 23 [5,6,7,8,9,10,11,12,13,14,15,16,17,18,19,20,21,22,23,4,24,25,2]
     [Each.is (.pointer (some ⟨g,0,none⟩)),
       Each.is (.pointer (some ⟨g,0,none⟩)),
       Each.is (.pointer (some ⟨g,0,none⟩)),
       Each.is (.int .u32 (p:Int)),
       Each.is (.pointer (some ⟨g,0,none⟩)),
       Each.is (.pointer (some ⟨g,0,none⟩)),
       Each.is (.pointer (some ⟨g,1,none⟩)),
       Each.is (.agg #[.int .i64 b.x0,.int .i64 b.x1,.int .i64 b.x2,.int .i64 b.x3,.int .i64 b.x4,.int .i64 b.x5,.int .i64 b.x6,.int .i64 b.x7,.bool b.ch,.bool b.od]),
       Each.is (.pointer (some ⟨g,0,none⟩)),
       Each.is (.pointer (some ⟨g,0,none⟩)),
       Each.is (.pointer (some ⟨g,13,none⟩)),
       Each.is (.pointer (some ⟨g,15,none⟩)),
       Each.is (.int .i64 s.r.k),
       Each.is (.pointer (some ⟨g,0,none⟩)),
       Each.is (.pointer (some ⟨g,0,none⟩)),
       Each.is (.pointer (some ⟨g,13,none⟩)),
       Each.is (.pointer (some ⟨g,16,none⟩)),
       Each.is (.slice bf s.r.fs.length cf),
       Each.is (.tuple #[.agg #[.int .i64 1,.int .i64 (n:Int)],.int .i64 0]),
       Each.is (.tuple #[.agg #[.int .i64 1,.int .i64 (n:Int)],.int .i64 0]),
       Each.is (.agg #[.int .i64 1,.int .i64 (n:Int)]),
       Each.is (.int .i64 0),
       fun v u=>∃g2,v=ptr g2∧w.heap.size≤g2∧Rec.Bk u g2 [.int .i64 0,.int .i64 0]]
     [] 2 (some 21) (.act 23 (.quiet 24 .done)) (.quiet 21 (.act 23 (.quiet 24 .done))) (by kernel_rfl) (by kernel_rfl) (by kernel_rfl) (by kernel_rfl) (fun k0 h=>by cases h;kernel_rfl) (fun _ _ d _ _ h=>by cases d<;>exact h) (by rfl) (by rfl)
     ⟨Each.Lasts.eq _,Each.Lasts.eq _,Each.Lasts.eq _,Each.Lasts.eq _,Each.Lasts.eq _,Each.Lasts.eq _,Each.Lasts.eq _,Each.Lasts.eq _,Each.Lasts.eq _,Each.Lasts.eq _,Each.Lasts.eq _,Each.Lasts.eq _,Each.Lasts.eq _,Each.Lasts.eq _,Each.Lasts.eq _,Each.Lasts.eq _,Each.Lasts.eq _,Each.Lasts.eq _,Each.Lasts.eq _,Each.Lasts.eq _,Each.Lasts.eq _,Each.Lasts.eq _,((fun _ _ _ hb h=>by obtain ⟨g2,e1,h1,hB⟩:=h;exact ⟨g2,e1,h1,hB.below hb⟩)),trivial⟩ trivial (by rfl) ?_ ?_ ?_
    ·refine ⟨?_,?_,?_,?_,?_,?_,?_,?_,?_,?_,?_,?_,?_,?_,?_,?_,?_,?_,?_,?_,?_,?_,?_,trivial⟩
     ·refine Each.fine rfl (fun ev w1 hR hb hh=>?_);clear hh;have e0:=hR.old 0 rfl;simp only [qA,qT,qZ,qO] at e0;refine Each.Goes.same ?_;go_simp;try with_reducible rfl
     ·refine Each.fine rfl (fun ev w1 hR hb hh=>?_);have e5:(ev (.tmp 5)=.pointer (some ⟨g,0,none⟩)):=hh.at 0;clear hh;refine Each.Goes.same ?_;go_simp;try with_reducible rfl
     ·refine Each.fine rfl (fun ev w1 hR hb hh=>?_);have e6:(ev (.tmp 6)=.pointer (some ⟨g,0,none⟩)):=hh.at 0;clear hh;refine Each.Goes.same ?_;go_simp;try with_reducible rfl
     ·refine Each.fine rfl (fun ev w1 hR hb hh=>?_);have e7:(ev (.tmp 7)=.pointer (some ⟨g,0,none⟩)):=hh.at 0;clear hh;have q0:=(HQ.out.below hb).c 0 _ rfl;refine Each.Goes.same ?_;go_simp;try with_reducible rfl
     ·refine Each.fine rfl (fun ev w1 hR hb hh=>?_);clear hh;have e0:=hR.old 0 rfl;simp only [qA,qT,qZ,qO] at e0;refine Each.Goes.same ?_;go_simp;try with_reducible rfl
     ·refine Each.fine rfl (fun ev w1 hR hb hh=>?_);have e9:(ev (.tmp 9)=.pointer (some ⟨g,0,none⟩)):=hh.at 0;clear hh;refine Each.Goes.same ?_;go_simp;try with_reducible rfl
     ·refine Each.fine rfl (fun ev w1 hR hb hh=>?_);have e10:(ev (.tmp 10)=.pointer (some ⟨g,0,none⟩)):=hh.at 0;clear hh;refine Each.Goes.same ?_;go_simp;try with_reducible rfl
     ·refine Each.fine rfl (fun ev w1 hR hb hh=>?_);have e11:(ev (.tmp 11)=.pointer (some ⟨g,1,none⟩)):=hh.at 0;clear hh;have q1:=(HQ.out.below hb).c 1 _ rfl;have q2:=(HQ.out.below hb).c 2 _ rfl;have q3:=(HQ.out.below hb).c 3 _ rfl;have q4:=(HQ.out.below hb).c 4 _ rfl;have q5:=(HQ.out.below hb).c 5 _ rfl;have q6:=(HQ.out.below hb).c 6 _ rfl;have q7:=(HQ.out.below hb).c 7 _ rfl;have q8:=(HQ.out.below hb).c 8 _ rfl;have q9:=(HQ.out.below hb).c 9 _ rfl;have q10:=(HQ.out.below hb).c 10 _ rfl;refine Each.Goes.same ?_;go_simp;try with_reducible rfl
     ·refine Each.fine rfl (fun ev w1 hR hb hh=>?_);clear hh;have e0:=hR.old 0 rfl;simp only [qA,qT,qZ,qO] at e0;refine Each.Goes.same ?_;go_simp;try with_reducible rfl
     ·refine Each.fine rfl (fun ev w1 hR hb hh=>?_);have e13:(ev (.tmp 13)=.pointer (some ⟨g,0,none⟩)):=hh.at 0;clear hh;refine Each.Goes.same ?_;go_simp;try with_reducible rfl
     ·refine Each.fine rfl (fun ev w1 hR hb hh=>?_);have e14:(ev (.tmp 14)=.pointer (some ⟨g,0,none⟩)):=hh.at 0;clear hh;refine Each.Goes.same ?_;go_simp;try with_reducible rfl
     ·refine Each.fine rfl (fun ev w1 hR hb hh=>?_);have e15:(ev (.tmp 15)=.pointer (some ⟨g,13,none⟩)):=hh.at 0;clear hh;refine Each.Goes.same ?_;go_simp;try with_reducible rfl
     ·refine Each.fine rfl (fun ev w1 hR hb hh=>?_);have e16:(ev (.tmp 16)=.pointer (some ⟨g,15,none⟩)):=hh.at 0;clear hh;have q15:=(HQ.out.below hb).c 15 _ rfl;refine Each.Goes.same ?_;go_simp;try with_reducible rfl
     ·refine Each.fine rfl (fun ev w1 hR hb hh=>?_);clear hh;have e0:=hR.old 0 rfl;simp only [qA,qT,qZ,qO] at e0;refine Each.Goes.same ?_;go_simp;try with_reducible rfl
     ·refine Each.fine rfl (fun ev w1 hR hb hh=>?_);have e18:(ev (.tmp 18)=.pointer (some ⟨g,0,none⟩)):=hh.at 0;clear hh;refine Each.Goes.same ?_;go_simp;try with_reducible rfl
     ·refine Each.fine rfl (fun ev w1 hR hb hh=>?_);have e19:(ev (.tmp 19)=.pointer (some ⟨g,0,none⟩)):=hh.at 0;clear hh;refine Each.Goes.same ?_;go_simp;try with_reducible rfl
     ·refine Each.fine rfl (fun ev w1 hR hb hh=>?_);have e20:(ev (.tmp 20)=.pointer (some ⟨g,13,none⟩)):=hh.at 0;clear hh;refine Each.Goes.same ?_;go_simp;try with_reducible rfl
     ·refine Each.fine rfl (fun ev w1 hR hb hh=>?_);have e21:(ev (.tmp 21)=.pointer (some ⟨g,16,none⟩)):=hh.at 0;clear hh;have q16:=(HQ.out.below hb).c 16 _ rfl;refine Each.Goes.same ?_;go_simp;try with_reducible rfl
     ·refine Each.fine rfl (fun ev w1 hR hb hh=>?_);have e8:(ev (.tmp 8)=.int .u32 (p:Int)):=hh.at 0;have e12:(ev (.tmp 12)=.agg #[.int .i64 b.x0,.int .i64 b.x1,.int .i64 b.x2,.int .i64 b.x3,.int .i64 b.x4,.int .i64 b.x5,.int .i64 b.x6,.int .i64 b.x7,.bool b.ch,.bool b.od]):=hh.at 1;have e17:(ev (.tmp 17)=.int .i64 s.r.k):=hh.at 2;have e22:(ev (.tmp 22)=.slice bf s.r.fs.length cf):=hh.at 3;clear hh;have ef:=hR.func
      refine Each.Goes.enter 91 #[.int .u32 (p:Int),.agg #[.int .i64 b.x0,.int .i64 b.x1,.int .i64 b.x2,.int .i64 b.x3,.int .i64 b.x4,.int .i64 b.x5,.int .i64 b.x6,.int .i64 b.x7,.bool b.ch,.bool b.od],.int .i64 s.r.k,.slice bf s.r.fs.length cf] (by go_simp) ((HZ.out w1 hb).mono ?_);rintro r w2 ⟨rfl,hb2⟩;exact ⟨_,rfl,hb2,rfl⟩
     ·refine Each.fine rfl (fun ev w1 hR hb hh=>?_);have e23:(ev (.tmp 23)=.tuple #[.agg #[.int .i64 1,.int .i64 (n:Int)],.int .i64 0]):=hh.at 0;clear hh;refine Each.Goes.same ?_;go_simp;try with_reducible rfl
     ·refine Each.fine rfl (fun ev w1 hR hb hh=>?_);have e4:(ev (.tmp 4)=.tuple #[.agg #[.int .i64 1,.int .i64 (n:Int)],.int .i64 0]):=hh.at 0;clear hh;refine Each.Goes.same ?_;go_simp;try with_reducible rfl
     ·refine Each.fine rfl (fun ev w1 hR hb hh=>?_);have e4:(ev (.tmp 4)=.tuple #[.agg #[.int .i64 1,.int .i64 (n:Int)],.int .i64 0]):=hh.at 0;clear hh;refine Each.Goes.same ?_;go_simp;try with_reducible rfl
     ·refine Each.fine rfl (fun ev w1 hR hb hh=>?_);clear hh;exact Each.Goes.value (ptr w1.heap.size) (w1.alloc (.cells #[.int .i64 0,.int .i64 0] 133)) (by go_simp) ((Below.refl _ _).alloc (Nat.le_refl _) _) ⟨_,rfl,hb.size,Rec.Bk.new w1 _ rfl 133 [.int .i64 0,.int .i64 0]⟩
    ·intro g1 w2 hb hf;have z4:(g1 4=.tuple #[.agg #[.int .i64 1,.int .i64 (n:Int)],.int .i64 0]):=hf.at 19;have z24:(g1 24=.agg #[.int .i64 1,.int .i64 (n:Int)]):=hf.at 20;have z25:(g1 25=.int .i64 0):=hf.at 21;have z2:((fun v u=>∃g2,v=ptr g2∧w.heap.size≤g2∧Rec.Bk u g2 [.int .i64 0,.int .i64 0]) (g1 2) w2):=hf.at 22;clear hf;obtain ⟨g2,e2,hg2,hB2⟩:=z2;simp only [Each.putg,Act.put,qI,qY,qX];rw [z4,z24,z25,e2];simp only [Tree.grow,Tree.put1,qZ,qS]
     have y0:=hB2.c 0 _ rfl;have y1:=hB2.c 1 _ rfl;have x0:=hB2.z 0 (by simp);have x1:=hB2.z 1 (by simp)
     refine Tree.change (by rfl) (fun K hK=>?_);go_simp;refine hK _ _ trivial ?_;clear hK K y0 y1 x0 x1;refine Tree.assign _ (by rfl) (by rfl) ?_;simp only [Act.put,Act.eval,qA,qT,qZ,qS,qO,qI,qY,qX];refine Tree.done ?_;go_wp2_with fail;go_meet
     case rel=>exact ⟨g2,rfl,rfl,Lib.hid ((hb.setCell hg2 _).setCell hg2 _),Lib.hid ((hB2.set 0 (.int .i64 1) (by simp)).set 1 (.int .i64 (n:Int)) (by simp)),Lib.hid hg2⟩
    ·intro k0 hk0 g1 w2 hb hf;cases hk0;have z4:(g1 4=.tuple #[.agg #[.int .i64 1,.int .i64 (n:Int)],.int .i64 0]):=hf.at 19;have z24:(g1 24=.agg #[.int .i64 1,.int .i64 (n:Int)]):=hf.at 20;have z2:((fun v u=>∃g2,v=ptr g2∧w.heap.size≤g2∧Rec.Bk u g2 [.int .i64 0,.int .i64 0]) (g1 2) w2):=hf.at 22;clear hf;obtain ⟨g2,e2,hg2,hB2⟩:=z2;simp only [Each.putg,Act.put,qI,qY,qX];rw [z4,z24,e2];simp only [Tree.grow,Tree.put1,qZ,qS];refine Tree.quiet (by rfl) (.int .i64 0) (fun _ _=>by go_simp) ?_;simp only [Act.put,qI,qY,qX]
     have y0:=hB2.c 0 _ rfl;have y1:=hB2.c 1 _ rfl;have x0:=hB2.z 0 (by simp);have x1:=hB2.z 1 (by simp)
     refine Tree.change (by rfl) (fun K hK=>?_);go_simp;refine hK _ _ trivial ?_;clear hK K y0 y1 x0 x1;refine Tree.assign _ (by rfl) (by rfl) ?_;simp only [Act.put,Act.eval,qA,qT,qZ,qS,qO,qI,qY,qX];refine Tree.done ?_;go_wp2_with fail;go_meet
     case rel=>exact ⟨g2,rfl,rfl,Lib.hid ((hb.setCell hg2 _).setCell hg2 _),Lib.hid ((hB2.set 0 (.int .i64 1) (by simp)).set 1 (.int .i64 (n:Int)) (by simp)),Lib.hid hg2⟩
   case rest=>
   obtain ⟨g2,rfl,rfl,HB,HG,HG2⟩:=hcut
   have H1:=Lib.hid (H.out.below HB.out);clear HQ;obtain ⟨W0,hW0⟩:∃x,x=wc:=⟨_,rfl⟩;subst hW0;have y0:=HG.out.c 0 _ rfl;have y1:=HG.out.c 1 _ rfl
   have H2:=Lib.hid (((H1.out.put 11 (.int .i64 2) {s with st:=2} rfl rfl rfl rfl rfl rfl).put 22 (.int .i64 (n:Int)) {s with st:=2,left:=n} rfl rfl rfl rfl rfl rfl).put 23 (.bool true) {s with st:=2,left:=n,fresh:=true} rfl rfl rfl rfl rfl rfl);have c11:=H1.out.cs.c11;have c22:=H1.out.cs.c22;have c23:=H1.out.cs.c23;have z11:=H1.out.marks 11;have z22:=H1.out.marks 22;have z23:=H1.out.marks 23
   have HS2:=Lib.hid ((Step.of_below HB.out (L:=blks g q v (.slice bf s.r.fs.length cf) bd t o)).trans (((Step.set g 11 (.int .i64 2) (by simp)).trans (Step.set g 22 (.int .i64 (n:Int)) (by simp))).trans (Step.set g 23 (.bool true) (by simp))));have hne:¬g2=g:=by have h1:=H.out.own.lt;have h2:=HG2.out;omega
   have hne':¬g=g2:=fun e=>hne e.symm;clear H1;go_upto_region 1 with fail
   go_region
   have H3:=Lib.hid (H2.out.drew 1);have HS3:=Lib.hid (HS2.out.trans (Step.of_below (Base.below_drewN (Below.refl _ _) 1)));clear c11 c22 c23 z11 z22 z23 H2 HS2;go_wp2;go_end0;exact ⟨rfl,_,_,_,_,_,_,H3.out,HS3.out⟩
 ·have HZ:=Lib.hid (show∀w2,Below (w.drewN 1).heap.size (w.drewN 1) w2→Calls Tryz.prog 91 #[.int .u32 (p:Int),.agg #[.int .i64 b.x0,.int .i64 b.x1,.int .i64 b.x2,.int .i64 b.x3,.int .i64 b.x4,.int .i64 b.x5,.int .i64 b.x6,.int .i64 b.x7,.bool b.ch,.bool b.od],.int .i64 s.r.k,.slice bf s.r.fs.length cf] w2 fun r w'=>r=.returned (.tuple #[.agg #[.int .i64 0,.int .i64 0],.int .i64 (e:Int)])∧Below w2.heap.size w2 w' from fun w2 hb=>by have:=hz w2 hb;rw [hD] at this;exact this);have tz:¬(e:Int)=0:=by omega
  have tz':((e:Int)==0)=false:=beq_eq_false_iff_ne.2 tz;have e1:s.over p b=s.fail e:=by unfold S.over;rw [hD];show (if (e:Int)≠0 then s.fail (e:Int).toNat else _)= _;rw [if_pos tz,Int.toNat_natCast]
  rw [e1];clear hz hD e1 hvd he;go_enter Tryz.func81,Tryz.ntmps81;go_upto_region 0 with fail
  go_cut [2,3] from 4 to 25 (fun u c wx=>∃g2,u=ptr g2∧c=.int .i64 (e:Int)∧Hid (Below w.heap.size w wx)∧Hid (Rec.Bk wx g2 [.int .i64 0,.int .i64 0])∧Hid (w.heap.size≤g2))
  case first=>
   refine Each.region_float 23 [5,6,7,8,9,10,11,12,13,14,15,16,17,18,19,20,21,22,23,4,24,25,2]
    [Each.is (.pointer (some ⟨g,0,none⟩)),
      Each.is (.pointer (some ⟨g,0,none⟩)),
      Each.is (.pointer (some ⟨g,0,none⟩)),
      Each.is (.int .u32 (p:Int)),
      Each.is (.pointer (some ⟨g,0,none⟩)),
      Each.is (.pointer (some ⟨g,0,none⟩)),
      Each.is (.pointer (some ⟨g,1,none⟩)),
      Each.is (.agg #[.int .i64 b.x0,.int .i64 b.x1,.int .i64 b.x2,.int .i64 b.x3,.int .i64 b.x4,.int .i64 b.x5,.int .i64 b.x6,.int .i64 b.x7,.bool b.ch,.bool b.od]),
      Each.is (.pointer (some ⟨g,0,none⟩)),
      Each.is (.pointer (some ⟨g,0,none⟩)),
      Each.is (.pointer (some ⟨g,13,none⟩)),
      Each.is (.pointer (some ⟨g,15,none⟩)),
      Each.is (.int .i64 s.r.k),
      Each.is (.pointer (some ⟨g,0,none⟩)),
      Each.is (.pointer (some ⟨g,0,none⟩)),
      Each.is (.pointer (some ⟨g,13,none⟩)),
      Each.is (.pointer (some ⟨g,16,none⟩)),
      Each.is (.slice bf s.r.fs.length cf),
      Each.is (.tuple #[.agg #[.int .i64 0,.int .i64 0],.int .i64 (e:Int)]),
      Each.is (.tuple #[.agg #[.int .i64 0,.int .i64 0],.int .i64 (e:Int)]),
      Each.is (.agg #[.int .i64 0,.int .i64 0]),
      Each.is (.int .i64 (e:Int)),
      fun v u=>∃g2,v=ptr g2∧w.heap.size≤g2∧Rec.Bk u g2 [.int .i64 0,.int .i64 0]]
    [] 2 (some 21) (.act 23 (.quiet 24 .done)) (.quiet 21 (.act 23 (.quiet 24 .done))) (by kernel_rfl) (by kernel_rfl) (by kernel_rfl) (by kernel_rfl) (fun k0 h=>by cases h;kernel_rfl) (fun _ _ d _ _ h=>by cases d<;>exact h) (by rfl) (by rfl)
    ⟨Each.Lasts.eq _,Each.Lasts.eq _,Each.Lasts.eq _,Each.Lasts.eq _,Each.Lasts.eq _,Each.Lasts.eq _,Each.Lasts.eq _,Each.Lasts.eq _,Each.Lasts.eq _,Each.Lasts.eq _,Each.Lasts.eq _,Each.Lasts.eq _,Each.Lasts.eq _,Each.Lasts.eq _,Each.Lasts.eq _,Each.Lasts.eq _,Each.Lasts.eq _,Each.Lasts.eq _,Each.Lasts.eq _,Each.Lasts.eq _,Each.Lasts.eq _,Each.Lasts.eq _,((fun _ _ _ hb h=>by obtain ⟨g2,e1,h1,hB⟩:=h;exact ⟨g2,e1,h1,hB.below hb⟩)),trivial⟩ trivial (by rfl) ?_ ?_ ?_
   ·refine ⟨?_,?_,?_,?_,?_,?_,?_,?_,?_,?_,?_,?_,?_,?_,?_,?_,?_,?_,?_,?_,?_,?_,?_,trivial⟩
    ·refine Each.fine rfl (fun ev w1 hR hb hh=>?_);clear hh;have e0:=hR.old 0 rfl;simp only [qA,qT,qZ,qO] at e0;refine Each.Goes.same ?_;go_simp;try with_reducible rfl
    ·refine Each.fine rfl (fun ev w1 hR hb hh=>?_);have e5:(ev (.tmp 5)=.pointer (some ⟨g,0,none⟩)):=hh.at 0;clear hh;refine Each.Goes.same ?_;go_simp;try with_reducible rfl
    ·refine Each.fine rfl (fun ev w1 hR hb hh=>?_);have e6:(ev (.tmp 6)=.pointer (some ⟨g,0,none⟩)):=hh.at 0;clear hh;refine Each.Goes.same ?_;go_simp;try with_reducible rfl
    ·refine Each.fine rfl (fun ev w1 hR hb hh=>?_);have e7:(ev (.tmp 7)=.pointer (some ⟨g,0,none⟩)):=hh.at 0;clear hh;have q0:=(HQ.out.below hb).c 0 _ rfl;refine Each.Goes.same ?_;go_simp;try with_reducible rfl
    ·refine Each.fine rfl (fun ev w1 hR hb hh=>?_);clear hh;have e0:=hR.old 0 rfl;simp only [qA,qT,qZ,qO] at e0;refine Each.Goes.same ?_;go_simp;try with_reducible rfl
    ·refine Each.fine rfl (fun ev w1 hR hb hh=>?_);have e9:(ev (.tmp 9)=.pointer (some ⟨g,0,none⟩)):=hh.at 0;clear hh;refine Each.Goes.same ?_;go_simp;try with_reducible rfl
    ·refine Each.fine rfl (fun ev w1 hR hb hh=>?_);have e10:(ev (.tmp 10)=.pointer (some ⟨g,0,none⟩)):=hh.at 0;clear hh;refine Each.Goes.same ?_;go_simp;try with_reducible rfl
    ·refine Each.fine rfl (fun ev w1 hR hb hh=>?_);have e11:(ev (.tmp 11)=.pointer (some ⟨g,1,none⟩)):=hh.at 0;clear hh;have q1:=(HQ.out.below hb).c 1 _ rfl;have q2:=(HQ.out.below hb).c 2 _ rfl;have q3:=(HQ.out.below hb).c 3 _ rfl;have q4:=(HQ.out.below hb).c 4 _ rfl;have q5:=(HQ.out.below hb).c 5 _ rfl;have q6:=(HQ.out.below hb).c 6 _ rfl;have q7:=(HQ.out.below hb).c 7 _ rfl;have q8:=(HQ.out.below hb).c 8 _ rfl;have q9:=(HQ.out.below hb).c 9 _ rfl;have q10:=(HQ.out.below hb).c 10 _ rfl;refine Each.Goes.same ?_;go_simp;try with_reducible rfl
    ·refine Each.fine rfl (fun ev w1 hR hb hh=>?_);clear hh;have e0:=hR.old 0 rfl;simp only [qA,qT,qZ,qO] at e0;refine Each.Goes.same ?_;go_simp;try with_reducible rfl
    ·refine Each.fine rfl (fun ev w1 hR hb hh=>?_);have e13:(ev (.tmp 13)=.pointer (some ⟨g,0,none⟩)):=hh.at 0;clear hh;refine Each.Goes.same ?_;go_simp;try with_reducible rfl
    ·refine Each.fine rfl (fun ev w1 hR hb hh=>?_);have e14:(ev (.tmp 14)=.pointer (some ⟨g,0,none⟩)):=hh.at 0;clear hh;refine Each.Goes.same ?_;go_simp;try with_reducible rfl
    ·refine Each.fine rfl (fun ev w1 hR hb hh=>?_);have e15:(ev (.tmp 15)=.pointer (some ⟨g,13,none⟩)):=hh.at 0;clear hh;refine Each.Goes.same ?_;go_simp;try with_reducible rfl
    ·refine Each.fine rfl (fun ev w1 hR hb hh=>?_);have e16:(ev (.tmp 16)=.pointer (some ⟨g,15,none⟩)):=hh.at 0;clear hh;have q15:=(HQ.out.below hb).c 15 _ rfl;refine Each.Goes.same ?_;go_simp;try with_reducible rfl
    ·refine Each.fine rfl (fun ev w1 hR hb hh=>?_);clear hh;have e0:=hR.old 0 rfl;simp only [qA,qT,qZ,qO] at e0;refine Each.Goes.same ?_;go_simp;try with_reducible rfl
    ·refine Each.fine rfl (fun ev w1 hR hb hh=>?_);have e18:(ev (.tmp 18)=.pointer (some ⟨g,0,none⟩)):=hh.at 0;clear hh;refine Each.Goes.same ?_;go_simp;try with_reducible rfl
    ·refine Each.fine rfl (fun ev w1 hR hb hh=>?_);have e19:(ev (.tmp 19)=.pointer (some ⟨g,0,none⟩)):=hh.at 0;clear hh;refine Each.Goes.same ?_;go_simp;try with_reducible rfl
    ·refine Each.fine rfl (fun ev w1 hR hb hh=>?_);have e20:(ev (.tmp 20)=.pointer (some ⟨g,13,none⟩)):=hh.at 0;clear hh;refine Each.Goes.same ?_;go_simp;try with_reducible rfl
    ·refine Each.fine rfl (fun ev w1 hR hb hh=>?_);have e21:(ev (.tmp 21)=.pointer (some ⟨g,16,none⟩)):=hh.at 0;clear hh;have q16:=(HQ.out.below hb).c 16 _ rfl;refine Each.Goes.same ?_;go_simp;try with_reducible rfl
    ·refine Each.fine rfl (fun ev w1 hR hb hh=>?_);have e8:(ev (.tmp 8)=.int .u32 (p:Int)):=hh.at 0;have e12:(ev (.tmp 12)=.agg #[.int .i64 b.x0,.int .i64 b.x1,.int .i64 b.x2,.int .i64 b.x3,.int .i64 b.x4,.int .i64 b.x5,.int .i64 b.x6,.int .i64 b.x7,.bool b.ch,.bool b.od]):=hh.at 1;have e17:(ev (.tmp 17)=.int .i64 s.r.k):=hh.at 2;have e22:(ev (.tmp 22)=.slice bf s.r.fs.length cf):=hh.at 3;clear hh;have ef:=hR.func
     refine Each.Goes.enter 91 #[.int .u32 (p:Int),.agg #[.int .i64 b.x0,.int .i64 b.x1,.int .i64 b.x2,.int .i64 b.x3,.int .i64 b.x4,.int .i64 b.x5,.int .i64 b.x6,.int .i64 b.x7,.bool b.ch,.bool b.od],.int .i64 s.r.k,.slice bf s.r.fs.length cf] (by go_simp) ((HZ.out w1 hb).mono ?_);rintro r w2 ⟨rfl,hb2⟩;exact ⟨_,rfl,hb2,rfl⟩
    ·refine Each.fine rfl (fun ev w1 hR hb hh=>?_);have e23:(ev (.tmp 23)=.tuple #[.agg #[.int .i64 0,.int .i64 0],.int .i64 (e:Int)]):=hh.at 0;clear hh;refine Each.Goes.same ?_;go_simp;try with_reducible rfl
    ·refine Each.fine rfl (fun ev w1 hR hb hh=>?_);have e4:(ev (.tmp 4)=.tuple #[.agg #[.int .i64 0,.int .i64 0],.int .i64 (e:Int)]):=hh.at 0;clear hh;refine Each.Goes.same ?_;go_simp;try with_reducible rfl
    ·refine Each.fine rfl (fun ev w1 hR hb hh=>?_);have e4:(ev (.tmp 4)=.tuple #[.agg #[.int .i64 0,.int .i64 0],.int .i64 (e:Int)]):=hh.at 0;clear hh;refine Each.Goes.same ?_;go_simp;try with_reducible rfl
    ·refine Each.fine rfl (fun ev w1 hR hb hh=>?_);clear hh;exact Each.Goes.value (ptr w1.heap.size) (w1.alloc (.cells #[.int .i64 0,.int .i64 0] 133)) (by go_simp) ((Below.refl _ _).alloc (Nat.le_refl _) _) ⟨_,rfl,hb.size,Rec.Bk.new w1 _ rfl 133 [.int .i64 0,.int .i64 0]⟩
   ·intro g1 w2 hb hf;have z4:(g1 4=.tuple #[.agg #[.int .i64 0,.int .i64 0],.int .i64 (e:Int)]):=hf.at 19;have z24:(g1 24=.agg #[.int .i64 0,.int .i64 0]):=hf.at 20;have z25:(g1 25=.int .i64 (e:Int)):=hf.at 21;have z2:((fun v u=>∃g2,v=ptr g2∧w.heap.size≤g2∧Rec.Bk u g2 [.int .i64 0,.int .i64 0]) (g1 2) w2):=hf.at 22;clear hf;obtain ⟨g2,e2,hg2,hB2⟩:=z2;simp only [Each.putg,Act.put,qI,qY,qX];rw [z4,z24,z25,e2];simp only [Tree.grow,Tree.put1,qZ,qS]
    have y0:=hB2.c 0 _ rfl;have y1:=hB2.c 1 _ rfl;have x0:=hB2.z 0 (by simp);have x1:=hB2.z 1 (by simp)
    refine Tree.change (by rfl) (fun K hK=>?_);go_simp;refine hK _ _ trivial ?_;clear hK K y0 y1 x0 x1;refine Tree.assign _ (by rfl) (by rfl) ?_;simp only [Act.put,Act.eval,qA,qT,qZ,qS,qO,qI,qY,qX];refine Tree.done ?_;go_wp2_with fail;go_meet
    case rel=>exact ⟨g2,rfl,rfl,Lib.hid ((hb.setCell hg2 _).setCell hg2 _),Lib.hid ((hB2.set 0 (.int .i64 0) (by simp)).set 1 (.int .i64 0) (by simp)),Lib.hid hg2⟩
   ·intro k0 hk0 g1 w2 hb hf;cases hk0;have z4:(g1 4=.tuple #[.agg #[.int .i64 0,.int .i64 0],.int .i64 (e:Int)]):=hf.at 19;have z24:(g1 24=.agg #[.int .i64 0,.int .i64 0]):=hf.at 20;have z2:((fun v u=>∃g2,v=ptr g2∧w.heap.size≤g2∧Rec.Bk u g2 [.int .i64 0,.int .i64 0]) (g1 2) w2):=hf.at 22;clear hf;obtain ⟨g2,e2,hg2,hB2⟩:=z2;simp only [Each.putg,Act.put,qI,qY,qX];rw [z4,z24,e2];simp only [Tree.grow,Tree.put1,qZ,qS];refine Tree.quiet (by rfl) (.int .i64 (e:Int)) (fun _ _=>by go_simp) ?_;simp only [Act.put,qI,qY,qX]
    have y0:=hB2.c 0 _ rfl;have y1:=hB2.c 1 _ rfl;have x0:=hB2.z 0 (by simp);have x1:=hB2.z 1 (by simp)
    refine Tree.change (by rfl) (fun K hK=>?_);go_simp;refine hK _ _ trivial ?_;clear hK K y0 y1 x0 x1;refine Tree.assign _ (by rfl) (by rfl) ?_;simp only [Act.put,Act.eval,qA,qT,qZ,qS,qO,qI,qY,qX];refine Tree.done ?_;go_wp2_with fail;go_meet
    case rel=>exact ⟨g2,rfl,rfl,Lib.hid ((hb.setCell hg2 _).setCell hg2 _),Lib.hid ((hB2.set 0 (.int .i64 0) (by simp)).set 1 (.int .i64 0) (by simp)),Lib.hid hg2⟩
  case rest=>
  obtain ⟨g2,rfl,rfl,HB,HG,HG2⟩:=hcut
  have H1:=Lib.hid (H.out.below HB.out);clear HQ;obtain ⟨W0,hW0⟩:∃x,x=wc:=⟨_,rfl⟩;subst hW0;have y0:=HG.out.c 0 _ rfl;have y1:=HG.out.c 1 _ rfl
  have HFA:=Lib.hid (fail_any H1.out e)
  go_wp2_with (go_at_call 56;with_reducible refine HFA.out.mono ?_;rintro r w3 ⟨rfl,hP,hS⟩);go_end0;exact ⟨rfl,_,_,_,_,_,_,hP,(Step.of_below HB.out).trans hS⟩
end code
end Go.Proofs.YtimoakmcelocfaaGreat.Par
