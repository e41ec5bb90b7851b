import Derived.Test.YtimoakmcelocfaaGreatAuf
namespace Go.Proofs.YtimoakmcelocfaaGreat.DF
open Go.RowKit Base Txt Mem Par Pg Each Flt
def parted (p:Nat) (b:Bd) (l:List UInt8):Bool:=(F.feed p b (F.new p b) l).1.parted
def lastB (p:Nat) (b:Bd) (l:List UInt8):Bool:=!l.isEmpty&&(parted p b l && !parted p b (l.take (l.length-1)))
section
variable {w w':World} {B g g1 g2 p:Nat} {b:Bd} {L1 L2:List (Option Nat)} {f:F}
theorem just_start (h:(F.new p b).code=0):(F.new p b).Just p b:=by
 have h1:(Q.new p b).err=0:=h;unfold Q.new at h1;split at h1
 ·rename_i h2;rw [Bool.and_eq_true,decide_eq_true_eq] at h2;exact just_new h2.2 h2.1
 ·cases h1
theorem DF.low (h:DF w B g g1 g2 p b L1 L2 f):∀k,some k∈blksD g L1 L2→B≤k:=by
 intro k hk;obtain ⟨_,hx⟩:=h.x;obtain ⟨_,hy⟩:=h.y;simp only [List.mem_cons,List.mem_append,Option.some.injEq] at hk;rcases hk with rfl | hk | hk
 ·exact h.ge
 ·exact hx.low k hk
 ·exact hy.low k hk
end
section code
set_option maxHeartbeats 8000000
set_option maxRecDepth 20000
attribute [local go_sem] Base.some_undef
variable {w:World} {p:Nat} {b:Bd}
theorem parts_any (hp:p<4294967296) (a:Option Addr) (c:Nat) (l:List UInt8) (hl:Bts [] w a l) (hn:l.length≤400000000) :
 Calls Tryz.prog 34 #[.slice a l.length c,.int .u32 (p:Int),.agg #[.int .i64 b.x0,.int .i64 b.x1,.int .i64 b.x2,.int .i64 b.x3,.int .i64 b.x4,.int .i64 b.x5,.int .i64 b.x6,.int .i64 b.x7,.bool b.ch,.bool b.od]] w fun r w'=>r=.returned (.bool (parted p b l))∧Below w.heap.size w w':=by
 have HN:=Lib.hid (fun w=>new_any (p:=p) (b:=b) hp w)
 have HB0:=Lib.hid (((Below.refl _ _).alloc (Nat.le_refl _) (.cells #[.int .i64 b.x0,.int .i64 b.x1,.int .i64 b.x2,.int .i64 b.x3,.int .i64 b.x4,.int .i64 b.x5,.int .i64 b.x6,.int .i64 b.x7,.bool b.ch,.bool b.od] 24)):Below w.heap.size w _)
 have HZ0:=Lib.hid (Rec.Bk.new w w.heap.size rfl 24 [.int .i64 b.x0,.int .i64 b.x1,.int .i64 b.x2,.int .i64 b.x3,.int .i64 b.x4,.int .i64 b.x5,.int .i64 b.x6,.int .i64 b.x7,.bool b.ch,.bool b.od]);have HL:=Lib.hid hl;have HNN:=Lib.hid hn;have HP:=Lib.hid hp;obtain ⟨R,hR⟩:∃R,parted p b l=R:=⟨_,rfl⟩;rw [hR];have HR:=Lib.hid hR;obtain ⟨n,hnn⟩:∃n,l.length=n:=⟨_,rfl⟩;rw [hnn];have HLN:=Lib.hid hnn;clear hl hR hnn hn;have y0:=HZ0.out.c 0 _ rfl;have y1:=HZ0.out.c 1 _ rfl;have y2:=HZ0.out.c 2 _ rfl;have y3:=HZ0.out.c 3 _ rfl;have y4:=HZ0.out.c 4 _ rfl;have y5:=HZ0.out.c 5 _ rfl;have y6:=HZ0.out.c 6 _ rfl;have y7:=HZ0.out.c 7 _ rfl;have y8:=HZ0.out.c 8 _ rfl;have y9:=HZ0.out.c 9 _ rfl;go_enter Tryz.func34,Tryz.ntmps34;go_upto_region 1 with fail
 generalize w.alloc (.cells #[.int .i64 b.x0,.int .i64 b.x1,.int .i64 b.x2,.int .i64 b.x3,.int .i64 b.x4,.int .i64 b.x5,.int .i64 b.x6,.int .i64 b.x7,.bool b.ch,.bool b.od] 24)=W0 at *;generalize hgB:w.heap.size=gB at *;have HGB:=Lib.hid hgB;clear hgB
 go_upto_region 2 with (go_at_call 48;with_reducible refine (HN.out _).mono ?_;rintro r w1 ⟨g,g1,g2,L1,L2,rfl,hd,hb⟩;have HD:=Lib.hid hd;have HB1:=Lib.hid hb;clear hd hb)
 have hsz:gB≤W0.heap.size:=by have:=HB0.out.size;have:=HGB.out;omega
 have hbl:Bts (blksD g L1 L2) w1 a l:=by
  have h1:=HL.out
  have h2:Bts [] w1 a l:=h1.step (Step.of_below (by rw [HGB.out];exact HB0.out.trans (HB1.out.mono hsz)))
  exact ⟨h2.nums,fun ad e=>⟨fun hm=>by
   have k1:=HD.out.low _ hm;have k2:=(h1.far ad e).2;have:=HGB.out
   omega,(h2.far ad e).2⟩⟩
 have hpo:Parts (blksD g L1 L2) (w1.alloc (.cells #[.slice a l.length c] 34)) (some ⟨w1.heap.size,0,none⟩) [l]:=Parts.one hbl HD.out.in _;have hab:Below w1.heap.size w1 (w1.alloc (.cells #[.slice a l.length c] 34)):=(Below.refl _ _).alloc (Nat.le_refl _) _
 have hd2:DF (w1.alloc (.cells #[.slice a l.length c] 34)) W0.heap.size g g1 g2 p b L1 L2 (F.new p b):=HD.out.keeps (Keeps.of_below hab:Keeps [] _ _) (fun _ _ hm=>by cases hm)
 have HFE:=Lib.hid (show Calls Tryz.prog 49 #[ptr g,.slice (some ⟨w1.heap.size,0,none⟩) 1 1] (w1.alloc (.cells #[.slice a l.length c] 34)) fun r w'=>∃V,r=.returned V∧∃M1 M2,DS (w1.alloc (.cells #[.slice a l.length c] 34)) W0.heap.size g g1 g2 p b [] L1 L2 (F.feed p b (F.new p b) [l].flatten).1 V (F.feed p b (F.new p b) [l].flatten).2 M1 M2 w' from feed_any HP.out hd2 just_start [] ⟨(by intro k hk;cases hk),fun k _ hk=>(by cases hk)⟩ (some ⟨w1.heap.size,0,none⟩) 1 [l] hpo (by simp) (by have:=HNN.out;simpa using this))
 have HBW:=Lib.hid (show Below gB w (w1.alloc (.cells #[.slice a l.length c] 34)) from HB0.out.trans ((HB1.out.trans (hab.mono HB1.out.size)).mono hsz));have HLOW:=Lib.hid hd2.low;rw [HLN.out] at HFE HBW;clear hbl hpo hab hd2 y0 y1 y2 y3 y4 y5 y6 y7 y8 y9
 go_wp2_with (go_at_call 49;with_reducible refine HFE.out.mono ?_;rintro r w3 ⟨V,rfl,M1,M2,hs⟩;have HS:=Lib.hid hs;have c4:=hs.fat.c.2.2.2.2;clear hs);go_ret;rw [HGB.out];refine ⟨by rw [←HR.out];rfl,HBW.out.trans ?_⟩
 exact HS.out.keeps.below (Nat.le_trans hsz (by have:=HB1.out.size;have:=((Below.refl w1.heap.size w1).alloc (Nat.le_refl _) (.cells #[.slice a n c] 34)).size;omega)) (fun k hk=>Nat.le_trans hsz (HLOW.out k hk))
theorem last_any (hp:p<4294967296) (a:Option Addr) (c:Nat) (l:List UInt8) (hl:Bts [] w a l) (hn:l.length≤400000000) (hc:l.length≤c) :
 Calls Tryz.prog 18 #[.slice a l.length c,.int .u32 (p:Int),.agg #[.int .i64 b.x0,.int .i64 b.x1,.int .i64 b.x2,.int .i64 b.x3,.int .i64 b.x4,.int .i64 b.x5,.int .i64 b.x6,.int .i64 b.x7,.bool b.ch,.bool b.od]] w fun r w'=>r=.returned (.bool (lastB p b l))∧Below w.heap.size w w':=by
 have HB0:=Lib.hid (((Below.refl _ _).alloc (Nat.le_refl _) (.cells #[.int .i64 b.x0,.int .i64 b.x1,.int .i64 b.x2,.int .i64 b.x3,.int .i64 b.x4,.int .i64 b.x5,.int .i64 b.x6,.int .i64 b.x7,.bool b.ch,.bool b.od] 24)):Below w.heap.size w _)
 have HZ0:=Lib.hid (Rec.Bk.new w w.heap.size rfl 24 [.int .i64 b.x0,.int .i64 b.x1,.int .i64 b.x2,.int .i64 b.x3,.int .i64 b.x4,.int .i64 b.x5,.int .i64 b.x6,.int .i64 b.x7,.bool b.ch,.bool b.od]);rcases Nat.eq_zero_or_pos l.length with h0 | h0
 ·obtain rfl:=List.length_eq_zero_iff.1 h0;show Calls Tryz.prog 18 #[.slice a 0 c,.int .u32 (p:Int),.agg #[.int .i64 b.x0,.int .i64 b.x1,.int .i64 b.x2,.int .i64 b.x3,.int .i64 b.x4,.int .i64 b.x5,.int .i64 b.x6,.int .i64 b.x7,.bool b.ch,.bool b.od]] w fun r w'=>r=.returned (.bool false)∧Below w.heap.size w w';clear hl hn hc h0;go_enter Tryz.func18,Tryz.ntmps18;go_upto_region 1 with fail
  go_region;all_goals
   go_wp2;go_ret;exact ⟨rfl,by first | exact HB0.out | exact Base.below_drewN HB0.out _ | exact HB0.out.drew⟩
 ·obtain ⟨zb,zo,rfl,hzb,hz⟩:=hl.nums.2 h0;obtain ⟨m,hm⟩:∃m,l.length=m+1:=⟨l.length-1,by omega⟩;obtain ⟨n,hnn⟩:∃n,l.length=n:=⟨_,rfl⟩
  have hl2:Bts [] w (some ⟨zb,zo,none⟩) (l.take m):=⟨⟨by simp,fun hx=>⟨zb,zo,rfl,hzb,fun k hk=>by
   rw [List.length_take] at hk
   rw [hz k (by omega),List.getElem?_map,List.getElem?_map,List.getElem?_take_of_lt (by omega)]⟩⟩,hl.far⟩
  have hlm:(l.take m).length=m:=by rw [List.length_take];omega
  obtain ⟨P1,hP1⟩:∃P1,parted p b l=P1:=⟨_,rfl⟩;obtain ⟨P2,hP2⟩:∃P2,parted p b (l.take m)=P2:=⟨_,rfl⟩;have hlb:lastB p b l=(P1 && !P2):=by
   unfold lastB;rw [show l.length-1=m by omega,hP1,hP2];have:l.isEmpty=false:=by
    rw [List.isEmpty_eq_false_iff]
    intro e;rw [e] at h0;exact absurd h0 (Nat.lt_irrefl _)
   rw [this];rfl
  have hb0:=HB0.out
  have HP1:=Lib.hid (fun (w1:World) (hb:Below ((w.alloc (.cells #[.int .i64 b.x0,.int .i64 b.x1,.int .i64 b.x2,.int .i64 b.x3,.int .i64 b.x4,.int .i64 b.x5,.int .i64 b.x6,.int .i64 b.x7,.bool b.ch,.bool b.od] 24)).drewN 1).heap.size ((w.alloc (.cells #[.int .i64 b.x0,.int .i64 b.x1,.int .i64 b.x2,.int .i64 b.x3,.int .i64 b.x4,.int .i64 b.x5,.int .i64 b.x6,.int .i64 b.x7,.bool b.ch,.bool b.od] 24)).drewN 1) w1)=>show Calls Tryz.prog 34 #[.slice (some ⟨zb,zo,none⟩) n c,.int .u32 (p:Int),.agg #[.int .i64 b.x0,.int .i64 b.x1,.int .i64 b.x2,.int .i64 b.x3,.int .i64 b.x4,.int .i64 b.x5,.int .i64 b.x6,.int .i64 b.x7,.bool b.ch,.bool b.od]] w1 fun r w'=>r=.returned (.bool P1)∧Below w1.heap.size w1 w' from by rw [←hP1,←hnn];exact parts_any hp _ c l (hl.step (Step.of_below (Base.below_step (Base.below_drewN hb0 1) hb))) hn)
  have HP2:=Lib.hid (fun (w1:World) (hb:Below ((w.alloc (.cells #[.int .i64 b.x0,.int .i64 b.x1,.int .i64 b.x2,.int .i64 b.x3,.int .i64 b.x4,.int .i64 b.x5,.int .i64 b.x6,.int .i64 b.x7,.bool b.ch,.bool b.od] 24)).drewN 1).heap.size ((w.alloc (.cells #[.int .i64 b.x0,.int .i64 b.x1,.int .i64 b.x2,.int .i64 b.x3,.int .i64 b.x4,.int .i64 b.x5,.int .i64 b.x6,.int .i64 b.x7,.bool b.ch,.bool b.od] 24)).drewN 1) w1)=>show Calls Tryz.prog 34 #[.slice (some ⟨zb,zo,none⟩) m c,.int .u32 (p:Int),.agg #[.int .i64 b.x0,.int .i64 b.x1,.int .i64 b.x2,.int .i64 b.x3,.int .i64 b.x4,.int .i64 b.x5,.int .i64 b.x6,.int .i64 b.x7,.bool b.ch,.bool b.od]] w1 fun r w'=>r=.returned (.bool P2)∧Below w1.heap.size w1 w' from by
   rw [←hP2]
   have:=parts_any (w:=w1) (b:=b) hp (some ⟨zb,zo,none⟩) c (l.take m) (hl2.step (Step.of_below (Base.below_step (Base.below_drewN hb0 1) hb))) (by rw [hlm];omega);rw [hlm] at this;exact this)
  rw [hlb,hnn]
  have HZ:=Lib.hid (HZ0.out.below (Base.below_drewN (Below.refl (w.alloc (.cells #[.int .i64 b.x0,.int .i64 b.x1,.int .i64 b.x2,.int .i64 b.x3,.int .i64 b.x4,.int .i64 b.x5,.int .i64 b.x6,.int .i64 b.x7,.bool b.ch,.bool b.od] 24)).heap.size (w.alloc (.cells #[.int .i64 b.x0,.int .i64 b.x1,.int .i64 b.x2,.int .i64 b.x3,.int .i64 b.x4,.int .i64 b.x5,.int .i64 b.x6,.int .i64 b.x7,.bool b.ch,.bool b.od] 24))) 1));have t0:(0:Int)<(n:Int):=by omega
  have HM1:=Lib.hid (show wrap64 ((n:Int)-1)=(m:Int) by have:(n:Int)-1=(m:Int):=by omega
                                                        rw [this];unfold wrap64;omega)
  have tm:wrap64 ((n:Int)-1)=(m:Int):=HM1.out
  have HMW:=Lib.hid (show IntKind.i64.wrap ((n:Int)-1)=(m:Int) by have h9:=HM1.out;unfold wrap64 at h9;rw [IntKind.wrap_i64];exact h9);have tc:m≤c:=by omega
  have tn:(m:Int)≤(c:Int):=by omega
  clear hl hl2 hlm hP1 hP2 hlb hz hzb hb0 hn hc h0 hm hnn;go_enter Tryz.func18,Tryz.ntmps18;go_upto_region 1 with fail
  generalize w.alloc (.cells #[.int .i64 b.x0,.int .i64 b.x1,.int .i64 b.x2,.int .i64 b.x3,.int .i64 b.x4,.int .i64 b.x5,.int .i64 b.x6,.int .i64 b.x7,.bool b.ch,.bool b.od] 24)=W0 at *;generalize hgB:w.heap.size=g at *;have HGB:=Lib.hid hgB;clear hgB;refine Each.region_all 21 [7,8,9,10,11,12,13,14,15,16,17,18,19,20,21,22,23,24,25,26,6]
   [fun v _=>v=.slice (some ⟨zb,zo,none⟩) n c,
     fun v _=>v=.int .i64 ((n:Nat):Int),
     fun v _=>v=.bool true,
     fun v _=>v=.bool true,
     Each.When (true) true (fun v _=>v=.slice (some ⟨zb,zo,none⟩) n c),
     Each.When (true) true (fun v _=>v=.int .u32 (p:Int)),
     Each.When (true) true (fun v _=>v=.agg #[.int .i64 b.x0,.int .i64 b.x1,.int .i64 b.x2,.int .i64 b.x3,.int .i64 b.x4,.int .i64 b.x5,.int .i64 b.x6,.int .i64 b.x7,.bool b.ch,.bool b.od]),
     Each.When (true) true (fun v _=>v=.bool P1),
     fun v _=>v=.bool P1,
     fun v _=>v=.bool P1,
     Each.When (P1) true (fun v _=>v=.slice (some ⟨zb,zo,none⟩) n c),
     Each.When (P1) true (fun v _=>v=.slice (some ⟨zb,zo,none⟩) n c),
     Each.When (P1) true (fun v _=>v=.int .i64 ((n:Nat):Int)),
     Each.When (P1) true (fun v _=>v=.int .i64 (m:Int)),
     Each.When (P1) true (fun v _=>v=.slice (some ⟨zb,zo,none⟩) m c),
     Each.When (P1) true (fun v _=>v=.int .u32 (p:Int)),
     Each.When (P1) true (fun v _=>v=.agg #[.int .i64 b.x0,.int .i64 b.x1,.int .i64 b.x2,.int .i64 b.x3,.int .i64 b.x4,.int .i64 b.x5,.int .i64 b.x6,.int .i64 b.x7,.bool b.ch,.bool b.od]),
     Each.When (P1) true (fun v _=>v=.bool P2),
     Each.When (P1) true (fun v _=>v=.bool (!P2)),
     fun v _=>v=.bool ((P1&&(!P2))),
     fun v _=>v=.bool ((P1&&(!P2)))]
    (by kernel_rfl) (by kernel_rfl) (by kernel_rfl) (by kernel_rfl) (fun _ _ d _ _ h=>by cases d<;>exact h) (by rfl) (by rfl)
   ⟨Each.Lasts.eq _,Each.Lasts.eq _,Each.Lasts.eq _,Each.Lasts.eq _,Each.Lasts.when (Each.Lasts.eq _),Each.Lasts.when (Each.Lasts.eq _),Each.Lasts.when (Each.Lasts.eq _),Each.Lasts.when (Each.Lasts.eq _),Each.Lasts.eq _,Each.Lasts.eq _,Each.Lasts.when (Each.Lasts.eq _),Each.Lasts.when (Each.Lasts.eq _),Each.Lasts.when (Each.Lasts.eq _),Each.Lasts.when (Each.Lasts.eq _),Each.Lasts.when (Each.Lasts.eq _),Each.Lasts.when (Each.Lasts.eq _),Each.Lasts.when (Each.Lasts.eq _),Each.Lasts.when (Each.Lasts.eq _),Each.Lasts.when (Each.Lasts.eq _),Each.Lasts.eq _,Each.Lasts.eq _,trivial⟩ ?_ ?_
  ·refine ⟨?_,?_,?_,?_,?_,?_,?_,?_,?_,?_,?_,?_,?_,?_,?_,?_,?_,?_,?_,?_,?_,trivial⟩
   ·refine Each.fine rfl (fun ev w1 hR hb hh=>?_);clear hh;have e0:=hR.old 0 rfl;simp only [Array.getD_eq_getD_getElem?,List.getElem?_toArray,List.getElem?_cons_zero,Option.getD_some] at e0;refine Each.Goes.same ?_;go_simp;try with_reducible rfl
   ·refine Each.fine rfl (fun ev w1 hR hb hh=>?_);have e7:(ev (.tmp 7)=.slice (some ⟨zb,zo,none⟩) n c):=hh.at 0;clear hh;refine Each.Goes.same ?_;go_simp;try with_reducible rfl
   ·refine Each.fine rfl (fun ev w1 hR hb hh=>?_);have e8:(ev (.tmp 8)=.int .i64 ((n:Nat):Int)):=hh.at 0;clear hh;have ec:=hR.const;refine Each.Goes.same ?_;go_simp;omega
   ·refine Each.fine rfl (fun ev w1 hR hb hh=>?_);have e9:(ev (.tmp 9)=.bool true):=hh.at 0;clear hh;refine Each.Goes.same ?_;go_simp;try with_reducible rfl
   ·refine Each.fine_when 3 10 rfl rfl (fun ev w1 hh=>?_) (fun hg ev w1 hR hb hh=>?_)
    ·exact hh.at 0
    ·clear hh;have e0:=hR.old 0 rfl;simp only [Array.getD_eq_getD_getElem?,List.getElem?_toArray,List.getElem?_cons_zero,Option.getD_some] at e0;refine Each.Goes.same ?_;go_simp;try with_reducible rfl
   ·refine Each.fine_when 3 10 rfl rfl (fun ev w1 hh=>?_) (fun hg ev w1 hR hb hh=>?_)
    ·exact hh.at 0
    ·clear hh;have e1:=hR.old 1 rfl;simp only [Array.getD_eq_getD_getElem?,List.getElem?_toArray,List.getElem?_cons_succ,List.getElem?_cons_zero,Option.getD_some] at e1;refine Each.Goes.same ?_;go_simp;try with_reducible rfl
   ·refine Each.fine_when 3 10 rfl rfl (fun ev w1 hh=>?_) (fun hg ev w1 hR hb hh=>?_)
    ·exact hh.at 0
    ·clear hh;have e5:=hR.old 5 rfl;simp only [Array.getD_eq_getD_getElem?,List.getElem?_toArray,List.getElem?_cons_succ,List.getElem?_cons_zero,Option.getD_some] at e5;have q0:=(HZ.out.below hb).c 0 _ rfl;have q1:=(HZ.out.below hb).c 1 _ rfl;have q2:=(HZ.out.below hb).c 2 _ rfl;have q3:=(HZ.out.below hb).c 3 _ rfl;have q4:=(HZ.out.below hb).c 4 _ rfl;have q5:=(HZ.out.below hb).c 5 _ rfl;have q6:=(HZ.out.below hb).c 6 _ rfl;have q7:=(HZ.out.below hb).c 7 _ rfl;have q8:=(HZ.out.below hb).c 8 _ rfl;have q9:=(HZ.out.below hb).c 9 _ rfl;refine Each.Goes.same ?_;go_simp;try with_reducible rfl
   ·refine Each.fine_when 3 10 rfl rfl (fun ev w1 hh=>?_) (fun hg ev w1 hR hb hh=>?_)
    ·exact hh.at 3
    ·have e11:=(show ((true)=true→ev (.tmp 11)=.slice (some ⟨zb,zo,none⟩) n c) from hh.at 0) hg;have e12:=(show ((true)=true→ev (.tmp 12)=.int .u32 (p:Int)) from hh.at 1) hg;have e13:=(show ((true)=true→ev (.tmp 13)=.agg #[.int .i64 b.x0,.int .i64 b.x1,.int .i64 b.x2,.int .i64 b.x3,.int .i64 b.x4,.int .i64 b.x5,.int .i64 b.x6,.int .i64 b.x7,.bool b.ch,.bool b.od]) from hh.at 2) hg;clear hh;have ef:=hR.func
     refine Each.Goes.enter 34 #[.slice (some ⟨zb,zo,none⟩) n c,.int .u32 (p:Int),.agg #[.int .i64 b.x0,.int .i64 b.x1,.int .i64 b.x2,.int .i64 b.x3,.int .i64 b.x4,.int .i64 b.x5,.int .i64 b.x6,.int .i64 b.x7,.bool b.ch,.bool b.od]] (by go_simp) ((HP1.out w1 hb).mono ?_);rintro r w2 ⟨rfl,hb2⟩;exact ⟨_,rfl,hb2,rfl⟩
   ·refine Each.fine rfl (fun ev w1 hR hb hh=>?_);have e10:(ev (.tmp 10)=.bool true):=hh.at 0;have h14:((true)=true→ev (.tmp 14)=.bool P1):=hh.at 1;clear hh;have ec:=hR.const;refine Each.Goes.same ?_;have e14:=h14 rfl;go_simp;try with_reducible rfl
   ·refine Each.fine rfl (fun ev w1 hR hb hh=>?_);have e15:(ev (.tmp 15)=.bool P1):=hh.at 0;clear hh;refine Each.Goes.same ?_;go_simp;try with_reducible rfl
   ·refine Each.fine_when 9 16 rfl rfl (fun ev w1 hh=>?_) (fun hg ev w1 hR hb hh=>?_)
    ·exact hh.at 0
    ·clear hh;have e0:=hR.old 0 rfl;simp only [Array.getD_eq_getD_getElem?,List.getElem?_toArray,List.getElem?_cons_zero,Option.getD_some] at e0;refine Each.Goes.same ?_;go_simp;try with_reducible rfl
   ·refine Each.fine_when 9 16 rfl rfl (fun ev w1 hh=>?_) (fun hg ev w1 hR hb hh=>?_)
    ·exact hh.at 0
    ·clear hh;have e0:=hR.old 0 rfl;simp only [Array.getD_eq_getD_getElem?,List.getElem?_toArray,List.getElem?_cons_zero,Option.getD_some] at e0;refine Each.Goes.same ?_;go_simp;try with_reducible rfl
   ·refine Each.fine_when 9 16 rfl rfl (fun ev w1 hh=>?_) (fun hg ev w1 hR hb hh=>?_)
    ·exact hh.at 1
    ·have e18:=(show ((P1)=true→ev (.tmp 18)=.slice (some ⟨zb,zo,none⟩) n c) from hh.at 0) hg;clear hh;refine Each.Goes.same ?_;go_simp;try with_reducible rfl
   ·refine Each.fine_when 9 16 rfl rfl (fun ev w1 hh=>?_) (fun hg ev w1 hR hb hh=>?_)
    ·exact hh.at 1
    ·have e19:=(show ((P1)=true→ev (.tmp 19)=.int .i64 ((n:Nat):Int)) from hh.at 0) hg;clear hh;have ec:=hR.const;refine Each.Goes.same ?_;go_simp;first | done | rfl |(with_reducible rfl) | exact HMW.out
   ·refine Each.fine_when 9 16 rfl rfl (fun ev w1 hh=>?_) (fun hg ev w1 hR hb hh=>?_)
    ·exact hh.at 2
    ·have e17:=(show ((P1)=true→ev (.tmp 17)=.slice (some ⟨zb,zo,none⟩) n c) from hh.at 0) hg;have e20:=(show ((P1)=true→ev (.tmp 20)=.int .i64 (m:Int)) from hh.at 1) hg;clear hh;refine Each.Goes.same ?_;go_simp;try with_reducible rfl
   ·refine Each.fine_when 9 16 rfl rfl (fun ev w1 hh=>?_) (fun hg ev w1 hR hb hh=>?_)
    ·exact hh.at 0
    ·clear hh;have e1:=hR.old 1 rfl;simp only [Array.getD_eq_getD_getElem?,List.getElem?_toArray,List.getElem?_cons_succ,List.getElem?_cons_zero,Option.getD_some] at e1;refine Each.Goes.same ?_;go_simp;try with_reducible rfl
   ·refine Each.fine_when 9 16 rfl rfl (fun ev w1 hh=>?_) (fun hg ev w1 hR hb hh=>?_)
    ·exact hh.at 0
    ·clear hh;have e5:=hR.old 5 rfl;simp only [Array.getD_eq_getD_getElem?,List.getElem?_toArray,List.getElem?_cons_succ,List.getElem?_cons_zero,Option.getD_some] at e5;have q0:=(HZ.out.below hb).c 0 _ rfl;have q1:=(HZ.out.below hb).c 1 _ rfl;have q2:=(HZ.out.below hb).c 2 _ rfl;have q3:=(HZ.out.below hb).c 3 _ rfl;have q4:=(HZ.out.below hb).c 4 _ rfl;have q5:=(HZ.out.below hb).c 5 _ rfl;have q6:=(HZ.out.below hb).c 6 _ rfl;have q7:=(HZ.out.below hb).c 7 _ rfl;have q8:=(HZ.out.below hb).c 8 _ rfl;have q9:=(HZ.out.below hb).c 9 _ rfl;refine Each.Goes.same ?_;go_simp;try with_reducible rfl
   ·refine Each.fine_when 9 16 rfl rfl (fun ev w1 hh=>?_) (fun hg ev w1 hR hb hh=>?_)
    ·exact hh.at 3
    ·have e21:=(show ((P1)=true→ev (.tmp 21)=.slice (some ⟨zb,zo,none⟩) m c) from hh.at 0) hg;have e22:=(show ((P1)=true→ev (.tmp 22)=.int .u32 (p:Int)) from hh.at 1) hg;have e23:=(show ((P1)=true→ev (.tmp 23)=.agg #[.int .i64 b.x0,.int .i64 b.x1,.int .i64 b.x2,.int .i64 b.x3,.int .i64 b.x4,.int .i64 b.x5,.int .i64 b.x6,.int .i64 b.x7,.bool b.ch,.bool b.od]) from hh.at 2) hg;clear hh;have ef:=hR.func
     refine Each.Goes.enter 34 #[.slice (some ⟨zb,zo,none⟩) m c,.int .u32 (p:Int),.agg #[.int .i64 b.x0,.int .i64 b.x1,.int .i64 b.x2,.int .i64 b.x3,.int .i64 b.x4,.int .i64 b.x5,.int .i64 b.x6,.int .i64 b.x7,.bool b.ch,.bool b.od]] (by go_simp) ((HP2.out w1 hb).mono ?_);rintro r w2 ⟨rfl,hb2⟩;exact ⟨_,rfl,hb2,rfl⟩
   ·refine Each.fine_when 9 16 rfl rfl (fun ev w1 hh=>?_) (fun hg ev w1 hR hb hh=>?_)
    ·exact hh.at 1
    ·have e24:=(show ((P1)=true→ev (.tmp 24)=.bool P2) from hh.at 0) hg;clear hh;refine Each.Goes.same ?_;go_simp;try with_reducible rfl
   ·refine Each.fine rfl (fun ev w1 hR hb hh=>?_);have e16:(ev (.tmp 16)=.bool P1):=hh.at 0;have h25:((P1)=true→ev (.tmp 25)=.bool (!P2)):=hh.at 1;clear hh;have ec:=hR.const;refine Each.Goes.same ?_;rcases Bool.eq_false_or_eq_true (P1) with hx | hx
    ·rw [hx] at e16 ⊢;have e25:=h25 hx;go_simp;try with_reducible rfl
    ·rw [hx] at e16 ⊢;go_simp;try with_reducible rfl
   ·refine Each.fine rfl (fun ev w1 hR hb hh=>?_);have e26:(ev (.tmp 26)=.bool ((P1&&(!P2)))):=hh.at 0;clear hh;refine Each.Goes.same ?_;go_simp;try with_reducible rfl
  intro ga w4 hb4 hf;have z6:(ga 6=.bool ((P1&&(!P2)))):=hf.at 20;clear hf;simp only [Each.putg,Act.put,List.setIfInBounds_toArray,List.set_cons_zero,List.set_cons_succ];rw [z6];have HB4:=Lib.hid hb4;clear hb4;go_wp2;go_ret;rw [HGB.out];refine ⟨rfl,HB0.out.trans (HB4.out.mono ?_)⟩;have:=HB0.out.size;have:=HGB.out;omega
end code
end Go.Proofs.YtimoakmcelocfaaGreat.DF
namespace Go.Proofs.YtimoakmcelocfaaGreat.An
open Go.RowKit Base Txt Mem Par Pg
theorem a0:kindA 0 usual=1∧clA 0 usual=0∧errA 0 usual=0∧effL 0 usual= []:=by decide +kernel
theorem a1:kindA 1 usual=2∧clA 1 usual=0∧errA 1 usual=0∧effL 1 usual≠ []:=by decide +kernel
theorem a2:kindA 2147483648 usual=0∧clA 2147483648 usual=0∧errA 2147483648 usual=20∧effL 2147483648 usual= []:=by decide +kernel
theorem w0:(Wit.W (clA 1 usual).toNat usual.ch (Qk.has 1 19)).data.toList= [13,10]∧(Wit.W (clA 1 usual).toNat usual.ch (Qk.has 1 19)).size=2:=by decide +kernel
theorem l0:DF.lastB 1 usual [13,10]=true:=by decide +kernel
section code
set_option maxHeartbeats 8000000
set_option maxRecDepth 20000
attribute [local go_sem] Base.some_undef
theorem known_any (w:World):Calls Tryz.prog 6 #[] w fun e w'=>e=.returned (.bool true)∧Below w.heap.size w w':=by
 have HD0:=Lib.hid (fun w=>show Calls Tryz.prog 11 #[.int .u32 0,.agg #[.int .i64 1024,.int .i64 32,.int .i64 8192,.int .i64 65536,.int .i64 32,.int .i64 8,.int .i64 4,.int .i64 20,.bool true,.bool true]] w fun e w'=>e=.returned (.tuple #[.agg #[.int .i64 1,.int .i64 0,.slice none 0 0],.int .i64 0])∧Below w.heap.size w w' from (decide_any 0 (by decide) usual w).mono (by rintro e w' ⟨v,rfl,h1,h2⟩;obtain ⟨k1,k2,k3,k4⟩:=a0;unfold Shown at h1;rw [if_pos k4] at h1;rw [k1,k2,k3,h1];exact ⟨rfl,h2⟩))
 have HD1:=Lib.hid (fun w=>show Calls Tryz.prog 11 #[.int .u32 1,.agg #[.int .i64 1024,.int .i64 32,.int .i64 8192,.int .i64 65536,.int .i64 32,.int .i64 8,.int .i64 4,.int .i64 20,.bool true,.bool true]] w fun e w'=>∃gs cc,e=.returned (.tuple #[.agg #[.int .i64 2,.int .i64 0,.slice (some ⟨gs,0,none⟩) 2 cc],.int .i64 0])∧2≤cc∧Pg.Bts [] w' (some ⟨gs,0,none⟩) [13,10]∧Below w.heap.size w w' from (decide_any 1 (by decide) usual w).mono (by rintro e w' ⟨v,rfl,h1,h2⟩;obtain ⟨k1,k2,k3,k4⟩:=a1;unfold Shown at h1;rw [if_neg k4] at h1;obtain ⟨gs,cc,e1,h3,h4, -⟩:=h1.v;rw [w0.2] at e1 h3;rw [w0.1] at h4;rw [k1,k2,k3,e1];exact ⟨gs,cc,rfl,h3,h4,h2⟩))
 have HD2:=Lib.hid (fun w=>show Calls Tryz.prog 11 #[.int .u32 2147483648,.agg #[.int .i64 1024,.int .i64 32,.int .i64 8192,.int .i64 65536,.int .i64 32,.int .i64 8,.int .i64 4,.int .i64 20,.bool true,.bool true]] w fun e w'=>e=.returned (.tuple #[.agg #[.int .i64 0,.int .i64 0,.slice none 0 0],.int .i64 20])∧Below w.heap.size w w' from (decide_any 2147483648 (by decide) usual w).mono (by rintro e w' ⟨v,rfl,h1,h2⟩;obtain ⟨k1,k2,k3,k4⟩:=a2;unfold Shown at h1;rw [if_pos k4] at h1;rw [k1,k2,k3,h1];exact ⟨rfl,h2⟩))
 have HLA:Hid (∀(w:World) (gs cc:Nat),2≤cc→Pg.Bts [] w (some ⟨gs,0,none⟩) [13,10]→Calls Tryz.prog 18 #[.slice (some ⟨gs,0,none⟩) 2 cc,.int .u32 1,.agg #[.int .i64 1024,.int .i64 32,.int .i64 8192,.int .i64 65536,.int .i64 32,.int .i64 8,.int .i64 4,.int .i64 20,.bool true,.bool true]] w fun r w'=>r=.returned (.bool true)∧Below w.heap.size w w'):=Lib.hid (fun w gs cc h1 h2=>by have:=DF.last_any (p:=1) (b:=usual) (by decide) (some ⟨gs,0,none⟩) cc [13,10] h2 (by decide) h1;rw [l0] at this;exact this)
 go_enter Tryz.func6,Tryz.ntmps6
 go_upto_region 2 with (go_at_call 24;with_reducible refine (Bnd.rusual_any _).mono ?_;rintro r w1 ⟨rfl,hb⟩;have HB1:=Lib.hid hb;clear hb)
 have HZ1:=Lib.hid (Rec.Bk.new w1 w1.heap.size rfl 24 [.int .i64 1024,.int .i64 32,.int .i64 8192,.int .i64 65536,.int .i64 32,.int .i64 8,.int .i64 4,.int .i64 20,.bool true,.bool true])
 have HBW1:=Lib.hid (HB1.out.alloc HB1.out.size (.cells #[.int .i64 1024,.int .i64 32,.int .i64 8192,.int .i64 65536,.int .i64 32,.int .i64 8,.int .i64 4,.int .i64 20,.bool true,.bool true] 24));generalize w1.alloc (.cells #[.int .i64 1024,.int .i64 32,.int .i64 8192,.int .i64 65536,.int .i64 32,.int .i64 8,.int .i64 4,.int .i64 20,.bool true,.bool true] 24)=W1 at *;generalize w1.heap.size=gB at *;have y0:=HZ1.out.c 0 _ rfl;have y1:=HZ1.out.c 1 _ rfl;have y2:=HZ1.out.c 2 _ rfl;have y3:=HZ1.out.c 3 _ rfl;have y4:=HZ1.out.c 4 _ rfl;have y5:=HZ1.out.c 5 _ rfl;have y6:=HZ1.out.c 6 _ rfl;have y7:=HZ1.out.c 7 _ rfl;have y8:=HZ1.out.c 8 _ rfl;have y9:=HZ1.out.c 9 _ rfl
 go_upto_region 3 with (go_at_call 11;with_reducible refine (HD0.out _).mono ?_;rintro r w2 ⟨rfl,hb⟩;have HB2:=Lib.hid (Base.below_step HBW1.out hb);have HZ2:=Lib.hid (HZ1.out.below hb);clear hb)
 have HA2:=Lib.hid (Rec.Bk.new w2 w2.heap.size rfl 36 [.int .i64 1,.int .i64 0,.slice none 0 0])
 have HAL2:Hid (Below w2.heap.size w2 (w2.alloc (.cells #[.int .i64 1,.int .i64 0,.slice none 0 0] 36))):=Lib.hid ((Below.refl _ _).alloc (Nat.le_refl _) _)
 have HZ2a:=Lib.hid (HZ2.out.below HAL2.out)
 have HBW2:=Lib.hid (Base.below_step HB2.out HAL2.out);clear HD0;clear y0 y1 y2 y3 y4 y5 y6 y7 y8 y9;generalize w2.alloc (.cells #[.int .i64 1,.int .i64 0,.slice none 0 0] 36)=W2 at *;generalize w2.heap.size=g2 at *;have y0:=HZ2a.out.c 0 _ rfl;have y1:=HZ2a.out.c 1 _ rfl;have y2:=HZ2a.out.c 2 _ rfl;have y3:=HZ2a.out.c 3 _ rfl;have y4:=HZ2a.out.c 4 _ rfl;have y5:=HZ2a.out.c 5 _ rfl;have y6:=HZ2a.out.c 6 _ rfl;have y7:=HZ2a.out.c 7 _ rfl;have y8:=HZ2a.out.c 8 _ rfl;have y9:=HZ2a.out.c 9 _ rfl
 go_upto_region 4 with (go_at_call 11;with_reducible refine (HD1.out _).mono ?_;rintro r w3 ⟨gs,cc,rfl,hcc,hbt,hb⟩;have HB3:=Lib.hid (Base.below_step HBW2.out hb);have HZ3:=Lib.hid (HZ2a.out.below hb);have HA2b:=Lib.hid (HA2.out.below hb);have HCC:=Lib.hid hcc;have HBT:=Lib.hid hbt;clear hb hcc hbt)
 have HA3:=Lib.hid (Rec.Bk.new w3 w3.heap.size rfl 36 [.int .i64 2,.int .i64 0,.slice (some ⟨gs,0,none⟩) 2 cc])
 have HAL3:Hid (Below w3.heap.size w3 (w3.alloc (.cells #[.int .i64 2,.int .i64 0,.slice (some ⟨gs,0,none⟩) 2 cc] 36))):=Lib.hid ((Below.refl _ _).alloc (Nat.le_refl _) _)
 have HZ3a:=Lib.hid (HZ3.out.below HAL3.out)
 have HA2c:=Lib.hid (HA2b.out.below HAL3.out)
 have HBT2:=Lib.hid (HBT.out.step (Step.of_below HAL3.out))
 have HBW3:=Lib.hid (Base.below_step HB3.out HAL3.out);clear HD1;clear y0 y1 y2 y3 y4 y5 y6 y7 y8 y9;generalize w3.alloc (.cells #[.int .i64 2,.int .i64 0,.slice (some ⟨gs,0,none⟩) 2 cc] 36)=W3 at *;generalize w3.heap.size=g3 at *;have y0:=HZ3a.out.c 0 _ rfl;have y1:=HZ3a.out.c 1 _ rfl;have y2:=HZ3a.out.c 2 _ rfl;have y3:=HZ3a.out.c 3 _ rfl;have y4:=HZ3a.out.c 4 _ rfl;have y5:=HZ3a.out.c 5 _ rfl;have y6:=HZ3a.out.c 6 _ rfl;have y7:=HZ3a.out.c 7 _ rfl;have y8:=HZ3a.out.c 8 _ rfl;have y9:=HZ3a.out.c 9 _ rfl
 go_upto_region 5 with (go_at_call 11;with_reducible refine (HD2.out _).mono ?_;rintro r w4 ⟨rfl,hb⟩;have HB4:=Lib.hid (Base.below_step HBW3.out hb);have HZ4:=Lib.hid (HZ3a.out.below hb);have HA2d:=Lib.hid (HA2c.out.below hb);have HA3d:=Lib.hid (HA3.out.below hb);have HBT3:=Lib.hid (HBT2.out.step (Step.of_below hb));clear hb)
 have HA4:=Lib.hid (Rec.Bk.new w4 w4.heap.size rfl 36 [.int .i64 0,.int .i64 0,.slice none 0 0])
 have HAL4:Hid (Below w4.heap.size w4 (w4.alloc (.cells #[.int .i64 0,.int .i64 0,.slice none 0 0] 36))):=Lib.hid ((Below.refl _ _).alloc (Nat.le_refl _) _)
 have HZ4a:=Lib.hid (HZ4.out.below HAL4.out)
 have HA2e:=Lib.hid (HA2d.out.below HAL4.out)
 have HA3e:=Lib.hid (HA3d.out.below HAL4.out)
 have HBT4:=Lib.hid (HBT3.out.step (Step.of_below HAL4.out))
 have HBW4:=Lib.hid (Base.below_step HB4.out HAL4.out);clear HD2;clear y0 y1 y2 y3 y4 y5 y6 y7 y8 y9;generalize w4.alloc (.cells #[.int .i64 0,.int .i64 0,.slice none 0 0] 36)=W4 at *;generalize w4.heap.size=g4 at *;have y0:=HZ4a.out.c 0 _ rfl;have y1:=HZ4a.out.c 1 _ rfl;have y2:=HZ4a.out.c 2 _ rfl;have y3:=HZ4a.out.c 3 _ rfl;have y4:=HZ4a.out.c 4 _ rfl;have y5:=HZ4a.out.c 5 _ rfl;have y6:=HZ4a.out.c 6 _ rfl;have y7:=HZ4a.out.c 7 _ rfl;have y8:=HZ4a.out.c 8 _ rfl;have y9:=HZ4a.out.c 9 _ rfl;have p0:=HA2e.out.c 0 _ rfl;have p1:=HA2e.out.c 1 _ rfl;have p2:=HA2e.out.c 2 _ rfl;have q0:=HA3e.out.c 0 _ rfl;have q1:=HA3e.out.c 1 _ rfl;have q2:=HA3e.out.c 2 _ rfl
 go_wp2_with (go_at_call 18;with_reducible refine (HLA.out _ _ _ HCC.out HBT4.out).mono ?_;rintro r w5 ⟨rfl,hb⟩;have HB5:=Lib.hid (Base.below_step HBW4.out hb);clear hb);go_ret;exact ⟨rfl,HB5.out⟩
end code
end Go.Proofs.YtimoakmcelocfaaGreat.An
namespace Go.Proofs.YtimoakmcelocfaaGreat.An
open Go.RowKit Base Txt Mem Par Pg
section code
set_option maxHeartbeats 8000000
set_option maxRecDepth 20000
attribute [local go_sem] Base.some_undef
theorem lit_at (w:World) (cs:List Value) (ty:TypeId) (m:Nat) (x:Value) (h:cs[m]?=some x):(w.alloc (.cells cs.toArray ty)).cell? ⟨w.heap.size,m,none⟩=some x:=by rw [Lib.cell_of_heap (heap_alloc_new w _)];show cs.toArray[m]?=some x;rw [List.getElem?_toArray];exact h
theorem decide_sl (p:Nat) (hp:p<4294967296) (b:Bd) (w:World):Calls Tryz.prog 11 #[.int .u32 (p:Int),.agg #[.int .i64 b.x0,.int .i64 b.x1,.int .i64 b.x2,.int .i64 b.x3,.int .i64 b.x4,.int .i64 b.x5,.int .i64 b.x6,.int .i64 b.x7,.bool b.ch,.bool b.od]] w fun e w'=>
 ∃(sa:Option Addr) (sn sc:Nat),e=.returned (.tuple #[.agg #[.int .i64 (kindA p b),.int .i64 (clA p b),.slice sa sn sc],.int .i64 (errA p b)])∧Shown w w' p b (.slice sa sn sc)∧Below w.heap.size w w':=
 (decide_any p hp b w).mono (by
   rintro e w' ⟨v,rfl,h1,h2⟩;have:∃(sa:Option Addr) (sn sc:Nat),v=.slice sa sn sc:=by
    unfold Shown at h1;split at h1
    ·exact ⟨_,_,_,h1⟩
    ·obtain ⟨g,c,e, -⟩:=h1.v;exact ⟨_,_,_,e⟩
   obtain ⟨sa,sn,sc,rfl⟩:=this;exact ⟨sa,sn,sc,rfl,h1,h2⟩)
theorem table (ch od:Bool) (n:Int) (m:Nat) (one:Int) (P:Nat) (K C:Int) (wnt:Bool) (w:World) (_hn:0≤n∧n≤255) (hm:m<10) (hr1:n.tmod 10=(m:Int)) (h1:([6,17,18,20,21,22,27,28,29,13]:List Int)[m]?=some one) (hone:0≤one∧one<30) (hP:P=2^one.toNat) (hK:kindA P ⟨1024,32,8192,65536,32,8,4,20,ch,od⟩=K) (hC:clA P ⟨1024,32,8192,65536,32,8,4,20,ch,od⟩=C) (hE:errA P ⟨1024,32,8192,65536,32,8,4,20,ch,od⟩=0) (hW:([!od,true,!ch,(!od || !ch),!ch,false,!ch,!ch,!ch,false]:List Bool)[m]?=some wnt) (hKW:(K==1)=wnt) :
 Calls Tryz.prog 5 #[.int .u8 n,.bool ch,.bool od] w fun e w'=>e=.returned (.bool true)∧Below w.heap.size w w':=by
 have hPl:P<4294967296:=by
  rw [hP]
  exact Nat.lt_of_lt_of_le (Nat.pow_lt_pow_right (a:=2) (by decide) (show one.toNat<30 by omega)) (by decide)
 have hsh:(2:Int)^one.toNat%4294967296=(P:Int):=by rw [hP];exact Qk.shl_one one hone.1 hone.2
 have HSH:=Lib.hid hsh
 have HD:=Lib.hid (fun w=>show Calls Tryz.prog 11 #[.int .u32 (P:Int),.agg #[.int .i64 1024,.int .i64 32,.int .i64 8192,.int .i64 65536,.int .i64 32,.int .i64 8,.int .i64 4,.int .i64 20,.bool ch,.bool od]] w fun e w'=>∃(sa:Option Addr) (sn sc:Nat),e=.returned (.tuple #[.agg #[.int .i64 K,.int .i64 C,.slice sa sn sc],.int .i64 0])∧Below w.heap.size w w' from (decide_sl P hPl ⟨1024,32,8192,65536,32,8,4,20,ch,od⟩ w).mono (by rintro e w' ⟨sa,sn,sc,rfl, -,h2⟩;rw [hK,hC,hE];exact ⟨sa,sn,sc,rfl,h2⟩))
 have k2:(kindA 6291456 ⟨1024,32,8192,65536,32,8,4,20,ch,od⟩==1)= !ch∧errA 6291456 ⟨1024,32,8192,65536,32,8,4,20,ch,od⟩=0:=(by decide +kernel:∀ch od:Bool,(kindA 6291456 ⟨1024,32,8192,65536,32,8,4,20,ch,od⟩==1)= !ch∧errA 6291456 ⟨1024,32,8192,65536,32,8,4,20,ch,od⟩=0) ch od;obtain ⟨K2,hK2⟩:∃K2,kindA 6291456 ⟨1024,32,8192,65536,32,8,4,20,ch,od⟩=K2:=⟨_,rfl⟩;rw [hK2] at k2;obtain ⟨C2,hC2⟩:∃C2,clA 6291456 ⟨1024,32,8192,65536,32,8,4,20,ch,od⟩=C2:=⟨_,rfl⟩
 have HD2:=Lib.hid (fun w=>show Calls Tryz.prog 11 #[.int .u32 6291456,.agg #[.int .i64 1024,.int .i64 32,.int .i64 8192,.int .i64 65536,.int .i64 32,.int .i64 8,.int .i64 4,.int .i64 20,.bool ch,.bool od]] w fun e w'=>∃(sa:Option Addr) (sn sc:Nat),e=.returned (.tuple #[.agg #[.int .i64 K2,.int .i64 C2,.slice sa sn sc],.int .i64 0])∧Below w.heap.size w w' from (decide_sl 6291456 (by decide) ⟨1024,32,8192,65536,32,8,4,20,ch,od⟩ w).mono (by rintro e w' ⟨sa,sn,sc,rfl, -,h2⟩;rw [hK2,k2.2,hC2];exact ⟨sa,sn,sc,rfl,h2⟩))
 have HKN:=Lib.hid (fun w=>known_any w)
 have HC1:=Lib.hid (fun (w:World)=>show (w.alloc (.cells #[.int .i64 6,.int .i64 17,.int .i64 18,.int .i64 20,.int .i64 21,.int .i64 22,.int .i64 27,.int .i64 28,.int .i64 29,.int .i64 13] 3)).cell? ⟨w.heap.size,m,none⟩=some (.int .i64 one) from by
  rw [Lib.cell_of_heap (heap_alloc_new w _)];have e:(#[.int .i64 6,.int .i64 17,.int .i64 18,.int .i64 20,.int .i64 21,.int .i64 22,.int .i64 27,.int .i64 28,.int .i64 29,.int .i64 13]:Array Value)[m]?=(([6,17,18,20,21,22,27,28,29,13]:List Int)[m]?).map (Value.int .i64):=by rw [List.getElem?_toArray,←List.getElem?_map];rfl
  exact e.trans (by rw [h1];rfl))
 have HK2:=Lib.hid k2.1;have HW:=Lib.hid hW;have HHKW:=Lib.hid hKW;clear hsh hK hC hE k2 hC2 hK2 h1 hW hKW hP hPl;have t0:(m:Int)<10:=by omega
 go_enter Tryz.func5,Tryz.ntmps5
 go_upto_region 5 with (first
  |(go_at_call 6;with_reducible refine (HKN.out _).mono ?_;rintro r w0 ⟨rfl,hb⟩;have HB0:=Lib.hid hb;clear hb)
  |(go_at_call 24;with_reducible refine (Bnd.rusual_any _).mono ?_;rintro r w1 ⟨rfl,hb⟩;have HB1:=Lib.hid (Base.below_step HB0.out hb);clear hb))
 have HZ1:=Lib.hid (Rec.Bk.new w1 w1.heap.size rfl 24 [.int .i64 1024,.int .i64 32,.int .i64 8192,.int .i64 65536,.int .i64 32,.int .i64 8,.int .i64 4,.int .i64 20,.bool ch,.bool od])
 have HBW1:=Lib.hid (HB1.out.alloc HB1.out.size (.cells #[.int .i64 1024,.int .i64 32,.int .i64 8192,.int .i64 65536,.int .i64 32,.int .i64 8,.int .i64 4,.int .i64 20,.bool ch,.bool od] 24));generalize w1.alloc (.cells #[.int .i64 1024,.int .i64 32,.int .i64 8192,.int .i64 65536,.int .i64 32,.int .i64 8,.int .i64 4,.int .i64 20,.bool ch,.bool od] 24)=W1 at *;generalize w1.heap.size=gB at *;have c5:=HC1.out W1;go_upto_region 6 with fail
 have HZ2:=Lib.hid (HZ1.out.alloc (.cells #[.int .i64 6,.int .i64 17,.int .i64 18,.int .i64 20,.int .i64 21,.int .i64 22,.int .i64 27,.int .i64 28,.int .i64 29,.int .i64 13] 3))
 have HBW2:=Lib.hid (HBW1.out.alloc HBW1.out.size (.cells #[.int .i64 6,.int .i64 17,.int .i64 18,.int .i64 20,.int .i64 21,.int .i64 22,.int .i64 27,.int .i64 28,.int .i64 29,.int .i64 13] 3));clear c5;generalize W1.alloc (.cells #[.int .i64 6,.int .i64 17,.int .i64 18,.int .i64 20,.int .i64 21,.int .i64 22,.int .i64 27,.int .i64 28,.int .i64 29,.int .i64 13] 3)=W2 at *
 have HZ:=Lib.hid (HZ2.out.below (Base.below_drewN (Below.refl W2.heap.size W2) 1));obtain ⟨B0,hB0⟩:∃B0,W2.heap.size=B0:=⟨_,rfl⟩
 have HB0:=Lib.hid (show B0≤(W2.drewN 1).heap.size by rw [←hB0];simp)
 have HBB:=Lib.hid (show w.heap.size≤B0 by rw [←hB0];exact HBW2.out.size)
 have HBL:=Lib.hid (show gB<B0 by rw [←hB0];exact HZ2.out.lt);clear hB0;refine Each.region_float 8 [27,28,29,30,26,31,32,9]
  [fun v _=>v=.int .i64 one,
    fun v _=>v=.int .u32 (P:Int),
    fun v _=>v=.agg #[.int .i64 1024,.int .i64 32,.int .i64 8192,.int .i64 65536,.int .i64 32,.int .i64 8,.int .i64 4,.int .i64 20,.bool ch,.bool od],
    fun v w=>∃(sa:Option Addr) (sn sc:Nat),v=.tuple #[.agg #[.int .i64 K,.int .i64 C,.slice sa sn sc],.int .i64 0],
    fun v w=>∃(sa:Option Addr) (sn sc:Nat),v=.tuple #[.agg #[.int .i64 K,.int .i64 C,.slice sa sn sc],.int .i64 0],
    fun v w=>∃(sa:Option Addr) (sn sc:Nat),v=.agg #[.int .i64 K,.int .i64 C,.slice sa sn sc],
    fun v _=>v=.int .i64 0,
    fun v w=>∃gA,v=.pointer (some ⟨gA,0,none⟩)∧B0≤gA∧Rec.Bk w gA [.int .i64 0,.int .i64 0,.slice none 0 0]]
  [] 2 (some 6) (.act 8 (.quiet 9 .done)) (.quiet 6 (.act 8 (.quiet 9 .done))) (by kernel_rfl) (by kernel_rfl) (by kernel_rfl) (by kernel_rfl) (fun k0 h=>by cases h;kernel_rfl) (fun _ _ d _ _ h=>by cases d<;>exact h) (by rfl) (by rfl)
  ⟨Each.Lasts.eq _,Each.Lasts.eq _,Each.Lasts.eq _,((Each.Lasts.pure _)),((Each.Lasts.pure _)),((Each.Lasts.pure _)),Each.Lasts.eq _,((fun _ _ _ hb h=>by obtain ⟨gA,e,h1,h2⟩:=h;exact ⟨gA,e,h1,h2.below hb⟩)),trivial⟩ trivial (by rfl) ?_ ?_ ?_
 ·refine ⟨?_,?_,?_,?_,?_,?_,?_,?_,trivial⟩
  ·refine Each.fine rfl (fun ev w1 hR hb hh=>?_);clear hh;have e8:=hR.old 8 rfl;simp only [Array.getD_eq_getD_getElem?,List.getElem?_toArray,List.getElem?_cons_succ,List.getElem?_cons_zero,Option.getD_some] at e8;refine Each.Goes.same ?_;go_simp;try with_reducible rfl
  ·refine Each.fine rfl (fun ev w1 hR hb hh=>?_);have e27:(ev (.tmp 27)=.int .i64 one):=hh.at 0;clear hh;have ec:=hR.const;refine Each.Goes.same ?_;go_simp
   first | done | exact HSH.out |(with_reducible rfl)
  ·refine Each.fine rfl (fun ev w1 hR hb hh=>?_);clear hh;have e7:=hR.old 7 rfl;simp only [Array.getD_eq_getD_getElem?,List.getElem?_toArray,List.getElem?_cons_succ,List.getElem?_cons_zero,Option.getD_some] at e7;have q0:=(HZ.out.below hb).c 0 _ rfl;have q1:=(HZ.out.below hb).c 1 _ rfl;have q2:=(HZ.out.below hb).c 2 _ rfl;have q3:=(HZ.out.below hb).c 3 _ rfl;have q4:=(HZ.out.below hb).c 4 _ rfl;have q5:=(HZ.out.below hb).c 5 _ rfl;have q6:=(HZ.out.below hb).c 6 _ rfl;have q7:=(HZ.out.below hb).c 7 _ rfl;have q8:=(HZ.out.below hb).c 8 _ rfl;have q9:=(HZ.out.below hb).c 9 _ rfl;refine Each.Goes.same ?_;go_simp;try with_reducible rfl
  ·refine Each.fine rfl (fun ev w1 hR hb hh=>?_);have e28:(ev (.tmp 28)=.int .u32 (P:Int)):=hh.at 0;have e29:(ev (.tmp 29)=.agg #[.int .i64 1024,.int .i64 32,.int .i64 8192,.int .i64 65536,.int .i64 32,.int .i64 8,.int .i64 4,.int .i64 20,.bool ch,.bool od]):=hh.at 1;clear hh;have ef:=hR.func
   refine Each.Goes.enter 11 #[.int .u32 (P:Int),.agg #[.int .i64 1024,.int .i64 32,.int .i64 8192,.int .i64 65536,.int .i64 32,.int .i64 8,.int .i64 4,.int .i64 20,.bool ch,.bool od]] (by go_simp) ((HD.out w1).mono ?_);rintro r w2 ⟨sa,sn,sc,rfl,hb2⟩;exact ⟨_,rfl,hb2,sa,sn,sc,rfl⟩
  ·refine Each.fine rfl (fun ev w1 hR hb hh=>?_);have e30:((fun v w=>∃(sa:Option Addr) (sn sc:Nat),v=.tuple #[.agg #[.int .i64 K,.int .i64 C,.slice sa sn sc],.int .i64 0]) (ev (.tmp 30)) w1):=hh.at 0;clear hh;exact Each.Goes.value (ev (.tmp 30)) w1 (by go_simp) (Below.refl _ _) e30
  ·refine Each.fine rfl (fun ev w1 hR hb hh=>?_);have e26:((fun v w=>∃(sa:Option Addr) (sn sc:Nat),v=.tuple #[.agg #[.int .i64 K,.int .i64 C,.slice sa sn sc],.int .i64 0]) (ev (.tmp 26)) w1):=hh.at 0;clear hh;obtain ⟨sa,sn,sc,e26⟩:=e26;exact Each.Goes.value (.agg #[.int .i64 K,.int .i64 C,.slice sa sn sc]) w1 (by go_simp) (Below.refl _ _) ⟨sa,sn,sc,rfl⟩
  ·refine Each.fine rfl (fun ev w1 hR hb hh=>?_);have e26:((fun v w=>∃(sa:Option Addr) (sn sc:Nat),v=.tuple #[.agg #[.int .i64 K,.int .i64 C,.slice sa sn sc],.int .i64 0]) (ev (.tmp 26)) w1):=hh.at 0;clear hh;obtain ⟨sa,sn,sc,e26⟩:=e26;refine Each.Goes.same ?_;go_simp
  ·refine Each.fine rfl (fun ev w1 hR hb hh=>?_);clear hh;have hsz:=hb.size;exact Each.Goes.value (.pointer (some ⟨w1.heap.size,0,none⟩)) (w1.alloc (.cells #[.int .i64 0,.int .i64 0,.slice none 0 0] 36)) (by go_simp) ((Below.refl _ _).alloc (Nat.le_refl _) _) ⟨_,rfl,by have:=HB0.out;omega,Rec.Bk.new w1 _ rfl _ _⟩
 ·intro ga w2 hb2 hf
  skip
  have z31:(fun v w=>∃(sa:Option Addr) (sn sc:Nat),v=.agg #[.int .i64 K,.int .i64 C,.slice sa sn sc]) (ga 31) w2:=hf.at 5;have z32:(ga 32)=.int .i64 0:=hf.at 6;have z9:(fun v w=>∃gA,v=.pointer (some ⟨gA,0,none⟩)∧B0≤gA∧Rec.Bk w gA [.int .i64 0,.int .i64 0,.slice none 0 0]) (ga 9) w2:=hf.at 7;clear hf;obtain ⟨sa,sn,sc,e31⟩:=z31;obtain ⟨gA,e9,hgA,hbk⟩:=z9
  skip
  have HZ3:=Lib.hid (HZ2.out.below hb2)
  have HBW3:=Lib.hid (Base.below_step HBW2.out hb2);have d0:=hbk.c 0 _ rfl;have d1:=hbk.c 1 _ rfl;have d2:=hbk.c 2 _ rfl
  have m0:=hbk.z 0 (by decide);have m1:=hbk.z 1 (by decide);have m2:=hbk.z 2 (by decide);have HLT:=Lib.hid hbk.lt;simp only [Each.putg,Act.put,List.setIfInBounds_toArray,List.set_cons_zero,List.set_cons_succ];rw [e31,z32,e9];simp only [Tree.grow,Tree.put1,List.getElem?_cons_zero,List.getElem?_cons_succ]
  skip
  skip
  refine Tree.change (by rfl) (fun KK hKK=>?_);go_simp;refine hKK _ _ trivial ?_;clear hKK KK;refine Tree.assign _ (by rfl) (by rfl) ?_;simp only [Act.put,Act.eval,Array.getD_eq_getD_getElem?,List.getElem?_toArray,List.getElem?_cons_zero,List.getElem?_cons_succ,Option.getD_some,List.setIfInBounds_toArray,List.set_cons_zero,List.set_cons_succ];refine Tree.done ?_
  have HW3:Hid (Rec.Bk (((w2.setCell ⟨gA,0,none⟩ (.int .i64 K)).setCell ⟨gA,1,none⟩ (.int .i64 C)).setCell ⟨gA,2,none⟩ (.slice sa sn sc)) gA [.int .i64 K,.int .i64 C,.slice sa sn sc]):=Lib.hid (((hbk.set 0 (.int .i64 K) (by simp)).set 1 (.int .i64 C) (by simp)).set 2 (.slice sa sn sc) (by simp))
  have HZ4:Hid (Rec.Bk (((w2.setCell ⟨gA,0,none⟩ (.int .i64 K)).setCell ⟨gA,1,none⟩ (.int .i64 C)).setCell ⟨gA,2,none⟩ (.slice sa sn sc)) gB [.int .i64 1024,.int .i64 32,.int .i64 8192,.int .i64 65536,.int .i64 32,.int .i64 8,.int .i64 4,.int .i64 20,.bool ch,.bool od]):=Lib.hid (by
   have hne:¬gA=gB:=by have:=HBL.out;omega
   exact ((HZ3.out.other gA 0 _ hne).other gA 1 _ hne).other gA 2 _ hne)
  have HBW4:Hid (Below w.heap.size w (((w2.setCell ⟨gA,0,none⟩ (.int .i64 K)).setCell ⟨gA,1,none⟩ (.int .i64 C)).setCell ⟨gA,2,none⟩ (.slice sa sn sc))):=Lib.hid (by have:=HBB.out;exact ((HBW3.out.setCell (p:=⟨gA,0,none⟩) (by show w.heap.size≤gA;omega) _).setCell (p:=⟨gA,1,none⟩) (by show w.heap.size≤gA;omega) _).setCell (p:=⟨gA,2,none⟩) (by show w.heap.size≤gA;omega) _)
  clear d0 d1 d2 m0 m1 m2 hbk e31 e9 HZ3 HBW3 z32;generalize ((w2.setCell ⟨gA,0,none⟩ (.int .i64 K)).setCell ⟨gA,1,none⟩ (.int .i64 C)).setCell ⟨gA,2,none⟩ (.slice sa sn sc)=W4 at *;have y0:=HZ4.out.c 0 _ rfl;have y1:=HZ4.out.c 1 _ rfl;have y2:=HZ4.out.c 2 _ rfl;have y3:=HZ4.out.c 3 _ rfl;have y4:=HZ4.out.c 4 _ rfl;have y5:=HZ4.out.c 5 _ rfl;have y6:=HZ4.out.c 6 _ rfl;have y7:=HZ4.out.c 7 _ rfl;have y8:=HZ4.out.c 8 _ rfl;have y9:=HZ4.out.c 9 _ rfl
  go_upto_region 8 with (go_at_call 11;with_reducible refine (HD2.out _).mono ?_;rintro r w5 ⟨sa2,sn2,sc2,rfl,hb⟩;have HB5:=Lib.hid (Base.below_step HBW4.out hb);have HA5:=Lib.hid (HW3.out.below hb);clear hb)
  have HA6:=Lib.hid (HA5.out.alloc (.cells #[.int .i64 K2,.int .i64 C2,.slice sa2 sn2 sc2] 36))
  have HN6:=Lib.hid (Rec.Bk.new w5 w5.heap.size rfl 36 [.int .i64 K2,.int .i64 C2,.slice sa2 sn2 sc2])
  have HBW6:=Lib.hid (HB5.out.alloc HB5.out.size (.cells #[.int .i64 K2,.int .i64 C2,.slice sa2 sn2 sc2] 36));clear y0 y1 y2 y3 y4 y5 y6 y7 y8 y9;generalize w5.alloc (.cells #[.int .i64 K2,.int .i64 C2,.slice sa2 sn2 sc2] 36)=W6 at *;generalize w5.heap.size=g6 at *;have hw8:=congrArg (Option.map Value.bool) HW.out;rw [←List.getElem?_map] at hw8;have hkw:=HHKW.out;have hk2:=HK2.out;clear HHKW HK2 HW HD HD2 HZ HZ1 HZ2 HZ4 HC1 HSH;rcases ch with _ | _<;>rcases od with _ | _
  ·have c8:(W6.alloc (.cells #[.bool true,.bool true,.bool true,.bool true,.bool true,.bool false,.bool true,.bool true,.bool true,.bool false] 4)).cell? ⟨W6.heap.size,m,none⟩=some (.bool wnt):=lit_at W6 [.bool true,.bool true,.bool true,.bool true,.bool true,.bool false,.bool true,.bool true,.bool true,.bool false] _ m _ hw8
   have HA7:=Lib.hid (HA6.out.alloc (.cells #[.bool true,.bool true,.bool true,.bool true,.bool true,.bool false,.bool true,.bool true,.bool true,.bool false] 4))
   have HN7:=Lib.hid (HN6.out.alloc (.cells #[.bool true,.bool true,.bool true,.bool true,.bool true,.bool false,.bool true,.bool true,.bool true,.bool false] 4))
   have HBW7:=Lib.hid (HBW6.out.alloc HBW6.out.size (.cells #[.bool true,.bool true,.bool true,.bool true,.bool true,.bool false,.bool true,.bool true,.bool true,.bool false] 4));clear hw8;go_upto_region 9 with fail
   clear c8;generalize W6.alloc (.cells #[.bool true,.bool true,.bool true,.bool true,.bool true,.bool false,.bool true,.bool true,.bool true,.bool false] 4)=W7 at *;have p0:=HA7.out.c 0 _ rfl;have q0:=HN7.out.c 0 _ rfl;go_wp2;go_ret;exact ⟨rfl,HBW7.out⟩
  ·have c8:(W6.alloc (.cells #[.bool false,.bool true,.bool true,.bool true,.bool true,.bool false,.bool true,.bool true,.bool true,.bool false] 4)).cell? ⟨W6.heap.size,m,none⟩=some (.bool wnt):=lit_at W6 [.bool false,.bool true,.bool true,.bool true,.bool true,.bool false,.bool true,.bool true,.bool true,.bool false] _ m _ hw8
   have HA7:=Lib.hid (HA6.out.alloc (.cells #[.bool false,.bool true,.bool true,.bool true,.bool true,.bool false,.bool true,.bool true,.bool true,.bool false] 4))
   have HN7:=Lib.hid (HN6.out.alloc (.cells #[.bool false,.bool true,.bool true,.bool true,.bool true,.bool false,.bool true,.bool true,.bool true,.bool false] 4))
   have HBW7:=Lib.hid (HBW6.out.alloc HBW6.out.size (.cells #[.bool false,.bool true,.bool true,.bool true,.bool true,.bool false,.bool true,.bool true,.bool true,.bool false] 4));clear hw8;go_upto_region 9 with fail
   clear c8;generalize W6.alloc (.cells #[.bool false,.bool true,.bool true,.bool true,.bool true,.bool false,.bool true,.bool true,.bool true,.bool false] 4)=W7 at *;have p0:=HA7.out.c 0 _ rfl;have q0:=HN7.out.c 0 _ rfl;go_wp2;go_ret;exact ⟨rfl,HBW7.out⟩
  ·have c8:(W6.alloc (.cells #[.bool true,.bool true,.bool false,.bool true,.bool false,.bool false,.bool false,.bool false,.bool false,.bool false] 4)).cell? ⟨W6.heap.size,m,none⟩=some (.bool wnt):=lit_at W6 [.bool true,.bool true,.bool false,.bool true,.bool false,.bool false,.bool false,.bool false,.bool false,.bool false] _ m _ hw8
   have HA7:=Lib.hid (HA6.out.alloc (.cells #[.bool true,.bool true,.bool false,.bool true,.bool false,.bool false,.bool false,.bool false,.bool false,.bool false] 4))
   have HN7:=Lib.hid (HN6.out.alloc (.cells #[.bool true,.bool true,.bool false,.bool true,.bool false,.bool false,.bool false,.bool false,.bool false,.bool false] 4))
   have HBW7:=Lib.hid (HBW6.out.alloc HBW6.out.size (.cells #[.bool true,.bool true,.bool false,.bool true,.bool false,.bool false,.bool false,.bool false,.bool false,.bool false] 4));clear hw8;go_upto_region 9 with fail
   clear c8;generalize W6.alloc (.cells #[.bool true,.bool true,.bool false,.bool true,.bool false,.bool false,.bool false,.bool false,.bool false,.bool false] 4)=W7 at *;have p0:=HA7.out.c 0 _ rfl;have q0:=HN7.out.c 0 _ rfl;go_wp2;go_ret;exact ⟨rfl,HBW7.out⟩
  ·have c8:(W6.alloc (.cells #[.bool false,.bool true,.bool false,.bool false,.bool false,.bool false,.bool false,.bool false,.bool false,.bool false] 4)).cell? ⟨W6.heap.size,m,none⟩=some (.bool wnt):=lit_at W6 [.bool false,.bool true,.bool false,.bool false,.bool false,.bool false,.bool false,.bool false,.bool false,.bool false] _ m _ hw8
   have HA7:=Lib.hid (HA6.out.alloc (.cells #[.bool false,.bool true,.bool false,.bool false,.bool false,.bool false,.bool false,.bool false,.bool false,.bool false] 4))
   have HN7:=Lib.hid (HN6.out.alloc (.cells #[.bool false,.bool true,.bool false,.bool false,.bool false,.bool false,.bool false,.bool false,.bool false,.bool false] 4))
   have HBW7:=Lib.hid (HBW6.out.alloc HBW6.out.size (.cells #[.bool false,.bool true,.bool false,.bool false,.bool false,.bool false,.bool false,.bool false,.bool false,.bool false] 4));clear hw8;go_upto_region 9 with fail
   clear c8;generalize W6.alloc (.cells #[.bool false,.bool true,.bool false,.bool false,.bool false,.bool false,.bool false,.bool false,.bool false,.bool false] 4)=W7 at *;have p0:=HA7.out.c 0 _ rfl;have q0:=HN7.out.c 0 _ rfl;go_wp2;go_ret;exact ⟨rfl,HBW7.out⟩
 ·intro k0 ek ga w2 hb2 hf;cases ek;have z31:(fun v w=>∃(sa:Option Addr) (sn sc:Nat),v=.agg #[.int .i64 K,.int .i64 C,.slice sa sn sc]) (ga 31) w2:=hf.at 5;have z26:(fun v w=>∃(sa:Option Addr) (sn sc:Nat),v=.tuple #[.agg #[.int .i64 K,.int .i64 C,.slice sa sn sc],.int .i64 0]) (ga 26) w2:=hf.at 4;have z9:(fun v w=>∃gA,v=.pointer (some ⟨gA,0,none⟩)∧B0≤gA∧Rec.Bk w gA [.int .i64 0,.int .i64 0,.slice none 0 0]) (ga 9) w2:=hf.at 7;clear hf;obtain ⟨sa,sn,sc,e31⟩:=z31;obtain ⟨gA,e9,hgA,hbk⟩:=z9;obtain ⟨ta,tn,tc,e26⟩:=z26
  have HZ3:=Lib.hid (HZ2.out.below hb2)
  have HBW3:=Lib.hid (Base.below_step HBW2.out hb2);have d0:=hbk.c 0 _ rfl;have d1:=hbk.c 1 _ rfl;have d2:=hbk.c 2 _ rfl
  have m0:=hbk.z 0 (by decide);have m1:=hbk.z 1 (by decide);have m2:=hbk.z 2 (by decide);have HLT:=Lib.hid hbk.lt;simp only [Each.putg,Act.put,List.setIfInBounds_toArray,List.set_cons_zero,List.set_cons_succ];rw [e31,e26,e9];simp only [Tree.grow,Tree.put1,List.getElem?_cons_zero,List.getElem?_cons_succ];refine Tree.quiet (by rfl) (.int .i64 0) (fun _ _=>by go_simp) ?_;simp only [Act.put,List.setIfInBounds_toArray,List.set_cons_zero,List.set_cons_succ]
  refine Tree.change (by rfl) (fun KK hKK=>?_);go_simp;refine hKK _ _ trivial ?_;clear hKK KK;refine Tree.assign _ (by rfl) (by rfl) ?_;simp only [Act.put,Act.eval,Array.getD_eq_getD_getElem?,List.getElem?_toArray,List.getElem?_cons_zero,List.getElem?_cons_succ,Option.getD_some,List.setIfInBounds_toArray,List.set_cons_zero,List.set_cons_succ];refine Tree.done ?_
  have HW3:Hid (Rec.Bk (((w2.setCell ⟨gA,0,none⟩ (.int .i64 K)).setCell ⟨gA,1,none⟩ (.int .i64 C)).setCell ⟨gA,2,none⟩ (.slice sa sn sc)) gA [.int .i64 K,.int .i64 C,.slice sa sn sc]):=Lib.hid (((hbk.set 0 (.int .i64 K) (by simp)).set 1 (.int .i64 C) (by simp)).set 2 (.slice sa sn sc) (by simp))
  have HZ4:Hid (Rec.Bk (((w2.setCell ⟨gA,0,none⟩ (.int .i64 K)).setCell ⟨gA,1,none⟩ (.int .i64 C)).setCell ⟨gA,2,none⟩ (.slice sa sn sc)) gB [.int .i64 1024,.int .i64 32,.int .i64 8192,.int .i64 65536,.int .i64 32,.int .i64 8,.int .i64 4,.int .i64 20,.bool ch,.bool od]):=Lib.hid (by
   have hne:¬gA=gB:=by have:=HBL.out;omega
   exact ((HZ3.out.other gA 0 _ hne).other gA 1 _ hne).other gA 2 _ hne)
  have HBW4:Hid (Below w.heap.size w (((w2.setCell ⟨gA,0,none⟩ (.int .i64 K)).setCell ⟨gA,1,none⟩ (.int .i64 C)).setCell ⟨gA,2,none⟩ (.slice sa sn sc))):=Lib.hid (by have:=HBB.out;exact ((HBW3.out.setCell (p:=⟨gA,0,none⟩) (by show w.heap.size≤gA;omega) _).setCell (p:=⟨gA,1,none⟩) (by show w.heap.size≤gA;omega) _).setCell (p:=⟨gA,2,none⟩) (by show w.heap.size≤gA;omega) _)
  clear d0 d1 d2 m0 m1 m2 hbk e31 e9 HZ3 HBW3 e26;generalize ((w2.setCell ⟨gA,0,none⟩ (.int .i64 K)).setCell ⟨gA,1,none⟩ (.int .i64 C)).setCell ⟨gA,2,none⟩ (.slice sa sn sc)=W4 at *;have y0:=HZ4.out.c 0 _ rfl;have y1:=HZ4.out.c 1 _ rfl;have y2:=HZ4.out.c 2 _ rfl;have y3:=HZ4.out.c 3 _ rfl;have y4:=HZ4.out.c 4 _ rfl;have y5:=HZ4.out.c 5 _ rfl;have y6:=HZ4.out.c 6 _ rfl;have y7:=HZ4.out.c 7 _ rfl;have y8:=HZ4.out.c 8 _ rfl;have y9:=HZ4.out.c 9 _ rfl
  go_upto_region 8 with (go_at_call 11;with_reducible refine (HD2.out _).mono ?_;rintro r w5 ⟨sa2,sn2,sc2,rfl,hb⟩;have HB5:=Lib.hid (Base.below_step HBW4.out hb);have HA5:=Lib.hid (HW3.out.below hb);clear hb)
  have HA6:=Lib.hid (HA5.out.alloc (.cells #[.int .i64 K2,.int .i64 C2,.slice sa2 sn2 sc2] 36))
  have HN6:=Lib.hid (Rec.Bk.new w5 w5.heap.size rfl 36 [.int .i64 K2,.int .i64 C2,.slice sa2 sn2 sc2])
  have HBW6:=Lib.hid (HB5.out.alloc HB5.out.size (.cells #[.int .i64 K2,.int .i64 C2,.slice sa2 sn2 sc2] 36));clear y0 y1 y2 y3 y4 y5 y6 y7 y8 y9;generalize w5.alloc (.cells #[.int .i64 K2,.int .i64 C2,.slice sa2 sn2 sc2] 36)=W6 at *;generalize w5.heap.size=g6 at *;have hw8:=congrArg (Option.map Value.bool) HW.out;rw [←List.getElem?_map] at hw8;have hkw:=HHKW.out;have hk2:=HK2.out;clear HHKW HK2 HW HD HD2 HZ HZ1 HZ2 HZ4 HC1 HSH;rcases ch with _ | _<;>rcases od with _ | _
  ·have c8:(W6.alloc (.cells #[.bool true,.bool true,.bool true,.bool true,.bool true,.bool false,.bool true,.bool true,.bool true,.bool false] 4)).cell? ⟨W6.heap.size,m,none⟩=some (.bool wnt):=lit_at W6 [.bool true,.bool true,.bool true,.bool true,.bool true,.bool false,.bool true,.bool true,.bool true,.bool false] _ m _ hw8
   have HA7:=Lib.hid (HA6.out.alloc (.cells #[.bool true,.bool true,.bool true,.bool true,.bool true,.bool false,.bool true,.bool true,.bool true,.bool false] 4))
   have HN7:=Lib.hid (HN6.out.alloc (.cells #[.bool true,.bool true,.bool true,.bool true,.bool true,.bool false,.bool true,.bool true,.bool true,.bool false] 4))
   have HBW7:=Lib.hid (HBW6.out.alloc HBW6.out.size (.cells #[.bool true,.bool true,.bool true,.bool true,.bool true,.bool false,.bool true,.bool true,.bool true,.bool false] 4));clear hw8;go_upto_region 9 with fail
   clear c8;generalize W6.alloc (.cells #[.bool true,.bool true,.bool true,.bool true,.bool true,.bool false,.bool true,.bool true,.bool true,.bool false] 4)=W7 at *;have p0:=HA7.out.c 0 _ rfl;have q0:=HN7.out.c 0 _ rfl;go_wp2;go_ret;exact ⟨rfl,HBW7.out⟩
  ·have c8:(W6.alloc (.cells #[.bool false,.bool true,.bool true,.bool true,.bool true,.bool false,.bool true,.bool true,.bool true,.bool false] 4)).cell? ⟨W6.heap.size,m,none⟩=some (.bool wnt):=lit_at W6 [.bool false,.bool true,.bool true,.bool true,.bool true,.bool false,.bool true,.bool true,.bool true,.bool false] _ m _ hw8
   have HA7:=Lib.hid (HA6.out.alloc (.cells #[.bool false,.bool true,.bool true,.bool true,.bool true,.bool false,.bool true,.bool true,.bool true,.bool false] 4))
   have HN7:=Lib.hid (HN6.out.alloc (.cells #[.bool false,.bool true,.bool true,.bool true,.bool true,.bool false,.bool true,.bool true,.bool true,.bool false] 4))
   have HBW7:=Lib.hid (HBW6.out.alloc HBW6.out.size (.cells #[.bool false,.bool true,.bool true,.bool true,.bool true,.bool false,.bool true,.bool true,.bool true,.bool false] 4));clear hw8;go_upto_region 9 with fail
   clear c8;generalize W6.alloc (.cells #[.bool false,.bool true,.bool true,.bool true,.bool true,.bool false,.bool true,.bool true,.bool true,.bool false] 4)=W7 at *;have p0:=HA7.out.c 0 _ rfl;have q0:=HN7.out.c 0 _ rfl;go_wp2;go_ret;exact ⟨rfl,HBW7.out⟩
  ·have c8:(W6.alloc (.cells #[.bool true,.bool true,.bool false,.bool true,.bool false,.bool false,.bool false,.bool false,.bool false,.bool false] 4)).cell? ⟨W6.heap.size,m,none⟩=some (.bool wnt):=lit_at W6 [.bool true,.bool true,.bool false,.bool true,.bool false,.bool false,.bool false,.bool false,.bool false,.bool false] _ m _ hw8
   have HA7:=Lib.hid (HA6.out.alloc (.cells #[.bool true,.bool true,.bool false,.bool true,.bool false,.bool false,.bool false,.bool false,.bool false,.bool false] 4))
   have HN7:=Lib.hid (HN6.out.alloc (.cells #[.bool true,.bool true,.bool false,.bool true,.bool false,.bool false,.bool false,.bool false,.bool false,.bool false] 4))
   have HBW7:=Lib.hid (HBW6.out.alloc HBW6.out.size (.cells #[.bool true,.bool true,.bool false,.bool true,.bool false,.bool false,.bool false,.bool false,.bool false,.bool false] 4));clear hw8;go_upto_region 9 with fail
   clear c8;generalize W6.alloc (.cells #[.bool true,.bool true,.bool false,.bool true,.bool false,.bool false,.bool false,.bool false,.bool false,.bool false] 4)=W7 at *;have p0:=HA7.out.c 0 _ rfl;have q0:=HN7.out.c 0 _ rfl;go_wp2;go_ret;exact ⟨rfl,HBW7.out⟩
  ·have c8:(W6.alloc (.cells #[.bool false,.bool true,.bool false,.bool false,.bool false,.bool false,.bool false,.bool false,.bool false,.bool false] 4)).cell? ⟨W6.heap.size,m,none⟩=some (.bool wnt):=lit_at W6 [.bool false,.bool true,.bool false,.bool false,.bool false,.bool false,.bool false,.bool false,.bool false,.bool false] _ m _ hw8
   have HA7:=Lib.hid (HA6.out.alloc (.cells #[.bool false,.bool true,.bool false,.bool false,.bool false,.bool false,.bool false,.bool false,.bool false,.bool false] 4))
   have HN7:=Lib.hid (HN6.out.alloc (.cells #[.bool false,.bool true,.bool false,.bool false,.bool false,.bool false,.bool false,.bool false,.bool false,.bool false] 4))
   have HBW7:=Lib.hid (HBW6.out.alloc HBW6.out.size (.cells #[.bool false,.bool true,.bool false,.bool false,.bool false,.bool false,.bool false,.bool false,.bool false,.bool false] 4));clear hw8;go_upto_region 9 with fail
   clear c8;generalize W6.alloc (.cells #[.bool false,.bool true,.bool false,.bool false,.bool false,.bool false,.bool false,.bool false,.bool false,.bool false] 4)=W7 at *;have p0:=HA7.out.c 0 _ rfl;have q0:=HN7.out.c 0 _ rfl;go_wp2;go_ret;exact ⟨rfl,HBW7.out⟩
theorem analyseTable_law (n:Int) (ch od:Bool) (w:World) (hn:0≤n∧n≤255):Calls Tryz.prog 5 #[.int .u8 n,.bool ch,.bool od] w fun e w'=>e=.returned (.bool true)∧Below w.heap.size w w':=by
 obtain ⟨m,hm,hr⟩:∃m:Nat,m<10∧n.tmod 10=(m:Int):=by refine ⟨(n%10).toNat,by omega,?_⟩;rw [Int.tmod_eq_emod_of_nonneg hn.1];omega
 exact match ch,od with
  | true,true=>by
    have k:∀j:Fin 10,errA (2^(([6,17,18,20,21,22,27,28,29,13]:List Int)[j.val]?.getD 0).toNat) ⟨1024,32,8192,65536,32,8,4,20,true,true⟩=0∧(kindA (2^(([6,17,18,20,21,22,27,28,29,13]:List Int)[j.val]?.getD 0).toNat) ⟨1024,32,8192,65536,32,8,4,20,true,true⟩==1)=(([false,true,false,false,false,false,false,false,false,false]:List Bool)[j.val]?.getD false):=by decide +kernel
    have h1:([6,17,18,20,21,22,27,28,29,13]:List Int)[m]?=some (([6,17,18,20,21,22,27,28,29,13]:List Int)[m]?.getD 0):=by rw [List.getElem?_eq_getElem hm];rfl
    have h2:([false,true,false,false,false,false,false,false,false,false]:List Bool)[m]?=some (([false,true,false,false,false,false,false,false,false,false]:List Bool)[m]?.getD false):=by rw [List.getElem?_eq_getElem hm];rfl
    have h3:∀j:Fin 10,0≤([6,17,18,20,21,22,27,28,29,13]:List Int)[j.val]?.getD 0∧([6,17,18,20,21,22,27,28,29,13]:List Int)[j.val]?.getD 0<30:=by decide
    exact table true true n m _ _ _ _ _ w hn hm hr h1 (h3 ⟨m,hm⟩) rfl rfl rfl (k ⟨m,hm⟩).1 h2 (k ⟨m,hm⟩).2
  | true,false=>by
    have k:∀j:Fin 10,errA (2^(([6,17,18,20,21,22,27,28,29,13]:List Int)[j.val]?.getD 0).toNat) ⟨1024,32,8192,65536,32,8,4,20,true,false⟩=0∧(kindA (2^(([6,17,18,20,21,22,27,28,29,13]:List Int)[j.val]?.getD 0).toNat) ⟨1024,32,8192,65536,32,8,4,20,true,false⟩==1)=(([true,true,false,true,false,false,false,false,false,false]:List Bool)[j.val]?.getD false):=by decide +kernel
    have h1:([6,17,18,20,21,22,27,28,29,13]:List Int)[m]?=some (([6,17,18,20,21,22,27,28,29,13]:List Int)[m]?.getD 0):=by rw [List.getElem?_eq_getElem hm];rfl
    have h2:([true,true,false,true,false,false,false,false,false,false]:List Bool)[m]?=some (([true,true,false,true,false,false,false,false,false,false]:List Bool)[m]?.getD false):=by rw [List.getElem?_eq_getElem hm];rfl
    have h3:∀j:Fin 10,0≤([6,17,18,20,21,22,27,28,29,13]:List Int)[j.val]?.getD 0∧([6,17,18,20,21,22,27,28,29,13]:List Int)[j.val]?.getD 0<30:=by decide
    exact table true false n m _ _ _ _ _ w hn hm hr h1 (h3 ⟨m,hm⟩) rfl rfl rfl (k ⟨m,hm⟩).1 h2 (k ⟨m,hm⟩).2
  | false,true=>by
    have k:∀j:Fin 10,errA (2^(([6,17,18,20,21,22,27,28,29,13]:List Int)[j.val]?.getD 0).toNat) ⟨1024,32,8192,65536,32,8,4,20,false,true⟩=0∧(kindA (2^(([6,17,18,20,21,22,27,28,29,13]:List Int)[j.val]?.getD 0).toNat) ⟨1024,32,8192,65536,32,8,4,20,false,true⟩==1)=(([false,true,true,true,true,false,true,true,true,false]:List Bool)[j.val]?.getD false):=by decide +kernel
    have h1:([6,17,18,20,21,22,27,28,29,13]:List Int)[m]?=some (([6,17,18,20,21,22,27,28,29,13]:List Int)[m]?.getD 0):=by rw [List.getElem?_eq_getElem hm];rfl
    have h2:([false,true,true,true,true,false,true,true,true,false]:List Bool)[m]?=some (([false,true,true,true,true,false,true,true,true,false]:List Bool)[m]?.getD false):=by rw [List.getElem?_eq_getElem hm];rfl
    have h3:∀j:Fin 10,0≤([6,17,18,20,21,22,27,28,29,13]:List Int)[j.val]?.getD 0∧([6,17,18,20,21,22,27,28,29,13]:List Int)[j.val]?.getD 0<30:=by decide
    exact table false true n m _ _ _ _ _ w hn hm hr h1 (h3 ⟨m,hm⟩) rfl rfl rfl (k ⟨m,hm⟩).1 h2 (k ⟨m,hm⟩).2
  | false,false=>by
    have k:∀j:Fin 10,errA (2^(([6,17,18,20,21,22,27,28,29,13]:List Int)[j.val]?.getD 0).toNat) ⟨1024,32,8192,65536,32,8,4,20,false,false⟩=0∧(kindA (2^(([6,17,18,20,21,22,27,28,29,13]:List Int)[j.val]?.getD 0).toNat) ⟨1024,32,8192,65536,32,8,4,20,false,false⟩==1)=(([true,true,true,true,true,false,true,true,true,false]:List Bool)[j.val]?.getD false):=by decide +kernel
    have h1:([6,17,18,20,21,22,27,28,29,13]:List Int)[m]?=some (([6,17,18,20,21,22,27,28,29,13]:List Int)[m]?.getD 0):=by rw [List.getElem?_eq_getElem hm];rfl
    have h2:([true,true,true,true,true,false,true,true,true,false]:List Bool)[m]?=some (([true,true,true,true,true,false,true,true,true,false]:List Bool)[m]?.getD false):=by rw [List.getElem?_eq_getElem hm];rfl
    have h3:∀j:Fin 10,0≤([6,17,18,20,21,22,27,28,29,13]:List Int)[j.val]?.getD 0∧([6,17,18,20,21,22,27,28,29,13]:List Int)[j.val]?.getD 0<30:=by decide
    exact table false false n m _ _ _ _ _ w hn hm hr h1 (h3 ⟨m,hm⟩) rfl rfl rfl (k ⟨m,hm⟩).1 h2 (k ⟨m,hm⟩).2
end code
end Go.Proofs.YtimoakmcelocfaaGreat.An
