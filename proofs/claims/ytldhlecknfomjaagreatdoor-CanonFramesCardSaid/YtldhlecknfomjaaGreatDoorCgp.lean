import Derived.Test.YtldhlecknfomjaaGreatDoorCgo
namespace Go.Proofs.YtldhlecknfomjaaGreatDoor.Pg
open Go.RowKit Base Txt Mem Par
section code
set_option maxHeartbeats 4000000
set_option maxRecDepth 20000
attribute [local go_sem] Base.some_undef
variable {w:World} {B:Zone} {g q:Nat} {v f bd t o:Value} {p:Nat} {b:Bd} {s:T}
theorem enter_new (hp:p<4294967296) (hz:B.z= []) (hrow:w.heap[g]?=some (.cells ([.int .i64 0,.int .i64 0,nil,.string E0,.string E0,.int .i64 0,.int .i64 0,.bool false,.int .i64 0,nil,.bool false,nil,.int .i64 0,.int .u32 (p:Int),.int .i64 b.x0,.int .i64 b.x1,.int .i64 b.x2,.int .i64 b.x3,.int .i64 b.x4,.int .i64 b.x5,.int .i64 b.x6,.int .i64 b.x7,.bool b.ch,.bool b.od,.int .i64 0,.pointer none,nil]:List Value).toArray 75 (0,0))) (hB:B≤g):Calls Tryz.prog 93 #[ptr g,.int .i64 1,.int .i64 b.x0] w fun r w'=>
 r=.returned (.tuple #[])∧∃q1,PR w' B g q1 nil nil nil nil nil p b (T.new p b)∧Keeps [some g] w w':=by
 have hlt:=Ln.row_lt hrow
 have HR1:=Lib.hid (row_setL hrow 24 (.int .i64 1))
 have HK1:=Lib.hid (Keeps.set (w:=w) (L:= [some g]) g 24 (.int .i64 1) (by simp))
 have HLT:=Lib.hid (show g<(w.setCell ⟨g,24,none⟩ (.int .i64 1)).heap.size by simpa using hlt);have HB:=Lib.hid hB;have c24:=row_cellL hrow (k:=24) rfl;have z24:=Ln.row_frozen hrow 24;clear hrow hB hlt;go_enter Tryz.func93,Tryz.ntmps93;go_upto_region 1 with fail
 generalize w.setCell ⟨g,24,none⟩ (.int .i64 1)=W1 at *;clear c24 z24;have c13:W1.cell? ⟨g,13,none⟩=some (.int .u32 (p:Int)):=row_cellL HR1.out (k:=13) rfl
 have HNL:=Lib.hid (line_new hp B b.x0 W1 (Nat.le_trans HB.out (Nat.le_of_lt HLT.out)));go_wp2_with
  (go_at_call 136;with_reducible refine HNL.out.mono ?_;rintro r w8 ⟨q1,rfl,hq1,hr1,hb8⟩
   have hrow8:=(hb8.block g HLT.out).trans HR1.out;have d25:=row_cellL hrow8 (k:=25) rfl;have y25:=Ln.row_frozen hrow8 25;have HR8:=Lib.hid hrow8;have HD8:=Lib.hid hr1;have HQ8:=Lib.hid hq1;have HB8:=Lib.hid hb8;clear hb8 hr1 hq1 hrow8)
 go_end0;have hgq:g≠q1:=by have:=HLT.out;have:=HQ8.out;omega
 have hk:Keeps [some g] w8 (w8.setCell ⟨g,25,none⟩ (ptr q1)):=Keeps.set g 25 _ (by simp);refine ⟨rfl,q1,⟨row_setL HR8.out 25 (ptr q1),⟨⟨hk.row HD8.out.row (by simpa using fun e=>hgq e.symm),hk.own HD8.out.own (by simp [Value.ownBlock]),HD8.out.ge,HD8.out.ne⟩,World.ownsRow_nil _ _ _ _,World.ownsRow_nil _ _ _ _,World.ownsRow_nil _ _ _ _,⟨[],rfl,(by intro x hx;cases hx),World.ownsRow_nil _ _ _ _⟩,?_,HB.out,by have:=HLT.out;have:=HB8.out.size;simp;omega,by rw [hz];exact Clear.nil⟩⟩,(HK1.out.trans (Keeps.of_below HB8.out) Of.refl).trans hk Of.refl⟩;intro i j k hi hj;rcases i with _ | _ | _ | _ | _ | _ | _ | i<;>rcases j with _ | _ | _ | _ | _ | _ | _ | j<;>simp [Value.ownBlock] at hi hj ⊢<;>omega
theorem T.new_ok (p:Nat) (b:Bd):(T.new p b).Ok:=
 ⟨Ln.M.new_ok _ _ _ (Ln.mid_le _),rfl,⟨Nat.le_refl _,by show 1≤7;omega⟩,Nat.zero_le _,Nat.zero_le _,Nat.le_refl _,Nat.le_refl _,(by intro y hy;cases hy),(by intro y hy;cases hy),Nat.zero_le _,Nat.zero_le _,Nat.zero_le _,fun h=>(by cases h),fun _=>rfl,Nat.zero_le _⟩
theorem Q.new_ok (p:Nat) (b:Bd):(Q.new p b).Ok b:=by
 unfold Q.new;split
 ·rename_i h;simp only [Bool.and_eq_true] at h;exact ⟨T.new_ok p b,h.1⟩
 ·trivial
theorem dead_new {W:World} (hz:B.z= []) (hrow:W.heap[g]?=some (.cells ([.int .i64 20,.int .i64 0,nil,.string E0,.string E0,.int .i64 0,.int .i64 0,.bool false,.int .i64 0,nil,.bool false,nil,.int .i64 0,.int .u32 0,.int .i64 0,.int .i64 0,.int .i64 0,.int .i64 0,.int .i64 0,.int .i64 0,.int .i64 0,.int .i64 0,.bool false,.bool false,.int .i64 0,.pointer none,nil]:List Value).toArray 75 (0,0))) (hB:B≤g):At W B g p b [some g,none] (.dead 20 []):=
 ⟨nil,rfl,⟨hrow,⟨[],rfl,(by intro x hx;cases hx),World.ownsRow_nil _ _ _ _⟩,by simp [Value.ownBlock],hB,Ln.row_lt hrow,by decide,by rw [hz];exact Clear.nil⟩⟩
theorem new_any (hp:p<4294967296) (w:World):Calls Tryz.prog 37 #[.int .u32 (p:Int),.agg #[.int .i64 b.x0,.int .i64 b.x1,.int .i64 b.x2,.int .i64 b.x3,.int .i64 b.x4,.int .i64 b.x5,.int .i64 b.x6,.int .i64 b.x7,.bool b.ch,.bool b.od]] w fun r w'=>
 ∃g L',r=.returned (ptr g)∧w.heap.size≤g∧At w' ⟨w.heap.size,[]⟩ g p b L' (Q.new p b)∧Below w.heap.size w w':=by
 have hqr:=fun w=>Qk.right_any p hp w;have hbr:=fun w=>Bnd.right_any b.x0 b.x1 b.x2 b.x3 b.x4 b.x5 b.x6 b.x7 b.ch b.od w
 have HB0:=Lib.hid (((Below.refl _ _).alloc (Nat.le_refl _) (.cells #[.int .i64 b.x0,.int .i64 b.x1,.int .i64 b.x2,.int .i64 b.x3,.int .i64 b.x4,.int .i64 b.x5,.int .i64 b.x6,.int .i64 b.x7,.bool b.ch,.bool b.od] 29)):Below w.heap.size w _)
 have HZ0:=Lib.hid (Rec.Bk.new w w.heap.size rfl 29 [.int .i64 b.x0,.int .i64 b.x1,.int .i64 b.x2,.int .i64 b.x3,.int .i64 b.x4,.int .i64 b.x5,.int .i64 b.x6,.int .i64 b.x7,.bool b.ch,.bool b.od])
 have HSZ:=Lib.hid (show w.heap.size<(w.alloc (.cells #[.int .i64 b.x0,.int .i64 b.x1,.int .i64 b.x2,.int .i64 b.x3,.int .i64 b.x4,.int .i64 b.x5,.int .i64 b.x6,.int .i64 b.x7,.bool b.ch,.bool b.od] 29)).heap.size by simp);unfold Q.new;by_cases hP:p<1073741824
 ·rw [decide_eq_true hP] at hqr ⊢;rw [Bool.and_true];have HQR:=Lib.hid hqr;unfold Bd.right;cases hb:Bnd.right b.x0 b.x1 b.x2 b.x3 b.x4 b.x5 b.x6 b.x7 with
  | true=>
    rw [hb] at hbr;have HBR:=Lib.hid hbr;rw [if_pos rfl];clear hqr hbr hb hP;go_enter Tryz.func37,Tryz.ntmps37;go_upto_region 1 with fail
    generalize w.alloc (.cells #[.int .i64 b.x0,.int .i64 b.x1,.int .i64 b.x2,.int .i64 b.x3,.int .i64 b.x4,.int .i64 b.x5,.int .i64 b.x6,.int .i64 b.x7,.bool b.ch,.bool b.od] 29)=W0 at *;have y0:=HZ0.out.c 0 _ rfl;have y1:=HZ0.out.c 1 _ rfl;have y2:=HZ0.out.c 2 _ rfl;have y3:=HZ0.out.c 3 _ rfl;have y4:=HZ0.out.c 4 _ rfl;have y5:=HZ0.out.c 5 _ rfl;have y6:=HZ0.out.c 6 _ rfl;have y7:=HZ0.out.c 7 _ rfl;have y8:=HZ0.out.c 8 _ rfl;have y9:=HZ0.out.c 9 _ rfl
    go_upto_region 4 with (first
     |(go_at_call 92;with_reducible refine (HBR.out _).mono ?_;rintro r w3 ⟨rfl,hb3⟩
       have HB3:=Lib.hid hb3;have HZ3:=Lib.hid (HZ0.out.below hb3);have x0:=HZ3.out.c 0 _ rfl;have x1:=HZ3.out.c 1 _ rfl;have x2:=HZ3.out.c 2 _ rfl;have x3:=HZ3.out.c 3 _ rfl;have x4:=HZ3.out.c 4 _ rfl;have x5:=HZ3.out.c 5 _ rfl;have x6:=HZ3.out.c 6 _ rfl;have x7:=HZ3.out.c 7 _ rfl;have x8:=HZ3.out.c 8 _ rfl;have x9:=HZ3.out.c 9 _ rfl;clear hb3)
     |(go_at_call 91;with_reducible refine (HQR.out _).mono ?_;rintro r w2 ⟨rfl,hw⟩;rw [hw];clear hw))
    have HB4:=Lib.hid (Base.below_step HB0.out HB3.out)
    have HR4:=Lib.hid (heap_alloc_new w3 (.cells ([.int .i64 0,.int .i64 0,nil,.string E0,.string E0,.int .i64 0,.int .i64 0,.bool false,.int .i64 0,nil,.bool false,nil,.int .i64 0,.int .u32 (p:Int),.int .i64 b.x0,.int .i64 b.x1,.int .i64 b.x2,.int .i64 b.x3,.int .i64 b.x4,.int .i64 b.x5,.int .i64 b.x6,.int .i64 b.x7,.bool b.ch,.bool b.od,.int .i64 0,.pointer none,nil]:List Value).toArray 75))
    have HG:=Lib.hid (show w.heap.size≤w3.heap.size from Nat.le_trans (Nat.le_of_lt HSZ.out) HB3.out.size)
    have HBW:=Lib.hid (HB4.out.alloc HG.out (.cells ([.int .i64 0,.int .i64 0,nil,.string E0,.string E0,.int .i64 0,.int .i64 0,.bool false,.int .i64 0,nil,.bool false,nil,.int .i64 0,.int .u32 (p:Int),.int .i64 b.x0,.int .i64 b.x1,.int .i64 b.x2,.int .i64 b.x3,.int .i64 b.x4,.int .i64 b.x5,.int .i64 b.x6,.int .i64 b.x7,.bool b.ch,.bool b.od,.int .i64 0,.pointer none,nil]:List Value).toArray 75))
    have HX4:=Lib.hid ((HZ3.out.alloc (.cells ([.int .i64 0,.int .i64 0,nil,.string E0,.string E0,.int .i64 0,.int .i64 0,.bool false,.int .i64 0,nil,.bool false,nil,.int .i64 0,.int .u32 (p:Int),.int .i64 b.x0,.int .i64 b.x1,.int .i64 b.x2,.int .i64 b.x3,.int .i64 b.x4,.int .i64 b.x5,.int .i64 b.x6,.int .i64 b.x7,.bool b.ch,.bool b.od,.int .i64 0,.pointer none,nil]:List Value).toArray 75)).c 0 _ rfl)
    have HE:=Lib.hid (enter_new (B:=⟨w.heap.size,[]⟩) hp rfl HR4.out HG.out);clear y0 y1 y2 y3 y4 y5 y6 y7 y8 y9 x0 x1 x2 x3 x4 x5 x6 x7 x8 x9 HR4;have x0:=HX4.out
    go_wp2_with (go_at_call 93;with_reducible refine HE.out.mono ?_;rintro r w5 ⟨rfl,q1,hP,hK⟩);go_ret;exact ⟨_,_,rfl,HG.out,⟨_,_,_,_,_,_,rfl,hP⟩,HBW.out.trans (hK.below HBW.out.size (fun k hk=>by rw [Option.some.inj (List.mem_singleton.1 hk)];exact HG.out))⟩
  | false=>
    rw [hb] at hbr;have HBR:=Lib.hid hbr;rw [if_neg (by decide)];clear hqr hbr hb hP;go_enter Tryz.func37,Tryz.ntmps37;go_upto_region 1 with fail
    generalize w.alloc (.cells #[.int .i64 b.x0,.int .i64 b.x1,.int .i64 b.x2,.int .i64 b.x3,.int .i64 b.x4,.int .i64 b.x5,.int .i64 b.x6,.int .i64 b.x7,.bool b.ch,.bool b.od] 29)=W0 at *;have y0:=HZ0.out.c 0 _ rfl;have y1:=HZ0.out.c 1 _ rfl;have y2:=HZ0.out.c 2 _ rfl;have y3:=HZ0.out.c 3 _ rfl;have y4:=HZ0.out.c 4 _ rfl;have y5:=HZ0.out.c 5 _ rfl;have y6:=HZ0.out.c 6 _ rfl;have y7:=HZ0.out.c 7 _ rfl;have y8:=HZ0.out.c 8 _ rfl;have y9:=HZ0.out.c 9 _ rfl
    go_wp2_with (first
     |(go_at_call 92;with_reducible refine (HBR.out _).mono ?_;rintro r w3 ⟨rfl,hb3⟩
       have HB3:=Lib.hid hb3;clear hb3)
     |(go_at_call 91;with_reducible refine (HQR.out _).mono ?_;rintro r w2 ⟨rfl,hw⟩;rw [hw];clear hw))
    go_ret;have hg:=Nat.le_trans (Nat.le_of_lt HSZ.out) HB3.out.size;exact ⟨_,_,rfl,hg,dead_new (B:=⟨w.heap.size,[]⟩) rfl (heap_alloc_new w3 (.cells ([.int .i64 20,.int .i64 0,nil,.string E0,.string E0,.int .i64 0,.int .i64 0,.bool false,.int .i64 0,nil,.bool false,nil,.int .i64 0,.int .u32 0,.int .i64 0,.int .i64 0,.int .i64 0,.int .i64 0,.int .i64 0,.int .i64 0,.int .i64 0,.int .i64 0,.bool false,.bool false,.int .i64 0,.pointer none,nil]:List Value).toArray 75)) hg,(Base.below_step HB0.out HB3.out).alloc hg _⟩
 ·rw [decide_eq_false hP] at hqr ⊢;rw [Bool.and_false,if_neg (by decide)];have HQR:=Lib.hid hqr;clear hqr hbr hP;go_enter Tryz.func37,Tryz.ntmps37;go_upto_region 1 with fail
  generalize w.alloc (.cells #[.int .i64 b.x0,.int .i64 b.x1,.int .i64 b.x2,.int .i64 b.x3,.int .i64 b.x4,.int .i64 b.x5,.int .i64 b.x6,.int .i64 b.x7,.bool b.ch,.bool b.od] 29)=W0 at *
  go_wp2_with (go_at_call 91;with_reducible refine (HQR.out _).mono ?_;rintro r w2 ⟨rfl,hw⟩;rw [hw];clear hw);go_ret;have hg:=Nat.le_of_lt HSZ.out;exact ⟨_,_,rfl,hg,dead_new (B:=⟨w.heap.size,[]⟩) rfl (heap_alloc_new W0 (.cells ([.int .i64 20,.int .i64 0,nil,.string E0,.string E0,.int .i64 0,.int .i64 0,.bool false,.int .i64 0,nil,.bool false,nil,.int .i64 0,.int .u32 0,.int .i64 0,.int .i64 0,.int .i64 0,.int .i64 0,.int .i64 0,.int .i64 0,.int .i64 0,.int .i64 0,.bool false,.bool false,.int .i64 0,.pointer none,nil]:List Value).toArray 75)) hg,HB0.out.alloc hg _⟩
end code
end Go.Proofs.YtldhlecknfomjaaGreatDoor.Pg
namespace Go.Proofs.YtldhlecknfomjaaGreatDoor.Pg
open Go.RowKit Base Txt Mem Par
theorem told_err (x:Q):x.told.err=x.err:=by cases x<;>rfl
theorem told_clean (x:Q):x.told.clean=x.clean:=by cases x<;>rfl
theorem Parts.one {L:List (Option Nat)} {w:World} {a:Option Addr} {c:Nat} {l:List UInt8} (h:Bts L w a l) (hin:In w L) (ty:TypeId):Parts L (w.alloc (.cells #[.slice a l.length c] ty)) (some ⟨w.heap.size,0,none⟩) [l]:=by
 have hb:Below w.heap.size w (w.alloc (.cells #[.slice a l.length c] ty)):=(Below.refl _ _).alloc (Nat.le_refl _) _;refine ⟨fun _=>⟨w.heap.size,0,rfl,by simp,fun hm=>by have:=hin _ hm;omega,fun k hk=>?_⟩⟩;have hk:k<1:=hk;obtain rfl:k=0:=by omega
 refine ⟨a,c,?_,?_⟩
 ·have:=cell_of_row (w.alloc (.cells #[.slice a l.length c] ty)) w.heap.size 0 _ ty (0,0) (heap_alloc_new w _);exact this.trans rfl
 ·exact h.step (Step.of_below hb)
section code
set_option maxHeartbeats 4000000
set_option maxRecDepth 20000
attribute [local go_sem] Base.some_undef
variable {w:World} {B:Zone} {g q:Nat} {v f bd t o:Value} {p:Nat} {b:Bd} {s:T}
theorem read_any (hp:p<4294967296) (w:World) (a:Option Addr) (c:Nat) (l:List UInt8) (hl:Bts [] w a l) (hn:l.length≤400000000):Calls Tryz.prog 49 #[.int .u32 (p:Int),.agg #[.int .i64 b.x0,.int .i64 b.x1,.int .i64 b.x2,.int .i64 b.x3,.int .i64 b.x4,.int .i64 b.x5,.int .i64 b.x6,.int .i64 b.x7,.bool b.ch,.bool b.od],.slice a l.length c] w fun r w'=>
 ∃o L B0,r=.returned (.tuple #[o,.int .i64 ((Q.read p b l).err:Int),.bool (Q.read p b l).clean])∧Told L B0 w' o (Q.read p b l).out∧Below w.heap.size w w':=by
 have HB0:=Lib.hid (((Below.refl _ _).alloc (Nat.le_refl _) (.cells #[.int .i64 b.x0,.int .i64 b.x1,.int .i64 b.x2,.int .i64 b.x3,.int .i64 b.x4,.int .i64 b.x5,.int .i64 b.x6,.int .i64 b.x7,.bool b.ch,.bool b.od] 29)):Below w.heap.size w _)
 have HZ0:=Lib.hid (Rec.Bk.new w w.heap.size rfl 29 [.int .i64 b.x0,.int .i64 b.x1,.int .i64 b.x2,.int .i64 b.x3,.int .i64 b.x4,.int .i64 b.x5,.int .i64 b.x6,.int .i64 b.x7,.bool b.ch,.bool b.od])
 have HSZ:=Lib.hid (show w.heap.size<(w.alloc (.cells #[.int .i64 b.x0,.int .i64 b.x1,.int .i64 b.x2,.int .i64 b.x3,.int .i64 b.x4,.int .i64 b.x5,.int .i64 b.x6,.int .i64 b.x7,.bool b.ch,.bool b.od] 29)).heap.size by simp);have HL:=Lib.hid hl;have HN:=Lib.hid hn;unfold Q.read;obtain ⟨X,hX⟩:∃X,Q.feed p b (Q.new p b) l=X:=⟨_,rfl⟩;rw [hX];have HX:=Lib.hid hX;obtain ⟨m,hm⟩:∃m,l.length=m:=⟨_,rfl⟩;have HM:=Lib.hid hm;rw [hm];clear hl hn hm hX;go_enter Tryz.func49,Tryz.ntmps49;go_upto_region 1 with fail
 generalize w.alloc (.cells #[.int .i64 b.x0,.int .i64 b.x1,.int .i64 b.x2,.int .i64 b.x3,.int .i64 b.x4,.int .i64 b.x5,.int .i64 b.x6,.int .i64 b.x7,.bool b.ch,.bool b.od] 29)=W0 at *;have y0:=HZ0.out.c 0 _ rfl;have y1:=HZ0.out.c 1 _ rfl;have y2:=HZ0.out.c 2 _ rfl;have y3:=HZ0.out.c 3 _ rfl;have y4:=HZ0.out.c 4 _ rfl;have y5:=HZ0.out.c 5 _ rfl;have y6:=HZ0.out.c 6 _ rfl;have y7:=HZ0.out.c 7 _ rfl;have y8:=HZ0.out.c 8 _ rfl;have y9:=HZ0.out.c 9 _ rfl
 have HNW:=Lib.hid (new_any (b:=b) hp W0);go_upto_region 2 with
  (go_at_call 37;with_reducible refine HNW.out.mono ?_;rintro r w1 ⟨g,L1,rfl,hg,hA,hb1⟩
   have HG:=Lib.hid hg;have HA:=Lib.hid hA;have HB1:=Lib.hid hb1;clear hg hA hb1)
 have hlow:=HA.out.low;have hlA:Bts L1 w1 a l:=by refine ⟨HL.out.nums.below (Base.below_step HB0.out HB1.out),fun ad e=>?_⟩;have:=(HL.out.far ad e).2;refine ⟨fun hm=>?_,Nat.lt_of_lt_of_le this (Nat.le_trans (Nat.le_of_lt HSZ.out) HB1.out.size)⟩;have:W0.heap.size≤ad.block:=hlow _ hm;have:=HSZ.out;omega
 have hpa:=Parts.one (c:=c) hlA HA.out.in 23;rw [HM.out] at hpa;have hb2:Below w1.heap.size w1 (w1.alloc (.cells #[.slice a m c] 23)):=(Below.refl _ _).alloc (Nat.le_refl _) _
 have hfe:=feed_any hp _ (HA.out.below hb2) (Q.new_ok p b) (some ⟨w1.heap.size,0,none⟩) 1 [l] hpa (by simp) (by
  have h1:(Q.new p b).out.length=0:=by unfold Q.new;split<;>rfl
  have h2:=HN.out;rw [h1];simp only [List.flatten_cons,List.flatten_nil,List.append_nil];omega)
 have efl: [l].flatten=l:=by simp
 rw [efl] at hfe
 have HFE:=Lib.hid (show Calls Tryz.prog 39 #[ptr g,.slice (some ⟨w1.heap.size,0,none⟩) 1 1] (w1.alloc (.cells #[.slice a m c] 23)) fun r w'=>∃o L',r=.returned o∧At w' ⟨W0.heap.size,[]⟩ g p b L' (Q.feed p b (Q.new p b) l).told∧Told L' ⟨W0.heap.size,[]⟩ w' o (Q.feed p b (Q.new p b) l).out∧Step L1 L' (w1.alloc (.cells #[.slice a m c] 23)) w' from hfe);have HLOW:=Lib.hid hlow
 have HB2:=Lib.hid (Base.below_step (Base.below_step HB0.out HB1.out) hb2);rw [HX.out] at HFE;clear hlA hpa hb2 hfe efl hlow y0 y1 y2 y3 y4 y5 y6 y7 y8 y9
 go_wp2_with (first
  |(go_at_call 47;with_reducible refine HC.out.mono ?_;rintro r w3 ⟨rfl,hw⟩;rw [hw];clear hw)
  |(go_at_call 42;with_reducible refine HE.out.mono ?_;rintro r w3 ⟨rfl,hw⟩;rw [hw];clear hw)
  |(go_at_call 39;with_reducible refine HFE.out.mono ?_;rintro r w3 ⟨o,L',rfl,hA3,hT3,hS3⟩
    have HE:=Lib.hid (errq_any hA3);have HC:=Lib.hid (cleanq_any hA3);rw [told_err] at HE;rw [told_clean] at HC;have HT3:=Lib.hid hT3;have HS3:=Lib.hid hS3;clear hA3 hT3 hS3))
 refine bodyPost_ret (v:=.tuple #[o,.int .i64 (X.err:Int),.bool X.clean]) (by simp [results,Tryz.results49,go_sem]) rfl ?_;refine ⟨_,_,_,rfl,HT3.out,HB2.out.trans (HS3.out.keeps.below HB2.out.size (fun k hk=>?_))⟩;have:=HLOW.out k hk;have:=HSZ.out;omega
end code
theorem flat_at:∀(ps:List (Array Value × Rec.R)),(∀x∈ps,x.1.size=7)→∀k (hk:k<ps.length) j,j<7→(ps.flatMap (·.1.toList))[k*7+j]?=ps[k].1.toList[j]?
 | [],_,k,hk,_,_=>by cases hk
 | x::ps,h,0,_,j,hj=>by
   have hx:x.1.toList.length=7:=by simpa using h x (by simp)
   rw [List.flatMap_cons,List.getElem?_append_left (by omega),Nat.zero_mul,Nat.zero_add];rfl
 | x::ps,h,k+1,hk,j,hj=>by
   have hx:x.1.toList.length=7:=by simpa using h x (by simp)
   rw [List.flatMap_cons,List.getElem?_append_right (by omega),hx,show (k+1)*7+j-7=k*7+j by omega];exact flat_at ps (fun y hy=>h y (by simp [hy])) k (by simpa using hk) j hj
theorem Told.at {L:List (Option Nat)} {B:Zone} {w:World} {o:Value} {out:List Rec.R} (h:Told L B w o out):∃a c,o=.slice a out.length c∧(0<out.length→∃bk,a=some ⟨bk,0,none⟩∧bk<w.heap.size∧
 ∀k (hk:k<out.length),∃fa fc ba bc ta tc,Flds w fa out[k].fs.length out[k].fs∧Nums .u8 w ba out[k].body.length (out[k].body.map fun c=>(c.toNat:Int))∧Flds w ta out[k].ts.length out[k].ts∧
  w.cell? ⟨bk,k*7,none⟩=some (.string out[k].m)∧w.cell? ⟨bk,k*7+1,none⟩=some (.string out[k].x)∧w.cell? ⟨bk,k*7+2,none⟩=some (.int .i64 out[k].k)∧w.cell? ⟨bk,k*7+3,none⟩=some (.slice fa out[k].fs.length fc)∧
  w.cell? ⟨bk,k*7+4,none⟩=some (.bool out[k].ch)∧w.cell? ⟨bk,k*7+5,none⟩=some (.slice ba out[k].body.length bc)∧w.cell? ⟨bk,k*7+6,none⟩=some (.slice ta out[k].ts.length tc)):=by
 obtain ⟨ps,h1,h2,h3⟩:=h.outs;obtain ⟨a,c,e, -⟩:=Ln.own_slice h3;subst e;refine ⟨a,c,rfl,fun h0=>?_⟩;obtain ⟨bk,cf,hform, -,hlt⟩:=h3.form h0;simp only [Value.slice.injEq,true_and] at hform;obtain ⟨rfl,rfl⟩:=hform;refine ⟨bk,rfl,hlt,fun k hk=>?_⟩;have hkp:k<ps.length:=by rw [←h1,List.length_map] at hk;exact hk
 have hr:out[k]=ps[k].2:=by simp [←h1]
 obtain ⟨h7,hF⟩:=h2 ps[k] (List.getElem_mem hkp);obtain ⟨fa,fc,ba,bc,ta,tc,hV,f1,f2,f3⟩:=hF.reads;have hcs:ps[k].1= #[.string ps[k].2.m,.string ps[k].2.x,.int .i64 ps[k].2.k,.slice fa ps[k].2.fs.length fc,.bool ps[k].2.ch,.slice ba ps[k].2.body.length bc,.slice ta ps[k].2.ts.length tc]:=by injection hV
 have key:∀j,j<7→w.cell? ⟨bk,k*7+j,none⟩=ps[k].1.toList[j]?:=by
  intro j hj
  have hc:=h3.cellAt (k*7+j) (by omega);have e:(ps.flatMap (·.1.toList))[k*7+j]?=ps[k].1.toList[j]?:=flat_at ps (fun x hx=>(h2 x hx).1) k hkp j hj;exact hc.trans e
 rw [hr];rw [hcs] at key;exact ⟨fa,fc,ba,bc,ta,tc,f1,f2,f3,key 0 (by decide),key 1 (by decide),key 2 (by decide),key 3 (by decide),key 4 (by decide),key 5 (by decide),key 6 (by decide)⟩
end Go.Proofs.YtldhlecknfomjaaGreatDoor.Pg
namespace Go.Proofs.YtldhlecknfomjaaGreatDoor.Pg
open Go.RowKit Base Txt Mem Par
abbrev usual:Bd:=⟨1024,32,8192,65536,32,8,4,20,true,true⟩
abbrev bdV (b:Bd):Value:=.agg #[.int .i64 b.x0,.int .i64 b.x1,.int .i64 b.x2,.int .i64 b.x3,.int .i64 b.x4,.int .i64 b.x5,.int .i64 b.x6,.int .i64 b.x7,.bool b.ch,.bool b.od]
def RecAt (w:World) (bk j:Nat) (r:Rec.R):Prop:=∃fa fc ba bc ta tc,Flds w fa r.fs.length r.fs∧Nums .u8 w ba r.body.length (r.body.map fun c=>(c.toNat:Int))∧Flds w ta r.ts.length r.ts∧
 w.cell? ⟨bk,j,none⟩=some (.string r.m)∧w.cell? ⟨bk,j+1,none⟩=some (.string r.x)∧w.cell? ⟨bk,j+2,none⟩=some (.int .i64 r.k)∧w.cell? ⟨bk,j+3,none⟩=some (.slice fa r.fs.length fc)∧
 w.cell? ⟨bk,j+4,none⟩=some (.bool r.ch)∧w.cell? ⟨bk,j+5,none⟩=some (.slice ba r.body.length bc)∧w.cell? ⟨bk,j+6,none⟩=some (.slice ta r.ts.length tc)
def Said (w:World) (o:Value) (out:List Rec.R):Prop:=∃a c,o=.slice a out.length c∧(0<out.length→∃bk,a=some ⟨bk,0,none⟩∧bk<w.heap.size∧∀k (hk:k<out.length),RecAt w bk (k*7) out[k])
theorem Told.said {L:List (Option Nat)} {B:Zone} {w:World} {o:Value} {out:List Rec.R} (h:Told L B w o out):Said w o out:=h.at
theorem RecAt.below {w w':World} {bk j:Nat} {r:Rec.R} (h:RecAt w bk j r) (hlt:bk<w.heap.size) (hb:Below w.heap.size w w'):RecAt w' bk j r:=by obtain ⟨fa,fc,ba,bc,ta,tc,f1,f2,f3,c0,c1,c2,c3,c4,c5,c6⟩:=h;exact ⟨fa,fc,ba,bc,ta,tc,f1.below hb,f2.below hb,f3.below hb,(hb.cell (p:=⟨bk,j,none⟩) hlt).trans c0,(hb.cell (p:=⟨bk,j+1,none⟩) hlt).trans c1,(hb.cell (p:=⟨bk,j+2,none⟩) hlt).trans c2,(hb.cell (p:=⟨bk,j+3,none⟩) hlt).trans c3,(hb.cell (p:=⟨bk,j+4,none⟩) hlt).trans c4,(hb.cell (p:=⟨bk,j+5,none⟩) hlt).trans c5,(hb.cell (p:=⟨bk,j+6,none⟩) hlt).trans c6⟩
theorem Said.below {w w':World} {o:Value} {out:List Rec.R} (h:Said w o out) (hb:Below w.heap.size w w'):Said w' o out:=by obtain ⟨a,c,e,hc⟩:=h;refine ⟨a,c,e,fun h0=>?_⟩;obtain ⟨bk,e1,hlt,h1⟩:=hc h0;exact ⟨bk,e1,Nat.lt_of_lt_of_le hlt hb.size,fun k hk=>(h1 k hk).below hlt hb⟩
abbrev bytesV (l:List UInt8):Array Value:=(l.map fun c=>Value.int .u8 (c.toNat:Int)).toArray
theorem Bts.lit {L:List (Option Nat)} {w:World} (hin:In w L) (l:List UInt8) (V:Array Value) (hV:V=bytesV l) (ty:TypeId) (fr:Nat × Nat):Bts L (w.alloc (.cells V ty fr)) (some ⟨w.heap.size,0,none⟩) l:=by
 subst hV;refine ⟨⟨by simp,fun h0=>⟨w.heap.size,0,rfl,by simp,fun k hk=>?_⟩⟩,fun ad e=>?_⟩
 ·rw [Nat.zero_add,cell_of_row _ _ k _ ty fr (heap_alloc_new _ _)];simp [bytesV,hk]
 ·obtain rfl:ad=⟨w.heap.size,0,none⟩:=by simpa using e.symm
  exact ⟨fun hm=>by have:w.heap.size<w.heap.size:=hin _ hm;omega,by simp⟩
theorem in_nil (w:World):In w []:=fun k hk=>by cases hk
theorem read_said {p:Nat} (hp:p<4294967296) (b:Bd) (w:World) (a:Option Addr) (c:Nat) (l:List UInt8) (hl:Bts [] w a l) (hn:l.length≤400000000) (e:Nat) (cl:Bool) (out:List Rec.R) (he:(Q.read p b l).err=e) (hc:(Q.read p b l).clean=cl) (ho:(Q.read p b l).out=out):Calls Tryz.prog 49 #[.int .u32 (p:Int),bdV b,.slice a l.length c] w fun r w'=>
 ∃o,r=.returned (.tuple #[o,.int .i64 (e:Int),.bool cl])∧Said w' o out∧Below w.heap.size w w':=by
 refine (read_any (b:=b) hp w a c l hl hn).mono ?_;rintro r w' ⟨o,L,B0,rfl,hT,hb⟩;rw [he,hc];rw [ho] at hT;exact ⟨o,rfl,hT.said,hb⟩
end Go.Proofs.YtldhlecknfomjaaGreatDoor.Pg
namespace Go.Proofs.YtldhlecknfomjaaGreatDoor.Can
open Go.RowKit Base Txt Par Pg
def wrR (r:Rec.R):Rec.R:=⟨r.m,r.x,1,fieldsR r,decide (r.ts≠ []),r.body,r.ts⟩
def rightV (b:Bd) (r:Rec.R):Bool:=(Q.read 0 b (putR r)).clean&&Rec.all (Q.read 0 b (putR r)).out [wrR r]
theorem feed_fits {p:Nat} {b:Bd} (l:List UInt8):∀{x:Q},Flt.Fits x.out→x.Fine b→Flt.Fits (x.feed p b l).out:=by
 induction l with
 | nil=>intro x h _;exact h
 | cons c l ih=>intro x h ok;exact ih (Flt.byte_fits h ok c) (ok.byte c)
theorem fine_of {b:Bd} {x:Q} (h:x.Ok b):x.Fine b:=by cases x<;>exact h
theorem new_out (p:Nat) (b:Bd):(Q.new p b).out= []:=by unfold Q.new;split<;>rfl
theorem read_fits {p:Nat} {b:Bd} (l:List UInt8):Flt.Fits (Q.read p b l).out:=feed_fits l (by rw [new_out];intro r hr;cases hr) (fine_of (Q.new_ok p b))
theorem read_few {p:Nat} {b:Bd} (l:List UInt8):(Q.read p b l).out.length≤2*l.length:=by have:=Q.feed_out (p:=p) (b:=b) l (Q.new p b);rw [new_out] at this;show (Q.feed p b (Q.new p b) l).out.length≤_;simpa using this
theorem Sm.fit {r:Rec.R} (h:Sm r):Rec.Fit (wrR r):=by
 obtain ⟨h1,h2⟩:=h.fields;have hm:=h.m;have hx:=h.x;have hb:=h.body;have ht:=h.tl;refine ⟨?_,?_,?_,fun f hf=>?_,?_,?_,fun f hf=>?_⟩
 ·show r.m.size≤_;omega
 ·show r.x.size≤_;omega
 ·show (fieldsR r).length≤_;omega
 ·have:=h1 f hf;omega
 ·show r.body.length≤_;omega
 ·show r.ts.length≤_;omega
 ·have:=h.ts f hf;omega
theorem said_recs {w:World} {o:Value} {out:List Rec.R} (h:Said w o out):∃a c,o=.slice a out.length c∧Rec.Recs w a out.length out:=by
 obtain ⟨a,c,e,hc⟩:=h;refine ⟨a,c,e,rfl,fun h0=>?_⟩;obtain ⟨bk,e1,hlt,h1⟩:=hc h0;refine ⟨bk,0,e1,hlt,fun k hk=>?_⟩;obtain ⟨fa,fc,ba,bc,ta,tc,f1,f2,f3,c0,c1,c2,c3,c4,c5,c6⟩:=h1 k hk;have e2:(out[k]?.getD Rec.r0)=out[k]:=by rw [List.getElem?_eq_getElem hk];rfl
 rw [e2,Nat.zero_add];exact ⟨fa,fc,ba,bc,ta,tc,⟨c0,c1,c2,c3,c4,c5,c6⟩,⟨fa,fc,ba,bc,ta,tc,rfl,f1,f2,f3⟩⟩
theorem recs_one {w:World} {V:Value} {r:Rec.R} (h:Rec.Reads w V r) (cs:Array Value) (hc:V=.agg cs) (t:TypeId):Rec.Recs (w.alloc (.cells cs t)) (some ⟨w.heap.size,0,none⟩) 1 [r]:=by
 subst hc;have hB:=Rec.Bk.new w w.heap.size rfl t cs.toList;rw [Array.toArray_toList] at hB
 have:=Rec.Recs.lit (w:=w.alloc (.cells cs t)) (g:=w.heap.size) [(cs,r)] (by simpa using hB) (by
  intro p hp;rw [List.mem_singleton.1 hp]
  exact h.below ((Below.refl _ _).alloc (Nat.le_refl _) _))
 simpa using this
theorem bts_of_buf {w:World} {B:Nat} {v:Value} {xs:List UInt8} (h:By.Buf w B v xs):∃a c,v=.slice a xs.length c∧Bts [] w a xs:=by
 obtain ⟨g,cap,rfl,h1,h2,h3,h4,h5⟩:=h;refine ⟨_,cap,rfl,⟨⟨by simp,fun h0=>⟨g,0,rfl,h2,fun k hk=>?_⟩⟩,fun ad e=>?_⟩⟩
 ·rw [Nat.zero_add,h4 k hk,List.getElem?_map,List.getElem?_eq_getElem hk];rfl
 ·obtain rfl:ad=⟨g,0,none⟩:=by simpa using e.symm
  exact ⟨fun hm=>(by cases hm),h2⟩
def BtsF (l:List UInt8):Each.Fact:=fun v w=>∃a c,v=.slice a l.length c∧Bts [] w a l
theorem BtsF.lasts {l:List UInt8}:Each.Lasts (BtsF l):=fun _ _ _ hb ⟨a,c,e,h⟩=>⟨a,c,e,h.step (Step.of_below hb)⟩
def SaidF (out:List Rec.R):Each.Fact:=fun v w=>Said w v out
theorem SaidF.lasts {out:List Rec.R}:Each.Lasts (SaidF out):=fun _ _ _ hb h=>Said.below h hb
def TupF (e:Nat) (cl:Bool) (out:List Rec.R):Each.Fact:=fun v w=>∃o,v=.tuple #[o,.int .i64 (e:Int),.bool cl]∧Said w o out
theorem TupF.lasts {e:Nat} {cl:Bool} {out:List Rec.R}:Each.Lasts (TupF e cl out):=fun _ _ _ hb ⟨o,h1,h2⟩=>⟨o,h1,h2.below hb⟩
section code
set_option maxHeartbeats 4000000
set_option maxRecDepth 100000
attribute [local go_sem] Base.some_undef
theorem written_any (V:Value) (r:Rec.R) (w:World) (h:Rec.Reads w V r) (hs:Sm r):Calls Tryz.prog 87 #[V] w fun e w'=>∃cs,e=.returned (.agg cs)∧cs.size=7∧Rec.Reads w' (.agg cs) (wrR r)∧Below w.heap.size w w':=by
 obtain ⟨fa,fc,ba,bc,ta,tc,rfl,h1,h2,h3⟩:=h;have hR0:∀wk,Below w.heap.size w wk→Rec.Reads wk (.agg #[.string r.m,.string r.x,.int .i64 1,.slice fa r.fs.length fc,.bool r.ch,.slice ba r.body.length bc,.slice ta r.ts.length tc]) {r with k:=1}:=fun wk hb=>⟨fa,fc,ba,bc,ta,tc,rfl,h1.below hb,h2.below hb,h3.below hb⟩
 have HF:=Lib.hid fun wk hb=>fields_any _ {r with k:=1} wk (hR0 wk hb) (by have:=hs.fl;show r.fs.length≤_;omega) (fun f hf=>by have:=hs.fs f hf;omega) (by have:=hs.body;show r.body.length≤_;omega);have HC:Hid (∀wk fa3 fc3,Below w.heap.size w wk→Flds wk fa3 (fieldsV r.m r.fs r.body r.ts).length (fieldsV r.m r.fs r.body r.ts)→Calls Tryz.prog 27 #[.agg #[.string r.m,.string r.x,.int .i64 1,.slice fa3 (fieldsV r.m r.fs r.body r.ts).length fc3,.bool r.ch,.slice ba r.body.length bc,.slice ta r.ts.length tc]] wk fun e w'=>e=.returned (.bool (decide (r.ts≠ [])))∧Below wk.heap.size wk w'):=
  Lib.hid fun wk fa3 fc3 hb hf=>chunked_any _ {r with k:=1,fs:=fieldsV r.m r.fs r.body r.ts} wk ⟨fa3,fc3,ba,bc,ta,tc,rfl,hf,h2.below hb,h3.below hb⟩
 have HE:Hid (∀wk fa3 fc3 C,C=decide (r.ts≠ [])→Below w.heap.size w wk→Flds wk fa3 (fieldsV r.m r.fs r.body r.ts).length (fieldsV r.m r.fs r.body r.ts)→Rec.Reads wk (.agg #[.string r.m,.string r.x,.int .i64 1,.slice fa3 (fieldsV r.m r.fs r.body r.ts).length fc3,.bool C,.slice ba r.body.length bc,.slice ta r.ts.length tc]) (wrR r)):=
  Lib.hid fun wk fa3 fc3 C hC hb hf=>⟨fa3,fc3,ba,bc,ta,tc,by rw [hC];rfl,hf,h2.below hb,h3.below hb⟩
 have hb0:=Lib.hid (((Below.refl _ _).alloc (Nat.le_refl _) (.cells #[.string r.m,.string r.x,.int .i64 r.k,.slice fa r.fs.length fc,.bool r.ch,.slice ba r.body.length bc,.slice ta r.ts.length tc] 25)).alloc (by simp) (.cells #[.string ⟨#[]⟩,.string ⟨#[]⟩,.int .i64 0,.slice none 0 0,.bool false,.slice none 0 0,.slice none 0 0] 25):Below w.heap.size w _)
 have HA:=Lib.hid ((Rec.Bk.new w w.heap.size rfl 25 [.string r.m,.string r.x,.int .i64 r.k,.slice fa r.fs.length fc,.bool r.ch,.slice ba r.body.length bc,.slice ta r.ts.length tc]).alloc (.cells #[.string ⟨#[]⟩,.string ⟨#[]⟩,.int .i64 0,.slice none 0 0,.bool false,.slice none 0 0,.slice none 0 0] 25))
 have HZ:=Lib.hid (Rec.Bk.new (w.alloc (.cells #[.string r.m,.string r.x,.int .i64 r.k,.slice fa r.fs.length fc,.bool r.ch,.slice ba r.body.length bc,.slice ta r.ts.length tc] 25)) (w.heap.size+1) (by simp) 25 [.string ⟨#[]⟩,.string ⟨#[]⟩,.int .i64 0,.slice none 0 0,.bool false,.slice none 0 0,.slice none 0 0]);have hsz:((w.alloc (.cells #[.string r.m,.string r.x,.int .i64 r.k,.slice fa r.fs.length fc,.bool r.ch,.slice ba r.body.length bc,.slice ta r.ts.length tc] 25)).alloc (.cells #[.string ⟨#[]⟩,.string ⟨#[]⟩,.int .i64 0,.slice none 0 0,.bool false,.slice none 0 0,.slice none 0 0] 25)).heap.size=w.heap.size+2:=by simp
 obtain ⟨C,hC⟩:∃C,decide (r.ts≠ [])=C:=⟨_,rfl⟩;rw [hC] at HC HE;clear hC hR0 h1 h2 h3 hs;go_enter Tryz.func87,Tryz.ntmps87;go_upto_region 1 with fail
 generalize (w.alloc (.cells #[.string r.m,.string r.x,.int .i64 r.k,.slice fa r.fs.length fc,.bool r.ch,.slice ba r.body.length bc,.slice ta r.ts.length tc] 25)).alloc (.cells #[.string ⟨#[]⟩,.string ⟨#[]⟩,.int .i64 0,.slice none 0 0,.bool false,.slice none 0 0,.slice none 0 0] 25)=W at *;have HB0:=hb0;have HA0:=HA;have HZ0:=HZ;clear HA HZ hb0
 have q2:=HA0.out.c 2 _ rfl;have z2:=HA0.out.z 2 (by simp);go_upto_region 2 with fail
 have HA1:=Lib.hid (HA0.out.set 2 (.int .i64 1) (by simp))
 have HZ1:=Lib.hid (HZ0.out.other w.heap.size 2 (.int .i64 1) (by omega))
 have HB1:=Lib.hid (show Below w.heap.size w (W.setCell ⟨w.heap.size,2,none⟩ (.int .i64 1)) from HB0.out.setCell (Nat.le_refl _) _);have hs1:(W.setCell ⟨w.heap.size,2,none⟩ (.int .i64 1)).heap.size=w.heap.size+2:=by simp [hsz]
 clear q2 z2 HB0 HA0 HZ0 hsz;generalize W.setCell ⟨w.heap.size,2,none⟩ (.int .i64 1)=W1 at *;have q0:=HA1.out.c 0 _ rfl;have q1:=HA1.out.c 1 _ rfl;have q2:=HA1.out.c 2 _ rfl;have q3:=HA1.out.c 3 _ rfl;have q4:=HA1.out.c 4 _ rfl;have q5:=HA1.out.c 5 _ rfl;have q6:=HA1.out.c 6 _ rfl;go_upto_region 3 with
  (go_at_call 25;with_reducible refine (HF.out _ HB1.out).mono ?_;rintro e w2 ⟨fa3,fc3,rfl,hf2,hb2,ho2⟩
   have HF2:=Lib.hid hf2;have HO2:=Lib.hid ho2;have HX2:=Lib.hid hb2
   have HA2:=Lib.hid (HA1.out.below hb2);have HZ2:=Lib.hid (HZ1.out.below hb2);clear q0 q1 q2 q3 q4 q5 q6
   have q3:=HA2.out.c 3 _ rfl;have z3:=HA2.out.z 3 (by simp);clear hf2 ho2 hb2)
 have hlo:∀g,(Value.slice fa3 (fieldsV r.m r.fs r.body r.ts).length fc3).ownBlock=some g→w.heap.size+2≤g∧g<w2.heap.size:=fun g hg=>by have:=(HO2.out.lt g hg);rw [hs1] at this;exact this
 have HLO:=Lib.hid hlo
 have HA3:=Lib.hid (HA2.out.set 3 (.slice fa3 (fieldsV r.m r.fs r.body r.ts).length fc3) (by simp))
 have HZ3:=Lib.hid (HZ2.out.other w.heap.size 3 (.slice fa3 (fieldsV r.m r.fs r.body r.ts).length fc3) (by omega))
 have HB3:=Lib.hid (show Below w.heap.size w (w2.setCell ⟨w.heap.size,3,none⟩ (.slice fa3 (fieldsV r.m r.fs r.body r.ts).length fc3)) from (Base.below_step HB1.out HX2.out).setCell (Nat.le_refl _) _)
 have HO3:=Lib.hid (ownsRow_setCell_other HO2.out (a:=⟨w.heap.size,3,none⟩) (fun e=>by have:=hlo _ e;simp only at this;omega) (.slice fa3 (fieldsV r.m r.fs r.body r.ts).length fc3));clear q3 z3 HA2 HZ2 HO2 HF2 HX2 HA1 HZ1 HB1 hs1 hlo;generalize w2.setCell ⟨w.heap.size,3,none⟩ (.slice fa3 (fieldsV r.m r.fs r.body r.ts).length fc3)=W3 at *;have HF3:Hid (∀wk:World,wk.ownsRow W1.heap.size 48 2 (.slice fa3 (fieldsV r.m r.fs r.body r.ts).length fc3) (fieldsV r.m r.fs r.body r.ts).length (cells (fieldsV r.m r.fs r.body r.ts))→Flds wk fa3 (fieldsV r.m r.fs r.body r.ts).length (fieldsV r.m r.fs r.body r.ts)):=Lib.hid fun wk ho=>by obtain ⟨A,c,e,hf⟩:=Flds.of_own ho;simp only [Value.slice.injEq,true_and] at e;obtain ⟨rfl, -⟩:=e;exact hf
 have q0:=HA3.out.c 0 _ rfl;have q1:=HA3.out.c 1 _ rfl;have q2:=HA3.out.c 2 _ rfl;have q3:=HA3.out.c 3 _ rfl;have q4:=HA3.out.c 4 _ rfl;have q5:=HA3.out.c 5 _ rfl;have q6:=HA3.out.c 6 _ rfl;go_upto_region 4 with
  (go_at_call 27;with_reducible refine (HC.out _ _ _ HB3.out (HF3.out _ HO3.out)).mono ?_;rintro e w4 ⟨rfl,hb4⟩
   have HX4:=Lib.hid hb4
   have HA4:=Lib.hid (HA3.out.below hb4);have HZ4:=Lib.hid (HZ3.out.below hb4);clear q0 q1 q2 q3 q4 q5 q6
   have q4:=HA4.out.c 4 _ rfl;have z4:=HA4.out.z 4 (by simp);clear hb4)
 have HA5:=Lib.hid (HA4.out.set 4 (.bool C) (by simp))
 have HZ5:=Lib.hid (HZ4.out.other w.heap.size 4 (.bool C) (by omega))
 have HB5:=Lib.hid (show Below w.heap.size w (w4.setCell ⟨w.heap.size,4,none⟩ (.bool C)) from (Base.below_step HB3.out HX4.out).setCell (Nat.le_refl _) _)
 have HO5:=Lib.hid (ownsRow_setCell_other (own_below HO3.out HX4.out) (a:=⟨w.heap.size,4,none⟩) (fun e=>by have:=HLO.out _ e;simp only at this;omega) (.bool C));clear q4 z4 HA4 HZ4 HO3 HX4 HA3 HZ3 HB3;generalize w4.setCell ⟨w.heap.size,4,none⟩ (.bool C)=W5 at *;have q0:=HA5.out.c 0 _ rfl;have q1:=HA5.out.c 1 _ rfl;have q2:=HA5.out.c 2 _ rfl;have q3:=HA5.out.c 3 _ rfl;have q4:=HA5.out.c 4 _ rfl;have q5:=HA5.out.c 5 _ rfl;have q6:=HA5.out.c 6 _ rfl
 have p0:=HZ5.out.z 0 (by simp);have p1:=HZ5.out.z 1 (by simp);have p2:=HZ5.out.z 2 (by simp);have p3:=HZ5.out.z 3 (by simp);have p4:=HZ5.out.z 4 (by simp);have p5:=HZ5.out.z 5 (by simp);have p6:=HZ5.out.z 6 (by simp);have y0:=HZ5.out.c 0 _ rfl;have y1:=HZ5.out.c 1 _ rfl;have y2:=HZ5.out.c 2 _ rfl;have y3:=HZ5.out.c 3 _ rfl;have y4:=HZ5.out.c 4 _ rfl;have y5:=HZ5.out.c 5 _ rfl;have y6:=HZ5.out.c 6 _ rfl;go_wp2_with fail
 obtain ⟨X,hX,hBX,hbX,hsX,hoX, -⟩:=Rec.put7 HZ5.out (by simp) HB5.out (Nat.le_succ _) (.string r.m) (.string r.x) (.int .i64 1) (.slice fa3 (fieldsV r.m r.fs r.body r.ts).length fc3) (.bool C) (.slice ba r.body.length bc) (.slice ta r.ts.length tc);rw [hX];have d0:=hBX.c 0 _ rfl;have d1:=hBX.c 1 _ rfl;have d2:=hBX.c 2 _ rfl;have d3:=hBX.c 3 _ rfl;have d4:=hBX.c 4 _ rfl;have d5:=hBX.c 5 _ rfl;have d6:=hBX.c 6 _ rfl;refine bodyPost_ret (v:=.agg #[.string r.m,.string r.x,.int .i64 1,.slice fa3 (fieldsV r.m r.fs r.body r.ts).length fc3,.bool C,.slice ba r.body.length bc,.slice ta r.ts.length tc]) (by simp [results,Tryz.results87,go_sem,d0,d1,d2,d3,d4,d5,d6]) rfl ⟨_,rfl,rfl,?_,hbX⟩
 exact HE.out _ _ _ _ rfl hbX (HF3.out _ (hoX _ _ _ _ _ _ HO5.out (fun e=>by have:=HLO.out _ e;omega)))
theorem right_any (V:Value) (r:Rec.R) (b:Bd) (w:World) (h:Rec.Reads w V r) (hs:Sm r):Calls Tryz.prog 29 #[V,.agg #[.int .i64 b.x0,.int .i64 b.x1,.int .i64 b.x2,.int .i64 b.x3,.int .i64 b.x4,.int .i64 b.x5,.int .i64 b.x6,.int .i64 b.x7,.bool b.ch,.bool b.od]] w fun e w'=>e=.returned (.bool (rightV b r))∧Below w.heap.size w w':=by
 obtain ⟨fa,fc,ba,bc,ta,tc,rfl,h1,h2,h3⟩:=h;have hR:Rec.Reads w (.agg #[.string r.m,.string r.x,.int .i64 r.k,.slice fa r.fs.length fc,.bool r.ch,.slice ba r.body.length bc,.slice ta r.ts.length tc]) r:=⟨fa,fc,ba,bc,ta,tc,rfl,h1,h2,h3⟩;clear h1 h2 h3;have HP:=Lib.hid fun wk hb=>put_any _ r wk (hR.below (w':=wk) hb) hs;have HWR:=Lib.hid fun wk hb=>written_any _ r wk (hR.below (w':=wk) hb) hs;obtain ⟨E,hE⟩:∃E,(Q.read 0 b (putR r)).err=E:=⟨_,rfl⟩;obtain ⟨CL,hC⟩:∃CL,(Q.read 0 b (putR r)).clean=CL:=⟨_,rfl⟩;obtain ⟨OUT,hO⟩:∃OUT,(Q.read 0 b (putR r)).out=OUT:=⟨_,rfl⟩
 have HFI:Hid (∀r∈OUT,Rec.Fit r):=Lib.hid (by rw [←hO];exact read_fits _)
 have HFW:Hid (OUT.length≤1000000000∧Rec.Fit (wrR r)):=Lib.hid ⟨by
  have:=read_few (p:=0) (b:=b) (putR r);rw [hO] at this;have:=hs.put
  omega,hs.fit⟩
 have HRD:Hid (∀w1 a c,Bts [] w1 a (putR r)→Calls Tryz.prog 49 #[.int .u32 0,.agg #[.int .i64 b.x0,.int .i64 b.x1,.int .i64 b.x2,.int .i64 b.x3,.int .i64 b.x4,.int .i64 b.x5,.int .i64 b.x6,.int .i64 b.x7,.bool b.ch,.bool b.od],.slice a (putR r).length c] w1 fun e w2=>∃o,e=.returned (.tuple #[o,.int .i64 (E:Int),.bool CL])∧Said w2 o OUT∧Below w1.heap.size w1 w2):=
  Lib.hid fun w1 a c hl=>read_said (p:=0) (by decide) b w1 a c _ hl (by have:=hs.put;omega) E CL OUT hE hC hO
 unfold rightV;rw [hC,hO];clear hE hC hO hs hR;have hb0:Below w.heap.size w ((w.alloc (.cells #[.string r.m,.string r.x,.int .i64 r.k,.slice fa r.fs.length fc,.bool r.ch,.slice ba r.body.length bc,.slice ta r.ts.length tc] 25)).alloc (.cells #[.int .i64 b.x0,.int .i64 b.x1,.int .i64 b.x2,.int .i64 b.x3,.int .i64 b.x4,.int .i64 b.x5,.int .i64 b.x6,.int .i64 b.x7,.bool b.ch,.bool b.od] 29)):=((Below.refl _ _).alloc (Nat.le_refl _) _).alloc (by simp) _
 have HA:=Lib.hid (((Rec.Bk.new w w.heap.size rfl 25 [.string r.m,.string r.x,.int .i64 r.k,.slice fa r.fs.length fc,.bool r.ch,.slice ba r.body.length bc,.slice ta r.ts.length tc]).alloc (.cells #[.int .i64 b.x0,.int .i64 b.x1,.int .i64 b.x2,.int .i64 b.x3,.int .i64 b.x4,.int .i64 b.x5,.int .i64 b.x6,.int .i64 b.x7,.bool b.ch,.bool b.od] 29)).drew 1)
 have HZ:=Lib.hid ((Rec.Bk.new (w.alloc (.cells #[.string r.m,.string r.x,.int .i64 r.k,.slice fa r.fs.length fc,.bool r.ch,.slice ba r.body.length bc,.slice ta r.ts.length tc] 25)) (w.heap.size+1) (by simp) 29 [.int .i64 b.x0,.int .i64 b.x1,.int .i64 b.x2,.int .i64 b.x3,.int .i64 b.x4,.int .i64 b.x5,.int .i64 b.x6,.int .i64 b.x7,.bool b.ch,.bool b.od]).drew 1)
 have HW:=Lib.hid (Base.below_drewN hb0 1);have HW0:=Lib.hid hb0
 have HA0:=Lib.hid ((Rec.Bk.new w w.heap.size rfl 25 [.string r.m,.string r.x,.int .i64 r.k,.slice fa r.fs.length fc,.bool r.ch,.slice ba r.body.length bc,.slice ta r.ts.length tc]).alloc (.cells #[.int .i64 b.x0,.int .i64 b.x1,.int .i64 b.x2,.int .i64 b.x3,.int .i64 b.x4,.int .i64 b.x5,.int .i64 b.x6,.int .i64 b.x7,.bool b.ch,.bool b.od] 29));clear hb0;go_enter Tryz.func29,Tryz.ntmps29;go_upto_region 1 with fail
 generalize (w.alloc (.cells #[.string r.m,.string r.x,.int .i64 r.k,.slice fa r.fs.length fc,.bool r.ch,.slice ba r.body.length bc,.slice ta r.ts.length tc] 25)).alloc (.cells #[.int .i64 b.x0,.int .i64 b.x1,.int .i64 b.x2,.int .i64 b.x3,.int .i64 b.x4,.int .i64 b.x5,.int .i64 b.x6,.int .i64 b.x7,.bool b.ch,.bool b.od] 29)=W at *;have HR0:=HA;have HB0:=HZ;clear HA HZ;refine Each.region_all 11 [9,10,11,12,8,13,14,15,5,6,7]
  [fun v _=>v=.agg #[.int .i64 b.x0,.int .i64 b.x1,.int .i64 b.x2,.int .i64 b.x3,.int .i64 b.x4,.int .i64 b.x5,.int .i64 b.x6,.int .i64 b.x7,.bool b.ch,.bool b.od],
    fun v _=>v=.agg #[.string r.m,.string r.x,.int .i64 r.k,.slice fa r.fs.length fc,.bool r.ch,.slice ba r.body.length bc,.slice ta r.ts.length tc],
    BtsF (putR r),
    TupF E CL OUT,
    TupF E CL OUT,
    SaidF OUT,
    fun v _=>v=.int .i64 (E:Int),
    fun v _=>v=.bool CL,
    SaidF OUT,
    fun v _=>v=.int .i64 (E:Int),
    fun v _=>v=.bool CL]
   (by kernel_rfl) (by kernel_rfl) (by kernel_rfl) (by kernel_rfl) (fun _ _ d _ _ h=>by cases d<;>exact h) (by rfl) (by rfl)
  ⟨Each.Lasts.eq _,Each.Lasts.eq _,(BtsF.lasts),(TupF.lasts),(TupF.lasts),(SaidF.lasts),Each.Lasts.eq _,Each.Lasts.eq _,(SaidF.lasts),Each.Lasts.eq _,Each.Lasts.eq _,trivial⟩ ?_ ?_
 ·refine ⟨?_,?_,?_,?_,?_,?_,?_,?_,?_,?_,?_,trivial⟩
  ·refine Each.fine rfl (fun ev w1 hR hb hh=>?_);clear hh;have e3:=hR.old 3 rfl;simp only [Array.getD_eq_getD_getElem?,List.getElem?_toArray,List.getElem?_cons_succ,List.getElem?_cons_zero,Option.getD_some] at e3;have q0:=(HB0.out.below hb).c 0 _ rfl;have q1:=(HB0.out.below hb).c 1 _ rfl;have q2:=(HB0.out.below hb).c 2 _ rfl;have q3:=(HB0.out.below hb).c 3 _ rfl;have q4:=(HB0.out.below hb).c 4 _ rfl;have q5:=(HB0.out.below hb).c 5 _ rfl;have q6:=(HB0.out.below hb).c 6 _ rfl;have q7:=(HB0.out.below hb).c 7 _ rfl;have q8:=(HB0.out.below hb).c 8 _ rfl;have q9:=(HB0.out.below hb).c 9 _ rfl;refine Each.Goes.same ?_;go_simp;try with_reducible rfl
  ·refine Each.fine rfl (fun ev w1 hR hb hh=>?_);clear hh;have e2:=hR.old 2 rfl;simp only [Array.getD_eq_getD_getElem?,List.getElem?_toArray,List.getElem?_cons_succ,List.getElem?_cons_zero,Option.getD_some] at e2;have q0:=(HR0.out.below hb).c 0 _ rfl;have q1:=(HR0.out.below hb).c 1 _ rfl;have q2:=(HR0.out.below hb).c 2 _ rfl;have q3:=(HR0.out.below hb).c 3 _ rfl;have q4:=(HR0.out.below hb).c 4 _ rfl;have q5:=(HR0.out.below hb).c 5 _ rfl;have q6:=(HR0.out.below hb).c 6 _ rfl;refine Each.Goes.same ?_;go_simp;try with_reducible rfl
  ·refine Each.fine rfl (fun ev w1 hR hb hh=>?_);have e10:(ev (.tmp 10)=.agg #[.string r.m,.string r.x,.int .i64 r.k,.slice fa r.fs.length fc,.bool r.ch,.slice ba r.body.length bc,.slice ta r.ts.length tc]):=hh.at 0;clear hh;have ef:=hR.func
   refine Each.Goes.enter 22 #[.agg #[.string r.m,.string r.x,.int .i64 r.k,.slice fa r.fs.length fc,.bool r.ch,.slice ba r.body.length bc,.slice ta r.ts.length tc]] (by go_simp) ((HP.out w1 (Base.below_step HW.out hb)).mono ?_);rintro e w2 ⟨v,rfl,hr,h2⟩;exact ⟨_,rfl,h2,bts_of_buf hr⟩
  ·refine Each.fine rfl (fun ev w1 hR hb hh=>?_);have e9:(ev (.tmp 9)=.agg #[.int .i64 b.x0,.int .i64 b.x1,.int .i64 b.x2,.int .i64 b.x3,.int .i64 b.x4,.int .i64 b.x5,.int .i64 b.x6,.int .i64 b.x7,.bool b.ch,.bool b.od]):=hh.at 0;have e11:((BtsF (putR r)) (ev (.tmp 11)) w1):=hh.at 1;clear hh;have ec:=hR.const;have ef:=hR.func;obtain ⟨a,c,e11x,hbt⟩:=e11
   refine Each.Goes.enter 49 #[.int .u32 0,.agg #[.int .i64 b.x0,.int .i64 b.x1,.int .i64 b.x2,.int .i64 b.x3,.int .i64 b.x4,.int .i64 b.x5,.int .i64 b.x6,.int .i64 b.x7,.bool b.ch,.bool b.od],.slice a (putR r).length c] (by go_simp) ((HRD.out w1 a c hbt).mono ?_);rintro e w2 ⟨o,rfl,hs,h2⟩;exact ⟨_,rfl,h2,⟨o,rfl,hs⟩⟩
  ·refine Each.fine rfl (fun ev w1 hR hb hh=>?_);have e12:((TupF E CL OUT) (ev (.tmp 12)) w1):=hh.at 0;clear hh;exact Each.Goes.value (ev (.tmp 12)) w1 (by go_simp) (Below.refl _ _) e12
  ·refine Each.fine rfl (fun ev w1 hR hb hh=>?_);have e8:((TupF E CL OUT) (ev (.tmp 8)) w1):=hh.at 0;clear hh;obtain ⟨o,e8x,hs⟩:=e8;exact Each.Goes.value o w1 (by go_simp) (Below.refl _ _) hs
  ·refine Each.fine rfl (fun ev w1 hR hb hh=>?_);have e8:((TupF E CL OUT) (ev (.tmp 8)) w1):=hh.at 0;clear hh;obtain ⟨o,e8x,hs⟩:=e8;refine Each.Goes.same ?_;go_simp;try with_reducible rfl
  ·refine Each.fine rfl (fun ev w1 hR hb hh=>?_);have e8:((TupF E CL OUT) (ev (.tmp 8)) w1):=hh.at 0;clear hh;obtain ⟨o,e8x,hs⟩:=e8;refine Each.Goes.same ?_;go_simp;try with_reducible rfl
  ·refine Each.fine rfl (fun ev w1 hR hb hh=>?_);have e13:((SaidF OUT) (ev (.tmp 13)) w1):=hh.at 0;clear hh;exact Each.Goes.value (ev (.tmp 13)) w1 (by go_simp) (Below.refl _ _) e13
  ·refine Each.fine rfl (fun ev w1 hR hb hh=>?_);have e14:(ev (.tmp 14)=.int .i64 (E:Int)):=hh.at 0;clear hh;refine Each.Goes.same ?_;go_simp;try with_reducible rfl
  ·refine Each.fine rfl (fun ev w1 hR hb hh=>?_);have e15:(ev (.tmp 15)=.bool CL):=hh.at 0;clear hh;refine Each.Goes.same ?_;go_simp;try with_reducible rfl
 intro g1 w2 hb2 hf;have z5:((SaidF OUT) (g1 5) w2):=hf.at 8;have z6:(g1 6=.int .i64 (E:Int)):=hf.at 9;have z7:(g1 7=.bool CL):=hf.at 10;clear hf;simp only [Each.putg,Act.put,List.setIfInBounds_toArray,List.set_cons_zero,List.set_cons_succ];rw [z6];rw [z7];obtain ⟨a5,c5,e5,hrc⟩:=said_recs z5;rw [e5];have HRC:=Lib.hid hrc
 have HB2:=Lib.hid (Base.below_step HW0.out hb2)
 have HA2:=Lib.hid (HA0.out.below hb2);clear z5 hrc hb2 HW HW0 HA0 HB0 HR0 HP HRD e5;cases CL with
 | false=>
   go_wp2_with fail;go_ret;exact ⟨by simp,HB2.out⟩
 | true=>
   have q0:=HA2.out.c 0 _ rfl;have q1:=HA2.out.c 1 _ rfl;have q2:=HA2.out.c 2 _ rfl;have q3:=HA2.out.c 3 _ rfl;have q4:=HA2.out.c 4 _ rfl;have q5:=HA2.out.c 5 _ rfl;have q6:=HA2.out.c 6 _ rfl
   go_wp2_with (first
    |(go_at_call 86;with_reducible refine HALL.out.mono ?_;rintro e w6 ⟨rfl,hb6⟩
      have HB6:=Lib.hid (Base.below_step (HB5.out.alloc HB5.out.size _) hb6);clear hb6)
    |(go_at_call 87;with_reducible refine (HWR.out _ HB2.out).mono ?_;rintro e w5 ⟨cs,rfl,hsz,hrd,hb5⟩
      obtain ⟨fa5,fc5,ba5,bc5,ta5,tc5,h5e,g1,g2,g3⟩:=hrd;obtain rfl:=Value.agg.inj h5e
      have HB5:=Lib.hid (Base.below_step HB2.out hb5)
      have HALL:=Lib.hid (Rec.all_any a5 _ c5 OUT _ 1 1 [wrR r] _ ((HRC.out.below hb5).below ((Below.refl _ _).alloc (Nat.le_refl _) _)) (recs_one (w:=w5) ⟨fa5,fc5,ba5,bc5,ta5,tc5,rfl,g1,g2,g3⟩ _ rfl 25) HFW.out.1 (by decide) HFI.out (by intro x hx;rw [List.mem_singleton.1 hx];exact HFW.out.2));clear hb5 h5e g1 g2 g3 hsz q0 q1 q2 q3 q4 q5 q6))
   go_ret;exact ⟨by simp,HB6.out⟩
end code
end Go.Proofs.YtldhlecknfomjaaGreatDoor.Can
namespace Go.Proofs.YtldhlecknfomjaaGreatDoor.Can
open Go.RowKit Base Txt Par Pg
def kr:Rec.R:=⟨⟨#[80,79,83,84]⟩,⟨#[47]⟩,0,[],false,[97,98],[]⟩
def er:Rec.R:=⟨⟨#[]⟩,⟨#[]⟩,0,[],false,[],[]⟩
theorem k_put:putR kr= [80,79,83,84,32,47,32,72,84,84,80,47,49,46,49,13,10,72,111,115,116,58,32,108,111,99,97,108,104,111,115,116,13,10,67,111,110,116,101,110,116,45,76,101,110,103,116,104,58,32,50,13,10,13,10,97,98]:=by decide +kernel
theorem k_len:(fieldsR kr).length=2:=by decide +kernel
theorem k_right:rightV usual kr=true:=by decide +kernel
theorem e_right:rightV usual er=false:=by decide +kernel
theorem k_ts:decide (kr.ts≠ [])=false:=by decide
theorem kr_sm:Sm kr:=⟨by decide,by decide,by decide,fun f hf=>(by cases hf),by decide,by decide,fun f hf=>(by cases hf)⟩
theorem er_sm:Sm er:=⟨by decide,by decide,by decide,fun f hf=>(by cases hf),by decide,by decide,fun f hf=>(by cases hf)⟩
def BufF (xs:List UInt8):Each.Fact:=fun v w=>∃B,By.Buf w B v xs
theorem BufF.lasts {xs:List UInt8}:Each.Lasts (BufF xs):=fun _ _ _ hb ⟨B,h⟩=>⟨B,h.below hb⟩
theorem er_reads (w:World):Rec.Reads w (.agg #[.string ⟨#[]⟩,.string ⟨#[]⟩,.int .i64 0,.slice none 0 0,.bool false,.slice none 0 0,.slice none 0 0]) er:=⟨none,0,none,0,none,0,rfl,Flds.nil _ _,⟨rfl,fun h=>absurd h (by decide)⟩,Flds.nil _ _⟩
section code
set_option maxHeartbeats 8000000
set_option maxRecDepth 100000
attribute [local go_sem] Base.some_undef
theorem conv_of_buf {w:World} {v:Value} {xs:List UInt8} (h:BufF xs v w):(convert 23 9 v).run Tryz.prog w=.ok (.string ⟨xs.toArray⟩) w:=by
 obtain ⟨B,g,cap,rfl, -, -, -,h4, -⟩:=h
 exact run_convert_bytes_back (P:=Tryz.prog) w 23 9 5 ⟨g,0,none⟩ cap xs Tryz.underlying23 Tryz.underlying5 Tryz.underlying9 (fun j hj=>by
  have e:(⟨g,0,none⟩:Addr).add j=⟨g,j,none⟩:=by unfold Addr.add;by_cases h:j=0<;>simp [h]
  rw [e];exact h4 j hj)
theorem known_any (w:World):Calls Tryz.prog 15 #[] w fun e w'=>e=.returned (.bool true)∧Below w.heap.size w w':=by
 have hb0:Below w.heap.size w ((w.alloc (.cells #[.int .u8 97,.int .u8 98] 5 (2,3))).alloc (.cells #[.string ⟨#[80,79,83,84]⟩,.string ⟨#[47]⟩,.int .i64 0,.slice none 0 0,.bool false,.slice (some ⟨w.heap.size,0,none⟩) 2 2,.slice none 0 0] 25)):=((Below.refl _ _).alloc (Nat.le_refl _) _).alloc (by simp) _
 have HA:=Lib.hid ((Rec.Bk.new (w.alloc (.cells #[.int .u8 97,.int .u8 98] 5 (2,3))) (w.heap.size+1) (by simp) 25 [.string ⟨#[80,79,83,84]⟩,.string ⟨#[47]⟩,.int .i64 0,.slice none 0 0,.bool false,.slice (some ⟨w.heap.size,0,none⟩) 2 2,.slice none 0 0]).drew 1);have hR:Rec.Reads ((w.alloc (.cells #[.int .u8 97,.int .u8 98] 5 (2,3))).alloc (.cells #[.string ⟨#[80,79,83,84]⟩,.string ⟨#[47]⟩,.int .i64 0,.slice none 0 0,.bool false,.slice (some ⟨w.heap.size,0,none⟩) 2 2,.slice none 0 0] 25)) (.agg #[.string ⟨#[80,79,83,84]⟩,.string ⟨#[47]⟩,.int .i64 0,.slice none 0 0,.bool false,.slice (some ⟨w.heap.size,0,none⟩) 2 2,.slice none 0 0]) kr:=⟨none,0,_,2,none,0,rfl,Flds.nil _ _,(Bts.lit (L:= []) (in_nil w) [97,98] #[.int .u8 97,.int .u8 98] rfl 5 (2,3)).nums.below ((Below.refl _ _).alloc (Nat.le_refl _) _),Flds.nil _ _⟩;have HR:=Lib.hid hR;have HW0:=Lib.hid hb0;have hcv:(convert 23 23 (.slice (some ⟨w.heap.size,0,none⟩) 2 2)).run Tryz.prog (w.alloc (.cells #[.int .u8 97,.int .u8 98] 5))=.ok (.slice (some ⟨w.heap.size,0,none⟩) 2 2) (w.alloc (.cells #[.int .u8 97,.int .u8 98] 5 (2,3))):=
  Lib.run_convert_bytes_const w 23 5 #[.int .u8 97,.int .u8 98] 2 2 Tryz.underlying23 Tryz.underlying5
 clear hb0 hR;go_enter Tryz.func15,Tryz.ntmps15;go_upto_region 2 with fail
 clear hcv;generalize (w.alloc (.cells #[.int .u8 97,.int .u8 98] 5 (2,3))).alloc (.cells #[.string ⟨#[80,79,83,84]⟩,.string ⟨#[47]⟩,.int .i64 0,.slice none 0 0,.bool false,.slice (some ⟨w.heap.size,0,none⟩) 2 2,.slice none 0 0] 25)=W at *;have HK0:=HA;have HRW:=HR;have HW:=HW0;clear HA HR HW0
 have HRD:=Lib.hid (HRW.out.below (Base.below_drewN (Below.refl W.heap.size W) 1));have HP:=Lib.hid fun wk hb=>put_any _ kr wk (HRD.out.below (w':=wk) hb) kr_sm;have HF:Hid (∀wk,Below (W.drewN 1).heap.size (W.drewN 1) wk→Calls Tryz.prog 25 #[.agg #[.string ⟨#[80,79,83,84]⟩,.string ⟨#[47]⟩,.int .i64 0,.slice none 0 0,.bool false,.slice (some ⟨w.heap.size,0,none⟩) 2 2,.slice none 0 0]] wk fun e w'=>∃a c,e=.returned (.slice a 2 c)∧Below wk.heap.size wk w'):=
  Lib.hid fun wk hb=>(fields_any _ kr wk (HRD.out.below hb) (by decide) (fun f hf=>(by cases hf)) (by decide)).mono (by rintro e w' ⟨a,c,h1, -,h3, -⟩;have e2:(fieldsV kr.m kr.fs kr.body kr.ts).length=2:=k_len;rw [e2] at h1;exact ⟨a,c,h1,h3⟩)
 have HC:Hid (∀wk,Below (W.drewN 1).heap.size (W.drewN 1) wk→Calls Tryz.prog 27 #[.agg #[.string ⟨#[80,79,83,84]⟩,.string ⟨#[47]⟩,.int .i64 0,.slice none 0 0,.bool false,.slice (some ⟨w.heap.size,0,none⟩) 2 2,.slice none 0 0]] wk fun e w'=>e=.returned (.bool false)∧Below wk.heap.size wk w'):=
  Lib.hid fun wk hb=>(chunked_any _ kr wk (HRD.out.below hb)).mono (by rw [k_ts];exact fun e w' h=>h)
 have HR1:Hid (∀wk,Below (W.drewN 1).heap.size (W.drewN 1) wk→Calls Tryz.prog 29 #[.agg #[.string ⟨#[80,79,83,84]⟩,.string ⟨#[47]⟩,.int .i64 0,.slice none 0 0,.bool false,.slice (some ⟨w.heap.size,0,none⟩) 2 2,.slice none 0 0],.agg #[.int .i64 1024,.int .i64 32,.int .i64 8192,.int .i64 65536,.int .i64 32,.int .i64 8,.int .i64 4,.int .i64 20,.bool true,.bool true]] wk fun e w'=>e=.returned (.bool true)∧Below wk.heap.size wk w'):=
  Lib.hid fun wk hb=>(right_any _ kr usual wk (HRD.out.below hb) kr_sm).mono (by rw [k_right];exact fun e w' h=>h)
 have HR2:Hid (∀wk,Calls Tryz.prog 29 #[.agg #[.string ⟨#[]⟩,.string ⟨#[]⟩,.int .i64 0,.slice none 0 0,.bool false,.slice none 0 0,.slice none 0 0],.agg #[.int .i64 1024,.int .i64 32,.int .i64 8192,.int .i64 65536,.int .i64 32,.int .i64 8,.int .i64 4,.int .i64 20,.bool true,.bool true]] wk fun e w'=>e=.returned (.bool false)∧Below wk.heap.size wk w'):=
  Lib.hid fun wk=>(right_any _ er usual wk (er_reads wk) er_sm).mono (by rw [e_right];exact fun e w' h=>h)
 clear HRW HRD;refine Each.region_all 27 [5,6,7,8,9,10,11,12,13,14,15,16,17,18,19,20,21,22,23,24,25,26,27,28,29,30,0]
  [fun v _=>v=.agg #[.string ⟨#[80,79,83,84]⟩,.string ⟨#[47]⟩,.int .i64 0,.slice none 0 0,.bool false,.slice (some ⟨w.heap.size,0,none⟩) 2 2,.slice none 0 0],
    BufF (putR kr),
    fun v _=>v=.string ⟨#[80,79,83,84,32,47,32,72,84,84,80,47,49,46,49,13,10,72,111,115,116,58,32,108,111,99,97,108,104,111,115,116,13,10,67,111,110,116,101,110,116,45,76,101,110,103,116,104,58,32,50,13,10,13,10,97,98]⟩,
    fun v _=>v=.bool true,
    fun v _=>v=.bool true,
    Each.When (true) true (fun v _=>v=.agg #[.string ⟨#[80,79,83,84]⟩,.string ⟨#[47]⟩,.int .i64 0,.slice none 0 0,.bool false,.slice (some ⟨w.heap.size,0,none⟩) 2 2,.slice none 0 0]),
    Each.When (true) true (fun v _=>∃a c,v=.slice a 2 c),
    Each.When (true) true (fun v _=>v=.int .i64 2),
    Each.When (true) true (fun v _=>v=.bool true),
    fun v _=>v=.bool true,
    fun v _=>v=.bool true,
    Each.When (true) true (fun v _=>v=.agg #[.string ⟨#[80,79,83,84]⟩,.string ⟨#[47]⟩,.int .i64 0,.slice none 0 0,.bool false,.slice (some ⟨w.heap.size,0,none⟩) 2 2,.slice none 0 0]),
    Each.When (true) true (fun v _=>v=.agg #[.int .i64 1024,.int .i64 32,.int .i64 8192,.int .i64 65536,.int .i64 32,.int .i64 8,.int .i64 4,.int .i64 20,.bool true,.bool true]),
    Each.When (true) true (fun v _=>v=.bool true),
    fun v _=>v=.bool true,
    fun v _=>v=.bool true,
    Each.When (true) true (fun v _=>v=.agg #[.string ⟨#[80,79,83,84]⟩,.string ⟨#[47]⟩,.int .i64 0,.slice none 0 0,.bool false,.slice (some ⟨w.heap.size,0,none⟩) 2 2,.slice none 0 0]),
    Each.When (true) true (fun v _=>v=.bool false),
    Each.When (true) true (fun v _=>v=.bool true),
    fun v _=>v=.bool true,
    fun v _=>v=.bool true,
    Each.When (true) true (fun v _=>v=.agg #[.string ⟨#[]⟩,.string ⟨#[]⟩,.int .i64 0,.slice none 0 0,.bool false,.slice none 0 0,.slice none 0 0]),
    Each.When (true) true (fun v _=>v=.agg #[.int .i64 1024,.int .i64 32,.int .i64 8192,.int .i64 65536,.int .i64 32,.int .i64 8,.int .i64 4,.int .i64 20,.bool true,.bool true]),
    Each.When (true) true (fun v _=>v=.bool false),
    Each.When (true) true (fun v _=>v=.bool true),
    fun v _=>v=.bool true,
    fun v _=>v=.bool true]
   (by kernel_rfl) (by kernel_rfl) (by kernel_rfl) (by kernel_rfl) (fun _ _ d _ _ h=>by cases d<;>exact h) (by rfl) (by rfl)
  ⟨Each.Lasts.eq _,(BufF.lasts),Each.Lasts.eq _,Each.Lasts.eq _,Each.Lasts.eq _,Each.Lasts.when (Each.Lasts.eq _),Each.Lasts.when (fun _ _ _ _ h=>h),Each.Lasts.when (Each.Lasts.eq _),Each.Lasts.when (Each.Lasts.eq _),Each.Lasts.eq _,Each.Lasts.eq _,Each.Lasts.when (Each.Lasts.eq _),Each.Lasts.when (Each.Lasts.eq _),Each.Lasts.when (Each.Lasts.eq _),Each.Lasts.eq _,Each.Lasts.eq _,Each.Lasts.when (Each.Lasts.eq _),Each.Lasts.when (Each.Lasts.eq _),Each.Lasts.when (Each.Lasts.eq _),Each.Lasts.eq _,Each.Lasts.eq _,Each.Lasts.when (Each.Lasts.eq _),Each.Lasts.when (Each.Lasts.eq _),Each.Lasts.when (Each.Lasts.eq _),Each.Lasts.when (Each.Lasts.eq _),Each.Lasts.eq _,Each.Lasts.eq _,trivial⟩ ?_ ?_
 ·refine ⟨?_,?_,?_,?_,?_,?_,?_,?_,?_,?_,?_,?_,?_,?_,?_,?_,?_,?_,?_,?_,?_,?_,?_,?_,?_,?_,?_,trivial⟩
  ·refine Each.fine rfl (fun ev w1 hR hb hh=>?_);clear hh;have e1:=hR.old 1 rfl;simp only [Array.getD_eq_getD_getElem?,List.getElem?_toArray,List.getElem?_cons_succ,List.getElem?_cons_zero,Option.getD_some] at e1;have q0:=(HK0.out.below hb).c 0 _ rfl;have q1:=(HK0.out.below hb).c 1 _ rfl;have q2:=(HK0.out.below hb).c 2 _ rfl;have q3:=(HK0.out.below hb).c 3 _ rfl;have q4:=(HK0.out.below hb).c 4 _ rfl;have q5:=(HK0.out.below hb).c 5 _ rfl;have q6:=(HK0.out.below hb).c 6 _ rfl;refine Each.Goes.same ?_;go_simp;try with_reducible rfl
  ·refine Each.fine rfl (fun ev w1 hR hb hh=>?_);have e5:(ev (.tmp 5)=.agg #[.string ⟨#[80,79,83,84]⟩,.string ⟨#[47]⟩,.int .i64 0,.slice none 0 0,.bool false,.slice (some ⟨w.heap.size,0,none⟩) 2 2,.slice none 0 0]):=hh.at 0;clear hh;have ef:=hR.func
   refine Each.Goes.enter 22 #[.agg #[.string ⟨#[80,79,83,84]⟩,.string ⟨#[47]⟩,.int .i64 0,.slice none 0 0,.bool false,.slice (some ⟨w.heap.size,0,none⟩) 2 2,.slice none 0 0]] (by go_simp) ((HP.out w1 hb).mono ?_);rintro e w2 ⟨v,rfl,hr,h2⟩;exact ⟨_,rfl,h2,⟨_,hr⟩⟩
  ·refine Each.fine rfl (fun ev w1 hR hb hh=>?_);have e6:((BufF (putR kr)) (ev (.tmp 6)) w1):=hh.at 0;clear hh;have hcv:=conv_of_buf e6;rw [k_put] at hcv;refine Each.Goes.same ?_;go_simp;try with_reducible rfl
  ·refine Each.fine rfl (fun ev w1 hR hb hh=>?_);have e7:(ev (.tmp 7)=.string ⟨#[80,79,83,84,32,47,32,72,84,84,80,47,49,46,49,13,10,72,111,115,116,58,32,108,111,99,97,108,104,111,115,116,13,10,67,111,110,116,101,110,116,45,76,101,110,103,116,104,58,32,50,13,10,13,10,97,98]⟩):=hh.at 0;clear hh;have ec:=hR.const;refine Each.Goes.same ?_;go_simp
   all_goals (first | done | with_reducible rfl | decide)
  ·refine Each.fine rfl (fun ev w1 hR hb hh=>?_);have e8:(ev (.tmp 8)=.bool true):=hh.at 0;clear hh;refine Each.Goes.same ?_;go_simp;try with_reducible rfl
  ·refine Each.fine_when 4 9 rfl rfl (fun ev w1 hh=>?_) (fun hg ev w1 hR hb hh=>?_)
   ·exact hh.at 0
   ·clear hh;have e1:=hR.old 1 rfl;simp only [Array.getD_eq_getD_getElem?,List.getElem?_toArray,List.getElem?_cons_succ,List.getElem?_cons_zero,Option.getD_some] at e1;have q0:=(HK0.out.below hb).c 0 _ rfl;have q1:=(HK0.out.below hb).c 1 _ rfl;have q2:=(HK0.out.below hb).c 2 _ rfl;have q3:=(HK0.out.below hb).c 3 _ rfl;have q4:=(HK0.out.below hb).c 4 _ rfl;have q5:=(HK0.out.below hb).c 5 _ rfl;have q6:=(HK0.out.below hb).c 6 _ rfl;refine Each.Goes.same ?_;go_simp;try with_reducible rfl
  ·refine Each.fine_when 4 9 rfl rfl (fun ev w1 hh=>?_) (fun hg ev w1 hR hb hh=>?_)
   ·exact hh.at 1
   ·have e10:=(show ((true)=true→ev (.tmp 10)=.agg #[.string ⟨#[80,79,83,84]⟩,.string ⟨#[47]⟩,.int .i64 0,.slice none 0 0,.bool false,.slice (some ⟨w.heap.size,0,none⟩) 2 2,.slice none 0 0]) from hh.at 0) hg;clear hh;have ef:=hR.func
    refine Each.Goes.enter 25 #[.agg #[.string ⟨#[80,79,83,84]⟩,.string ⟨#[47]⟩,.int .i64 0,.slice none 0 0,.bool false,.slice (some ⟨w.heap.size,0,none⟩) 2 2,.slice none 0 0]] (by go_simp) ((HF.out w1 hb).mono ?_);rintro e w2 ⟨a,c,rfl,h2⟩;exact ⟨_,rfl,h2,⟨a,c,rfl⟩⟩
  ·refine Each.fine_when 4 9 rfl rfl (fun ev w1 hh=>?_) (fun hg ev w1 hR hb hh=>?_)
   ·exact hh.at 1
   ·have e11:=(show ((true)=true→(fun v _=>∃a c,v=.slice a 2 c) (ev (.tmp 11)) w1) from hh.at 0) hg;clear hh;obtain ⟨a,c,e11x⟩:=e11;refine Each.Goes.same ?_;go_simp;try with_reducible rfl
  ·refine Each.fine_when 4 9 rfl rfl (fun ev w1 hh=>?_) (fun hg ev w1 hR hb hh=>?_)
   ·exact hh.at 1
   ·have e12:=(show ((true)=true→ev (.tmp 12)=.int .i64 2) from hh.at 0) hg;clear hh;have ec:=hR.const;refine Each.Goes.same ?_;go_simp
    all_goals (first | done | with_reducible rfl | decide)
  ·refine Each.fine rfl (fun ev w1 hR hb hh=>?_);have e9:(ev (.tmp 9)=.bool true):=hh.at 0;have h13:((true)=true→ev (.tmp 13)=.bool true):=hh.at 1;clear hh;have ec:=hR.const;refine Each.Goes.same ?_;have e13:=h13 rfl;go_simp;try with_reducible rfl
  ·refine Each.fine rfl (fun ev w1 hR hb hh=>?_);have e14:(ev (.tmp 14)=.bool true):=hh.at 0;clear hh;refine Each.Goes.same ?_;go_simp;try with_reducible rfl
  ·refine Each.fine_when 10 15 rfl rfl (fun ev w1 hh=>?_) (fun hg ev w1 hR hb hh=>?_)
   ·exact hh.at 0
   ·clear hh;have e1:=hR.old 1 rfl;simp only [Array.getD_eq_getD_getElem?,List.getElem?_toArray,List.getElem?_cons_succ,List.getElem?_cons_zero,Option.getD_some] at e1;have q0:=(HK0.out.below hb).c 0 _ rfl;have q1:=(HK0.out.below hb).c 1 _ rfl;have q2:=(HK0.out.below hb).c 2 _ rfl;have q3:=(HK0.out.below hb).c 3 _ rfl;have q4:=(HK0.out.below hb).c 4 _ rfl;have q5:=(HK0.out.below hb).c 5 _ rfl;have q6:=(HK0.out.below hb).c 6 _ rfl;refine Each.Goes.same ?_;go_simp;try with_reducible rfl
  ·refine Each.fine_when 10 15 rfl rfl (fun ev w1 hh=>?_) (fun hg ev w1 hR hb hh=>?_)
   ·exact hh.at 0
   ·clear hh;have ef:=hR.func
    refine Each.Goes.enter 20 #[] (by go_simp) ((Bnd.rusual_any w1).mono ?_);rintro r w2 ⟨rfl,h2⟩;exact ⟨_,rfl,h2,rfl⟩
  ·refine Each.fine_when 10 15 rfl rfl (fun ev w1 hh=>?_) (fun hg ev w1 hR hb hh=>?_)
   ·exact hh.at 3
   ·have e16:=(show ((true)=true→ev (.tmp 16)=.agg #[.string ⟨#[80,79,83,84]⟩,.string ⟨#[47]⟩,.int .i64 0,.slice none 0 0,.bool false,.slice (some ⟨w.heap.size,0,none⟩) 2 2,.slice none 0 0]) from hh.at 0) hg;have e17:=(show ((true)=true→ev (.tmp 17)=.agg #[.int .i64 1024,.int .i64 32,.int .i64 8192,.int .i64 65536,.int .i64 32,.int .i64 8,.int .i64 4,.int .i64 20,.bool true,.bool true]) from hh.at 1) hg;clear hh;have ef:=hR.func
    refine Each.Goes.enter 29 #[.agg #[.string ⟨#[80,79,83,84]⟩,.string ⟨#[47]⟩,.int .i64 0,.slice none 0 0,.bool false,.slice (some ⟨w.heap.size,0,none⟩) 2 2,.slice none 0 0],.agg #[.int .i64 1024,.int .i64 32,.int .i64 8192,.int .i64 65536,.int .i64 32,.int .i64 8,.int .i64 4,.int .i64 20,.bool true,.bool true]] (by go_simp) ((HR1.out w1 hb).mono ?_);rintro r w2 ⟨rfl,h2⟩;exact ⟨_,rfl,h2,rfl⟩
  ·refine Each.fine rfl (fun ev w1 hR hb hh=>?_);have e15:(ev (.tmp 15)=.bool true):=hh.at 0;have h18:((true)=true→ev (.tmp 18)=.bool true):=hh.at 1;clear hh;have ec:=hR.const;refine Each.Goes.same ?_;have e18:=h18 rfl;go_simp;try with_reducible rfl
  ·refine Each.fine rfl (fun ev w1 hR hb hh=>?_);have e19:(ev (.tmp 19)=.bool true):=hh.at 0;clear hh;refine Each.Goes.same ?_;go_simp;try with_reducible rfl
  ·refine Each.fine_when 15 20 rfl rfl (fun ev w1 hh=>?_) (fun hg ev w1 hR hb hh=>?_)
   ·exact hh.at 0
   ·clear hh;have e1:=hR.old 1 rfl;simp only [Array.getD_eq_getD_getElem?,List.getElem?_toArray,List.getElem?_cons_succ,List.getElem?_cons_zero,Option.getD_some] at e1;have q0:=(HK0.out.below hb).c 0 _ rfl;have q1:=(HK0.out.below hb).c 1 _ rfl;have q2:=(HK0.out.below hb).c 2 _ rfl;have q3:=(HK0.out.below hb).c 3 _ rfl;have q4:=(HK0.out.below hb).c 4 _ rfl;have q5:=(HK0.out.below hb).c 5 _ rfl;have q6:=(HK0.out.below hb).c 6 _ rfl;refine Each.Goes.same ?_;go_simp;try with_reducible rfl
  ·refine Each.fine_when 15 20 rfl rfl (fun ev w1 hh=>?_) (fun hg ev w1 hR hb hh=>?_)
   ·exact hh.at 1
   ·have e21:=(show ((true)=true→ev (.tmp 21)=.agg #[.string ⟨#[80,79,83,84]⟩,.string ⟨#[47]⟩,.int .i64 0,.slice none 0 0,.bool false,.slice (some ⟨w.heap.size,0,none⟩) 2 2,.slice none 0 0]) from hh.at 0) hg;clear hh;have ef:=hR.func
    refine Each.Goes.enter 27 #[.agg #[.string ⟨#[80,79,83,84]⟩,.string ⟨#[47]⟩,.int .i64 0,.slice none 0 0,.bool false,.slice (some ⟨w.heap.size,0,none⟩) 2 2,.slice none 0 0]] (by go_simp) ((HC.out w1 hb).mono ?_);rintro r w2 ⟨rfl,h2⟩;exact ⟨_,rfl,h2,rfl⟩
  ·refine Each.fine_when 15 20 rfl rfl (fun ev w1 hh=>?_) (fun hg ev w1 hR hb hh=>?_)
   ·exact hh.at 1
   ·have e22:=(show ((true)=true→ev (.tmp 22)=.bool false) from hh.at 0) hg;clear hh;refine Each.Goes.same ?_;go_simp;try with_reducible rfl
  ·refine Each.fine rfl (fun ev w1 hR hb hh=>?_);have e20:(ev (.tmp 20)=.bool true):=hh.at 0;have h23:((true)=true→ev (.tmp 23)=.bool true):=hh.at 1;clear hh;have ec:=hR.const;refine Each.Goes.same ?_;have e23:=h23 rfl;go_simp;try with_reducible rfl
  ·refine Each.fine rfl (fun ev w1 hR hb hh=>?_);have e24:(ev (.tmp 24)=.bool true):=hh.at 0;clear hh;refine Each.Goes.same ?_;go_simp;try with_reducible rfl
  ·refine Each.fine_when 20 25 rfl rfl (fun ev w1 hh=>?_) (fun hg ev w1 hR hb hh=>?_)
   ·exact hh.at 0
   ·clear hh;refine Each.Goes.same ?_;go_simp;try with_reducible rfl
  ·refine Each.fine_when 20 25 rfl rfl (fun ev w1 hh=>?_) (fun hg ev w1 hR hb hh=>?_)
   ·exact hh.at 0
   ·clear hh;have ef:=hR.func
    refine Each.Goes.enter 20 #[] (by go_simp) ((Bnd.rusual_any w1).mono ?_);rintro r w2 ⟨rfl,h2⟩;exact ⟨_,rfl,h2,rfl⟩
  ·refine Each.fine_when 20 25 rfl rfl (fun ev w1 hh=>?_) (fun hg ev w1 hR hb hh=>?_)
   ·exact hh.at 3
   ·have e26:=(show ((true)=true→ev (.tmp 26)=.agg #[.string ⟨#[]⟩,.string ⟨#[]⟩,.int .i64 0,.slice none 0 0,.bool false,.slice none 0 0,.slice none 0 0]) from hh.at 0) hg;have e27:=(show ((true)=true→ev (.tmp 27)=.agg #[.int .i64 1024,.int .i64 32,.int .i64 8192,.int .i64 65536,.int .i64 32,.int .i64 8,.int .i64 4,.int .i64 20,.bool true,.bool true]) from hh.at 1) hg;clear hh;have ef:=hR.func
    refine Each.Goes.enter 29 #[.agg #[.string ⟨#[]⟩,.string ⟨#[]⟩,.int .i64 0,.slice none 0 0,.bool false,.slice none 0 0,.slice none 0 0],.agg #[.int .i64 1024,.int .i64 32,.int .i64 8192,.int .i64 65536,.int .i64 32,.int .i64 8,.int .i64 4,.int .i64 20,.bool true,.bool true]] (by go_simp) ((HR2.out w1).mono ?_);rintro r w2 ⟨rfl,h2⟩;exact ⟨_,rfl,h2,rfl⟩
  ·refine Each.fine_when 20 25 rfl rfl (fun ev w1 hh=>?_) (fun hg ev w1 hR hb hh=>?_)
   ·exact hh.at 1
   ·have e28:=(show ((true)=true→ev (.tmp 28)=.bool false) from hh.at 0) hg;clear hh;refine Each.Goes.same ?_;go_simp;try with_reducible rfl
  ·refine Each.fine rfl (fun ev w1 hR hb hh=>?_);have e25:(ev (.tmp 25)=.bool true):=hh.at 0;have h29:((true)=true→ev (.tmp 29)=.bool true):=hh.at 1;clear hh;have ec:=hR.const;refine Each.Goes.same ?_;have e29:=h29 rfl;go_simp;try with_reducible rfl
  ·refine Each.fine rfl (fun ev w1 hR hb hh=>?_);have e30:(ev (.tmp 30)=.bool true):=hh.at 0;clear hh;refine Each.Goes.same ?_;go_simp;try with_reducible rfl
 intro g1 w2 hb2 hf;have z0:(g1 0=.bool true):=hf.at 26;clear hf;simp only [Each.putg,Act.put,List.setIfInBounds_toArray,List.set_cons_zero,List.set_cons_succ];rw [z0];go_wp2_with fail;go_ret;exact ⟨rfl,Base.below_step HW.out hb2⟩
end code
end Go.Proofs.YtldhlecknfomjaaGreatDoor.Can
namespace Go.Proofs.YtldhlecknfomjaaGreatDoor.Hp
open Go.RowKit Base Txt
def small (f:Fld):Bool:=decide (f.1.size+f.2.size≤120)
def fieldsOk (fs:List Fld):Bool:=decide (fs.length≤20)&&fs.all small
section code
set_option maxHeartbeats 4000000
set_option maxRecDepth 100000
attribute [local go_sem] Base.some_undef
end code
end Go.Proofs.YtldhlecknfomjaaGreatDoor.Hp
namespace Go.Proofs.YtldhlecknfomjaaGreatDoor.Rec
open Go.RowKit Base Txt
structure Small (r:R):Prop where
 m:r.m.size≤1000
 x:r.x.size≤1000
 fs:r.fs.length≤100
 f:∀f∈r.fs,f.1.size≤1000∧f.2.size≤1000
 body:r.body.length≤1000
 ts:r.ts.length≤100
 t:∀f∈r.ts,f.1.size≤1000∧f.2.size≤1000
def bent (q:Nat) (s:ByteArray) (r:R):R:=
 match q with
 | 0=>{r with m:=r.m ++⟨#[88]⟩}
 | 1=>{r with x:=r.x ++⟨#[120]⟩}
 | 2=>{r with k:=wrap64 (1-r.k)}
 | 3=>{r with fs:=r.fs ++ [(connN,s)]}
 | 4=>{r with ch:=!r.ch}
 | 5=>{r with body:=r.body ++ [120]}
 | _=>{r with ts:=r.ts ++ [(⟨#[90]⟩,⟨#[]⟩)]}
def recordOk (r:R):Bool:=decide (r.m.size+r.x.size+r.body.length<300)&&(Hp.fieldsOk r.fs&&Hp.fieldsOk r.ts)
structure Came (r:R):Prop where
 m:r.m.size≤140737488351232
 x:r.x.size≤140737488351232
 b:r.body.length≤140737488351232
 fs:r.fs.length≤maxLen
 f:∀f∈r.fs,f.1.size≤140737488351232∧f.2.size≤140737488351232
 ts:r.ts.length≤maxLen
 t:∀f∈r.ts,f.1.size≤140737488351232∧f.2.size≤140737488351232
section code
set_option maxHeartbeats 2000000
attribute [local go_sem] Base.some_undef
end code
end Go.Proofs.YtldhlecknfomjaaGreatDoor.Rec
namespace Go.Proofs.YtldhlecknfomjaaGreatDoor.Rec
open Go.RowKit Base Txt
theorem Bk.grown {w w':World} {g:Nat} {vs:List Value} {row:Option Nat} (h:Bk w g vs) (hg:w.grownBy w' row) (hne:some g≠row):Bk w' g vs:=by
 have hb:=hg.block g h.lt hne;refine ⟨fun k v hv=>?_,fun k hk=>?_,Nat.lt_of_lt_of_le h.lt hg.size⟩
 ·have:=h.c k v hv;unfold World.cell? at this ⊢;simp only [hb];exact this
 ·have:=h.z k hk;unfold World.frozen? at this ⊢;simp only [hb];exact this
theorem lit_lie (w:World) (g:Nat) (hg:g=w.heap.size) (t:TypeId) (vs:List Value) (n:Nat):0<n→∃b off,(some ⟨g,0,none⟩:Option Addr)=some ⟨b,off,none⟩∧∀j u,vs[j]?=some u→(w.alloc (.cells vs.toArray t)).cell? ⟨b,off+j,none⟩=some u:=by intro _;exact ⟨g,0,rfl,fun j u hu=>by rw [Nat.zero_add];exact (Bk.new w g hg t vs).c j u hu⟩
section code
set_option maxHeartbeats 2000000
set_option maxRecDepth 10000
end code
end Go.Proofs.YtldhlecknfomjaaGreatDoor.Rec
