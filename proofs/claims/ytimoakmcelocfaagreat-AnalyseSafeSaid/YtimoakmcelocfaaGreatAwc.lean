import Derived.Test.YtimoakmcelocfaaGreatAwb
namespace Go.Proofs.YtimoakmcelocfaaGreat.Wit
open Go.RowKit Base Txt Mem Par Each
def textOf (s:Option ByteArray) (ch ti:Bool):ByteArray:=match s with
 | some s=>s
 | none=>oldW ch ti
def W (c:Nat) (ch ti:Bool):ByteArray:=textOf (texts[c]?.getD none) ch ti
abbrev bndV (b:Bd):Value:=.agg #[.int .i64 b.x0,.int .i64 b.x1,.int .i64 b.x2,.int .i64 b.x3,.int .i64 b.x4,.int .i64 b.x5,.int .i64 b.x6,.int .i64 b.x7,.bool b.ch,.bool b.od]
def may (c:Int) (p:Nat) (b:Bd):Bool:=decide (p<1073741824)&&(b.right&&(Qk.has p c&&Qk.needs c p b.ch b.od))
theorem run_index_fn {P:Program} {t e:TypeId} {n:Nat} {cs:Array Value} {ti:TypeInfo} (h:P.underlying t=some (.array n e)) (hd:∀w:World,(isAgg e).run P w=.ok false w) (hi:P.info? e=some ti) (hs:P.cellsOf e=1)
 (k:IntKind) (i:Nat) (hlt:i<n) (v:Value) (hv:cs[i]?=some v) (w:World):(Instr.index t (.agg cs) (.int k i)).run P w=.ok v w:=by
 simp [Instr.index,run_underlying h,asIntOf,hlt,run_sizeOf w hi,hs,part,hd,hv,go_sem]
theorem bstep {B:Nat} {w w1 w2:World} (hB:w.heap.size=B) (h:Below B w w1) (hb:Below w1.heap.size w1 w2):Below B w w2:=h.trans (hb.mono (by have:=h.size;omega))
structure Said (w w':World) (v:Value) (S:ByteArray):Prop where
 v:∃(g c:Nat),v=.slice (some ⟨g,0,none⟩) S.size c∧S.size≤c∧Pg.Bts [] w' (some ⟨g,0,none⟩) S.data.toList∧w.heap.size≤g
section code
set_option maxHeartbeats 8000000
set_option maxRecDepth 20000
attribute [local go_sem] Base.some_undef
theorem of_any (c:Int) (p:Nat) (hp:p<4294967296) (b:Bd) (w:World):Calls Tryz.prog 29 #[.int .i64 c,.int .u32 (p:Int),bndV b] w fun e w'=>
 ∃v,e=.returned (.tuple #[v,.bool (may c p b)])∧Below w.heap.size w w'∧(if may c p b=true then Said w w' v (W c.toNat b.ch (Qk.has p 19)) else v=.slice none 0 0):=by
 have H1:=Lib.hid (fun w=>Qk.right_any p hp w)
 have H2:=Lib.hid (fun w=>show Calls Tryz.prog 41 #[bndV b] w fun e w'=>e=.returned (.bool b.right)∧Below w.heap.size w w' from Bnd.right_any b.x0 b.x1 b.x2 b.x3 b.x4 b.x5 b.x6 b.x7 b.ch b.od w)
 have H3:=Lib.hid (fun w=>Qk.has_any p hp c w)
 have H4:=Lib.hid (fun w=>show Calls Tryz.prog 31 #[.int .i64 c,.int .u32 (p:Int),bndV b] w fun e w'=>e=.returned (.bool (Qk.needs c p b.ch b.od))∧Below w.heap.size w w' from Qk.needs_any c p hp b.x0 b.x1 b.x2 b.x3 b.x4 b.x5 b.x6 b.x7 b.ch b.od w)
 have HK:Hid (Qk.has p c=true→0≤c∧c<30):=Lib.hid (fun h=>(Qk.known_iff c).1 (by unfold Qk.has at h;rw [Bool.and_eq_true] at h;exact h.1));unfold may;obtain ⟨a1,ha1⟩:∃a,decide (p<1073741824)=a:=⟨_,rfl⟩;obtain ⟨a2,ha2⟩:∃a,b.right=a:=⟨_,rfl⟩;obtain ⟨a4,ha4⟩:∃a,Qk.needs c p b.ch b.od=a:=⟨_,rfl⟩;rw [ha1] at H1 ⊢;rw [ha2] at H2 ⊢;rw [ha4] at H4 ⊢;obtain ⟨a3,ha3⟩:∃a,Qk.has p c=a:=⟨_,rfl⟩;rw [ha3] at H3 HK ⊢;clear ha1 ha2 ha3 ha4
 have HB0:=Lib.hid (((Below.refl _ _).alloc (Nat.le_refl _) (.cells #[.int .i64 b.x0,.int .i64 b.x1,.int .i64 b.x2,.int .i64 b.x3,.int .i64 b.x4,.int .i64 b.x5,.int .i64 b.x6,.int .i64 b.x7,.bool b.ch,.bool b.od] 24)):Below w.heap.size w _)
 have HZ0:=Lib.hid (Rec.Bk.new w w.heap.size rfl 24 [.int .i64 b.x0,.int .i64 b.x1,.int .i64 b.x2,.int .i64 b.x3,.int .i64 b.x4,.int .i64 b.x5,.int .i64 b.x6,.int .i64 b.x7,.bool b.ch,.bool b.od]);by_cases hall:(a1&&(a2&&(a3&&a4)))=true
 ·obtain ⟨rfl,rfl,rfl,rfl⟩:a1=true∧a2=true∧a3=true∧a4=true:=by simpa using hall
  clear hall;obtain ⟨hc0,hc1⟩:=HK.out rfl;obtain ⟨c,rfl⟩:∃n:Nat,c=n:=⟨c.toNat,by omega⟩
  have HC:=Lib.hid (show c<30 by omega);obtain ⟨s0,hs0⟩:∃s0,texts[c]?=some s0:=⟨_,List.getElem?_eq_getElem (show c<texts.length from HC.out)⟩;have hW:W c b.ch (Qk.has p 19)=textOf s0 b.ch (Qk.has p 19):=by unfold W;rw [hs0];rfl
  obtain ⟨S,hS⟩:∃S,textOf s0 b.ch (Qk.has p 19)=S:=⟨_,rfl⟩;have HS0:=Lib.hid hs0;have HSS:=Lib.hid hS;have HP:=Lib.hid hp;have hW2:W ((c:Int)).toNat b.ch (Qk.has p 19)=S:=by rw [Int.toNat_natCast,hW,hS]
  simp only [Bool.and_self,if_true,hW2];clear hs0 hW hS hW2 hc0 hc1 HK;obtain ⟨ti,hi⟩:∃ti,Tryz.prog.info? 77=some ti:=by
   have:(Tryz.prog.info? 77).isSome=true:=by kernel_rfl
   exact Option.isSome_iff_exists.1 this
  have HI:=Lib.hid hi;clear hi;have x0:=HZ0.out.c 0 _ rfl;have x1:=HZ0.out.c 1 _ rfl;have x2:=HZ0.out.c 2 _ rfl;have x3:=HZ0.out.c 3 _ rfl;have x4:=HZ0.out.c 4 _ rfl;have x5:=HZ0.out.c 5 _ rfl;have x6:=HZ0.out.c 6 _ rfl;have x7:=HZ0.out.c 7 _ rfl;have x8:=HZ0.out.c 8 _ rfl;have x9:=HZ0.out.c 9 _ rfl;go_enter Tryz.func29,Tryz.ntmps29;go_upto_region 1 with fail
  generalize w.alloc (.cells #[.int .i64 b.x0,.int .i64 b.x1,.int .i64 b.x2,.int .i64 b.x3,.int .i64 b.x4,.int .i64 b.x5,.int .i64 b.x6,.int .i64 b.x7,.bool b.ch,.bool b.od] 24)=W0 at *;generalize hgB:w.heap.size=g at *;have HGB:=Lib.hid hgB;clear hgB
  go_upto_region 3 with (first
   |(go_at_call 31;with_reducible refine (H4.out _).mono ?_;rintro r w3 ⟨rfl,hb3⟩;have HB3:=Lib.hid hb3;clear hb3)
   |(go_at_call 42;with_reducible refine (H3.out _).mono ?_;rintro r w2 ⟨rfl,hw2⟩;rw [hw2];clear hw2)
   |(go_at_call 41;with_reducible refine (H2.out _).mono ?_;rintro r w2 ⟨rfl,hb2⟩;have HB2:=Lib.hid hb2;have HZ2:=Lib.hid (HZ0.out.below hb2)
     have y0:=HZ2.out.c 0 _ rfl;have y1:=HZ2.out.c 1 _ rfl;have y2:=HZ2.out.c 2 _ rfl;have y3:=HZ2.out.c 3 _ rfl;have y4:=HZ2.out.c 4 _ rfl;have y5:=HZ2.out.c 5 _ rfl;have y6:=HZ2.out.c 6 _ rfl;have y7:=HZ2.out.c 7 _ rfl;have y8:=HZ2.out.c 8 _ rfl;have y9:=HZ2.out.c 9 _ rfl;clear hb2)
   |(go_at_call 40;with_reducible refine (H1.out _).mono ?_;rintro r w1 ⟨rfl,hw1⟩;rw [hw1];clear hw1))
  have HZ:=Lib.hid ((HZ2.out.below HB3.out).below (Base.below_drewN (Below.refl w3.heap.size w3) 1))
  have HBB:=Lib.hid (bstep HGB.out (bstep HGB.out HB0.out HB2.out) HB3.out);obtain ⟨B0,hB0⟩:∃B0,w3.heap.size=B0:=⟨_,rfl⟩
  have HB0:=Lib.hid (show B0≤(w3.drewN 1).heap.size by rw [←hB0];simp)
  have HBB2:=Lib.hid (show w.heap.size≤B0 by rw [←hB0];exact HBB.out.size);clear x0 x1 x2 x3 x4 x5 x6 x7 x8 x9 y0 y1 y2 y3 y4 y5 y6 y7 y8 y9 hB0;refine Each.region_all 9 [29,30,31,32,33,34,35,6,7]
   [fun v w=>∃vs:List Value,v=.agg vs.toArray∧Each2 w vs texts,
     fun v _=>v=.int .i64 (c:Int),
     fun v w=>IsMk w v s0,
     fun v _=>v=.int .u32 (p:Int),
     fun v _=>v=.agg #[.int .i64 b.x0,.int .i64 b.x1,.int .i64 b.x2,.int .i64 b.x3,.int .i64 b.x4,.int .i64 b.x5,.int .i64 b.x6,.int .i64 b.x7,.bool b.ch,.bool b.od],
     fun v _=>v=.string S,
     fun v w=>∃(g c:Nat),v=.slice (some ⟨g,0,none⟩) S.size c∧S.size≤c∧Pg.Bts [] w (some ⟨g,0,none⟩) S.data.toList∧B0≤g,
     fun v w=>∃(g c:Nat),v=.slice (some ⟨g,0,none⟩) S.size c∧S.size≤c∧Pg.Bts [] w (some ⟨g,0,none⟩) S.data.toList∧B0≤g,
     fun v _=>v=.bool true]
    (by kernel_rfl) (by kernel_rfl) (by kernel_rfl) (by kernel_rfl) (fun _ _ d _ _ h=>by cases d<;>exact h) (by rfl) (by rfl)
   ⟨((fun _ _ _ hb h=>by obtain ⟨vs,e,h⟩:=h;exact ⟨vs,e,h.below hb⟩)),Each.Lasts.eq _,((fun _ _ _ hb h=>IsMk.below h hb)),Each.Lasts.eq _,Each.Lasts.eq _,Each.Lasts.eq _,((fun _ _ _ hb h=>by obtain ⟨g,c,e,h1,h2,h3⟩:=h;exact ⟨g,c,e,h1,h2.step (Step.of_below hb),h3⟩)),((fun _ _ _ hb h=>by obtain ⟨g,c,e,h1,h2,h3⟩:=h;exact ⟨g,c,e,h1,h2.step (Step.of_below hb),h3⟩)),Each.Lasts.eq _,trivial⟩ ?_ ?_
  ·refine ⟨?_,?_,?_,?_,?_,?_,?_,?_,?_,trivial⟩
   ·refine Each.fine rfl (fun ev w1 hR hb hh=>?_);clear hh;have ef:=hR.func
    refine Each.Goes.enter 43 #[] (by go_simp) ((makers_any w1).mono ?_);rintro r w2 ⟨vs,rfl,hv,hb2⟩;exact ⟨_,rfl,hb2,vs,rfl,hv⟩
   ·refine Each.fine rfl (fun ev w1 hR hb hh=>?_);clear hh;have e0:=hR.old 0 rfl;simp only [Array.getD_eq_getD_getElem?,List.getElem?_toArray,List.getElem?_cons_zero,Option.getD_some] at e0;refine Each.Goes.same ?_;go_simp;try with_reducible rfl
   ·refine Each.fine rfl (fun ev w1 hR hb hh=>?_);have e29:((fun v w=>∃vs:List Value,v=.agg vs.toArray∧Each2 w vs texts) (ev (.tmp 29)) w1):=hh.at 0;have e30:(ev (.tmp 30)=.int .i64 (c:Int)):=hh.at 1;clear hh;obtain ⟨vs,e29,hv⟩:=e29;obtain ⟨hl,hv⟩:=hv.at;obtain ⟨v,s,h1,h2,h3⟩:=hv c HC.out
    have es:s=s0:=Option.some.inj (h2.symm.trans HS0.out);subst es;have hcl:c<vs.length:=by rw [hl];exact HC.out
    have h4:vs[c]=v:=by rw [List.getElem?_eq_getElem hcl] at h1;exact Option.some.inj h1
    refine Each.Goes.value v w1 ?_ (Below.refl _ _) h3;have hm:∃f l,v=.func f #[] l:=by
     cases s with
     | none=>exact ⟨_,_,h3⟩
     | some s=>obtain ⟨g,e, -⟩:=h3;exact ⟨_,_,e⟩
    go_simp;rw [run_index_fn Tryz.underlying78 (fun w=>by simp [isAgg,run_underlying Tryz.underlying77,go_sem]) HI.out (by kernel_rfl) .i64 c HC.out v (by rw [List.getElem?_toArray];exact h1) w1];rfl
   ·refine Each.fine rfl (fun ev w1 hR hb hh=>?_);clear hh;have e1:=hR.old 1 rfl;simp only [Array.getD_eq_getD_getElem?,List.getElem?_toArray,List.getElem?_cons_succ,List.getElem?_cons_zero,Option.getD_some] at e1;refine Each.Goes.same ?_;go_simp;try with_reducible rfl
   ·refine Each.fine rfl (fun ev w1 hR hb hh=>?_);clear hh;have e5:=hR.old 5 rfl;simp only [Array.getD_eq_getD_getElem?,List.getElem?_toArray,List.getElem?_cons_succ,List.getElem?_cons_zero,Option.getD_some] at e5;have q0:=(HZ.out.below hb).c 0 _ rfl;have q1:=(HZ.out.below hb).c 1 _ rfl;have q2:=(HZ.out.below hb).c 2 _ rfl;have q3:=(HZ.out.below hb).c 3 _ rfl;have q4:=(HZ.out.below hb).c 4 _ rfl;have q5:=(HZ.out.below hb).c 5 _ rfl;have q6:=(HZ.out.below hb).c 6 _ rfl;have q7:=(HZ.out.below hb).c 7 _ rfl;have q8:=(HZ.out.below hb).c 8 _ rfl;have q9:=(HZ.out.below hb).c 9 _ rfl;refine Each.Goes.same ?_;go_simp;try with_reducible rfl
   ·refine Each.fine rfl (fun ev w1 hR hb hh=>?_);have e31:((fun v w=>IsMk w v s0) (ev (.tmp 31)) w1):=hh.at 0;have e32:(ev (.tmp 32)=.int .u32 (p:Int)):=hh.at 1;have e33:(ev (.tmp 33)=.agg #[.int .i64 b.x0,.int .i64 b.x1,.int .i64 b.x2,.int .i64 b.x3,.int .i64 b.x4,.int .i64 b.x5,.int .i64 b.x6,.int .i64 b.x7,.bool b.ch,.bool b.od]):=hh.at 2;clear hh;rw [←HSS.out];cases s0 with
    | none=>
      have e31:ev (.tmp 31)=mkO:=e31
      refine Each.Goes.enter 64 #[.int .u32 (p:Int),.agg #[.int .i64 b.x0,.int .i64 b.x1,.int .i64 b.x2,.int .i64 b.x3,.int .i64 b.x4,.int .i64 b.x5,.int .i64 b.x6,.int .i64 b.x7,.bool b.ch,.bool b.od]] (by go_simp) ((old_any p HP.out b.x0 b.x1 b.x2 b.x3 b.x4 b.x5 b.x6 b.x7 b.ch b.od w1).mono ?_);rintro r w2 ⟨rfl,hb2⟩;exact ⟨_,rfl,hb2,rfl⟩
    | some s=>
      obtain ⟨gk,e31,hgk⟩:=e31
      refine Each.Goes.enter 75 #[.int .u32 (p:Int),.agg #[.int .i64 b.x0,.int .i64 b.x1,.int .i64 b.x2,.int .i64 b.x3,.int .i64 b.x4,.int .i64 b.x5,.int .i64 b.x6,.int .i64 b.x7,.bool b.ch,.bool b.od],.pointer (some ⟨gk,0,none⟩)] (by go_simp) ((made_any p b.x0 b.x1 b.x2 b.x3 b.x4 b.x5 b.x6 b.x7 b.ch b.od gk s w1 hgk).mono ?_);rintro r w2 ⟨rfl,hb2⟩;exact ⟨_,rfl,hb2,rfl⟩
   ·refine Each.fine rfl (fun ev w1 hR hb hh=>?_);have e34:(ev (.tmp 34)=.string S):=hh.at 0;clear hh;obtain ⟨W5,cap5,hcv,hcap5,hby,hlt5,hb5⟩:=Rq.conv_cap S w1;refine Each.Goes.value _ W5 (by go_simp) hb5 ⟨_,cap5,rfl,hcap5,Pg.Bts.conv (L:= []) (by intro k hk;cases hk) S hby hlt5,?_⟩;have:=hb.size;exact Nat.le_trans HB0.out this
   ·refine Each.fine rfl (fun ev w1 hR hb hh=>?_);have e35:((fun v w=>∃(g c:Nat),v=.slice (some ⟨g,0,none⟩) S.size c∧S.size≤c∧Pg.Bts [] w (some ⟨g,0,none⟩) S.data.toList∧B0≤g) (ev (.tmp 35)) w1):=hh.at 0;clear hh;exact Each.Goes.value (ev (.tmp 35)) w1 (by go_simp) (Below.refl _ _) e35
   ·refine Each.fine rfl (fun ev w1 hR hb hh=>?_);clear hh;have ec:=hR.const;refine Each.Goes.same ?_;go_simp;try with_reducible rfl
  intro ga w4 hb4 hf;have z6:((fun v w=>∃(g c:Nat),v=.slice (some ⟨g,0,none⟩) S.size c∧S.size≤c∧Pg.Bts [] w (some ⟨g,0,none⟩) S.data.toList∧B0≤g) (ga 6) w4):=hf.at 7;have z7:(ga 7=.bool true):=hf.at 8;clear hf;simp only [Each.putg,Act.put,List.setIfInBounds_toArray,List.set_cons_zero,List.set_cons_succ];rw [z7];obtain ⟨gs,cs,e6,k1,k2,k3⟩:=z6;rw [e6];have HB4:=Lib.hid hb4;clear hb4;go_wp2;go_ret2;refine ⟨_,rfl,?_,⟨gs,cs,rfl,k1,k2,Nat.le_trans HBB2.out k3⟩⟩;rw [HGB.out];exact bstep HGB.out HBB.out HB4.out
 ·rw [Bool.not_eq_true] at hall;rw [hall];simp only [Bool.false_eq_true,if_false];have hz:a1=false∨(a1=true∧a2=false)∨(a1=true∧a2=true∧a3=false)∨(a1=true∧a2=true∧a3=true∧a4=false):=by
   revert hall;cases a1<;>cases a2<;>cases a3<;>cases a4<;>simp
  clear hall HK;have x0:=HZ0.out.c 0 _ rfl;have x1:=HZ0.out.c 1 _ rfl;have x2:=HZ0.out.c 2 _ rfl;have x3:=HZ0.out.c 3 _ rfl;have x4:=HZ0.out.c 4 _ rfl;have x5:=HZ0.out.c 5 _ rfl;have x6:=HZ0.out.c 6 _ rfl;have x7:=HZ0.out.c 7 _ rfl;have x8:=HZ0.out.c 8 _ rfl;have x9:=HZ0.out.c 9 _ rfl;rcases hz with rfl | ⟨rfl,rfl⟩ | ⟨rfl,rfl,rfl⟩ | ⟨rfl,rfl,rfl,rfl⟩;all_goals
   go_enter Tryz.func29,Tryz.ntmps29;go_upto_region 1 with fail
   generalize w.alloc (.cells #[.int .i64 b.x0,.int .i64 b.x1,.int .i64 b.x2,.int .i64 b.x3,.int .i64 b.x4,.int .i64 b.x5,.int .i64 b.x6,.int .i64 b.x7,.bool b.ch,.bool b.od] 24)=W0 at *;generalize hgB:w.heap.size=g at *;have HGB:=Lib.hid hgB;clear hgB;have HY:=Lib.hid HB0.out
   go_wp2_with (first
    |(go_at_call 31;with_reducible refine (H4.out _).mono ?_;rintro r w3 ⟨rfl,hb3⟩;replace HY:=Lib.hid (bstep HGB.out HY.out hb3);clear hb3)
    |(go_at_call 42;with_reducible refine (H3.out _).mono ?_;rintro r w2 ⟨rfl,hw2⟩;rw [hw2];clear hw2)
    |(go_at_call 41;with_reducible refine (H2.out _).mono ?_;rintro r w2 ⟨rfl,hb2⟩;replace HY:=Lib.hid (bstep HGB.out HY.out hb2);have HZ2:=Lib.hid (HZ0.out.below hb2)
      have y0:=HZ2.out.c 0 _ rfl;have y1:=HZ2.out.c 1 _ rfl;have y2:=HZ2.out.c 2 _ rfl;have y3:=HZ2.out.c 3 _ rfl;have y4:=HZ2.out.c 4 _ rfl;have y5:=HZ2.out.c 5 _ rfl;have y6:=HZ2.out.c 6 _ rfl;have y7:=HZ2.out.c 7 _ rfl;have y8:=HZ2.out.c 8 _ rfl;have y9:=HZ2.out.c 9 _ rfl;clear hb2)
    |(go_at_call 40;with_reducible refine (H1.out _).mono ?_;rintro r w1 ⟨rfl,hw1⟩;rw [hw1];clear hw1))
   go_ret2;exact ⟨_,rfl,by rw [HGB.out];exact HY.out,rfl⟩
end code
end Go.Proofs.YtimoakmcelocfaaGreat.Wit
namespace Go.Proofs.YtimoakmcelocfaaGreat.An
open Go.RowKit Base Txt Mem Par
def kindA (p:Nat) (b:Bd):Int:=if (decide (p<1073741824)&&b.right)=true then (if effL p b= [] then 1 else 2) else 0
def errA (p:Nat) (b:Bd):Int:=if (decide (p<1073741824)&&b.right)=true then 0 else 20
def clA (p:Nat) (b:Bd):Int:=(effL p b).headD 0
def Shown (w w':World) (p:Nat) (b:Bd) (v:Value):Prop:=if effL p b= [] then v=.slice none 0 0 else Wit.Said w w' v (Wit.W (clA p b).toNat b.ch (Qk.has p 19))
theorem eff_bad {p:Nat} {b:Bd} (h:¬(decide (p<1073741824)&&b.right)=true):effL p b= []:=by unfold effL;rw [if_neg];intro h2;rw [Bool.and_comm] at h2;exact h h2
theorem may_of {p:Nat} {b:Bd} {c:Int} (h:c∈effL p b):Wit.may c p b=true∧0≤c∧c<30:=by
 unfold effL at h;split at h
 ·rename_i h1;obtain ⟨h2,h3⟩:=List.mem_filter.1 h;unfold Qk.upTo at h2;obtain ⟨n,h4,rfl⟩:=List.mem_map.1 h2;obtain ⟨h5,h6⟩:=List.mem_filter.1 h4;rw [List.mem_range] at h5;have hk:Qk.has p (n:Int)=true:=by
   unfold Qk.has;rw [show Qk.known (n:Int)=true from (Qk.known_iff _).2 (by omega),Int.toNat_natCast,h6];rfl
  refine ⟨?_,by omega,by omega⟩;unfold Wit.may;rw [hk,h3];simp only [Bool.and_true,Bool.and_eq_true,decide_eq_true_eq] at h1 ⊢;exact ⟨h1.2,h1.1⟩
 ·cases h
theorem bts_off {w w':World} {g gA:Nat} {l:List UInt8} (h:Pg.Bts [] w (some ⟨g,0,none⟩) l) (hk:Keeps [some gA] w w') (hne:g≠gA):Pg.Bts [] w' (some ⟨g,0,none⟩) l:=by
 have hlt:=(h.far _ rfl).2;refine ⟨⟨h.nums.1,fun h0=>?_⟩,fun ad e=>⟨fun hm=>(by cases hm),?_⟩⟩
 ·obtain ⟨b,off,e,hb,hc⟩:=h.nums.2 h0;cases e;exact ⟨g,0,rfl,Nat.lt_of_lt_of_le hb hk.size,fun k hkl=>(hk.cell (p:=⟨g,0+k,none⟩) hb (fun hm=>hne (by simpa using hm))).trans (hc k hkl)⟩
 ·cases e;exact Nat.lt_of_lt_of_le hlt hk.size
theorem said_off {w0 w1 w w':World} {gA:Nat} {v:Value} {S:ByteArray} (h:Wit.Said w0 w v S) (hk:Keeps [some gA] w w') (hA:gA<w0.heap.size) (hs:w1.heap.size≤w0.heap.size):Wit.Said w1 w' v S:=by obtain ⟨g,c,e,h1,h2,h3⟩:=h.v;exact ⟨⟨g,c,e,h1,bts_off h2 hk (by omega),by omega⟩⟩
section code
set_option maxHeartbeats 8000000
set_option maxRecDepth 20000
attribute [local go_sem] Base.some_undef
theorem decide_any (p:Nat) (hp:p<4294967296) (b:Bd) (w:World):Calls Tryz.prog 11 #[.int .u32 (p:Int),.agg #[.int .i64 b.x0,.int .i64 b.x1,.int .i64 b.x2,.int .i64 b.x3,.int .i64 b.x4,.int .i64 b.x5,.int .i64 b.x6,.int .i64 b.x7,.bool b.ch,.bool b.od]] w fun e w'=>
 ∃v,e=.returned (.tuple #[.agg #[.int .i64 (kindA p b),.int .i64 (clA p b),v],.int .i64 (errA p b)])∧Shown w w' p b v∧Below w.heap.size w w':=by
 have HR:=Lib.hid (fun w=>right_any p hp b w)
 have HE:=Lib.hid (fun w=>eff_any p hp b w)
 have HB0:=Lib.hid ((((Below.refl _ _).alloc (Nat.le_refl _) (.cells #[.int .i64 b.x0,.int .i64 b.x1,.int .i64 b.x2,.int .i64 b.x3,.int .i64 b.x4,.int .i64 b.x5,.int .i64 b.x6,.int .i64 b.x7,.bool b.ch,.bool b.od] 24)).alloc (by simp) (.cells #[.int .i64 0,.int .i64 0,.slice none 0 0] 36)):Below w.heap.size w _)
 have HZ0:=Lib.hid ((Rec.Bk.new w w.heap.size rfl 24 [.int .i64 b.x0,.int .i64 b.x1,.int .i64 b.x2,.int .i64 b.x3,.int .i64 b.x4,.int .i64 b.x5,.int .i64 b.x6,.int .i64 b.x7,.bool b.ch,.bool b.od]).alloc (.cells #[.int .i64 0,.int .i64 0,.slice none 0 0] 36))
 have HA0:=Lib.hid (Rec.Bk.new (w.alloc (.cells #[.int .i64 b.x0,.int .i64 b.x1,.int .i64 b.x2,.int .i64 b.x3,.int .i64 b.x4,.int .i64 b.x5,.int .i64 b.x6,.int .i64 b.x7,.bool b.ch,.bool b.od] 24)) (w.heap.size+1) (by simp) 36 [.int .i64 0,.int .i64 0,.slice none 0 0])
 have HSZ:=Lib.hid (show w.heap.size+1<((w.alloc (.cells #[.int .i64 b.x0,.int .i64 b.x1,.int .i64 b.x2,.int .i64 b.x3,.int .i64 b.x4,.int .i64 b.x5,.int .i64 b.x6,.int .i64 b.x7,.bool b.ch,.bool b.od] 24)).alloc (.cells #[.int .i64 0,.int .i64 0,.slice none 0 0] 36)).heap.size by simp);obtain ⟨ok,hok⟩:∃ok,(decide (p<1073741824)&&b.right)=ok:=⟨_,rfl⟩;have hk:kindA p b=if ok=true then (if effL p b= [] then 1 else 2) else 0:=by unfold kindA;rw [hok]
 have he:errA p b=if ok=true then 0 else 20:=by unfold errA;rw [hok]
 have hbad:¬ok=true→effL p b= []:=fun h=>eff_bad (by rw [hok];exact h);rw [hok] at HR;rw [hk,he];clear hok hk he;cases ok with
 | false=>
   have hef:=hbad Bool.false_ne_true
   have HSH:Hid (∀w',Shown w w' p b (.slice none 0 0)):=Lib.hid (fun w'=>by unfold Shown;rw [if_pos hef]);have hc:clA p b=0:=by unfold clA;rw [hef];rfl
   rw [hc,if_neg Bool.false_ne_true,if_neg Bool.false_ne_true];clear hef hc hbad HE;go_enter Tryz.func11,Tryz.ntmps11;go_upto_region 1 with fail
   generalize (w.alloc (.cells #[.int .i64 b.x0,.int .i64 b.x1,.int .i64 b.x2,.int .i64 b.x3,.int .i64 b.x4,.int .i64 b.x5,.int .i64 b.x6,.int .i64 b.x7,.bool b.ch,.bool b.od] 24)).alloc (.cells #[.int .i64 0,.int .i64 0,.slice none 0 0] 36)=W0 at *;have x0:=HZ0.out.c 0 _ rfl;have x1:=HZ0.out.c 1 _ rfl;have x2:=HZ0.out.c 2 _ rfl;have x3:=HZ0.out.c 3 _ rfl;have x4:=HZ0.out.c 4 _ rfl;have x5:=HZ0.out.c 5 _ rfl;have x6:=HZ0.out.c 6 _ rfl;have x7:=HZ0.out.c 7 _ rfl;have x8:=HZ0.out.c 8 _ rfl;have x9:=HZ0.out.c 9 _ rfl
   go_upto_region 2 with (go_at_call 28;with_reducible refine (HR.out _).mono ?_;rintro r w1 ⟨rfl,hb1⟩;have HB1:=Lib.hid hb1;have HA1:=Lib.hid (HA0.out.below hb1);clear hb1)
   have d0:=HA1.out.c 0 _ rfl;have d1:=HA1.out.c 1 _ rfl;have d2:=HA1.out.c 2 _ rfl
   have m0:=HA1.out.z 0 (by decide);have m1:=HA1.out.z 1 (by decide);have m2:=HA1.out.z 2 (by decide);clear x0 x1 x2 x3 x4 x5 x6 x7 x8 x9
   have HBW:=Lib.hid (show Below w.heap.size w w1 from HB0.out.trans (HB1.out.mono (by have:=HB0.out.size;exact this)));go_wp2;refine bodyPost_ret (v:=.tuple #[.agg #[.int .i64 0,.int .i64 0,.slice none 0 0],.int .i64 20]) (by simp [results,Tryz.results11,go_sem,d0,d1,d2]) rfl ?_;refine ⟨_,rfl,HSH.out _,?_⟩;first | exact HBW.out |(repeat (refine Below.setCell ?_ (by simp) _));exact HBW.out
 | true=>
   rw [if_pos rfl,if_pos rfl];have hle:=effL_le p b;rcases hef:effL p b with _ | ⟨c0,cs⟩
   ·have HSH:Hid (∀w',Shown w w' p b (.slice none 0 0)):=Lib.hid (fun w'=>by unfold Shown;rw [if_pos hef]);have hc:clA p b=0:=by unfold clA;rw [hef];rfl
    rw [hc,if_pos rfl];rw [hef] at HE;clear hef hc hbad hle;go_enter Tryz.func11,Tryz.ntmps11;go_upto_region 1 with fail
    generalize (w.alloc (.cells #[.int .i64 b.x0,.int .i64 b.x1,.int .i64 b.x2,.int .i64 b.x3,.int .i64 b.x4,.int .i64 b.x5,.int .i64 b.x6,.int .i64 b.x7,.bool b.ch,.bool b.od] 24)).alloc (.cells #[.int .i64 0,.int .i64 0,.slice none 0 0] 36)=W0 at *;have x0:=HZ0.out.c 0 _ rfl;have x1:=HZ0.out.c 1 _ rfl;have x2:=HZ0.out.c 2 _ rfl;have x3:=HZ0.out.c 3 _ rfl;have x4:=HZ0.out.c 4 _ rfl;have x5:=HZ0.out.c 5 _ rfl;have x6:=HZ0.out.c 6 _ rfl;have x7:=HZ0.out.c 7 _ rfl;have x8:=HZ0.out.c 8 _ rfl;have x9:=HZ0.out.c 9 _ rfl
    go_upto_region 3 with (go_at_call 28;with_reducible refine (HR.out _).mono ?_;rintro r w1 ⟨rfl,hb1⟩;have HB1:=Lib.hid hb1;have HA1:=Lib.hid (HA0.out.below hb1);have HZ1:=Lib.hid (HZ0.out.below hb1);clear hb1)
    clear x0 x1 x2 x3 x4 x5 x6 x7 x8 x9;have y0:=HZ1.out.c 0 _ rfl;have y1:=HZ1.out.c 1 _ rfl;have y2:=HZ1.out.c 2 _ rfl;have y3:=HZ1.out.c 3 _ rfl;have y4:=HZ1.out.c 4 _ rfl;have y5:=HZ1.out.c 5 _ rfl;have y6:=HZ1.out.c 6 _ rfl;have y7:=HZ1.out.c 7 _ rfl;have y8:=HZ1.out.c 8 _ rfl;have y9:=HZ1.out.c 9 _ rfl
    go_upto_region 4 with (go_at_call 13;with_reducible refine (HE.out _).mono ?_;rintro r w2 ⟨A,ca,rfl,hi,hb2⟩;have HB2:=Lib.hid (Base.below_step HB1.out hb2);have HA2:=Lib.hid (HA1.out.below hb2);have HZ2:=Lib.hid (HZ1.out.below hb2);have HI:=Lib.hid hi;clear hb2 hi)
    clear y0 y1 y2 y3 y4 y5 y6 y7 y8 y9;have d0:=HA2.out.c 0 _ rfl;have d1:=HA2.out.c 1 _ rfl;have d2:=HA2.out.c 2 _ rfl
    have m0:=HA2.out.z 0 (by decide);have m1:=HA2.out.z 1 (by decide);have m2:=HA2.out.z 2 (by decide)
    have HBW:=Lib.hid (show Below w.heap.size w w2 from HB0.out.trans (HB2.out.mono (by have:=HB0.out.size;exact this)));simp only [List.length_nil] at *;go_wp2;refine bodyPost_ret (v:=.tuple #[.agg #[.int .i64 1,.int .i64 0,.slice none 0 0],.int .i64 0]) (by simp [results,Tryz.results11,go_sem,d0,d1,d2]) rfl ?_;refine ⟨_,rfl,HSH.out _,?_⟩;first | exact HBW.out |(repeat (refine Below.setCell ?_ (by simp) _));exact HBW.out
   ·have hm:=may_of (p:=p) (b:=b) (c:=c0) (by rw [hef];exact List.mem_cons_self ..);have hc:clA p b=c0:=by unfold clA;rw [hef];rfl
    have hof:=fun w=>Wit.of_any c0 p hp b w;rw [hm.1] at hof;have HOF:=Lib.hid hof
    have HSH:Hid (∀w' v,Wit.Said w w' v (Wit.W c0.toNat b.ch (Qk.has p 19))→Shown w w' p b v):=Lib.hid (fun w' v h=>by unfold Shown;rw [if_neg (by rw [hef];simp),hc];exact h);rw [hc,if_neg (by simp)];rw [hef] at HE hle;rw [List.length_cons] at hle;obtain ⟨n,hn⟩:∃n,(c0::cs).length=n:=⟨_,rfl⟩;rw [hn] at HE;have hn1:0<n∧n≤30:=by rw [←hn,List.length_cons];omega
    clear hc hbad hof hm;go_enter Tryz.func11,Tryz.ntmps11;go_upto_region 1 with fail
    generalize (w.alloc (.cells #[.int .i64 b.x0,.int .i64 b.x1,.int .i64 b.x2,.int .i64 b.x3,.int .i64 b.x4,.int .i64 b.x5,.int .i64 b.x6,.int .i64 b.x7,.bool b.ch,.bool b.od] 24)).alloc (.cells #[.int .i64 0,.int .i64 0,.slice none 0 0] 36)=W0 at *;have x0:=HZ0.out.c 0 _ rfl;have x1:=HZ0.out.c 1 _ rfl;have x2:=HZ0.out.c 2 _ rfl;have x3:=HZ0.out.c 3 _ rfl;have x4:=HZ0.out.c 4 _ rfl;have x5:=HZ0.out.c 5 _ rfl;have x6:=HZ0.out.c 6 _ rfl;have x7:=HZ0.out.c 7 _ rfl;have x8:=HZ0.out.c 8 _ rfl;have x9:=HZ0.out.c 9 _ rfl
    go_upto_region 3 with (go_at_call 28;with_reducible refine (HR.out _).mono ?_;rintro r w1 ⟨rfl,hb1⟩;have HB1:=Lib.hid hb1;have HA1:=Lib.hid (HA0.out.below hb1);have HZ1:=Lib.hid (HZ0.out.below hb1);clear hb1)
    clear x0 x1 x2 x3 x4 x5 x6 x7 x8 x9;have y0:=HZ1.out.c 0 _ rfl;have y1:=HZ1.out.c 1 _ rfl;have y2:=HZ1.out.c 2 _ rfl;have y3:=HZ1.out.c 3 _ rfl;have y4:=HZ1.out.c 4 _ rfl;have y5:=HZ1.out.c 5 _ rfl;have y6:=HZ1.out.c 6 _ rfl;have y7:=HZ1.out.c 7 _ rfl;have y8:=HZ1.out.c 8 _ rfl;have y9:=HZ1.out.c 9 _ rfl
    go_upto_region 4 with (go_at_call 13;with_reducible refine (HE.out _).mono ?_;rintro r w2 ⟨A,ca,rfl,hi,hb2⟩;have HB2:=Lib.hid (Base.below_step HB1.out hb2);have HA2:=Lib.hid (HA1.out.below hb2);have HZ2:=Lib.hid (HZ1.out.below hb2);have HI:=Lib.hid hi;clear hb2 hi)
    clear y0 y1 y2 y3 y4 y5 y6 y7 y8 y9;obtain ⟨ib,io,rfl,hib,hcs⟩:=HI.out.2 hn1.1;have ck:=hcs 0 hn1.1;rw [List.getElem?_cons_zero,Option.getD_some,Nat.add_zero] at ck;have z0:=HZ2.out.c 0 _ rfl;have z1:=HZ2.out.c 1 _ rfl;have z2:=HZ2.out.c 2 _ rfl;have z3:=HZ2.out.c 3 _ rfl;have z4:=HZ2.out.c 4 _ rfl;have z5:=HZ2.out.c 5 _ rfl;have z6:=HZ2.out.c 6 _ rfl;have z7:=HZ2.out.c 7 _ rfl;have z8:=HZ2.out.c 8 _ rfl;have z9:=HZ2.out.c 9 _ rfl
    have t0:((n:Int)==0)=false:=beq_eq_false_iff_ne.2 (by omega);have t1:¬(n:Int)=0:=by omega
    have t2:(0:Int)<(n:Int):=by omega
    have t3:0<n:=hn1.1;clear hcs hib
    go_upto_region 8 with (go_at_call 29;with_reducible refine (HOF.out _).mono ?_;rintro r w3 ⟨v,rfl,hb3,hs3⟩;have HB3:=Lib.hid (Base.below_step HB2.out hb3);have HA3:=Lib.hid (HA2.out.below hb3);have HS3:=Lib.hid hs3;clear hb3 hs3)
    clear z0 z1 z2 z3 z4 z5 z6 z7 z8 z9;have hs:=HS3.out;simp only [if_true] at hs;obtain ⟨gs,cc,rfl, -⟩:=hs.v;have HS:=Lib.hid hs;have d0:=HA3.out.c 0 _ rfl;have d1:=HA3.out.c 1 _ rfl;have d2:=HA3.out.c 2 _ rfl
    have m0:=HA3.out.z 0 (by decide);have m1:=HA3.out.z 1 (by decide);have m2:=HA3.out.z 2 (by decide)
    have HBW:=Lib.hid (show Below w.heap.size w w3 from HB0.out.trans (HB3.out.mono (by have:=HB0.out.size;exact this)))
    have HW2:=Lib.hid (show w.heap.size≤w2.heap.size∧w.heap.size+1<w2.heap.size from by have h1:=HB2.out.size;have h2:=HSZ.out;omega);clear hs HS3 ck;go_wp2;refine bodyPost_ret (v:=.tuple #[.agg #[.int .i64 2,.int .i64 c0,.slice (some ⟨gs,0,none⟩) (Wit.W c0.toNat b.ch (Qk.has p 19)).size cc],.int .i64 0]) (by simp [results,Tryz.results11,go_sem,d0,d1,d2]) rfl ?_;refine ⟨_,rfl,HSH.out _ _ (said_off (gA:=w.heap.size+1) HS.out ?_ HW2.out.2 HW2.out.1),?_⟩
    ·exact ((Keeps.set _ 0 _ (by simp)).trans (Keeps.set _ 1 _ (by simp)) Of.refl).trans (Keeps.set _ 2 _ (by simp)) Of.refl
    ·(repeat (refine Below.setCell ?_ (by simp) _));exact HBW.out
end code
end Go.Proofs.YtimoakmcelocfaaGreat.An
namespace Go.Proofs.YtimoakmcelocfaaGreat.Pg
open Go.RowKit Base Txt Par
theorem none0 (k:Int):Qk.has 0 k=false:=by unfold Qk.has;rw [Nat.zero_testBit,Bool.and_false]
theorem dw_none {q:UInt8→Bool}:∀{l:List UInt8},(∀x∈l,q x=false)→l.dropWhile q=l
 | [],_=>rfl
 | x::r,h=>dropWhile_stop (h x (by simp))
theorem trimL_none {q:UInt8→Bool} {l:List UInt8} (h:∀x∈l,q x=false):trimL q l=l:=by unfold trimL;rw [dw_none h,dw_none (fun x hx=>h x (by simpa using hx)),List.reverse_reverse]
theorem letters_tab:∀k:Fin 256,lowB (UInt8.ofNat k.val)∈ [99,104,117,110,107,101,100]→Frm.blanksOf.data.toList.contains (UInt8.ofNat k.val)=false:=by decide +kernel
theorem letter_of {x:UInt8} (h:lowB x∈ [99,104,117,110,107,101,100]):isIn Frm.blanksOf x=false:=by have:=letters_tab ⟨x.toNat,x.toNat_lt⟩ (by simpa using h);simpa [isIn] using this
theorem isC_wide {v:ByteArray} (h:Frm.isC false v=true) (tb:Bool):Frm.isC tb v=true:=by
 cases tb with
 | false=>exact h
 | true=>
   have h1:same v Frm.chunked=true:=h
   have h2:low v.data.toList= [99,104,117,110,107,101,100]:=(beq_iff_eq.1 h1).trans (by decide +kernel);have e:trimOf v Frm.blanksOf=v:=by apply ba_ext;show trimL (isIn Frm.blanksOf) v.data.toList= _;refine trimL_none fun x hx=>letter_of ?_;rw [←h2];exact List.mem_map.2 ⟨x,hx,rfl⟩
   show same (trimOf v Frm.blanksOf) Frm.chunked=true;rw [e];exact h1
theorem coding_wide {vs:List ByteArray} (h:Frm.coding false false vs=true) (tb tl:Bool):Frm.coding tb tl vs=true:=by unfold Frm.coding at h ⊢;rw [Bool.or_false,Bool.and_eq_true,decide_eq_true_eq] at h;obtain ⟨h1,h2⟩:=h;obtain ⟨v,hv⟩:=List.length_eq_one_iff.1 h2;rw [hv] at h1 ⊢;have h3:Frm.isC false v=true:=h1;rw [decide_eq_true (by simp),Bool.true_or,Bool.and_true];exact isC_wide h3 tb
theorem digit_tab:∀k:Fin 256,Num.digitOf 10 (UInt8.ofNat k.val)=true→UInt8.ofNat k.val≠44∧UInt8.ofNat k.val≠43∧Txt.blank (UInt8.ofNat k.val)=false:=by decide +kernel
theorem digit_of {x:UInt8} (h:Num.digitOf 10 x=true):x≠44∧x≠43∧Txt.blank x=false:=by simpa using digit_tab ⟨x.toNat,x.toNat_lt⟩ (by simpa using h)
theorem hex_tab:∀k:Fin 256,Num.digitOf 16 (UInt8.ofNat k.val)=true→lowB (UInt8.ofNat k.val)≠120∧Txt.blank (UInt8.ofNat k.val)=false:=by decide +kernel
theorem hex_of {x:UInt8} (h:Num.digitOf 16 x=true):lowB x≠120∧Txt.blank x=false:=by simpa using hex_tab ⟨x.toNat,x.toNat_lt⟩ (by simpa using h)
theorem read_digits {base most:Int} {l:List UInt8} (h:(Num.readOf base most l).2≠22):∀x∈l,Num.digitOf base x=true:=by
 unfold Num.readOf at h;split at h
 ·exact absurd rfl h
 ·rename_i h1;rw [Bool.or_eq_true,not_or,Bool.not_eq_true,Bool.not_eq_true,Bool.not_eq_false',List.all_eq_true] at h1;exact h1.2
theorem numV_digits {r:Int × Int} (h:(Frm.numV r).2=0):r.2≠22:=by
 intro e;unfold Frm.numV at h;rw [if_pos e] at h
 exact absurd h (by decide)
theorem length_wide {most:Int} {vs:List ByteArray} (h:(Frm.lengthV false false false false most vs).2=0) (lp lc lf ll:Bool) :
 Frm.lengthV lp lc lf ll most vs=Frm.lengthV false false false false most vs:=by
 unfold Frm.lengthV at h ⊢;by_cases h0:vs= []
 ·rw [if_pos h0,if_pos h0]
 rw [if_neg h0] at h ⊢;rw [if_neg h0];rw [if_neg Bool.false_ne_true] at h ⊢;by_cases h1:vs.length=1
 ·obtain ⟨v,rfl⟩:=List.length_eq_one_iff.1 h1;have hc:Frm.counts false false false [v]=some v:=rfl;rw [hc] at h ⊢;have hu:Frm.unplus false v=v:=rfl;simp only [hu] at h ⊢
  have hd:=read_digits (numV_digits h);have hl:list [v]= [v]:=by
   have e1:list [v]=partsOf v:=by simp [list]
   rw [e1];unfold partsOf;rw [parts_none 44 _ fun hm=>(digit_of (hd _ hm)).1 rfl];show [trim (ba v.data.toList)]= [v]
   congr 1
   apply ba_ext;show trimL Txt.blank (ba v.data.toList).data.toList= _;have e2:(ba v.data.toList).data.toList=v.data.toList:=by simp [ba]
   rw [e2];exact trimL_none fun x hx=>(digit_of (hd x hx)).2.2
  have hc':Frm.counts lc lf ll (if lc=true then list [v] else [v])=some v:=by
   have:(if lc=true then list [v] else [v])= [v]:=by cases lc<;>simp [hl]
   rw [this];unfold Frm.counts;rw [if_pos (by simp)];rfl
  rw [hc'];have hp:Frm.unplus lp v=v:=by
   unfold Frm.unplus;rw [if_neg];intro hh;rw [Bool.and_eq_true,decide_eq_true_eq] at hh
   have hm:(43:UInt8)∈v.data.toList:=List.mem_of_mem_head? (by rw [hh.2];rfl);exact (digit_of (hd _ hm)).2.1 rfl
  simp only [hp]
 ·have hc:Frm.counts false false false vs=none:=by
   unfold Frm.counts;rw [if_neg (by simp [h1]),if_neg Bool.false_ne_true]
  rw [hc] at h
  exact absurd (show (400:Int)=0 from h) (by decide)
theorem wins_wide {minor:Int} {nte ncl:Nat} {cod:Bool} (h:(Frm.winsV false false false false minor nte ncl cod).2=0) (td ti tw lw cod':Bool) (hc:cod=true→cod'=true) :
 Frm.winsV td ti tw lw minor nte ncl cod'=Frm.winsV false false false false minor nte ncl cod:=by
 unfold Frm.winsV at h ⊢;by_cases h0:nte=0
 ·simp only [if_pos h0]
 simp only [if_neg h0] at h ⊢;by_cases h1:minor=0
 ·rw [if_pos (by simp [h1])] at h
  exact absurd (show (400:Int)=0 from h) (by decide)
 have hm:∀td:Bool,¬(decide (minor=0) && !td)=true:=fun td=>by simp [h1]
 simp only [if_neg (hm _)] at h ⊢;cases cod with
 | false=>exact absurd (show (501:Int)=0 from h) (by decide)
 | true=>
   rw [hc rfl];by_cases h2:0<ncl
   ·simp [h2] at h
   ·simp [h2]
theorem hosts_wide {minor:Int} {hs:List ByteArray} (h:Frm.hostsV false false minor hs=0) (nh mh:Bool):Frm.hostsV nh mh minor hs=0:=by
 unfold Frm.hostsV at h ⊢;split at h
 ·exact absurd h (by decide)
 ·rename_i h1;rw [Bool.or_eq_true,not_or,Bool.not_false,Bool.and_true,Bool.and_true] at h1;rw [if_neg]
  ·exact h
  ·rw [Bool.or_eq_true,not_or];constructor
   ·intro hh;exact h1.1 (by cases nh<;>simp_all)
   ·intro hh;exact h1.2 (by cases mh<;>simp_all)
theorem decide_wide {ch:Bool} {body minor:Int} {fs:List Fld} (h:(Frm.decideV (Frm.clOf 0) ch body minor fs).2.2=0) (p:Nat) :
 Frm.decideV (Frm.clOf p) ch body minor fs=Frm.decideV (Frm.clOf 0) ch body minor fs:=by
 have e0:Frm.clOf 0=⟨false,false,false,false,false,false,false,false,false,false,false,false⟩:=by simp only [Frm.clOf,none0]
 rw [e0] at h ⊢;generalize Frm.clOf p=c;obtain ⟨nh,mh,tb,tl,ti,td,tw,lw,lp,lc,lf,ll⟩:=c;unfold Frm.decideV at h ⊢;simp only at h ⊢;unfold Frm.bodyV at h ⊢;by_cases h1:Frm.hostsV false false minor (find fs Frm.hostN)=0
 ·have h1':=hosts_wide h1 nh mh;rw [h1] at h ⊢;rw [h1'];simp only [ne_eq,not_true_eq_false,if_false] at h ⊢;by_cases h2:(Frm.winsV false false false false minor (find fs Frm.teN).length (find fs Frm.clN).length (Frm.coding false false (find fs Frm.teN))).2=0
  ·have h2':=wins_wide h2 td ti tw lw (Frm.coding tb tl (find fs Frm.teN)) (fun hc=>coding_wide hc tb tl);rw [h2'];simp only [h2,not_true_eq_false,if_false] at h ⊢;by_cases h3:(Frm.winsV false false false false minor (find fs Frm.teN).length (find fs Frm.clN).length (Frm.coding false false (find fs Frm.teN))).1=true
   ·simp only [if_pos h3]
   ·simp only [if_neg h3] at h ⊢;have h4:(Frm.lengthV false false false false body (find fs Frm.clN)).2=0:=by
     unfold Frm.fixedV at h;split at h
     ·assumption
     ·rename_i hn;exact absurd h hn
    rw [length_wide h4 lp lc lf ll]
  ·simp only [h2,not_false_eq_true,if_true] at h
 ·rw [if_pos h1] at h;exact absurd h h1
theorem piece_wide {z:List UInt8} (h:∀x∈z,Num.digitOf 16 x=true) (hex blanks:Bool):Chk.pieceL hex blanks z=z:=by
 have h1:trimL Txt.blank z=z:=trimL_none fun x hx=>(hex_of (h x hx)).2;have h2:Chk.bare z=z:=by
  unfold Chk.bare;rw [if_neg];intro hm;unfold Chk.marked at hm;rw [Bool.and_eq_true,decide_eq_true_eq] at hm;obtain ⟨hl,hs⟩:=hm
  match z,hl with
  | a::b::r,_=>
    have hs2:low [a,b]= [48,120]:=(beq_iff_eq.1 hs).trans (by decide +kernel);have hb:lowB b=120:=by simpa [low] using (List.cons.inj (List.cons.inj hs2).2).1
    exact (hex_of (h b (by simp))).1 hb
 unfold Chk.pieceL;cases hex<;>cases blanks<;>simp [h1,h2]
theorem chk_digits {r:Int × Int} (h:(Chk.numV r).2=0):r.2≠22:=by
 intro e;unfold Chk.numV at h;rw [if_pos e] at h
 exact absurd h (by decide)
theorem size_wide {ext body:Int} {l:List UInt8} (h:(Chk.sizeV false false ext body l).2=0) (hex blanks:Bool):Chk.sizeV hex blanks ext body l=Chk.sizeV false false ext body l:=by
 unfold Chk.sizeV at h ⊢;split at h
 ·rename_i h1;rw [if_pos h1,if_pos h1]
  have hd:∀x∈(Tgt.cutAt 59 l).1,Num.digitOf 16 x=true:=read_digits (chk_digits h);unfold Chk.sizeL;rw [piece_wide hd,piece_wide hd]
 ·exact absurd h (by decide)
theorem field_wide {lines:Nat} {l l':List Fld} {s:List UInt8} {most:Int} (h:fieldV 0 lines l s most=.inr l') (p:Nat):fieldV p lines l s most=.inr l':=by
 unfold fieldV at h ⊢
 by_cases h1:most<((lines+1:Nat):Int)
 ·rw [if_pos h1] at h;cases h
 simp only [if_neg h1] at h ⊢;have hg:Fd.goes 0 s=false:=by unfold Fd.goes;rw [none0,Bool.false_and]
 rw [if_neg (by rw [hg,Bool.false_and];exact Bool.false_ne_true)] at h;rw [Fd.clOf_zero] at h;rcases Fd.parse_zero s with h2 | ⟨n,v,h2⟩
 ·rw [h2] at h;cases h
 ·rw [h2] at h;have hs:=Fd.parse_strict h2;have hg2:Fd.goes p s=false:=by
   have hb:(!s.isEmpty&&Txt.blank (s.headD 0))=false:=by
    rcases Tgt.cut_cases 58 s with e | ⟨a,r,e,hn⟩
    ·rw [Tgt.cutAt_none 58 s e] at hs
     exact absurd (show false=true from hs.1) (by decide)
    ·rw [e,Tgt.cutAt_app 58 a r hn] at hs;obtain ⟨-,e1, -,e2,e3, -⟩:=hs;have e4:a=n:=e1;rw [e];rw [←e4] at e2 e3
     match a,e2,e3 with
     | y::t,_,e3=>
       have:=(Fd.token_of (Fd.all_of e3 y (by simp))).2.2.2;simp [this]
   unfold Fd.goes;rw [hb,Bool.and_false]
  rw [if_neg (by rw [hg2,Bool.false_and];exact Bool.false_ne_true),(Fd.parse_all h2).1 (Fd.clOf p)];exact h
def wideM (p:Nat) (m:Ln.M):Ln.M:={m with lf:=Qk.has p 1,cr:=Qk.has p 2}
def T.wide (p:Nat) (t:T):T:={t with rd:=wideM p t.rd}
structure T.Strict (t:T):Prop where
 lf:t.rd.lf=false
 cr:t.rd.cr=false
theorem decide_codes (ch:Bool) (body minor:Int) (fs:List Fld) (c:Frm.Cl):0≤(Frm.decideV c ch body minor fs).2.2:=by
 unfold Frm.decideV Frm.bodyV;split
 ·unfold Frm.hostsV;split
  ·decide
  ·split<;>decide
 ·split
  ·unfold Frm.winsV
   repeat' split
   all_goals decide
  ·split
   ·split<;>decide
   ·unfold Frm.fixedV;split
    ·exact Int.le_refl _
    ·show 0≤(Frm.lengthV c.lp c.lc c.lf c.ll body (find fs Frm.clN)).2;unfold Frm.lengthV;split
     ·decide
     ·split
      ·decide
      ·unfold Frm.numV;split
       ·decide
       ·split
        ·decide
        ·exact Int.le_refl _
theorem decide_pos {ch:Bool} {body minor:Int} {fs:List Fld} {c:Frm.Cl} {d:Int × Int × Int} (hd:d=Frm.decideV c ch body minor fs) (h1:d.2.2≠0):d.2.2.toNat≠0:=by have:=decide_codes ch body minor fs c;rw [←hd] at this;omega
theorem size_pos {hex blanks:Bool} {ext body:Int} {l:List UInt8} {z:Int × Int} (hz:z=Chk.sizeV hex blanks ext body l) (h1:z.2≠0):z.2.toNat≠0:=by
 have:0≤(Chk.sizeV hex blanks ext body l).2:=by
  unfold Chk.sizeV;split
  ·unfold Chk.numV;split
   ·decide
   ·split
    ·decide
    ·exact Int.le_refl _
  ·decide
 rw [←hz] at this;omega
section
variable {p:Nat} {b:Bd} {t t2:T} {s:List UInt8} {c:UInt8}
theorem of_wide (most:Int):wideM p (Ln.M.of 0 most)=Ln.M.of p most:=rfl
theorem of_strict (most:Int):(Ln.M.of 0 most).lf=false∧(Ln.M.of 0 most).cr=false:=⟨none0 1,none0 2⟩
theorem next_wide (m:Ln.M) (hl:m.lf=false) (hc:m.cr=false) (c:UInt8) (h:m.next c≠3):(wideM p m).next c=m.next c∧m.next c≠2:=by
 obtain ⟨lf,cr,most,buf,last,pend⟩:=m;obtain rfl:lf=false:=hl;obtain rfl:cr=false:=hc;unfold Ln.M.next at h ⊢;simp only [wideM] at h ⊢;by_cases h1:Ln.failed last=true
 ·rw [if_pos h1] at h;exact absurd rfl h
 ·have h1':Ln.failed last=false:=by simpa using h1
  simp only [h1',Bool.false_eq_true,if_false] at h ⊢;cases pend with
  | true=>
    by_cases h2:c=10
    ·subst h2;exact ⟨rfl,fun e=>absurd (show (1:Int)=2 from e) (by decide)⟩
    ·simp [h2] at h
  | false=>
    by_cases h2:c=10
    ·simp [h2] at h
    ·simp only [Bool.false_eq_true,if_false,if_neg h2];refine ⟨rfl,?_⟩;split
     ·decide
     ·split<;>decide
theorem byte_wide (m:Ln.M) (hl:m.lf=false) (hc:m.cr=false) (c:UInt8) (h:m.clear.next c≠3):(wideM p m).byte c=wideM p (m.byte c):=by have h1:=(next_wide (p:=p) m.clear hl hc c h).1;have e1:(wideM p m).clear=wideM p m.clear:=rfl;unfold Ln.M.byte;rw [e1,h1];rfl
theorem first_wide (h:(t.first 0 b s).1=0) (ht:t.Strict):(t.wide p).first p b s=(0,(t.first 0 b s).2.wide p)∧(t.first 0 b s).2.Strict:=by
 unfold T.first at h ⊢;by_cases h0:s= []
 ·rw [if_pos h0,none0] at h
  exact absurd (show (400:Nat)=0 from h) (by decide)
 ·rw [if_neg h0] at h ⊢;rw [if_neg h0];obtain ⟨m,x,k,e,hq⟩:∃m x k e,Rq.request (Rq.clOf 0) b.od s=(m,x,k,e):=⟨_,_,_,_,rfl⟩;rw [hq] at h ⊢;simp only at h ⊢;by_cases he:e=0
  ·subst he;rw [Rq.clOf_zero] at hq;rw [(Rq.extends_all hq).1 (Rq.clOf p)];exact ⟨rfl,ht.lf,ht.cr⟩
  ·rw [if_neg he] at h;exact absurd h he
theorem fin_wide (ht:t.Strict):(t.wide p).fin=t.fin.wide p∧t.fin.Strict:=⟨rfl,ht.lf,ht.cr⟩
theorem enter_wide (st:Nat) (most:Int):(t.wide p).enter p st most=(t.enter 0 st most).wide p∧(t.enter 0 st most).Strict:=⟨rfl,(of_strict most).1,(of_strict most).2⟩
theorem endHead_wide (h:(t.endHead 0 b).1=0) (hn:∀d:Int × Int × Int,d=Frm.decideV (Frm.clOf 0) b.ch b.x3 t.r.k t.r.fs→d.2.2≠0→d.2.2.toNat≠0) (ht:t.Strict) :
 (t.wide p).endHead p b=(0,(t.endHead 0 b).2.wide p)∧(t.endHead 0 b).2.Strict:=by
 unfold T.endHead at h ⊢;have hd:Frm.decideV (Frm.clOf p) b.ch b.x3 (t.wide p).r.k (t.wide p).r.fs=Frm.decideV (Frm.clOf p) b.ch b.x3 t.r.k t.r.fs:=rfl;rw [hd];by_cases h1:(Frm.decideV (Frm.clOf 0) b.ch b.x3 t.r.k t.r.fs).2.2=0
 ·rw [decide_wide h1 p];generalize Frm.decideV (Frm.clOf 0) b.ch b.x3 t.r.k t.r.fs=d at h h1 ⊢;simp only [ne_eq,h1,not_true_eq_false,if_false];by_cases h2:d.1=2
  ·simp only [if_pos h2];exact ⟨rfl,ht.lf,ht.cr⟩
  ·simp only [if_neg h2];by_cases h3:d.2.1=0
   ·simp only [if_pos h3];exact ⟨rfl,ht.lf,ht.cr⟩
   ·simp only [if_neg h3];exact ⟨rfl,ht.lf,ht.cr⟩
 ·have:=hn _ rfl h1;simp only [ne_eq,h1,not_false_eq_true,if_true] at h;exact absurd h this
theorem fields_wide (h:(t.fields 0 b s).1=0) (hn:∀d:Int × Int × Int,d=Frm.decideV (Frm.clOf 0) b.ch b.x3 t.r.k t.r.fs→d.2.2≠0→d.2.2.toNat≠0) (ht:t.Strict) :
 (t.wide p).fields p b s=(0,(t.fields 0 b s).2.wide p)∧(t.fields 0 b s).2.Strict:=by
 unfold T.fields at h ⊢;by_cases h0:s= []
 ·rw [if_pos h0] at h ⊢;rw [if_pos h0];exact endHead_wide h hn ht
 ·rw [if_neg h0] at h ⊢;rw [if_neg h0];obtain ⟨l,hl⟩:=listE_zero h fun e he=>fieldV_err he;have hl':fieldV p t.hl t.r.fs s b.x1=.inr l:=field_wide hl p;have e1:fieldV p (t.wide p).hl (t.wide p).r.fs s b.x1=.inr l:=hl';rw [e1,hl];exact ⟨rfl,ht.lf,ht.cr⟩
theorem trail_wide (h:(t.trail 0 b s).1=0) (ht:t.Strict):(t.wide p).trail p b s=(0,(t.trail 0 b s).2.wide p)∧(t.trail 0 b s).2.Strict:=by
 unfold T.trail at h ⊢;by_cases h0:s= []
 ·rw [if_pos h0,if_pos h0];exact ⟨rfl,ht.lf,ht.cr⟩
 ·rw [if_neg h0] at h ⊢;rw [if_neg h0];obtain ⟨l,hl⟩:=listE_zero h fun e he=>fieldV_err he;have e1:fieldV p (t.wide p).bl (t.wide p).r.ts s b.x5=.inr l:=field_wide hl p;rw [e1,hl];exact ⟨rfl,ht.lf,ht.cr⟩
theorem chunk_wide (h:(t.chunk 0 b s).1=0) (hn:∀z:Int × Int,z=Chk.sizeV false false b.x4 b.x3 s→z.2≠0→z.2.toNat≠0) (ht:t.Strict) :
 (t.wide p).chunk p b s=(0,(t.chunk 0 b s).2.wide p)∧(t.chunk 0 b s).2.Strict:=by
 unfold T.chunk at h ⊢;rw [none0,none0] at h ⊢;by_cases h1:(Chk.sizeV false false b.x4 b.x3 s).2=0
 ·rw [size_wide h1 (Qk.has p 27) (Qk.has p 28)];have hb:(t.wide p).r.body=t.r.body:=rfl;rw [hb];generalize Chk.sizeV false false b.x4 b.x3 s=z at h h1 ⊢;simp only [ne_eq,h1,not_true_eq_false,if_false] at h ⊢;by_cases h2:z.1=0
  ·simp only [if_pos h2];exact ⟨rfl,ht.lf,ht.cr⟩
  ·simp only [if_neg h2] at h ⊢;by_cases h3:b.x3-(t.r.body.length:Int)<z.1
   ·simp only [if_pos h3] at h
    exact absurd h (by decide)
   ·simp only [if_neg h3];exact ⟨rfl,ht.lf,ht.cr⟩
 ·have:=hn _ rfl h1;simp only [ne_eq,h1,not_false_eq_true,if_true] at h;exact absurd h this
theorem line_wide (h:(t.line 0 b s).1=0) (ht:t.Strict):(t.wide p).line p b s=(0,(t.line 0 b s).2.wide p)∧(t.line 0 b s).2.Strict:=by
 unfold T.line at h ⊢;have e:(t.wide p).st=t.st:=rfl;rw [e];by_cases h1:t.st=1
 ·simp only [if_pos h1] at h ⊢;exact first_wide h ht
 simp only [if_neg h1] at h ⊢;by_cases h2:t.st=2
 ·simp only [if_pos h2] at h ⊢;exact fields_wide h (fun d hd hn=>decide_pos hd hn) ht
 simp only [if_neg h2] at h ⊢;by_cases h3:t.st=4
 ·simp only [if_pos h3] at h ⊢;exact chunk_wide h (fun z hz hn=>size_pos hz hn) ht
 simp only [if_neg h3] at h ⊢;by_cases h4:t.st=7
 ·simp only [if_pos h4] at h ⊢;exact trail_wide h ht
 simp only [if_neg h4] at h ⊢;exact ⟨rfl,(enter_wide (p:=p) (t:=t) 4 b.x0).2⟩
theorem inLine_wide {u:Bool} (h:t.inLine 0 b c=(.live t2,u)) (ht:t.Strict):(t.wide p).inLine p b c=(.live (t2.wide p),u)∧t2.Strict:=by
 unfold T.inLine at h ⊢;have e1:(t.wide p).rd.clear=wideM p t.rd.clear:=rfl;have e2:(t.wide p).rd=wideM p t.rd:=rfl;by_cases h3:t.rd.clear.next c=3
 ·rw [h3] at h
  exact absurd (congrArg Prod.fst h) (by simp)
 obtain ⟨h1,h2⟩:=next_wide (p:=p) t.rd.clear ht.lf ht.cr c h3;have hb:=byte_wide (p:=p) t.rd ht.lf ht.cr c h3;rw [e1,e2,h1,hb];generalize hn:t.rd.clear.next c=n at h h1 h2 h3 ⊢;simp only at h ⊢;by_cases h0:n=0
 ·simp only [if_pos h0] at h ⊢;obtain ⟨rfl,rfl⟩:({t with rd:=t.rd.byte c}:T)=t2∧true=u:=by simpa using h
  exact ⟨rfl,ht.lf,ht.cr⟩
 simp only [if_neg h0,if_neg h3] at h ⊢;by_cases h4:n=4
 ·simp only [if_pos h4,none0,Bool.and_false,Bool.false_eq_true,if_false] at h
  exact absurd (congrArg Prod.fst h) (by simp)
 simp only [if_neg h4] at h ⊢;have hl:(wideM p (t.rd.byte c)).line=(t.rd.byte c).line:=rfl;rw [hl];have e5:({t.wide p with rd:=wideM p (t.rd.byte c)}:T)=({t with rd:=t.rd.byte c}:T).wide p:=rfl;rw [e5];have hs:({t with rd:=t.rd.byte c}:T).Strict:=⟨ht.lf,ht.cr⟩;generalize ({t with rd:=t.rd.byte c}:T)=t1 at h hs ⊢;generalize (t.rd.byte c).line=s at h ⊢;obtain ⟨hq,rfl⟩:=Prod.mk.inj h;by_cases hz:(t1.line 0 b s).1=0
 ·obtain ⟨k1,k2⟩:=line_wide (p:=p) hz hs;rw [k1];unfold ends at hq ⊢;rw [if_pos hz] at hq;obtain rfl:(t1.line 0 b s).2=t2:=by simpa using hq
  exact ⟨rfl,k2⟩
 ·unfold ends at hq;rw [if_neg hz] at hq;cases hq
theorem counted_wide:(t.wide p).counted=t.counted.wide p:=by unfold T.counted;have e:(t.wide p).cnt=t.cnt:=rfl;rw [e];cases t.cnt<;>rfl
theorem endData_wide (ht:t.Strict):(t.wide p).endData p=(t.endData 0).wide p∧(t.endData 0).Strict:=by
 unfold T.endData;have e:(t.wide p).r.ch=t.r.ch:=rfl;rw [e];cases t.r.ch with
 | true=>exact enter_wide 6 0
 | false=>exact fin_wide ht
theorem look_wide {u:Bool} (h:t.look 0 b c=(.live t2,u)) (ht:t.Strict):(t.wide p).look p b c=(.live (t2.wide p),u)∧t2.Strict:=by
 unfold T.look at h ⊢;have e:(t.wide p).st=t.st:=rfl;have e2:(t.wide p).left=t.left:=rfl;have e3:(t.wide p).keep c=(t.keep c).wide p:=rfl;rw [e,e2,e3];by_cases h1:bodied t.st=true
 ·simp only [if_pos h1] at h ⊢;have hk:(t.keep c).Strict:=⟨ht.lf,ht.cr⟩;by_cases h2:t.left=1
  ·simp only [if_pos h2] at h ⊢;obtain ⟨rfl,rfl⟩:(t.keep c).endData 0=t2∧true=u:=by simpa using h
   rw [(endData_wide (p:=p) hk).1];exact ⟨rfl,(endData_wide (p:=p) hk).2⟩
  ·simp only [if_neg h2] at h ⊢;obtain ⟨rfl,rfl⟩:t.keep c=t2∧true=u:=by simpa using h
   exact ⟨rfl,hk⟩
 ·simp only [if_neg h1] at h ⊢;by_cases h2:headed t.st=true
  ·simp only [if_pos h2] at h ⊢;rw [counted_wide];have e4:(t.counted.wide p).size=t.counted.size:=rfl;rw [e4]
   by_cases h3:b.x2<(t.counted.size:Int)
   ·simp only [if_pos h3] at h
    exact absurd (congrArg Prod.fst h) (by simp)
   ·simp only [if_neg h3] at h ⊢;exact inLine_wide h ⟨by rw [counted_rd];exact ht.lf,by rw [counted_rd];exact ht.cr⟩
  ·simp only [if_neg h2] at h ⊢;exact inLine_wide h ht
theorem take_wide (h:t.take 0 b c=.live t2) (ht:t.Strict):(t.wide p).take p b c=.live (t2.wide p)∧t2.Strict:=by
 unfold T.take at h ⊢;have e:({t.wide p with cnt:=false}:T)=({t with cnt:=false}:T).wide p:=rfl;have hs:({t with cnt:=false}:T).Strict:=⟨ht.lf,ht.cr⟩;rw [e];generalize ({t with cnt:=false}:T)=t0 at h hs ⊢;rcases hq:t0.look 0 b c with ⟨q,u⟩;rw [hq] at h;cases q with
 | dead e o=>cases u<;>cases h
 | live t1=>
   obtain ⟨k1,k2⟩:=look_wide (p:=p) hq hs;rw [k1];cases u with
   | true=>
     obtain rfl:t1=t2:=by simpa using h
     exact ⟨rfl,k2⟩
   | false=>
     simp only at h ⊢;rcases hq2:t1.look 0 b c with ⟨q2,u2⟩;rw [hq2] at h;simp only at h;subst h;obtain ⟨k3,k4⟩:=look_wide (p:=p) hq2 k2;rw [k3];exact ⟨rfl,k4⟩
theorem new_wide:T.new p b=(T.new 0 b).wide p∧(T.new 0 b).Strict:=⟨rfl,none0 1,none0 2⟩
end
end Go.Proofs.YtimoakmcelocfaaGreat.Pg
namespace Go.Proofs.YtimoakmcelocfaaGreat.Pg
open Go.RowKit Base Txt Par
structure RelW (m:Ln.M) (q:Ln.R):Prop where
 lf:q.lf=m.lf
 cr:q.cr=m.cr
 most:q.most=m.most
 dead:q.dead=false
 CR:q.CR=m.pend
 B:q.B=if Ln.ended m.last then [] else m.buf
structure Fresh (m:Ln.M):Prop where
 buf:(if Ln.ended m.last then [] else m.buf)= []
 pend:m.pend=false
theorem RelW.step {m:Ln.M} {q:Ln.R} (h:RelW m q) (hm:m.Ok) (hf:Ln.failed m.last=false) (c:UInt8) :
 q.how c=m.clear.next c∧(Ln.failed (m.clear.next c)=false→RelW (m.byte c) (q.byte c)∧(q.byte c).L=(m.byte c).line):=by
 have hr:Ln.Rel m {q with L:=m.line}:=⟨h.lf,h.cr,h.most,h.dead.trans hf.symm,rfl,fun _=>h.CR,fun _=>h.B⟩;have h1:=Ln.step_how hr hm c;have h2:=Ln.step_rel hr hm c;have e:({q with L:=m.line}:Ln.R).byte c=q.byte c:=by simp [Ln.R.byte,Ln.R.start,Ln.R.fin,Ln.R.die,h.dead]
 rw [e] at h2;refine ⟨h1,fun hn=>?_⟩;exact ⟨⟨h2.lf,h2.cr,h2.most,h2.dead.trans hn,h2.CR hn,h2.B hn⟩,h2.L⟩
theorem Fresh.isNew {t:T} (h:Fresh t.rd):t.isNew=true:=by
 have h1:t.rd.len=0:=by
  have:=congrArg List.length h.buf;unfold Ln.M.len;split
  ·rfl
  ·rename_i hn;rw [if_neg hn] at this;exact this
 unfold T.isNew;rw [h1,h.pend];rfl
structure R0 (p:Nat) (b:Bd) (t:T) (s:S):Prop where
 e:s.e=0
 st:t.st=s.st+1
 r:s.r=t.r
 out:s.out=t.out
 head:s.head=t.size
 hl:s.st≤1→s.lines=t.hl
 bl:s.st=6→s.lines=t.bl
 bl0:s.st≠6→t.bl=0
 left:Par.bodied s.st=true→s.left=t.left
 rd:Par.bodied s.st=false→RelW t.rd s.rd
 fr:Par.bodied s.st=true→Fresh t.rd
 lf:t.rd.lf=Qk.has p 1
 cr:t.rd.cr=Qk.has p 2
 most:s.st≠5→t.rd.most=Ln.mid b.x0
 beh:s.st=5→t.r.body≠ []
 ch:t.r.ch=decide (3≤s.st)
structure RR (p:Nat) (b:Bd) (t:T) (s:S):Prop extends R0 p b t s where
 fresh:s.fresh=t.next
 clean:s.clean=(t.st==1&&t.isNew)
def RQ (p:Nat) (b:Bd):Q→S→Prop
 | .live t,s=>RR p b t s
 | .dead e o,s=>s.e=e∧e≠0∧s.out=o∧s.clean=false
section
variable {p:Nat} {b:Bd} {t:T} {s:S}
theorem Fresh.nl {m:Ln.M} (h:Fresh m) (hl:m.lf=Qk.has p 1) (hc:m.cr=Qk.has p 2) (hm:m.most=Ln.mid b.x0):RelW m (nl p b.x0):=
 ⟨hl.symm,hc.symm,hm.symm,rfl,h.pend.symm,h.buf.symm⟩
theorem fresh_of (most:Int):Fresh (Ln.M.of p most):=⟨rfl,rfl⟩
theorem next_st (h3:t.st≠3) (h4:t.st≠4):t.next=false:=by unfold T.next;rw [beq_eq_false_iff_ne.2 h3,beq_eq_false_iff_ne.2 h4];rfl
theorem next_body (h:t.r.body≠ []):t.next=false:=by
 unfold T.next;have:t.r.body.isEmpty=false:=by
  cases hb:t.r.body with
  | nil=>exact absurd hb h
  | cons _ _=>rfl
 rw [this,Bool.false_and,Bool.and_false]
theorem clean_st (h:t.st≠1):(t.st==1&&t.isNew)=false:=by rw [beq_eq_false_iff_ne.2 h];rfl
theorem ends_err {e:Nat} {t:T} (he:e≠0):ends (e,t)=.dead e t.out:=if_neg he
theorem fail_sim {e:Nat} (h:R0 p b t s) (he:e≠0):RQ p b (.dead e t.out) (s.fail e):=⟨rfl,he,h.out,rfl⟩
theorem bod (h:R0 p b t s):Pg.bodied t.st=Par.bodied s.st:=by
 rw [h.st];unfold Pg.bodied Par.bodied;have e1:(s.st+1==3)=(s.st==2):=by rw [Bool.eq_iff_iff,beq_iff_eq,beq_iff_eq];omega
 have e2:(s.st+1==5)=(s.st==4):=by rw [Bool.eq_iff_iff,beq_iff_eq,beq_iff_eq];omega
 rw [e1,e2]
theorem hed (h:R0 p b t s):Pg.headed t.st=Par.headed s.st:=by
 rw [h.st];unfold Pg.headed Par.headed;have e1:(s.st+1==1)=(s.st==0):=by rw [Bool.eq_iff_iff,beq_iff_eq,beq_iff_eq];omega
 have e2:(s.st+1==2)=(s.st==1):=by rw [Bool.eq_iff_iff,beq_iff_eq,beq_iff_eq];omega
 have e3:(s.st+1==7)=(s.st==6):=by rw [Bool.eq_iff_iff,beq_iff_eq,beq_iff_eq];omega
 rw [e1,e2,e3]
theorem long_sim (h:R0 p b t s):Pg.longE t.st=Par.longE s.st∧Par.longE s.st≠0:=by
 rw [h.st];unfold Pg.longE Par.longE Par.headed;by_cases h0:s.st=0
 ·simp [h0]
 ·by_cases h1:s.st=1
  ·simp [h1]
  ·by_cases h6:s.st=6
   ·simp [h6]
   ·rw [if_neg (by omega),if_neg (by omega),if_neg h0,if_neg (by simp [h0,h1,h6])];decide
theorem whole_sim (h:R0 p b t s) (hf:Fresh t.rd) (h5:s.st≠5):RR p b t.fin (s.whole p b) where
 e:=h.e
 st:=rfl
 r:=rfl
 out:=by show s.out ++ [s.r]=t.out ++ [t.r];rw [h.out,h.r]
 head:=rfl
 hl:=fun _=>rfl
 bl:=fun e=>absurd e (by show (0:Nat)≠6;decide)
 bl0:=fun _=>rfl
 left:=fun e=>absurd e (by show Par.bodied 0≠true;decide)
 rd:=fun _=>hf.nl h.lf h.cr (h.most h5)
 fr:=fun e=>absurd e (by show Par.bodied 0≠true;decide)
 lf:=h.lf
 cr:=h.cr
 most:=fun _=>h.most h5
 beh:=fun e=>absurd e (by show (0:Nat)≠5;decide)
 ch:=rfl
 fresh:=(next_st (t:=t.fin) (by show (1:Nat)≠3;decide) (by show (1:Nat)≠4;decide)).symm
 clean:=by
  have:t.fin.isNew=true:=Fresh.isNew (t:=t.fin) hf
  show true=((1:Nat)==1&&t.fin.isNew);rw [this];rfl
theorem first_sim (h:R0 p b t s) (hf:Fresh t.rd) (hc:s.clean=false) (hfr:s.fresh=false) (hs:s.st=0) (ln:List UInt8):RQ p b (ends (t.first p b ln)) (s.first p b ln):=by
 have ht:t.st=1:=by rw [h.st,hs]
 unfold T.first S.first;by_cases h0:ln= []
 ·simp only [if_pos h0];cases hq:Qk.has p 0 with
  | true=>
    simp only [if_true]
    exact {h with
     fresh:=hfr.trans (next_st (t:=t) (by omega) (by omega)).symm
     clean:=by
      show true= _
      rw [hf.isNew,ht];rfl}
  | false=>
    simp only [Bool.false_eq_true,if_false];rw [ends_err (by decide)]
    exact fail_sim h (by decide)
 ·simp only [if_neg h0];generalize Rq.request (Rq.clOf p) b.od ln=q;by_cases hq:q.2.2.2=0
  ·simp only [hq,if_true,ne_eq,not_true_eq_false,if_false];show RR p b _ _
   exact {
    e:=h.e
    st:=rfl
    r:=by show ({s.r with m:=ba q.1,x:=ba q.2.1,k:=(q.2.2.1:Int)}:Rec.R)={t.r with m:=ba q.1,x:=ba q.2.1,k:=(q.2.2.1:Int)};rw [h.r]
    out:=h.out
    head:=h.head
    hl:=fun _=>h.hl (by omega)
    bl:=fun e=>absurd e (by show (1:Nat)≠6;decide)
    bl0:=fun _=>h.bl0 (by omega)
    left:=fun e=>absurd e (by show Par.bodied 1≠true;decide)
    rd:=fun _=>h.rd (by rw [hs];rfl)
    fr:=fun e=>absurd e (by show Par.bodied 1≠true;decide)
    lf:=h.lf
    cr:=h.cr
    most:=fun _=>h.most (by omega)
    beh:=fun e=>absurd e (by show (1:Nat)≠5;decide)
    ch:=by show t.r.ch=decide (3≤1);rw [h.ch,hs];rfl
    fresh:=hfr.trans (next_st (t:={t with r:={t.r with m:=ba q.1,x:=ba q.2.1,k:=(q.2.2.1:Int)},st:=2}) (by show (2:Nat)≠3;decide) (by show (2:Nat)≠4;decide)).symm
    clean:=hc}
  ·rw [if_neg hq,if_pos hq,ends_err hq];exact fail_sim h hq
theorem over_sim (h:R0 p b t s) (ok:t.Ok) (hf:Fresh t.rd) (hc:s.clean=false) (hs:s.st=1):RQ p b (ends (t.endHead p b)) (s.over p b):=by
 have ht:t.st=2:=by rw [h.st,hs]
 have hbody:t.r.body= []:=ok.early (by omega);have hnew:=hf.isNew;unfold T.endHead S.over;rw [h.r];have hp:=fun h1=>decide_pos (d:=Frm.decideV (Frm.clOf p) b.ch b.x3 t.r.k t.r.fs) rfl h1;generalize Frm.decideV (Frm.clOf p) b.ch b.x3 t.r.k t.r.fs=d at hp ⊢;by_cases h1:d.2.2=0
 ·simp only [h1,ne_eq,not_true_eq_false,if_false];by_cases h2:d.1=2
  ·simp only [if_pos h2];show RR p b _ _
   exact {
    e:=h.e
    st:=rfl
    r:=rfl
    out:=h.out
    head:=h.head
    hl:=fun e=>absurd e (by show¬(3:Nat)≤1;decide)
    bl:=fun e=>absurd e (by show (3:Nat)≠6;decide)
    bl0:=fun _=>h.bl0 (by omega)
    left:=fun e=>absurd e (by show Par.bodied 3≠true;decide)
    rd:=fun _=>hf.nl h.lf h.cr (h.most (by omega))
    fr:=fun e=>absurd e (by show Par.bodied 3≠true;decide)
    lf:=h.lf
    cr:=h.cr
    most:=fun _=>h.most (by omega)
    beh:=fun e=>absurd e (by show (3:Nat)≠5;decide)
    ch:=rfl
    fresh:=by show true=(((4:Nat)==3|| (4:Nat)==4)&&(t.r.body.isEmpty&&t.isNew));rw [hbody,hnew];rfl
    clean:=hc.trans (clean_st (t:={t with r:={t.r with ch:=true},st:=4}) (by show (4:Nat)≠1;decide)).symm}
  ·simp only [if_neg h2];by_cases h3:d.2.1=0
   ·simp only [if_pos h3]
    exact whole_sim h hf (by omega)
   ·simp only [if_neg h3];show RR p b _ _
    exact {
     e:=h.e
     st:=rfl
     r:=rfl
     out:=h.out
     head:=h.head
     hl:=fun e=>absurd e (by show¬(2:Nat)≤1;decide)
     bl:=fun e=>absurd e (by show (2:Nat)≠6;decide)
     bl0:=fun _=>h.bl0 (by omega)
     left:=fun _=>rfl
     rd:=fun e=>absurd e (by show Par.bodied 2≠false;decide)
     fr:=fun _=>hf
     lf:=h.lf
     cr:=h.cr
     most:=fun _=>h.most (by omega)
     beh:=fun e=>absurd e (by show (2:Nat)≠5;decide)
     ch:=by show t.r.ch=decide (3≤2);rw [h.ch,hs];rfl
     fresh:=by show true=(((3:Nat)==3|| (3:Nat)==4)&&(t.r.body.isEmpty&&t.isNew));rw [hbody,hnew];rfl
     clean:=hc.trans (clean_st (t:={t with left:=d.2.1.toNat,st:=3}) (by show (3:Nat)≠1;decide)).symm}
 ·simp only [ne_eq,h1,not_false_eq_true,if_true];rw [ends_err (hp h1)]
  exact fail_sim h (hp h1)
theorem fields_sim (h:R0 p b t s) (ok:t.Ok) (hf:Fresh t.rd) (hc:s.clean=false) (hfr:s.fresh=false) (hs:s.st=1) (ln:List UInt8):RQ p b (ends (t.fields p b ln)) (s.fields p b ln):=by
 have ht:t.st=2:=by rw [h.st,hs]
 unfold T.fields S.fields;by_cases h0:ln= []
 ·simp only [if_pos h0];exact over_sim h ok hf hc hs
 ·simp only [if_neg h0];rw [h.r,h.hl (by omega)];cases hv:fieldV p t.hl t.r.fs ln b.x1 with
  | inl e=>
    have he:e≠0:=by rcases fieldV_err hv with e1 | e1<;>rw [e1]<;>decide
    simp only [listE];rw [ends_err he];exact ⟨rfl,he,h.out,rfl⟩
  | inr l=>
    show RR p b _ _
    exact {
     e:=h.e
     st:=h.st
     r:=rfl
     out:=h.out
     head:=h.head
     hl:=fun _=>rfl
     bl:=fun e=>absurd e (by show s.st≠6;omega)
     bl0:=fun _=>h.bl0 (by omega)
     left:=fun e=>absurd e (by show Par.bodied s.st≠true;rw [hs];decide)
     rd:=fun _=>h.rd (by rw [hs];rfl)
     fr:=fun e=>absurd e (by show Par.bodied s.st≠true;rw [hs];decide)
     lf:=h.lf
     cr:=h.cr
     most:=fun _=>h.most (by omega)
     beh:=fun e=>absurd e (by show s.st≠5;omega)
     ch:=h.ch
     fresh:=hfr.trans (next_st (t:={t with hl:=t.hl+1,r:={t.r with fs:=l}}) (by show t.st≠3;omega) (by show t.st≠4;omega)).symm
     clean:=hc.trans (clean_st (t:={t with hl:=t.hl+1,r:={t.r with fs:=l}}) (by show t.st≠1;omega)).symm}
theorem trail_sim (h:R0 p b t s) (hf:Fresh t.rd) (hc:s.clean=false) (hfr:s.fresh=false) (hs:s.st=6) (ln:List UInt8):RQ p b (ends (t.trail p b ln)) (s.trail p b ln):=by
 have ht:t.st=7:=by rw [h.st,hs]
 unfold T.trail S.trail;by_cases h0:ln= []
 ·simp only [if_pos h0]
  exact whole_sim h hf (by omega)
 ·simp only [if_neg h0];rw [h.r,h.bl hs];cases hv:fieldV p t.bl t.r.ts ln b.x5 with
  | inl e=>
    have he:e≠0:=by rcases fieldV_err hv with e1 | e1<;>rw [e1]<;>decide
    simp only [listE];rw [ends_err he];exact ⟨rfl,he,h.out,rfl⟩
  | inr l=>
    show RR p b _ _
    exact {
     e:=h.e
     st:=h.st
     r:=rfl
     out:=h.out
     head:=h.head
     hl:=fun e=>absurd e (by show¬s.st≤1;omega)
     bl:=fun _=>rfl
     bl0:=fun e=>absurd hs e
     left:=fun e=>absurd e (by show Par.bodied s.st≠true;rw [hs];decide)
     rd:=fun _=>h.rd (by rw [hs];rfl)
     fr:=fun e=>absurd e (by show Par.bodied s.st≠true;rw [hs];decide)
     lf:=h.lf
     cr:=h.cr
     most:=fun _=>h.most (by omega)
     beh:=fun e=>absurd e (by show s.st≠5;omega)
     ch:=h.ch
     fresh:=hfr.trans (next_st (t:={t with bl:=t.bl+1,r:={t.r with ts:=l}}) (by show t.st≠3;omega) (by show t.st≠4;omega)).symm
     clean:=hc.trans (clean_st (t:={t with bl:=t.bl+1,r:={t.r with ts:=l}}) (by show t.st≠1;omega)).symm}
theorem chunk_sim (h:R0 p b t s) (hf:Fresh t.rd) (hc:s.clean=false) (hfr:s.fresh=false) (hs:s.st=3) (ln:List UInt8):RQ p b (ends (t.chunk p b ln)) (s.chunk p b ln):=by
 have ht:t.st=4:=by rw [h.st,hs]
 unfold T.chunk S.chunk;rw [h.r];have hp:=fun h1=>size_pos (z:=Chk.sizeV (Qk.has p 27) (Qk.has p 28) b.x4 b.x3 ln) rfl h1;generalize Chk.sizeV (Qk.has p 27) (Qk.has p 28) b.x4 b.x3 ln=z at hp ⊢;by_cases h1:z.2=0
 ·simp only [h1,ne_eq,not_true_eq_false,if_false];by_cases h2:z.1=0
  ·simp only [if_pos h2];show RR p b _ _
   exact {
    e:=h.e
    st:=rfl
    r:=rfl
    out:=h.out
    head:=h.head
    hl:=fun e=>absurd e (by show¬(6:Nat)≤1;decide)
    bl:=fun _=>(h.bl0 (by omega)).symm
    bl0:=fun e=>absurd rfl e
    left:=fun e=>absurd e (by show Par.bodied 6≠true;decide)
    rd:=fun _=>hf.nl h.lf h.cr (h.most (by omega))
    fr:=fun e=>absurd e (by show Par.bodied 6≠true;decide)
    lf:=h.lf
    cr:=h.cr
    most:=fun _=>h.most (by omega)
    beh:=fun e=>absurd e (by show (6:Nat)≠5;decide)
    ch:=by show t.r.ch=decide (3≤6);rw [h.ch,hs];rfl
    fresh:=hfr.trans (next_st (t:={t with st:=7}) (by show (7:Nat)≠3;decide) (by show (7:Nat)≠4;decide)).symm
    clean:=hc.trans (clean_st (t:={t with st:=7}) (by show (7:Nat)≠1;decide)).symm}
  ·simp only [if_neg h2];by_cases h3:b.x3-(t.r.body.length:Int)<z.1
   ·simp only [if_pos h3];rw [ends_err (by decide)]
    exact fail_sim h (by decide)
   ·simp only [if_neg h3];show RR p b _ _
    exact {
     e:=h.e
     st:=rfl
     r:=rfl
     out:=h.out
     head:=h.head
     hl:=fun e=>absurd e (by show¬(4:Nat)≤1;decide)
     bl:=fun e=>absurd e (by show (4:Nat)≠6;decide)
     bl0:=fun _=>h.bl0 (by omega)
     left:=fun _=>rfl
     rd:=fun e=>absurd e (by show Par.bodied 4≠false;decide)
     fr:=fun _=>hf
     lf:=h.lf
     cr:=h.cr
     most:=fun _=>h.most (by omega)
     beh:=fun e=>absurd e (by show (4:Nat)≠5;decide)
     ch:=by show t.r.ch=decide (3≤4);rw [h.ch,hs];rfl
     fresh:=hfr.trans (next_st (t:={t with left:=z.1.toNat,st:=5}) (by show (5:Nat)≠3;decide) (by show (5:Nat)≠4;decide)).symm
     clean:=hc.trans (clean_st (t:={t with left:=z.1.toNat,st:=5}) (by show (5:Nat)≠1;decide)).symm}
 ·simp only [ne_eq,h1,not_false_eq_true,if_true];rw [ends_err (hp h1)]
  exact fail_sim h (hp h1)
theorem enter_sim (h:R0 p b t s) (hs:s.st=5):R0 p b (t.enter p 4 b.x0) {s with st:=3,rd:=nl p b.x0} where
 e:=h.e
 st:=rfl
 r:=h.r
 out:=h.out
 head:=h.head
 hl:=fun e=>absurd e (by show¬(3:Nat)≤1;decide)
 bl:=fun e=>absurd e (by show (3:Nat)≠6;decide)
 bl0:=fun _=>h.bl0 (by omega)
 left:=fun e=>absurd e (by show Par.bodied 3≠true;decide)
 rd:=fun _=>(fresh_of b.x0).nl rfl rfl rfl
 fr:=fun e=>absurd e (by show Par.bodied 3≠true;decide)
 lf:=rfl
 cr:=rfl
 most:=fun _=>rfl
 beh:=fun e=>absurd e (by show (3:Nat)≠5;decide)
 ch:=by show t.r.ch=decide (3≤3);rw [h.ch,hs];rfl
theorem line_sim (h:R0 p b t s) (ok:t.Ok) (hf:Fresh t.rd) (hc:s.clean=false) (hfr:s.fresh=false) (hn:Par.bodied s.st=false) (ln:List UInt8):RQ p b (ends (t.line p b ln)) (s.ended p b ln):=by
 have h7:=ok.st;have ht:=h.st;have hn2:s.st≠2∧s.st≠4:=by constructor<;> (intro e;rw [e] at hn;exact absurd hn (by decide))
 have hcs:s.st=0∨s.st=1∨s.st=3∨s.st=5∨s.st=6:=by omega
 unfold T.line S.ended;rcases hcs with e | e | e | e | e
 ·rw [ht,e];exact first_sim h hf hc hfr e ln
 ·rw [ht,e];exact fields_sim h ok hf hc hfr e ln
 ·rw [ht,e];exact chunk_sim h hf hc hfr e ln
 ·rw [ht,e];have h1:=enter_sim h e;show RR p b (t.enter p 4 b.x0) {s with st:=3,rd:=nl p b.x0}
  exact {h1 with
   fresh:=hfr.trans (next_body (t:=t.enter p 4 b.x0) (h.beh e)).symm
   clean:=hc.trans (clean_st (t:=t.enter p 4 b.x0) (by show (4:Nat)≠1;decide)).symm}
 ·rw [ht,e];exact trail_sim h hf hc hfr e ln
theorem body_sim (h:R0 p b t s) (ok:t.Ok) (hc:s.clean=false) (hfr:s.fresh=false) (hn:Par.bodied s.st=true) (c:UInt8) :
 RR p b (if t.left=1 then (t.keep c).endData p else t.keep c) (s.bodyB p b c):=by
 have hst:s.st=2∨s.st=4:=by unfold Par.bodied at hn;simpa using hn
 have hl:1≤t.left:=ok.left (by rw [bod h];exact hn);have hle:=h.left hn;have hfr0:=h.fr hn;have hbd:(t.keep c).r.body≠ []:=by show t.r.body ++ [c]≠ [];simp
 have er:({s.r with body:=s.r.body ++ [c]}:Rec.R)={t.r with body:=t.r.body ++ [c]}:=by rw [h.r]
 have hk:R0 p b (t.keep c) {s with r:={s.r with body:=s.r.body ++ [c]},left:=s.left-1}:={
  e:=h.e
  st:=h.st
  r:=er
  out:=h.out
  head:=h.head
  hl:=h.hl
  bl:=h.bl
  bl0:=h.bl0
  left:=fun _=>by show s.left-1=t.left-1;rw [hle]
  rd:=fun e=>h.rd e
  fr:=fun _=>hfr0
  lf:=h.lf
  cr:=h.cr
  most:=h.most
  beh:=fun _=>hbd
  ch:=h.ch}
 unfold S.bodyB;by_cases h1:1<s.left
 ·rw [if_neg (by omega)];simp only [if_pos h1]
  exact {hk with
   fresh:=hfr.trans (next_body hbd).symm
   clean:=hc.trans (clean_st (t:=t.keep c) (by show t.st≠1;have:=h.st;omega)).symm}
 ·rw [if_pos (by omega)];simp only [if_neg h1];unfold T.endData;have e2:(t.keep c).r.ch=t.r.ch:=rfl;rw [e2,h.ch];rcases hst with e | e
  ·simp only [e,Nat.reduceLeDiff,decide_false,Bool.false_eq_true,if_false,if_true]
   have:=whole_sim hk hfr0 (by show s.st≠5;omega);rw [e] at this;exact this
  ·simp only [e,Nat.reduceLeDiff,decide_true,if_true,Nat.reduceEqDiff,if_false]
   exact {
    e:=h.e
    st:=rfl
    r:=er
    out:=h.out
    head:=h.head
    hl:=fun e=>absurd e (by show¬(5:Nat)≤1;decide)
    bl:=fun e=>absurd e (by show (5:Nat)≠6;decide)
    bl0:=fun _=>h.bl0 (by omega)
    left:=fun e=>absurd e (by show Par.bodied 5≠true;decide)
    rd:=fun _=>⟨rfl,rfl,rfl,rfl,rfl,rfl⟩
    fr:=fun e=>absurd e (by show Par.bodied 5≠true;decide)
    lf:=rfl
    cr:=rfl
    most:=fun e=>absurd rfl e
    beh:=fun _=>hbd
    ch:=by show t.r.ch=decide (3≤5);rw [h.ch,e];rfl
    fresh:=hfr.trans (next_st (t:=(t.keep c).enter p 6 0) (by show (6:Nat)≠3;decide) (by show (6:Nat)≠4;decide)).symm
    clean:=hc.trans (clean_st (t:=(t.keep c).enter p 6 0) (by show (6:Nat)≠1;decide)).symm}
theorem ended_fresh {m:Ln.M} {c:UInt8} {n:Int} (hn:m.clear.next c=n) (h:n=1∨n=2):Fresh (m.byte c)∧Ln.failed (m.byte c).last=false:=by
 have hl:(m.byte c).last=n:=hn;refine ⟨⟨?_,?_⟩,?_⟩
 ·rw [hl,if_pos];rcases h with rfl | rfl<;>rfl
 ·show (m.clear.next c==0&&c==13)=false;rw [hn];rcases h with rfl | rfl<;>rfl
 ·rw [hl];rcases h with rfl | rfl<;>rfl
theorem byte_some {m:Ln.M} {c:UInt8} (hm:m.next c=0):¬((m.told c).buf= []∧(m.next c==0&&c==13)=false):=by
 rintro ⟨h1,h2⟩;rw [hm] at h2;have hc:c≠13:=by
  intro e;rw [e] at h2
  exact absurd h2 (by decide)
 have hk:m.keeps c=true:=by
  unfold Ln.M.next at hm;unfold Ln.M.keeps;by_cases g1:Ln.failed m.last=true
  ·simp [g1] at hm
  ·by_cases g2:m.pend=true
   ·by_cases g3:c=10
    ·simp [g1,g2,g3] at hm
    ·by_cases g4:m.cr=true
     ·simp [g1,g2,g3,g4] at hm
     ·simp [g1,g2,g3,g4] at hm
   ·by_cases g3:c=10
    ·by_cases g4:m.lf=true
     ·simp [g1,g2,g3,g4] at hm
     ·simp [g1,g2,g3,g4] at hm
    ·by_cases g5:m.buf.length=m.most
     ·simp [g1,g2,g3,hc,g5] at hm
     ·simp [g1,g2,g3,hc,g5]
 have:(m.told c).buf=m.buf ++ [c]:=by show m.buf++(if m.keeps c then [c] else [])= _;rw [if_pos hk]
 rw [this] at h1;simp at h1
theorem more_new {c:UInt8} (hn:t.rd.clear.next c=0):({t with rd:=t.rd.byte c}:T).isNew=false:=by
 have h:=byte_some (m:=t.rd.clear) hn;have e1:(t.rd.byte c).len=(t.rd.clear.told c).buf.length:=by unfold Ln.M.len;have hl:(t.rd.byte c).last=0:=hn;rw [hl];rfl
 have e2:(t.rd.byte c).pend=(t.rd.clear.next c==0&&c==13):=rfl;unfold T.isNew;rw [Bool.eq_false_iff];intro hh;rw [Bool.and_eq_true,decide_eq_true_eq,Bool.not_eq_true'] at hh;exact h ⟨List.eq_nil_of_length_eq_zero (e1 ▸ hh.1),e2 ▸ hh.2⟩
theorem next_new (h:t.isNew=false):t.next=false:=by unfold T.next;rw [h,Bool.and_false,Bool.and_false]
theorem step_sim (h:R0 p b t s) (hn:Par.bodied s.st=false) (ok:t.Ok) (c:UInt8) :
 s.rd.how c=t.rd.clear.next c∧(Ln.failed (t.rd.clear.next c)=false→
  R0 p b {t with rd:=t.rd.byte c} {s with fresh:=false,rd:=s.rd.byte c}∧({t with rd:=t.rd.byte c}:T).Ok∧(s.rd.byte c).L=(t.rd.byte c).line):=by
 obtain ⟨h1,h2⟩:=(h.rd hn).step ok.rd ok.nf c;refine ⟨h1,fun hf=>?_⟩;obtain ⟨h3,h4⟩:=h2 hf
 exact ⟨{
  e:=h.e
  st:=h.st
  r:=h.r
  out:=h.out
  head:=h.head
  hl:=h.hl
  bl:=h.bl
  bl0:=h.bl0
  left:=h.left
  rd:=fun _=>h3
  fr:=fun e=>absurd (hn.symm.trans e) (by decide)
  lf:=h.lf
  cr:=h.cr
  most:=h.most
  beh:=h.beh
  ch:=h.ch},ok.byteR c hf,h4⟩
theorem nextM_is (m:Ln.M) (c:UInt8) (hp:m.pend=false):m.next c≠2:=by
 unfold Ln.M.next;split
 ·decide
 ·rw [hp];simp only [Bool.false_eq_true,if_false];split
  ·split<;>decide
  ·split
   ·decide
   ·split<;>decide
theorem took_sim (h:R0 p b t s) (hn:Par.bodied s.st=false) (ok:t.Ok) (hc:s.clean=false) (c:UInt8) {n:Int} (hnx:t.rd.clear.next c=n) :
 s.rd.how c=n∧(n=0→RR p b {t with rd:=t.rd.byte c} {s with fresh:=false,rd:=s.rd.byte c})∧
 (n=1∨n=2→RQ p b (ends (({t with rd:=t.rd.byte c}:T).line p b (t.rd.byte c).line)) (({s with fresh:=false,rd:=s.rd.byte c}:S).ended p b (s.rd.byte c).L)):=by
 obtain ⟨k1,k2⟩:=step_sim h hn ok c;rw [hnx] at k1 k2;refine ⟨k1,fun h0=>?_,fun h12=>?_⟩
 ·obtain ⟨k3,k4,k5⟩:=k2 (by rw [h0];rfl)
  have hw:=more_new (t:=t) (c:=c) (hnx.trans h0)
  exact {k3 with
   fresh:=(next_new hw).symm
   clean:=by
    show s.clean= _
    rw [hw,Bool.and_false];exact hc}
 ·obtain ⟨k3,k4,k5⟩:=k2 (by rcases h12 with e | e<;> (rw [e];rfl));have hf:=(ended_fresh hnx h12).1;rw [k5];exact line_sim k3 k4 hf hc rfl hn _
theorem plain_sim (h:R0 p b t s) (hn:Par.bodied s.st=false) (ok:t.Ok) (hc:s.clean=false) (hp:t.rd.pend=false) (h6:t.st≠6) (c:UInt8) :
 RQ p b (t.inLine p b c).1 (s.plain p b c):=by
 have hn':¬Par.bodied s.st=true:=by rw [hn];decide
 obtain ⟨n,hnx⟩:∃n,t.rd.clear.next c=n:=⟨_,rfl⟩;obtain ⟨k1,k2,k3⟩:=took_sim h hn ok hc c hnx;have h2:n≠2:=by rw [←hnx];exact nextM_is t.rd.clear c hp
 have his:=Ln.M.next_is t.rd.clear c;rw [hnx] at his;have h6':(t.st==6)=false:=beq_eq_false_iff_ne.2 h6;unfold T.inLine S.plain;simp only [if_neg hn',k1,hnx,h6',Bool.false_and,Bool.false_eq_true,if_false];rcases his with e | e | e | e | e
 ·subst e;exact k2 rfl
 ·subst e
  exact k3 (.inl rfl)
 ·exact absurd e h2
 ·subst e;exact ⟨rfl,by decide,h.out,rfl⟩
 ·subst e;obtain ⟨g1,g2⟩:=long_sim h;simp only [Int.reduceEq,if_false,if_true];rw [g1];exact ⟨rfl,g2,h.out,rfl⟩
theorem line_cnt (ln:List UInt8) :
 ((t.line p b ln).2.cnt=t.cnt∧(t.line p b ln).2.size=t.size∧((t.line p b ln).2.st=1→t.st=1)∧((t.line p b ln).2.st=2→t.st=1∨t.st=2))∨
 ((t.line p b ln).2.cnt=false∧(t.line p b ln).2.size=0∧(t.line p b ln).2.st=1∧t.st≠1):=by
 unfold T.line;by_cases h1:t.st=1
 ·left;simp only [if_pos h1];unfold T.first;split
  ·exact ⟨rfl,rfl,fun _=>h1,fun _=>.inl h1⟩
  ·simp only;split
   ·exact ⟨rfl,rfl,fun _=>h1,fun _=>.inl h1⟩
   ·exact ⟨rfl,rfl,fun _=>h1,fun _=>.inl h1⟩
 simp only [if_neg h1];by_cases h2:t.st=2
 ·simp only [if_pos h2];unfold T.fields;by_cases hs:ln= []
  ·simp only [if_pos hs];unfold T.endHead;generalize Frm.decideV (Frm.clOf p) b.ch b.x3 t.r.k t.r.fs=d;simp only;split
   ·exact .inl ⟨rfl,rfl,fun e=>absurd (h2.symm.trans e) (by decide),fun _=>.inr h2⟩
   ·split
    ·exact .inl ⟨rfl,rfl,fun e=>absurd e (by show (4:Nat)≠1;decide),fun _=>.inr h2⟩
    ·split
     ·exact .inr ⟨rfl,rfl,rfl,h1⟩
     ·exact .inl ⟨rfl,rfl,fun e=>absurd e (by show (3:Nat)≠1;decide),fun _=>.inr h2⟩
  ·simp only [if_neg hs];exact .inl ⟨by trivial,by trivial,fun e=>e,fun _=>.inr h2⟩
 simp only [if_neg h2];by_cases h4:t.st=4
 ·left;simp only [if_pos h4];unfold T.chunk;simp only;split
  ·exact ⟨rfl,rfl,fun e=>absurd (h4.symm.trans e) (by decide),fun e=>absurd (h4.symm.trans e) (by decide)⟩
  ·split
   ·exact ⟨rfl,rfl,fun e=>absurd e (by show (7:Nat)≠1;decide),fun e=>absurd e (by show (7:Nat)≠2;decide)⟩
   ·split
    ·exact ⟨rfl,rfl,fun e=>absurd (h4.symm.trans e) (by decide),fun e=>absurd (h4.symm.trans e) (by decide)⟩
    ·exact ⟨rfl,rfl,fun e=>absurd e (by show (5:Nat)≠1;decide),fun e=>absurd e (by show (5:Nat)≠2;decide)⟩
 simp only [if_neg h4];by_cases h7:t.st=7
 ·simp only [if_pos h7];unfold T.trail;by_cases hs:ln= []
  ·simp only [if_pos hs];exact .inr ⟨rfl,rfl,rfl,h1⟩
  ·simp only [if_neg hs];exact .inl ⟨by trivial,by trivial,fun e=>e,fun e=>absurd e h2⟩
 simp only [if_neg h7];exact .inl ⟨rfl,rfl,fun e=>absurd e (by show (4:Nat)≠1;decide),fun e=>absurd e (by show (4:Nat)≠2;decide)⟩
theorem R0.of_counted (h:R0 p b t s) (hc:t.cnt=false):R0 p b t.counted {s with head:=s.head+1,clean:=false}:=by
 have e:t.counted={t with cnt:=true,size:=t.size+1}:=by unfold T.counted;rw [hc];rfl
 rw [e];exact ⟨h.e,h.st,h.r,h.out,congrArg (·+1) h.head,h.hl,h.bl,h.bl0,h.left,h.rd,h.fr,h.lf,h.cr,h.most,h.beh,h.ch⟩
theorem R0.dirty (h:R0 p b t s):R0 p b t {s with clean:=false}:=⟨h.e,h.st,h.r,h.out,h.head,h.hl,h.bl,h.bl0,h.left,h.rd,h.fr,h.lf,h.cr,h.most,h.beh,h.ch⟩
theorem RQ.err {e:Nat} {o:List Rec.R} (h:RQ p b (.dead e o) s):s.e≠0:=by obtain ⟨h1,h2, -, -⟩:=h;rw [h1];exact h2
theorem look_count (h:R0 p b t s) (ok:t.Ok) (hb:b.right=true) (hc:t.cnt=false) (hh:Par.headed s.st=true) (hp:t.rd.pend=false) (h6:t.st≠6) (c:UInt8) :
 RQ p b (t.look p b c).1 (s.count b (fun s=>s.plain p b c)):=by
 have hbd:Par.bodied s.st=false:=by
  unfold Par.headed at hh;unfold Par.bodied;simp only [Bool.or_eq_true,beq_iff_eq] at hh
  rcases hh with (e | e) | e<;> (rw [e];rfl)
 have hb':Pg.bodied t.st=false:=(bod h).trans hbd;have hh':Pg.headed t.st=true:=(hed h).trans hh;have h1:=h.of_counted hc;have esz:t.counted.size=s.head+1:=h1.head.symm;have eS:s.count b (fun s=>s.plain p b c)=if b.x2<((s.head+1:Nat):Int) then S.fail {s with head:=s.head+1} 431 else ({s with head:=s.head+1,clean:=false}:S).plain p b c:=by unfold S.count;rw [if_neg (fun hn=>hn h.e),if_pos hh]
 rw [eS];unfold T.look;rw [if_neg (by rw [hb'];decide),if_pos hh',esz]
 by_cases hx:b.x2<((s.head+1:Nat):Int)
 ·rw [if_pos hx,if_pos hx];exact ⟨rfl,by decide,h.out,rfl⟩
 ·rw [if_neg hx,if_neg hx]
  have hok:t.counted.Ok:=ok.counted hb (by rw [esz];exact hx);exact plain_sim h1 hbd hok rfl (by rw [counted_rd];exact hp) (by rw [counted_st];exact h6) c
theorem look_plain (h:R0 p b t s) (ok:t.Ok) (hh:Pg.headed t.st=true→t.cnt=true∧¬b.x2<(t.size:Int)) (hc:s.clean=false) (hp:t.rd.pend=false) (h6:t.st≠6) (c:UInt8) :
 RQ p b (t.look p b c).1 (s.plain p b c):=by
 unfold T.look;by_cases hbd:Par.bodied s.st=true
 ·rw [if_pos ((bod h).trans hbd)];unfold S.plain;simp only [if_pos hbd];exact body_sim (s:={s with fresh:=false}) {h with} ok hc rfl hbd c
 ·have hb':Par.bodied s.st=false:=by simpa using hbd
  rw [if_neg (by rw [bod h];exact hbd)];by_cases h2:Pg.headed t.st=true
  ·obtain ⟨e1,e2⟩:=hh h2;have e3:t.counted=t:=by unfold T.counted;rw [if_pos e1]
   rw [if_pos h2,e3,if_neg e2];exact plain_sim h hb' ok hc hp h6 c
  ·rw [if_neg h2];exact plain_sim h hb' ok hc hp h6 c
theorem again_sim {t1 t2:T} {s2:S} (h:RR p b t2 s2) (ok2:t2.Ok) (hb:b.right=true) (hp:t2.rd.pend=false) (h6:t2.st≠6) {was:Nat} (hw:t1.st=was+1)
 (hcnt:t1.cnt=Par.headed was) (hsz:Par.headed was=true→¬b.x2<(t1.size:Int)) {ln:List UInt8} (he:t1.line p b ln=(0,t2)) (c:UInt8) :
 RQ p b (t2.look p b c).1 (s2.again p b c was):=by
 have hl:=line_cnt (p:=p) (b:=b) (t:=t1) ln;rw [he] at hl;simp only at hl;have hst:=h.st;unfold S.again;by_cases hA:s2.st=0∧was≠0
 ·rw [if_pos (by simp [hA.1,hA.2])];rcases hl with ⟨-, -,k, -⟩ | ⟨k, -, -, -⟩
  ·have:=k (by omega);omega
  ·exact look_count h.toR0 ok2 hb k (by rw [hA.1];rfl) hp h6 c
 ·rw [if_neg (by
   intro hh;rw [Bool.and_eq_true,beq_iff_eq,Bool.not_eq_true',beq_eq_false_iff_ne] at hh
   exact hA hh)]
  simp only;by_cases hB:Par.headed was=false∧s2.st=6
  ·rw [if_pos (by simp [hB.1,hB.2])];have k:t2.cnt=false:=by
    rcases hl with ⟨k, -, -, -⟩ | ⟨k, -, -, -⟩
    ·rw [k,hcnt];exact hB.1
    ·exact k
   exact look_count (s:={s2 with clean:=false}) h.toR0.dirty ok2 hb k (by show Par.headed s2.st=true;rw [hB.2];rfl) hp h6 c
  ·rw [if_neg (by
    intro hh;rw [Bool.and_eq_true,beq_iff_eq,Bool.not_eq_true'] at hh
    exact hB hh)]
   refine look_plain h.toR0.dirty ok2 (fun hh=>?_) rfl hp h6 c;have hh2:Par.headed s2.st=true:=(hed h.toR0).symm.trans hh;have hwas:Par.headed was=true∧t2.cnt=t1.cnt∧t2.size=t1.size:=by
    rcases hl with ⟨k1,k2,k3,k4⟩ | ⟨-, -,k3,k4⟩
    ·refine ⟨?_,k1,k2⟩;unfold Par.headed at hh2;simp only [Bool.or_eq_true,beq_iff_eq] at hh2;rcases hh2 with (e | e) | e
     ·have:=k3 (by omega);have:was=0:=by omega
      rw [this];rfl
     ·rcases k4 (by omega) with e1 | e1
      ·have:was=0:=by omega
       rw [this];rfl
      ·have:was=1:=by omega
       rw [this];rfl
     ·cases hw2:Par.headed was with
      | true=>rfl
      | false=>exact absurd ⟨hw2,e⟩ hB
    ·exact absurd ⟨by omega,by omega⟩ hA
   obtain ⟨g1,g2,g3⟩:=hwas;exact ⟨by rw [g2,hcnt];exact g1,by rw [g3];exact hsz g1⟩
theorem ends_cases {x:Nat × T} {q:Q} (h:ends x=q):(∃t2,x=(0,t2)∧q=.live t2)∨∃e o,q=.dead e o:=by
 unfold ends at h;split at h
 ·rename_i h0;exact .inl ⟨x.2,Prod.ext h0 rfl,h.symm⟩
 ·exact .inr ⟨_,_,h.symm⟩
theorem byte1_sim {t0:T} (h:R0 p b t0 s) (hn:Par.bodied s.st=false) (ok:t0.Ok) (hb:b.right=true) (hc:s.clean=false) (hcnt:t0.cnt=Par.headed s.st) (hsz:Par.headed s.st=true→¬b.x2<(t0.size:Int)) (c:UInt8) :
 RQ p b (match t0.inLine p b c with
  |(.live t1,false)=>(t1.look p b c).1
  |(x,_)=>x) (s.byte1 p b c):=by
 have hn':¬Par.bodied s.st=true:=by rw [hn];decide
 have hb0:Pg.bodied t0.st=false:=(bod h).trans hn;obtain ⟨n,hnx⟩:∃n,t0.rd.clear.next c=n:=⟨_,rfl⟩;obtain ⟨k1,k2,k3⟩:=took_sim h hn ok hc c hnx;have his:=Ln.M.next_is t0.rd.clear c;rw [hnx] at his;have e5:(t0.st==6)=(s.st==5):=by rw [Bool.eq_iff_iff,beq_iff_eq,beq_iff_eq,h.st];omega
 have hag:∀t',t0.inLine p b c=(.live t',false)→t'.rd.pend=false∧t'.st≠6:=fun t'=>inLine_again hb0 c
 have hok:∀t' u,t0.inLine p b c=(.live t',u)→t'.Ok:=fun t' u e=>ok.inLine hb c (by rw [e]);unfold S.byte1;simp only [if_neg hn',k1];unfold T.inLine at hag hok ⊢;simp only [hnx,e5] at hag hok ⊢;rcases his with e | e | e | e | e
 ·subst e;exact k2 rfl
 ·subst e;simp only [Int.reduceEq,if_false,Int.reduceBEq,Bool.not_false] at hag hok ⊢
  have k4:=k3 (.inl rfl);generalize ends (T.line p b {t0 with rd:=t0.rd.byte c} (t0.rd.byte c).line)=q at k4 ⊢;cases q<;>exact k4
 ·subst e
  have k4:=k3 (.inr rfl);simp only [Int.reduceEq,if_false,if_true,BEq.rfl,Bool.not_true] at hag hok ⊢;generalize hq:ends (T.line p b {t0 with rd:=t0.rd.byte c} (t0.rd.byte c).line)=q at hag hok k4 ⊢;generalize hs2:S.ended p b {s with fresh:=false,rd:=s.rd.byte c} (s.rd.byte c).L=s2 at k4 ⊢;rcases ends_cases hq with ⟨t2,g1,rfl⟩ | ⟨e,o,rfl⟩
  ·have k5:RR p b t2 s2:=k4;simp only;rw [if_pos k5.e];obtain ⟨g2,g3⟩:=hag t2 rfl;exact again_sim k5 (hok t2 false rfl) hb g2 g3 (t1:={t0 with rd:=t0.rd.byte c}) h.st hcnt hsz g1 c
  ·simp only;rw [if_neg k4.err];exact k4
 ·subst e;exact ⟨rfl,by decide,h.out,rfl⟩
 ·subst e;obtain ⟨g1,g2⟩:=long_sim h;simp only [Int.reduceEq,if_false,if_true] at hag hok ⊢;by_cases hce:(s.st==5&&Qk.has p 29)=true
  ·simp only [if_pos hce] at hag hok ⊢;have hs5:s.st=5:=by
    rw [Bool.and_eq_true,beq_iff_eq] at hce;exact hce.1
   obtain ⟨g3,g4⟩:=hag _ rfl;have he:=enter_sim (t:=t0) (s:={s with fresh:=false}) {h with} hs5;exact look_plain he (hok _ _ rfl) (fun hh=>absurd hh (by show Pg.headed 4≠true;decide)) hc g3 g4 c
  ·simp only [if_neg hce];rw [g1];exact ⟨rfl,g2,h.out,rfl⟩
theorem take_sim (h:RR p b t s) (ok:t.Ok) (hb:b.right=true) (c:UInt8):RQ p b (t.take p b c) (s.byte p b c):=by
 have h0:R0 p b ({t with cnt:=false}:T) {s with clean:=false}:=⟨h.e,h.st,h.r,h.out,h.head,h.hl,h.bl,h.bl0,h.left,h.rd,h.fr,h.lf,h.cr,h.most,h.beh,h.ch⟩;have ok0:({t with cnt:=false}:T).Ok:=ok.cleared;unfold T.take S.byte S.count;rw [if_neg (fun hn=>hn h.e)];unfold T.look;have hbe:Pg.bodied ({t with cnt:=false}:T).st=Par.bodied s.st:=bod (t:=t) h.toR0;have hhe:Pg.headed ({t with cnt:=false}:T).st=Par.headed s.st:=hed (t:=t) h.toR0;rw [hbe,hhe];by_cases hbd:Par.bodied s.st=true
 ·have hnh:¬Par.headed s.st=true:=by
   unfold Par.bodied at hbd;unfold Par.headed;simp only [Bool.or_eq_true,beq_iff_eq] at hbd ⊢;omega
  rw [if_pos hbd,if_neg hnh];have e1:({s with clean:=false}:S).byte1 p b c=({s with fresh:=false,clean:=false}:S).bodyB p b c:=by unfold S.byte1;simp only [if_pos hbd]
  simp only [e1];exact body_sim (s:={s with fresh:=false,clean:=false}) {h0 with} ok0 rfl rfl hbd c
 ·have hbd':Par.bodied s.st=false:=by simpa using hbd
  rw [if_neg hbd];by_cases hh:Par.headed s.st=true
  ·rw [if_pos hh,if_pos hh];have h1:R0 p b ({t with cnt:=false}:T).counted {s with head:=s.head+1,clean:=false}:=h0.of_counted rfl;have esz:({t with cnt:=false}:T).counted.size=s.head+1:=h1.head.symm;rw [esz]
   by_cases hx:b.x2<((s.head+1:Nat):Int)
   ·rw [if_pos hx,if_pos hx];exact ⟨rfl,by decide,h.out,rfl⟩
   ·rw [if_neg hx,if_neg hx]
    have hok:=ok0.counted hb (by rw [esz];exact hx);exact byte1_sim h1 hbd' hok hb rfl hh.symm (fun _=>by rw [esz];exact hx) c
  ·rw [if_neg hh,if_neg hh];have hh':Par.headed s.st=false:=by simpa using hh
   exact byte1_sim h0 hbd' ok0 hb rfl hh'.symm (fun e=>absurd e hh) c
def Q.Fine (b:Bd):Q→Prop
 | .live t=>t.Ok∧b.right=true
 | .dead _ _=>True
theorem Q.Fine.byte {x:Q} (h:x.Fine b) (c:UInt8):(x.byte p b c).Fine b:=by
 cases x with
 | live t=>
   show (t.take p b c).Fine b;cases hq:t.take p b c with
   | live t'=>exact ⟨h.1.take h.2 c hq,h.2⟩
   | dead e o=>trivial
 | dead e o=>trivial
theorem byte_sim {x:Q} (h:RQ p b x s) (ok:x.Fine b) (c:UInt8):RQ p b (x.byte p b c) (s.byte p b c):=by
 cases x with
 | live t=>exact take_sim h ok.1 ok.2 c
 | dead e o=>
   rw [S.byte_dead h.err];exact h
theorem feed_sim (l:List UInt8):∀{x:Q} {s:S},RQ p b x s→x.Fine b→RQ p b (x.feed p b l) (s.feed p b l)∧(x.feed p b l).Fine b:=by
 induction l with
 | nil=>intro x s h ok;exact ⟨h,ok⟩
 | cons c l ih=>intro x s h ok;exact ih (byte_sim h ok c) (ok.byte c)
theorem new_sim:RQ p b (Q.new p b) (S.new p b):=by
 unfold Q.new S.new;by_cases h:(b.right&&decide (p<1073741824))=true
 ·rw [if_pos h,if_pos h]
  exact {
   e:=rfl
   st:=rfl
   r:=rfl
   out:=rfl
   head:=rfl
   hl:=fun _=>rfl
   bl:=fun e=>absurd e (by show (0:Nat)≠6;decide)
   bl0:=fun _=>rfl
   left:=fun e=>absurd e (by show Par.bodied 0≠true;decide)
   rd:=fun _=>⟨rfl,rfl,rfl,rfl,rfl,rfl⟩
   fr:=fun e=>absurd e (by show Par.bodied 0≠true;decide)
   lf:=rfl
   cr:=rfl
   most:=fun _=>rfl
   beh:=fun e=>absurd e (by show (0:Nat)≠5;decide)
   ch:=rfl
   fresh:=rfl
   clean:=rfl}
 ·rw [if_neg h,if_neg h];exact ⟨rfl,by decide,rfl,rfl⟩
theorem said_sim {x:Q} (h:RQ p b x s) (ok:x.Fine b):s.e=x.err∧s.out=x.out∧s.waits=x.waits∧s.held=x.held∧s.clean=x.clean:=by
 cases x with
 | live t=>
   refine ⟨h.e,h.out,?_,?_,h.clean⟩
   ·show (decide (s.e=0)&&(s.fresh&&Rec.expects s.r))=(t.next&&Rec.expects t.r);rw [h.e,h.fresh,h.r];rfl
   ·show (if s.e=0 then Rec.size s.r+(if Par.bodied s.st=true then 0 else s.rd.B.length) else 0)=t.rd.len+Rec.size t.r;rw [if_pos h.e,h.r];by_cases hb:Par.bodied s.st=true
    ·rw [if_pos hb];have:=(h.fr hb).isNew;unfold T.isNew at this;rw [Bool.and_eq_true,decide_eq_true_eq] at this;rw [this.1];omega
    ·rw [if_neg hb];have h1:=(h.rd (by simpa using hb)).B;have:s.rd.B.length=t.rd.len:=by
      rw [h1];unfold Ln.M.len;split<;>rfl
     omega
 | dead e o=>
   obtain ⟨h1,h2,h3,h4⟩:=h;refine ⟨h1,h3,?_,?_,h4⟩
   ·show (decide (s.e=0) && _)=false;rw [decide_eq_false (by rw [h1];exact h2),Bool.false_and]
   ·show (if s.e=0 then _ else 0)=0;rw [if_neg (by rw [h1];exact h2)]
theorem told_sim {x:Q} (h:RQ p b x s):RQ p b x.told {s with out:= []}:=by
 cases x with
 | live t=>exact ⟨⟨h.e,h.st,h.r,rfl,h.head,h.hl,h.bl,h.bl0,h.left,h.rd,h.fr,h.lf,h.cr,h.most,h.beh,h.ch⟩,h.fresh,h.clean⟩
 | dead e o=>
   obtain ⟨h1,h2, -,h4⟩:=h;exact ⟨h1,h2,rfl,h4⟩
theorem told_fine {x:Q} (h:x.Fine b):x.told.Fine b:=by
 cases x with
 | live t=>exact ⟨⟨h.1.rd,h.1.nf,h.1.st,h.1.hl,h.1.bl,h.1.fsl,h.1.tsl,h.1.fss,h.1.tss,h.1.m,h.1.x,h.1.body,h.1.left,h.1.early,h.1.size⟩,h.2⟩
 | dead e o=>trivial
end
end Go.Proofs.YtimoakmcelocfaaGreat.Pg
namespace Go.Proofs.YtimoakmcelocfaaGreat.Txt
open Go.RowKit Base Oct
theorem stands_isIn (set:ByteArray) (x:UInt8):stands set.data.toList (x.toNat:Int)=isIn set x:=by
 unfold stands isIn;rw [Bool.eq_iff_iff,List.any_eq_true,List.contains_iff_exists_mem_beq];constructor
 ·rintro ⟨b,hb,e⟩;exact ⟨b,hb,by rw [beq_iff_eq] at e ⊢;exact (UInt8.toNat_inj.1 (by omega)).symm⟩
 ·rintro ⟨b,hb,e⟩;rw [beq_iff_eq] at e;subst e;exact ⟨x,hb,by simp⟩
def Bytes (w:World) (g:Nat) (l:List UInt8):Prop:=∀j (h:j<l.length),w.cell? ⟨g,j,none⟩=some (.int .u8 (l[j].toNat:Int))∧w.frozen? ⟨g,j,none⟩=false
theorem Bytes.set {w:World} {g:Nat} {l:List UInt8} (h:Bytes w g l) (k:Nat) (b:UInt8):Bytes (w.setCell ⟨g,k,none⟩ (.int .u8 (b.toNat:Int))) g (l.set k b):=by
 intro j hj;rw [List.length_set] at hj;obtain ⟨c,z⟩:=h j hj;refine ⟨?_,by rw [World.frozen?_setCell];exact z⟩;by_cases e:k=j
 ·subst e;rw [World.cell?_setCell_same _ _ _ c,List.getElem_set_self]
 ·rw [World.cell?_setCell_other _ _ _ _ (by simp<;>omega),List.getElem_set_ne e];exact c
theorem conv_bytes (s:ByteArray) (w:World):∃W cap,(convert 9 34 (.string s)).run Tryz.prog w=.ok (.slice (some ⟨w.heap.size,0,none⟩) s.size cap) W∧Bytes W w.heap.size s.data.toList∧w.heap.size<W.heap.size∧Below w.heap.size w W:=by
 have hcv:=run_bytes_of_string (P:=Tryz.prog) w 9 34 5 s Tryz.underlying9 Tryz.underlying34 Tryz.underlying5;refine ⟨_,_,hcv,fun j hj=>?_,by simp,(Below.refl _ _).drew.alloc (Nat.le_refl _) _⟩;have hj':j<s.data.size:=by simpa using hj
 refine ⟨(World.cell?_alloc_mark w.drew _ _ _ j).trans (bytesRow_at s _ j hj'),(World.frozen?_alloc_mark w.drew _ _ _ _ j).trans ?_⟩;have:¬(bytesRow s (grownCap w s.size 0 5)).size≤j:=by unfold bytesRow;rw [Array.size_append,Array.size_map];omega
 simp [this]
theorem mix_put (l:List UInt8) (k:Nat) (h:k<l.length):(mix l k).set k (lowB l[k])=mix l (k+1):=by
 unfold mix low;rw [List.set_append_right _ _ (by simp;omega),List.take_succ_eq_append_getElem h,List.drop_eq_getElem_cons h];have:k-(List.map lowB (List.take k l)).length=0:=by simp;omega
 rw [this,List.set_cons_zero,List.map_append,List.append_assoc];rfl
theorem mix_get (l:List UInt8) (k:Nat) (h:k<l.length):(mix l k)[k]'(by rw [mix_length];exact h)=l[k]:=by
 unfold mix low;rw [List.getElem_append_right (by simp;omega)];have:k-(List.map lowB (List.take k l)).length=0:=by simp;omega
 simp only [this,List.getElem_drop,Nat.add_zero]
theorem mix_skip (l:List UInt8) (k:Nat) (h:k<l.length) (e:lowB l[k]=l[k]):mix l k=mix l (k+1):=by rw [←mix_put l k h,e,←mix_get l k h,List.set_getElem_self]
def tbytes:Value→Nat
 | .string t=>t.size
 | _=>0
section code
set_option maxHeartbeats 1000000
attribute [local go_sem] Base.some_undef
theorem rlower_any (s:ByteArray) (w:World) (hs:s.size≤1099511627776):Calls Tryz.prog 120 #[.string s] w fun e w'=>e=.returned (.string (lower s))∧Below w.heap.size w w':=by
 obtain ⟨W,cap,hcv,hB,hg,hb⟩:=conv_bytes s w
 have hB0:=Lib.hid (show Bytes W w.heap.size (mix s.data.toList 0) by rw [mix_zero];exact hB);have hb0:=Lib.hid hb;clear hB hb;go_enter Tryz.func120,Tryz.ntmps120;go_wp2;clear hcv;generalize hgw:w.heap.size=g at *;have HG:=Lib.hid hgw;clear hgw
 go_loopw [4] (fun i wr=>∃k:Nat,k≤s.size∧i=.int .i64 k∧Hid (Bytes wr g (mix s.data.toList k))∧Hid (Below g w wr)) (fun i _=>s.size-(intOf i).toNat)
 case atStart=>exact ⟨0,Nat.zero_le _,rfl,hB0,hb0⟩
 case round=>
  obtain ⟨k,hk,rfl,hB,hbr⟩:=hrel;rcases Nat.lt_or_ge k s.size with hlt | hge
  ·have hll:k<s.data.toList.length:=by rw [len];exact hlt
   obtain ⟨hc,hz⟩:=hB.out k (by rw [mix_length];exact hll);rw [mix_get _ _ hll] at hc;have i1:(k:Int)<(s.size:Int):=by omega
   have hb0:0≤(s.data.toList[k].toNat:Int):=by omega
   have hb1:=byte_lt s.data.toList[k];by_cases hx:65≤s.data.toList[k].toNat∧s.data.toList[k].toNat≤90
   ·obtain ⟨x0,x1⟩:=hx;have e0:=lowB_toNat s.data.toList[k];have e1:lowN (s.data.toList[k].toNat:Int)=(s.data.toList[k].toNat:Int)+32:=by unfold lowN;rw [if_pos (by omega)]
    have hset:=(hB.out.set k (lowB s.data.toList[k]));rw [mix_put _ _ hll,e0,e1] at hset;have HS:=Lib.hid hset;have y0:(65:Int)≤(s.data.toList[k].toNat:Int):=by omega
    have y1:(s.data.toList[k].toNat:Int)≤90:=by omega
    clear e0 e1 hset x0 x1;generalize (s.data.toList[k].toNat:Int)=x at *;have e2:IntKind.u8.wrap (x+32)=x+32:=by rw [IntKind.wrap_u8];omega
    go_wp2;go_roundw
    case rel=>exact ⟨k+1,by omega,by go_num,HS,Lib.hid (hbr.out.setCell (Nat.le_refl _) _)⟩
    case measure=>simp [intOf];omega
   ·have e0:lowB s.data.toList[k]=s.data.toList[k]:=by unfold lowB;rw [if_neg hx]
    have hB2:=hB.out;rw [mix_skip _ _ hll e0] at hB2;have HS:=Lib.hid hB2;clear hB2 e0;rcases Nat.lt_or_ge s.data.toList[k].toNat 65 with h | h
    ·have y0:¬(65:Int)≤(s.data.toList[k].toNat:Int):=by omega
     generalize (s.data.toList[k].toNat:Int)=x at *;go_wp2;go_roundw
     case rel=>exact ⟨k+1,by omega,by go_num,HS,hbr⟩
     case measure=>simp [intOf];omega
    ·have y0:(65:Int)≤(s.data.toList[k].toNat:Int):=by omega
     have y1:¬(s.data.toList[k].toNat:Int)≤90:=by omega
     generalize (s.data.toList[k].toNat:Int)=x at *;go_wp2;go_roundw
     case rel=>exact ⟨k+1,by omega,by go_num,HS,hbr⟩
     case measure=>simp [intOf];omega
  ·obtain rfl:k=s.size:=by omega
   have hconv:=run_convert_bytes_back (P:=Tryz.prog) wr 34 9 5 ⟨g,0,none⟩ cap (low s.data.toList) Tryz.underlying34 Tryz.underlying5 Tryz.underlying9 (fun j hj=>by
    have h1:=(hB.out j (by rw [mix_length];simpa [low] using hj)).1;have e:(⟨g,0,none⟩:Addr).add j=⟨g,j,none⟩:=by unfold Addr.add;by_cases h:j=0<;>simp [h]
    rw [e,h1]
    congr 4
    simp only [mix_all s.data.toList s.size (by rw [len];exact Nat.le_refl _)])
   have hl:(low s.data.toList).length=s.size:=by rw [low,List.length_map,len]
   rw [hl] at hconv;go_wp2;go_ret;exact ⟨rfl,by rw [HG.out];exact hbr.out⟩
theorem rsame_any (a b:ByteArray) (w:World) (ha:a.size≤1099511627776) (hb:b.size≤1099511627776):Calls Tryz.prog 104 #[.string a,.string b] w fun e w'=>e=.returned (.bool (same a b))∧Below w.heap.size w w':=by
 have h1:=Lib.hid (fun w=>rlower_any a w ha)
 have h2:=Lib.hid (fun w=>rlower_any b w hb);have hr:((lower a).toList==(lower b).toList)=same a b:=by rw [Lib.toList_data,Lib.toList_data];rfl
 generalize lower a=x at *;generalize lower b=y at *;go_enter Tryz.func104,Tryz.ntmps104
 go_wp2_with (first
  |(go_at_call 120;with_reducible refine (h1.out _).mono ?_;rintro e w1 ⟨rfl,hb1⟩)
  |(go_at_call 120;with_reducible refine (h2.out _).mono ?_;rintro e w2 ⟨rfl,hb2⟩))
 go_ret;exact ⟨by rw [←hr];rfl,Base.below_step hb1 hb2⟩
theorem first_of (t:ByteArray) (h:0<t.size):t.data.toList=t[0]::t.data.toList.drop 1∧(t.extract 1 t.size).data.toList=t.data.toList.drop 1∧t.toList.isEmpty=false:=by
 have hl:0<t.data.toList.length:=by rw [len];exact h
 have e:t.data.toList=t[0]::t.data.toList.drop 1:=by
  conv=>lhs;rw [←List.drop_zero (l:=t.data.toList),List.drop_eq_getElem_cons hl]
  rfl
 refine ⟨e,?_,?_⟩
 ·rw [Lib.extract_data,List.take_of_length_le (by rw [List.length_drop,len];exact Nat.le_refl _)]
 ·rw [Lib.toList_data,e];rfl
theorem last_of (t:ByteArray) (h:0<t.size):t.data.toList=t.data.toList.take (t.size-1) ++ [t[t.size-1]]∧(t.extract 0 (t.size-1)).data.toList=t.data.toList.take (t.size-1)∧t.toList.isEmpty=false:=by
 have e:=take_snoc t (t.size-1) (by omega);rw [show t.size-1+1=t.size by omega,take_all t _ (Nat.le_refl _)] at e;refine ⟨e,?_,?_⟩
 ·rw [Lib.extract_data,List.drop_zero,Nat.sub_zero]
 ·rw [Lib.toList_data];cases hl:t.data.toList with
  | nil=>exfalso;have h2:=len t;rw [hl,List.length_nil] at h2;omega
  | cons _ _=>rfl
theorem in_any (x:UInt8) (r:Bool) (set:ByteArray) (w:World) (ht:set.size≤maxLen) (hq:isIn set x=r):Calls Tryz.prog 126 #[.int .u8 x.toNat,.string set] w fun e w'=>e=.returned (.bool r)∧w'=w:=by have:=Oct.stands_any (x.toNat:Int) set w ht;rw [stands_isIn,hq] at this;exact this
theorem rtrimOf_any (s set:ByteArray) (w:World) (ht:set.size≤maxLen) (hs:s.size≤maxLen):Calls Tryz.prog 124 #[.string s,.string set] w fun e w'=>e=.returned (.string (trimOf s set))∧w'=w:=by
 unfold maxLen at hs;go_enter Tryz.func124,Tryz.ntmps124;go_wp2
 go_loop [0] (fun x=>∃t:ByteArray,x=.string t∧t.size≤s.size∧Hid (t.data.toList.dropWhile (isIn set)=s.data.toList.dropWhile (isIn set))) (fun x=>tbytes x)
 case atStart=>exact ⟨s,rfl,Nat.le_refl _,Lib.hid rfl⟩
 case round=>
  obtain ⟨t,rfl,hts,hdw⟩:=hrel;by_cases hgo:∃h:0<t.size,isIn set t[0]=true
  ·obtain ⟨h0,hq⟩:=hgo
   have HC:=Lib.hid (in_any t[0] true set w ht hq);obtain ⟨e1,e2,e3⟩:=first_of t h0
   have HD:=Lib.hid (show (t.extract 1 t.size).data.toList.dropWhile (isIn set)=s.data.toList.dropWhile (isIn set) by
    rw [←hdw.out,e2]
    conv=>rhs;rw [e1,List.dropWhile_cons,if_pos hq])
   have i0:t.toList.isEmpty=false:=e3;have i1:(1:Int)≤(t.size:Int):=by omega
   have i2:(t.size:Int)≤9223372036854775807:=by omega
   have hsz:(t.extract 1 t.size).size=t.size-1:=by rw [ByteArray.size_extract];omega
   clear e1 e2 e3 hq
   go_wp2_with (go_at_call 126;with_reducible refine HC.out.mono ?_;rintro e w' ⟨rfl,hw⟩;rw [hw];clear hw);go_round
   case rel=>exact ⟨_,rfl,by omega,HD⟩
   case measure=>simp [tbytes];omega
  ·have hst:t.data.toList.dropWhile (isIn set)=t.data.toList:=by
    rcases Nat.eq_zero_or_pos t.size with h0 | h0
    ·have:t.data.toList= []:=List.length_eq_zero_iff.1 (by rw [len];exact h0);rw [this];rfl
    ·obtain ⟨e1,_,_⟩:=first_of t h0;rw [e1];refine dropWhile_stop ?_;cases hq:isIn set t[0] with
     | false=>rfl
     | true=>exact absurd ⟨h0,hq⟩ hgo
   have hfin:=Lib.hid (show trimL (isIn set) s.data.toList=(t.data.toList.reverse.dropWhile (isIn set)).reverse by unfold trimL;rw [←hdw.out,hst])
   have hlast:=Lib.hid (show∀h:0<t.size,isIn set t[0]=false from fun h=>by
    cases hq:isIn set t[0] with
    | false=>rfl
    | true=>exact absurd ⟨h,hq⟩ hgo)
   clear hgo hst;rcases Nat.eq_zero_or_pos t.size with h0 | h0
   all_goals (first
    |(have i0:t.toList.isEmpty=false:=(first_of t h0).2.2
      have HC:=Lib.hid (in_any t[0] false set w ht (hlast.out h0))
      (go_wp2_with (go_at_call 126;with_reducible refine HC.out.mono ?_;rintro e w' ⟨rfl,hw⟩;rw [hw];clear hw)))
    |(have i0:t.toList.isEmpty=true:=by
       rw [Lib.toList_data,List.length_eq_zero_iff.1 (show t.data.toList.length=0 by rw [len];exact h0)];rfl
      go_wp2))
   all_goals
    clear i0
    go_loop [0] (fun x=>∃u:ByteArray,x=.string u∧u.size≤t.size∧Hid (u.data.toList.reverse.dropWhile (isIn set)=t.data.toList.reverse.dropWhile (isIn set))) (fun x=>tbytes x)
    case atStart=>exact ⟨t,rfl,Nat.le_refl _,Lib.hid rfl⟩
    case round=>
     obtain ⟨u,rfl,hus,hrv⟩:=hrel;rcases Nat.eq_zero_or_pos u.size with hu0 | hu0
     ·have e0:u.data.toList= []:=List.length_eq_zero_iff.1 (by rw [len];exact hu0);have i0:u.toList.isEmpty=true:=by rw [Lib.toList_data,e0];rfl
      have HF:=Lib.hid (show u=trimOf s set from ba_ext (by rw [trimOf,trimB_list,hfin.out,←hrv.out,e0];rfl))
      clear e0;go_wp2;go_ret;exact ⟨by rw [←HF.out];rfl,rfl⟩
     ·first
      |(exfalso;omega)
      |(
       obtain ⟨e1,e2,e3⟩:=last_of u hu0;have i0:u.toList.isEmpty=false:=e3;have i1:u.size-1<u.size:=by omega
       have i3:(u.size:Int)-1<(u.size:Int):=by omega
       have i4:0≤(u.size:Int)-1:=by omega
       have i5:IntKind.i64.wrap ((u.size:Int)-1)=(u.size:Int)-1:=wrap_in _ (by omega) (by omega);have i6:((u.size:Int)-1).toNat=u.size-1:=by omega
       have i7:(u.size:Int)-1≤(u.size:Int):=by omega
       cases hq:isIn set u[u.size-1] with
       | true=>
         have HC:=Lib.hid (in_any u[u.size-1] true set w ht hq)
         have HD:=Lib.hid (show (u.extract 0 (u.size-1)).data.toList.reverse.dropWhile (isIn set)=t.data.toList.reverse.dropWhile (isIn set) by
          rw [←hrv.out,e2]
          conv=>rhs;rw [e1,List.reverse_append,List.reverse_singleton,List.singleton_append,List.dropWhile_cons,if_pos hq])
         have hsz:(u.extract 0 (u.size-1)).size=u.size-1:=by rw [ByteArray.size_extract];omega
         clear e1 e2 e3 hq
         go_wp2_with (go_at_call 126;with_reducible refine HC.out.mono ?_;rintro e w' ⟨rfl,hw⟩;rw [hw];clear hw);go_round
         case rel=>exact ⟨_,rfl,by omega,HD⟩
         case measure=>simp [tbytes];omega
       | false=>
         have HC:=Lib.hid (in_any u[u.size-1] false set w ht hq)
         have HF:=Lib.hid (show u=trimOf s set from ba_ext (by rw [trimOf,trimB_list,hfin.out,←hrv.out,e1,List.reverse_append,List.reverse_singleton,List.singleton_append,dropWhile_stop hq];simp))
         clear e1 e2 e3 hq
         go_wp2_with (go_at_call 126;with_reducible refine HC.out.mono ?_;rintro e w' ⟨rfl,hw⟩;rw [hw];clear hw);go_ret;exact ⟨by rw [←HF.out];rfl,rfl⟩)
theorem rtrim_any (s:ByteArray) (w:World) (hs:s.size≤maxLen):Calls Tryz.prog 111 #[.string s] w fun e w'=>e=.returned (.string (trim s))∧w'=w:=by
 have h:=Lib.hid (rtrimOf_any s ⟨#[32,9]⟩ w (by decide) hs);have e:trimOf s ⟨#[32,9]⟩=trim s:=by
  unfold trimOf trim
  congr 1
  funext x
  simp only [isIn,blank,List.contains_cons,List.contains_nil,Bool.or_false]
 rw [e] at h;go_enter Tryz.func111,Tryz.ntmps111
 go_wp2_with (go_at_call 124;with_reducible refine h.out.mono ?_;rintro e w' ⟨rfl,rfl⟩);go_ret;exact ⟨rfl,rfl⟩
end code
end Go.Proofs.YtimoakmcelocfaaGreat.Txt
namespace Go.Proofs.YtimoakmcelocfaaGreat.Txt
open Go.RowKit Base Oct
def Part (c:UInt8) (l:List UInt8) (f k:Nat) (done:List (List UInt8)):Prop:=
 (k≤l.length∧f≤k∧parts c l=done++parts c (l.drop f)∧c∉(l.drop f).take (k-f))∨(k=l.length+1∧f=l.length+1∧parts c l=done)
theorem Part.start (c:UInt8) (l:List UInt8):Part c l 0 0 []:=.inl ⟨Nat.zero_le _,Nat.le_refl _,rfl,by simp⟩
theorem Part.last {c:UInt8} {l:List UInt8} {f:Nat} {done:List (List UInt8)} (h:Part c l f l.length done):f≤l.length∧Part c l (l.length+1) (l.length+1) (done ++ [l.drop f]):=by
 rcases h with ⟨_,h1,h2,h3⟩ | ⟨h,_⟩
 ·refine ⟨h1,.inr ⟨rfl,rfl,?_⟩⟩;rw [List.take_of_length_le (by rw [List.length_drop];omega)] at h3;rw [h2,parts_none c _ h3]
 ·omega
theorem Part.hit {c:UInt8} {l:List UInt8} {f k:Nat} {done:List (List UInt8)} (h:Part c l f k done) (hk:k<l.length) (hc:l[k]=c):f≤k∧Part c l (k+1) (k+1) (done ++ [(l.drop f).take (k-f)]):=by
 rcases h with ⟨_,h1,h2,h3⟩ | ⟨h,_⟩
 ·refine ⟨h1,.inl ⟨by omega,Nat.le_refl _,?_,by simp⟩⟩;have e:l.drop f=(l.drop f).take (k-f)++c::l.drop (k+1):=by
   conv=>lhs;rw [←List.take_append_drop (k-f) (l.drop f)]
   rw [List.drop_drop,show f+(k-f)=k by omega,List.drop_eq_getElem_cons hk,hc]
  rw [h2]
  conv=>lhs;rw [e]
  rw [parts_cut c _ _ h3,List.append_assoc];rfl
 ·omega
theorem Part.miss {c:UInt8} {l:List UInt8} {f k:Nat} {done:List (List UInt8)} (h:Part c l f k done) (hk:k<l.length) (hc:l[k]≠c):Part c l f (k+1) done:=by
 rcases h with ⟨_,h1,h2,h3⟩ | ⟨h,_⟩
 ·refine .inl ⟨by omega,by omega,h2,?_⟩;have hlt:k-f<(l.drop f).length:=by rw [List.length_drop];omega
  rw [show k+1-f=(k-f)+1 by omega,List.take_succ_eq_append_getElem hlt,List.mem_append,not_or];refine ⟨h3,?_⟩;rw [List.getElem_drop,List.mem_singleton];simp only [show f+(k-f)=k by omega];exact fun e=>hc e.symm
 ·omega
section code
set_option maxHeartbeats 1000000
attribute [local go_sem] Base.some_undef
set_option maxRecDepth 10000 in
theorem rsplit_any (s:ByteArray) (c:UInt8) (w:World) (hs:s.size≤1000000000) :
 Calls Tryz.prog 117 #[.string s,.int .u8 c.toNat] w fun e w'=>∃b m cp,e=.returned (.slice b m cp)∧m=(parts c s.data.toList).length∧Strs w' b m ((parts c s.data.toList).map ba)∧Below w.heap.size w w':=by
 obtain ⟨i0,hi,hz0,hz1,hz2⟩:=info_parts text_info;have G1:=Lib.hid hi;have G2:=Lib.hid hz0;have G3:=Lib.hid hz1;have G4:=Lib.hid hz2;clear hi hz0 hz1 hz2;obtain ⟨PS,hPS⟩:∃PS,parts c s.data.toList=PS:=⟨_,rfl⟩;rw [hPS];have HPS:=Lib.hid hPS;clear hPS;go_enter Tryz.func117,Tryz.ntmps117;go_wp2
 go_loopw [5,6,7] (fun v fr i wr=>∃(k f:Nat) (done:List (List UInt8)),k≤s.size+1∧f≤s.size+1∧done.length≤k∧fr=.int .i64 f∧i=.int .i64 k∧Hid (Part c s.data.toList f k done)∧Hid (wr.ownsRow w.heap.size 9 1 v done.length ((done.map ba).map Value.string))∧Hid (Below w.heap.size w wr)) (fun _ _ i _=>s.size+1-(intOf i).toNat)
 case atStart=>exact ⟨0,0,[],by omega,by omega,Nat.le_refl _,rfl,rfl,Lib.hid (Part.start _ _),Lib.hid ⟨rfl,.inl ⟨rfl,rfl⟩⟩,Lib.hid (Below.refl _ _)⟩
 case round=>
  obtain ⟨k,f,done,hk,hf,hdn,rfl,rfl,hpt,hown,hbr⟩:=hrel;rcases Nat.lt_or_ge k s.size with hlt | hge
  ·have t0:(k:Int)≤(s.size:Int):=by omega
   have t1:((k:Int)==(s.size:Int))=false:=beq_eq_false_iff_ne.2 (by omega);have i1:(k:Int)<(s.size:Int):=by omega
   have hkl:k<s.data.toList.length:=by rw [len];exact hlt
   have e0:s[k]=s.data.toList[k]:=rfl;by_cases hc:s.data.toList[k]=c
   ·have t2:((s[k].toNat:Int)==(c.toNat:Int))=true:=by rw [e0,hc];exact beq_self_eq_true _
    obtain ⟨hfk,hP⟩:=hpt.out.hit hkl hc;have HP:=Lib.hid hP
    have ex:s.extract f k=ba ((s.data.toList.drop f).take (k-f)):=ba_ext (by rw [Lib.extract_data];rfl);have c1:(f:Int)≤(k:Int):=by omega
    have m1:IntKind.i64.wrap ((k:Int)+1)=((k+1:Nat):Int):=by rw [wrap_in _ (by omega) (by omega)];omega
    clear hP hpt hc e0;generalize (s.data.toList.drop f).take (k-f)=p at *;have HX:=Lib.hid ex;clear ex
    go_wp2_with (at_builtin;refine wpList_append_own _ rfl _ _ 89 rfl w.heap.size 9 i0 (.string ByteArray.empty) 1 16 Tryz.underlying89 G1.out G2.out G3.out G4.out rfl (by decide) _ _ _ rfl (hown.out.alloc _) ⟨wr.heap.size,0,none⟩ 1 1 [.string (s.extract f k)] rfl rfl ?c1 ?c2 ?c3 ?c4 ?c5 ?_)
    case c1=>exact news_one wr _ _
    case c2=>intro u hu;obtain rfl:u=.string (s.extract f k):=by simpa using hu
             rfl
    case c3=>unfold maxLen;omega
    case c4=>omega
    case c5=>have:=hbr.out.size;simp;omega
    intro v' w' hown' hgr _
    have H2:Hid (w'.ownsRow w.heap.size 9 1 v' (done ++ [p]).length (((done ++ [p]).map ba).map Value.string)):=Lib.hid (by rw [HX.out] at hown';simpa using hown')
    have H3:=Lib.hid ((hbr.out.alloc hbr.out.size _).grown hgr (by have:=hbr.out.size;simp;omega) (own_base hown.out));clear hown' hgr hown hbr;go_wp2;go_roundw
    case rel=>exact ⟨k+1,k+1,done ++ [p],by omega,by omega,by rw [List.length_append,List.length_singleton];omega,by go_num,by go_num,HP,H2,H3⟩
    case measure=>simp [intOf];omega
   ·have t2:((s[k].toNat:Int)==(c.toNat:Int))=false:=beq_eq_false_iff_ne.2 fun e=>hc (UInt8.toNat_inj.1 (by rw [e0] at e;omega))
    have HP:=Lib.hid (hpt.out.miss hkl hc);clear hpt hc e0;go_wp2;go_roundw
    case rel=>exact ⟨k+1,f,done,by omega,hf,by omega,rfl,by go_num,HP,hown,hbr⟩
    case measure=>simp [intOf];omega
  ·rcases Nat.lt_or_ge s.size k with hgt | hle
   ·obtain rfl:k=s.size+1:=by omega
    have t0:¬((s.size+1:Nat):Int)≤(s.size:Int):=by omega
    have hfin:done=PS:=by
     rcases hpt.out with ⟨h,_⟩ | ⟨_,_,h⟩
     ·rw [len] at h;omega
     ·rw [←h,HPS.out]
    subst hfin;obtain ⟨A,cp,rfl,hA⟩:=Strs.of_own hown.out;have HA:=Lib.hid hA;clear hA hown hpt;go_wp2;go_ret;first | exact ⟨A,⟨cp,rfl⟩,HA.out,hbr.out⟩ | exact ⟨A,_,⟨cp,rfl⟩,rfl,HA.out,hbr.out⟩ | exact ⟨A,_,⟨cp,rfl⟩,HA.out,hbr.out⟩
   ·obtain rfl:k=s.size:=by omega
    have hpt':=hpt.out;rw [←len s] at hpt';obtain ⟨hfk,hP⟩:=hpt'.last;rw [len] at hfk hP;have HP:=Lib.hid hP
    have ex:s.extract f s.size=ba (s.data.toList.drop f):=ba_ext (by rw [Lib.extract_data,List.take_of_length_le (by rw [List.length_drop,len];omega)];rfl);have c1:(f:Int)≤(s.size:Int):=by omega
    have t0:(s.size:Int)≤(s.size:Int):=by omega
    have t1:((s.size:Int)==(s.size:Int))=true:=beq_self_eq_true _;have m1:IntKind.i64.wrap ((s.size:Int)+1)=((s.size+1:Nat):Int):=by rw [wrap_in _ (by omega) (by omega)];omega
    clear hP hpt hpt';generalize s.data.toList.drop f=p at *;have HX:=Lib.hid ex;clear ex
    go_wp2_with (at_builtin;refine wpList_append_own _ rfl _ _ 89 rfl w.heap.size 9 i0 (.string ByteArray.empty) 1 16 Tryz.underlying89 G1.out G2.out G3.out G4.out rfl (by decide) _ _ _ rfl (hown.out.alloc _) ⟨wr.heap.size,0,none⟩ 1 1 [.string (s.extract f s.size)] rfl rfl ?c1 ?c2 ?c3 ?c4 ?c5 ?_)
    case c1=>exact news_one wr _ _
    case c2=>intro u hu;obtain rfl:u=.string (s.extract f s.size):=by simpa using hu
             rfl
    case c3=>unfold maxLen;omega
    case c4=>omega
    case c5=>have:=hbr.out.size;simp;omega
    intro v' w' hown' hgr _
    have H2:Hid (w'.ownsRow w.heap.size 9 1 v' (done ++ [p]).length (((done ++ [p]).map ba).map Value.string)):=Lib.hid (by rw [HX.out] at hown';simpa using hown')
    have H3:=Lib.hid ((hbr.out.alloc hbr.out.size _).grown hgr (by have:=hbr.out.size;simp;omega) (own_base hown.out));clear hown' hgr hown hbr;go_wp2;go_roundw
    case rel=>exact ⟨s.size+1,s.size+1,done ++ [p],by omega,by omega,by rw [List.length_append,List.length_singleton];omega,by go_num,by go_num,HP,H2,H3⟩
    case measure=>simp [intOf]
end code
end Go.Proofs.YtimoakmcelocfaaGreat.Txt
namespace Go.Proofs.YtimoakmcelocfaaGreat.Txt
open Go.RowKit Base Oct
theorem drop_at (l:List UInt8) (f k:Nat) (hfk:f≤k) (hk:k<l.length):l.drop f=(l.take k).drop f++l[k]::l.drop (k+1):=by conv=>lhs;rw [←List.take_append_drop k l,List.drop_append_of_le_length (by rw [List.length_take];omega),List.drop_eq_getElem_cons hk]
theorem mid_snoc (l:List UInt8) (f k:Nat) (hfk:f≤k) (hk:k<l.length):(l.take (k+1)).drop f=(l.take k).drop f ++ [l[k]]:=by rw [List.take_succ_eq_append_getElem hk,List.drop_append_of_le_length (by rw [List.length_take];omega)]
section code
set_option maxHeartbeats 1000000
set_option maxRecDepth 10000
attribute [local go_sem] Base.some_undef
theorem rsplit_own (s:ByteArray) (c:UInt8) (w:World) (hs:s.size≤1000000000) :
 Calls Tryz.prog 117 #[.string s,.int .u8 c.toNat] w fun e w'=>∃g n k,e=.returned (.slice (some ⟨g,0,none⟩) n k)∧w.heap.size≤g∧n=(parts c s.data.toList).length∧Strs w' (some ⟨g,0,none⟩) n ((parts c s.data.toList).map ba)∧w.heap.size<w'.heap.size∧Below w.heap.size w w':=by
 obtain ⟨i0,hi,hz0,hz1,hz2⟩:=info_parts text_info;have G1:=Lib.hid hi;have G2:=Lib.hid hz0;have G3:=Lib.hid hz1;have G4:=Lib.hid hz2;clear hi hz0 hz1 hz2;have hpl:=parts_le c s.data.toList;rw [len] at hpl;have hp1:0<(parts c s.data.toList).length:=by rw [parts_length];omega
 go_enter Tryz.func117,Tryz.ntmps117;go_wp2
 go_loopw [5,6,7] (fun v f i wr=>∃(k fr:Nat) (done:List (List UInt8)),f=.int .i64 fr∧i=.int .i64 k∧done.length≤k∧Hid (wr.ownsRow w.heap.size 9 1 v done.length ((done.map ba).map Value.string))∧Hid (Below w.heap.size w wr)∧
  ((fr≤k∧k≤s.size∧Hid (done++parts c (s.data.toList.drop fr)=parts c s.data.toList)∧Hid (c∉(s.data.toList.take k).drop fr))∨(k=s.size+1∧Hid (done=parts c s.data.toList)))) (fun _ _ i _=>s.size+1-(intOf i).toNat)
 case atStart=>exact ⟨0,0,[],rfl,rfl,Nat.le_refl _,Lib.hid ⟨rfl,.inl ⟨rfl,rfl⟩⟩,Lib.hid (Below.refl _ _),.inl ⟨Nat.le_refl _,Nat.zero_le _,Lib.hid rfl,Lib.hid (by simp)⟩⟩
 case round=>
  obtain ⟨k,fr,done,rfl,rfl,hdl,hown,hbr,hcase⟩:=hrel;rcases hcase with ⟨hfk,hks,hdone,hno⟩ | ⟨rfl,hdone⟩
  ·have t0:(k:Int)≤(s.size:Int):=by omega
   have t1:(fr:Int)≤(k:Int):=by omega
   have t9:wrap64 ((k:Int)+1)=(k:Int)+1:=by unfold wrap64;omega
   rcases Nat.lt_or_ge k s.size with hlt | hge
   ·have hll:k<s.data.toList.length:=by rw [len];exact hlt
    have t2:(k:Int)<(s.size:Int):=by omega
    have t3:((k:Int)==(s.size:Int))=false:=beq_eq_false_iff_ne.2 (by omega);by_cases hc:s.data.toList[k]=c
    ·have t4:((s[k].toNat:Int)==(c.toNat:Int))=true:=by rw [show s[k]=c from hc];exact beq_self_eq_true _
     have hcut:=parts_cut c ((s.data.toList.take k).drop fr) (s.data.toList.drop (k+1)) hno.out;rw [←hc,←drop_at _ _ _ hfk hll,hc] at hcut
     have hx:(s.extract fr k)=ba ((s.data.toList.take k).drop fr):=ba_ext (by rw [Lib.extract_data];show _=(s.data.toList.take k).drop fr;rw [List.drop_take]);have HX:=Lib.hid hx
     have HD:=Lib.hid (show (done ++ [(s.data.toList.take k).drop fr])++parts c (s.data.toList.drop (k+1))=parts c s.data.toList by rw [←hdone.out,hcut,List.append_assoc];rfl);clear hcut hx hc hno;generalize (s.data.toList.take k).drop fr=p at *
     go_wp2_with (at_builtin;refine wpList_append_own _ rfl _ _ 89 rfl w.heap.size 9 i0 (.string ByteArray.empty) 1 16 Tryz.underlying89 G1.out G2.out G3.out G4.out rfl (by decide) _ _ _ rfl (hown.out.alloc _) ⟨wr.heap.size,0,none⟩ 1 1 [.string (s.extract fr k)] rfl rfl ?c1 ?c2 ?c3 ?c4 ?c5 ?_)
     case c1=>exact news_one wr _ _
     case c2=>intro u hu;obtain rfl:u=.string (s.extract fr k):=by simpa using hu
              rfl
     case c3=>unfold maxLen;omega
     case c4=>omega
     case c5=>have:=hbr.out.size;simp;omega
     intro v' w' hown' hgr _
     have H1:Hid (w'.ownsRow w.heap.size 9 1 v' (done ++ [p]).length (((done ++ [p]).map ba).map Value.string)):=Lib.hid (by rw [HX.out] at hown';simpa using hown')
     have H2:=Lib.hid ((hbr.out.alloc hbr.out.size _).grown hgr (by have:=hbr.out.size;simp;omega) (own_base hown.out));have hdl2:(done ++ [p]).length≤k+1:=by rw [List.length_append];simp;omega
     clear hown' hgr;go_wp2;go_roundw
     case rel=>exact ⟨k+1,k+1,done ++ [p],by go_num,by go_num,hdl2,H1,H2,.inl ⟨Nat.le_refl _,by omega,HD,Lib.hid (by rw [List.drop_eq_nil_of_le (by rw [List.length_take];omega)];simp)⟩⟩
     case measure=>simp [intOf];omega
    ·have t4:((s[k].toNat:Int)==(c.toNat:Int))=false:=beq_eq_false_iff_ne.2 (fun e=>hc (show s[k]=c from UInt8.toNat_inj.1 (by omega)))
     have HN:=Lib.hid (show c∉(s.data.toList.take (k+1)).drop fr by
      rw [mid_snoc _ _ _ hfk hll,List.mem_append]
      rintro (h | h)
      ·exact hno.out h
      ·exact hc (List.mem_singleton.1 h).symm)
     clear hno;go_wp2;go_roundw
     case rel=>exact ⟨k+1,fr,done,rfl,by go_num,by omega,hown,hbr,.inl ⟨by omega,by omega,hdone,HN⟩⟩
     case measure=>simp [intOf];omega
   ·obtain rfl:k=s.size:=by omega
    ·have t3:((s.size:Int)==(s.size:Int))=true:=beq_self_eq_true _;have hno':=hno.out;rw [take_all s _ (Nat.le_refl _)] at hno';have hcut:=parts_none c (s.data.toList.drop fr) hno'
     have hx:(s.extract fr s.size)=ba (s.data.toList.drop fr):=ba_ext (by rw [Lib.extract_data,List.take_of_length_le (by rw [List.length_drop,len];exact Nat.le_refl _)];rfl);have HX:=Lib.hid hx
     have HD:=Lib.hid (show done ++ [s.data.toList.drop fr]=parts c s.data.toList by rw [←hdone.out,hcut]);clear hcut hx hno hno';generalize s.data.toList.drop fr=p at *;generalize hk:s.size=k at *
     go_wp2_with (at_builtin;refine wpList_append_own _ rfl _ _ 89 rfl w.heap.size 9 i0 (.string ByteArray.empty) 1 16 Tryz.underlying89 G1.out G2.out G3.out G4.out rfl (by decide) _ _ _ rfl (hown.out.alloc _) ⟨wr.heap.size,0,none⟩ 1 1 [.string (s.extract fr k)] rfl rfl ?c1 ?c2 ?c3 ?c4 ?c5 ?_)
     case c1=>exact news_one wr _ _
     case c2=>intro u hu;obtain rfl:u=.string (s.extract fr k):=by simpa using hu
              rfl
     case c3=>unfold maxLen;omega
     case c4=>omega
     case c5=>have:=hbr.out.size;simp;omega
     intro v' w' hown' hgr _
     have H1:Hid (w'.ownsRow w.heap.size 9 1 v' (done ++ [p]).length (((done ++ [p]).map ba).map Value.string)):=Lib.hid (by rw [HX.out] at hown';simpa using hown')
     have H2:=Lib.hid ((hbr.out.alloc hbr.out.size _).grown hgr (by have:=hbr.out.size;simp;omega) (own_base hown.out));have hdl2:(done ++ [p]).length≤k+1:=by rw [List.length_append];simp;omega
     clear hown' hgr;go_wp2;go_roundw
     case rel=>exact ⟨k+1,k+1,done ++ [p],by go_num,by go_num,hdl2,H1,H2,.inr ⟨rfl,HD⟩⟩
     case measure=>(simp [intOf]<;>omega)
  ·have t0:¬((s.size:Int)+1≤(s.size:Int)):=by omega
   have hdn:=hdone.out;subst hdn;obtain ⟨g,cap,rfl,hg0,hg1⟩:=hown.out.form hp1
   have HS:=Lib.hid (show Strs wr (some ⟨g,0,none⟩) (parts c s.data.toList).length ((parts c s.data.toList).map ba) by
    obtain ⟨A,cc,e,hS⟩:=Strs.of_own (ss:=(parts c s.data.toList).map ba) hown.out;obtain ⟨rfl,rfl⟩:some ⟨g,0,none⟩=A∧cap=cc:=by simpa using e
    exact hS)
   clear hown hdone;go_wp2;go_ret;exact ⟨g,_,⟨cap,rfl⟩,hg0,rfl,HS.out,by omega,hbr.out⟩
theorem rsplit44 (s:ByteArray) (w:World) (hs:s.size≤1000000000) :
 Calls Tryz.prog 117 #[.string s,.int .u8 44] w fun e w'=>∃g n k,e=.returned (.slice (some ⟨g,0,none⟩) n k)∧w.heap.size≤g∧n=(parts 44 s.data.toList).length∧Strs w' (some ⟨g,0,none⟩) n ((parts 44 s.data.toList).map ba)∧w.heap.size<w'.heap.size∧Below w.heap.size w w':=
 rsplit_own s 44 w hs
theorem rlist_own (a:Option Addr) (n cap:Nat) (vs:List ByteArray) (w:World) (hv:Strs w a n vs) (hr:room vs≤1000000000) :
 Calls Tryz.prog 123 #[.slice a n cap] w fun e w'=>∃v,e=.returned v∧w'.ownsRow w.heap.size 9 1 v (list vs).length ((list vs).map Value.string)∧Below w.heap.size w w':=by
 have hle:=list_le vs;have hnr:=len_room vs;rw [hv.1] at hnr;have HV:=Lib.hid hv;have HL:=Lib.hid hv.1;clear hv;obtain ⟨i0,hi,hz0,hz1,hz2⟩:=info_parts text_info;have G1:=Lib.hid hi;have G2:=Lib.hid hz0;have G3:=Lib.hid hz1;have G4:=Lib.hid hz2;clear hi hz0 hz1 hz2;go_enter Tryz.func123,Tryz.ntmps123;go_wp2
 go_loopw [3,4] (fun v i wr=>∃k:Nat,k≤n∧i=.int .i64 k∧Hid (wr.ownsRow w.heap.size 9 1 v (list (vs.take k)).length ((list (vs.take k)).map Value.string))∧Hid (Below w.heap.size w wr)) (fun _ i _=>n-(intOf i).toNat)
 case atStart=>exact ⟨0,Nat.zero_le _,rfl,Lib.hid ⟨rfl,.inl ⟨rfl,rfl⟩⟩,Lib.hid (Below.refl _ _)⟩
 case round=>
  obtain ⟨k,hk,rfl,hown,hbr⟩:=hrel;rcases Nat.lt_or_ge k n with hlt | hge
  ·obtain ⟨bl,off,rfl,_,hc⟩:=(HV.out.below hbr.out).2 (by omega);have hck:=hc k hlt
   have hsn:=Lib.hid (list_snoc vs k (by rw [HL.out];exact hlt))
   have hle1:=list_take_le vs (k+1);rw [hsn.out,List.length_append] at hle1;have hsz:(vs[k]?.getD ByteArray.empty).size≤1000000000:=by
    have:k<vs.length:=by rw [HL.out];exact hlt
    rw [List.getElem?_eq_getElem this];have h2:(vs[k].size+1)≤room vs:=by exact room_mem vs _ (List.getElem_mem _)
    show vs[k].size≤_;omega
   clear hc;generalize vs[k]?.getD ByteArray.empty=x at *
   have HP:=Lib.hid (rsplit44 x wr hsz)
   have hpm:=Lib.hid (partsOf_map x);have hpl:(partsOf x).length=((parts 44 x.data.toList).map ba).length:=by rw [hpm.out,List.length_map]
   have hp0:((parts 44 x.data.toList).map ba).length=(parts 44 x.data.toList).length:=List.length_map _;rw [←hp0] at HP
   have hps:=Lib.hid (show∀y∈(parts 44 x.data.toList).map ba,y.size<4294967281 from fun y hy=>by obtain ⟨l,hl,rfl⟩:=List.mem_map.1 hy;have:=parts_size 44 _ l hl;rw [len] at this;rw [ba_size];omega)
   generalize (parts 44 x.data.toList).map ba=P at *;clear hp0;generalize list (vs.take k)=L at *
   go_wp2_with (go_at_call 117;with_reducible refine HP.out.mono ?_;rintro e w1 ⟨B,n1,c1,rfl,hgB,hn1,hS,hg1,hb1⟩)
   have hB1:=Lib.hid (Base.below_step hbr.out hb1)
   have hown1:=Lib.hid (own_below hown.out hb1);have hS':=Lib.hid hS
   have hne:=Lib.hid (show∀g,u3.ownBlock=some g→g≠B from fun g hg=>by have:=(hown.out.lt g hg).2;omega);clear hgB;clear hS hb1 HP hown hbr
   go_loopw [3,6] (fun v i wq=>∃j:Nat,j≤n1∧i=.int .i64 j∧w1.heap.size≤wq.heap.size∧Hid (wq.ownsRow w.heap.size 9 1 v (L.length+j) ((L++(P.map trim).take j).map Value.string))∧Hid (Below w.heap.size w wq)∧Hid (∀g,v.ownBlock=some g→g≠B)∧Hid (Strs wq (some ⟨B,0,none⟩) n1 P)) (fun _ i _=>n1-(intOf i).toNat)
   case atStart=>exact ⟨0,Nat.zero_le _,rfl,Nat.le_refl _,by rw [List.take_zero,List.append_nil];exact hown1,hB1,hne,hS'⟩
   case round=>
    obtain ⟨j,hj,rfl,hsz,hown,hbq,hne,hSq⟩:=hrel;rcases Nat.lt_or_ge j n1 with hlj | hgj
    ·obtain ⟨bs,os,e,hbs,hc⟩:=hSq.out.2 (by omega);obtain ⟨rfl,rfl⟩:B=bs∧0=os:=by simpa using e
     have hcj:=hc j hlj;rw [Nat.zero_add] at hcj
     have HS1:=Lib.hid (map_snoc trim ByteArray.empty P j (by omega));clear hc e;have hys:(P[j]?.getD ByteArray.empty).size≤maxLen:=by
      have:j<P.length:=by omega
      rw [List.getElem?_eq_getElem this]
      have:=hps.out _ (List.getElem_mem this);show P[j].size≤_;unfold maxLen;omega
     generalize P[j]?.getD ByteArray.empty=y at *
     have HT:=Lib.hid (fun w=>rtrim_any y w hys);clear hys
     go_wp2_with (first
      |(go_at_call 111;with_reducible refine (HT.out _).mono ?_;rintro e w2 ⟨rfl,hw⟩;rw [hw];clear hw)
      |(at_builtin;(refine wpList_append_own_at _ rfl _ _ 89 rfl w.heap.size 9 i0 (.string ByteArray.empty) 1 16 Tryz.underlying89 G1.out G2.out G3.out G4.out rfl (by decide) _ _ _ rfl (hown.out.alloc _) ⟨wr.heap.size,0,none⟩ 1 1 [.string (trim y)] rfl rfl ?c1 ?c2 ?c3 ?c4 ?c5 ?_)))
     case c1=>exact news_one wr _ _
     case c2=>intro u hu;obtain rfl:u=.string (trim y):=by simpa using hu
              rfl
     case c3=>unfold maxLen;omega
     case c4=>omega
     case c5=>have:=hbq.out.size;simp;omega
     intro v' w' hown' hgr _ hloc;have hown2:w'.ownsRow w.heap.size 9 1 v' (L.length+(j+1)) ((L++(P.map trim).take (j+1)).map Value.string):=by rw [HS1.out];simpa [List.append_assoc,Nat.add_assoc] using hown'
     have H2:=Lib.hid hown2
     have H3:=Lib.hid ((hbq.out.alloc hbq.out.size _).grown hgr (by have:=hbq.out.size;simp;omega) (own_base hown.out))
     have H4:=Lib.hid ((hSq.out.below ((Below.refl _ _).alloc (Nat.le_refl _) _)).grown hgr (fun e=>hne.out _ e rfl))
     have H5:=Lib.hid (show∀g,v'.ownBlock=some g→g≠B from fun g hg=>by
      rcases hloc with h | h
      ·exact hne.out g (h ▸ hg)
      ·rw [h] at hg;cases hg;simp;omega)
     have H6:w1.heap.size≤w'.heap.size:=by have:=hgr.size;simp at this;omega
     clear hown' hgr hown2 hloc;go_wp2;go_roundw
     case rel=>exact ⟨j+1,by omega,by go_num,H6,H2,H3,H5,H4⟩
     case measure=>simp [intOf];omega
    ·obtain rfl:j=n1:=by omega
     have hown2:=hown.out;rw [List.take_of_length_le (by rw [List.length_map];omega),←hpm.out] at hown2
     have H2:Hid (wr.ownsRow w.heap.size 9 1 u3 (L++partsOf x).length ((L++partsOf x).map Value.string)):=Lib.hid (by rw [List.length_append,hpl];rw [hn1] at hown2;exact hown2);rw [←hsn.out] at H2;clear hown hown2;go_wp2;go_roundw
     case rel=>exact ⟨k+1,by omega,by go_num,H2,hbq⟩
     case measure=>simp [intOf];omega
  ·obtain rfl:k=n:=by omega
   have hown1:=hown.out;rw [List.take_of_length_le (by rw [HL.out];omega)] at hown1;have H1:=Lib.hid hown1;clear hown1 hown;go_wp2;go_ret;exact ⟨_,rfl,H1.out,hbr.out⟩
theorem rlist_any (a:Option Addr) (n cap:Nat) (vs:List ByteArray) (w:World) (hv:Strs w a n vs) (hr:room vs≤1000000000) :
 Calls Tryz.prog 123 #[.slice a n cap] w fun e w'=>∃b m c,e=.returned (.slice b m c)∧m=(list vs).length∧Strs w' b m (list vs)∧Below w.heap.size w w':=
 (rlist_own a n cap vs w hv hr).mono (by
   rintro e w' ⟨v,rfl,ho,hb⟩;obtain ⟨A,c,rfl,hA⟩:=Strs.of_own ho;exact ⟨A,_,c,rfl,rfl,hA,hb⟩)
theorem rfind_any (a:Option Addr) (n cap:Nat) (fs:List Fld) (name:ByteArray) (w:World) (hv:Flds w a n fs) (hn:n≤1000000000) (hs:∀f∈fs,f.1.size≤1000000000) (ht:name.size≤1000000000) :
 Calls Tryz.prog 108 #[.slice a n cap,.string name] w fun e w'=>∃b m c,e=.returned (.slice b m c)∧m=(find fs name).length∧Strs w' b m (find fs name)∧Below w.heap.size w w':=by
 have HV:=Lib.hid hv;have HL:=Lib.hid hv.1;have HS:=Lib.hid hs;clear hv hs;obtain ⟨i0,hi,hz0,hz1,hz2⟩:=info_parts text_info;have G1:=Lib.hid hi;have G2:=Lib.hid hz0;have G3:=Lib.hid hz1;have G4:=Lib.hid hz2;clear hi hz0 hz1 hz2;go_enter Tryz.func108,Tryz.ntmps108;go_wp2
 go_loopw [5,6] (fun v i wr=>∃k:Nat,k≤n∧i=.int .i64 k∧Hid (wr.ownsRow w.heap.size 9 1 v (find (fs.take k) name).length ((find (fs.take k) name).map Value.string))∧Hid (Below w.heap.size w wr)) (fun _ i _=>n-(intOf i).toNat)
 case atStart=>exact ⟨0,Nat.zero_le _,rfl,Lib.hid ⟨rfl,.inl ⟨rfl,rfl⟩⟩,Lib.hid (Below.refl _ _)⟩
 case round=>
  obtain ⟨k,hk,rfl,hown,hbr⟩:=hrel;rcases Nat.lt_or_ge k n with hlt | hge
  ·obtain ⟨bl,off,rfl,hbl,hc⟩:=(HV.out.below hbr.out).2 (by omega);obtain ⟨hc0,hc1⟩:=hc k hlt
   have hsn:=Lib.hid (find_snoc fs name k (by rw [HL.out];exact hlt));have hfl:=find_le (fs.take k) name;rw [List.length_take] at hfl;have hsz:(fs[k]?.getD dflt).1.size≤1000000000:=by
    have:k<fs.length:=by rw [HL.out];exact hlt
    rw [List.getElem?_eq_getElem this]
    exact HS.out _ (List.getElem_mem _)
   clear hc;generalize fs[k]?.getD dflt=f at *;generalize hL:find (fs.take k) name=L at *;obtain ⟨f0,f1⟩:=f;simp only at hc0 hc1 hsz hsn
   have HC:=Lib.hid (fun w=>rsame_any f0 name w (by omega) (by omega));clear hsz hL;cases hq:same f0 name with
   | false=>
     rw [hq] at HC hsn;rw [if_neg (by decide),List.append_nil] at hsn;clear hq
     go_wp2_with (go_at_call 104;with_reducible refine (HC.out _).mono ?_;rintro e w2 ⟨rfl,hb2⟩);have hb0:Below wr.heap.size wr w2:=hb2
     have H2:Hid (w2.ownsRow w.heap.size 9 1 u5 (find (fs.take (k+1)) name).length ((find (fs.take (k+1)) name).map Value.string)):=Lib.hid (by rw [hsn.out];exact own_below hown.out hb0)
     have H3:=Lib.hid (Base.below_step hbr.out hb0);clear hown hb2 hb0;go_roundw
     case rel=>exact ⟨k+1,by omega,by go_num,H2,H3⟩
     case measure=>simp [intOf];omega
   | true=>
     rw [hq] at HC hsn;rw [if_pos rfl] at hsn;clear hq
     go_wp2_with (first
      |(go_at_call 104;with_reducible refine (HC.out _).mono ?_;rintro e w2 ⟨rfl,hb2⟩
        have hf1:=(hb2.cell (p:=⟨bl,off+k*2+1,none⟩) hbl).trans hc1
        have hb0:=Lib.hid (show Below wr.heap.size wr w2 from hb2)
        have hown0:=Lib.hid (own_below hown.out hb0.out))
      |(at_builtin;refine wpList_append_own _ rfl _ _ 89 rfl w.heap.size 9 i0 (.string ByteArray.empty) 1 16 Tryz.underlying89 G1.out G2.out G3.out G4.out rfl (by decide) _ _ _ rfl (hown0.out.alloc _) ⟨w2.heap.size,0,none⟩ 1 1 [.string f1] rfl rfl ?c1 ?c2 ?c3 ?c4 ?c5 ?_))
     case c1=>exact news_one w2 _ _
     case c2=>intro u hu;obtain rfl:u=.string f1:=by simpa using hu
              rfl
     case c3=>unfold maxLen;omega
     case c4=>omega
     case c5=>have:=hbr.out.size;have:=hb0.out.size;simp;omega
     intro v' w' hown' hgr _
     have H2:Hid (w'.ownsRow w.heap.size 9 1 v' (find (fs.take (k+1)) name).length ((find (fs.take (k+1)) name).map Value.string)):=Lib.hid (by rw [hsn.out];simpa using hown')
     have H3:=Lib.hid (((Base.below_step hbr.out hb0.out).alloc (by have:=hbr.out.size;have:=hb0.out.size;omega) _).grown hgr (by have:=hbr.out.size;have:=hb0.out.size;simp;omega) (own_base hown.out));clear hown' hgr hown hown0;go_wp2;go_roundw
     case rel=>exact ⟨k+1,by omega,by go_num,H2,H3⟩
     case measure=>simp [intOf];omega
  ·obtain rfl:k=n:=by omega
   have hown1:=hown.out;rw [List.take_of_length_le (by rw [HL.out];omega)] at hown1;obtain ⟨A,c,rfl,hA⟩:=Strs.of_own hown1;have HA:=Lib.hid hA;clear hown1 hA hown;go_wp2;go_ret;exact ⟨A,_,c,rfl,rfl,HA.out,hbr.out⟩
end code
end Go.Proofs.YtimoakmcelocfaaGreat.Txt
namespace Go.Proofs.YtimoakmcelocfaaGreat.Rec
open Go.RowKit Base Txt
section code
set_option maxHeartbeats 1000000
attribute [local go_sem] Base.some_undef
theorem rsame_any (V V':Value) (r r':R) (w:World) (h:Reads w V r) (h':Reads w V' r') (hf:Fit r) (hf':Fit r'):Calls Tryz.prog 38 #[V,V'] w fun e w'=>e=.returned (.bool (same r r'))∧Below w.heap.size w w':=by
 obtain ⟨fa,fc,ba,bc,ta,tc,rfl,h1,h2,h3⟩:=h;obtain ⟨fa',fc',ba',bc',ta',tc',rfl,h1',h2',h3'⟩:=h'
 have HF1:=Lib.hid (fun w2 (hb:Below w.heap.size w w2)=>rfields_any fa _ fc _ fa' _ fc' _ w2 (h1.below hb) (h1'.below hb) (by have:=hf.fs;omega) (by have:=hf'.fs;omega))
 have HF2:=Lib.hid (fun w2 (hb:Below w.heap.size w w2)=>rfields_any ta _ tc _ ta' _ tc' _ w2 (h3.below hb) (h3'.below hb) (by have:=hf.ts;omega) (by have:=hf'.ts;omega));have H2:=Lib.hid h2;have H2':=Lib.hid h2';clear h1 h2 h3 h1' h2' h3' hf hf'
 have HB0:=Lib.hid ((((Below.refl _ _).alloc (Nat.le_refl _) (.cells #[.string r.m,.string r.x,.int .i64 r.k,.slice fa r.fs.length fc,.bool r.ch,.slice ba r.body.length bc,.slice ta r.ts.length tc] 57)).alloc (by simp) (.cells #[.string r'.m,.string r'.x,.int .i64 r'.k,.slice fa' r'.fs.length fc',.bool r'.ch,.slice ba' r'.body.length bc',.slice ta' r'.ts.length tc'] 57)):Below w.heap.size w _)
 have HA:=Lib.hid ((Bk.new w w.heap.size rfl 57 [.string r.m,.string r.x,.int .i64 r.k,.slice fa r.fs.length fc,.bool r.ch,.slice ba r.body.length bc,.slice ta r.ts.length tc]).alloc (.cells #[.string r'.m,.string r'.x,.int .i64 r'.k,.slice fa' r'.fs.length fc',.bool r'.ch,.slice ba' r'.body.length bc',.slice ta' r'.ts.length tc'] 57))
 have HB:=Lib.hid (Bk.new (w.alloc (.cells #[.string r.m,.string r.x,.int .i64 r.k,.slice fa r.fs.length fc,.bool r.ch,.slice ba r.body.length bc,.slice ta r.ts.length tc] 57)) (w.heap.size+1) (by simp) 57 [.string r'.m,.string r'.x,.int .i64 r'.k,.slice fa' r'.fs.length fc',.bool r'.ch,.slice ba' r'.body.length bc',.slice ta' r'.ts.length tc']);by_cases g0:r.m=r'.m
 rotate_left
 ·have e:same r r'=false:=by unfold same;simp [g0]
  rw [e];clear e;have t0:(r.m.toList==r'.m.toList)=false:=by rw [ba_beq];exact decide_eq_false g0
  have s0:¬r.m.toList=r'.m.toList:=fun h=>g0 ((toList_iff _ _).1 h);clear g0;go_enter Tryz.func38,Tryz.ntmps38;go_upto_region 1 with fail
  generalize (w.alloc (.cells #[.string r.m,.string r.x,.int .i64 r.k,.slice fa r.fs.length fc,.bool r.ch,.slice ba r.body.length bc,.slice ta r.ts.length tc] 57)).alloc (.cells #[.string r'.m,.string r'.x,.int .i64 r'.k,.slice fa' r'.fs.length fc',.bool r'.ch,.slice ba' r'.body.length bc',.slice ta' r'.ts.length tc'] 57)=W at *;have hA0:=HA.out;have hB0:=HB.out;have q0:=hA0.c 0 _ rfl;have y0:=hB0.c 0 _ rfl;have q1:=hA0.c 1 _ rfl;have y1:=hB0.c 1 _ rfl;have q2:=hA0.c 2 _ rfl;have y2:=hB0.c 2 _ rfl;have q3:=hA0.c 3 _ rfl;have y3:=hB0.c 3 _ rfl;have q4:=hA0.c 4 _ rfl;have y4:=hB0.c 4 _ rfl;have q5:=hA0.c 5 _ rfl;have y5:=hB0.c 5 _ rfl;have q6:=hA0.c 6 _ rfl;have y6:=hB0.c 6 _ rfl;clear hA0 hB0;go_wp2;go_ret;exact ⟨rfl,HB0.out⟩
 by_cases g1:r.x=r'.x
 rotate_left
 ·have e:same r r'=false:=by unfold same;simp [g0,g1]
  rw [e];clear e;have t0:(r.m.toList==r'.m.toList)=true:=by rw [ba_beq];exact decide_eq_true g0
  have s0:r.m.toList=r'.m.toList:=(toList_iff _ _).2 g0;have t1:(r.x.toList==r'.x.toList)=false:=by rw [ba_beq];exact decide_eq_false g1
  have s1:¬r.x.toList=r'.x.toList:=fun h=>g1 ((toList_iff _ _).1 h);clear g0 g1;go_enter Tryz.func38,Tryz.ntmps38;go_upto_region 1 with fail
  generalize (w.alloc (.cells #[.string r.m,.string r.x,.int .i64 r.k,.slice fa r.fs.length fc,.bool r.ch,.slice ba r.body.length bc,.slice ta r.ts.length tc] 57)).alloc (.cells #[.string r'.m,.string r'.x,.int .i64 r'.k,.slice fa' r'.fs.length fc',.bool r'.ch,.slice ba' r'.body.length bc',.slice ta' r'.ts.length tc'] 57)=W at *;have hA0:=HA.out;have hB0:=HB.out;have q0:=hA0.c 0 _ rfl;have y0:=hB0.c 0 _ rfl;have q1:=hA0.c 1 _ rfl;have y1:=hB0.c 1 _ rfl;have q2:=hA0.c 2 _ rfl;have y2:=hB0.c 2 _ rfl;have q3:=hA0.c 3 _ rfl;have y3:=hB0.c 3 _ rfl;have q4:=hA0.c 4 _ rfl;have y4:=hB0.c 4 _ rfl;have q5:=hA0.c 5 _ rfl;have y5:=hB0.c 5 _ rfl;have q6:=hA0.c 6 _ rfl;have y6:=hB0.c 6 _ rfl;clear hA0 hB0;go_wp2;go_ret;exact ⟨rfl,HB0.out⟩
 by_cases g2:r.k=r'.k
 rotate_left
 ·have e:same r r'=false:=by unfold same;simp [g0,g1,g2]
  rw [e];clear e;have t0:(r.m.toList==r'.m.toList)=true:=by rw [ba_beq];exact decide_eq_true g0
  have s0:r.m.toList=r'.m.toList:=(toList_iff _ _).2 g0;have t1:(r.x.toList==r'.x.toList)=true:=by rw [ba_beq];exact decide_eq_true g1
  have s1:r.x.toList=r'.x.toList:=(toList_iff _ _).2 g1;have t2:(r.k==r'.k)=false:=beq_eq_false_iff_ne.2 g2;clear g0 g1 g2;go_enter Tryz.func38,Tryz.ntmps38;go_upto_region 1 with fail
  generalize (w.alloc (.cells #[.string r.m,.string r.x,.int .i64 r.k,.slice fa r.fs.length fc,.bool r.ch,.slice ba r.body.length bc,.slice ta r.ts.length tc] 57)).alloc (.cells #[.string r'.m,.string r'.x,.int .i64 r'.k,.slice fa' r'.fs.length fc',.bool r'.ch,.slice ba' r'.body.length bc',.slice ta' r'.ts.length tc'] 57)=W at *;have hA0:=HA.out;have hB0:=HB.out;have q0:=hA0.c 0 _ rfl;have y0:=hB0.c 0 _ rfl;have q1:=hA0.c 1 _ rfl;have y1:=hB0.c 1 _ rfl;have q2:=hA0.c 2 _ rfl;have y2:=hB0.c 2 _ rfl;have q3:=hA0.c 3 _ rfl;have y3:=hB0.c 3 _ rfl;have q4:=hA0.c 4 _ rfl;have y4:=hB0.c 4 _ rfl;have q5:=hA0.c 5 _ rfl;have y5:=hB0.c 5 _ rfl;have q6:=hA0.c 6 _ rfl;have y6:=hB0.c 6 _ rfl;clear hA0 hB0;go_wp2;go_ret;exact ⟨rfl,HB0.out⟩
 by_cases g3:r.fs=r'.fs
 rotate_left
 ·have e:same r r'=false:=by unfold same;simp [g0,g1,g2,g3]
  rw [e];clear e;have t0:(r.m.toList==r'.m.toList)=true:=by rw [ba_beq];exact decide_eq_true g0
  have s0:r.m.toList=r'.m.toList:=(toList_iff _ _).2 g0;have t1:(r.x.toList==r'.x.toList)=true:=by rw [ba_beq];exact decide_eq_true g1
  have s1:r.x.toList=r'.x.toList:=(toList_iff _ _).2 g1;have t2:(r.k==r'.k)=true:=beq_iff_eq.2 g2;rw [decide_eq_false g3] at HF1;clear g0 g1 g2 g3;go_enter Tryz.func38,Tryz.ntmps38;go_upto_region 1 with fail
  generalize (w.alloc (.cells #[.string r.m,.string r.x,.int .i64 r.k,.slice fa r.fs.length fc,.bool r.ch,.slice ba r.body.length bc,.slice ta r.ts.length tc] 57)).alloc (.cells #[.string r'.m,.string r'.x,.int .i64 r'.k,.slice fa' r'.fs.length fc',.bool r'.ch,.slice ba' r'.body.length bc',.slice ta' r'.ts.length tc'] 57)=W at *;have hA0:=HA.out;have hB0:=HB.out;have q0:=hA0.c 0 _ rfl;have y0:=hB0.c 0 _ rfl;have q1:=hA0.c 1 _ rfl;have y1:=hB0.c 1 _ rfl;have q2:=hA0.c 2 _ rfl;have y2:=hB0.c 2 _ rfl;have q3:=hA0.c 3 _ rfl;have y3:=hB0.c 3 _ rfl;have q4:=hA0.c 4 _ rfl;have y4:=hB0.c 4 _ rfl;have q5:=hA0.c 5 _ rfl;have y5:=hB0.c 5 _ rfl;have q6:=hA0.c 6 _ rfl;have y6:=hB0.c 6 _ rfl;clear hA0 hB0
  go_wp2_with (go_at_call 58;with_reducible refine (HF1.out _ HB0.out).mono ?_;rintro e w1 ⟨rfl,n1,hw1⟩
               have hb1:Below W.heap.size W w1:=by rw [hw1];exact Base.below_drewN (Below.refl _ _) n1
               have HB1:=Lib.hid (Base.below_step HB0.out hb1);have hA1:=HA.out.below hb1;have hB1:=HB.out.below hb1;have q3:=hA1.c 3 _ rfl;have y3:=hB1.c 3 _ rfl;have q4:=hA1.c 4 _ rfl;have y4:=hB1.c 4 _ rfl;have q5:=hA1.c 5 _ rfl;have y5:=hB1.c 5 _ rfl;have q6:=hA1.c 6 _ rfl;have y6:=hB1.c 6 _ rfl;have cv:=conv_str w1 _ _ bc _ (H2.out.below HB1.out);have cv':=conv_str w1 _ _ bc' _ (H2'.out.below HB1.out);clear hA1 hB1 hb1 hw1)
  go_ret;exact ⟨rfl,HB1.out⟩
 by_cases g4:r.ch=r'.ch
 rotate_left
 ·have e:same r r'=false:=by unfold same;simp [g0,g1,g2,g3,g4]
  rw [e];clear e;have t0:(r.m.toList==r'.m.toList)=true:=by rw [ba_beq];exact decide_eq_true g0
  have s0:r.m.toList=r'.m.toList:=(toList_iff _ _).2 g0;have t1:(r.x.toList==r'.x.toList)=true:=by rw [ba_beq];exact decide_eq_true g1
  have s1:r.x.toList=r'.x.toList:=(toList_iff _ _).2 g1;have t2:(r.k==r'.k)=true:=beq_iff_eq.2 g2;rw [decide_eq_true g3] at HF1;have t4:(r.ch==r'.ch)=false:=beq_eq_false_iff_ne.2 g4;clear g0 g1 g2 g3 g4;go_enter Tryz.func38,Tryz.ntmps38;go_upto_region 1 with fail
  generalize (w.alloc (.cells #[.string r.m,.string r.x,.int .i64 r.k,.slice fa r.fs.length fc,.bool r.ch,.slice ba r.body.length bc,.slice ta r.ts.length tc] 57)).alloc (.cells #[.string r'.m,.string r'.x,.int .i64 r'.k,.slice fa' r'.fs.length fc',.bool r'.ch,.slice ba' r'.body.length bc',.slice ta' r'.ts.length tc'] 57)=W at *;have hA0:=HA.out;have hB0:=HB.out;have q0:=hA0.c 0 _ rfl;have y0:=hB0.c 0 _ rfl;have q1:=hA0.c 1 _ rfl;have y1:=hB0.c 1 _ rfl;have q2:=hA0.c 2 _ rfl;have y2:=hB0.c 2 _ rfl;have q3:=hA0.c 3 _ rfl;have y3:=hB0.c 3 _ rfl;have q4:=hA0.c 4 _ rfl;have y4:=hB0.c 4 _ rfl;have q5:=hA0.c 5 _ rfl;have y5:=hB0.c 5 _ rfl;have q6:=hA0.c 6 _ rfl;have y6:=hB0.c 6 _ rfl;clear hA0 hB0
  go_wp2_with (go_at_call 58;with_reducible refine (HF1.out _ HB0.out).mono ?_;rintro e w1 ⟨rfl,n1,hw1⟩
               have hb1:Below W.heap.size W w1:=by rw [hw1];exact Base.below_drewN (Below.refl _ _) n1
               have HB1:=Lib.hid (Base.below_step HB0.out hb1);have hA1:=HA.out.below hb1;have hB1:=HB.out.below hb1;have q3:=hA1.c 3 _ rfl;have y3:=hB1.c 3 _ rfl;have q4:=hA1.c 4 _ rfl;have y4:=hB1.c 4 _ rfl;have q5:=hA1.c 5 _ rfl;have y5:=hB1.c 5 _ rfl;have q6:=hA1.c 6 _ rfl;have y6:=hB1.c 6 _ rfl;have cv:=conv_str w1 _ _ bc _ (H2.out.below HB1.out);have cv':=conv_str w1 _ _ bc' _ (H2'.out.below HB1.out);clear hA1 hB1 hb1 hw1)
  go_ret;exact ⟨rfl,HB1.out⟩
 by_cases g5:r.body=r'.body
 rotate_left
 ·have e:same r r'=false:=by unfold same;simp [g0,g1,g2,g3,g4,g5]
  rw [e];clear e;have t0:(r.m.toList==r'.m.toList)=true:=by rw [ba_beq];exact decide_eq_true g0
  have s0:r.m.toList=r'.m.toList:=(toList_iff _ _).2 g0;have t1:(r.x.toList==r'.x.toList)=true:=by rw [ba_beq];exact decide_eq_true g1
  have s1:r.x.toList=r'.x.toList:=(toList_iff _ _).2 g1;have t2:(r.k==r'.k)=true:=beq_iff_eq.2 g2;rw [decide_eq_true g3] at HF1;have t4:(r.ch==r'.ch)=true:=beq_iff_eq.2 g4
  have t5:((Txt.ba r.body).toList==(Txt.ba r'.body).toList)=false:=by rw [ba_beq];exact decide_eq_false (fun h=>g5 (ba_list_inj.1 h))
  have s5:¬(Txt.ba r.body).toList=(Txt.ba r'.body).toList:=fun h=>g5 (ba_list_inj.1 ((toList_iff _ _).1 h));clear g0 g1 g2 g3 g4 g5;go_enter Tryz.func38,Tryz.ntmps38;go_upto_region 1 with fail
  generalize (w.alloc (.cells #[.string r.m,.string r.x,.int .i64 r.k,.slice fa r.fs.length fc,.bool r.ch,.slice ba r.body.length bc,.slice ta r.ts.length tc] 57)).alloc (.cells #[.string r'.m,.string r'.x,.int .i64 r'.k,.slice fa' r'.fs.length fc',.bool r'.ch,.slice ba' r'.body.length bc',.slice ta' r'.ts.length tc'] 57)=W at *;have hA0:=HA.out;have hB0:=HB.out;have q0:=hA0.c 0 _ rfl;have y0:=hB0.c 0 _ rfl;have q1:=hA0.c 1 _ rfl;have y1:=hB0.c 1 _ rfl;have q2:=hA0.c 2 _ rfl;have y2:=hB0.c 2 _ rfl;have q3:=hA0.c 3 _ rfl;have y3:=hB0.c 3 _ rfl;have q4:=hA0.c 4 _ rfl;have y4:=hB0.c 4 _ rfl;have q5:=hA0.c 5 _ rfl;have y5:=hB0.c 5 _ rfl;have q6:=hA0.c 6 _ rfl;have y6:=hB0.c 6 _ rfl;clear hA0 hB0
  go_wp2_with (go_at_call 58;with_reducible refine (HF1.out _ HB0.out).mono ?_;rintro e w1 ⟨rfl,n1,hw1⟩
               have hb1:Below W.heap.size W w1:=by rw [hw1];exact Base.below_drewN (Below.refl _ _) n1
               have HB1:=Lib.hid (Base.below_step HB0.out hb1);have hA1:=HA.out.below hb1;have hB1:=HB.out.below hb1;have q3:=hA1.c 3 _ rfl;have y3:=hB1.c 3 _ rfl;have q4:=hA1.c 4 _ rfl;have y4:=hB1.c 4 _ rfl;have q5:=hA1.c 5 _ rfl;have y5:=hB1.c 5 _ rfl;have q6:=hA1.c 6 _ rfl;have y6:=hB1.c 6 _ rfl;have cv:=conv_str w1 _ _ bc _ (H2.out.below HB1.out);have cv':=conv_str w1 _ _ bc' _ (H2'.out.below HB1.out);clear hA1 hB1 hb1 hw1)
  go_ret;exact ⟨rfl,HB1.out⟩
 by_cases g6:r.ts=r'.ts
 rotate_left
 ·have e:same r r'=false:=by unfold same;simp [g0,g1,g2,g3,g4,g5,g6]
  rw [e];clear e;have t0:(r.m.toList==r'.m.toList)=true:=by rw [ba_beq];exact decide_eq_true g0
  have s0:r.m.toList=r'.m.toList:=(toList_iff _ _).2 g0;have t1:(r.x.toList==r'.x.toList)=true:=by rw [ba_beq];exact decide_eq_true g1
  have s1:r.x.toList=r'.x.toList:=(toList_iff _ _).2 g1;have t2:(r.k==r'.k)=true:=beq_iff_eq.2 g2;rw [decide_eq_true g3] at HF1;have t4:(r.ch==r'.ch)=true:=beq_iff_eq.2 g4
  have t5:((Txt.ba r.body).toList==(Txt.ba r'.body).toList)=true:=by rw [ba_beq];exact decide_eq_true (by rw [g5])
  have s5:(Txt.ba r.body).toList=(Txt.ba r'.body).toList:=(toList_iff _ _).2 (by rw [g5]);rw [decide_eq_false g6] at HF2;clear g0 g1 g2 g3 g4 g5 g6;go_enter Tryz.func38,Tryz.ntmps38;go_upto_region 1 with fail
  generalize (w.alloc (.cells #[.string r.m,.string r.x,.int .i64 r.k,.slice fa r.fs.length fc,.bool r.ch,.slice ba r.body.length bc,.slice ta r.ts.length tc] 57)).alloc (.cells #[.string r'.m,.string r'.x,.int .i64 r'.k,.slice fa' r'.fs.length fc',.bool r'.ch,.slice ba' r'.body.length bc',.slice ta' r'.ts.length tc'] 57)=W at *;have hA0:=HA.out;have hB0:=HB.out;have q0:=hA0.c 0 _ rfl;have y0:=hB0.c 0 _ rfl;have q1:=hA0.c 1 _ rfl;have y1:=hB0.c 1 _ rfl;have q2:=hA0.c 2 _ rfl;have y2:=hB0.c 2 _ rfl;have q3:=hA0.c 3 _ rfl;have y3:=hB0.c 3 _ rfl;have q4:=hA0.c 4 _ rfl;have y4:=hB0.c 4 _ rfl;have q5:=hA0.c 5 _ rfl;have y5:=hB0.c 5 _ rfl;have q6:=hA0.c 6 _ rfl;have y6:=hB0.c 6 _ rfl;clear hA0 hB0
  go_wp2_with (first
   |(go_at_call 58;with_reducible refine (HF2.out _ HB1.out).mono ?_;rintro e w2 ⟨rfl,n2,hw2⟩
     have hb2:Below w1.heap.size w1 w2:=by rw [hw2];exact Base.below_drewN (Below.refl _ _) n2
     have HB2:=Lib.hid (Base.below_step HB1.out hb2);clear hb2 hw2)
   |(go_at_call 58;with_reducible refine (HF1.out _ HB0.out).mono ?_;rintro e w1 ⟨rfl,n1,hw1⟩
     have hb1:Below W.heap.size W w1:=by rw [hw1];exact Base.below_drewN (Below.refl _ _) n1
     have HB1:=Lib.hid (Base.below_step HB0.out hb1);have hA1:=HA.out.below hb1;have hB1:=HB.out.below hb1;have q3:=hA1.c 3 _ rfl;have y3:=hB1.c 3 _ rfl;have q4:=hA1.c 4 _ rfl;have y4:=hB1.c 4 _ rfl;have q5:=hA1.c 5 _ rfl;have y5:=hB1.c 5 _ rfl;have q6:=hA1.c 6 _ rfl;have y6:=hB1.c 6 _ rfl;have cv:=conv_str w1 _ _ bc _ (H2.out.below HB1.out);have cv':=conv_str w1 _ _ bc' _ (H2'.out.below HB1.out);clear hA1 hB1 hb1 hw1))
  go_ret;exact ⟨rfl,HB2.out⟩
 have e:same r r'=true:=by unfold same;simp [g0,g1,g2,g3,g4,g5,g6]
 rw [e];clear e;have t0:(r.m.toList==r'.m.toList)=true:=by rw [ba_beq];exact decide_eq_true g0
 have s0:r.m.toList=r'.m.toList:=(toList_iff _ _).2 g0;have t1:(r.x.toList==r'.x.toList)=true:=by rw [ba_beq];exact decide_eq_true g1
 have s1:r.x.toList=r'.x.toList:=(toList_iff _ _).2 g1;have t2:(r.k==r'.k)=true:=beq_iff_eq.2 g2;rw [decide_eq_true g3] at HF1;have t4:(r.ch==r'.ch)=true:=beq_iff_eq.2 g4
 have t5:((Txt.ba r.body).toList==(Txt.ba r'.body).toList)=true:=by rw [ba_beq];exact decide_eq_true (by rw [g5])
 have s5:(Txt.ba r.body).toList=(Txt.ba r'.body).toList:=(toList_iff _ _).2 (by rw [g5]);rw [decide_eq_true g6] at HF2;clear g0 g1 g2 g3 g4 g5 g6;go_enter Tryz.func38,Tryz.ntmps38;go_upto_region 1 with fail
 generalize (w.alloc (.cells #[.string r.m,.string r.x,.int .i64 r.k,.slice fa r.fs.length fc,.bool r.ch,.slice ba r.body.length bc,.slice ta r.ts.length tc] 57)).alloc (.cells #[.string r'.m,.string r'.x,.int .i64 r'.k,.slice fa' r'.fs.length fc',.bool r'.ch,.slice ba' r'.body.length bc',.slice ta' r'.ts.length tc'] 57)=W at *;have hA0:=HA.out;have hB0:=HB.out;have q0:=hA0.c 0 _ rfl;have y0:=hB0.c 0 _ rfl;have q1:=hA0.c 1 _ rfl;have y1:=hB0.c 1 _ rfl;have q2:=hA0.c 2 _ rfl;have y2:=hB0.c 2 _ rfl;have q3:=hA0.c 3 _ rfl;have y3:=hB0.c 3 _ rfl;have q4:=hA0.c 4 _ rfl;have y4:=hB0.c 4 _ rfl;have q5:=hA0.c 5 _ rfl;have y5:=hB0.c 5 _ rfl;have q6:=hA0.c 6 _ rfl;have y6:=hB0.c 6 _ rfl;clear hA0 hB0
 go_wp2_with (first
  |(go_at_call 58;with_reducible refine (HF2.out _ HB1.out).mono ?_;rintro e w2 ⟨rfl,n2,hw2⟩
    have hb2:Below w1.heap.size w1 w2:=by rw [hw2];exact Base.below_drewN (Below.refl _ _) n2
    have HB2:=Lib.hid (Base.below_step HB1.out hb2);clear hb2 hw2)
  |(go_at_call 58;with_reducible refine (HF1.out _ HB0.out).mono ?_;rintro e w1 ⟨rfl,n1,hw1⟩
    have hb1:Below W.heap.size W w1:=by rw [hw1];exact Base.below_drewN (Below.refl _ _) n1
    have HB1:=Lib.hid (Base.below_step HB0.out hb1);have hA1:=HA.out.below hb1;have hB1:=HB.out.below hb1;have q3:=hA1.c 3 _ rfl;have y3:=hB1.c 3 _ rfl;have q4:=hA1.c 4 _ rfl;have y4:=hB1.c 4 _ rfl;have q5:=hA1.c 5 _ rfl;have y5:=hB1.c 5 _ rfl;have q6:=hA1.c 6 _ rfl;have y6:=hB1.c 6 _ rfl;have cv:=conv_str w1 _ _ bc _ (H2.out.below HB1.out);have cv':=conv_str w1 _ _ bc' _ (H2'.out.below HB1.out);clear hA1 hB1 hb1 hw1))
 go_ret;exact ⟨rfl,HB2.out⟩
end code
end Go.Proofs.YtimoakmcelocfaaGreat.Rec
namespace Go.Proofs.YtimoakmcelocfaaGreat.Rec
open Go.RowKit Base Txt
def RecAt (w:World) (b o:Nat) (r:R):Prop:=
 ∃(fa:Option Addr) (fc:Nat) (ba:Option Addr) (bc:Nat) (ta:Option Addr) (tc:Nat),
  (w.cell? ⟨b,o,none⟩=some (.string r.m)∧w.cell? ⟨b,o+1,none⟩=some (.string r.x)∧w.cell? ⟨b,o+2,none⟩=some (.int .i64 r.k)∧w.cell? ⟨b,o+3,none⟩=some (.slice fa r.fs.length fc)∧
   w.cell? ⟨b,o+4,none⟩=some (.bool r.ch)∧w.cell? ⟨b,o+5,none⟩=some (.slice ba r.body.length bc)∧w.cell? ⟨b,o+6,none⟩=some (.slice ta r.ts.length tc))∧
  Reads w (.agg #[.string r.m,.string r.x,.int .i64 r.k,.slice fa r.fs.length fc,.bool r.ch,.slice ba r.body.length bc,.slice ta r.ts.length tc]) r
theorem RecAt.below {w w':World} {b o:Nat} {r:R} (h:RecAt w b o r) (hlt:b<w.heap.size) (hb:Below w.heap.size w w'):RecAt w' b o r:=by
 obtain ⟨fa,fc,ba,bc,ta,tc,⟨c0,c1,c2,c3,c4,c5,c6⟩,hr⟩:=h
 exact ⟨fa,fc,ba,bc,ta,tc,⟨(hb.cell (p:=⟨b,o,none⟩) hlt).trans c0,(hb.cell (p:=⟨b,o+1,none⟩) hlt).trans c1,(hb.cell (p:=⟨b,o+2,none⟩) hlt).trans c2,(hb.cell (p:=⟨b,o+3,none⟩) hlt).trans c3,
  (hb.cell (p:=⟨b,o+4,none⟩) hlt).trans c4,(hb.cell (p:=⟨b,o+5,none⟩) hlt).trans c5,(hb.cell (p:=⟨b,o+6,none⟩) hlt).trans c6⟩,hr.below hb⟩
def r0:R:=⟨ByteArray.empty,ByteArray.empty,0,[],false,[],[]⟩
def Recs (w:World) (a:Option Addr) (n:Nat) (rs:List R):Prop:=
 rs.length=n∧(0<n→∃b off,a=some ⟨b,off,none⟩∧b<w.heap.size∧∀k,k<n→RecAt w b (off+k*7) (rs[k]?.getD r0))
theorem Recs.below {w w':World} {a:Option Addr} {n:Nat} {rs:List R} (h:Recs w a n rs) (hb:Below w.heap.size w w'):Recs w' a n rs:=by refine ⟨h.1,fun hn=>?_⟩;obtain ⟨b,off,e,hlt,hc⟩:=h.2 hn;exact ⟨b,off,e,Nat.lt_of_lt_of_le hlt hb.size,fun k hk=>(hc k hk).below hlt hb⟩
theorem all_iff:∀a b:List R,all a b=true↔a=b
 | [],[]=>by simp [all]
 | [],_ :: _=>by simp [all]
 | _ :: _,[]=>by simp [all]
 | x::a,y::b=>by rw [all,Bool.and_eq_true,same_iff,all_iff a b,List.cons.injEq]
theorem all_len (a b:List R) (h:¬a.length=b.length):all a b=false:=by
 rw [Bool.eq_false_iff]
 exact fun e=>h (by rw [(all_iff a b).1 e])
theorem take_eq (xs ys:List R) (k:Nat) (hx:k<xs.length) (hy:k<ys.length) (h:xs.take k=ys.take k) (e:xs[k]?.getD r0=ys[k]?.getD r0):xs.take (k+1)=ys.take (k+1):=by
 rw [List.take_succ_eq_append_getElem hx,List.take_succ_eq_append_getElem hy,h];rw [List.getElem?_eq_getElem hx,List.getElem?_eq_getElem hy] at e
 congr 2
theorem fit_at {rs:List R} (h:∀r∈rs,Fit r) (k:Nat) (hk:k<rs.length):Fit (rs[k]?.getD r0):=by rw [List.getElem?_eq_getElem hk];exact h _ (List.getElem_mem hk)
section code
set_option maxHeartbeats 2000000
theorem rall_any (a:Option Addr) (n cap:Nat) (rs:List R) (b:Option Addr) (m cap2:Nat) (qs:List R) (w:World) (hv:Recs w a n rs) (hu:Recs w b m qs) (hn:n≤1000000000) (hm:m≤1000000000) (hf:∀r∈rs,Fit r) (hg:∀r∈qs,Fit r) :
 Calls Tryz.prog 22 #[.slice a n cap,.slice b m cap2] w fun e w'=>e=.returned (.bool (all rs qs))∧Below w.heap.size w w':=by
 have HV:=Lib.hid hv;have HU:=Lib.hid hu;have HF:=Lib.hid hf;have HG:=Lib.hid hg;have HL:=Lib.hid hv.1;have HM:=Lib.hid hu.1;by_cases hnm:n=m
 ·subst hnm;clear hv hu hf hg;obtain ⟨B,hB⟩:∃B,all rs qs=B:=⟨_,rfl⟩;rw [hB];have HB:=Lib.hid hB;clear hB;go_enter Tryz.func22,Tryz.ntmps22;go_wp2
  go_loopw [5] (fun i wr=>∃k:Nat,k≤n∧i=.int .i64 k∧Hid (rs.take k=qs.take k)∧Hid (Below w.heap.size w wr)) (fun i _=>n-(intOf i).toNat)
  case atStart=>exact ⟨0,Nat.zero_le _,rfl,Lib.hid rfl,Lib.hid (Below.refl _ _)⟩
  case round=>
   obtain ⟨k,hk,rfl,hpre,hbr⟩:=hrel;rcases Nat.lt_or_ge k n with hlt | hge
   ·obtain ⟨bl,off,rfl,hbl,hc⟩:=(HV.out.below hbr.out).2 (by omega)
    obtain ⟨bl',off',rfl,hbl',hc'⟩:=(HU.out.below hbr.out).2 (by omega);have hkr:k<rs.length:=by rw [HL.out];exact hlt
    have hkq:k<qs.length:=by rw [HM.out];exact hlt
    have h1:=hc k hlt;have h2:=hc' k hlt;have f1:=fit_at HF.out k hkr;have f2:=fit_at HG.out k hkq
    have HN:=Lib.hid (take_eq rs qs k hkr hkq hpre.out)
    have HX:=Lib.hid (show rs=qs→rs[k]?.getD r0=qs[k]?.getD r0 from fun e=>by rw [e]);clear hc hc' hkr hkq;generalize rs[k]?.getD r0=x at *;generalize qs[k]?.getD r0=y at *;obtain ⟨fa,fc,ba,bc,ta,tc,⟨c0,c1,c2,c3,c4,c5,c6⟩,hr1⟩:=h1;obtain ⟨fa',fc',ba',bc',ta',tc',⟨d0,d1,d2,d3,d4,d5,d6⟩,hr2⟩:=h2
    have HC:=Lib.hid (fun w2 (hb:Below wr.heap.size wr w2)=>rsame_any _ _ _ _ w2 (hr1.below hb) (hr2.below hb) f1 f2)
    have HCE:=Lib.hid (show∀w1,Below wr.heap.size wr w1→(w1.cell? ⟨bl,off+k*7,none⟩=some (.string x.m)∧w1.cell? ⟨bl,off+k*7+1,none⟩=some (.string x.x)∧w1.cell? ⟨bl,off+k*7+2,none⟩=some (.int .i64 x.k)∧w1.cell? ⟨bl,off+k*7+3,none⟩=some (.slice fa x.fs.length fc)∧w1.cell? ⟨bl,off+k*7+4,none⟩=some (.bool x.ch)∧w1.cell? ⟨bl,off+k*7+5,none⟩=some (.slice ba x.body.length bc)∧w1.cell? ⟨bl,off+k*7+6,none⟩=some (.slice ta x.ts.length tc)) from
     fun w1 hb=>⟨(hb.cell (p:=⟨bl,off+k*7,none⟩) hbl).trans c0,(hb.cell (p:=⟨bl,off+k*7+1,none⟩) hbl).trans c1,(hb.cell (p:=⟨bl,off+k*7+2,none⟩) hbl).trans c2,(hb.cell (p:=⟨bl,off+k*7+3,none⟩) hbl).trans c3,(hb.cell (p:=⟨bl,off+k*7+4,none⟩) hbl).trans c4,(hb.cell (p:=⟨bl,off+k*7+5,none⟩) hbl).trans c5,(hb.cell (p:=⟨bl,off+k*7+6,none⟩) hbl).trans c6⟩)
    have HCD:=Lib.hid (show∀w1,Below wr.heap.size wr w1→(w1.cell? ⟨bl',off'+k*7,none⟩=some (.string y.m)∧w1.cell? ⟨bl',off'+k*7+1,none⟩=some (.string y.x)∧w1.cell? ⟨bl',off'+k*7+2,none⟩=some (.int .i64 y.k)∧w1.cell? ⟨bl',off'+k*7+3,none⟩=some (.slice fa' y.fs.length fc')∧w1.cell? ⟨bl',off'+k*7+4,none⟩=some (.bool y.ch)∧w1.cell? ⟨bl',off'+k*7+5,none⟩=some (.slice ba' y.body.length bc')∧w1.cell? ⟨bl',off'+k*7+6,none⟩=some (.slice ta' y.ts.length tc')) from
     fun w1 hb=>⟨(hb.cell (p:=⟨bl',off'+k*7,none⟩) hbl').trans d0,(hb.cell (p:=⟨bl',off'+k*7+1,none⟩) hbl').trans d1,(hb.cell (p:=⟨bl',off'+k*7+2,none⟩) hbl').trans d2,(hb.cell (p:=⟨bl',off'+k*7+3,none⟩) hbl').trans d3,(hb.cell (p:=⟨bl',off'+k*7+4,none⟩) hbl').trans d4,(hb.cell (p:=⟨bl',off'+k*7+5,none⟩) hbl').trans d5,(hb.cell (p:=⟨bl',off'+k*7+6,none⟩) hbl').trans d6⟩)
    have i1:(k:Int)<(n:Int):=by omega
    clear hr1 hr2 f1 f2 c0 c1 c2 c3 c4 c5 c6 d0 d1 d2 d3 d4 d5 d6
    have hdr:=Lib.hid (Base.below_drewN (Below.refl wr.heap.size wr) 1);obtain ⟨z,hz⟩:∃z,same x y=z:=⟨_,rfl⟩;rw [hz] at HC;have HZ:=Lib.hid hz;clear hz;go_wp2_with fail;refine Each.region_all 10 [17,18,19,20,21,22,23,24,25,26]
     [fun v _=>v=.slice (some ⟨bl,off,none⟩) n cap,
       fun v _=>v=.int .i64 ((k:Nat):Int),
       fun v _=>v=.pointer (some ⟨bl,off+k*7,none⟩),
       fun v _=>v=.agg #[.string x.m,.string x.x,.int .i64 x.k,.slice fa x.fs.length fc,.bool x.ch,.slice ba x.body.length bc,.slice ta x.ts.length tc],
       fun v _=>v=(.slice (some ⟨bl',off',none⟩) n cap2),
       fun v _=>v=.int .i64 ((k:Nat):Int),
       fun v _=>v=.pointer (some ⟨bl',off'+k*7,none⟩),
       fun v _=>v=.agg #[.string y.m,.string y.x,.int .i64 y.k,.slice fa' y.fs.length fc',.bool y.ch,.slice ba' y.body.length bc',.slice ta' y.ts.length tc'],
       fun v _=>v=.bool z,
       fun v _=>v=.bool (!z)]
      (by kernel_rfl) (by kernel_rfl) (by kernel_rfl) (by kernel_rfl) (fun _ _ d _ _ h=>by cases d<;>exact h) (by rfl) (by rfl)
     ⟨Each.Lasts.eq _,Each.Lasts.eq _,Each.Lasts.eq _,Each.Lasts.eq _,Each.Lasts.eq _,Each.Lasts.eq _,Each.Lasts.eq _,Each.Lasts.eq _,Each.Lasts.eq _,Each.Lasts.eq _,trivial⟩ ?_ ?_
    ·refine ⟨?_,?_,?_,?_,?_,?_,?_,?_,?_,?_,trivial⟩
     ·refine Each.fine rfl (fun ev w1 hR hb hh=>?_);clear hh;have e0:=hR.old 0 rfl;simp only [Array.getD_eq_getD_getElem?,List.getElem?_toArray,List.getElem?_cons_zero,Option.getD_some] at e0;refine Each.Goes.same ?_;go_simp;try with_reducible rfl
     ·refine Each.fine rfl (fun ev w1 hR hb hh=>?_);clear hh;have e5:=hR.old 5 rfl;simp only [Array.getD_eq_getD_getElem?,List.getElem?_toArray,List.getElem?_cons_succ,List.getElem?_cons_zero,Option.getD_some] at e5;refine Each.Goes.same ?_;go_simp;try with_reducible rfl
     ·refine Each.fine rfl (fun ev w1 hR hb hh=>?_);have e17:(ev (.tmp 17)=.slice (some ⟨bl,off,none⟩) n cap):=hh.at 0;have e18:(ev (.tmp 18)=.int .i64 ((k:Nat):Int)):=hh.at 1;clear hh;refine Each.Goes.same ?_;go_simp;try with_reducible rfl
     ·refine Each.fine rfl (fun ev w1 hR hb hh=>?_);have e19:(ev (.tmp 19)=.pointer (some ⟨bl,off+k*7,none⟩)):=hh.at 0;clear hh
      obtain ⟨q0,q1,q2,q3,q4,q5,q6⟩:=HCE.out w1 (hdr.out.trans (hb.mono (Nat.le_refl _)));refine Each.Goes.same ?_;go_simp;try with_reducible rfl
     ·refine Each.fine rfl (fun ev w1 hR hb hh=>?_);clear hh;have e1:=hR.old 1 rfl;simp only [Array.getD_eq_getD_getElem?,List.getElem?_toArray,List.getElem?_cons_succ,List.getElem?_cons_zero,Option.getD_some] at e1;refine Each.Goes.same ?_;go_simp;try with_reducible rfl
     ·refine Each.fine rfl (fun ev w1 hR hb hh=>?_);clear hh;have e5:=hR.old 5 rfl;simp only [Array.getD_eq_getD_getElem?,List.getElem?_toArray,List.getElem?_cons_succ,List.getElem?_cons_zero,Option.getD_some] at e5;refine Each.Goes.same ?_;go_simp;try with_reducible rfl
     ·refine Each.fine rfl (fun ev w1 hR hb hh=>?_);have e21:(ev (.tmp 21)=(.slice (some ⟨bl',off',none⟩) n cap2)):=hh.at 0;have e22:(ev (.tmp 22)=.int .i64 ((k:Nat):Int)):=hh.at 1;clear hh;refine Each.Goes.same ?_;go_simp;try with_reducible rfl
     ·refine Each.fine rfl (fun ev w1 hR hb hh=>?_);have e23:(ev (.tmp 23)=.pointer (some ⟨bl',off'+k*7,none⟩)):=hh.at 0;clear hh
      obtain ⟨q0,q1,q2,q3,q4,q5,q6⟩:=HCD.out w1 (hdr.out.trans (hb.mono (Nat.le_refl _)));refine Each.Goes.same ?_;go_simp;try with_reducible rfl
     ·refine Each.fine rfl (fun ev w1 hR hb hh=>?_);have e20:(ev (.tmp 20)=.agg #[.string x.m,.string x.x,.int .i64 x.k,.slice fa x.fs.length fc,.bool x.ch,.slice ba x.body.length bc,.slice ta x.ts.length tc]):=hh.at 0;have e24:(ev (.tmp 24)=.agg #[.string y.m,.string y.x,.int .i64 y.k,.slice fa' y.fs.length fc',.bool y.ch,.slice ba' y.body.length bc',.slice ta' y.ts.length tc']):=hh.at 1;clear hh;have ef:=hR.func
      refine Each.Goes.enter 38 #[.agg #[.string x.m,.string x.x,.int .i64 x.k,.slice fa x.fs.length fc,.bool x.ch,.slice ba x.body.length bc,.slice ta x.ts.length tc],.agg #[.string y.m,.string y.x,.int .i64 y.k,.slice fa' y.fs.length fc',.bool y.ch,.slice ba' y.body.length bc',.slice ta' y.ts.length tc']] (by go_simp) ((HC.out w1 (hdr.out.trans (hb.mono (Nat.le_refl _)))).mono ?_);rintro e w2 ⟨rfl,hb2⟩;exact ⟨_,rfl,hb2,rfl⟩
     ·refine Each.fine rfl (fun ev w1 hR hb hh=>?_);have e25:(ev (.tmp 25)=.bool z):=hh.at 0;clear hh;refine Each.Goes.same ?_;go_simp;try with_reducible rfl
    intro g1 w2 hb hf;have z26:(g1 26=.bool (!z)):=hf.at 9;clear hf;simp only [Each.putg,Act.put,List.setIfInBounds_toArray,List.set_cons_zero,List.set_cons_succ];rw [z26]
    have H3:=Lib.hid (Base.below_step hbr.out hb);clear hb;cases z with
    | true=>
      have HE:=Lib.hid (HN.out ((same_iff _ _).1 HZ.out));clear HN HX HZ;go_wp2;go_roundw
      case rel=>exact ⟨k+1,by omega,by go_num,HE,H3⟩
      case measure=>simp [intOf];omega
    | false=>
      have HE:=Lib.hid (show B=false by
       rw [←HB.out,Bool.eq_false_iff];intro e
       have:=(same_iff _ _).2 (HX.out ((all_iff _ _).1 e));rw [HZ.out] at this;cases this)
      clear HN HX HZ;go_wp2;go_ret;exact ⟨by first | rfl |(rw [HE.out];rfl),H3.out⟩
   ·obtain rfl:k=n:=by omega
    have HE:=Lib.hid (show B=true by
     rw [←HB.out,all_iff];have:=hpre.out
     rwa [List.take_of_length_le (by rw [HL.out];omega),List.take_of_length_le (by rw [HM.out];omega)] at this)
    clear hpre;go_wp2;go_ret;exact ⟨by first | rfl |(rw [HE.out];rfl),hbr.out⟩
 ·have e:all rs qs=false:=all_len rs qs (by rw [hv.1,hu.1];exact hnm);have t0:((n:Int)==(m:Int))=false:=by rw [beq_eq_false_iff_ne];omega
  have t1:¬(n:Int)=(m:Int):=by omega
  rw [e];clear hv hu hf hg e hnm;go_enter Tryz.func22,Tryz.ntmps22;go_wp2;go_ret;exact ⟨rfl,Below.refl _ _⟩
end code
end Go.Proofs.YtimoakmcelocfaaGreat.Rec
namespace Go.Proofs.YtimoakmcelocfaaGreat.Flt
open Go.RowKit Base Txt Par Pg
structure F where
 x:Q
 y:Q
 code:Nat
 parted:Bool
def F.judge (f:F) (s l:Nat) (alike:Bool):F:=
 if s≠0 then {f with code:=s,parted:=l==0} else if (!(l==0) || !alike)=true then {f with code:=400,parted:=true} else f
section
variable (p:Nat) (b:Bd)
def F.look (f:F) (c:UInt8):F × List Rec.R:=
 let x:=f.x.byte 0 b c
 let y:=f.y.byte p b c
 (F.judge ⟨x.told,y.told,f.code,f.parted⟩ x.err y.err (Rec.all x.out y.out),if Rec.all x.out y.out=true then x.out else [])
def F.byte (f:F) (c:UInt8):F × List Rec.R:=if f.code=0 then f.look p b c else (f,[])
def F.feed:F→List UInt8→F × List Rec.R
 | f,[]=>(f,[])
 | f,c::l=>((F.feed (f.byte p b c).1 l).1,(f.byte p b c).2++(F.feed (f.byte p b c).1 l).2)
def F.new:F:=⟨Q.new 0 b,Q.new p b,(Q.new p b).err,false⟩
def F.held (f:F):Nat:=max f.x.held f.y.held
theorem F.feed_app (l l':List UInt8):∀f:F,F.feed p b f (l++l')=((F.feed p b (F.feed p b f l).1 l').1,(F.feed p b f l).2++(F.feed p b (F.feed p b f l).1 l').2):=by
 induction l with
 | nil=>intro f;simp [F.feed]
 | cons c l ih=>
   intro f;rw [List.cons_append];simp only [F.feed];rw [ih,List.append_assoc]
theorem F.feed_snoc (l:List UInt8) (c:UInt8) (f:F):F.feed p b f (l ++ [c])=((F.byte p b (F.feed p b f l).1 c).1,(F.feed p b f l).2++(F.byte p b (F.feed p b f l).1 c).2):=by rw [F.feed_app];simp [F.feed]
theorem F.feed_blocked (f:F) (h:f.code≠0):∀l:List UInt8,F.feed p b f l=(f,[])
 | []=>rfl
 | c::l=>by
   have e:f.byte p b c=(f,[]):=if_neg h;simp only [F.feed,e,F.feed_blocked f h l,List.append_nil]
end
section
variable {p:Nat} {b:Bd}
theorem told_out (x:Q):x.told.out= []:=by cases x<;>rfl
def F.Just (p:Nat) (b:Bd) (f:F):Prop:=
 (f.code=0∧f.parted=false∧∃t,f.x=.live t∧t.Strict∧t.out= []∧f.y=.live (t.wide p)∧t.Ok∧b.right=true∧∃s,RR 0 b t s)∨(f.code≠0∧∃o,f.x=.dead f.code o)
theorem just_new (hp:p<1073741824) (hb:b.right=true):(F.new p b).Just p b:=by
 have e:Q.new p b=.live (T.new p b):=if_pos (by rw [hb,decide_eq_true hp];rfl)
 have e0:Q.new 0 b=.live (T.new 0 b):=if_pos (by rw [hb];rfl)
 have hs:=new_sim (p:=0) (b:=b);rw [e0] at hs;refine .inl ⟨?_,rfl,T.new 0 b,e0,(new_wide (p:=p)).2,rfl,?_,⟨Ln.M.new_ok _ _ _ (Ln.mid_le _),rfl,⟨Nat.le_refl _,by show 1≤7;omega⟩,Nat.zero_le _,Nat.zero_le _,Nat.le_refl _,Nat.le_refl _,(by intro y hy;cases hy),(by intro y hy;cases hy),Nat.zero_le _,Nat.zero_le _,Nat.zero_le _,fun h=>(by cases h),fun _=>rfl,Nat.zero_le _⟩,hb,_,hs⟩
 ·show (Q.new p b).err=0;rw [e];rfl
 ·show Q.new p b= _;rw [e,(new_wide (p:=p)).1]
theorem all_self (l:List Rec.R):Rec.all l l=true:=(Rec.all_iff l l).2 rfl
theorem just_byte {f:F} (h:f.Just p b) (c:UInt8):(f.byte p b c).1.Just p b:=by
 rcases h with ⟨h1,h2,t,h3,h4,h5,h6,h7,h8,s,h9⟩ | ⟨h1,o,h2⟩
 ·unfold F.byte;rw [if_pos h1];unfold F.look;rw [h3,h6];have e1:(Q.live t).byte 0 b c=t.take 0 b c:=rfl;have e2:(Q.live (t.wide p)).byte p b c=(t.wide p).take p b c:=rfl;have hs:=take_sim h9 h7 h8 c;simp only [e1,e2];cases ht:t.take 0 b c with
  | live t2=>
    obtain ⟨k1,k2⟩:=take_wide (p:=p) ht h4;rw [ht] at hs;rw [k1];left;have ej:F.judge ⟨(Q.live t2).told,(Q.live (t2.wide p)).told,f.code,f.parted⟩ (Q.live t2).err (Q.live (t2.wide p)).err (Rec.all (Q.live t2).out (Q.live (t2.wide p)).out)=⟨(Q.live t2).told,(Q.live (t2.wide p)).told,f.code,f.parted⟩:=by have e3:Rec.all (Q.live t2).out (Q.live (t2.wide p)).out=true:=all_self _;unfold F.judge;rw [e3];rfl
    rw [ej];have hk:=told_sim (x:=.live t2) hs;exact ⟨h1,h2,{t2 with out:= []},rfl,⟨k2.lf,k2.cr⟩,rfl,rfl,(told_fine (x:=.live t2) (b:=b) ⟨h7.take h8 c ht,h8⟩).1,h8,_,hk⟩
  | dead e o=>
    rw [ht] at hs;obtain ⟨k1,k2,k3,k4⟩:=hs;right;unfold F.judge;simp only [if_pos (show (Q.dead e o).err≠0 from k2)];exact ⟨k2,[],rfl⟩
 ·unfold F.byte;rw [if_neg h1];exact .inr ⟨h1,o,h2⟩
theorem just_feed (l:List UInt8):∀{f:F},f.Just p b→(F.feed p b f l).1.Just p b:=by
 induction l with
 | nil=>intro f h;exact h
 | cons c l ih=>intro f h;exact ih (just_byte h c)
theorem Ok.fit {t:T} (h:t.Ok):Rec.Fit t.r:=
 ⟨by have:=h.m;omega,by have:=h.x;omega,by have:=h.fsl;have:=h.hl;omega,fun y hy=>by have:=h.fss y hy;have:=h.hl;omega,by have:=h.body;omega,by have:=h.tsl;have:=h.bl;omega,fun y hy=>by have:=h.tss y hy;have:=h.bl;omega⟩
theorem line_told (t:T) (s:List UInt8):(t.line p b s).2.out=t.out∨(t.line p b s).2.out=t.out ++ [t.r]:=by
 unfold T.line;split
 ·unfold T.first;split
  ·exact .inl rfl
  ·simp only;split<;>exact .inl rfl
 ·split
  ·unfold T.fields;split
   ·unfold T.endHead;simp only;split
    ·exact .inl rfl
    ·split
     ·exact .inl rfl
     ·split
      ·exact .inr rfl
      ·exact .inl rfl
   ·exact .inl rfl
  ·split
   ·unfold T.chunk;simp only;split
    ·exact .inl rfl
    ·split
     ·exact .inl rfl
     ·split<;>exact .inl rfl
   ·split
    ·unfold T.trail;split
     ·exact .inr rfl
     ·exact .inl rfl
    ·exact .inl rfl
theorem ends_out (x:Nat × T):(ends x).out=x.2.out:=by unfold ends;split<;>rfl
def Fits (o:List Rec.R):Prop:=∀r∈o,Rec.Fit r
theorem inLine_fits {t:T} (h:Fits t.out) (ok:t.Ok) (c:UInt8):Fits (t.inLine p b c).1.out:=by
 unfold T.inLine;simp only;split
 ·exact h
 ·split
  ·exact h
  ·split
   ·split
    ·exact h
    ·exact h
   ·show Fits (ends _).out;rw [ends_out];have hf:Rec.Fit t.r:=Ok.fit ok;rcases line_told (p:=p) (b:=b) {t with rd:=t.rd.byte c} (t.rd.byte c).line with e | e
    ·rw [e];exact h
    ·rw [e];intro r hr;rcases List.mem_append.1 hr with hr | hr
     ·exact h r hr
     ·rw [List.mem_singleton.1 hr];exact hf
theorem look_fits {t:T} (h:Fits t.out) (ok:t.Ok) (hb:b.right=true) (c:UInt8):Fits (t.look p b c).1.out:=by
 unfold T.look;split
 ·rename_i hs;have hk:Rec.Fit (t.keep c).r:=by
   have h1:=Ok.fit ok;have h2:=ok.left hs;exact ⟨h1.m,h1.x,h1.fs,h1.f,by have:=ok.body;show (t.r.body ++ [c]).length≤_;rw [List.length_append,List.length_singleton];omega,h1.ts,h1.t⟩
  show Fits (if t.left=1 then (t.keep c).endData p else t.keep c).out;split
  ·unfold T.endData;split
   ·exact h
   ·intro r hr;rcases List.mem_append.1 hr with hr | hr
    ·exact h r hr
    ·rw [List.mem_singleton.1 hr];exact hk
  ·exact h
 ·split
  ·rename_i hh;split
   ·show Fits t.out;exact h
   ·rename_i hx;exact inLine_fits (by rw [counted_out];exact h) (ok.counted hb hx) c
  ·exact inLine_fits h ok c
theorem byte_fits {x:Q} (h:Fits x.out) (ok:x.Fine b) (c:UInt8):Fits (x.byte p b c).out:=by
 cases x with
 | dead e o=>exact h
 | live t=>
   obtain ⟨h1,h2⟩:=ok;show Fits (t.take p b c).out;unfold T.take;have k1:=look_fits (p:=p) (b:=b) (t:={t with cnt:=false}) h h1.cleared h2 c;rcases hq:T.look p b {t with cnt:=false} c with ⟨q,u⟩;rw [hq] at k1;cases q with
   | dead e o=>cases u<;>exact k1
   | live t1=>
     cases u with
     | true=>exact k1
     | false=>exact look_fits k1 (h1.cleared.look h2 c (by rw [hq])) h2 c
end
end Go.Proofs.YtimoakmcelocfaaGreat.Flt
namespace Go.Proofs.YtimoakmcelocfaaGreat.Each
open Go.RowKit Base Mem Par
structure Thing (A A':World→List (Option Nat)→Prop):Prop where
 keeps:∀{w w':World} {L M:List (Option Nat)},A w L→Keeps M w w'→(∀k,some k∈L→some k∉M)→A w' L
 keeps':∀{w w':World} {L M:List (Option Nat)},A' w L→Keeps M w w'→(∀k,some k∈L→some k∉M)→A' w' L
 inn:∀{w:World} {L:List (Option Nat)},A w L→In w L
 inn':∀{w:World} {L:List (Option Nat)},A' w L→In w L
 uniq:∀{w:World} {L L':List (Option Nat)},(A w L∨A' w L)→(A w L'∨A' w L')→L=L'
theorem Thing.now {A A':World→List (Option Nat)→Prop} (h:Thing A A') {w w':World} {L M:List (Option Nat)} (hA:A w L∨A' w L) (hk:Keeps M w w') (hd:∀k,some k∈L→some k∉M):A w' L∨A' w' L:=
 hA.imp (fun h1=>h.keeps h1 hk hd) (fun h1=>h.keeps' h1 hk hd)
theorem Thing.in {A A':World→List (Option Nat)→Prop} (h:Thing A A') {w:World} {L:List (Option Nat)} (hA:A w L∨A' w L):In w L:=hA.elim h.inn h.inn'
def Dis (L M:List (Option Nat)):Prop:=∀k,some k∈L→some k∉M
theorem Dis.symm {L M:List (Option Nat)} (h:Dis L M):Dis M L:=fun k hM hL=>h k hL hM
theorem Dis.of {W:World} {L M M':List (Option Nat)} (h:Dis L M) (hin:In W L) (ho:Of W M M'):Dis L M':=fun k hL hM=>by
 rcases ho k hM with e | e
 ·exact h k hL e
 ·have:=hin k hL;omega
section
variable {P:Program} {l:List Oper} {Q:Exit→Act→World→Prop} {fs:List Fact} {a0:Act} {ds:List Nat}
variable (A A' C C':World→List (Option Nat)→Prop) (L1 L2:List (Option Nat)) (i1 i2:Nat) (W:World)
structure Two (b:Array Bool) (w:World):Prop where
 keeps:Keeps (L1++L2) W w
 both:∃M1 M2,(A' w M1∧b.getD i1 false=true∨A w M1∧M1=L1)∧(C' w M2∧b.getD i2 false=true∨C w M2∧M2=L2)∧Dis M1 M2∧Of W L1 M1∧Of W L2 M2
def RTwo (k:Nat) (w w':World):Prop:=
 if k=i1 then w'=w∨∃M1,A' w' M1∧Step L1 M1 w w' else if k=i2 then w'=w∨∃M2,C' w' M2∧Step L2 M2 w w' else Below w.heap.size w w'
variable {A A' C C' L1 L2 i1 i2 W}
theorem Two.step (hA:Thing A A') (hC:Thing C C') (h12:i1≠i2) {b:Array Bool} {k:Nat} {w w':World} (hks:k<b.size) (hbk:b.getD k false=false) (h:Two A A' C C' L1 L2 i1 i2 W b w) (hR:RTwo A' C' L1 L2 i1 i2 k w w'):Two A A' C C' L1 L2 i1 i2 W (b.setIfInBounds k true) w':=by
 obtain ⟨hk,M1,M2,h1,h2,h3,h4,h5⟩:=h
 have hin1:In w M1:=h1.elim (fun h=>hA.inn' h.1) (fun h=>hA.inn h.1)
 have hin2:In w M2:=h2.elim (fun h=>hC.inn' h.1) (fun h=>hC.inn h.1);have g1:(b.setIfInBounds k true).getD i1 false=if i1=k then true else b.getD i1 false:=get_set b k i1 hks
 have g2:(b.setIfInBounds k true).getD i2 false=if i2=k then true else b.getD i2 false:=get_set b k i2 hks
 have up1:b.getD i1 false=true→(b.setIfInBounds k true).getD i1 false=true:=fun e=>by rw [g1,e];split<;>rfl
 have up2:b.getD i2 false=true→(b.setIfInBounds k true).getD i2 false=true:=fun e=>by rw [g2,e];split<;>rfl
 unfold RTwo at hR;by_cases e1:k=i1
 ·rw [if_pos e1] at hR;subst e1;have h1':A w M1∧M1=L1:=by
   rcases h1 with ⟨-,h⟩ | h
   ·rw [hbk] at h;cases h
   ·exact h
  rcases hR with rfl | ⟨M1',hA',hs⟩
  ·exact ⟨hk,M1,M2,.inr h1',h2.imp (fun h=>⟨h.1,up2 h.2⟩) id,h3,h4,h5⟩
  ·have e:=h1'.2;subst e;have hd:Dis M2 M1':=h3.symm.of hin2 hs.of
   exact ⟨hk.trans (hs.keeps.mono fun k hk=>List.mem_append_left _ hk) Of.refl,M1',M2,.inl ⟨hA',by rw [g1,if_pos rfl]⟩,
    h2.imp (fun h=>⟨hC.keeps' h.1 hs.keeps h3.symm,up2 h.2⟩) (fun h=>⟨hC.keeps h.1 hs.keeps h3.symm,h.2⟩),hd.symm,h4.trans hs.of hk.size,h5⟩
 ·rw [if_neg e1] at hR;by_cases e2:k=i2
  ·rw [if_pos e2] at hR;subst e2;have h2':C w M2∧M2=L2:=by
    rcases h2 with ⟨-,h⟩ | h
    ·rw [hbk] at h;cases h
    ·exact h
   rcases hR with rfl | ⟨M2',hC',hs⟩
   ·exact ⟨hk,M1,M2,h1.imp (fun h=>⟨h.1,up1 h.2⟩) id,.inr h2',h3,h4,h5⟩
   ·have e:=h2'.2;subst e;have hd:Dis M1 M2':=h3.of hin1 hs.of
    exact ⟨hk.trans (hs.keeps.mono fun k hk=>List.mem_append_right _ hk) Of.refl,M1,M2',h1.imp (fun h=>⟨hA.keeps' h.1 hs.keeps h3,up1 h.2⟩) (fun h=>⟨hA.keeps h.1 hs.keeps h3,h.2⟩),
     .inl ⟨hC',by rw [g2,if_pos rfl]⟩,hd,h4,h5.trans hs.of hk.size⟩
  ·rw [if_neg e2] at hR;have hkb:Keeps [] w w':=Keeps.of_below hR
   exact ⟨hk.trans hkb (fun k hk=>by cases hk),M1,M2,h1.imp (fun h=>⟨hA.keeps' h.1 hkb (by simp),up1 h.2⟩) (fun h=>⟨hA.keeps h.1 hkb (by simp),h.2⟩),
    h2.imp (fun h=>⟨hC.keeps' h.1 hkb (by simp),up2 h.2⟩) (fun h=>⟨hC.keeps h.1 hkb (by simp),h.2⟩),h3,h4,h5⟩
theorem fine_two {k:Nat} {o:Oper} {f:Fact} (h1:k≠i1) (h2:k≠i2) (hg:o.guard=none) (h:∀(ev:Operand→Value) (w:World),Reads a0 ds ev→Keeps (L1++L2) W w→has l fs ev w o.after.toList→Goes P o ev f w) :
 FineR P l fs (RTwo A' C' L1 L2 i1 i2) (Two A A' C C' L1 L2 i1 i2 W) a0 ds k o f:=
 fun ev _ w hr hK _ hh=>⟨fun _=>(h ev w hr hK.keeps hh).gen fun w' hb=>by unfold RTwo;rw [if_neg h1,if_neg h2];exact hb,fun hw=>by simp [Region.wanted,hg] at hw⟩
theorem fine_first {o:Oper} {f:Fact} (hg:o.guard=none) (h:∀(ev:Operand→Value) (w:World) (M2:List (Option Nat)),Reads a0 ds ev→Keeps (L1++L2) W w→A w L1→(C w M2∨C' w M2)→Dis L1 M2→has l fs ev w o.after.toList→
 GoesR P o ev f (fun w w'=>∃M1,A' w' M1∧Step L1 M1 w w') w) :
 FineR P l fs (RTwo A' C' L1 L2 i1 i2) (Two A A' C C' L1 L2 i1 i2 W) a0 ds i1 o f:=by
 intro ev b w hr hK hb hh;refine ⟨fun _=>?_,fun hw=>by simp [Region.wanted,hg] at hw⟩;obtain ⟨hk,M1,M2,h1,h2,h3,h4,h5⟩:=hK;have h1':A w M1∧M1=L1:=by
  rcases h1 with ⟨-,h⟩ | h
  ·rw [hb] at h;cases h
  ·exact h
 have e:=h1'.2;subst e;have hR:RTwo A' C' M1 L2 i1 i2 i1=fun w w'=>w'=w∨∃M1',A' w' M1'∧Step M1 M1' w w':=by funext w w';unfold RTwo;rw [if_pos rfl]
 rw [hR];cases h ev w M2 hr hk h1'.1 (h2.elim (fun h=>.inr h.1) (fun h=>.inl h.1)) h3 hh with
 | value v w' hrun hb hf=>exact .value v w' hrun (.inr hb) hf
 | enter g args hrun hc=>
   refine .enter g args hrun (hc.mono ?_);rintro e w' ⟨v,rfl,hb,hfv⟩;exact ⟨v,rfl,.inr hb,hfv⟩
theorem fine_second {o:Oper} {f:Fact} (h12:i1≠i2) (hg:o.guard=none) (h:∀(ev:Operand→Value) (w:World) (M1:List (Option Nat)),Reads a0 ds ev→Keeps (L1++L2) W w→C w L2→(A w M1∨A' w M1)→Dis L2 M1→has l fs ev w o.after.toList→
 GoesR P o ev f (fun w w'=>∃M2,C' w' M2∧Step L2 M2 w w') w) :
 FineR P l fs (RTwo A' C' L1 L2 i1 i2) (Two A A' C C' L1 L2 i1 i2 W) a0 ds i2 o f:=by
 intro ev b w hr hK hb hh;refine ⟨fun _=>?_,fun hw=>by simp [Region.wanted,hg] at hw⟩;obtain ⟨hk,M1,M2,h1,h2,h3,h4,h5⟩:=hK;have h2':C w M2∧M2=L2:=by
  rcases h2 with ⟨-,h⟩ | h
  ·rw [hb] at h;cases h
  ·exact h
 have e:=h2'.2;subst e;have hR:RTwo A' C' L1 M2 i1 i2 i2=fun w w'=>w'=w∨∃M2',C' w' M2'∧Step M2 M2' w w':=by funext w w';unfold RTwo;rw [if_neg h12.symm,if_pos rfl]
 rw [hR];cases h ev w M1 hr hk h2'.1 (h1.elim (fun h=>.inr h.1) (fun h=>.inl h.1)) h3.symm hh with
 | value v w' hrun hb hf=>exact .value v w' hrun (.inr hb) hf
 | enter g args hrun hc=>
   refine .enter g args hrun (hc.mono ?_);rintro e w' ⟨v,rfl,hb,hfv⟩;exact ⟨v,rfl,.inr hb,hfv⟩
def waits (l:List Oper) (k j:Nat):Bool:=match l[k]? with
 | some o=>o.after.toList.any fun e=>Region.binds .any e&&e.on==j
 | none=>false
def LastsTwo (l:List Oper) (A' C':World→List (Option Nat)→Prop) (L1 L2:List (Option Nat)) (i1 i2 k:Nat) (f:Fact):Prop:=
 (∀v w w',Below w.heap.size w w'→f v w→f v w')∧(k≠i1→waits l k i1=false→∀v w w' M1,A' w' M1→Step L1 M1 w w'→f v w→f v w')∧(k≠i2→waits l k i2=false→∀v w w' M2,C' w' M2→Step L2 M2 w w'→f v w→f v w')
theorem LastsTwo.pure (k:Nat) (p:Value→Prop):LastsTwo l A' C' L1 L2 i1 i2 k (fun v _=>p v):=⟨fun _ _ _ _ h=>h,fun _ _ _ _ _ _ _ _ h=>h,fun _ _ _ _ _ _ _ _ h=>h⟩
theorem LastsTwo.keeps {k:Nat} {f:Fact} (h:∀v w w' M,(∀k,some k∈M→some k∈L1++L2)→Keeps M w w'→f v w→f v w'):LastsTwo l A' C' L1 L2 i1 i2 k f:=
 ⟨fun v w w' hb hf=>h v w w' [] (by intro k hk;cases hk) (Keeps.of_below hb) hf,fun _ _ v w w' _ _ hs hf=>h v w w' L1 (fun _ hk=>List.mem_append_left _ hk) hs.keeps hf,fun _ _ v w w' _ _ hs hf=>h v w w' L2 (fun _ hk=>List.mem_append_right _ hk) hs.keeps hf⟩
def EveryTwo (l:List Oper) (A' C':World→List (Option Nat)→Prop) (L1 L2:List (Option Nat)) (i1 i2:Nat):Nat→List Fact→Prop
 | _,[]=>True
 | k,f::fs=>LastsTwo l A' C' L1 L2 i1 i2 k f∧EveryTwo l A' C' L1 L2 i1 i2 (k+1) fs
theorem everyTwo_at:∀{fs:List Fact} {n:Nat},EveryTwo l A' C' L1 L2 i1 i2 n fs→∀(k:Nat) (f:Fact),fs[k]?=some f→LastsTwo l A' C' L1 L2 i1 i2 (n+k) f
 | [],_,_,k,f,hf=>by simp at hf
 | g::fs,n,h,0,f,hf=>by simp at hf;subst hf;exact h.1
 | g::fs,n,h,k+1,f,hf=>by
   have:=everyTwo_at h.2 k f (by simpa using hf);rw [show n+(k+1)=n+1+k by omega];exact this
def AllTwo (P:Program) (l:List Oper) (fs:List Fact) (R:Nat→World→World→Prop) (K:Array Bool→World→Prop) (a0:Act) (ds:List Nat):Nat→List Oper→List Fact→Prop
 | k,o::os,f::gs=>FineR P l fs R K a0 ds k o f∧AllTwo P l fs R K a0 ds (k+1) os gs
 | _,_,_=>True
theorem allTwo_at {R:Nat→World→World→Prop} {K:Array Bool→World→Prop}:∀{os:List Oper} {gs:List Fact} {n:Nat},AllTwo P l fs R K a0 ds n os gs→∀(k:Nat) (o:Oper) (f:Fact),os[k]?=some o→gs[k]?=some f→FineR P l fs R K a0 ds (n+k) o f
 | [],_,_,_,k,o,f,ho,hf=>by simp at ho
 | _ :: _,[],_,_,k,o,f,ho,hf=>by simp at hf
 | _ :: _,_ :: _,_,h,0,o,f,ho,hf=>by simp at ho hf;subst ho hf;exact h.1
 | _ :: _,_ :: _,n,h,k+1,o,f,ho,hf=>by
   have:=allTwo_at h.2 k o f (by simpa using ho) (by simpa using hf);rw [show n+(k+1)=n+1+k by omega];exact this
theorem region_two (m:Nat) (ds:List Nat) (fs:List Fact) (i1 i2:Nat) {id:Nat} {a0:Act} {w:World} (hA:Thing A A') (hC:Thing C C') (hA0:A w L1) (hC0:C w L2) (hd:Dis L1 L2)
 (hmo:P.follows .mixedOrders=true) (hg:good l m ds [] (l.length-m)=true) (hns:Region.noSelect l.toArray=true)
 (hp:Tree.fits l.toArray .done (l.length-m) (fill l.length m [])=true) (hQ:∀c a d v w,Q (.panic c) (Act.put a d v) w→Q (.panic c) a w)
 (hsz:ds.all (fun d=>decide (d<a0.tmps.size))=true) (hlen:fs.length=m) (hi:(decide (i1<m)&&(decide (i2<m)&&decide (i1≠i2)))=true) (hlast:EveryTwo l A' C' L1 L2 i1 i2 0 fs)
 (hfine:AllTwo P l fs (RTwo A' C' L1 L2 i1 i2) (Two A A' C C' L1 L2 i1 i2 (w.drewN 1)) a0 ds 0 l fs)
 (hrest:∀(g:Nat→Value) (w':World) (M1 M2:List (Option Nat)),(A w' M1∨A' w' M1)→(C w' M2∨C' w' M2)→Dis M1 M2→Of w L1 M1→Of w L2 M2→Keeps (L1++L2) w w'→facts g w' ds fs→Q .normal (putg g ds a0) w'):(Code.region id l.toArray true).wp P Q a0 w:=by
 simp only [Bool.and_eq_true,decide_eq_true_eq] at hi;obtain ⟨hi1,hi2,h12⟩:=hi
 have hbd:Keeps [] w (w.drewN 1):=Keeps.of_below (Base.below_drewN (Below.refl w.heap.size w) 1);have hml:m≤l.length:=by simp only [good,Bool.and_eq_true,decide_eq_true_eq] at hg;exact hg.1
 refine region_gen (K:=fun b w'=>b.size=l.length∧Two A A' C C' L1 L2 i1 i2 (w.drewN 1) b w') (R:=RTwo A' C' L1 L2 i1 i2) m ds fs [] (l.length-m) .done hmo hg hns hp hQ hsz hlen
  ⟨by simp,Keeps.refl,L1,L2,.inr ⟨hA.keeps hA0 hbd (by simp),rfl⟩,.inr ⟨hC.keeps hC0 hbd (by simp),rfl⟩,hd,Of.refl,Of.refl⟩
  (fun b k w1 w2 hk hbk hK hR=>⟨by simp [hK.1],hK.2.step hA hC h12 (by rw [hK.1];omega) hbk hR⟩) (fun k w=>?_) (fun k j f hf hjk hwt v w1 w2 hR hv=>?_) trivial (fun k o f ho hf _ ev b w1 hr hK hb hh=>?_) (fun g w' hK hf=>?_)
 ·unfold RTwo;split
  ·exact .inl rfl
  ·split
   ·exact .inl rfl
   ·exact Below.refl _ _
 ·have:=everyTwo_at hlast k f hf;rw [Nat.zero_add] at this;obtain ⟨l1,l2,l3⟩:=this;have hw0:∀i,j=i→waits l k i=false:=by
   intro i hi;unfold waits;cases ho:l[k]? with
   | none=>rfl
   | some o=>
     rw [Bool.eq_false_iff];intro hh;obtain ⟨e,he,h2⟩:=List.any_eq_true.1 hh;rw [Bool.and_eq_true,beq_iff_eq] at h2
     exact hwt o ho e he h2.1 (h2.2.trans hi.symm)
  unfold RTwo at hR;split at hR
  ·rename_i e;rcases hR with rfl | ⟨M1,h1,h2⟩
   ·exact hv
   ·exact l2 (by omega) (hw0 _ e) v w1 w2 M1 h1 h2 hv
  ·split at hR
   ·rename_i e;rcases hR with rfl | ⟨M2,h1,h2⟩
    ·exact hv
    ·exact l3 (by omega) (hw0 _ e) v w1 w2 M2 h1 h2 hv
   ·exact l1 v w1 w2 hR hv
 ·have:=allTwo_at hfine k o f ho hf;rw [Nat.zero_add] at this;exact this ev b w1 hr hK.2 hb hh
 ·obtain ⟨-,hk,M1,M2,h1,h2,h3,h4,h5⟩:=hK;rw [Tree.grow];have hof:∀{L M:List (Option Nat)},Of (w.drewN 1) L M→Of w L M:=fun h k hk=>h k hk
  exact Tree.done (hrest g w' M1 M2 (h1.elim (fun h=>.inr h.1) (fun h=>.inl h.1)) (h2.elim (fun h=>.inr h.1) (fun h=>.inl h.1)) h3 (hof h4) (hof h5) (Keeps.trans (hbd.mono fun k hk=>by cases hk) hk Of.refl) hf)
end
end Go.Proofs.YtimoakmcelocfaaGreat.Each
namespace Go.Proofs.YtimoakmcelocfaaGreat.Pg
open Go.RowKit Base Txt Mem Par Each
section
variable {w w':World} {B:Zone} {g q:Nat} {v f bd t o:Value} {p:Nat} {b:Bd} {L M:List (Option Nat)} {x:Q} {rd:Ln.M} {fs ts:List Fld} {body:List UInt8}
theorem cells_inj {a c:List Value} {ty:TypeId} {fr:Nat × Nat} (h1:w.heap[g]?=some (.cells a.toArray ty fr)) (h2:w.heap[g]?=some (.cells c.toArray ty fr)):a=c:=by have h3:=h1.symm.trans h2;simp only [Option.some.injEq,Obj.cells.injEq,and_true] at h3;simpa using h3
theorem Told.keeps {out:List Rec.R} (h:Told L B w o out) (hk:Keeps M w w') (hM:∀k,some k∈M→some k∈B.z):Told L B w' o out:=by obtain ⟨ps,h1,h2,h3⟩:=h.outs;refine ⟨⟨ps,h1,fun x hx=>⟨(h2 x hx).1,?_⟩,hk.own h3 fun k e hm=>h.off k e (hM k hm)⟩,fun k e=>⟨(h.far k e).1,Nat.lt_of_lt_of_le (h.far k e).2 hk.size⟩,h.off⟩;have hf:=(h2 x hx).2;have hf2:Far M B.z w (.agg x.1) x.2:=⟨hf.reads,fun k hb=>⟨fun hm=>hf.off k hb (hM k hm),(hf.far k hb).2⟩,hf.off⟩;have:=hf2.keeps hk;exact ⟨this.reads,fun k hb=>⟨(hf.far k hb).1,(this.far k hb).2⟩,hf.off⟩
theorem Told.rezone {out:List Rec.R} (h:Told L B w o out) {Z:List (Option Nat)} (hZ:∀k,some k∈Z→some k∈B.z∨w.heap.size≤k):Told L ⟨B.b,Z⟩ w o out:=by
 obtain ⟨ps,h1,h2,h3⟩:=h.outs;refine ⟨⟨ps,h1,fun x hx=>⟨(h2 x hx).1,(h2 x hx).2.reads,(h2 x hx).2.far,fun k hb hz=>?_⟩,h3⟩,h.far,fun k e hz=>?_⟩
 ·rcases hZ k hz with e | e
  ·exact (h2 x hx).2.off k hb e
  ·have:=((h2 x hx).2.far k hb).2;omega
 ·rcases hZ k hz with e1 | e1
  ·exact h.off k e e1
  ·have:=(h.far k e).2;omega
end
end Go.Proofs.YtimoakmcelocfaaGreat.Pg
namespace Go.Proofs.YtimoakmcelocfaaGreat.Flt
open Go.RowKit Base Txt Mem Par Pg Each
abbrev fcells (g1 g2:Nat) (code:Nat) (pt:Bool):List Value:= [ptr g1,ptr g2,.int .i64 (code:Int),.bool pt]
abbrev fblks (g:Nat) (L1 L2:List (Option Nat)):List (Option Nat):=some g::(L1++L2)
section
variable {w w':World} {B g g1 g2 p:Nat} {b:Bd} {L1 L2 M:List (Option Nat)} {f:F}
structure Fix (M:List (Option Nat)) (w:World) (g:Nat) (cs:List Value):Prop where
 row:∃ty,w.heap[g]?=some (.cells cs.toArray ty (0,0))
 off:some g∉M
theorem Fix.below {cs:List Value} (h:Fix M w g cs) (hk:Keeps M w w'):Fix M w' g cs:=⟨h.row.imp fun _ h1=>hk.row h1 h.off,h.off⟩
theorem Fix.c {cs:List Value} (h:Fix M w g cs) (k:Nat) (v:Value) (hv:cs[k]?=some v):w.cell? ⟨g,k,none⟩=some v:=by obtain ⟨_,h1⟩:=h.row;exact row_cellL h1 hv
def OneBy (M:List (Option Nat)) (a:Option Addr) (c:Nat):Fact:=fun v w=>∃k,v=.slice (some ⟨k,0,none⟩) 1 1∧k<w.heap.size∧some k∉M∧w.cell? ⟨k,0,none⟩=some (.slice a 1 c)
def ToldBy (A' C C':World→List (Option Nat)→Prop) (L2 Z:List (Option Nat)) (B:Nat) (out:List Rec.R):Fact:=fun v w=>∃M1 M2,A' w M1∧(C w M2∨C' w M2)∧Dis M1 L2∧Pg.Told M1 ⟨B,L2++(M2++Z)⟩ w v out
variable {A A' C C':World→List (Option Nat)→Prop} {Z:List (Option Nat)} {out:List Rec.R} {i1 i2 k:Nat} {l:List Oper}
theorem ToldBy.below (hA:Thing A A') (hC:Thing C C') {v:Value} (h:ToldBy A' C C' L2 Z B out v w) (hb:Below w.heap.size w w'):ToldBy A' C C' L2 Z B out v w':=by obtain ⟨M1,M2,h1,h2,h3,h4⟩:=h;have hk:Keeps [] w w':=Keeps.of_below hb;exact ⟨M1,M2,hA.keeps' h1 hk (by simp),hC.now h2 hk (by simp),h3,h4.keeps hk (by simp)⟩
theorem ToldBy.step (hA:Thing A A') {v:Value} (h:ToldBy A' C C' L2 Z B out v w) {M:List (Option Nat)} (hM:C' w' M) (hs:Step L2 M w w'):ToldBy A' C C' L2 Z B out v w':=by
 obtain ⟨M1,M2,h1,h2,h3,h4⟩:=h;have h5:Pg.Told M1 ⟨B,L2++(M++Z)⟩ w v out:=h4.rezone fun k hk=>by
  rw [List.mem_append,List.mem_append] at hk;show some k∈L2++(M2++Z)∨_;rw [List.mem_append,List.mem_append];rcases hk with hk | hk | hk
  ·exact .inl (.inl hk)
  ·exact (hs.of k hk).imp .inl id
  ·exact .inl (.inr (.inr hk))
 exact ⟨M1,M,hA.keeps' h1 hs.keeps h3,.inr hM,h3,h5.keeps hs.keeps fun k hk=>List.mem_append_left _ hk⟩
theorem ToldBy.first (hA:Thing A A') (hC:Thing C C') (hk:k=i1∨waits l k i1=true):LastsTwo l A' C' L1 L2 i1 i2 k (ToldBy A' C C' L2 Z B out):=
 ⟨fun _ _ _ hb h=>h.below hA hC hb,fun h1 h2=>absurd hk (by rw [h2];simpa using h1),fun _ _ _ _ _ _ hM hs h=>h.step hA hM hs⟩
theorem ToldBy.second (hA:Thing A A') (hC:Thing C C') (hk:k=i2∨waits l k i2=true):LastsTwo l A' C' L1 L2 i1 i2 k (ToldBy C' A A' L1 Z B out):=
 ⟨fun _ _ _ hb h=>h.below hC hA hb,fun _ _ _ _ _ _ hM hs h=>h.step hC hM hs,fun h1 h2=>absurd hk (by rw [h2];simpa using h1)⟩
theorem told_widen {B:Zone} {L L':List (Option Nat)} {v:Value} (h:Pg.Told L B w v out) (hL:∀k,some k∈L'→some k∈L∨some k∈B.z):Pg.Told L' B w v out:=by
 obtain ⟨ps,h1,h2,h3⟩:=h.outs;refine ⟨⟨ps,h1,fun x hx=>⟨(h2 x hx).1,(h2 x hx).2.reads,fun k hb=>⟨fun hm=>?_,((h2 x hx).2.far k hb).2⟩,(h2 x hx).2.off⟩,h3⟩,fun k e=>⟨fun hm=>?_,(h.far k e).2⟩,h.off⟩
 ·rcases hL k hm with e | e
  ·exact ((h2 x hx).2.far k hb).1 e
  ·exact (h2 x hx).2.off k hb e
 ·rcases hL k hm with e1 | e1
  ·exact (h.far k e).1 e1
  ·exact h.off k e e1
theorem told_recs {B:Zone} {L:List (Option Nat)} {v:Value} (h:Pg.Told L B w v out):∃a c,v=.slice a out.length c∧Rec.Recs w a out.length out:=by
 obtain ⟨a,c,e,hc⟩:=h.at;refine ⟨a,c,e,rfl,fun h0=>?_⟩;obtain ⟨bk,e1,hlt,h1⟩:=hc h0;refine ⟨bk,0,e1,hlt,fun k hk=>?_⟩;obtain ⟨fa,fc,ba,bc,ta,tc,f1,f2,f3,c0,c1,c2,c3,c4,c5,c6⟩:=h1 k hk;have e2:out[k]?.getD Rec.r0=out[k]:=by rw [List.getElem?_eq_getElem hk];rfl
 rw [e2,Nat.zero_add];exact ⟨fa,fc,ba,bc,ta,tc,⟨c0,c1,c2,c3,c4,c5,c6⟩,fa,fc,ba,bc,ta,tc,rfl,f1,f2,f3⟩
theorem clear_app {Z Z' L:List (Option Nat)} (h:Clear w Z L) (h':Clear w Z' L):Clear w (Z++Z') L:=
 ⟨fun k hk=>(List.mem_append.1 hk).elim (h.inz k) (h'.inz k),fun k hk hz=>(List.mem_append.1 hz).elim (h.off k hk) (h'.off k hk)⟩
theorem clear_cons {Z L:List (Option Nat)} (hg:g<w.heap.size) (hn:some g∉L) (h:Clear w Z L):Clear w (some g::Z) L:=
 ⟨fun k hk=>by
   rcases List.mem_cons.1 hk with e | e
   ·cases e;exact hg
   ·exact h.inz k e,fun k hk hz=>by
   rcases List.mem_cons.1 hz with e | e
   ·cases e;exact hn hk
   ·exact h.off k hk e⟩
theorem clear_dis {Z L:List (Option Nat)} (hin:In w Z) (hd:Dis L Z):Clear w Z L:=⟨hin,hd⟩
theorem clear_sub {Z L L':List (Option Nat)} (h:Clear w Z L) (hs:∀k,some k∈L'→some k∈L):Clear w Z L':=⟨h.inz,fun k hk=>h.off k (hs k hk)⟩
theorem bts_sub {L L':List (Option Nat)} {a:Option Addr} {s:List UInt8} (h:Bts L w a s) (hs:∀k,some k∈L'→some k∈L):Bts L' w a s:=⟨h.nums,fun ad e=>⟨fun hm=>(h.far ad e).1 (hs _ hm),(h.far ad e).2⟩⟩
theorem bts_keeps {L:List (Option Nat)} {a:Option Addr} {s:List UInt8} (h:Bts L w a s) (hk:Keeps L w w'):Bts L w' a s:=h.step ⟨hk,Of.refl⟩
theorem told_nil (L:List (Option Nat)) (B:Zone) (w:World):Pg.Told L B w (.slice none 0 0) []:=⟨⟨[],rfl,(by intro x hx;cases hx),World.ownsRow_nil _ _ _ _⟩,(fun k e=>by cases e),(fun k e=>by cases e)⟩
end
end Go.Proofs.YtimoakmcelocfaaGreat.Flt
namespace Go.Proofs.YtimoakmcelocfaaGreat.Flt
open Go.RowKit Base Txt Mem Par Pg Each
section code
set_option maxHeartbeats 4000000
set_option maxRecDepth 20000
attribute [local go_sem] Base.some_undef
variable {w:World} {B g g1 g2 p:Nat} {b:Bd} {L1 L2:List (Option Nat)} {f:F}
end code
end Go.Proofs.YtimoakmcelocfaaGreat.Flt
namespace Go.Proofs.YtimoakmcelocfaaGreat.Flt
open Go.RowKit Base Txt Mem Par Pg Each
section
variable {w w' w0 w1:World} {B g g1 g2 p:Nat} {b:Bd} {L L' L1 L2 N1 N2 M1 M2 Z:List (Option Nat)} {f f':F} {V U:Value} {out out2:List Rec.R}
theorem look_len (hx:f.x.out= []) (c:UInt8):(f.look p b c).2.length≤2:=by
 show (if Rec.all (f.x.byte 0 b c).out (f.y.byte p b c).out=true then (f.x.byte 0 b c).out else []).length≤2;split
 ·have:=Q.byte_out (p:=0) (b:=b) f.x c;rw [hx] at this;simpa using this
 ·simp
theorem outs_step {B:Zone} (h:Outs (V.ownBlock::L) B w V out) (hs:Step L L' w w') (ho:∀k,V.ownBlock=some k→some k∉L):Outs (V.ownBlock::L') B w' V out:=by
 obtain ⟨ps,h1,h2,h3⟩:=h;refine ⟨ps,h1,fun x hx=>⟨(h2 x hx).1,?_⟩,hs.keeps.own h3 ho⟩;have e1:=(h2 x hx).2
 have e2:=e1.keeps (hs.keeps.mono fun k hk=>List.mem_cons_of_mem _ hk);refine ⟨e2.reads,fun k hb=>⟨fun hm=>?_,(e2.far k hb).2⟩,e1.off⟩;rcases List.mem_cons.1 hm with e | e
 ·exact (e1.far k hb).1 (by rw [e];exact List.mem_cons_self ..)
 ·rcases hs.of k e with e | e
  ·exact (e1.far k hb).1 (List.mem_cons_of_mem _ e)
  ·have:=(e1.far k hb).2;omega
theorem outs_append {b0 b1:Nat} (h:Outs (V.ownBlock::L) ⟨b0,Z⟩ w V out) (h':Outs (V.ownBlock::L) ⟨b1,Z⟩ w U out2) (hn:out.length+out2.length≤1000000000) (hb:b0≤w.heap.size) :
 ∃V' w',(Builtin.append_ #[51,51] 51 #[V,U]).run Tryz.prog w=.ok V' w'∧Outs (V'.ownBlock::L) ⟨b0,Z⟩ w' V' (out++out2)∧Keeps [V.ownBlock] w w'∧(V'.ownBlock=V.ownBlock∨V'.ownBlock=some w.heap.size):=by
 obtain ⟨ps,h1,h2,h3⟩:=h;obtain ⟨qs,g1,g2,g3⟩:=h';obtain ⟨iR,hi,hz0,hz1,hz2⟩:=info_parts record_info;have hlen:(qs.flatMap (·.1.toList)).length=out2.length*7:=by
  rw [←g1,List.length_map];have:∀rs:List (Array Value × Rec.R),(∀x∈rs,x.1.size=7)→(rs.flatMap (·.1.toList)).length=rs.length*7:=fun rs=>by
   induction rs with
   | nil=>intro _;rfl
   | cons x rs ih=>
     intro hx;rw [List.flatMap_cons,List.length_append,ih fun y hy=>hx y (by simp [hy]),Array.length_toList,hx x (by simp),List.length_cons];omega
  exact this qs fun x hx=>(g2 x hx).1
 obtain ⟨a,c,eU, -⟩:=Ln.own_slice g3;subst eU;have hone:∀u∈qs.flatMap (·.1.toList),u.oneCell'=true:=by
  intro u hu;obtain ⟨x,hx,hu⟩:=List.mem_flatMap.1 hu;obtain ⟨fa,fc,ba,bc,ta,tc,e, -, -, -⟩:=(g2 x hx).2.reads;have e:x.1= #[.string x.2.m,.string x.2.x,.int .i64 x.2.k,.slice fa x.2.fs.length fc,.bool x.2.ch,.slice ba x.2.body.length bc,.slice ta x.2.ts.length tc]:=by injection e
  rw [e] at hu;simp only [List.mem_cons,List.not_mem_nil,or_false] at hu;rcases hu with rfl | rfl | rfl | rfl | rfl | rfl | rfl<;>rfl
 obtain ⟨V',w',hrun,ho,hgr,hor⟩:=App.run_append_list w 51 51 b0 57 iR (.agg #[.string ByteArray.empty,.string ByteArray.empty,.int .i64 0,.slice none 0 0,.bool false,.slice none 0 0,.slice none 0 0]) 7 120 Tryz.underlying51 hi hz0 hz1 hz2 rfl (by decide) V out.length (ps.flatMap (·.1.toList)) h3 a out2.length c (qs.flatMap (·.1.toList)) hlen
  (fun h0=>by
    obtain ⟨bk,cf,hform, -,hlt⟩:=g3.form h0;simp only [Value.slice.injEq,true_and] at hform;obtain ⟨rfl,rfl⟩:=hform
    exact ⟨bk,0,rfl,fun j u hu=>by
     have hj:j<(qs.flatMap (·.1.toList)).length:=(List.getElem?_eq_some_iff.1 hu).1;rw [Nat.zero_add]
     exact (g3.cellAt j (by rw [hlen] at hj;omega)).trans hu⟩)
  hone (by unfold maxLen;omega) (by omega) hb
 have hk:Keeps [V.ownBlock] w w':=Keeps.grown hgr fun k e=>by rw [e];exact List.mem_singleton.2 rfl
 refine ⟨V',w',hrun,⟨ps++qs,by rw [List.map_append,h1,g1],fun x hx=>?_,by rw [List.length_append,List.flatMap_append];exact ho⟩,hk,hor⟩
 have hx2:x.1.size=7∧Far (V.ownBlock::L) Z w (.agg x.1) x.2:=(List.mem_append.1 hx).elim (h2 x) (g2 x);refine ⟨hx2.1,?_⟩;have e1:=hx2.2
 have e2:=e1.keeps (hk.mono fun k hk=>by rw [List.mem_singleton.1 hk];exact List.mem_cons_self ..);refine ⟨e2.reads,fun k hb=>⟨fun hm=>?_,(e2.far k hb).2⟩,e1.off⟩;rcases List.mem_cons.1 hm with e | e
 ·rcases hor with e3 | e3
  ·exact (e1.far k hb).1 (by rw [e,e3];exact List.mem_cons_self ..)
  ·rw [e3] at e;have:=(e1.far k hb).2;cases e;omega
 ·exact (e1.far k hb).1 (List.mem_cons_of_mem _ e)
end
end Go.Proofs.YtimoakmcelocfaaGreat.Flt
namespace Go.Proofs.YtimoakmcelocfaaGreat.Flt
open Go.RowKit Base Txt Mem Par Pg Each
structure PartsC (L:List (Option Nat)) (w:World) (a:Option Addr) (ls:List (List UInt8)):Prop where
 cells:0<ls.length→∃bk off,a=some ⟨bk,off,none⟩∧bk<w.heap.size∧some bk∉L∧∀k (hk:k<ls.length),∃ak ck,w.cell? ⟨bk,off+k,none⟩=some (.slice ak ls[k].length ck)∧ls[k].length≤ck∧(ls[k]≠ []→Bts L w ak ls[k])
section code
set_option maxHeartbeats 4000000
set_option maxRecDepth 20000
attribute [local go_sem] Base.some_undef
variable {w:World} {B g g1 g2 p:Nat} {b:Bd} {L1 L2:List (Option Nat)} {f:F}
theorem feed_len (p:Nat) (b:Bd):∀(l:List UInt8) (f:F),f.x.out= []→(F.feed p b f l).2.length≤2*l.length∧(F.feed p b f l).1.x.out= []
 | [],f,h=>⟨Nat.zero_le _,h⟩
 | c::l,f,h=>by
   have h1:(f.byte p b c).2.length≤2∧(f.byte p b c).1.x.out= []:=by
    unfold F.byte;split
    ·refine ⟨look_len h c,?_⟩;show (F.judge _ _ _ _).x.out= [];unfold F.judge;split
     ·exact told_out _
     ·split<;>exact told_out _
    ·exact ⟨Nat.zero_le _,h⟩
   obtain ⟨h2,h3⟩:=feed_len p b l (f.byte p b c).1 h1.2;refine ⟨?_,h3⟩
   show ((f.byte p b c).2++(F.feed p b (f.byte p b c).1 l).2).length≤2*(l.length+1);rw [List.length_append];omega
end code
end Go.Proofs.YtimoakmcelocfaaGreat.Flt
namespace Go.Proofs.YtimoakmcelocfaaGreat.Par
open Go.RowKit Base Txt Mem
abbrev nil:Value:=.slice none 0 0
structure Cs (w:World) (g:Nat) (p:Nat) (b:Bd) (s:S) (q:Nat) (f bd t o:Value):Prop where
 c0:w.cell? ⟨g,0,none⟩=some (.int .u32 (p:Int))
 c1:w.cell? ⟨g,1,none⟩=some (.int .i64 b.x0)
 c2:w.cell? ⟨g,2,none⟩=some (.int .i64 b.x1)
 c3:w.cell? ⟨g,3,none⟩=some (.int .i64 b.x2)
 c4:w.cell? ⟨g,4,none⟩=some (.int .i64 b.x3)
 c5:w.cell? ⟨g,5,none⟩=some (.int .i64 b.x4)
 c6:w.cell? ⟨g,6,none⟩=some (.int .i64 b.x5)
 c7:w.cell? ⟨g,7,none⟩=some (.int .i64 b.x6)
 c8:w.cell? ⟨g,8,none⟩=some (.int .i64 b.x7)
 c9:w.cell? ⟨g,9,none⟩=some (.bool b.ch)
 c10:w.cell? ⟨g,10,none⟩=some (.bool b.od)
 c11:w.cell? ⟨g,11,none⟩=some (.int .i64 (s.st:Int))
 c12:w.cell? ⟨g,12,none⟩=some (ptr q)
 c13:w.cell? ⟨g,13,none⟩=some (.string s.r.m)
 c14:w.cell? ⟨g,14,none⟩=some (.string s.r.x)
 c15:w.cell? ⟨g,15,none⟩=some (.int .i64 s.r.k)
 c16:w.cell? ⟨g,16,none⟩=some (f)
 c17:w.cell? ⟨g,17,none⟩=some (.bool s.r.ch)
 c18:w.cell? ⟨g,18,none⟩=some (bd)
 c19:w.cell? ⟨g,19,none⟩=some (t)
 c20:w.cell? ⟨g,20,none⟩=some (.int .i64 (s.lines:Int))
 c21:w.cell? ⟨g,21,none⟩=some (.int .i64 (s.head:Int))
 c22:w.cell? ⟨g,22,none⟩=some (.int .i64 (s.left:Int))
 c23:w.cell? ⟨g,23,none⟩=some (.bool s.fresh)
 c24:w.cell? ⟨g,24,none⟩=some (.bool s.clean)
 c25:w.cell? ⟨g,25,none⟩=some (.int .i64 (s.e:Int))
 c26:w.cell? ⟨g,26,none⟩=some (o)
theorem Cs.of {w:World} {g:Nat} {p:Nat} {b:Bd} {s:S} {q:Nat} {f bd t o:Value} (h:w.heap[g]?=some (.cells (pcells p b s q f bd t o).toArray 59 (0,0))):Cs w g p b s q f bd t o:=⟨row_cellL h rfl,row_cellL h rfl,row_cellL h rfl,row_cellL h rfl,row_cellL h rfl,row_cellL h rfl,row_cellL h rfl,row_cellL h rfl,row_cellL h rfl,row_cellL h rfl,row_cellL h rfl,row_cellL h rfl,row_cellL h rfl,row_cellL h rfl,row_cellL h rfl,row_cellL h rfl,row_cellL h rfl,row_cellL h rfl,row_cellL h rfl,row_cellL h rfl,row_cellL h rfl,row_cellL h rfl,row_cellL h rfl,row_cellL h rfl,row_cellL h rfl,row_cellL h rfl,row_cellL h rfl⟩
section code
set_option maxHeartbeats 4000000
set_option maxRecDepth 20000
variable {w:World} {B:Zone} {g q:Nat} {v f bd t o:Value} {p:Nat} {b:Bd} {s:S}
theorem PR.cs (h:PR w B g q v f bd t o p b s):Cs w g p b s q f bd t o:=Cs.of h.row
theorem PR.marks (h:PR w B g q v f bd t o p b s) (k:Nat):w.frozen? ⟨g,k,none⟩=false:=Ln.row_frozen h.row k
theorem PR.zero_of {f1 bd1 t1:Value} {fs1 ts1:List Fld} {body1:List UInt8} (hr:w.heap[g]?=some (.cells (pcells p b s q f bd t o).toArray 59 (0,0))) (ho:Own w B g q v f1 bd1 t1 o p s.rd fs1 body1 ts1 s.out) (s':S) (hs:s'={s with r:=zero}) :
 PR (((((((w.setCell ⟨g,13,none⟩ (.string E0)).setCell ⟨g,14,none⟩ (.string E0)).setCell ⟨g,15,none⟩ (.int .i64 0)).setCell ⟨g,16,none⟩ nil).setCell ⟨g,17,none⟩ (.bool false)).setCell ⟨g,18,none⟩ nil).setCell ⟨g,19,none⟩ nil) B g q v nil nil nil o p b s':=by
 subst hs;refine ⟨?_,(((((((ho.zero).set 13 _).set 14 _).set 15 _).set 16 _).set 17 _).set 18 _).set 19 _⟩;exact row_setL (row_setL (row_setL (row_setL (row_setL (row_setL (row_setL hr 13 _) 14 _) 15 _) 16 _) 17 _) 18 _) 19 _
theorem PR.zero (h:PR w B g q v f bd t o p b s) (s':S) (hs:s'={s with r:=zero}):PR (((((((w.setCell ⟨g,13,none⟩ (.string E0)).setCell ⟨g,14,none⟩ (.string E0)).setCell ⟨g,15,none⟩ (.int .i64 0)).setCell ⟨g,16,none⟩ nil).setCell ⟨g,17,none⟩ (.bool false)).setCell ⟨g,18,none⟩ nil).setCell ⟨g,19,none⟩ nil) B g q v nil nil nil o p b s':=
 PR.zero_of h.row h.own s' hs
theorem Step.put7 (u13 u14 u15 u16 u17 u18 u19:Value):Step (blks g q v f bd t o) (blks g q v f bd t o) w (((((((w.setCell ⟨g,13,none⟩ u13).setCell ⟨g,14,none⟩ u14).setCell ⟨g,15,none⟩ u15).setCell ⟨g,16,none⟩ u16).setCell ⟨g,17,none⟩ u17).setCell ⟨g,18,none⟩ u18).setCell ⟨g,19,none⟩ u19):=
 ((((((Step.set g 13 _ (by simp)).trans (Step.set g 14 _ (by simp))).trans (Step.set g 15 _ (by simp))).trans (Step.set g 16 _ (by simp))).trans (Step.set g 17 _ (by simp))).trans (Step.set g 18 _ (by simp))).trans (Step.set g 19 _ (by simp))
theorem fail_any (h:PR w B g q v f bd t o p b s) (e:Nat):Calls Tryz.prog 56 #[ptr g,.int .i64 (e:Int)] w fun r w'=>
 r=.returned (.tuple #[])∧PR w' B g q v nil nil nil o p b (s.fail e)∧Step (blks g q v f bd t o) (blks g q v nil nil nil o) w w':=by
 have H:=Lib.hid h;have c24:=h.cs.c24;have z24:=h.marks 24;have c25:=h.cs.c25;have z25:=h.marks 25;have c13:=h.cs.c13;have z13:=h.marks 13;have c14:=h.cs.c14;have z14:=h.marks 14;have c15:=h.cs.c15;have z15:=h.marks 15;have c16:=h.cs.c16;have z16:=h.marks 16;have c17:=h.cs.c17;have z17:=h.marks 17;have c18:=h.cs.c18;have z18:=h.marks 18;have c19:=h.cs.c19;have z19:=h.marks 19
 have H1:=Lib.hid (h.put 25 (.int .i64 (e:Int)) {s with e:=e} rfl rfl rfl rfl rfl rfl)
 have H2:=Lib.hid (H1.out.put 24 (.bool false) {s with e:=e,clean:=false} rfl rfl rfl rfl rfl rfl);clear h;go_enter Tryz.func56,Tryz.ntmps56;go_wp2;go_end0;exact ⟨rfl,H2.out.zero _ rfl,((Step.set g 25 _ (by simp)).trans (Step.set g 24 _ (by simp))).trans ((Step.put7 _ _ _ _ _ _ _).trans Step.zero)⟩
theorem rnew_line (B:Nat) (most:Int) (w:World) (hB:B≤w.heap.size):Calls Tryz.prog 55 #[.int .u32 (p:Int),.int .i64 most] w fun r w'=>∃q1,r=.returned (ptr q1)∧w.heap.size≤q1∧Ln.Rr w' B q1 nil p (nl p most)∧Below w.heap.size w w':=by refine (Ln.rnew_any p most w).mono ?_;rintro r w' ⟨rfl,rfl⟩;exact ⟨_,rfl,Nat.le_refl _,⟨heap_alloc_new w _,World.ownsRow_nil _ _ _ _,hB,by simp [Value.ownBlock]⟩,(Below.refl _ _).alloc (Nat.le_refl _) _⟩
theorem next_any {f1 bd1 t1:Value} {fs1 ts1:List Fld} {body1:List UInt8} (hrow:w.heap[g]?=some (.cells (pcells p b s q f bd t o).toArray 59 (0,0))) (ho:Own w B g q v f1 bd1 t1 o p s.rd fs1 body1 ts1 s.out):Calls Tryz.prog 36 #[ptr g] w fun r w'=>
 r=.returned (.tuple #[])∧∃q1,PR w' B g q1 nil nil nil nil o p b (s.next p b)∧Step (blks g q v f1 bd1 t1 o) (blks g q1 nil nil nil nil o) w w':=by
 have H1:=Lib.hid ((((((PR.zero_of hrow ho {s with r:=zero} rfl).put 11 (.int .i64 0) {s with r:=zero,st:=0} rfl rfl rfl rfl rfl rfl).put 20 (.int .i64 0) {s with r:=zero,st:=0,lines:=0} rfl rfl rfl rfl rfl rfl).put 21 (.int .i64 0) {s with r:=zero,st:=0,lines:=0,head:=0} rfl rfl rfl rfl rfl rfl).put 23 (.bool false) {s with r:=zero,st:=0,lines:=0,head:=0,fresh:=false} rfl rfl rfl rfl rfl rfl).put 24 (.bool true) {s with r:=zero,st:=0,lines:=0,head:=0,fresh:=false,clean:=true} rfl rfl rfl rfl rfl rfl)
 have HS:=Lib.hid ((((((Step.put7 (w:=w) (g:=g) (q:=q) (v:=v) (f:=f1) (bd:=bd1) (t:=t1) (o:=o) (.string E0) (.string E0) (.int .i64 0) nil (.bool false) nil nil).trans (Step.set g 11 (.int .i64 0) (by simp))).trans (Step.set g 20 (.int .i64 0) (by simp))).trans (Step.set g 21 (.int .i64 0) (by simp))).trans (Step.set g 23 (.bool false) (by simp))).trans (Step.set g 24 (.bool true) (by simp)));have cs:=Cs.of hrow;have c11:=cs.c11;have z11:=Ln.row_frozen hrow 11;have c20:=cs.c20;have z20:=Ln.row_frozen hrow 20;have c21:=cs.c21;have z21:=Ln.row_frozen hrow 21;have c23:=cs.c23;have z23:=Ln.row_frozen hrow 23;have c24:=cs.c24;have z24:=Ln.row_frozen hrow 24;have c13:=cs.c13;have z13:=Ln.row_frozen hrow 13;have c14:=cs.c14;have z14:=Ln.row_frozen hrow 14;have c15:=cs.c15;have z15:=Ln.row_frozen hrow 15;have c16:=cs.c16;have z16:=Ln.row_frozen hrow 16;have c17:=cs.c17;have z17:=Ln.row_frozen hrow 17;have c18:=cs.c18;have z18:=Ln.row_frozen hrow 18;have c19:=cs.c19;have z19:=Ln.row_frozen hrow 19
 have HB:=Lib.hid (ho.ge);clear hrow ho cs;go_enter Tryz.func36,Tryz.ntmps36;go_upto_region 1 with fail
 generalize (((((((((((w.setCell ⟨g,13,none⟩ (.string E0)).setCell ⟨g,14,none⟩ (.string E0)).setCell ⟨g,15,none⟩ (.int .i64 0)).setCell ⟨g,16,none⟩ (nil)).setCell ⟨g,17,none⟩ (.bool false)).setCell ⟨g,18,none⟩ (nil)).setCell ⟨g,19,none⟩ (nil)).setCell ⟨g,11,none⟩ (.int .i64 0)).setCell ⟨g,20,none⟩ (.int .i64 0)).setCell ⟨g,21,none⟩ (.int .i64 0)).setCell ⟨g,23,none⟩ (.bool false)).setCell ⟨g,24,none⟩ (.bool true)=W1 at *;clear c11 c20 c21 c23 c24 c13 c14 c15 c16 c17 c18 c19 z11 z20 z21 z23 z24 z13 z14 z15 z16 z17 z18 z19;obtain ⟨S1,hS1⟩:∃S1:S,{s with r:=zero,st:=0,lines:=0,head:=0,fresh:=false,clean:=true}=S1:=⟨_,rfl⟩;have HS1:=Lib.hid hS1;rw [hS1] at H1;clear hS1
 have HQ:=Lib.hid ((H1.out.drew 1).bk)
 have HBW:=Lib.hid (show B≤(W1.drewN 1).heap.size from Nat.le_trans HB.out (Nat.le_of_lt (H1.out.drew 1).own.lt));refine Each.region 11 [21,22,23,24,25,26,27,28,29,30,31]
  [fun v _=>v=.pointer (some ⟨g,0,none⟩),
    fun v _=>v=.pointer (some ⟨g,0,none⟩),
    fun v _=>v=.pointer (some ⟨g,0,none⟩),
    fun v _=>v=.pointer (some ⟨g,0,none⟩),
    fun v _=>v=.int .u32 (p:Int),
    fun v _=>v=.pointer (some ⟨g,0,none⟩),
    fun v _=>v=.pointer (some ⟨g,0,none⟩),
    fun v _=>v=.pointer (some ⟨g,1,none⟩),
    fun v _=>v=.pointer (some ⟨g,1,none⟩),
    fun v _=>v=.int .i64 b.x0,
    fun v w=>∃q1,v=ptr q1∧W1.heap.size≤q1∧Ln.Rr w B q1 nil p (nl p (b.x0))]
  (.quiet 11 (.quiet 12 (.act 13 .done))) (by kernel_rfl) (by kernel_rfl) (by kernel_rfl) (by kernel_rfl) (fun _ _ d _ _ h=>by cases d<;>exact h) (by rfl) (by rfl)
  ⟨Each.Lasts.eq _,Each.Lasts.eq _,Each.Lasts.eq _,Each.Lasts.eq _,Each.Lasts.eq _,Each.Lasts.eq _,Each.Lasts.eq _,Each.Lasts.eq _,Each.Lasts.eq _,Each.Lasts.eq _,((fun _ _ _ hb h=>by obtain ⟨q1,e1,h1,h2⟩:=h;exact ⟨q1,e1,h1,rr_below h2 hb⟩)),trivial⟩ ?_ ?_
 ·refine ⟨?_,?_,?_,?_,?_,?_,?_,?_,?_,?_,?_,trivial⟩
  ·refine Each.fine rfl (fun ev w1 hR hb hh=>?_);clear hh;have e0:=hR.old 0 rfl;simp only [Array.getD_eq_getD_getElem?,List.getElem?_toArray,List.getElem?_cons_zero,Option.getD_some] at e0;refine Each.Goes.same ?_;go_simp;try with_reducible rfl
  ·refine Each.fine rfl (fun ev w1 hR hb hh=>?_);clear hh;have e0:=hR.old 0 rfl;simp only [Array.getD_eq_getD_getElem?,List.getElem?_toArray,List.getElem?_cons_zero,Option.getD_some] at e0;refine Each.Goes.same ?_;go_simp;try with_reducible rfl
  ·refine Each.fine rfl (fun ev w1 hR hb hh=>?_);have e22:(ev (.tmp 22)=.pointer (some ⟨g,0,none⟩)):=hh.at 0;clear hh;refine Each.Goes.same ?_;go_simp;try with_reducible rfl
  ·refine Each.fine rfl (fun ev w1 hR hb hh=>?_);have e23:(ev (.tmp 23)=.pointer (some ⟨g,0,none⟩)):=hh.at 0;clear hh;refine Each.Goes.same ?_;go_simp;try with_reducible rfl
  ·refine Each.fine rfl (fun ev w1 hR hb hh=>?_);have e24:(ev (.tmp 24)=.pointer (some ⟨g,0,none⟩)):=hh.at 0;clear hh;have q0:=(HQ.out.below hb).c 0 _ rfl;refine Each.Goes.same ?_;go_simp;try with_reducible rfl
  ·refine Each.fine rfl (fun ev w1 hR hb hh=>?_);clear hh;have e0:=hR.old 0 rfl;simp only [Array.getD_eq_getD_getElem?,List.getElem?_toArray,List.getElem?_cons_zero,Option.getD_some] at e0;refine Each.Goes.same ?_;go_simp;try with_reducible rfl
  ·refine Each.fine rfl (fun ev w1 hR hb hh=>?_);have e26:(ev (.tmp 26)=.pointer (some ⟨g,0,none⟩)):=hh.at 0;clear hh;refine Each.Goes.same ?_;go_simp;try with_reducible rfl
  ·refine Each.fine rfl (fun ev w1 hR hb hh=>?_);have e27:(ev (.tmp 27)=.pointer (some ⟨g,0,none⟩)):=hh.at 0;clear hh;refine Each.Goes.same ?_;go_simp;try with_reducible rfl
  ·refine Each.fine rfl (fun ev w1 hR hb hh=>?_);have e28:(ev (.tmp 28)=.pointer (some ⟨g,1,none⟩)):=hh.at 0;clear hh;refine Each.Goes.same ?_;go_simp;try with_reducible rfl
  ·refine Each.fine rfl (fun ev w1 hR hb hh=>?_);have e29:(ev (.tmp 29)=.pointer (some ⟨g,1,none⟩)):=hh.at 0;clear hh;have q1:=(HQ.out.below hb).c 1 _ rfl;refine Each.Goes.same ?_;go_simp;try with_reducible rfl
  ·refine Each.fine rfl (fun ev w1 hR hb hh=>?_);have e25:(ev (.tmp 25)=.int .u32 (p:Int)):=hh.at 0;have e30:(ev (.tmp 30)=.int .i64 b.x0):=hh.at 1;clear hh;have ef:=hR.func
   refine Each.Goes.enter 55 #[.int .u32 (p:Int),.int .i64 (b.x0)] (by go_simp) ((rnew_line B (b.x0) w1 (Nat.le_trans HBW.out hb.size)).mono ?_);rintro r w2 ⟨q1,rfl,h1,h2,hb2⟩;exact ⟨_,rfl,hb2,q1,rfl,Nat.le_trans hb.size h1,h2⟩
 intro g1 w2 hb hf;have z21:(g1 21=.pointer (some ⟨g,0,none⟩)):=hf.at 0;have z31:((fun v w=>∃q1,v=ptr q1∧W1.heap.size≤q1∧Ln.Rr w B q1 nil p (nl p (b.x0))) (g1 31) w2):=hf.at 10;clear hf;obtain ⟨q1,e1,hq1,hr1⟩:=z31;simp only [Each.putg,Act.put,List.setIfInBounds_toArray,List.set_cons_zero,List.set_cons_succ];rw [e1,z21];simp only [Tree.grow,Tree.put1,List.getElem?_cons_zero,List.getElem?_cons_succ];refine Tree.quiet (by rfl) (ptr g) (fun _ _=>by go_simp) ?_;simp only [Act.put,List.setIfInBounds_toArray,List.set_cons_zero,List.set_cons_succ];refine Tree.quiet (by rfl) (.pointer (some ⟨g,12,none⟩)) (fun _ _=>by go_simp) ?_;simp only [Act.put,List.setIfInBounds_toArray,List.set_cons_zero,List.set_cons_succ];have c12:=(H1.out.below hb).cs.c12;have z12:=(H1.out.below hb).marks 12
 refine Tree.change (by rfl) (fun K hK=>?_);go_simp;refine hK _ _ trivial ?_;clear hK K;refine Tree.done ?_;have H2:=H1.out.line hb hr1 hq1
 have HS2:=(HS.out.trans Step.zero).trans ((Step.line hb hq1).trans (Step.set g 12 (ptr q1) (by simp)));rw [←HS1.out] at H2;clear H1 HQ HBW HS HS1 hr1 hq1 c12 z12;go_wp2;go_end0;exact ⟨rfl,q1,H2,HS2⟩
theorem record_info:(Tryz.prog.info? 57).map (fun i=>(i.zero,i.size,i.bytes))=some (some (.agg #[.string ByteArray.empty,.string ByteArray.empty,.int .i64 0,.slice none 0 0,.bool false,.slice none 0 0,.slice none 0 0]),7,120):=by kernel_rfl
theorem whole_any (h:PR w B g q v f bd t o p b s) (hn:s.out.length≤1000000000):Calls Tryz.prog 69 #[ptr g] w fun r w'=>
 r=.returned (.tuple #[])∧∃q1 o1,PR w' B g q1 nil nil nil nil o1 p b (s.whole p b)∧Step (blks g q v f bd t o) (blks g q1 nil nil nil nil o1) w w':=by
 obtain ⟨iR,hi,hz0,hz1,hz2⟩:=info_parts record_info;have I1:=Lib.hid hi;have I2:=Lib.hid hz0;have I3:=Lib.hid hz1;have I4:=Lib.hid hz2;clear hi hz0 hz1 hz2;have H:=Lib.hid h;have HN:=Lib.hid hn
 have HQ:=Lib.hid ((h.drew 1).bk);clear h hn;go_enter Tryz.func69,Tryz.ntmps69;go_upto_region 0 with fail
 refine Each.region_float 10 [2,3,4,5,6,7,8,9,10,11]
  [fun v _=>v=.pointer (some ⟨g,0,none⟩),
    fun v _=>v=.pointer (some ⟨g,0,none⟩),
    fun v _=>v=.pointer (some ⟨g,0,none⟩),
    fun v _=>v=.pointer (some ⟨g,26,none⟩),
    fun v _=>v=o,
    fun v _=>v=.pointer (some ⟨g,0,none⟩),
    fun v _=>v=.pointer (some ⟨g,0,none⟩),
    fun v _=>v=.pointer (some ⟨g,13,none⟩),
    fun v _=>v=.agg #[.string s.r.m,.string s.r.x,.int .i64 s.r.k,f,.bool s.r.ch,bd,t],
    fun v w=>∃g1,v=.slice (some ⟨g1,0,none⟩) 1 1∧Rec.Bk w g1 [.string s.r.m,.string s.r.x,.int .i64 s.r.k,f,.bool s.r.ch,bd,t]]
  [] 4 (some 0) (.act 10 (.quiet 11 (.quiet 12 (.act 13 .done)))) (.quiet 0 (.act 10 (.quiet 11 (.quiet 12 (.act 13 .done))))) (by kernel_rfl) (by kernel_rfl) (by kernel_rfl) (by kernel_rfl) (fun k0 h=>by cases h;kernel_rfl) (fun _ _ d _ _ h=>by cases d<;>exact h) (by rfl) (by rfl)
  ⟨Each.Lasts.eq _,Each.Lasts.eq _,Each.Lasts.eq _,Each.Lasts.eq _,Each.Lasts.eq _,Each.Lasts.eq _,Each.Lasts.eq _,Each.Lasts.eq _,Each.Lasts.eq _,((fun _ _ _ hb h=>by obtain ⟨g1,e1,hB⟩:=h;exact ⟨g1,e1,hB.below hb⟩)),trivial⟩ trivial (by rfl) ?_ ?_ ?_
 ·refine ⟨?_,?_,?_,?_,?_,?_,?_,?_,?_,?_,trivial⟩
  ·refine Each.fine rfl (fun ev w1 hR hb hh=>?_);clear hh;have e0:=hR.old 0 rfl;simp only [Array.getD_eq_getD_getElem?,List.getElem?_toArray,List.getElem?_cons_zero,Option.getD_some] at e0;refine Each.Goes.same ?_;go_simp;try with_reducible rfl
  ·refine Each.fine rfl (fun ev w1 hR hb hh=>?_);clear hh;have e0:=hR.old 0 rfl;simp only [Array.getD_eq_getD_getElem?,List.getElem?_toArray,List.getElem?_cons_zero,Option.getD_some] at e0;refine Each.Goes.same ?_;go_simp;try with_reducible rfl
  ·refine Each.fine rfl (fun ev w1 hR hb hh=>?_);have e3:(ev (.tmp 3)=.pointer (some ⟨g,0,none⟩)):=hh.at 0;clear hh;refine Each.Goes.same ?_;go_simp;try with_reducible rfl
  ·refine Each.fine rfl (fun ev w1 hR hb hh=>?_);have e4:(ev (.tmp 4)=.pointer (some ⟨g,0,none⟩)):=hh.at 0;clear hh;refine Each.Goes.same ?_;go_simp;try with_reducible rfl
  ·refine Each.fine rfl (fun ev w1 hR hb hh=>?_);have e5:(ev (.tmp 5)=.pointer (some ⟨g,26,none⟩)):=hh.at 0;clear hh;have q26:=(HQ.out.below hb).c 26 _ rfl;refine Each.Goes.same ?_;go_simp;try with_reducible rfl
  ·refine Each.fine rfl (fun ev w1 hR hb hh=>?_);clear hh;have e0:=hR.old 0 rfl;simp only [Array.getD_eq_getD_getElem?,List.getElem?_toArray,List.getElem?_cons_zero,Option.getD_some] at e0;refine Each.Goes.same ?_;go_simp;try with_reducible rfl
  ·refine Each.fine rfl (fun ev w1 hR hb hh=>?_);have e7:(ev (.tmp 7)=.pointer (some ⟨g,0,none⟩)):=hh.at 0;clear hh;refine Each.Goes.same ?_;go_simp;try with_reducible rfl
  ·refine Each.fine rfl (fun ev w1 hR hb hh=>?_);have e8:(ev (.tmp 8)=.pointer (some ⟨g,0,none⟩)):=hh.at 0;clear hh;refine Each.Goes.same ?_;go_simp;try with_reducible rfl
  ·refine Each.fine rfl (fun ev w1 hR hb hh=>?_);have e9:(ev (.tmp 9)=.pointer (some ⟨g,13,none⟩)):=hh.at 0;clear hh;have q13:=(HQ.out.below hb).c 13 _ rfl;have q14:=(HQ.out.below hb).c 14 _ rfl;have q15:=(HQ.out.below hb).c 15 _ rfl;have q16:=(HQ.out.below hb).c 16 _ rfl;have q17:=(HQ.out.below hb).c 17 _ rfl;have q18:=(HQ.out.below hb).c 18 _ rfl;have q19:=(HQ.out.below hb).c 19 _ rfl;refine Each.Goes.same ?_;go_simp;try with_reducible rfl
  ·refine Each.fine rfl (fun ev w1 hR hb hh=>?_);have e10:(ev (.tmp 10)=.agg #[.string s.r.m,.string s.r.x,.int .i64 s.r.k,f,.bool s.r.ch,bd,t]):=hh.at 0;clear hh;exact Each.Goes.value (.slice (some ⟨w1.heap.size,0,none⟩) 1 1) (w1.alloc (.cells #[.string s.r.m,.string s.r.x,.int .i64 s.r.k,f,.bool s.r.ch,bd,t] 57)) (by go_simp) ((Below.refl _ _).alloc (Nat.le_refl _) _) ⟨_,rfl,Rec.Bk.new w1 _ rfl 57 [.string s.r.m,.string s.r.x,.int .i64 s.r.k,f,.bool s.r.ch,bd,t]⟩
 ·intro g1 w2 hb hf;have z2:(g1 2=.pointer (some ⟨g,0,none⟩)):=hf.at 0;have z6:(g1 6=o):=hf.at 4;have z11:((fun v w=>∃g1,v=.slice (some ⟨g1,0,none⟩) 1 1∧Rec.Bk w g1 [.string s.r.m,.string s.r.x,.int .i64 s.r.k,f,.bool s.r.ch,bd,t]) (g1 11) w2):=hf.at 9;clear hf;obtain ⟨gl,el,hBl⟩:=z11;simp only [Each.putg,Act.put,List.setIfInBounds_toArray,List.set_cons_zero,List.set_cons_succ];rw [z2,z6,el];simp only [Tree.grow,Tree.put1,List.getElem?_cons_zero,List.getElem?_cons_succ];have H2:=H.out.below hb;obtain ⟨ps,hps,hfar,hrow⟩:=H2.own.O;obtain ⟨bo,co,eo, -⟩:=Ln.own_slice hrow;subst eo
  obtain ⟨v',w3,hrun,ho,hgr,hor⟩:=App.run_append_list w2 51 51 B 57 iR (.agg #[.string ByteArray.empty,.string ByteArray.empty,.int .i64 0,.slice none 0 0,.bool false,.slice none 0 0,.slice none 0 0]) 7 120 Tryz.underlying51 I1.out I2.out I3.out I4.out rfl (by decide) (.slice bo s.out.length co) s.out.length (ps.flatMap (·.1.toList)) hrow (some ⟨gl,0,none⟩) 1 1 [.string s.r.m,.string s.r.x,.int .i64 s.r.k,f,.bool s.r.ch,bd,t] rfl (fun _=>⟨gl,0,rfl,fun j u hu=>by rw [Nat.zero_add];exact hBl.c j u hu⟩) (by intro u hu;simp only [List.mem_cons,List.not_mem_nil,or_false] at hu;rcases hu with rfl | rfl | rfl | rfl | rfl | rfl | rfl<;>first | rfl | exact one_own H2.own.F | exact one_own H2.own.D | exact one_own H2.own.T) (by have:=HN.out;unfold maxLen;omega) (by have:=HN.out;omega) (Nat.le_trans H2.own.ge (Nat.le_of_lt H2.own.lt));obtain ⟨b9,c9,e9, -⟩:=Ln.own_slice ho;subst e9;have HP:=H2.own.push hgr ps hps hfar ho hor;have hr3:w3.heap[g]?=some (.cells (pcells p b s q f bd t (.slice bo s.out.length co)).toArray 59 (0,0)):=(hgr.block g H2.own.lt (fun e=>H2.own.lone.ne (i:=0) (j:=6) rfl (by decide) (by rw [e];rfl))).trans H2.row
  refine Tree.change (by rfl) (fun K hK=>?_);refine Each.oper_append _ _ _ rfl (by rfl) (by rfl) hrun ?_;refine hK _ _ trivial ?_;clear hK K hrun;simp only [Act.put,List.setIfInBounds_toArray,List.set_cons_zero,List.set_cons_succ];refine Tree.quiet (by rfl) (ptr g) (fun _ _=>by go_simp) ?_;simp only [Act.put,List.setIfInBounds_toArray,List.set_cons_zero,List.set_cons_succ];refine Tree.quiet (by rfl) (.pointer (some ⟨g,26,none⟩)) (fun _ _=>by go_simp) ?_;simp only [Act.put,List.setIfInBounds_toArray,List.set_cons_zero,List.set_cons_succ];have c26:=(Cs.of hr3).c26;have z26:=Ln.row_frozen hr3 26
  refine Tree.change (by rfl) (fun K hK=>?_);go_simp;refine hK _ _ trivial ?_;clear hK K;refine Tree.done ?_
  have hr4:=row_setL hr3 26 (.slice b9 (s.out.length+1) c9)
  have HP4:=HP.set 26 (.slice b9 (s.out.length+1) c9)
  have HS4:=((Step.of_below hb (L:=blks g q v f bd t (.slice bo s.out.length co))).trans (Step.push hgr hor)).trans (Step.set g 26 (.slice b9 (s.out.length+1) c9) (by simp))
  have HNX:=Lib.hid (next_any (s:={s with out:=s.out ++ [s.r]}) hr4 HP4);have HS5:=Lib.hid HS4;clear c26 z26 hr3 hr4 HP HP4 HS4 hgr ho hor hrow hfar hps H2 hBl;generalize w3.setCell ⟨g,26,none⟩ (.slice b9 (s.out.length+1) c9)=W4 at *
  go_wp2_with (go_at_call 36;with_reducible refine HNX.out.mono ?_;rintro r w5 ⟨rfl,q1,hp5,hs5⟩);go_end0;exact ⟨rfl,q1,(.slice b9 (s.out.length+1) c9),hp5,HS5.out.trans hs5⟩
 ·intro k0 hk0 g1 w2 hb hf;cases hk0;have z6:(g1 6=o):=hf.at 4;have z11:((fun v w=>∃g1,v=.slice (some ⟨g1,0,none⟩) 1 1∧Rec.Bk w g1 [.string s.r.m,.string s.r.x,.int .i64 s.r.k,f,.bool s.r.ch,bd,t]) (g1 11) w2):=hf.at 9;clear hf;obtain ⟨gl,el,hBl⟩:=z11;simp only [Each.putg,Act.put,List.setIfInBounds_toArray,List.set_cons_zero,List.set_cons_succ];rw [z6,el];simp only [Tree.grow,Tree.put1,List.getElem?_cons_zero,List.getElem?_cons_succ];refine Tree.quiet (by rfl) (ptr g) (fun _ _=>by go_simp) ?_;simp only [Act.put,List.setIfInBounds_toArray,List.set_cons_zero,List.set_cons_succ];have H2:=H.out.below hb;obtain ⟨ps,hps,hfar,hrow⟩:=H2.own.O;obtain ⟨bo,co,eo, -⟩:=Ln.own_slice hrow;subst eo
  obtain ⟨v',w3,hrun,ho,hgr,hor⟩:=App.run_append_list w2 51 51 B 57 iR (.agg #[.string ByteArray.empty,.string ByteArray.empty,.int .i64 0,.slice none 0 0,.bool false,.slice none 0 0,.slice none 0 0]) 7 120 Tryz.underlying51 I1.out I2.out I3.out I4.out rfl (by decide) (.slice bo s.out.length co) s.out.length (ps.flatMap (·.1.toList)) hrow (some ⟨gl,0,none⟩) 1 1 [.string s.r.m,.string s.r.x,.int .i64 s.r.k,f,.bool s.r.ch,bd,t] rfl (fun _=>⟨gl,0,rfl,fun j u hu=>by rw [Nat.zero_add];exact hBl.c j u hu⟩) (by intro u hu;simp only [List.mem_cons,List.not_mem_nil,or_false] at hu;rcases hu with rfl | rfl | rfl | rfl | rfl | rfl | rfl<;>first | rfl | exact one_own H2.own.F | exact one_own H2.own.D | exact one_own H2.own.T) (by have:=HN.out;unfold maxLen;omega) (by have:=HN.out;omega) (Nat.le_trans H2.own.ge (Nat.le_of_lt H2.own.lt));obtain ⟨b9,c9,e9, -⟩:=Ln.own_slice ho;subst e9;have HP:=H2.own.push hgr ps hps hfar ho hor;have hr3:w3.heap[g]?=some (.cells (pcells p b s q f bd t (.slice bo s.out.length co)).toArray 59 (0,0)):=(hgr.block g H2.own.lt (fun e=>H2.own.lone.ne (i:=0) (j:=6) rfl (by decide) (by rw [e];rfl))).trans H2.row
  refine Tree.change (by rfl) (fun K hK=>?_);refine Each.oper_append _ _ _ rfl (by rfl) (by rfl) hrun ?_;refine hK _ _ trivial ?_;clear hK K hrun;simp only [Act.put,List.setIfInBounds_toArray,List.set_cons_zero,List.set_cons_succ];refine Tree.quiet (by rfl) (ptr g) (fun _ _=>by go_simp) ?_;simp only [Act.put,List.setIfInBounds_toArray,List.set_cons_zero,List.set_cons_succ];refine Tree.quiet (by rfl) (.pointer (some ⟨g,26,none⟩)) (fun _ _=>by go_simp) ?_;simp only [Act.put,List.setIfInBounds_toArray,List.set_cons_zero,List.set_cons_succ];have c26:=(Cs.of hr3).c26;have z26:=Ln.row_frozen hr3 26
  refine Tree.change (by rfl) (fun K hK=>?_);go_simp;refine hK _ _ trivial ?_;clear hK K;refine Tree.done ?_
  have hr4:=row_setL hr3 26 (.slice b9 (s.out.length+1) c9)
  have HP4:=HP.set 26 (.slice b9 (s.out.length+1) c9)
  have HS4:=((Step.of_below hb (L:=blks g q v f bd t (.slice bo s.out.length co))).trans (Step.push hgr hor)).trans (Step.set g 26 (.slice b9 (s.out.length+1) c9) (by simp))
  have HNX:=Lib.hid (next_any (s:={s with out:=s.out ++ [s.r]}) hr4 HP4);have HS5:=Lib.hid HS4;clear c26 z26 hr3 hr4 HP HP4 HS4 hgr ho hor hrow hfar hps H2 hBl;generalize w3.setCell ⟨g,26,none⟩ (.slice b9 (s.out.length+1) c9)=W4 at *
  go_wp2_with (go_at_call 36;with_reducible refine HNX.out.mono ?_;rintro r w5 ⟨rfl,q1,hp5,hs5⟩);go_end0;exact ⟨rfl,q1,(.slice b9 (s.out.length+1) c9),hp5,HS5.out.trans hs5⟩
end code
end Go.Proofs.YtimoakmcelocfaaGreat.Par
namespace Go.Proofs.YtimoakmcelocfaaGreat.Fd
open Go.RowKit Base Txt Tgt
abbrev lineB (f:Fld):ByteArray:=((f.1 ++⟨#[58,32]⟩)++f.2) ++⟨#[13,10]⟩
section code
set_option maxHeartbeats 4000000
set_option maxRecDepth 100000
attribute [local go_sem] Base.some_undef
end code
end Go.Proofs.YtimoakmcelocfaaGreat.Fd
namespace Go.Proofs.YtimoakmcelocfaaGreat.Fd
open Go.RowKit Base Txt Tgt
theorem rjoined_eq (v s:ByteArray):(v ++⟨#[32]⟩)++trim s=ba (joined v.data.toList s.data.toList):=ba_ext (by simp only [joined,ByteArray.data_append,Array.toList_append,List.append_assoc];rfl)
section code
set_option maxHeartbeats 4000000
set_option maxRecDepth 100000
attribute [local go_sem] Base.some_undef
theorem rgoes_any (s:ByteArray) (p:Nat) (hp:p<4294967296) (w:World):Calls Tryz.prog 92 #[.string s,.int .u32 (p:Nat)] w fun e w'=>e=.returned (.bool (goes p s.data.toList))∧w'=w:=by
 have HH:=Lib.hid (fun w=>Qk.rhas_any p hp 13 w);unfold goes;generalize Qk.has p 13=b at *;rcases Nat.eq_zero_or_pos s.size with h0 | h0
 ·obtain rfl:s=E0:=ba_ext (List.length_eq_zero_iff.1 (by rw [len];exact h0));cases b;all_goals
   go_enter Tryz.func92,Tryz.ntmps92
   go_wp2_with (go_at_call 39;with_reducible refine (HH.out _).mono ?_;rintro e w1 ⟨rfl,hw⟩;rw [hw];clear hw);go_ret;exact ⟨by rfl,rfl⟩
 ·have t0:=first_no s h0
  have HB:=Lib.hid (fun w=>Oct.rblank_any (s[0].toNat:Int) w);rw [blank_is] at HB;have e1:(!s.data.toList.isEmpty&&Txt.blank (s.data.toList.headD 0))=Txt.blank s[0]:=by
   have hl:s.data.toList=s[0]::s.data.toList.drop 1:=by
    have hlen:0<s.data.toList.length:=by rw [len];exact h0
    rw [←List.drop_zero (l:=s.data.toList),List.drop_eq_getElem_cons hlen];rfl
   rw [hl];rfl
  rw [e1];clear e1;cases b;all_goals
   go_enter Tryz.func92,Tryz.ntmps92
   go_wp2_with (first
    |(go_at_call 39;with_reducible refine (HH.out _).mono ?_;rintro e w1 ⟨rfl,hw⟩;rw [hw];clear hw)
    |(go_at_call 100;with_reducible refine (HB.out _).mono ?_;rintro e w1 ⟨rfl,hw⟩;rw [hw];clear hw))
   go_ret;exact ⟨by rfl,rfl⟩
theorem rjoin_any (n v s:ByteArray) (w:World) (hs:s.size≤1000000000) (hv:v.size≤1000000000):Calls Tryz.prog 93 #[fv n v,.string s] w fun e w'=>e=.returned (fv n (ba (joined v.data.toList s.data.toList)))∧Below w.heap.size w w':=by
 have HT:=Lib.hid (fun w=>rtrim_any s w (by unfold maxLen;omega));have hT:(trim s).size≤s.size:=trim_size _ _;rw [←rjoined_eq];generalize trim s=T at *;have v1:¬9223372036854775807<v.size+1:=by omega
 have v2:¬9223372036854775807<v.size+1+T.size:=by omega
 go_enter Tryz.func93,Tryz.ntmps93;go_wp2_with fail
 go_region_with (go_at_call 111;with_reducible refine (HT.out _).mono ?_;rintro e w1 ⟨rfl,hw⟩;rw [hw];clear hw);all_goals
  go_wp2;exact bodyPost_ret (v:=fv n ((v ++⟨#[32]⟩)++T)) (by simp [results,Tryz.results93,go_sem]) rfl ⟨rfl,Base.below_drewN (((Below.refl _ _).alloc (Nat.le_refl _) _).alloc (by simp) _) 1⟩
end code
end Go.Proofs.YtimoakmcelocfaaGreat.Fd
namespace Go.Proofs.YtimoakmcelocfaaGreat.Fd
open Go.RowKit Base Txt Tgt
section code
set_option maxHeartbeats 4000000
set_option maxRecDepth 100000
attribute [local go_sem] Base.some_undef
end code
end Go.Proofs.YtimoakmcelocfaaGreat.Fd
namespace Go.Proofs.YtimoakmcelocfaaGreat.Fd
open Go.RowKit Base Txt Tgt
theorem colon_cases (l:List UInt8):((58:UInt8)∉l∧(cutAt 58 l).2.2=false)∨∃j,∃h:j<l.length,l[j]=58∧(58:UInt8)∉l.take j∧(cutAt 58 l).1=l.take j∧(cutAt 58 l).2.1=l.drop (j+1)∧(cutAt 58 l).2.2=true:=by
 rcases cut_cases 58 l with h | ⟨a,r,rfl,h⟩
 ·exact .inl ⟨h,by rw [cutAt_none 58 l h]⟩
 ·refine .inr ⟨a.length,by simp,by simp,by simpa using h,?_,?_,?_⟩
  ·rw [cutAt_app 58 a r h];simp
  ·rw [cutAt_app 58 a r h];simp
  ·rw [cutAt_app 58 a r h]
def nameAt (t:Nat) (w:World):Nat:=match w.cell? ⟨t,0,none⟩ with
 | some (.string b)=>b.size
 | _=>0
theorem nameAt_of {t:Nat} {w:World} {b:ByteArray} (h:w.cell? ⟨t,0,none⟩=some (.string b)):nameAt t w=b.size:=by unfold nameAt;rw [h]
theorem Two.set0 {w0 w:World} {n v N V:ByteArray} {t:Nat} (h:Two w0 n v t N V w) (N':ByteArray):Two w0 n v t N' V (w.setCell ⟨t,0,none⟩ (.string N')):=by
 have h1:=h.k.f.other t 0 (.string N') h.ne
 have hb:=h.k.b.setCell (p:=⟨t,0,none⟩) h.ge (.string N');obtain ⟨c0,c1,z0,z1⟩:=h.f;exact ⟨⟨h1,by simpa using h.k.g,hb⟩,⟨by go_simp,by go_simp,by go_simp,by go_simp⟩,h.ne,by simpa using h.lt,h.ge⟩
theorem not_colon (s:ByteArray) (k:Nat) (h:k<s.size) (j:Nat) (hj:k<j) (hn:(58:UInt8)∉s.data.toList.take j):((s[k].toNat:Int)==58)=false:=by
 refine beq_eq_false_iff_ne.2 fun e=>hn ?_;have hl:k<s.data.toList.length:=by rw [len];exact h
 have e1:s.data.toList[k]=58:=UInt8.toNat_inj.1 (by show s[k].toNat=58;omega);rw [←e1];rw [List.mem_take_iff_getElem];exact ⟨k,by omega,rfl⟩
theorem last_of (n0:List UInt8) (m:Nat) (h:m<n0.length):∃Nn:ByteArray,ba (n0.take (m+1))=Nn∧Nn.size=m+1∧(∃h2:m<Nn.size,Nn[m]=n0[m])∧Nn.extract 0 m=ba (n0.take m):=by
 have hl:(n0.take (m+1)).length=m+1:=by rw [List.length_take];omega
 refine ⟨_,rfl,by rw [Txt.ba_size];exact hl,⟨by rw [Txt.ba_size];omega,?_⟩,?_⟩
 ·show (n0.take (m+1))[m]'(by omega)=n0[m];rw [List.getElem_take]
 ·exact ba_ext (by
   rw [Lib.extract_data];show ((n0.take (m+1)).drop 0).take (m-0)=n0.take m;rw [List.drop_zero,List.take_take]
   congr 1;omega)
section code
set_option maxHeartbeats 4000000
set_option maxRecDepth 100000
attribute [local go_sem] Base.some_undef
theorem rparse_none (s:ByteArray) (p:Nat) (hp:p<4294967296) (w:World) (hs:s.size≤1000000000) (hno:(58:UInt8)∉s.data.toList) :
 Calls Tryz.prog 94 #[.string s,.int .u32 (p:Nat)] w fun e w'=>e=.returned (rv (out (Qk.has p 11)))∧Below w.heap.size w w':=by
 have HH:=Lib.hid (fun w=>Qk.rhas_any p hp 11 w);have HNO:=Lib.hid hno;clear hno;obtain ⟨b,hb⟩:∃b,Qk.has p 11=b:=⟨_,rfl⟩;rw [hb] at HH ⊢;clear hb
 have hW:=Lib.hid (show Below w.heap.size w (w.alloc (.cells #[.string E0,.string E0] 106)) from (Below.refl _ _).alloc (Nat.le_refl _) _);go_enter Tryz.func94,Tryz.ntmps94;go_wp2
 go_loop [7,8] (fun c i=>∃k:Nat,k≤s.size∧c=.int .i64 (-1)∧i=.int .i64 k) (fun _ i=>s.size-(intOf i).toNat)
 case atStart=>exact ⟨0,Nat.zero_le _,rfl,rfl⟩
 case round=>
  obtain ⟨k,hk,rfl,rfl⟩:=hrel;rcases Nat.lt_or_ge k s.size with hlt | hge
  ·have t1:=not_colon s k hlt (k+1) (by omega) (fun h=>HNO.out (List.mem_of_mem_take h));go_wp2;go_round
   case rel=>exact ⟨k+1,by omega,rfl,by go_num⟩
   case measure=>simp [intOf];omega
  ·cases b
   ·go_wp2_with (go_at_call 39;with_reducible refine (HH.out _).mono ?_;rintro e w1 ⟨rfl,hw⟩;rw [hw];clear hw);exact bodyPost_ret (v:=.tuple #[fv E0 E0,.bool false,.int .i64 400]) (by simp [results,Tryz.results94,go_sem]) rfl ⟨rfl,hW.out⟩
   ·go_wp2_with (go_at_call 39;with_reducible refine (HH.out _).mono ?_;rintro e w1 ⟨rfl,hw⟩;rw [hw];clear hw);exact bodyPost_ret (v:=.tuple #[fv E0 E0,.bool false,.int .i64 0]) (by simp [results,Tryz.results94,go_sem]) rfl ⟨rfl,hW.out⟩
theorem rparse_some (s:ByteArray) (p:Nat) (hp:p<4294967296) (w:World) (hs:s.size≤1000000000) (j:Nat) (hj:j<s.size) (hc:s[j]=58) (hno:(58:UInt8)∉s.data.toList.take j) :
 Calls Tryz.prog 94 #[.string s,.int .u32 (p:Nat)] w fun e w'=>e=.returned (rv (read (clOf p) (nameL (clOf p) (s.data.toList.take j)) (trimL Txt.blank (s.data.toList.drop (j+1)))))∧Below w.heap.size w w':=by
 have H9:=Lib.hid (fun w=>Qk.rhas_any p hp 9 w)
 have H10:=Lib.hid (fun w=>Qk.rhas_any p hp 10 w)
 have H12:=Lib.hid (fun w=>Qk.rhas_any p hp 12 w)
 have H14:=Lib.hid (fun w=>Qk.rhas_any p hp 14 w)
 have e1:s.extract 0 j=ba (s.data.toList.take j):=ba_ext (by rw [Lib.extract_data];simp [ba])
 have e2:s.extract (j+1) s.size=ba (s.data.toList.drop (j+1)):=ba_ext (by rw [Lib.extract_data,List.take_of_length_le (by rw [List.length_drop,len];omega)];rfl)
 have HT:=Lib.hid (fun w=>rtrim_any (s.extract (j+1) s.size) w (by unfold maxLen;rw [ByteArray.size_extract];omega));have hT:trim (s.extract (j+1) s.size)=ba (trimL Txt.blank (s.data.toList.drop (j+1))):=by rw [e2];rfl
 rw [hT] at HT
 have hvl:(trimL Txt.blank (s.data.toList.drop (j+1))).length≤s.size:=Nat.le_trans (trimL_length _ _) (by rw [List.length_drop,len];omega);have hnl:(s.data.toList.take j).length=j:=by rw [List.length_take,len];omega
 have E1:=Lib.hid e1;have t0:((s[j].toNat:Int)==58)=true:=by rw [hc];rfl
 have HNC:=Lib.hid (fun k (h:k<s.size) (hk:k<j)=>not_colon s k h j hk hno);clear e1 e2 hT hno hc;generalize s.data.toList.take j=n0 at *;generalize trimL Txt.blank (s.data.toList.drop (j+1))=v1 at *
 have hW:=Lib.hid (show Below w.heap.size w (w.alloc (.cells #[.string E0,.string E0] 106)) from (Below.refl _ _).alloc (Nat.le_refl _) _);obtain ⟨R,hR⟩:∃R,rv (read (clOf p) (nameL (clOf p) n0) v1)=R:=⟨_,rfl⟩;rw [hR];have HR0:=Lib.hid hR;clear hR;go_enter Tryz.func94,Tryz.ntmps94;go_upto_block 0 with fail
 go_cut [7,8] from 10 (fun c i wx=>c=.int .i64 (j:Nat)∧wx=w.alloc (.cells #[.string E0,.string E0] 106))
 case first=>
  go_wp2_with fail
  go_loop [7,8] (fun c i=>(∃k:Nat,k≤j∧c=.int .i64 (-1)∧i=.int .i64 k)∨(c=.int .i64 (j:Nat)∧i=.int .i64 ((j+1:Nat):Int))) (fun _ i=>s.size-(intOf i).toNat)
  case atStart=>exact .inl ⟨0,Nat.zero_le _,rfl,rfl⟩
  case round=>
   rcases hrel with ⟨k,hk,rfl,rfl⟩ | ⟨rfl,rfl⟩
   ·have hlt:k<s.size:=by omega
    rcases Nat.lt_or_ge k j with hkj | hkj
    ·have t1:=HNC.out k hlt hkj;clear t0;go_wp2;go_round
     case rel=>exact .inl ⟨k+1,by omega,rfl,by go_num⟩
     case measure=>simp [intOf];omega
    ·obtain rfl:k=j:=by omega
     go_wp2;go_round
     case rel=>exact .inr ⟨rfl,by go_num⟩
     case measure=>simp [intOf];omega
   ·have q0:¬(j:Int)<0:=by omega
    go_wp2;all_goals
     go_meet
     case rel=>exact ⟨rfl,rfl⟩
 case rest=>
  obtain ⟨rfl,hw0⟩:=hcut;rw [hw0];clear hw0;have q0:¬(j:Int)<0:=by omega
  have q1:(0:Int)≤(j:Int):=by omega
  have q2:(j:Int)≤(s.size:Int):=by omega
  have q3:IntKind.i64.wrap ((j:Int)+1)=((j+1:Nat):Int):=by rw [wrap_in _ (by omega) (by omega)];omega
  have q4:((j+1:Nat):Int)≤(s.size:Int):=by omega
  have q5:(0:Int)≤((j+1:Nat):Int):=by omega
  go_upto_region 11 with fail
  go_cut [9] from 31 (fun f wx=>f=.pointer (some ⟨w.heap.size+1,0,none⟩)∧wx=((w.alloc (.cells #[.string E0,.string E0] 106)).alloc (.cells #[.string (s.extract 0 j),.string (ba v1)] 106)).drew)
  case first=>
   go_region_with (go_at_call 111;with_reducible refine (HT.out _).mono ?_;rintro e w1 ⟨rfl,hw⟩;rw [hw];clear hw);all_goals
    go_wp2_with fail;go_meet
    case rel=>exact ⟨rfl,rfl⟩
  case rest=>
   obtain ⟨rfl,hw0⟩:=hcut;have hts:(w.alloc (.cells #[.string E0,.string E0] 106)).heap.size=w.heap.size+1:=by simp
   have HX:=(Two.new (Keep.new w 106 E0 E0) 106 (s.extract 0 j) (ba v1)).drew 1;rw [hts,E1.out] at HX;rw [E1.out] at hw0
   replace HX:=Lib.hid (show Two w E0 E0 (w.heap.size+1) (ba n0) (ba v1) wc by rw [hw0];exact HX)
   clear hw0 hts hW HT E1 HNC t0 q0 q1 q2 q3 q4 q5;have htz:w.heap.size+1=w.heap.size+1:=rfl;generalize w.heap.size+1=t at *;clear htz;have hnf:∀x,nameL (clOf p) x=if Qk.has p 9=true then trimEnd x else x:=fun _=>rfl
   obtain ⟨sp,hsp⟩:∃sp,Qk.has p 9=sp:=⟨_,rfl⟩;rw [hsp] at H9 hnf;clear hsp;have HNF:=Lib.hid hnf;clear hnf;have hn1l:=nameL_le (clOf p) n0;rw [hnl] at hn1l;go_upto_block 2 with fail
   go_cut [] from 40 (fun wx=>Hid (Two w E0 E0 t (ba (nameL (clOf p) n0)) (ba v1) wx))
   case first=>
    go_wp2_with fail
    go_loopw [] (fun wr=>∃m:Nat,m≤j∧Hid (Two w E0 E0 t (ba (n0.take m)) (ba v1) wr)∧Hid (nameL (clOf p) (n0.take m)=nameL (clOf p) n0)) (fun wr=>nameAt t wr)
    case atStart=>exact ⟨j,Nat.le_refl _,Lib.hid (by rw [List.take_of_length_le (by omega)];exact HX.out),Lib.hid (by rw [List.take_of_length_le (by omega)])⟩
    case round=>
     obtain ⟨m,hm,HY,HR⟩:=hrel;obtain ⟨⟨⟨c0,c1,z0,z1⟩,hg,hbk⟩,⟨d0,d1,y0,y1⟩,hne,hlt,hge⟩:=HY.out;have hna:=nameAt_of d0;clear c0 c1 z0 z1 hg hbk hlt hge;cases sp with
     | false=>
       have HZ:=Lib.hid (show Two w E0 E0 t (ba (nameL (clOf p) n0)) (ba v1) wr by rw [←HR.out,HNF.out,if_neg (by decide)];exact HY.out)
       go_wp2_with (go_at_call 39;with_reducible refine (H9.out _).mono ?_;rintro e w1 ⟨rfl,hw⟩;rw [hw];clear hw);go_meet
       case rel=>exact HZ
     | true=>
       rcases m with _ | m
       ·have HZ:=Lib.hid (show Two w E0 E0 t (ba (nameL (clOf p) n0)) (ba v1) wr by
         rw [←HR.out,HNF.out,if_pos rfl];exact HY.out)
        rw [show ba (n0.take 0)=E0 from rfl] at d0
        go_wp2_with (go_at_call 39;with_reducible refine (H9.out _).mono ?_;rintro e w1 ⟨rfl,hw⟩;rw [hw];clear hw);go_meet
        case rel=>exact HZ
       ·have hml:m<n0.length:=by omega
        have htk:=List.take_succ_eq_append_getElem hml;obtain ⟨Nn,hNn,hsz,⟨z2,hat⟩,hex⟩:=last_of n0 m hml;rw [hNn] at d0 hna
        have hno:=first_no Nn (by omega);have HB:Hid (∀w,Calls Tryz.prog 100 #[.int .u8 (Nn[m].toNat:Int)] w fun e w'=>e=.returned (.bool (Txt.blank n0[m]))∧w'=w):=Lib.hid fun w=>by
         have:=Oct.rblank_any (Nn[m].toNat:Int) w;rw [blank_is] at this
         rwa [show Txt.blank Nn[m]=Txt.blank n0[m] from congrArg _ hat] at this
        have z1:IntKind.i64.wrap ((Nn.size:Int)-1)=(m:Int):=by rw [wrap_in _ (by omega) (by omega)];omega
        have z3:(m:Int)<(Nn.size:Int):=by omega
        have z4:(m:Int)≤(Nn.size:Int):=by omega
        have z5:(0:Int)≤(m:Int):=by omega
        cases hb:Txt.blank n0[m] with
        | false=>
          rw [hb] at HB
          have HZ:=Lib.hid (show Two w E0 E0 t (ba (nameL (clOf p) n0)) (ba v1) wr by rw [←HR.out,HNF.out,if_pos rfl,htk,trimEnd_stop _ _ hb,←htk];exact HY.out)
          clear hb htk HY HR hex hat hNn
          go_wp2_with (first
           |(go_at_call 39;with_reducible refine (H9.out _).mono ?_;rintro e w1 ⟨rfl,hw⟩;rw [hw];clear hw)
           |(go_at_call 100;with_reducible refine (HB.out _).mono ?_;rintro e w1 ⟨rfl,hw⟩;rw [hw];clear hw))
          go_meet
          case rel=>exact HZ
        | true=>
          rw [hb] at HB
          have HY2:=Lib.hid (HY.out.set0 (Nn.extract 0 m))
          have HR2:=Lib.hid (show nameL (clOf p) (n0.take m)=nameL (clOf p) n0 by rw [←HR.out,HNF.out,HNF.out,if_pos rfl,if_pos rfl,htk,trimEnd_snoc _ _ hb])
          have HE:=Lib.hid hex;clear hb htk HY HR hex hat hNn
          go_wp2_with (first
           |(go_at_call 39;with_reducible refine (H9.out _).mono ?_;rintro e w1 ⟨rfl,hw⟩;rw [hw];clear hw)
           |(go_at_call 100;with_reducible refine (HB.out _).mono ?_;rintro e w1 ⟨rfl,hw⟩;rw [hw];clear hw))
          have hd:=HY2.out.f.c0;have hs2:(Nn.extract 0 m).size=m:=by rw [ByteArray.size_extract];omega
          rw [HE.out] at HY2;go_roundw
          case rel=>exact ⟨m,by omega,by first | exact HY2 |(rw [HE.out];exact HY2),HR2⟩
          case measure=>rw [nameAt_of hd,hna];omega
   case rest=>
    clear HX;have HX:=hcut;clear hcut H9 HNF;generalize nameL (clOf p) n0=n1 at *;by_cases hn:n1= []
    ·subst hn;have hRv:R=rv (out (Qk.has p 12)):=by rw [←HR0.out];rfl
     clear HR0;generalize Qk.has p 12=nn at *;obtain ⟨⟨⟨c0,c1,z0,z1⟩,hg,hbk⟩,⟨d0,d1,y0,y1⟩,hne,hlt,hge⟩:=HX.out;obtain ⟨W9,hW9,⟨r0,r1,_,_⟩,hbW⟩:=Fb.put HX.out.k.f HX.out.k.b (Nat.le_refl _) E0 E0;rw [show ba []=E0 from rfl] at d0;clear hg hbk hlt hge;cases nn
     ·go_wp2_with (go_at_call 39;with_reducible refine (H12.out _).mono ?_;rintro e w1 ⟨rfl,hw⟩;rw [hw];clear hw);try rw [hW9]
      exact bodyPost_ret (v:=.tuple #[fv E0 E0,.bool false,.int .i64 400]) (by simp [results,Tryz.results94,go_sem,r0,r1]) rfl ⟨by first | rfl |(rw [hRv];rfl),hbW⟩
     ·go_wp2_with (go_at_call 39;with_reducible refine (H12.out _).mono ?_;rintro e w1 ⟨rfl,hw⟩;rw [hw];clear hw);try rw [hW9]
      exact bodyPost_ret (v:=.tuple #[fv E0 E0,.bool false,.int .i64 0]) (by simp [results,Tryz.results94,go_sem,r0,r1]) rfl ⟨by first | rfl |(rw [hRv];rfl),hbW⟩
    ·have t0:=first_no (ba n1) (ba_pos hn)
     have HN:=Lib.hid (fun w a (hk:Ints w a 1 [1])=>Oct.rall_any (ba n1) a 1 1 [1] w (by rw [Txt.ba_size];unfold maxLen;omega) hk (by decide))
     have HV:=Lib.hid (fun w a (hk:Ints w a 1 [6])=>Oct.rall_any (ba v1) a 1 1 [6] w (by rw [Txt.ba_size];unfold maxLen;omega) hk (by decide));rw [show (ba n1).data.toList=n1 from rfl] at HN;rw [show (ba v1).data.toList=v1 from rfl] at HV;obtain ⟨G,hG⟩:∃G,(!(goodN (clOf p) n1&&goodV (clOf p) v1))=G:=⟨_,rfl⟩
     have HG:=Lib.hid (show G= !((Qk.has p 10||Oct.allOf [1] n1)&&(Qk.has p 14||Oct.allOf [6] v1)) from hG.symm)
     have HRv:=Lib.hid (show R=if G=true then rv none else rv (some (some (n1,v1))) by rw [←HR0.out,←hG];unfold read;rw [if_neg hn];cases (goodN (clOf p) n1&&goodV (clOf p) v1)<;>rfl)
     have HF:Hid (rv (some (some (n1,v1)))=.tuple #[fv (ba n1) (ba v1),.bool true,.int .i64 0]):=Lib.hid rfl;clear hG HR0 hn hnl hvl hn1l H12;generalize ba n1=N1 at *;generalize ba v1=V1 at *;obtain ⟨⟨⟨c0,c1,z0,z1⟩,hg,hbk⟩,⟨d0,d1,y0,y1⟩,hne,hlt,hge⟩:=HX.out;clear hg hbk hlt hge c0 c1 z0 z1;go_upto_region 18 with fail
     go_cut [93] from 72 (fun v wx=>v=.bool G∧Hid (Two w E0 E0 t N1 V1 wx))
     case first=>
      clear HRv HF t0;generalize Qk.has p 10=nb at *;generalize Qk.has p 14=vb at *;generalize Oct.allOf [1] n1=tn at *;generalize Oct.allOf [6] v1=tv at *;have hGG:=HG.out;clear HG;cases nb<;>cases tn<;>cases vb<;>cases tv;all_goals
       obtain rfl:=hGG
       go_wp2_with (first
        |(go_at_call 39;with_reducible refine (H10.out _).mono ?_;rintro e w1 ⟨rfl,hw⟩;rw [hw];clear hw)
        |(go_at_call 39;with_reducible refine (H14.out _).mono ?_;rintro e w1 ⟨rfl,hw⟩;rw [hw];clear hw)
        |(go_at_call 87;(with_reducible refine (HV.out _ _ (Ints.one _ _ rfl _ _)).mono ?_);rintro e w1 ⟨rfl,m,hw⟩
          replace HX:=Lib.hid ((HX.out.step ((Below.refl _ _).alloc (Nat.le_refl _) (.cells #[.int .i64 6] 3))).drew m)
          rw [←hw] at HX;clear hw)
        |(go_at_call 87;(with_reducible refine (HN.out _ _ (Ints.one _ _ rfl _ _)).mono ?_);rintro e w1 ⟨rfl,m,hw⟩
          replace HX:=Lib.hid ((HX.out.step ((Below.refl _ _).alloc (Nat.le_refl _) (.cells #[.int .i64 1] 3))).drew m)
          rw [←hw] at HX;clear hw d0 d1 y0 y1;obtain ⟨d0,d1,y0,y1⟩:=HX.out.f))
       go_meet
       case rel=>exact ⟨by rfl,HX⟩
     case rest=>
      obtain ⟨rfl,HY⟩:=hcut;clear HX HG d0 d1 y0 y1 t0 HN HV H10 H14;obtain ⟨⟨⟨c0,c1,z0,z1⟩,hg,hbk⟩,⟨d0,d1,y0,y1⟩,hne,hlt,hge⟩:=HY.out;clear hg hbk hlt hge;cases G with
      | true=>
        have hRv:=HRv.out;rw [if_pos rfl] at hRv;obtain ⟨W9,hW9,⟨r0,r1,_,_⟩,hbW⟩:=Fb.put HY.out.k.f HY.out.k.b (Nat.le_refl _) E0 E0;go_wp2_with fail;try rw [hW9]
        exact bodyPost_ret (v:=.tuple #[fv E0 E0,.bool false,.int .i64 400]) (by simp [results,Tryz.results94,go_sem,r0,r1]) rfl ⟨by first | rfl |(rw [hRv];rfl),hbW⟩
      | false=>
        have hRv:=HRv.out;rw [if_neg (by decide),HF.out] at hRv;obtain ⟨W9,hW9,⟨r0,r1,_,_⟩,hbW⟩:=Fb.put HY.out.k.f HY.out.k.b (Nat.le_refl _) N1 V1;go_wp2_with fail;try rw [hW9]
        exact bodyPost_ret (v:=.tuple #[fv N1 V1,.bool true,.int .i64 0]) (by simp [results,Tryz.results94,go_sem,r0,r1]) rfl ⟨by first | rfl | rw [hRv],hbW⟩
theorem rparse_any (s:ByteArray) (p:Nat) (hp:p<4294967296) (w:World) (hs:s.size≤1000000000):Calls Tryz.prog 94 #[.string s,.int .u32 (p:Nat)] w fun e w'=>e=.returned (rv (parse (clOf p) s.data.toList))∧Below w.heap.size w w':=by
 rcases colon_cases s.data.toList with ⟨h1,h2⟩ | ⟨j,hj,h1,h2,h3,h4,h5⟩
 ·have:=rparse_none s p hp w hs h1;unfold parse;rw [if_neg (by rw [h2];decide)];exact this
 ·have:=rparse_some s p hp w hs j (by rw [←len];exact hj) h1 h2;unfold parse;rw [if_pos h5,h3,h4];exact this
end code
end Go.Proofs.YtimoakmcelocfaaGreat.Fd
