import Derived.Test.YtimoakmcelocfaaGreatAyt
namespace Go.Proofs.YtimoakmcelocfaaGreat.DF
open Go.RowKit Base Txt Mem Par Pg Each Flt
def vd (code:Nat):Int:=if code=0 then 1 else 2
abbrev dcells (g1 g2 code:Nat) (pt:Bool):List Value:= [ptr g1,ptr g2,.int .i64 (vd code),.int .i64 (code:Int),.bool pt]
structure DF (w:World) (B g g1 g2 p:Nat) (b:Bd) (L1 L2:List (Option Nat)) (f:F):Prop where
 row:w.heap[g]?=some (.cells (dcells g1 g2 f.code f.parted).toArray 85 (0,0))
 x:∃Z,DQ w ⟨B,Z⟩ g1 0 b L1 f.x
 y:∃Z,DQ w ⟨B,Z⟩ g2 p b L2 f.y
 dis:Dis L1 L2
 n1:some g∉L1
 n2:some g∉L2
 ge:B≤g
 xo:f.x.out= []
 yo:f.y.out= []
abbrev blksD (g:Nat) (L1 L2:List (Option Nat)):List (Option Nat):=some g::(L1++L2)
section
variable {w w' w0 w1:World} {B g g1 g2 p:Nat} {b:Bd} {L1 L2 M M1 M2 N1 N2 Z:List (Option Nat)} {f f':F} {V U:Value} {out out2:List Rec.R}
theorem DF.keeps (h:DF w B g g1 g2 p b L1 L2 f) (hk:Keeps M w w') (hd:Dis (blksD g L1 L2) M):DF w' B g g1 g2 p b L1 L2 f:=
 ⟨hk.row h.row (hd g (by simp)),h.x.imp fun _ h1=>h1.keeps hk fun k hk=>hd k (by simp [hk]),h.y.imp fun _ h1=>h1.keeps hk fun k hk=>hd k (by simp [hk]),h.dis,h.n1,h.n2,h.ge,h.xo,h.yo⟩
theorem DF.in (h:DF w B g g1 g2 p b L1 L2 f):In w (blksD g L1 L2):=by
 intro k hk;obtain ⟨_,hx⟩:=h.x;obtain ⟨_,hy⟩:=h.y;simp only [List.mem_cons,List.mem_append,Option.some.injEq] at hk;rcases hk with rfl | hk | hk
 ·exact Ln.row_lt h.row
 ·exact hx.in k hk
 ·exact hy.in k hk
theorem DF.c (h:DF w B g g1 g2 p b L1 L2 f):w.cell? ⟨g,0,none⟩=some (ptr g1)∧w.cell? ⟨g,1,none⟩=some (ptr g2)∧w.cell? ⟨g,2,none⟩=some (.int .i64 (vd f.code))∧w.cell? ⟨g,3,none⟩=some (.int .i64 (f.code:Int))∧w.cell? ⟨g,4,none⟩=some (.bool f.parted):=
 ⟨row_cellL h.row rfl,row_cellL h.row rfl,row_cellL h.row rfl,row_cellL h.row rfl,row_cellL h.row rfl⟩
structure DS (w0:World) (B g g1 g2 p:Nat) (b:Bd) (Z L1 L2:List (Option Nat)) (f:F) (V:Value) (out:List Rec.R) (N1 N2:List (Option Nat)) (w:World):Prop where
 fat:DF w B g g1 g2 p b N1 N2 f
 outs:Outs (V.ownBlock::blksD g N1 N2) ⟨w0.heap.size,Z⟩ w V out
 far:∀k,V.ownBlock=some k→some k∉blksD g N1 N2
 zone:Clear w Z (V.ownBlock::blksD g N1 N2)
 keeps:Keeps (blksD g L1 L2) w0 w
 of:Of w0 (blksD g L1 L2) (blksD g N1 N2)
theorem DS.start (h:DF w B g g1 g2 p b L1 L2 f) (hz:Clear w Z (blksD g L1 L2)):DS w B g g1 g2 p b Z L1 L2 f (.slice none 0 0) [] L1 L2 w:=
 ⟨h,⟨[],rfl,(by intro x hx;cases hx),World.ownsRow_nil _ _ _ _⟩,(fun k e=>by cases e),clear_sub hz (fun k hk=>by
   rcases List.mem_cons.1 hk with e | e
   ·cases e
   ·exact e),Keeps.refl,Of.refl⟩
theorem DS.off (h:DS w0 B g g1 g2 p b Z L1 L2 f V out N1 N2 w):Clear w (V.ownBlock::Z) (blksD g N1 N2):=by
 obtain ⟨ps,h1,h2,h3⟩:=h.outs;refine ⟨fun k hk=>?_,fun k hk hz=>?_⟩
 ·rcases List.mem_cons.1 hk with e | e
  ·exact (World.ownsRow.lt h3 k e.symm).2
  ·exact h.zone.inz k e
 ·rcases List.mem_cons.1 hz with e | e
  ·exact h.far k e.symm hk
  ·exact h.zone.off k (List.mem_cons_of_mem _ hk) e
theorem DS.next (h:DS w0 B g g1 g2 p b Z L1 L2 f V out N1 N2 w) (hf:DF w1 B g g1 g2 p b M1 M2 f') (ht:Pg.Told (blksD g M1 M2) ⟨B,V.ownBlock::Z⟩ w1 U out2) (hs:Step (blksD g N1 N2) (blksD g M1 M2) w w1) (hn:out.length+out2.length≤1000000000) :
 ∃V' w2,(Builtin.append_ #[51,51] 51 #[V,U]).run Tryz.prog w1=.ok V' w2∧DS w0 B g g1 g2 p b Z L1 L2 f' V' (out++out2) M1 M2 w2:=by
 have o1:=outs_step h.outs hs h.far;obtain ⟨qs,q1,q2,q3⟩:=ht.outs
 have o2:Outs (V.ownBlock::blksD g M1 M2) ⟨B,Z⟩ w1 U out2:=⟨qs,q1,fun x hx=>⟨(q2 x hx).1,(q2 x hx).2.reads,fun k hb=>⟨fun hm=>by
  rcases List.mem_cons.1 hm with e | e
  ·exact (q2 x hx).2.off k hb (by rw [e];exact List.mem_cons_self ..)
  ·exact ((q2 x hx).2.far k hb).1 e,((q2 x hx).2.far k hb).2⟩,fun k hb hz=>(q2 x hx).2.off k hb (List.mem_cons_of_mem _ hz)⟩,q3⟩
 have hsz:=Nat.le_trans h.keeps.size hs.keeps.size;obtain ⟨V',w2,hrun,o3,hk,hor⟩:=outs_append o1 o2 hn hsz;have hVb:∀k,V.ownBlock=some k→w0.heap.size≤k∧k<w.heap.size:=fun k e=>by obtain ⟨ps, -, -,h3⟩:=h.outs;exact World.ownsRow.lt h3 k e
 have hVM:∀k,V.ownBlock=some k→some k∉blksD g M1 M2:=fun k e hm=>by
  rcases hs.of k hm with e1 | e1
  ·exact h.far k e e1
  ·have:=(hVb k e).2;omega
 have hV'M:∀k,V'.ownBlock=some k→some k∉blksD g M1 M2:=fun k e hm=>by
  rcases hor with e1 | e1
  ·exact hVM k (e1 ▸ e) hm
  ·rw [e1] at e;cases e;have:=hf.in _ hm;omega
 have hdis:Dis (blksD g M1 M2) [V.ownBlock]:=fun k hk hm=>by
  have e:some k=V.ownBlock:=by simpa using hm
  exact hVM k e.symm hk
 refine ⟨V',w2,hrun,hf.keeps hk hdis,o3,hV'M,⟨fun k hz=>Nat.lt_of_lt_of_le (h.zone.inz k hz) (Nat.le_trans hs.keeps.size hk.size),fun k hk' hz=>?_⟩,(h.keeps.trans hs.keeps h.of).trans hk (fun k hk=>.inr ?_),h.of.trans hs.of h.keeps.size⟩
 ·rcases List.mem_cons.1 hk' with e | e
  ·rcases hor with e1 | e1
   ·exact h.zone.off k (by rw [e,e1];exact List.mem_cons_self ..) hz
   ·rw [e1] at e;have:=h.zone.inz k hz;have:=hs.keeps.size;cases e;omega
  ·rcases hs.of k e with e1 | e1
   ·exact h.zone.off k (List.mem_cons_of_mem _ e1) hz
   ·have:=h.zone.inz k hz;omega
 ·have e:some k=V.ownBlock:=by simpa using hk
  exact (hVb k e.symm).1
end
structure Pair (w0 w:World) (g1 g2 p:Nat) (b:Bd) (L1 L2:List (Option Nat)):Prop where
 x:∃Z,DQ w ⟨w0.heap.size,Z⟩ g1 0 b L1 (Q.new 0 b)
 y:∃Z,DQ w ⟨w0.heap.size,Z⟩ g2 p b L2 (Q.new p b)
 dis:Dis L1 L2
 bel:Below w0.heap.size w0 w
theorem own_lower' {w:World} {B B':Nat} {e:TypeId} {size n:Nat} {v:Value} {xs:List Value} (h:w.ownsRow B e size v n xs) (hB:B'≤B):w.ownsRow B' e size v n xs:=by
 refine ⟨h.1,?_⟩;rcases h.2 with h0 | ⟨b,cap,cur,rfl,hb,rest⟩
 ·exact .inl h0
 ·exact .inr ⟨b,cap,cur,rfl,Nat.le_trans hB hb,rest⟩
theorem dq_lower {w:World} {B B' g p:Nat} {b:Bd} {L Z:List (Option Nat)} {x:Q} (h:DQ w ⟨B,Z⟩ g p b L x) (hB:B'≤B):DQ w ⟨B',Z⟩ g p b L x:=by
 obtain ⟨s,h1,h2,h3⟩:=h;refine ⟨s,h1,h2,?_⟩;rcases h3 with ⟨q,v,f,bd,t,rfl,⟨o,hrow⟩,hown⟩ | ⟨rfl,h3⟩
 ·exact .inl ⟨q,v,f,bd,t,rfl,⟨o,hrow⟩,⟨⟨hown.R.row,own_lower' hown.R.own hB,Nat.le_trans hB hown.R.ge,hown.R.ne⟩,own_lower' hown.F hB,own_lower' hown.D hB,own_lower' hown.T hB,⟨[],rfl,(by intro x hx;cases hx),World.ownsRow_nil _ _ _ _⟩,hown.lone,Nat.le_trans hB hown.ge,hown.lt,hown.zone⟩⟩
 ·exact .inr ⟨rfl,h3.row,h3.e,h3.clean,h3.out,Nat.le_trans hB h3.ge,h3.zone⟩
theorem Pair.first {w0 w1 w2:World} {g1 g2 p:Nat} {b:Bd} {L1 L2:List (Option Nat)} {B:Nat} (hB:w0.heap.size≤B) (h1:DQ w1 ⟨B,[]⟩ g1 0 b L1 (Q.new 0 b)) (h2:DQ w2 ⟨w1.heap.size,[]⟩ g2 p b L2 (Q.new p b)) (hb1:Below w0.heap.size w0 w1) (hb2:Below w1.heap.size w1 w2):Pair w0 w2 g1 g2 p b L1 L2:=
 ⟨⟨_,(dq_lower h1 hB).below hb2⟩,⟨_,dq_lower h2 hb1.size⟩,fun k hk hk'=>by
   have:=h1.in k hk;have:w1.heap.size≤k:=h2.low k hk'
   omega,Base.below_step hb1 hb2⟩
theorem Pair.filter {w0 w w':World} {g1 g2 p:Nat} {b:Bd} {L1 L2:List (Option Nat)} (h:Pair w0 w g1 g2 p b L1 L2) (hk:Below w.heap.size w w') (hrow:w'.heap[w.heap.size]?=some (.cells (dcells g1 g2 (Q.new p b).err false).toArray 85 (0,0))) (B:Nat) (hB:B≤w0.heap.size):DF w' B w.heap.size g1 g2 p b L1 L2 (F.new p b):=by obtain ⟨Z1,h1⟩:=h.x;obtain ⟨Z2,h2⟩:=h.y;exact ⟨hrow,⟨Z1,(dq_lower h1 hB).below hk⟩,⟨Z2,(dq_lower h2 hB).below hk⟩,h.dis,fun hm=>Nat.lt_irrefl _ (h1.in _ hm),fun hm=>Nat.lt_irrefl _ (h2.in _ hm),Nat.le_trans hB h.bel.size,qnew_out,qnew_out⟩
section code
set_option maxHeartbeats 8000000
set_option maxRecDepth 20000
attribute [local go_sem] Base.some_undef
variable {p:Nat} {b:Bd}
theorem new_any (hp:p<4294967296) (w:World):Calls Tryz.prog 48 #[.int .u32 (p:Int),.agg #[.int .i64 b.x0,.int .i64 b.x1,.int .i64 b.x2,.int .i64 b.x3,.int .i64 b.x4,.int .i64 b.x5,.int .i64 b.x6,.int .i64 b.x7,.bool b.ch,.bool b.od]] w fun r w'=>
 ∃g g1 g2 L1 L2,r=.returned (ptr g)∧DF w' w.heap.size g g1 g2 p b L1 L2 (F.new p b)∧Below w.heap.size w w':=by
 have hqr:=fun w=>Qk.rright_any p hp w;have hbr:=fun w=>show Calls Tryz.prog 16 #[.agg #[.int .i64 b.x0,.int .i64 b.x1,.int .i64 b.x2,.int .i64 b.x3,.int .i64 b.x4,.int .i64 b.x5,.int .i64 b.x6,.int .i64 b.x7,.bool b.ch,.bool b.od]] w fun e w'=>e=.returned (.bool b.right)∧Below w.heap.size w w' from Bnd.rright_any b.x0 b.x1 b.x2 b.x3 b.x4 b.x5 b.x6 b.x7 b.ch b.od w
 have HE:Hid ((Q.new p b).err=if (b.right&&decide (p<1073741824))=true then 0 else 20):=Lib.hid (by unfold Q.new;split<;>rfl);obtain ⟨a1,ha1⟩:∃a,decide (p<1073741824)=a:=⟨_,rfl⟩;obtain ⟨a2,ha2⟩:∃a,b.right=a:=⟨_,rfl⟩;rw [ha1] at hqr HE;rw [ha2] at hbr HE;have HQ:=Lib.hid hqr;have HBR:=Lib.hid hbr;clear ha1 ha2 hqr hbr
 have HB0:=Lib.hid (((Below.refl _ _).alloc (Nat.le_refl _) (.cells #[.int .i64 b.x0,.int .i64 b.x1,.int .i64 b.x2,.int .i64 b.x3,.int .i64 b.x4,.int .i64 b.x5,.int .i64 b.x6,.int .i64 b.x7,.bool b.ch,.bool b.od] 24)):Below w.heap.size w _)
 have HZ0:=Lib.hid (Rec.Bk.new w w.heap.size rfl 24 [.int .i64 b.x0,.int .i64 b.x1,.int .i64 b.x2,.int .i64 b.x3,.int .i64 b.x4,.int .i64 b.x5,.int .i64 b.x6,.int .i64 b.x7,.bool b.ch,.bool b.od])
 have HSZ:=Lib.hid (show w.heap.size<(w.alloc (.cells #[.int .i64 b.x0,.int .i64 b.x1,.int .i64 b.x2,.int .i64 b.x3,.int .i64 b.x4,.int .i64 b.x5,.int .i64 b.x6,.int .i64 b.x7,.bool b.ch,.bool b.od] 24)).heap.size by simp)
 have HN0:=Lib.hid (show∀w:World,Calls Tryz.prog 20 #[.int .u32 0,.agg #[.int .i64 b.x0,.int .i64 b.x1,.int .i64 b.x2,.int .i64 b.x3,.int .i64 b.x4,.int .i64 b.x5,.int .i64 b.x6,.int .i64 b.x7,.bool b.ch,.bool b.od]] w fun r w'=>∃g L',r=.returned (ptr g)∧w.heap.size≤g∧DQ w' ⟨w.heap.size,[]⟩ g 0 b L' (Q.new 0 b)∧Below w.heap.size w w' from fun w=>dnew_any (p:=0) (b:=b) (by decide) w)
 have HN1:=Lib.hid (fun w=>dnew_any (p:=p) (b:=b) hp w);go_enter Tryz.func48,Tryz.ntmps48;go_upto_region 1 with fail
 generalize w.alloc (.cells #[.int .i64 b.x0,.int .i64 b.x1,.int .i64 b.x2,.int .i64 b.x3,.int .i64 b.x4,.int .i64 b.x5,.int .i64 b.x6,.int .i64 b.x7,.bool b.ch,.bool b.od] 24)=W0 at *;generalize hgB:w.heap.size=gB at *;have HGB:=Lib.hid hgB;clear hgB;have y0:=HZ0.out.c 0 _ rfl;have y1:=HZ0.out.c 1 _ rfl;have y2:=HZ0.out.c 2 _ rfl;have y3:=HZ0.out.c 3 _ rfl;have y4:=HZ0.out.c 4 _ rfl;have y5:=HZ0.out.c 5 _ rfl;have y6:=HZ0.out.c 6 _ rfl;have y7:=HZ0.out.c 7 _ rfl;have y8:=HZ0.out.c 8 _ rfl;have y9:=HZ0.out.c 9 _ rfl
 go_region_with (first
  |(go_at_call 20;with_reducible refine (HN0.out _).mono ?_;rintro r wx ⟨gx,Lx,rfl,hgx,hax,hbx⟩
    have HAX:=Lib.hid hax;have HBX:=Lib.hid hbx;first
     | have HZX:=Lib.hid (HZY.out.below hbx)
     | have HZX:=Lib.hid ((HZ0.out.below (Base.below_drewN (Below.refl W0.heap.size W0) 1)).below hbx)
    have x0:=HZX.out.c 0 _ rfl;have x1:=HZX.out.c 1 _ rfl;have x2:=HZX.out.c 2 _ rfl;have x3:=HZX.out.c 3 _ rfl;have x4:=HZX.out.c 4 _ rfl;have x5:=HZX.out.c 5 _ rfl;have x6:=HZX.out.c 6 _ rfl;have x7:=HZX.out.c 7 _ rfl;have x8:=HZX.out.c 8 _ rfl;have x9:=HZX.out.c 9 _ rfl;clear hax hbx hgx)
  |(go_at_call 20;with_reducible refine (HN1.out _).mono ?_;rintro r wy ⟨gy,Ly,rfl,hgy,hay,hby⟩
    have HAY:=Lib.hid hay;have HBY:=Lib.hid hby;first
     | have HZY:=Lib.hid (HZX.out.below hby)
     | have HZY:=Lib.hid ((HZ0.out.below (Base.below_drewN (Below.refl W0.heap.size W0) 1)).below hby)
    have v0:=HZY.out.c 0 _ rfl;have v1:=HZY.out.c 1 _ rfl;have v2:=HZY.out.c 2 _ rfl;have v3:=HZY.out.c 3 _ rfl;have v4:=HZY.out.c 4 _ rfl;have v5:=HZY.out.c 5 _ rfl;have v6:=HZY.out.c 6 _ rfl;have v7:=HZY.out.c 7 _ rfl;have v8:=HZY.out.c 8 _ rfl;have v9:=HZY.out.c 9 _ rfl;clear hay hby hgy))
 all_goals
  have HPR:=Lib.hid (Pair.first (w0:=W0) (Nat.le_refl W0.heap.size) HAX.out HAY.out ((Base.below_drewN (Below.refl W0.heap.size W0) 1).trans HBX.out) HBY.out);clear y0 y1 y2 y3 y4 y5 y6 y7 y8 y9 x0 x1 x2 x3 x4 x5 x6 x7 x8 x9 v0 v1 v2 v3 v4 v5 v6 v7 v8 v9
  have HR:=Lib.hid (heap_alloc_new wy (.cells #[ptr gx,ptr gy,.int .i64 1,.int .i64 0,.bool false] 85))
  have HF:=Lib.hid (Rec.Bk.new wy wy.heap.size rfl 85 [ptr gx,ptr gy,.int .i64 1,.int .i64 0,.bool false])
  have HAL:Hid (Below wy.heap.size wy (wy.alloc (.cells #[ptr gx,ptr gy,.int .i64 1,.int .i64 0,.bool false] 85))):=Lib.hid ((Below.refl _ _).alloc (Nat.le_refl _) _)
  have HZB:=Lib.hid (HZY.out.below HAL.out);generalize wy.alloc (.cells #[ptr gx,ptr gy,.int .i64 1,.int .i64 0,.bool false] 85)=W2 at *;have z0:=HZB.out.c 0 _ rfl;have z1:=HZB.out.c 1 _ rfl;have z2:=HZB.out.c 2 _ rfl;have z3:=HZB.out.c 3 _ rfl;have z4:=HZB.out.c 4 _ rfl;have z5:=HZB.out.c 5 _ rfl;have z6:=HZB.out.c 6 _ rfl;have z7:=HZB.out.c 7 _ rfl;have z8:=HZB.out.c 8 _ rfl;have z9:=HZB.out.c 9 _ rfl
  have HBW:=Lib.hid (show Below gB w wy from HB0.out.trans (HPR.out.bel.mono (Nat.le_of_lt HSZ.out)))
  have HGW:=Lib.hid (show gB≤wy.heap.size from by have:=HBW.out.size;have:=HGB.out;omega)
  have HFIN:Hid (∀(W9:World) (e:Nat),Below wy.heap.size wy W9→(Q.new p b).err=e→W9.heap[wy.heap.size]?=some (.cells (dcells gx gy e false).toArray 85 (0,0))→∃g g1 g2 L1 L2,(Ending.returned (ptr wy.heap.size))=.returned (ptr g)∧DF W9 gB g g1 g2 p b L1 L2 (F.new p b)∧Below gB w W9):=Lib.hid (fun W9 e hb he hr=>⟨_,gx,gy,Lx,Ly,rfl,HPR.out.filter hb (by rw [he];exact hr) gB (Nat.le_of_lt HSZ.out),HBW.out.trans (hb.mono HGW.out)⟩)
  clear HAX HAY HBX HBY HZX HZY HZ0 HPR HBW;by_cases hok:(a2&&a1)=true
  ·obtain ⟨rfl,rfl⟩:a2=true∧a1=true:=by simpa using hok
   clear hok
   go_wp2_with (first
    |(go_at_call 16;with_reducible refine (HBR.out _).mono ?_;rintro r w5 ⟨rfl,hb5⟩
      replace HR:=Lib.hid ((Keeps.of_below hb5:Keeps [] _ _).row HR.out (by simp));replace HAL:=Lib.hid (Base.below_step HAL.out hb5)
      clear hb5)
    |(go_at_call 17;with_reducible refine (HQ.out _).mono ?_;rintro r w6 ⟨rfl,hw⟩;rw [hw];clear hw))
   go_ret;rw [HGB.out];exact HFIN.out _ 0 HAL.out HE.out HR.out
  ·have he20:(Q.new p b).err=20:=HE.out.trans (if_neg hok);have H20:=Lib.hid he20;have hz:a2=false∨(a2=true∧a1=false):=by
    revert hok;cases a2<;>cases a1<;>simp
   clear hok he20 HE;rcases hz with rfl | ⟨rfl,rfl⟩;all_goals
    go_wp2_with (first
     |(go_at_call 16;with_reducible refine (HBR.out _).mono ?_;rintro r w5 ⟨rfl,hb5⟩
       replace HR:=Lib.hid ((Keeps.of_below hb5:Keeps [] _ _).row HR.out (by simp));replace HAL:=Lib.hid (Base.below_step HAL.out hb5);replace HF:=Lib.hid (HF.out.below hb5)
       have d2:=HF.out.c 2 _ rfl;have d3:=HF.out.c 3 _ rfl;have m2:=Ln.row_frozen HR.out 2;have m3:=Ln.row_frozen HR.out 3;clear hb5)
     |(go_at_call 17;with_reducible refine (HQ.out _).mono ?_;rintro r w6 ⟨rfl,hw⟩;rw [hw];clear hw))
    go_ret;rw [HGB.out]
    exact HFIN.out _ 20 ((HAL.out.setCell (p:=⟨wy.heap.size,2,none⟩) (Nat.le_refl _) _).setCell (p:=⟨wy.heap.size,3,none⟩) (Nat.le_refl _) _) H20.out (row_setL (row_setL HR.out 2 (.int .i64 2)) 3 (.int .i64 20))
end code
end Go.Proofs.YtimoakmcelocfaaGreat.DF
namespace Go.Proofs.YtimoakmcelocfaaGreat.DF
open Go.RowKit Base Txt Mem Par Pg Each Flt
def Bt1 (M:List (Option Nat)) (ch:UInt8):Fact:=fun v w=>∃k,v=.slice (some ⟨k,0,none⟩) 1 1∧Bts M w (some ⟨k,0,none⟩) [ch]
def One2 (M:List (Option Nat)) (ch:UInt8):Fact:=fun v w=>∃k k2,v=.slice (some ⟨k,0,none⟩) 1 1∧k<w.heap.size∧some k∉M∧w.cell? ⟨k,0,none⟩=some (.slice (some ⟨k2,0,none⟩) 1 1)∧Bts M w (some ⟨k2,0,none⟩) [ch]
section
variable {w w':World} {B g g1 g2 p:Nat} {b:Bd} {L1 L2:List (Option Nat)} {f:F} {ch:UInt8}
theorem Bt1.lasts {l:List Oper} {A' C':World→List (Option Nat)→Prop} {i1 i2 k:Nat}:LastsTwo l A' C' L1 L2 i1 i2 k (Bt1 (L1++L2) ch):=
 LastsTwo.keeps fun _ _ _ _ hM hk ⟨j,e,h⟩=>⟨j,e,bts_keeps h (hk.mono hM)⟩
theorem One2.lasts {l:List Oper} {A' C':World→List (Option Nat)→Prop} {i1 i2 k:Nat}:LastsTwo l A' C' L1 L2 i1 i2 k (One2 (L1++L2) ch):=
 LastsTwo.keeps fun _ _ _ _ hM hk ⟨j,j2,e,h1,h2,h3,h4⟩=>⟨j,j2,e,Nat.lt_of_lt_of_le h1 hk.size,h2,(hk.cell (p:=⟨j,0,none⟩) h1 fun hm=>h2 (hM j hm)).trans h3,bts_keeps h4 (hk.mono hM)⟩
theorem Bt1.made {M:List (Option Nat)} {W w1:World} (hin:∀k,some k∈M→k<W.heap.size) (hk:Keeps M W w1) (ch:UInt8) (ty:TypeId):Bt1 M ch (.slice (some ⟨w1.heap.size,0,none⟩) 1 1) (w1.alloc (.cells #[.int .u8 (ch.toNat:Int)] ty)):=
 ⟨w1.heap.size,rfl,Bts.lit (fun k hm=>Nat.lt_of_lt_of_le (hin k hm) hk.size) [ch] _ rfl ty _⟩
theorem One2.made {M:List (Option Nat)} {W w1:World} {k2:Nat} (hin:∀k,some k∈M→k<W.heap.size) (hk:Keeps M W w1) (hb:Bts M w1 (some ⟨k2,0,none⟩) [ch]) (ty:TypeId):One2 M ch (.slice (some ⟨w1.heap.size,0,none⟩) 1 1) (w1.alloc (.cells #[.slice (some ⟨k2,0,none⟩) 1 1] ty)):=by
 refine ⟨w1.heap.size,k2,rfl,by simp,fun hm=>?_,?_,hb.alloc _⟩
 ·have:=hin _ hm;have:=hk.size;omega
 ·exact (cell_of_row (w1.alloc (.cells #[.slice (some ⟨k2,0,none⟩) 1 1] ty)) w1.heap.size 0 _ ty (0,0) (heap_alloc_new w1 _)).trans rfl
theorem dfeed_one {X:Q} {Z:List (Option Nat)} {L:List (Option Nat)} (hp:p<4294967296) (hA:DQ w ⟨B,Z⟩ g p b L X) (xo:X.out= []) (k k2:Nat) (hc:w.cell? ⟨k,0,none⟩=some (.slice (some ⟨k2,0,none⟩) 1 1)) (hk:k<w.heap.size) (hkL:some k∉L)
 (hbt:Bts L w (some ⟨k2,0,none⟩) [ch]) (Z':List (Option Nat)) (hz:Clear w Z' L):Calls Tryz.prog 21 #[ptr g,.slice (some ⟨k,0,none⟩) 1 1] w fun r w'=>∃v L',r=.returned v∧DQ w' ⟨B,Z'⟩ g p b L' (X.byte p b ch).told∧Pg.Told L' ⟨B,Z'⟩ w' v (X.byte p b ch).out∧Step L L' w w':=by
 have hpa:Parts L w (some ⟨k,0,none⟩) [[ch]]:=⟨fun _=>⟨k,0,rfl,hk,hkL,fun j hj=>by
  obtain rfl:j=0:=by have:j<1:=hj;omega
  exact ⟨_,1,hc,hbt⟩⟩⟩
 have:=dfeed_any hp (hA.rezone hz) xo (some ⟨k,0,none⟩) 1 [[ch]] hpa (by simp) (by simp);exact this
theorem just_look (hj:f.Just p b) (h0:f.code=0) (ch:UInt8):((f.x.byte 0 b ch).err=0∧(f.y.byte p b ch).err=0∧Rec.all (f.x.byte 0 b ch).out (f.y.byte p b ch).out=true)∨((f.x.byte 0 b ch).err≠0∧(f.x.byte 0 b ch).out= []):=by
 rcases hj with ⟨-, -,t,h3,h4,h5,h6,h7,h8,s,h9⟩ | ⟨h1, -⟩
 ·have e1:f.x.byte 0 b ch=t.take 0 b ch:=by rw [h3];rfl
  have e2:f.y.byte p b ch=(t.wide p).take p b ch:=by rw [h6];rfl
  rw [e1,e2];cases ht:t.take 0 b ch with
  | live t2=>
    obtain ⟨k1, -⟩:=take_wide (p:=p) ht h4;rw [k1];exact .inl ⟨rfl,rfl,all_self _⟩
  | dead e o=>
    have hs:=take_sim h9 h7 h8 ch;rw [ht] at hs;obtain ⟨-,k2, -, -⟩:=hs;exact .inr ⟨k2,(strict_bad h4 ht).trans h5⟩
 ·exact absurd h0 h1
end
section code
set_option maxHeartbeats 8000000
set_option maxRecDepth 20000
attribute [local go_sem] Base.some_undef
variable {w:World} {B g g1 g2 p:Nat} {b:Bd} {L1 L2:List (Option Nat)} {f:F}
abbrev DHas (B g p:Nat) (b:Bd) (X:Q):World→List (Option Nat)→Prop:=fun w L=>∃Z,DQ w ⟨B,Z⟩ g p b L X
theorem told_err (x:Q):x.told.err=x.err:=by cases x<;>rfl
theorem byte_any (hp:p<4294967296) (h:DF w B g g1 g2 p b L1 L2 f) (hj:f.code=0→f.Just p b) (Z:List (Option Nat)) (hZ:Clear w Z (blksD g L1 L2)) (ch:UInt8) :
 Calls Tryz.prog 66 #[ptr g,.int .u8 (ch.toNat:Int)] w fun r w'=>∃v M1 M2,r=.returned v∧DF w' B g g1 g2 p b M1 M2 (f.byte p b ch).1∧Pg.Told (blksD g M1 M2) ⟨B,Z⟩ w' v (f.byte p b ch).2∧Step (blksD g L1 L2) (blksD g M1 M2) w w':=by
 by_cases h0:f.code=0
 ·have hjl:=just_look (hj h0) h0 ch;unfold F.byte;rw [if_pos h0];obtain ⟨X',hX⟩:∃X',f.x.byte 0 b ch=X':=⟨_,rfl⟩;obtain ⟨Y',hY⟩:∃Y',f.y.byte p b ch=Y':=⟨_,rfl⟩;rw [hX,hY] at hjl;have hdw:Below w.heap.size w (w.drewN 1):=Base.below_drewN (Below.refl w.heap.size w) 1;have HX:=Lib.hid hX;have HY:=Lib.hid hY;have HJ:=Lib.hid hjl;have HXO:=Lib.hid h.xo;have HYO:=Lib.hid h.yo
  have HTA:=Lib.hid (show Thing (DHas B g1 0 b f.x) (DHas B g1 0 b X'.told) from obj_dq (B:=⟨B,[]⟩))
  have HTC:=Lib.hid (show Thing (DHas B g2 p b f.y) (DHas B g2 p b Y'.told) from obj_dq (B:=⟨B,[]⟩))
  have HA0:=Lib.hid (show DHas B g1 0 b f.x w L1 from h.x);have HC0:=Lib.hid (show DHas B g2 p b f.y w L2 from h.y);have HD:=Lib.hid h.dis;have HN1:=Lib.hid h.n1;have HN2:=Lib.hid h.n2;have HZC:=Lib.hid hZ;have HGE:=Lib.hid h.ge;have hrow:=h.row;unfold dcells at hrow;rw [show vd f.code=1 from if_pos h0] at hrow
  have HF0:=Lib.hid (show Fix (L1++L2) w g [ptr g1,ptr g2,.int .i64 1,.int .i64 (f.code:Int),.bool f.parted] from ⟨⟨_,hrow⟩,fun hm=>(List.mem_append.1 hm).elim h.n1 h.n2⟩)
  have HF:=Lib.hid (HF0.out.below (Keeps.of_below hdw));have HROW:=Lib.hid h.row
  have HIN:=Lib.hid (show∀k,some k∈L1++L2→k<(w.drewN 1).heap.size from fun k hk=>h.in k (List.mem_cons_of_mem _ hk))
  have HGL:=Lib.hid (show g<(w.drewN 1).heap.size from Ln.row_lt h.row);have elk:f.look p b ch=(F.judge ⟨X'.told,Y'.told,f.code,f.parted⟩ X'.err Y'.err (Rec.all X'.out Y'.out),if Rec.all X'.out Y'.out=true then X'.out else []):=by unfold F.look;rw [hX,hY]
  have HFX:=Lib.hid (show Fits X'.out from hX ▸ byte_fits (by rw [h.xo];intro r hr;cases hr) (by obtain ⟨_,_,_,h1,_⟩:=h.x;exact h1) ch)
  have HFY:=Lib.hid (show Fits Y'.out from hY ▸ byte_fits (by rw [h.yo];intro r hr;cases hr) (by obtain ⟨_,_,_,h1,_⟩:=h.y;exact h1) ch)
  have HLX:=Lib.hid (show X'.out.length≤2 from hX ▸ (by have:=Q.byte_out (p:=0) (b:=b) f.x ch;rw [h.xo] at this;simpa using this));have HLY:=Lib.hid (show Y'.out.length≤2 from hY ▸ (by have:=Q.byte_out (p:=p) (b:=b) f.y ch;rw [h.yo] at this;simpa using this));rw [elk];obtain ⟨F',hF'⟩:∃F',F.judge ⟨X'.told,Y'.told,f.code,f.parted⟩ X'.err Y'.err (Rec.all X'.out Y'.out)=F':=⟨_,rfl⟩;obtain ⟨O',hO'⟩:∃O',(if Rec.all X'.out Y'.out=true then X'.out else [])=O':=⟨_,rfl⟩;rw [hF',hO'];have HFJ:=Lib.hid hF';have HOJ:=Lib.hid hO';clear hF' hO';have c2:w.cell? ⟨g,2,none⟩=some (.int .i64 1):=row_cellL hrow rfl;have H00:=Lib.hid h0;clear h hZ hj hX hY elk hdw hjl hrow h0;go_enter Tryz.func66,Tryz.ntmps66;go_upto_region 3 with fail
  clear c2;refine Each.region_two 18 [12,13,14,15,16,17,18,19,20,21,22,23,24,25,26,27,5,6]
   [Each.is (.pointer (some ⟨g,0,none⟩)),
     Each.is (.pointer (some ⟨g,0,none⟩)),
     Each.is (.pointer (some ⟨g,0,none⟩)),
     Each.is (.pointer (some ⟨g1,0,none⟩)),
     Each.is (.int .u8 (ch.toNat:Int)),
     Bt1 (L1++L2) ch,
     One2 (L1++L2) ch,
     ToldBy (DHas B g1 0 b X'.told) (DHas B g2 p b f.y) (DHas B g2 p b Y'.told) L2 (some g::Z) B X'.out,
     Each.is (.pointer (some ⟨g,0,none⟩)),
     Each.is (.pointer (some ⟨g,0,none⟩)),
     Each.is (.pointer (some ⟨g,1,none⟩)),
     Each.is (.pointer (some ⟨g2,0,none⟩)),
     Each.is (.int .u8 (ch.toNat:Int)),
     Bt1 (L1++L2) ch,
     One2 (L1++L2) ch,
     ToldBy (DHas B g2 p b Y'.told) (DHas B g1 0 b f.x) (DHas B g1 0 b X'.told) L1 (some g::Z) B Y'.out,
     ToldBy (DHas B g1 0 b X'.told) (DHas B g2 p b f.y) (DHas B g2 p b Y'.told) L2 (some g::Z) B X'.out,
     ToldBy (DHas B g2 p b Y'.told) (DHas B g1 0 b f.x) (DHas B g1 0 b X'.told) L1 (some g::Z) B Y'.out]
   7 15 HTA.out HTC.out HA0.out HC0.out HD.out (by kernel_rfl) (by kernel_rfl) (by kernel_rfl) (by kernel_rfl) (fun _ _ d _ _ h=>by cases d<;>exact h) (by rfl) (by rfl) (by rfl)
   ⟨(Each.LastsTwo.pure _ _),(Each.LastsTwo.pure _ _),(Each.LastsTwo.pure _ _),(Each.LastsTwo.pure _ _),(Each.LastsTwo.pure _ _),Bt1.lasts,One2.lasts,ToldBy.first HTA.out HTC.out (.inl rfl),(Each.LastsTwo.pure _ _),(Each.LastsTwo.pure _ _),(Each.LastsTwo.pure _ _),(Each.LastsTwo.pure _ _),(Each.LastsTwo.pure _ _),Bt1.lasts,One2.lasts,ToldBy.second HTA.out HTC.out (.inl rfl),ToldBy.first HTA.out HTC.out (.inr (by rfl)),ToldBy.second HTA.out HTC.out (.inr (by rfl)),trivial⟩ ?_ ?_
  ·refine ⟨?_,?_,?_,?_,?_,?_,?_,?_,?_,?_,?_,?_,?_,?_,?_,?_,?_,?_,trivial⟩
   ·refine Each.fine_two (by decide) (by decide) rfl (fun ev w1 hR hb hh=>?_);clear hh;have e0:=hR.old 0 rfl;simp only [qA,qT,qZ,qO] at e0;refine Each.Goes.same ?_;go_simp;try with_reducible rfl
   ·refine Each.fine_two (by decide) (by decide) rfl (fun ev w1 hR hb hh=>?_);have e12:(ev (.tmp 12)=.pointer (some ⟨g,0,none⟩)):=hh.at 0;clear hh;refine Each.Goes.same ?_;go_simp;try with_reducible rfl
   ·refine Each.fine_two (by decide) (by decide) rfl (fun ev w1 hR hb hh=>?_);have e13:(ev (.tmp 13)=.pointer (some ⟨g,0,none⟩)):=hh.at 0;clear hh;refine Each.Goes.same ?_;go_simp;try with_reducible rfl
   ·refine Each.fine_two (by decide) (by decide) rfl (fun ev w1 hR hb hh=>?_);have e14:(ev (.tmp 14)=.pointer (some ⟨g,0,none⟩)):=hh.at 0;clear hh;have q0:=(HF.out.below hb).c 0 _ rfl;refine Each.Goes.same ?_;go_simp;try with_reducible rfl
   ·refine Each.fine_two (by decide) (by decide) rfl (fun ev w1 hR hb hh=>?_);clear hh;have e1:=hR.old 1 rfl;simp only [qA,qT,qS,qZ,qO] at e1;refine Each.Goes.same ?_;go_simp;try with_reducible rfl
   ·refine Each.fine_two (by decide) (by decide) rfl (fun ev w1 hR hb hh=>?_);have e16:(ev (.tmp 16)=.int .u8 (ch.toNat:Int)):=hh.at 0;clear hh
    exact Each.Goes.value (.slice (some ⟨w1.heap.size,0,none⟩) 1 1) (w1.alloc (.cells #[.int .u8 (ch.toNat:Int)] 5)) (by go_simp) ((Below.refl _ _).alloc (Nat.le_refl _) _) (Bt1.made HIN.out hb ch _)
   ·refine Each.fine_two (by decide) (by decide) rfl (fun ev w1 hR hb hh=>?_);have e17:((Bt1 (L1++L2) ch) (ev (.tmp 17)) w1):=hh.at 0;clear hh;obtain ⟨k2,e17,hbt⟩:=e17
    exact Each.Goes.value (.slice (some ⟨w1.heap.size,0,none⟩) 1 1) (w1.alloc (.cells #[.slice (some ⟨k2,0,none⟩) 1 1] 34)) (by go_simp) ((Below.refl _ _).alloc (Nat.le_refl _) _) (One2.made HIN.out hb hbt _)
   ·refine Each.fine_first rfl (fun ev w1 M2 hR hb hA hC hd hh=>?_);have e15:(ev (.tmp 15)=.pointer (some ⟨g1,0,none⟩)):=hh.at 0;have e18:((One2 (L1++L2) ch) (ev (.tmp 18)) w1):=hh.at 1;clear hh;have ef:=hR.func;obtain ⟨k,k2,e18,hkl,hkn,hkc,hbt0⟩:=e18;obtain ⟨Z1,hA⟩:=hA;have hsz:=hb.size;have hi2:In w1 L2:=fun k hk=>Nat.lt_of_lt_of_le (HIN.out k (List.mem_append_right _ hk)) hsz
    have hcl:Clear w1 (L2++(M2++(some g::Z))) L1:=clear_app (clear_dis hi2 HD.out) (clear_app (clear_dis (HTC.out.in hC) hd) (clear_cons (Nat.lt_of_lt_of_le HGL.out hsz) HN1.out ⟨fun k hk=>Nat.lt_of_lt_of_le (HZC.out.inz k hk) hsz,fun k hk=>HZC.out.off k (List.mem_cons_of_mem _ (List.mem_append_left _ hk))⟩));have hbt:Bts L1 w1 (some ⟨k2,0,none⟩) [ch]:=bts_sub hbt0 fun k hk=>List.mem_append_left _ hk
    refine Each.GoesR.enter 21 #[ptr g1,.slice (some ⟨k,0,none⟩) 1 1] (by go_simp) ((dfeed_one (p:=0) (by decide) hA HXO.out k k2 hkc hkl (fun hm=>hkn (List.mem_append_left _ hm)) hbt _ hcl).mono ?_);rintro r w2 ⟨v,N1,rfl,h1,h2,h3⟩;rw [HX.out] at h1 h2;exact ⟨v,rfl,⟨N1,⟨_,h1⟩,h3⟩,N1,M2,⟨_,h1⟩,HTC.out.now hC h3.keeps hd.symm,(HD.out.symm.of hi2 h3.of).symm,h2⟩
   ·refine Each.fine_two (by decide) (by decide) rfl (fun ev w1 hR hb hh=>?_);clear hh;have e0:=hR.old 0 rfl;simp only [qA,qT,qZ,qO] at e0;refine Each.Goes.same ?_;go_simp;try with_reducible rfl
   ·refine Each.fine_two (by decide) (by decide) rfl (fun ev w1 hR hb hh=>?_);have e20:(ev (.tmp 20)=.pointer (some ⟨g,0,none⟩)):=hh.at 0;clear hh;refine Each.Goes.same ?_;go_simp;try with_reducible rfl
   ·refine Each.fine_two (by decide) (by decide) rfl (fun ev w1 hR hb hh=>?_);have e21:(ev (.tmp 21)=.pointer (some ⟨g,0,none⟩)):=hh.at 0;clear hh;refine Each.Goes.same ?_;go_simp;try with_reducible rfl
   ·refine Each.fine_two (by decide) (by decide) rfl (fun ev w1 hR hb hh=>?_);have e22:(ev (.tmp 22)=.pointer (some ⟨g,1,none⟩)):=hh.at 0;clear hh;have q1:=(HF.out.below hb).c 1 _ rfl;refine Each.Goes.same ?_;go_simp;try with_reducible rfl
   ·refine Each.fine_two (by decide) (by decide) rfl (fun ev w1 hR hb hh=>?_);clear hh;have e1:=hR.old 1 rfl;simp only [qA,qT,qS,qZ,qO] at e1;refine Each.Goes.same ?_;go_simp;try with_reducible rfl
   ·refine Each.fine_two (by decide) (by decide) rfl (fun ev w1 hR hb hh=>?_);have e24:(ev (.tmp 24)=.int .u8 (ch.toNat:Int)):=hh.at 0;clear hh
    exact Each.Goes.value (.slice (some ⟨w1.heap.size,0,none⟩) 1 1) (w1.alloc (.cells #[.int .u8 (ch.toNat:Int)] 5)) (by go_simp) ((Below.refl _ _).alloc (Nat.le_refl _) _) (Bt1.made HIN.out hb ch _)
   ·refine Each.fine_two (by decide) (by decide) rfl (fun ev w1 hR hb hh=>?_);have e25:((Bt1 (L1++L2) ch) (ev (.tmp 25)) w1):=hh.at 0;clear hh;obtain ⟨k2,e25,hbt⟩:=e25
    exact Each.Goes.value (.slice (some ⟨w1.heap.size,0,none⟩) 1 1) (w1.alloc (.cells #[.slice (some ⟨k2,0,none⟩) 1 1] 34)) (by go_simp) ((Below.refl _ _).alloc (Nat.le_refl _) _) (One2.made HIN.out hb hbt _)
   ·refine Each.fine_second (by decide) rfl (fun ev w1 M1 hR hb hC hA hd hh=>?_);have e23:(ev (.tmp 23)=.pointer (some ⟨g2,0,none⟩)):=hh.at 0;have e26:((One2 (L1++L2) ch) (ev (.tmp 26)) w1):=hh.at 1;clear hh;have ef:=hR.func;obtain ⟨k,k2,e26,hkl,hkn,hkc,hbt0⟩:=e26;obtain ⟨Z1,hC⟩:=hC;have hsz:=hb.size;have hi2:In w1 L1:=fun k hk=>Nat.lt_of_lt_of_le (HIN.out k (List.mem_append_left _ hk)) hsz
    have hcl:Clear w1 (L1++(M1++(some g::Z))) L2:=clear_app (clear_dis hi2 HD.out.symm) (clear_app (clear_dis (HTA.out.in hA) hd) (clear_cons (Nat.lt_of_lt_of_le HGL.out hsz) HN2.out ⟨fun k hk=>Nat.lt_of_lt_of_le (HZC.out.inz k hk) hsz,fun k hk=>HZC.out.off k (List.mem_cons_of_mem _ (List.mem_append_right _ hk))⟩));have hbt:Bts L2 w1 (some ⟨k2,0,none⟩) [ch]:=bts_sub hbt0 fun k hk=>List.mem_append_right _ hk
    refine Each.GoesR.enter 21 #[ptr g2,.slice (some ⟨k,0,none⟩) 1 1] (by go_simp) ((dfeed_one hp hC HYO.out k k2 hkc hkl (fun hm=>hkn (List.mem_append_right _ hm)) hbt _ hcl).mono ?_);rintro r w2 ⟨v,N1,rfl,h1,h2,h3⟩;rw [HY.out] at h1 h2;exact ⟨v,rfl,⟨N1,⟨_,h1⟩,h3⟩,N1,M1,⟨_,h1⟩,HTA.out.now hA h3.keeps hd.symm,(HD.out.of hi2 h3.of).symm,h2⟩
   ·refine Each.fine_two (by decide) (by decide) rfl (fun ev w1 hR hb hh=>?_);have e19:((ToldBy (DHas B g1 0 b X'.told) (DHas B g2 p b f.y) (DHas B g2 p b Y'.told) L2 (some g::Z) B X'.out) (ev (.tmp 19)) w1):=hh.at 0;clear hh;exact Each.Goes.value (ev (.tmp 19)) w1 (by go_simp) (Below.refl _ _) e19
   ·refine Each.fine_two (by decide) (by decide) rfl (fun ev w1 hR hb hh=>?_);have e27:((ToldBy (DHas B g2 p b Y'.told) (DHas B g1 0 b f.x) (DHas B g1 0 b X'.told) L1 (some g::Z) B Y'.out) (ev (.tmp 27)) w1):=hh.at 0;clear hh;exact Each.Goes.value (ev (.tmp 27)) w1 (by go_simp) (Below.refl _ _) e27
  intro ga w2 M1 M2 hA hC hd hof1 hof2 hb hf;have z5:(ToldBy (DHas B g1 0 b X'.told) (DHas B g2 p b f.y) (DHas B g2 p b Y'.told) L2 (some g::Z) B X'.out) (ga 5) w2:=hf.at 16;have z6:(ToldBy (DHas B g2 p b Y'.told) (DHas B g1 0 b f.x) (DHas B g1 0 b X'.told) L1 (some g::Z) B Y'.out) (ga 6) w2:=hf.at 17;clear hf;obtain ⟨N1,K2,hA5,hC5,hd5,ht5⟩:=z5;obtain ⟨N2,K1,hA6,hC6,hd6,ht6⟩:=z6;have u1:N1=M1:=HTA.out.uniq (.inr hA5) hA;have u2:N2=M2:=HTC.out.uniq (.inr hA6) hC;have u3:K2=M2:=HTC.out.uniq hC5 hC;have u4:K1=M1:=HTA.out.uniq hC6 hA;subst u1 u2 u3 u4;obtain ⟨a5,c5,e5,hr5⟩:=told_recs ht5;obtain ⟨a6,c6,e6,hr6⟩:=told_recs ht6;have hk2:Keeps (blksD g L1 L2) w w2:=hb.mono fun k hk=>List.mem_cons_of_mem _ hk;have hn1:some g∉K1:=fun hm=>by
   rcases hof1 g hm with e | e
   ·exact HN1.out e
   ·exact absurd HGL.out (Nat.not_lt.2 e)
  have hn2:some g∉K2:=fun hm=>by
   rcases hof2 g hm with e | e
   ·exact HN2.out e
   ·exact absurd HGL.out (Nat.not_lt.2 e)
  have hof:Of w (blksD g L1 L2) (blksD g K1 K2):=fun k hk=>by
   simp only [List.mem_cons,List.mem_append] at hk ⊢;rcases hk with hk | hk | hk
   ·exact .inl (.inl hk)
   ·exact (hof1 k hk).imp (fun e=>.inr (.inl e)) id
   ·exact (hof2 k hk).imp (fun e=>.inr (.inr e)) id
  have HS2:=Lib.hid (show Step (blksD g L1 L2) (blksD g K1 K2) w w2 from ⟨hk2,hof⟩)
  have HFA:=Lib.hid (show DF w2 B g g1 g2 p b K1 K2 ⟨X'.told,Y'.told,f.code,f.parted⟩ from ⟨hb.row HROW.out HF0.out.off,hA5,hA6,hd,hn1,hn2,HGE.out,Pg.told_out _,Pg.told_out _⟩);have HT5:=Lib.hid ht5;have HR5:=Lib.hid hr5;have HR6:=Lib.hid hr6;clear hA hC hd hof1 hof2 hb hA5 hC5 hd5 hA6 hC6 hd6 ht6 hr5 hr6 hn1 hn2 hof hk2 ht5;simp only [Each.putg,Act.put,qI,qY,qX];rw [e5,e6];obtain ⟨n5,hn5⟩:∃n,X'.out.length=n:=⟨_,rfl⟩;obtain ⟨n6,hn6⟩:∃n,Y'.out.length=n:=⟨_,rfl⟩;have c0:w2.cell? ⟨g,0,none⟩=some (ptr g1):=HFA.out.c.1;have c1:w2.cell? ⟨g,1,none⟩=some (ptr g2):=HFA.out.c.2.1;have q1:w2.cell? ⟨g1,25,none⟩=some (.int .i64 (X'.err:Int)):=by obtain ⟨_,hq⟩:=HFA.out.x;rw [←told_err X'];exact hq.e
  have q2:w2.cell? ⟨g2,25,none⟩=some (.int .i64 (Y'.err:Int)):=by obtain ⟨_,hq⟩:=HFA.out.y;rw [←told_err Y'];exact hq.e
  rcases HJ.out with ⟨hx0,hy0,hal⟩ | ⟨hx0,hxo⟩
  ·have HALL:=Lib.hid (show Calls Tryz.prog 22 #[.slice a5 n5 c5,.slice a6 n6 c6] w2 fun e w'=>e=.returned (.bool true)∧Below w2.heap.size w2 w' from by
    rw [←hn5,←hn6,←hal];exact Rec.rall_any a5 X'.out.length c5 X'.out a6 Y'.out.length c6 Y'.out w2 HR5.out HR6.out (by have:=HLX.out;omega) (by have:=HLY.out;omega) HFX.out HFY.out)
   rw [hn5,hn6];rw [e5,hn5] at HT5;rw [hx0] at q1;rw [hy0] at q2;have ej:F.judge ⟨X'.told,Y'.told,f.code,f.parted⟩ X'.err Y'.err (Rec.all X'.out Y'.out)=⟨X'.told,Y'.told,f.code,f.parted⟩:=by rw [hx0,hy0,hal];rfl
   have eo:(if Rec.all X'.out Y'.out=true then X'.out else [])=X'.out:=by rw [hal,if_pos rfl]
   have HFE:=Lib.hid (HFJ.out.symm.trans ej);have HOE:=Lib.hid (HOJ.out.symm.trans eo);clear ej eo hal HFJ HOJ hx0 hy0 hn5 hn6 e5 e6 HR5 HR6
   go_wp2_with (go_at_call 22;with_reducible refine HALL.out.mono ?_;rintro r w3 ⟨rfl,hb3⟩;have HB3:=Lib.hid hb3;clear hb3);go_ret;rw [HFE.out,HOE.out]
   exact ⟨_,K1,K2,rfl,HFA.out.keeps (Keeps.of_below HB3.out:Keeps [] w2 w3) (fun _ _ hm=>by cases hm),((told_widen (L':=blksD g K1 K2) (HT5.out.keeps (Keeps.of_below HB3.out:Keeps [] w2 w3) (fun _ hm=>by cases hm)) (fun k hk=>by
    simp only [List.mem_cons,List.mem_append] at hk ⊢;rcases hk with hk | hk | hk
    ·exact .inr (.inr (.inr (.inl hk)))
    ·exact .inl hk
    ·exact .inr (.inr (.inl hk)))).rezone (Z:=Z) fun k hk=>.inl (by simp [hk])),HS2.out.trans (Step.of_below HB3.out)⟩
  ·have n1:((X'.err:Int) != 0)=true:=by
    rw [bne_iff_ne];omega
   have n1':¬(X'.err:Int)=0:=by omega
   have e2:(Y'.err==0)=((Y'.err:Int)==0):=by rw [Bool.eq_iff_iff,beq_iff_eq,beq_iff_eq];omega
   have ej:F.judge ⟨X'.told,Y'.told,f.code,f.parted⟩ X'.err Y'.err (Rec.all X'.out Y'.out)=⟨X'.told,Y'.told,X'.err,((Y'.err:Int)==0)⟩:=by unfold F.judge;rw [if_pos hx0,e2]
   have eo:(if Rec.all X'.out Y'.out=true then X'.out else [])= []:=by rw [hxo];split<;>rfl
   have HFE:=Lib.hid (HFJ.out.symm.trans ej);have HOE:=Lib.hid (HOJ.out.symm.trans eo);clear HFJ HOJ;have HX0:=Lib.hid hx0;have HR:=Lib.hid HFA.out.row;have d2:=HFA.out.c.2.2.1;have d3:=HFA.out.c.2.2.2.1;have d4:=HFA.out.c.2.2.2.2;have m2:=Ln.row_frozen HR.out 2;have m3:=Ln.row_frozen HR.out 3;have m4:=Ln.row_frozen HR.out 4;obtain ⟨xe,hxe⟩:∃xe:Int,(X'.err:Int)=xe:=⟨_,rfl⟩;obtain ⟨ye,hye⟩:∃ye:Int,(Y'.err:Int)=ye:=⟨_,rfl⟩;have HXE:=Lib.hid hxe;have HYE:=Lib.hid hye;rw [hye] at HFE;rw [hxe] at q1 n1 n1';rw [hye] at q2;clear ej eo hx0 hxo hn5 hn6 e5 e6 HR5 HR6 e2 HT5 hxe hye;go_upto_region 6 with fail
   go_region;all_goals
    go_wp2;go_ret;have hrow5:((((w2.setCell ⟨g,2,none⟩ (.int .i64 2)).setCell ⟨g,3,none⟩ (.int .i64 xe)).setCell ⟨g,4,none⟩ (.bool (ye==0))).drew).heap[g]?=some (.cells (dcells g1 g2 X'.err (ye==0)).toArray 85 (0,0)):=by
     unfold dcells;rw [show vd X'.err=2 from if_neg HX0.out,HXE.out]
     exact row_setL (row_setL (row_setL HR.out 2 (.int .i64 2)) 3 (.int .i64 xe)) 4 (.bool (ye==0))
    have hk5:Keeps [some g] w2 ((((w2.setCell ⟨g,2,none⟩ (.int .i64 2)).setCell ⟨g,3,none⟩ (.int .i64 xe)).setCell ⟨g,4,none⟩ (.bool (ye==0))).drew):=(((Keeps.set g 2 (.int .i64 2) (by simp)).trans (Keeps.set g 3 (.int .i64 xe) (by simp)) Of.refl).trans (Keeps.set g 4 (.bool (ye==0)) (by simp)) Of.refl).trans ((Keeps.of_below (Below.refl _ _).drew:Keeps [] _ _).mono (fun k hk=>by cases hk)) Of.refl;have hd5:Dis (K1++K2) [some g]:=fun k hk hm=>by
     have e:k=g:=by simpa using hm
     rw [e] at hk;exact (List.mem_append.1 hk).elim HFA.out.n1 HFA.out.n2
    rw [HFE.out,HOE.out]
    exact ⟨_,rfl,K1,K2,⟨hrow5,HFA.out.x.imp fun _ h1=>h1.keeps hk5 fun k hk=>hd5 k (List.mem_append_left _ hk),HFA.out.y.imp fun _ h1=>h1.keeps hk5 fun k hk=>hd5 k (List.mem_append_right _ hk),HFA.out.dis,HFA.out.n1,HFA.out.n2,HGE.out,Pg.told_out _,Pg.told_out _⟩,told_nil _ _ _,HS2.out.trans ⟨hk5.mono (fun k hk=>by
     have e:k=g:=by simpa using hk
     rw [e];simp),Of.refl⟩⟩
 ·have c2:w.cell? ⟨g,2,none⟩=some (.int .i64 2):=by have:=h.c.2.2.1;rw [show vd f.code=2 from if_neg h0] at this;exact this
  unfold F.byte;rw [if_neg h0];have H:=Lib.hid h;clear h hj hZ;go_enter Tryz.func66,Tryz.ntmps66;go_wp2;go_ret;exact ⟨_,L1,L2,rfl,H.out,told_nil _ _ _,Step.refl⟩
end code
end Go.Proofs.YtimoakmcelocfaaGreat.DF
namespace Go.Proofs.YtimoakmcelocfaaGreat.DF
open Go.RowKit Base Txt Mem Par Pg Each Flt
section
variable {w w':World} {p:Nat} {b:Bd} {f:F}
theorem just_on (hj:f.code=0→f.Just p b) (l:List UInt8):(F.feed p b f l).1.code=0→(F.feed p b f l).1.Just p b:=by
 intro h;by_cases h0:f.code=0
 ·exact just_feed l (hj h0)
 ·rw [F.feed_blocked p b f h0] at h;exact absurd h h0
theorem parts_step {L L':List (Option Nat)} {a:Option Addr} {ls:List (List UInt8)} (h:Parts L w a ls) (hk:Keeps L w w') (ho:Of w L L'):Parts L' w' a ls:=by
 refine ⟨fun h0=>?_⟩;obtain ⟨bk,off,e,hlt,hn,hc⟩:=h.cells h0;refine ⟨bk,off,e,Nat.lt_of_lt_of_le hlt hk.size,fun hm=>?_,fun k hkl=>?_⟩
 ·rcases ho bk hm with e | e
  ·exact hn e
  ·omega
 ·obtain ⟨ak,ck,c1,c2⟩:=hc k hkl;exact ⟨ak,ck,(hk.cell (p:=⟨bk,off+k,none⟩) hlt hn).trans c1,c2.step ⟨hk,ho⟩⟩
end
section code
set_option maxHeartbeats 4000000
set_option maxRecDepth 20000
attribute [local go_sem] Base.some_undef
variable {w:World} {B g g1 g2 p:Nat} {b:Bd} {L1 L2:List (Option Nat)} {f:F}
theorem feed_any (hp:p<4294967296) (h:DF w B g g1 g2 p b L1 L2 f) (hj:f.code=0→f.Just p b) (Z:List (Option Nat)) (hZ:Clear w Z (blksD g L1 L2)) (a:Option Addr) (ca:Nat) (ls:List (List UInt8)) (hl:Parts (blksD g L1 L2) w a ls) (hn:ls.length≤1000000) (hlen:ls.flatten.length≤400000000) :
 Calls Tryz.prog 49 #[ptr g,.slice a ls.length ca] w fun r w'=>∃V,r=.returned V∧∃M1 M2,DS w B g g1 g2 p b Z L1 L2 (F.feed p b f ls.flatten).1 V (F.feed p b f ls.flatten).2 M1 M2 w':=by
 have HL:=Lib.hid hl;have HOU:=Lib.hid hlen;have HXO:=Lib.hid h.xo;have HJU:=Lib.hid hj
 have HS0:=Lib.hid (DS.start h hZ);obtain ⟨R,hR⟩:∃R,F.feed p b f ls.flatten=R:=⟨_,rfl⟩;rw [hR];have HR:=Lib.hid hR;obtain ⟨n,hnn⟩:∃n,ls.length=n:=⟨_,rfl⟩;have HN:=Lib.hid hnn;have hn1:n≤1000000:=by omega
 rw [hnn];clear h hl hlen hn hnn hZ hR hj;go_enter Tryz.func49,Tryz.ntmps49;go_upto_region 3 with fail
 go_loopw [5,6] (fun V i wr=>∃k:Nat,k≤n∧i=.int .i64 k∧Hid (∃N1 N2,DS w B g g1 g2 p b Z L1 L2 (F.feed p b f (ls.take k).flatten).1 V (F.feed p b f (ls.take k).flatten).2 N1 N2 wr)) (fun _ i _=>n-(intOf i).toNat)
 case atStart=>exact ⟨0,Nat.zero_le _,rfl,Lib.hid ⟨L1,L2,HS0.out⟩⟩
 case round=>
  obtain ⟨k,hk,rfl,hR⟩:=hrel;rcases Nat.lt_or_ge k n with hlt | hge
  ·obtain ⟨N1,N2,hA⟩:=hR.out
   have hPP:=Lib.hid (parts_step HL.out hA.keeps hA.of);have hkl:k<ls.length:=by rw [HN.out];exact hlt
   obtain ⟨bk,off,ea,hbk,hnb,hc⟩:=hPP.out.cells (by rw [HN.out];omega);obtain ⟨ak,ck,hcell,hB⟩:=hc k hkl;have htk:(ls.take (k+1)).flatten=(ls.take k).flatten++ls[k]:=by rw [List.take_succ_eq_append_getElem hkl,List.flatten_append];simp
   have hsum:(ls.take (k+1)).flatten.length≤ls.flatten.length:=by have:=congrArg List.length (congrArg List.flatten (List.take_append_drop (k+1) ls));rw [List.flatten_append,List.length_append] at this;omega
   rw [htk,List.length_append] at hsum;have t1:(k:Int)<(n:Int):=by omega
   have HTK:=Lib.hid htk;obtain ⟨pl,hpl⟩:∃pl,ls[k]=pl:=⟨_,rfl⟩;rw [hpl] at hcell hB hsum HTK;obtain ⟨m,hm⟩:∃m,pl.length=m:=⟨_,rfl⟩;rw [hm] at hcell hsum;have HM:=Lib.hid hm;obtain ⟨q,hq⟩:∃q,(ls.take k).flatten=q:=⟨_,rfl⟩;rw [hq] at hA hsum HTK;have hsum2:q.length+m≤400000000:=by have:=HOU.out;omega
   have HSUM:=Lib.hid hsum2;have hm9:m≤400000000:=by omega
   have HA:=Lib.hid hA;have HB:=Lib.hid hB
   have HC:Hid (∀(wq:World) (N1' N2':List (Option Nat)) (f':F) (V':Value) (o':List Rec.R),DS w B g g1 g2 p b Z L1 L2 f' V' o' N1' N2' wq→wq.cell? ⟨bk,off+k,none⟩=some (.slice ak m ck)∧Bts (blksD g N1' N2') wq ak pl):=Lib.hid (by
    intro wq N1' N2' f' V' o' hq';have h9:=parts_step HL.out hq'.keeps hq'.of
    obtain ⟨bk9,off9,ea9,hbk9,hnb9,hc9⟩:=h9.cells (by rw [HN.out];omega);rw [ea] at ea9;cases ea9;obtain ⟨ak9,ck9,hcell9,hB9⟩:=hc9 k hkl
    obtain ⟨bk0,off0,ea0,hbk0,hnb0,hc0⟩:=HL.out.cells (by rw [HN.out];omega);rw [ea] at ea0;cases ea0;obtain ⟨ak0,ck0,hcell0, -⟩:=hc0 k hkl;have e1:=(hA.keeps.cell (p:=⟨bk,off+k,none⟩) hbk0 hnb0).trans hcell0;have e2:=(hq'.keeps.cell (p:=⟨bk,off+k,none⟩) hbk0 hnb0).trans hcell0;rw [hcell] at e1;have e3:=hcell9.symm.trans e2;rw [hpl] at e1 e2 e3 hcell9 hB9;rw [hm] at e1 e2 e3 hcell9;simp only [Option.some.injEq,Value.slice.injEq,true_and] at e1 e3;obtain ⟨rfl,rfl⟩:=e1;obtain ⟨rfl,rfl⟩:=e3;exact ⟨e2,hB9⟩)
   subst ea;clear hA hB hq hsum hsum2 htk hpl hm hc hR hnb hbk hcell hPP;go_upto_region 6 with fail
   obtain ⟨wA,hwA⟩:∃x,x=wr:=⟨_,rfl⟩;subst hwA
   go_loopw [5,7] (fun V j wq=>∃i:Nat,i≤m∧j=.int .i64 i∧Hid (∃N1 N2,DS w B g g1 g2 p b Z L1 L2 (F.feed p b f (q++pl.take i)).1 V (F.feed p b f (q++pl.take i)).2 N1 N2 wq)) (fun _ j _=>m-(intOf j).toNat)
   case atStart=>exact ⟨0,Nat.zero_le _,rfl,Lib.hid ⟨N1,N2,by rw [List.take_zero,List.append_nil];exact HA.out⟩⟩
   case round=>
    obtain ⟨i,hi,rfl,hR2⟩:=hrel;obtain ⟨V,hV0⟩:∃x,x=u5:=⟨_,rfl⟩;subst hV0;rcases Nat.lt_or_ge i m with hilt | hige
    ·obtain ⟨P1,P2,hA2⟩:=hR2.out;have hil:i<pl.length:=by rw [HM.out];exact hilt
     have hti:pl.take (i+1)=pl.take i ++ [pl[i]]:=List.take_succ_eq_append_getElem hil;obtain ⟨f2,hf2⟩:∃f2,(F.feed p b f (q++pl.take i)).1=f2:=⟨_,rfl⟩;obtain ⟨o2,ho2⟩:∃o2,(F.feed p b f (q++pl.take i)).2=o2:=⟨_,rfl⟩;have hol:=(feed_len p b (q++pl.take i) f HXO.out).1;rw [ho2,List.length_append,List.length_take] at hol;have hol2:o2.length≤800000002:=by have:=HSUM.out;omega
     rw [hf2,ho2] at hA2;obtain ⟨hcell,hbq⟩:=HC.out _ _ _ _ _ _ hA2
     obtain ⟨zb,zo,rfl,hzb,hz⟩:=hbq.nums.2 (by omega);obtain ⟨c,hc⟩:∃c,pl[i]=c:=⟨_,rfl⟩;have hz1:=hz i hil;rw [List.getElem?_map,List.getElem?_eq_getElem hil,hc] at hz1;have hz2:wr.cell? ⟨zb,zo+i,none⟩=some (.int .u8 (c.toNat:Int)):=hz1;rw [hc] at hti
     have hj2:f2.code=0→f2.Just p b:=hf2 ▸ just_on HJU.out (q++pl.take i)
     have HLK:=Lib.hid (byte_any hp hA2.fat hj2 (V.ownBlock::Z) hA2.off c);have hfs:F.feed p b f (q++pl.take (i+1))=((f2.byte p b c).1,o2++(f2.byte p b c).2):=by rw [hti,←List.append_assoc,F.feed_snoc,hf2,ho2]
     have HFS:=Lib.hid hfs;have hl2:(f2.byte p b c).2.length≤2:=by
      unfold F.byte;split
      ·exact look_len hA2.fat.xo c
      ·exact Nat.zero_le _
     have HOL:=Lib.hid (show o2.length+(f2.byte p b c).2.length≤1000000000 by omega);have HA2:=Lib.hid hA2;have t2:(i:Int)<(m:Int):=by omega
     clear hA2 hzb hz hz1 hti hf2 ho2 hol hol2 hbq hfs hl2 hR2 hc hj2 hil
     go_wp2_with (first
      |(at_builtin;(refine App.wpList_append_run rfl _ _ 51 rfl V U rfl rfl V' w6 hrun ?_))
      |(go_at_call 66;with_reducible refine HLK.out.mono ?_;rintro r w5 ⟨U,M1,M2,rfl,hf5,ht5,hs5⟩
        obtain ⟨V',w6,hrun,hS6⟩:=HA2.out.next hf5 ht5 hs5 HOL.out;have HS6:=Lib.hid hS6;clear hf5 ht5 hs5 hS6))
     go_roundw
     case rel=>exact ⟨i+1,by omega,by go_num,Lib.hid ⟨M1,M2,by rw [HFS.out];exact HS6.out⟩⟩
     case measure=>simp [intOf];omega
    ·obtain rfl:i=m:=by omega
     have t2:¬(i:Int)<(i:Int):=by omega
     obtain ⟨P1,P2,hA2⟩:=hR2.out
     have e:pl.take i=pl:=List.take_of_length_le (by rw [HM.out];exact Nat.le_refl _);rw [e,←HTK.out] at hA2;obtain ⟨hcell, -⟩:=HC.out _ _ _ _ _ _ hA2;have HA2:=Lib.hid hA2;clear hA2 e hR2;go_wp2_with fail;go_roundw
     case rel=>exact ⟨k+1,by omega,by go_num,Lib.hid ⟨P1,P2,HA2.out⟩⟩
     case measure=>simp [intOf];omega
  ·obtain rfl:k=n:=by omega
   have t1:¬(k:Int)<(k:Int):=by omega
   obtain ⟨N1,N2,hA⟩:=hR.out
   have e:ls.take k=ls:=List.take_of_length_le (by rw [HN.out];exact Nat.le_refl _);rw [e,HR.out] at hA;have HA:=Lib.hid hA;clear hA hR e;go_wp2_with fail;go_ret;exact ⟨_,rfl,N1,N2,HA.out⟩
end code
end Go.Proofs.YtimoakmcelocfaaGreat.DF
namespace Go.Proofs.YtimoakmcelocfaaGreat.DF
open Go.RowKit Base Txt Mem Par Pg Each Flt
def parted (p:Nat) (b:Bd) (l:List UInt8):Bool:=(F.feed p b (F.new p b) l).1.parted
def lastB (p:Nat) (b:Bd) (l:List UInt8):Bool:=!l.isEmpty&&(parted p b l && !parted p b (l.take (l.length-1)))
section
variable {w w':World} {B g g1 g2 p:Nat} {b:Bd} {L1 L2:List (Option Nat)} {f:F}
theorem just_start (h:(F.new p b).code=0):(F.new p b).Just p b:=by
 have h1:(Q.new p b).err=0:=h;unfold Q.new at h1;split at h1
 ·rename_i h2;rw [Bool.and_eq_true,decide_eq_true_eq] at h2;exact just_new h2.2 h2.1
 ·cases h1
theorem DF.low (h:DF w B g g1 g2 p b L1 L2 f):∀k,some k∈blksD g L1 L2→B≤k:=by
 intro k hk;obtain ⟨_,hx⟩:=h.x;obtain ⟨_,hy⟩:=h.y;simp only [List.mem_cons,List.mem_append,Option.some.injEq] at hk;rcases hk with rfl | hk | hk
 ·exact h.ge
 ·exact hx.low k hk
 ·exact hy.low k hk
end
section code
set_option maxHeartbeats 8000000
set_option maxRecDepth 20000
attribute [local go_sem] Base.some_undef
variable {w:World} {p:Nat} {b:Bd}
theorem parts_any (hp:p<4294967296) (a:Option Addr) (c:Nat) (l:List UInt8) (hl:Bts [] w a l) (hn:l.length≤400000000) :
 Calls Tryz.prog 34 #[.slice a l.length c,.int .u32 (p:Int),.agg #[.int .i64 b.x0,.int .i64 b.x1,.int .i64 b.x2,.int .i64 b.x3,.int .i64 b.x4,.int .i64 b.x5,.int .i64 b.x6,.int .i64 b.x7,.bool b.ch,.bool b.od]] w fun r w'=>r=.returned (.bool (parted p b l))∧Below w.heap.size w w':=by
 have HN:=Lib.hid (fun w=>new_any (p:=p) (b:=b) hp w)
 have HB0:=Lib.hid (((Below.refl _ _).alloc (Nat.le_refl _) (.cells #[.int .i64 b.x0,.int .i64 b.x1,.int .i64 b.x2,.int .i64 b.x3,.int .i64 b.x4,.int .i64 b.x5,.int .i64 b.x6,.int .i64 b.x7,.bool b.ch,.bool b.od] 24)):Below w.heap.size w _)
 have HZ0:=Lib.hid (Rec.Bk.new w w.heap.size rfl 24 [.int .i64 b.x0,.int .i64 b.x1,.int .i64 b.x2,.int .i64 b.x3,.int .i64 b.x4,.int .i64 b.x5,.int .i64 b.x6,.int .i64 b.x7,.bool b.ch,.bool b.od]);have HL:=Lib.hid hl;have HNN:=Lib.hid hn;have HP:=Lib.hid hp;obtain ⟨R,hR⟩:∃R,parted p b l=R:=⟨_,rfl⟩;rw [hR];have HR:=Lib.hid hR;obtain ⟨n,hnn⟩:∃n,l.length=n:=⟨_,rfl⟩;rw [hnn];have HLN:=Lib.hid hnn;clear hl hR hnn hn;have y0:=HZ0.out.c 0 _ rfl;have y1:=HZ0.out.c 1 _ rfl;have y2:=HZ0.out.c 2 _ rfl;have y3:=HZ0.out.c 3 _ rfl;have y4:=HZ0.out.c 4 _ rfl;have y5:=HZ0.out.c 5 _ rfl;have y6:=HZ0.out.c 6 _ rfl;have y7:=HZ0.out.c 7 _ rfl;have y8:=HZ0.out.c 8 _ rfl;have y9:=HZ0.out.c 9 _ rfl;go_enter Tryz.func34,Tryz.ntmps34;go_upto_region 1 with fail
 generalize w.alloc (.cells #[.int .i64 b.x0,.int .i64 b.x1,.int .i64 b.x2,.int .i64 b.x3,.int .i64 b.x4,.int .i64 b.x5,.int .i64 b.x6,.int .i64 b.x7,.bool b.ch,.bool b.od] 24)=W0 at *;generalize hgB:w.heap.size=gB at *;have HGB:=Lib.hid hgB;clear hgB
 go_upto_region 2 with (go_at_call 48;with_reducible refine (HN.out _).mono ?_;rintro r w1 ⟨g,g1,g2,L1,L2,rfl,hd,hb⟩;have HD:=Lib.hid hd;have HB1:=Lib.hid hb;clear hd hb)
 have hsz:gB≤W0.heap.size:=by have:=HB0.out.size;have:=HGB.out;omega
 have hbl:Bts (blksD g L1 L2) w1 a l:=by
  have h1:=HL.out
  have h2:Bts [] w1 a l:=h1.step (Step.of_below (by rw [HGB.out];exact HB0.out.trans (HB1.out.mono hsz)))
  exact ⟨h2.nums,fun ad e=>⟨fun hm=>by
   have k1:=HD.out.low _ hm;have k2:=(h1.far ad e).2;have:=HGB.out
   omega,(h2.far ad e).2⟩⟩
 have hpo:Parts (blksD g L1 L2) (w1.alloc (.cells #[.slice a l.length c] 34)) (some ⟨w1.heap.size,0,none⟩) [l]:=Parts.one hbl HD.out.in _;have hab:Below w1.heap.size w1 (w1.alloc (.cells #[.slice a l.length c] 34)):=(Below.refl _ _).alloc (Nat.le_refl _) _
 have hd2:DF (w1.alloc (.cells #[.slice a l.length c] 34)) W0.heap.size g g1 g2 p b L1 L2 (F.new p b):=HD.out.keeps (Keeps.of_below hab:Keeps [] _ _) (fun _ _ hm=>by cases hm)
 have HFE:=Lib.hid (show Calls Tryz.prog 49 #[ptr g,.slice (some ⟨w1.heap.size,0,none⟩) 1 1] (w1.alloc (.cells #[.slice a l.length c] 34)) fun r w'=>∃V,r=.returned V∧∃M1 M2,DS (w1.alloc (.cells #[.slice a l.length c] 34)) W0.heap.size g g1 g2 p b [] L1 L2 (F.feed p b (F.new p b) [l].flatten).1 V (F.feed p b (F.new p b) [l].flatten).2 M1 M2 w' from feed_any HP.out hd2 just_start [] ⟨(by intro k hk;cases hk),fun k _ hk=>(by cases hk)⟩ (some ⟨w1.heap.size,0,none⟩) 1 [l] hpo (by simp) (by have:=HNN.out;simpa using this))
 have HBW:=Lib.hid (show Below gB w (w1.alloc (.cells #[.slice a l.length c] 34)) from HB0.out.trans ((HB1.out.trans (hab.mono HB1.out.size)).mono hsz));have HLOW:=Lib.hid hd2.low;rw [HLN.out] at HFE HBW;clear hbl hpo hab hd2 y0 y1 y2 y3 y4 y5 y6 y7 y8 y9
 go_wp2_with (go_at_call 49;with_reducible refine HFE.out.mono ?_;rintro r w3 ⟨V,rfl,M1,M2,hs⟩;have HS:=Lib.hid hs;have c4:=hs.fat.c.2.2.2.2;clear hs);go_ret;rw [HGB.out];refine ⟨by rw [←HR.out];rfl,HBW.out.trans ?_⟩
 exact HS.out.keeps.below (Nat.le_trans hsz (by have:=HB1.out.size;have:=((Below.refl w1.heap.size w1).alloc (Nat.le_refl _) (.cells #[.slice a n c] 34)).size;omega)) (fun k hk=>Nat.le_trans hsz (HLOW.out k hk))
theorem last_any (hp:p<4294967296) (a:Option Addr) (c:Nat) (l:List UInt8) (hl:Bts [] w a l) (hn:l.length≤400000000) (hc:l.length≤c) :
 Calls Tryz.prog 18 #[.slice a l.length c,.int .u32 (p:Int),.agg #[.int .i64 b.x0,.int .i64 b.x1,.int .i64 b.x2,.int .i64 b.x3,.int .i64 b.x4,.int .i64 b.x5,.int .i64 b.x6,.int .i64 b.x7,.bool b.ch,.bool b.od]] w fun r w'=>r=.returned (.bool (lastB p b l))∧Below w.heap.size w w':=by
 have HB0:=Lib.hid (((Below.refl _ _).alloc (Nat.le_refl _) (.cells #[.int .i64 b.x0,.int .i64 b.x1,.int .i64 b.x2,.int .i64 b.x3,.int .i64 b.x4,.int .i64 b.x5,.int .i64 b.x6,.int .i64 b.x7,.bool b.ch,.bool b.od] 24)):Below w.heap.size w _)
 have HZ0:=Lib.hid (Rec.Bk.new w w.heap.size rfl 24 [.int .i64 b.x0,.int .i64 b.x1,.int .i64 b.x2,.int .i64 b.x3,.int .i64 b.x4,.int .i64 b.x5,.int .i64 b.x6,.int .i64 b.x7,.bool b.ch,.bool b.od]);rcases Nat.eq_zero_or_pos l.length with h0 | h0
 ·obtain rfl:=List.length_eq_zero_iff.1 h0;show Calls Tryz.prog 18 #[.slice a 0 c,.int .u32 (p:Int),.agg #[.int .i64 b.x0,.int .i64 b.x1,.int .i64 b.x2,.int .i64 b.x3,.int .i64 b.x4,.int .i64 b.x5,.int .i64 b.x6,.int .i64 b.x7,.bool b.ch,.bool b.od]] w fun r w'=>r=.returned (.bool false)∧Below w.heap.size w w';clear hl hn hc h0;go_enter Tryz.func18,Tryz.ntmps18;go_upto_region 1 with fail
  go_region;all_goals
   go_wp2;go_ret;exact ⟨rfl,by first | exact HB0.out | exact Base.below_drewN HB0.out _ | exact HB0.out.drew⟩
 ·obtain ⟨zb,zo,rfl,hzb,hz⟩:=hl.nums.2 h0;obtain ⟨m,hm⟩:∃m,l.length=m+1:=⟨l.length-1,by omega⟩;obtain ⟨n,hnn⟩:∃n,l.length=n:=⟨_,rfl⟩
  have hl2:Bts [] w (some ⟨zb,zo,none⟩) (l.take m):=⟨⟨by simp,fun hx=>⟨zb,zo,rfl,hzb,fun k hk=>by
   rw [List.length_take] at hk
   rw [hz k (by omega),List.getElem?_map,List.getElem?_map,List.getElem?_take_of_lt (by omega)]⟩⟩,hl.far⟩
  have hlm:(l.take m).length=m:=by rw [List.length_take];omega
  obtain ⟨P1,hP1⟩:∃P1,parted p b l=P1:=⟨_,rfl⟩;obtain ⟨P2,hP2⟩:∃P2,parted p b (l.take m)=P2:=⟨_,rfl⟩;have hlb:lastB p b l=(P1 && !P2):=by
   unfold lastB;rw [show l.length-1=m by omega,hP1,hP2];have:l.isEmpty=false:=by
    rw [List.isEmpty_eq_false_iff]
    intro e;rw [e] at h0;exact absurd h0 (Nat.lt_irrefl _)
   rw [this];rfl
  have hb0:=HB0.out
  have HP1:=Lib.hid (fun (w1:World) (hb:Below ((w.alloc (.cells #[.int .i64 b.x0,.int .i64 b.x1,.int .i64 b.x2,.int .i64 b.x3,.int .i64 b.x4,.int .i64 b.x5,.int .i64 b.x6,.int .i64 b.x7,.bool b.ch,.bool b.od] 24)).drewN 1).heap.size ((w.alloc (.cells #[.int .i64 b.x0,.int .i64 b.x1,.int .i64 b.x2,.int .i64 b.x3,.int .i64 b.x4,.int .i64 b.x5,.int .i64 b.x6,.int .i64 b.x7,.bool b.ch,.bool b.od] 24)).drewN 1) w1)=>show Calls Tryz.prog 34 #[.slice (some ⟨zb,zo,none⟩) n c,.int .u32 (p:Int),.agg #[.int .i64 b.x0,.int .i64 b.x1,.int .i64 b.x2,.int .i64 b.x3,.int .i64 b.x4,.int .i64 b.x5,.int .i64 b.x6,.int .i64 b.x7,.bool b.ch,.bool b.od]] w1 fun r w'=>r=.returned (.bool P1)∧Below w1.heap.size w1 w' from by rw [←hP1,←hnn];exact parts_any hp _ c l (hl.step (Step.of_below (Base.below_step (Base.below_drewN hb0 1) hb))) hn)
  have HP2:=Lib.hid (fun (w1:World) (hb:Below ((w.alloc (.cells #[.int .i64 b.x0,.int .i64 b.x1,.int .i64 b.x2,.int .i64 b.x3,.int .i64 b.x4,.int .i64 b.x5,.int .i64 b.x6,.int .i64 b.x7,.bool b.ch,.bool b.od] 24)).drewN 1).heap.size ((w.alloc (.cells #[.int .i64 b.x0,.int .i64 b.x1,.int .i64 b.x2,.int .i64 b.x3,.int .i64 b.x4,.int .i64 b.x5,.int .i64 b.x6,.int .i64 b.x7,.bool b.ch,.bool b.od] 24)).drewN 1) w1)=>show Calls Tryz.prog 34 #[.slice (some ⟨zb,zo,none⟩) m c,.int .u32 (p:Int),.agg #[.int .i64 b.x0,.int .i64 b.x1,.int .i64 b.x2,.int .i64 b.x3,.int .i64 b.x4,.int .i64 b.x5,.int .i64 b.x6,.int .i64 b.x7,.bool b.ch,.bool b.od]] w1 fun r w'=>r=.returned (.bool P2)∧Below w1.heap.size w1 w' from by
   rw [←hP2]
   have:=parts_any (w:=w1) (b:=b) hp (some ⟨zb,zo,none⟩) c (l.take m) (hl2.step (Step.of_below (Base.below_step (Base.below_drewN hb0 1) hb))) (by rw [hlm];omega);rw [hlm] at this;exact this)
  rw [hlb,hnn]
  have HZ:=Lib.hid (HZ0.out.below (Base.below_drewN (Below.refl (w.alloc (.cells #[.int .i64 b.x0,.int .i64 b.x1,.int .i64 b.x2,.int .i64 b.x3,.int .i64 b.x4,.int .i64 b.x5,.int .i64 b.x6,.int .i64 b.x7,.bool b.ch,.bool b.od] 24)).heap.size (w.alloc (.cells #[.int .i64 b.x0,.int .i64 b.x1,.int .i64 b.x2,.int .i64 b.x3,.int .i64 b.x4,.int .i64 b.x5,.int .i64 b.x6,.int .i64 b.x7,.bool b.ch,.bool b.od] 24))) 1));have t0:(0:Int)<(n:Int):=by omega
  have HM1:=Lib.hid (show wrap64 ((n:Int)-1)=(m:Int) by have:(n:Int)-1=(m:Int):=by omega
                                                        rw [this];unfold wrap64;omega)
  have tm:wrap64 ((n:Int)-1)=(m:Int):=HM1.out
  have HMW:=Lib.hid (show IntKind.i64.wrap ((n:Int)-1)=(m:Int) by have h9:=HM1.out;unfold wrap64 at h9;rw [IntKind.wrap_i64];exact h9);have tc:m≤c:=by omega
  have tn:(m:Int)≤(c:Int):=by omega
  clear hl hl2 hlm hP1 hP2 hlb hz hzb hb0 hn hc h0 hm hnn;go_enter Tryz.func18,Tryz.ntmps18;go_upto_region 1 with fail
  generalize w.alloc (.cells #[.int .i64 b.x0,.int .i64 b.x1,.int .i64 b.x2,.int .i64 b.x3,.int .i64 b.x4,.int .i64 b.x5,.int .i64 b.x6,.int .i64 b.x7,.bool b.ch,.bool b.od] 24)=W0 at *;generalize hgB:w.heap.size=g at *;have HGB:=Lib.hid hgB;clear hgB;refine Each.region_all 21 [7,8,9,10,11,12,13,14,15,16,17,18,19,20,21,22,23,24,25,26,6]
   [Each.is (.slice (some ⟨zb,zo,none⟩) n c),
     Each.is (.int .i64 ((n:Nat):Int)),
     Each.is (.bool true),
     Each.is (.bool true),
     Each.When (true) true (fun v _=>v=.slice (some ⟨zb,zo,none⟩) n c),
     Each.When (true) true (fun v _=>v=.int .u32 (p:Int)),
     Each.When (true) true (fun v _=>v=.agg #[.int .i64 b.x0,.int .i64 b.x1,.int .i64 b.x2,.int .i64 b.x3,.int .i64 b.x4,.int .i64 b.x5,.int .i64 b.x6,.int .i64 b.x7,.bool b.ch,.bool b.od]),
     Each.When (true) true (fun v _=>v=.bool P1),
     Each.is (.bool P1),
     Each.is (.bool P1),
     Each.When (P1) true (fun v _=>v=.slice (some ⟨zb,zo,none⟩) n c),
     Each.When (P1) true (fun v _=>v=.slice (some ⟨zb,zo,none⟩) n c),
     Each.When (P1) true (fun v _=>v=.int .i64 ((n:Nat):Int)),
     Each.When (P1) true (fun v _=>v=.int .i64 (m:Int)),
     Each.When (P1) true (fun v _=>v=.slice (some ⟨zb,zo,none⟩) m c),
     Each.When (P1) true (fun v _=>v=.int .u32 (p:Int)),
     Each.When (P1) true (fun v _=>v=.agg #[.int .i64 b.x0,.int .i64 b.x1,.int .i64 b.x2,.int .i64 b.x3,.int .i64 b.x4,.int .i64 b.x5,.int .i64 b.x6,.int .i64 b.x7,.bool b.ch,.bool b.od]),
     Each.When (P1) true (fun v _=>v=.bool P2),
     Each.When (P1) true (fun v _=>v=.bool (!P2)),
     Each.is (.bool ((P1&&(!P2)))),
     Each.is (.bool ((P1&&(!P2))))]
    (by kernel_rfl) (by kernel_rfl) (by kernel_rfl) (by kernel_rfl) (fun _ _ d _ _ h=>by cases d<;>exact h) (by rfl) (by rfl)
   ⟨Each.Lasts.eq _,Each.Lasts.eq _,Each.Lasts.eq _,Each.Lasts.eq _,Each.Lasts.when (Each.Lasts.eq _),Each.Lasts.when (Each.Lasts.eq _),Each.Lasts.when (Each.Lasts.eq _),Each.Lasts.when (Each.Lasts.eq _),Each.Lasts.eq _,Each.Lasts.eq _,Each.Lasts.when (Each.Lasts.eq _),Each.Lasts.when (Each.Lasts.eq _),Each.Lasts.when (Each.Lasts.eq _),Each.Lasts.when (Each.Lasts.eq _),Each.Lasts.when (Each.Lasts.eq _),Each.Lasts.when (Each.Lasts.eq _),Each.Lasts.when (Each.Lasts.eq _),Each.Lasts.when (Each.Lasts.eq _),Each.Lasts.when (Each.Lasts.eq _),Each.Lasts.eq _,Each.Lasts.eq _,trivial⟩ ?_ ?_
  ·refine ⟨?_,?_,?_,?_,?_,?_,?_,?_,?_,?_,?_,?_,?_,?_,?_,?_,?_,?_,?_,?_,?_,trivial⟩
   ·refine Each.fine rfl (fun ev w1 hR hb hh=>?_);clear hh;have e0:=hR.old 0 rfl;simp only [qA,qT,qZ,qO] at e0;refine Each.Goes.same ?_;go_simp;try with_reducible rfl
   ·refine Each.fine rfl (fun ev w1 hR hb hh=>?_);have e7:(ev (.tmp 7)=.slice (some ⟨zb,zo,none⟩) n c):=hh.at 0;clear hh;refine Each.Goes.same ?_;go_simp;try with_reducible rfl
   ·refine Each.fine rfl (fun ev w1 hR hb hh=>?_);have e8:(ev (.tmp 8)=.int .i64 ((n:Nat):Int)):=hh.at 0;clear hh;have ec:=hR.const;refine Each.Goes.same ?_;go_simp;omega
   ·refine Each.fine rfl (fun ev w1 hR hb hh=>?_);have e9:(ev (.tmp 9)=.bool true):=hh.at 0;clear hh;refine Each.Goes.same ?_;go_simp;try with_reducible rfl
   ·refine Each.fine_when 3 10 rfl rfl (fun ev w1 hh=>?_) (fun hg ev w1 hR hb hh=>?_)
    ·exact hh.at 0
    ·clear hh;have e0:=hR.old 0 rfl;simp only [qA,qT,qZ,qO] at e0;refine Each.Goes.same ?_;go_simp;try with_reducible rfl
   ·refine Each.fine_when 3 10 rfl rfl (fun ev w1 hh=>?_) (fun hg ev w1 hR hb hh=>?_)
    ·exact hh.at 0
    ·clear hh;have e1:=hR.old 1 rfl;simp only [qA,qT,qS,qZ,qO] at e1;refine Each.Goes.same ?_;go_simp;try with_reducible rfl
   ·refine Each.fine_when 3 10 rfl rfl (fun ev w1 hh=>?_) (fun hg ev w1 hR hb hh=>?_)
    ·exact hh.at 0
    ·clear hh;have e5:=hR.old 5 rfl;simp only [qA,qT,qS,qZ,qO] at e5;have q0:=(HZ.out.below hb).c 0 _ rfl;have q1:=(HZ.out.below hb).c 1 _ rfl;have q2:=(HZ.out.below hb).c 2 _ rfl;have q3:=(HZ.out.below hb).c 3 _ rfl;have q4:=(HZ.out.below hb).c 4 _ rfl;have q5:=(HZ.out.below hb).c 5 _ rfl;have q6:=(HZ.out.below hb).c 6 _ rfl;have q7:=(HZ.out.below hb).c 7 _ rfl;have q8:=(HZ.out.below hb).c 8 _ rfl;have q9:=(HZ.out.below hb).c 9 _ rfl;refine Each.Goes.same ?_;go_simp;try with_reducible rfl
   ·refine Each.fine_when 3 10 rfl rfl (fun ev w1 hh=>?_) (fun hg ev w1 hR hb hh=>?_)
    ·exact hh.at 3
    ·have e11:=(show ((true)=true→ev (.tmp 11)=.slice (some ⟨zb,zo,none⟩) n c) from hh.at 0) hg;have e12:=(show ((true)=true→ev (.tmp 12)=.int .u32 (p:Int)) from hh.at 1) hg;have e13:=(show ((true)=true→ev (.tmp 13)=.agg #[.int .i64 b.x0,.int .i64 b.x1,.int .i64 b.x2,.int .i64 b.x3,.int .i64 b.x4,.int .i64 b.x5,.int .i64 b.x6,.int .i64 b.x7,.bool b.ch,.bool b.od]) from hh.at 2) hg;clear hh;have ef:=hR.func
     refine Each.Goes.enter 34 #[.slice (some ⟨zb,zo,none⟩) n c,.int .u32 (p:Int),.agg #[.int .i64 b.x0,.int .i64 b.x1,.int .i64 b.x2,.int .i64 b.x3,.int .i64 b.x4,.int .i64 b.x5,.int .i64 b.x6,.int .i64 b.x7,.bool b.ch,.bool b.od]] (by go_simp) ((HP1.out w1 hb).mono ?_);rintro r w2 ⟨rfl,hb2⟩;exact ⟨_,rfl,hb2,rfl⟩
   ·refine Each.fine rfl (fun ev w1 hR hb hh=>?_);have e10:(ev (.tmp 10)=.bool true):=hh.at 0;have h14:((true)=true→ev (.tmp 14)=.bool P1):=hh.at 1;clear hh;have ec:=hR.const;refine Each.Goes.same ?_;have e14:=h14 rfl;go_simp;try with_reducible rfl
   ·refine Each.fine rfl (fun ev w1 hR hb hh=>?_);have e15:(ev (.tmp 15)=.bool P1):=hh.at 0;clear hh;refine Each.Goes.same ?_;go_simp;try with_reducible rfl
   ·refine Each.fine_when 9 16 rfl rfl (fun ev w1 hh=>?_) (fun hg ev w1 hR hb hh=>?_)
    ·exact hh.at 0
    ·clear hh;have e0:=hR.old 0 rfl;simp only [qA,qT,qZ,qO] at e0;refine Each.Goes.same ?_;go_simp;try with_reducible rfl
   ·refine Each.fine_when 9 16 rfl rfl (fun ev w1 hh=>?_) (fun hg ev w1 hR hb hh=>?_)
    ·exact hh.at 0
    ·clear hh;have e0:=hR.old 0 rfl;simp only [qA,qT,qZ,qO] at e0;refine Each.Goes.same ?_;go_simp;try with_reducible rfl
   ·refine Each.fine_when 9 16 rfl rfl (fun ev w1 hh=>?_) (fun hg ev w1 hR hb hh=>?_)
    ·exact hh.at 1
    ·have e18:=(show ((P1)=true→ev (.tmp 18)=.slice (some ⟨zb,zo,none⟩) n c) from hh.at 0) hg;clear hh;refine Each.Goes.same ?_;go_simp;try with_reducible rfl
   ·refine Each.fine_when 9 16 rfl rfl (fun ev w1 hh=>?_) (fun hg ev w1 hR hb hh=>?_)
    ·exact hh.at 1
    ·have e19:=(show ((P1)=true→ev (.tmp 19)=.int .i64 ((n:Nat):Int)) from hh.at 0) hg;clear hh;have ec:=hR.const;refine Each.Goes.same ?_;go_simp;first | done | rfl |(with_reducible rfl) | exact HMW.out
   ·refine Each.fine_when 9 16 rfl rfl (fun ev w1 hh=>?_) (fun hg ev w1 hR hb hh=>?_)
    ·exact hh.at 2
    ·have e17:=(show ((P1)=true→ev (.tmp 17)=.slice (some ⟨zb,zo,none⟩) n c) from hh.at 0) hg;have e20:=(show ((P1)=true→ev (.tmp 20)=.int .i64 (m:Int)) from hh.at 1) hg;clear hh;refine Each.Goes.same ?_;go_simp;try with_reducible rfl
   ·refine Each.fine_when 9 16 rfl rfl (fun ev w1 hh=>?_) (fun hg ev w1 hR hb hh=>?_)
    ·exact hh.at 0
    ·clear hh;have e1:=hR.old 1 rfl;simp only [qA,qT,qS,qZ,qO] at e1;refine Each.Goes.same ?_;go_simp;try with_reducible rfl
   ·refine Each.fine_when 9 16 rfl rfl (fun ev w1 hh=>?_) (fun hg ev w1 hR hb hh=>?_)
    ·exact hh.at 0
    ·clear hh;have e5:=hR.old 5 rfl;simp only [qA,qT,qS,qZ,qO] at e5;have q0:=(HZ.out.below hb).c 0 _ rfl;have q1:=(HZ.out.below hb).c 1 _ rfl;have q2:=(HZ.out.below hb).c 2 _ rfl;have q3:=(HZ.out.below hb).c 3 _ rfl;have q4:=(HZ.out.below hb).c 4 _ rfl;have q5:=(HZ.out.below hb).c 5 _ rfl;have q6:=(HZ.out.below hb).c 6 _ rfl;have q7:=(HZ.out.below hb).c 7 _ rfl;have q8:=(HZ.out.below hb).c 8 _ rfl;have q9:=(HZ.out.below hb).c 9 _ rfl;refine Each.Goes.same ?_;go_simp;try with_reducible rfl
   ·refine Each.fine_when 9 16 rfl rfl (fun ev w1 hh=>?_) (fun hg ev w1 hR hb hh=>?_)
    ·exact hh.at 3
    ·have e21:=(show ((P1)=true→ev (.tmp 21)=.slice (some ⟨zb,zo,none⟩) m c) from hh.at 0) hg;have e22:=(show ((P1)=true→ev (.tmp 22)=.int .u32 (p:Int)) from hh.at 1) hg;have e23:=(show ((P1)=true→ev (.tmp 23)=.agg #[.int .i64 b.x0,.int .i64 b.x1,.int .i64 b.x2,.int .i64 b.x3,.int .i64 b.x4,.int .i64 b.x5,.int .i64 b.x6,.int .i64 b.x7,.bool b.ch,.bool b.od]) from hh.at 2) hg;clear hh;have ef:=hR.func
     refine Each.Goes.enter 34 #[.slice (some ⟨zb,zo,none⟩) m c,.int .u32 (p:Int),.agg #[.int .i64 b.x0,.int .i64 b.x1,.int .i64 b.x2,.int .i64 b.x3,.int .i64 b.x4,.int .i64 b.x5,.int .i64 b.x6,.int .i64 b.x7,.bool b.ch,.bool b.od]] (by go_simp) ((HP2.out w1 hb).mono ?_);rintro r w2 ⟨rfl,hb2⟩;exact ⟨_,rfl,hb2,rfl⟩
   ·refine Each.fine_when 9 16 rfl rfl (fun ev w1 hh=>?_) (fun hg ev w1 hR hb hh=>?_)
    ·exact hh.at 1
    ·have e24:=(show ((P1)=true→ev (.tmp 24)=.bool P2) from hh.at 0) hg;clear hh;refine Each.Goes.same ?_;go_simp;try with_reducible rfl
   ·refine Each.fine rfl (fun ev w1 hR hb hh=>?_);have e16:(ev (.tmp 16)=.bool P1):=hh.at 0;have h25:((P1)=true→ev (.tmp 25)=.bool (!P2)):=hh.at 1;clear hh;have ec:=hR.const;refine Each.Goes.same ?_;rcases Bool.eq_false_or_eq_true (P1) with hx | hx
    ·rw [hx] at e16 ⊢;have e25:=h25 hx;go_simp;try with_reducible rfl
    ·rw [hx] at e16 ⊢;go_simp;try with_reducible rfl
   ·refine Each.fine rfl (fun ev w1 hR hb hh=>?_);have e26:(ev (.tmp 26)=.bool ((P1&&(!P2)))):=hh.at 0;clear hh;refine Each.Goes.same ?_;go_simp;try with_reducible rfl
  intro ga w4 hb4 hf;have z6:(ga 6=.bool ((P1&&(!P2)))):=hf.at 20;clear hf;simp only [Each.putg,Act.put,qI,qY,qX];rw [z6];have HB4:=Lib.hid hb4;clear hb4;go_wp2;go_ret;rw [HGB.out];refine ⟨rfl,HB0.out.trans (HB4.out.mono ?_)⟩;have:=HB0.out.size;have:=HGB.out;omega
end code
end Go.Proofs.YtimoakmcelocfaaGreat.DF
namespace Go.Proofs.YtimoakmcelocfaaGreat.An
open Go.RowKit Base Txt Mem Par Pg
theorem a0:kindA 0 usual=1∧clA 0 usual=0∧errA 0 usual=0∧effL 0 usual= []:=by decide +kernel
theorem a1:kindA 1 usual=2∧clA 1 usual=0∧errA 1 usual=0∧effL 1 usual≠ []:=by decide +kernel
theorem a2:kindA 2147483648 usual=0∧clA 2147483648 usual=0∧errA 2147483648 usual=20∧effL 2147483648 usual= []:=by decide +kernel
theorem w0:(Wit.W (clA 1 usual).toNat usual.ch (Qk.has 1 19)).data.toList= [13,10]∧(Wit.W (clA 1 usual).toNat usual.ch (Qk.has 1 19)).size=2:=by decide +kernel
theorem l0:DF.lastB 1 usual [13,10]=true:=by decide +kernel
section code
set_option maxHeartbeats 8000000
set_option maxRecDepth 20000
attribute [local go_sem] Base.some_undef
theorem known_any (w:World):Calls Tryz.prog 6 #[] w fun e w'=>e=.returned (.bool true)∧Below w.heap.size w w':=by
 have HD0:=Lib.hid (fun w=>show Calls Tryz.prog 11 #[.int .u32 0,.agg #[.int .i64 1024,.int .i64 32,.int .i64 8192,.int .i64 65536,.int .i64 32,.int .i64 8,.int .i64 4,.int .i64 20,.bool true,.bool true]] w fun e w'=>e=.returned (.tuple #[.agg #[.int .i64 1,.int .i64 0,.slice none 0 0],.int .i64 0])∧Below w.heap.size w w' from (decide_any 0 (by decide) usual w).mono (by rintro e w' ⟨v,rfl,h1,h2⟩;obtain ⟨k1,k2,k3,k4⟩:=a0;unfold Shown at h1;rw [if_pos k4] at h1;rw [k1,k2,k3,h1];exact ⟨rfl,h2⟩))
 have HD1:=Lib.hid (fun w=>show Calls Tryz.prog 11 #[.int .u32 1,.agg #[.int .i64 1024,.int .i64 32,.int .i64 8192,.int .i64 65536,.int .i64 32,.int .i64 8,.int .i64 4,.int .i64 20,.bool true,.bool true]] w fun e w'=>∃gs cc,e=.returned (.tuple #[.agg #[.int .i64 2,.int .i64 0,.slice (some ⟨gs,0,none⟩) 2 cc],.int .i64 0])∧2≤cc∧Pg.Bts [] w' (some ⟨gs,0,none⟩) [13,10]∧Below w.heap.size w w' from (decide_any 1 (by decide) usual w).mono (by rintro e w' ⟨v,rfl,h1,h2⟩;obtain ⟨k1,k2,k3,k4⟩:=a1;unfold Shown at h1;rw [if_neg k4] at h1;obtain ⟨gs,cc,e1,h3,h4, -⟩:=h1.v;rw [w0.2] at e1 h3;rw [w0.1] at h4;rw [k1,k2,k3,e1];exact ⟨gs,cc,rfl,h3,h4,h2⟩))
 have HD2:=Lib.hid (fun w=>show Calls Tryz.prog 11 #[.int .u32 2147483648,.agg #[.int .i64 1024,.int .i64 32,.int .i64 8192,.int .i64 65536,.int .i64 32,.int .i64 8,.int .i64 4,.int .i64 20,.bool true,.bool true]] w fun e w'=>e=.returned (.tuple #[.agg #[.int .i64 0,.int .i64 0,.slice none 0 0],.int .i64 20])∧Below w.heap.size w w' from (decide_any 2147483648 (by decide) usual w).mono (by rintro e w' ⟨v,rfl,h1,h2⟩;obtain ⟨k1,k2,k3,k4⟩:=a2;unfold Shown at h1;rw [if_pos k4] at h1;rw [k1,k2,k3,h1];exact ⟨rfl,h2⟩))
 have HLA:Hid (∀(w:World) (gs cc:Nat),2≤cc→Pg.Bts [] w (some ⟨gs,0,none⟩) [13,10]→Calls Tryz.prog 18 #[.slice (some ⟨gs,0,none⟩) 2 cc,.int .u32 1,.agg #[.int .i64 1024,.int .i64 32,.int .i64 8192,.int .i64 65536,.int .i64 32,.int .i64 8,.int .i64 4,.int .i64 20,.bool true,.bool true]] w fun r w'=>r=.returned (.bool true)∧Below w.heap.size w w'):=Lib.hid (fun w gs cc h1 h2=>by have:=DF.last_any (p:=1) (b:=usual) (by decide) (some ⟨gs,0,none⟩) cc [13,10] h2 (by decide) h1;rw [l0] at this;exact this)
 go_enter Tryz.func6,Tryz.ntmps6
 go_upto_region 2 with (go_at_call 24;with_reducible refine (Bnd.rusual_any _).mono ?_;rintro r w1 ⟨rfl,hb⟩;have HB1:=Lib.hid hb;clear hb)
 have HZ1:=Lib.hid (Rec.Bk.new w1 w1.heap.size rfl 24 [.int .i64 1024,.int .i64 32,.int .i64 8192,.int .i64 65536,.int .i64 32,.int .i64 8,.int .i64 4,.int .i64 20,.bool true,.bool true])
 have HBW1:=Lib.hid (HB1.out.alloc HB1.out.size (.cells #[.int .i64 1024,.int .i64 32,.int .i64 8192,.int .i64 65536,.int .i64 32,.int .i64 8,.int .i64 4,.int .i64 20,.bool true,.bool true] 24));generalize w1.alloc (.cells #[.int .i64 1024,.int .i64 32,.int .i64 8192,.int .i64 65536,.int .i64 32,.int .i64 8,.int .i64 4,.int .i64 20,.bool true,.bool true] 24)=W1 at *;generalize w1.heap.size=gB at *;have y0:=HZ1.out.c 0 _ rfl;have y1:=HZ1.out.c 1 _ rfl;have y2:=HZ1.out.c 2 _ rfl;have y3:=HZ1.out.c 3 _ rfl;have y4:=HZ1.out.c 4 _ rfl;have y5:=HZ1.out.c 5 _ rfl;have y6:=HZ1.out.c 6 _ rfl;have y7:=HZ1.out.c 7 _ rfl;have y8:=HZ1.out.c 8 _ rfl;have y9:=HZ1.out.c 9 _ rfl
 go_upto_region 3 with (go_at_call 11;with_reducible refine (HD0.out _).mono ?_;rintro r w2 ⟨rfl,hb⟩;have HB2:=Lib.hid (Base.below_step HBW1.out hb);have HZ2:=Lib.hid (HZ1.out.below hb);clear hb)
 have HA2:=Lib.hid (Rec.Bk.new w2 w2.heap.size rfl 36 [.int .i64 1,.int .i64 0,.slice none 0 0])
 have HAL2:Hid (Below w2.heap.size w2 (w2.alloc (.cells #[.int .i64 1,.int .i64 0,.slice none 0 0] 36))):=Lib.hid ((Below.refl _ _).alloc (Nat.le_refl _) _)
 have HZ2a:=Lib.hid (HZ2.out.below HAL2.out)
 have HBW2:=Lib.hid (Base.below_step HB2.out HAL2.out);clear HD0;clear y0 y1 y2 y3 y4 y5 y6 y7 y8 y9;generalize w2.alloc (.cells #[.int .i64 1,.int .i64 0,.slice none 0 0] 36)=W2 at *;generalize w2.heap.size=g2 at *;have y0:=HZ2a.out.c 0 _ rfl;have y1:=HZ2a.out.c 1 _ rfl;have y2:=HZ2a.out.c 2 _ rfl;have y3:=HZ2a.out.c 3 _ rfl;have y4:=HZ2a.out.c 4 _ rfl;have y5:=HZ2a.out.c 5 _ rfl;have y6:=HZ2a.out.c 6 _ rfl;have y7:=HZ2a.out.c 7 _ rfl;have y8:=HZ2a.out.c 8 _ rfl;have y9:=HZ2a.out.c 9 _ rfl
 go_upto_region 4 with (go_at_call 11;with_reducible refine (HD1.out _).mono ?_;rintro r w3 ⟨gs,cc,rfl,hcc,hbt,hb⟩;have HB3:=Lib.hid (Base.below_step HBW2.out hb);have HZ3:=Lib.hid (HZ2a.out.below hb);have HA2b:=Lib.hid (HA2.out.below hb);have HCC:=Lib.hid hcc;have HBT:=Lib.hid hbt;clear hb hcc hbt)
 have HA3:=Lib.hid (Rec.Bk.new w3 w3.heap.size rfl 36 [.int .i64 2,.int .i64 0,.slice (some ⟨gs,0,none⟩) 2 cc])
 have HAL3:Hid (Below w3.heap.size w3 (w3.alloc (.cells #[.int .i64 2,.int .i64 0,.slice (some ⟨gs,0,none⟩) 2 cc] 36))):=Lib.hid ((Below.refl _ _).alloc (Nat.le_refl _) _)
 have HZ3a:=Lib.hid (HZ3.out.below HAL3.out)
 have HA2c:=Lib.hid (HA2b.out.below HAL3.out)
 have HBT2:=Lib.hid (HBT.out.step (Step.of_below HAL3.out))
 have HBW3:=Lib.hid (Base.below_step HB3.out HAL3.out);clear HD1;clear y0 y1 y2 y3 y4 y5 y6 y7 y8 y9;generalize w3.alloc (.cells #[.int .i64 2,.int .i64 0,.slice (some ⟨gs,0,none⟩) 2 cc] 36)=W3 at *;generalize w3.heap.size=g3 at *;have y0:=HZ3a.out.c 0 _ rfl;have y1:=HZ3a.out.c 1 _ rfl;have y2:=HZ3a.out.c 2 _ rfl;have y3:=HZ3a.out.c 3 _ rfl;have y4:=HZ3a.out.c 4 _ rfl;have y5:=HZ3a.out.c 5 _ rfl;have y6:=HZ3a.out.c 6 _ rfl;have y7:=HZ3a.out.c 7 _ rfl;have y8:=HZ3a.out.c 8 _ rfl;have y9:=HZ3a.out.c 9 _ rfl
 go_upto_region 5 with (go_at_call 11;with_reducible refine (HD2.out _).mono ?_;rintro r w4 ⟨rfl,hb⟩;have HB4:=Lib.hid (Base.below_step HBW3.out hb);have HZ4:=Lib.hid (HZ3a.out.below hb);have HA2d:=Lib.hid (HA2c.out.below hb);have HA3d:=Lib.hid (HA3.out.below hb);have HBT3:=Lib.hid (HBT2.out.step (Step.of_below hb));clear hb)
 have HA4:=Lib.hid (Rec.Bk.new w4 w4.heap.size rfl 36 [.int .i64 0,.int .i64 0,.slice none 0 0])
 have HAL4:Hid (Below w4.heap.size w4 (w4.alloc (.cells #[.int .i64 0,.int .i64 0,.slice none 0 0] 36))):=Lib.hid ((Below.refl _ _).alloc (Nat.le_refl _) _)
 have HZ4a:=Lib.hid (HZ4.out.below HAL4.out)
 have HA2e:=Lib.hid (HA2d.out.below HAL4.out)
 have HA3e:=Lib.hid (HA3d.out.below HAL4.out)
 have HBT4:=Lib.hid (HBT3.out.step (Step.of_below HAL4.out))
 have HBW4:=Lib.hid (Base.below_step HB4.out HAL4.out);clear HD2;clear y0 y1 y2 y3 y4 y5 y6 y7 y8 y9;generalize w4.alloc (.cells #[.int .i64 0,.int .i64 0,.slice none 0 0] 36)=W4 at *;generalize w4.heap.size=g4 at *;have y0:=HZ4a.out.c 0 _ rfl;have y1:=HZ4a.out.c 1 _ rfl;have y2:=HZ4a.out.c 2 _ rfl;have y3:=HZ4a.out.c 3 _ rfl;have y4:=HZ4a.out.c 4 _ rfl;have y5:=HZ4a.out.c 5 _ rfl;have y6:=HZ4a.out.c 6 _ rfl;have y7:=HZ4a.out.c 7 _ rfl;have y8:=HZ4a.out.c 8 _ rfl;have y9:=HZ4a.out.c 9 _ rfl;have p0:=HA2e.out.c 0 _ rfl;have p1:=HA2e.out.c 1 _ rfl;have p2:=HA2e.out.c 2 _ rfl;have q0:=HA3e.out.c 0 _ rfl;have q1:=HA3e.out.c 1 _ rfl;have q2:=HA3e.out.c 2 _ rfl
 go_wp2_with (go_at_call 18;with_reducible refine (HLA.out _ _ _ HCC.out HBT4.out).mono ?_;rintro r w5 ⟨rfl,hb⟩;have HB5:=Lib.hid (Base.below_step HBW4.out hb);clear hb);go_ret;exact ⟨rfl,HB5.out⟩
end code
end Go.Proofs.YtimoakmcelocfaaGreat.An
