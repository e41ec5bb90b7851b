import Derived.Test.YtnabkcglnbdfeaaGreatDoorFeq
namespace Go.Proofs.YtnabkcglnbdfeaaGreatDoor.Pg
open Go.RowKit Base Txt Mem Par
structure Told (L:List (Option Nat)) (B:Zone) (w:World) (o:Value) (out:List Rec.R):Prop where
 outs:Outs L B w o out
 far:∀k,o.ownBlock=some k→some k∉L∧k<w.heap.size
 off:∀k,o.ownBlock=some k→some k∉B.z
theorem Told.step {L L':List (Option Nat)} {B:Zone} {w w':World} {o:Value} {out:List Rec.R} (h:Told L B w o out) (hs:Step L L' w w'):Told L' B w' o out:=by
 obtain ⟨ps,h1,h2,h3⟩:=h.outs;refine ⟨⟨ps,h1,fun x hx=>⟨(h2 x hx).1,⟨((h2 x hx).2.keeps hs.keeps).reads,fun k hb=>⟨fun hm=>?_,Nat.lt_of_lt_of_le ((h2 x hx).2.far k hb).2 hs.keeps.size⟩,(h2 x hx).2.off⟩⟩,hs.keeps.own h3 (fun k e=>(h.far k e).1)⟩,fun k e=>⟨fun hm=>?_,Nat.lt_of_lt_of_le (h.far k e).2 hs.keeps.size⟩,h.off⟩
 ·rcases hs.of k hm with e | e
  ·exact ((h2 x hx).2.far k hb).1 e
  ·exact absurd ((h2 x hx).2.far k hb).2 (by omega)
 ·rcases hs.of k hm with h1 | h1
  ·exact (h.far k e).1 h1
  ·have:=(h.far k e).2;omega
section code
set_option maxHeartbeats 4000000
set_option maxRecDepth 20000
attribute [local go_sem] Base.some_undef
variable {w:World} {B:Zone} {g q:Nat} {v f bd t o:Value} {p:Nat} {b:Bd} {s:T}
theorem Own.less {rd:Ln.M} {fs ts:List Fld} {body:List UInt8} {out:List Rec.R} (h:Own w B g q v f bd t o rd fs body ts out):Own w B g q v f bd t nil rd fs body ts []:=by
 have e:blks g q v f bd t nil=(blks g q v f bd t o).set 6 none:=rfl;refine ⟨h.R,h.F,h.D,h.TR,⟨[],rfl,(by intro x hx;cases hx),World.ownsRow_nil _ _ _ _⟩,?_,h.ge,h.lt,h.zone.of (Nat.le_refl _) (by rw [e];exact Of.set 6 none (.inl rfl))⟩;rw [e]
 exact h.lone.set h.in 6 none (.inl rfl)
theorem At.below {L:List (Option Nat)} {w':World} {x:Q} (h:At w B g p b L x) (hb:Below w.heap.size w w'):At w' B g p b L x:=by
 cases x with
 | live s=>
   obtain ⟨q,v,f,bd,t,o,rfl,h⟩:=h;exact ⟨q,v,f,bd,t,o,rfl,h.below hb⟩
 | dead e out=>
   obtain ⟨o,rfl,h⟩:=h;refine ⟨o,rfl,(hb.block g h.lt).trans h.row,h.O.keeps (Keeps.of_below hb:Keeps [] w w') (by simp) (by simp),h.ne,h.ge,Nat.lt_of_lt_of_le h.lt hb.size,h.bad,h.zone.of hb.size Of.refl⟩
theorem At.low {L:List (Option Nat)} {x:Q} (h:At w B g p b L x):∀k,some k∈L→B≤k:=by
 cases x with
 | live s=>
   obtain ⟨q,v,f,bd,t,o,rfl,h⟩:=h;exact h.own.low
 | dead e out=>
   obtain ⟨o,rfl,h⟩:=h;intro k hk;obtain ⟨ps, -, -,h3⟩:=h.O;rcases (by simpa using hk:k=g∨some k=o.ownBlock) with e | e
   ·rw [e];exact h.ge
   ·exact (World.ownsRow.lt h3 k e.symm).1
theorem At.in {L:List (Option Nat)} {x:Q} (h:At w B g p b L x):In w L:=by
 cases x with
 | live s=>
   obtain ⟨q,v,f,bd,t,o,rfl,h⟩:=h;exact h.own.in
 | dead e out=>
   obtain ⟨o,rfl,h⟩:=h;intro k hk;obtain ⟨ps, -, -,h3⟩:=h.O;rcases (by simpa using hk:k=g∨some k=o.ownBlock) with e | e
   ·rw [e];exact h.lt
   ·exact (World.ownsRow.lt h3 k e.symm).2
theorem At.tell {L:List (Option Nat)} {x:Q} (h:At w B g p b L x):∃o L',w.cell? ⟨g,26,none⟩=some o∧w.frozen? ⟨g,26,none⟩=false∧At (w.setCell ⟨g,26,none⟩ nil) B g p b L' x.told∧Told L' B (w.setCell ⟨g,26,none⟩ nil) o x.out∧Step L L' w (w.setCell ⟨g,26,none⟩ nil):=by
 cases x with
 | live s=>
   obtain ⟨q,v,f,bd,t,o,rfl,h⟩:=h;have hg:(blks g q v f bd t o)[0]?=some (some g):=rfl
   have hne:o.ownBlock≠some g:=fun e=>h.own.lone.ne (i:=0) (j:=6) rfl (by decide) (by rw [←e];rfl);have hsub:∀k,some k∈blks g q v f bd t nil→some k∈blks g q v f bd t o:=fun k hk=>by simp only [List.mem_cons,List.not_mem_nil,or_false,Value.ownBlock,reduceCtorEq] at hk ⊢;rcases hk with e | e | e | e | e | e<;>simp [e]
   refine ⟨o,blks g q v f bd t nil,h.cs.c26,h.marks 26,⟨q,v,f,bd,t,nil,rfl,⟨row_setL h.row 26 nil,(h.own.less).set 26 nil⟩⟩,⟨Outs.less (h.own.O.keeps (Keeps.set g 26 nil (List.mem_singleton.2 rfl)) (fun k hk=>by simp only [List.mem_singleton] at hk;simp [hk]) (fun k e hm=>hne (by rw [e,List.mem_singleton.1 hm]))) (fun k hk=>.inl (hsub k hk)),fun k e=>⟨fun hm=>?_,?_⟩,fun k e=>h.own.zone.off k (List.mem_of_getElem? (i:=6) (by rw [←e];rfl))⟩,⟨Keeps.set g 26 nil (List.mem_of_getElem? hg),fun k hk=>.inl (hsub k hk)⟩⟩
   ·obtain ⟨i,hi⟩:=List.getElem?_of_mem hm;have h6:(blks g q v f bd t o)[6]?=some (some k):=by rw [←e];rfl
    rcases i with _ | _ | _ | _ | _ | _ | _ | i
    ·exact h.own.lone.ne (i:=0) (j:=6) (k:=k) hi (by decide) h6
    ·exact h.own.lone.ne (i:=1) (j:=6) (k:=k) hi (by decide) h6
    ·exact h.own.lone.ne (i:=2) (j:=6) (k:=k) hi (by decide) h6
    ·exact h.own.lone.ne (i:=3) (j:=6) (k:=k) hi (by decide) h6
    ·exact h.own.lone.ne (i:=4) (j:=6) (k:=k) hi (by decide) h6
    ·exact h.own.lone.ne (i:=5) (j:=6) (k:=k) hi (by decide) h6
    ·cases hi
    ·cases hi
   ·have:=h.own.in k (List.mem_of_getElem? (i:=6) (by rw [←e];rfl));simpa using this
 | dead e out=>
   obtain ⟨o,rfl,h⟩:=h;obtain ⟨ps, -, -,h3⟩:=h.O;refine ⟨o,[some g,none],row_cellL h.row rfl,Ln.row_frozen h.row 26,⟨nil,rfl,h.put 26 nil nil [] rfl ⟨[],rfl,(by intro x hx;cases hx),World.ownsRow_nil _ _ _ _⟩ (by simp [Value.ownBlock]) (.inl rfl)⟩,⟨Outs.less (h.O.keeps (Keeps.set g 26 nil (List.mem_singleton.2 rfl)) (fun k hk=>by simp only [List.mem_singleton] at hk;simp [hk]) (fun k e hm=>h.ne (by rw [e,List.mem_singleton.1 hm]))) (fun k hk=>.inl (by simpa using Or.inl (by simpa using hk))),fun k e=>⟨fun hm=>?_,?_⟩,fun k e=>h.zone.off k (by rw [←e];simp)⟩,⟨Keeps.set g 26 nil (by simp),fun k hk=>.inl (by simpa using Or.inl (by simpa using hk))⟩⟩
   ·rcases (by simpa using hm:k=g) with rfl;exact h.ne e
   ·have:=(World.ownsRow.lt h3 k e).2;simpa using this
theorem feed_any (hp:p<4294967296) (x:Q) {L:List (Option Nat)} (h:At w B g p b L x) (ok:x.Ok b) (a:Option Addr) (ca:Nat) (ls:List (List UInt8)) (hl:Parts L w a ls) (hn:ls.length≤1000000) (hout:x.out.length+2*ls.flatten.length≤999999998) :
 Calls Tryz.prog 20 #[ptr g,.slice a ls.length ca] w fun r w'=>∃o L',r=.returned o∧At w' B g p b L' (x.feed p b ls.flatten).told∧Told L' B w' o (x.feed p b ls.flatten).out∧Step L L' w w':=by
 have H:=Lib.hid h;have HL:=Lib.hid hl;have HOK:=Lib.hid ok;have HOU:=Lib.hid hout;obtain ⟨n,hnn⟩:∃n,ls.length=n:=⟨_,rfl⟩;have HN:=Lib.hid hnn;have hn1:n≤1000000:=by omega
 rw [hnn];clear h hl ok hout hn hnn;go_enter Tryz.func20,Tryz.ntmps20;go_upto_region 2 with fail
 go_loopw [12] (fun i wr=>∃k:Nat,k≤n∧i=.int .i64 k∧Hid (∃Lr,At wr B g p b Lr (x.feed p b (ls.take k).flatten)∧Step L Lr w wr)) (fun i _=>n-(intOf i).toNat)
 case atStart=>exact ⟨0,Nat.zero_le _,rfl,Lib.hid ⟨L,H.out,Step.refl⟩⟩
 case round=>
  obtain ⟨k,hk,rfl,hR⟩:=hrel;rcases Nat.lt_or_ge k n with hlt | hge
  ·obtain ⟨Lr,hA,hS⟩:=hR.out;have hkl:k<ls.length:=by rw [HN.out];exact hlt
   obtain ⟨bk,off,rfl,hbk,hnb,hc⟩:=(HL.out.step hS).cells (by omega);obtain ⟨ak,ck,hcell,hB⟩:=hc k hkl;have htk:(ls.take (k+1)).flatten=(ls.take k).flatten++ls[k]:=by rw [List.take_succ_eq_append_getElem hkl,List.flatten_append];simp
   have hsum:(ls.take (k+1)).flatten.length≤ls.flatten.length:=by have:=congrArg List.length (congrArg List.flatten (List.take_append_drop (k+1) ls));rw [List.flatten_append,List.length_append] at this;omega
   rw [htk,List.length_append] at hsum;have t1:(k:Int)<(n:Int):=by omega
   have HTK:=Lib.hid htk;obtain ⟨pl,hpl⟩:∃pl,ls[k]=pl:=⟨_,rfl⟩;rw [hpl] at hcell hB hsum HTK;have hpb:pl.length≤1000000000:=by have:=HOU.out;omega
   obtain ⟨m,hm⟩:∃m,pl.length=m:=⟨_,rfl⟩;rw [hm] at hcell hpb hsum;have HM:=Lib.hid hm;obtain ⟨X,hX⟩:∃X,x.feed p b (ls.take k).flatten=X:=⟨_,rfl⟩;have hXok:X.Ok b:=by rw [←hX];exact Q.Ok.feed _ HOK.out
   have hXo:X.out.length+2*m≤999999998:=by have:=Q.feed_out (p:=p) (b:=b) (ls.take k).flatten x;rw [hX] at this;have:=HOU.out;omega
   rw [hX] at hA;have HX:=Lib.hid hX;have HXO:=Lib.hid hXok;have HXL:=Lib.hid hXo;have HA:=Lib.hid hA;have HS:=Lib.hid hS;have HB:=Lib.hid hB;clear hA hS hB hX hXok hXo hsum htk hpl hm hc hR hnb hbk;go_upto_region 5 with fail
   clear hcell
   go_loopw [18] (fun j wq=>∃i:Nat,i≤m∧j=.int .i64 i∧Hid (∃Lq,At wq B g p b Lq (X.feed p b (pl.take i))∧Step Lr Lq wr wq)) (fun j _=>m-(intOf j).toNat)
   case atStart=>exact ⟨0,Nat.zero_le _,rfl,Lib.hid ⟨Lr,HA.out,Step.refl⟩⟩
   case round=>
    obtain ⟨wC,hwC⟩:∃x,x=wr:=⟨_,rfl⟩;obtain ⟨i,hi,rfl,hR2⟩:=hrel;rcases Nat.lt_or_ge i m with hilt | hige
    ·obtain ⟨Lq,hA2,hS2⟩:=hR2.out;have hil:i<pl.length:=by rw [HM.out];exact hilt
     obtain ⟨zb,zo,rfl,hzb,hz⟩:=(HB.out.step hS2).nums.2 (by omega);have hcell:=hz i hil;have hti:pl.take (i+1)=pl.take i ++ [pl[i]]:=List.take_succ_eq_append_getElem hil;have hgi:(pl.map fun c=>(c.toNat:Int))[i]?.getD 0=(pl[i].toNat:Int):=by simp [hil]
     rw [hgi] at hcell;have HTI:=Lib.hid hti;obtain ⟨c,hc⟩:∃c,pl[i]=c:=⟨_,rfl⟩;rw [hc] at hcell HTI;have t2:(i:Int)<(m:Int):=by omega
     have hok3:(X.feed p b (pl.take i)).Ok b:=Q.Ok.feed _ HXO.out;have hou3:(X.feed p b (pl.take i)).out.length≤999999998:=by have h1:=Q.feed_out (p:=p) (b:=b) (pl.take i) X;have h2:=HXL.out;rw [List.length_take] at h1;omega
     have HTA:=Lib.hid (take_any hp c _ hA2 hok3 hou3);have HS2:=Lib.hid hS2;clear hA2 hS2 hz hzb hti hgi hc hok3 hou3 hR2
     go_wp2_with (go_at_call 75;with_reducible refine HTA.out.mono ?_;rintro r w5 ⟨rfl,L5,hA5,hS5⟩);go_roundw
     case rel=>exact ⟨i+1,by omega,by go_num,Lib.hid ⟨L5,by rw [HTI.out,feed_app];exact hA5,HS2.out.trans hS5⟩⟩
     case measure=>simp [intOf];omega
    ·obtain rfl:i=m:=by omega
     have t2:¬(i:Int)<(i:Int):=by omega
     obtain ⟨Lq,hA2,hS2⟩:=hR2.out
     have e:pl.take i=pl:=List.take_of_length_le (by rw [HM.out];exact Nat.le_refl _);rw [e,←HX.out,←feed_app,←HTK.out] at hA2
     have HA2:=Lib.hid hA2;have HS2:=Lib.hid (HS.out.trans hS2);clear hA2 hS2 e hR2;go_wp2_with fail;go_roundw
     case rel=>exact ⟨k+1,by omega,by go_num,Lib.hid ⟨Lq,HA2.out,HS2.out⟩⟩
     case measure=>simp [intOf];omega
  ·obtain rfl:k=n:=by omega
   have t1:¬(k:Int)<(k:Int):=by omega
   obtain ⟨Lr,hA,hS⟩:=hR.out
   have e:ls.take k=ls:=List.take_of_length_le (by rw [HN.out];exact Nat.le_refl _);rw [e] at hA;obtain ⟨o,L2,c26,z26,hA2,hT2,hS2⟩:=hA.tell
   have HA2:=Lib.hid hA2;have HT2:=Lib.hid hT2;have HS2:=Lib.hid (hS.trans hS2);clear hA hS hR e hA2 hT2 hS2;go_wp2_with fail;go_ret;exact ⟨o,rfl,L2,HA2.out,HT2.out,HS2.out⟩
theorem errq_any {L:List (Option Nat)} {x:Q} (h:At w B g p b L x):Calls Tryz.prog 23 #[ptr g] w fun r w'=>r=.returned (.int .i64 (x.err:Int))∧w'=w:=by
 cases x with
 | live s=>
   obtain ⟨q,v,f,bd,t,o,rfl,h⟩:=h;exact err_any h.cs.c0
 | dead e out=>
   obtain ⟨o,rfl,h⟩:=h;exact err_any h.cell0
end code
end Go.Proofs.YtnabkcglnbdfeaaGreatDoor.Pg
namespace Go.Proofs.YtnabkcglnbdfeaaGreatDoor.Pg
open Go.RowKit Base Txt Mem Par
section code
set_option maxHeartbeats 4000000
set_option maxRecDepth 20000
attribute [local go_sem] Base.some_undef
variable {w:World} {B:Zone} {g q:Nat} {v f bd t o:Value} {p:Nat} {b:Bd} {s:T}
theorem enter_new (hp:p<4294967296) (hz:B.z= []) (hrow:w.heap[g]?=some (.cells ([.int .i64 0,.int .i64 0,nil,.string E0,.string E0,.int .i64 0,.int .i64 0,.bool false,.int .i64 0,nil,.bool false,nil,.int .i64 0,.int .u32 (p:Int),.int .i64 b.x0,.int .i64 b.x1,.int .i64 b.x2,.int .i64 b.x3,.int .i64 b.x4,.int .i64 b.x5,.int .i64 b.x6,.int .i64 b.x7,.bool b.ch,.bool b.od,.int .i64 0,.pointer none,nil]:List Value).toArray 55 (0,0))) (hB:B≤g):Calls Tryz.prog 72 #[ptr g,.int .i64 1,.int .i64 b.x0] w fun r w'=>
 r=.returned (.tuple #[])∧∃q1,PR w' B g q1 nil nil nil nil nil p b (T.new p b)∧Keeps [some g] w w':=by
 have hlt:=Ln.row_lt hrow
 have HR1:=Lib.hid (row_setL hrow 24 (.int .i64 1))
 have HK1:=Lib.hid (Keeps.set (w:=w) (L:= [some g]) g 24 (.int .i64 1) (by simp))
 have HLT:=Lib.hid (show g<(w.setCell ⟨g,24,none⟩ (.int .i64 1)).heap.size by simpa using hlt);have HB:=Lib.hid hB;have c24:=row_cellL hrow (k:=24) rfl;have z24:=Ln.row_frozen hrow 24;clear hrow hB hlt;go_enter Tryz.func72,Tryz.ntmps72;go_upto_region 1 with fail
 generalize w.setCell ⟨g,24,none⟩ (.int .i64 1)=W1 at *;clear c24 z24;have c13:W1.cell? ⟨g,13,none⟩=some (.int .u32 (p:Int)):=row_cellL HR1.out (k:=13) rfl
 have HNL:=Lib.hid (line_new hp B b.x0 W1 (Nat.le_trans HB.out (Nat.le_of_lt HLT.out)));go_wp2_with
  (go_at_call 115;with_reducible refine HNL.out.mono ?_;rintro r w8 ⟨q1,rfl,hq1,hr1,hb8⟩
   have hrow8:=(hb8.block g HLT.out).trans HR1.out;have d25:=row_cellL hrow8 (k:=25) rfl;have y25:=Ln.row_frozen hrow8 25;have HR8:=Lib.hid hrow8;have HD8:=Lib.hid hr1;have HQ8:=Lib.hid hq1;have HB8:=Lib.hid hb8;clear hb8 hr1 hq1 hrow8)
 go_end0;have hgq:g≠q1:=by have:=HLT.out;have:=HQ8.out;omega
 have hk:Keeps [some g] w8 (w8.setCell ⟨g,25,none⟩ (ptr q1)):=Keeps.set g 25 _ (by simp);refine ⟨rfl,q1,⟨row_setL HR8.out 25 (ptr q1),⟨⟨hk.row HD8.out.row (by simpa using fun e=>hgq e.symm),hk.own HD8.out.own (by simp [Value.ownBlock]),HD8.out.ge,HD8.out.ne⟩,World.ownsRow_nil _ _ _ _,World.ownsRow_nil _ _ _ _,World.ownsRow_nil _ _ _ _,⟨[],rfl,(by intro x hx;cases hx),World.ownsRow_nil _ _ _ _⟩,?_,HB.out,by have:=HLT.out;have:=HB8.out.size;simp;omega,by rw [hz];exact Clear.nil⟩⟩,(HK1.out.trans (Keeps.of_below HB8.out) Of.refl).trans hk Of.refl⟩;intro i j k hi hj;rcases i with _ | _ | _ | _ | _ | _ | _ | i<;>rcases j with _ | _ | _ | _ | _ | _ | _ | j<;>simp [Value.ownBlock] at hi hj ⊢<;>omega
theorem T.new_ok (p:Nat) (b:Bd):(T.new p b).Ok:=
 ⟨Ln.M.new_ok _ _ _ (Ln.mid_le _),rfl,⟨Nat.le_refl _,by show 1≤7;omega⟩,Nat.zero_le _,Nat.zero_le _,Nat.le_refl _,Nat.le_refl _,(by intro y hy;cases hy),(by intro y hy;cases hy),Nat.zero_le _,Nat.zero_le _,Nat.zero_le _,fun h=>(by cases h),fun _=>rfl,Nat.zero_le _⟩
theorem Q.new_ok (p:Nat) (b:Bd):(Q.new p b).Ok b:=by
 unfold Q.new;split
 ·rename_i h;simp only [Bool.and_eq_true] at h;exact ⟨T.new_ok p b,h.1⟩
 ·trivial
theorem dead_new {W:World} (hz:B.z= []) (hrow:W.heap[g]?=some (.cells ([.int .i64 20,.int .i64 0,nil,.string E0,.string E0,.int .i64 0,.int .i64 0,.bool false,.int .i64 0,nil,.bool false,nil,.int .i64 0,.int .u32 0,.int .i64 0,.int .i64 0,.int .i64 0,.int .i64 0,.int .i64 0,.int .i64 0,.int .i64 0,.int .i64 0,.bool false,.bool false,.int .i64 0,.pointer none,nil]:List Value).toArray 55 (0,0))) (hB:B≤g):At W B g p b [some g,none] (.dead 20 []):=
 ⟨nil,rfl,⟨hrow,⟨[],rfl,(by intro x hx;cases hx),World.ownsRow_nil _ _ _ _⟩,by simp [Value.ownBlock],hB,Ln.row_lt hrow,by decide,by rw [hz];exact Clear.nil⟩⟩
theorem new_any (hp:p<4294967296) (w:World):Calls Tryz.prog 18 #[.int .u32 (p:Int),.agg #[.int .i64 b.x0,.int .i64 b.x1,.int .i64 b.x2,.int .i64 b.x3,.int .i64 b.x4,.int .i64 b.x5,.int .i64 b.x6,.int .i64 b.x7,.bool b.ch,.bool b.od]] w fun r w'=>
 ∃g L',r=.returned (ptr g)∧w.heap.size≤g∧At w' ⟨w.heap.size,[]⟩ g p b L' (Q.new p b)∧Below w.heap.size w w':=by
 have hqr:=fun w=>Qk.right_any p hp w;have hbr:=fun w=>Bnd.right_any b.x0 b.x1 b.x2 b.x3 b.x4 b.x5 b.x6 b.x7 b.ch b.od w
 have HB0:=Lib.hid (((Below.refl _ _).alloc (Nat.le_refl _) (.cells #[.int .i64 b.x0,.int .i64 b.x1,.int .i64 b.x2,.int .i64 b.x3,.int .i64 b.x4,.int .i64 b.x5,.int .i64 b.x6,.int .i64 b.x7,.bool b.ch,.bool b.od] 29)):Below w.heap.size w _)
 have HZ0:=Lib.hid (Rec.Bk.new w w.heap.size rfl 29 [.int .i64 b.x0,.int .i64 b.x1,.int .i64 b.x2,.int .i64 b.x3,.int .i64 b.x4,.int .i64 b.x5,.int .i64 b.x6,.int .i64 b.x7,.bool b.ch,.bool b.od])
 have HSZ:=Lib.hid (show w.heap.size<(w.alloc (.cells #[.int .i64 b.x0,.int .i64 b.x1,.int .i64 b.x2,.int .i64 b.x3,.int .i64 b.x4,.int .i64 b.x5,.int .i64 b.x6,.int .i64 b.x7,.bool b.ch,.bool b.od] 29)).heap.size by simp);unfold Q.new;by_cases hP:p<1073741824
 ·rw [decide_eq_true hP] at hqr ⊢;rw [Bool.and_true];have HQR:=Lib.hid hqr;unfold Bd.right;cases hb:Bnd.right b.x0 b.x1 b.x2 b.x3 b.x4 b.x5 b.x6 b.x7 with
  | true=>
    rw [hb] at hbr;have HBR:=Lib.hid hbr;rw [if_pos rfl];clear hqr hbr hb hP;go_enter Tryz.func18,Tryz.ntmps18;go_upto_region 1 with fail
    generalize w.alloc (.cells #[.int .i64 b.x0,.int .i64 b.x1,.int .i64 b.x2,.int .i64 b.x3,.int .i64 b.x4,.int .i64 b.x5,.int .i64 b.x6,.int .i64 b.x7,.bool b.ch,.bool b.od] 29)=W0 at *;have y0:=HZ0.out.c 0 _ rfl;have y1:=HZ0.out.c 1 _ rfl;have y2:=HZ0.out.c 2 _ rfl;have y3:=HZ0.out.c 3 _ rfl;have y4:=HZ0.out.c 4 _ rfl;have y5:=HZ0.out.c 5 _ rfl;have y6:=HZ0.out.c 6 _ rfl;have y7:=HZ0.out.c 7 _ rfl;have y8:=HZ0.out.c 8 _ rfl;have y9:=HZ0.out.c 9 _ rfl
    go_upto_region 4 with (first
     |(go_at_call 71;with_reducible refine (HBR.out _).mono ?_;rintro r w3 ⟨rfl,hb3⟩
       have HB3:=Lib.hid hb3;have HZ3:=Lib.hid (HZ0.out.below hb3);have x0:=HZ3.out.c 0 _ rfl;have x1:=HZ3.out.c 1 _ rfl;have x2:=HZ3.out.c 2 _ rfl;have x3:=HZ3.out.c 3 _ rfl;have x4:=HZ3.out.c 4 _ rfl;have x5:=HZ3.out.c 5 _ rfl;have x6:=HZ3.out.c 6 _ rfl;have x7:=HZ3.out.c 7 _ rfl;have x8:=HZ3.out.c 8 _ rfl;have x9:=HZ3.out.c 9 _ rfl;clear hb3)
     |(go_at_call 70;with_reducible refine (HQR.out _).mono ?_;rintro r w2 ⟨rfl,hw⟩;rw [hw];clear hw))
    have HB4:=Lib.hid (Base.below_step HB0.out HB3.out)
    have HR4:=Lib.hid (heap_alloc_new w3 (.cells ([.int .i64 0,.int .i64 0,nil,.string E0,.string E0,.int .i64 0,.int .i64 0,.bool false,.int .i64 0,nil,.bool false,nil,.int .i64 0,.int .u32 (p:Int),.int .i64 b.x0,.int .i64 b.x1,.int .i64 b.x2,.int .i64 b.x3,.int .i64 b.x4,.int .i64 b.x5,.int .i64 b.x6,.int .i64 b.x7,.bool b.ch,.bool b.od,.int .i64 0,.pointer none,nil]:List Value).toArray 55))
    have HG:=Lib.hid (show w.heap.size≤w3.heap.size from Nat.le_trans (Nat.le_of_lt HSZ.out) HB3.out.size)
    have HBW:=Lib.hid (HB4.out.alloc HG.out (.cells ([.int .i64 0,.int .i64 0,nil,.string E0,.string E0,.int .i64 0,.int .i64 0,.bool false,.int .i64 0,nil,.bool false,nil,.int .i64 0,.int .u32 (p:Int),.int .i64 b.x0,.int .i64 b.x1,.int .i64 b.x2,.int .i64 b.x3,.int .i64 b.x4,.int .i64 b.x5,.int .i64 b.x6,.int .i64 b.x7,.bool b.ch,.bool b.od,.int .i64 0,.pointer none,nil]:List Value).toArray 55))
    have HX4:=Lib.hid ((HZ3.out.alloc (.cells ([.int .i64 0,.int .i64 0,nil,.string E0,.string E0,.int .i64 0,.int .i64 0,.bool false,.int .i64 0,nil,.bool false,nil,.int .i64 0,.int .u32 (p:Int),.int .i64 b.x0,.int .i64 b.x1,.int .i64 b.x2,.int .i64 b.x3,.int .i64 b.x4,.int .i64 b.x5,.int .i64 b.x6,.int .i64 b.x7,.bool b.ch,.bool b.od,.int .i64 0,.pointer none,nil]:List Value).toArray 55)).c 0 _ rfl)
    have HE:=Lib.hid (enter_new (B:=⟨w.heap.size,[]⟩) hp rfl HR4.out HG.out);clear y0 y1 y2 y3 y4 y5 y6 y7 y8 y9 x0 x1 x2 x3 x4 x5 x6 x7 x8 x9 HR4;have x0:=HX4.out
    go_wp2_with (go_at_call 72;with_reducible refine HE.out.mono ?_;rintro r w5 ⟨rfl,q1,hP,hK⟩);go_ret;exact ⟨_,_,rfl,HG.out,⟨_,_,_,_,_,_,rfl,hP⟩,HBW.out.trans (hK.below HBW.out.size (fun k hk=>by rw [Option.some.inj (List.mem_singleton.1 hk)];exact HG.out))⟩
  | false=>
    rw [hb] at hbr;have HBR:=Lib.hid hbr;rw [if_neg (by decide)];clear hqr hbr hb hP;go_enter Tryz.func18,Tryz.ntmps18;go_upto_region 1 with fail
    generalize w.alloc (.cells #[.int .i64 b.x0,.int .i64 b.x1,.int .i64 b.x2,.int .i64 b.x3,.int .i64 b.x4,.int .i64 b.x5,.int .i64 b.x6,.int .i64 b.x7,.bool b.ch,.bool b.od] 29)=W0 at *;have y0:=HZ0.out.c 0 _ rfl;have y1:=HZ0.out.c 1 _ rfl;have y2:=HZ0.out.c 2 _ rfl;have y3:=HZ0.out.c 3 _ rfl;have y4:=HZ0.out.c 4 _ rfl;have y5:=HZ0.out.c 5 _ rfl;have y6:=HZ0.out.c 6 _ rfl;have y7:=HZ0.out.c 7 _ rfl;have y8:=HZ0.out.c 8 _ rfl;have y9:=HZ0.out.c 9 _ rfl
    go_wp2_with (first
     |(go_at_call 71;with_reducible refine (HBR.out _).mono ?_;rintro r w3 ⟨rfl,hb3⟩
       have HB3:=Lib.hid hb3;clear hb3)
     |(go_at_call 70;with_reducible refine (HQR.out _).mono ?_;rintro r w2 ⟨rfl,hw⟩;rw [hw];clear hw))
    go_ret;have hg:=Nat.le_trans (Nat.le_of_lt HSZ.out) HB3.out.size;exact ⟨_,_,rfl,hg,dead_new (B:=⟨w.heap.size,[]⟩) rfl (heap_alloc_new w3 (.cells ([.int .i64 20,.int .i64 0,nil,.string E0,.string E0,.int .i64 0,.int .i64 0,.bool false,.int .i64 0,nil,.bool false,nil,.int .i64 0,.int .u32 0,.int .i64 0,.int .i64 0,.int .i64 0,.int .i64 0,.int .i64 0,.int .i64 0,.int .i64 0,.int .i64 0,.bool false,.bool false,.int .i64 0,.pointer none,nil]:List Value).toArray 55)) hg,(Base.below_step HB0.out HB3.out).alloc hg _⟩
 ·rw [decide_eq_false hP] at hqr ⊢;rw [Bool.and_false,if_neg (by decide)];have HQR:=Lib.hid hqr;clear hqr hbr hP;go_enter Tryz.func18,Tryz.ntmps18;go_upto_region 1 with fail
  generalize w.alloc (.cells #[.int .i64 b.x0,.int .i64 b.x1,.int .i64 b.x2,.int .i64 b.x3,.int .i64 b.x4,.int .i64 b.x5,.int .i64 b.x6,.int .i64 b.x7,.bool b.ch,.bool b.od] 29)=W0 at *
  go_wp2_with (go_at_call 70;with_reducible refine (HQR.out _).mono ?_;rintro r w2 ⟨rfl,hw⟩;rw [hw];clear hw);go_ret;have hg:=Nat.le_of_lt HSZ.out;exact ⟨_,_,rfl,hg,dead_new (B:=⟨w.heap.size,[]⟩) rfl (heap_alloc_new W0 (.cells ([.int .i64 20,.int .i64 0,nil,.string E0,.string E0,.int .i64 0,.int .i64 0,.bool false,.int .i64 0,nil,.bool false,nil,.int .i64 0,.int .u32 0,.int .i64 0,.int .i64 0,.int .i64 0,.int .i64 0,.int .i64 0,.int .i64 0,.int .i64 0,.int .i64 0,.bool false,.bool false,.int .i64 0,.pointer none,nil]:List Value).toArray 55)) hg,HB0.out.alloc hg _⟩
end code
end Go.Proofs.YtnabkcglnbdfeaaGreatDoor.Pg
namespace Go.Proofs.YtnabkcglnbdfeaaGreatDoor.Pg
open Go.RowKit Base Txt Mem Par
theorem told_ok {b:Bd} {x:Q} (h:x.Ok b):x.told.Ok b:=by
 cases x with
 | live t=>exact ⟨⟨h.1.rd,h.1.nf,h.1.st,h.1.hl,h.1.bl,h.1.fsl,h.1.tsl,h.1.fss,h.1.tss,h.1.m,h.1.x,h.1.body,h.1.left,h.1.early,h.1.size⟩,h.2⟩
 | dead e o=>trivial
section code
set_option maxHeartbeats 4000000
set_option maxRecDepth 20000
attribute [local go_sem] Base.some_undef
variable {w:World} {B:Zone} {g q:Nat} {v f bd t o:Value} {p:Nat} {b:Bd} {s:T}
end code
theorem flat_at:∀(ps:List (Array Value × Rec.R)),(∀x∈ps,x.1.size=7)→∀k (hk:k<ps.length) j,j<7→(ps.flatMap (·.1.toList))[k*7+j]?=ps[k].1.toList[j]?
 | [],_,k,hk,_,_=>by cases hk
 | x::ps,h,0,_,j,hj=>by
   have hx:x.1.toList.length=7:=by simpa using h x (by simp)
   rw [List.flatMap_cons,List.getElem?_append_left (by omega),Nat.zero_mul,Nat.zero_add];rfl
 | x::ps,h,k+1,hk,j,hj=>by
   have hx:x.1.toList.length=7:=by simpa using h x (by simp)
   rw [List.flatMap_cons,List.getElem?_append_right (by omega),hx,show (k+1)*7+j-7=k*7+j by omega];exact flat_at ps (fun y hy=>h y (by simp [hy])) k (by simpa using hk) j hj
theorem Told.at {L:List (Option Nat)} {B:Zone} {w:World} {o:Value} {out:List Rec.R} (h:Told L B w o out):∃a c,o=.slice a out.length c∧(0<out.length→∃bk,a=some ⟨bk,0,none⟩∧bk<w.heap.size∧
 ∀k (hk:k<out.length),∃fa fc ba bc ta tc,Flds w fa out[k].fs.length out[k].fs∧Nums .u8 w ba out[k].body.length (out[k].body.map fun c=>(c.toNat:Int))∧Flds w ta out[k].ts.length out[k].ts∧
  w.cell? ⟨bk,k*7,none⟩=some (.string out[k].m)∧w.cell? ⟨bk,k*7+1,none⟩=some (.string out[k].x)∧w.cell? ⟨bk,k*7+2,none⟩=some (.int .i64 out[k].k)∧w.cell? ⟨bk,k*7+3,none⟩=some (.slice fa out[k].fs.length fc)∧
  w.cell? ⟨bk,k*7+4,none⟩=some (.bool out[k].ch)∧w.cell? ⟨bk,k*7+5,none⟩=some (.slice ba out[k].body.length bc)∧w.cell? ⟨bk,k*7+6,none⟩=some (.slice ta out[k].ts.length tc)):=by
 obtain ⟨ps,h1,h2,h3⟩:=h.outs;obtain ⟨a,c,e, -⟩:=Ln.own_slice h3;subst e;refine ⟨a,c,rfl,fun h0=>?_⟩;obtain ⟨bk,cf,hform, -,hlt⟩:=h3.form h0;simp only [Value.slice.injEq,true_and] at hform;obtain ⟨rfl,rfl⟩:=hform;refine ⟨bk,rfl,hlt,fun k hk=>?_⟩;have hkp:k<ps.length:=by rw [←h1,List.length_map] at hk;exact hk
 have hr:out[k]=ps[k].2:=by simp [←h1]
 obtain ⟨h7,hF⟩:=h2 ps[k] (List.getElem_mem hkp);obtain ⟨fa,fc,ba,bc,ta,tc,hV,f1,f2,f3⟩:=hF.reads;have hcs:ps[k].1= #[.string ps[k].2.m,.string ps[k].2.x,.int .i64 ps[k].2.k,.slice fa ps[k].2.fs.length fc,.bool ps[k].2.ch,.slice ba ps[k].2.body.length bc,.slice ta ps[k].2.ts.length tc]:=by injection hV
 have key:∀j,j<7→w.cell? ⟨bk,k*7+j,none⟩=ps[k].1.toList[j]?:=by
  intro j hj
  have hc:=h3.cellAt (k*7+j) (by omega);have e:(ps.flatMap (·.1.toList))[k*7+j]?=ps[k].1.toList[j]?:=flat_at ps (fun x hx=>(h2 x hx).1) k hkp j hj;exact hc.trans e
 rw [hr];rw [hcs] at key;exact ⟨fa,fc,ba,bc,ta,tc,f1,f2,f3,key 0 (by decide),key 1 (by decide),key 2 (by decide),key 3 (by decide),key 4 (by decide),key 5 (by decide),key 6 (by decide)⟩
end Go.Proofs.YtnabkcglnbdfeaaGreatDoor.Pg
namespace Go.Proofs.YtnabkcglnbdfeaaGreatDoor.By
open Go.RowKit Base
def Bytes (w:World) (g:Nat) (l:List UInt8):Prop:=∀j (h:j<l.length),w.cell? ⟨g,j,none⟩=some (.int .u8 (l[j].toNat:Int))∧w.frozen? ⟨g,j,none⟩=false
end Go.Proofs.YtnabkcglnbdfeaaGreatDoor.By
namespace Go.Proofs.YtnabkcglnbdfeaaGreatDoor.Pg
open Go.RowKit Base Txt Mem Par
abbrev usual:Bd:=⟨1024,32,8192,65536,32,8,4,20,true,true⟩
abbrev bdV (b:Bd):Value:=.agg #[.int .i64 b.x0,.int .i64 b.x1,.int .i64 b.x2,.int .i64 b.x3,.int .i64 b.x4,.int .i64 b.x5,.int .i64 b.x6,.int .i64 b.x7,.bool b.ch,.bool b.od]
def RecAt (w:World) (bk j:Nat) (r:Rec.R):Prop:=∃fa fc ba bc ta tc,Flds w fa r.fs.length r.fs∧Nums .u8 w ba r.body.length (r.body.map fun c=>(c.toNat:Int))∧Flds w ta r.ts.length r.ts∧
 w.cell? ⟨bk,j,none⟩=some (.string r.m)∧w.cell? ⟨bk,j+1,none⟩=some (.string r.x)∧w.cell? ⟨bk,j+2,none⟩=some (.int .i64 r.k)∧w.cell? ⟨bk,j+3,none⟩=some (.slice fa r.fs.length fc)∧
 w.cell? ⟨bk,j+4,none⟩=some (.bool r.ch)∧w.cell? ⟨bk,j+5,none⟩=some (.slice ba r.body.length bc)∧w.cell? ⟨bk,j+6,none⟩=some (.slice ta r.ts.length tc)
def Said (w:World) (o:Value) (out:List Rec.R):Prop:=∃a c,o=.slice a out.length c∧(0<out.length→∃bk,a=some ⟨bk,0,none⟩∧bk<w.heap.size∧∀k (hk:k<out.length),RecAt w bk (k*7) out[k])
theorem Told.said {L:List (Option Nat)} {B:Zone} {w:World} {o:Value} {out:List Rec.R} (h:Told L B w o out):Said w o out:=h.at
abbrev bytesV (l:List UInt8):Array Value:=(l.map fun c=>Value.int .u8 (c.toNat:Int)).toArray
theorem Bts.lit {L:List (Option Nat)} {w:World} (hin:In w L) (l:List UInt8) (V:Array Value) (hV:V=bytesV l) (ty:TypeId) (fr:Nat × Nat):Bts L (w.alloc (.cells V ty fr)) (some ⟨w.heap.size,0,none⟩) l:=by
 subst hV;refine ⟨⟨by simp,fun h0=>⟨w.heap.size,0,rfl,by simp,fun k hk=>?_⟩⟩,fun ad e=>?_⟩
 ·rw [Nat.zero_add,cell_of_row _ _ k _ ty fr (heap_alloc_new _ _)];simp [bytesV,hk]
 ·obtain rfl:ad=⟨w.heap.size,0,none⟩:=by simpa using e.symm
  exact ⟨fun hm=>by have:w.heap.size<w.heap.size:=hin _ hm;omega,by simp⟩
theorem Bts.alloc {L:List (Option Nat)} {w:World} {a:Option Addr} {l:List UInt8} (h:Bts L w a l) (o:Obj):Bts L (w.alloc o) a l:=h.step (Step.of_below ((Below.refl _ _).alloc (Nat.le_refl _) _))
theorem in_alloc {L:List (Option Nat)} {w:World} (h:In w L) (o:Obj):In (w.alloc o) L:=h.mono (by simp)
end Go.Proofs.YtnabkcglnbdfeaaGreatDoor.Pg
namespace Go.Proofs.YtnabkcglnbdfeaaGreatDoor.Each
open Go.RowKit Base Mem Par
structure Thing (A A':World→List (Option Nat)→Prop):Prop where
 keeps:∀{w w':World} {L M:List (Option Nat)},A w L→Keeps M w w'→(∀k,some k∈L→some k∉M)→A w' L
 keeps':∀{w w':World} {L M:List (Option Nat)},A' w L→Keeps M w w'→(∀k,some k∈L→some k∉M)→A' w' L
 inn:∀{w:World} {L:List (Option Nat)},A w L→In w L
 inn':∀{w:World} {L:List (Option Nat)},A' w L→In w L
 uniq:∀{w:World} {L L':List (Option Nat)},(A w L∨A' w L)→(A w L'∨A' w L')→L=L'
theorem Thing.now {A A':World→List (Option Nat)→Prop} (h:Thing A A') {w w':World} {L M:List (Option Nat)} (hA:A w L∨A' w L) (hk:Keeps M w w') (hd:∀k,some k∈L→some k∉M):A w' L∨A' w' L:=
 hA.imp (fun h1=>h.keeps h1 hk hd) (fun h1=>h.keeps' h1 hk hd)
theorem Thing.in {A A':World→List (Option Nat)→Prop} (h:Thing A A') {w:World} {L:List (Option Nat)} (hA:A w L∨A' w L):In w L:=hA.elim h.inn h.inn'
def Dis (L M:List (Option Nat)):Prop:=∀k,some k∈L→some k∉M
theorem Dis.symm {L M:List (Option Nat)} (h:Dis L M):Dis M L:=fun k hM hL=>h k hL hM
theorem Dis.of {W:World} {L M M':List (Option Nat)} (h:Dis L M) (hin:In W L) (ho:Of W M M'):Dis L M':=fun k hL hM=>by
 rcases ho k hM with e | e
 ·exact h k hL e
 ·have:=hin k hL;omega
section
variable {P:Program} {l:List Oper} {Q:Exit→Act→World→Prop} {fs:List Fact} {a0:Act} {ds:List Nat}
variable (A A' C C':World→List (Option Nat)→Prop) (L1 L2:List (Option Nat)) (i1 i2:Nat) (W:World)
structure Two (b:Array Bool) (w:World):Prop where
 keeps:Keeps (L1++L2) W w
 both:∃M1 M2,(A' w M1∧b.getD i1 false=true∨A w M1∧M1=L1)∧(C' w M2∧b.getD i2 false=true∨C w M2∧M2=L2)∧Dis M1 M2∧Of W L1 M1∧Of W L2 M2
def RTwo (k:Nat) (w w':World):Prop:=
 if k=i1 then w'=w∨∃M1,A' w' M1∧Step L1 M1 w w' else if k=i2 then w'=w∨∃M2,C' w' M2∧Step L2 M2 w w' else Below w.heap.size w w'
variable {A A' C C' L1 L2 i1 i2 W}
theorem Two.step (hA:Thing A A') (hC:Thing C C') (h12:i1≠i2) {b:Array Bool} {k:Nat} {w w':World} (hks:k<b.size) (hbk:b.getD k false=false) (h:Two A A' C C' L1 L2 i1 i2 W b w) (hR:RTwo A' C' L1 L2 i1 i2 k w w'):Two A A' C C' L1 L2 i1 i2 W (b.setIfInBounds k true) w':=by
 obtain ⟨hk,M1,M2,h1,h2,h3,h4,h5⟩:=h
 have hin1:In w M1:=h1.elim (fun h=>hA.inn' h.1) (fun h=>hA.inn h.1)
 have hin2:In w M2:=h2.elim (fun h=>hC.inn' h.1) (fun h=>hC.inn h.1);have g1:(b.setIfInBounds k true).getD i1 false=if i1=k then true else b.getD i1 false:=get_set b k i1 hks
 have g2:(b.setIfInBounds k true).getD i2 false=if i2=k then true else b.getD i2 false:=get_set b k i2 hks
 have up1:b.getD i1 false=true→(b.setIfInBounds k true).getD i1 false=true:=fun e=>by rw [g1,e];split<;>rfl
 have up2:b.getD i2 false=true→(b.setIfInBounds k true).getD i2 false=true:=fun e=>by rw [g2,e];split<;>rfl
 unfold RTwo at hR;by_cases e1:k=i1
 ·rw [if_pos e1] at hR;subst e1;have h1':A w M1∧M1=L1:=by
   rcases h1 with ⟨-,h⟩ | h
   ·rw [hbk] at h;cases h
   ·exact h
  rcases hR with rfl | ⟨M1',hA',hs⟩
  ·exact ⟨hk,M1,M2,.inr h1',h2.imp (fun h=>⟨h.1,up2 h.2⟩) id,h3,h4,h5⟩
  ·have e:=h1'.2;subst e;have hd:Dis M2 M1':=h3.symm.of hin2 hs.of
   exact ⟨hk.trans (hs.keeps.mono fun k hk=>List.mem_append_left _ hk) Of.refl,M1',M2,.inl ⟨hA',by rw [g1,if_pos rfl]⟩,
    h2.imp (fun h=>⟨hC.keeps' h.1 hs.keeps h3.symm,up2 h.2⟩) (fun h=>⟨hC.keeps h.1 hs.keeps h3.symm,h.2⟩),hd.symm,h4.trans hs.of hk.size,h5⟩
 ·rw [if_neg e1] at hR;by_cases e2:k=i2
  ·rw [if_pos e2] at hR;subst e2;have h2':C w M2∧M2=L2:=by
    rcases h2 with ⟨-,h⟩ | h
    ·rw [hbk] at h;cases h
    ·exact h
   rcases hR with rfl | ⟨M2',hC',hs⟩
   ·exact ⟨hk,M1,M2,h1.imp (fun h=>⟨h.1,up1 h.2⟩) id,.inr h2',h3,h4,h5⟩
   ·have e:=h2'.2;subst e;have hd:Dis M1 M2':=h3.of hin1 hs.of
    exact ⟨hk.trans (hs.keeps.mono fun k hk=>List.mem_append_right _ hk) Of.refl,M1,M2',h1.imp (fun h=>⟨hA.keeps' h.1 hs.keeps h3,up1 h.2⟩) (fun h=>⟨hA.keeps h.1 hs.keeps h3,h.2⟩),
     .inl ⟨hC',by rw [g2,if_pos rfl]⟩,hd,h4,h5.trans hs.of hk.size⟩
  ·rw [if_neg e2] at hR;have hkb:Keeps [] w w':=Keeps.of_below hR
   exact ⟨hk.trans hkb (fun k hk=>by cases hk),M1,M2,h1.imp (fun h=>⟨hA.keeps' h.1 hkb (by simp),up1 h.2⟩) (fun h=>⟨hA.keeps h.1 hkb (by simp),h.2⟩),
    h2.imp (fun h=>⟨hC.keeps' h.1 hkb (by simp),up2 h.2⟩) (fun h=>⟨hC.keeps h.1 hkb (by simp),h.2⟩),h3,h4,h5⟩
theorem fine_two {k:Nat} {o:Oper} {f:Fact} (h1:k≠i1) (h2:k≠i2) (hg:o.guard=none) (h:∀(ev:Operand→Value) (w:World),Reads a0 ds ev→Keeps (L1++L2) W w→has l fs ev w o.after.toList→Goes P o ev f w) :
 FineR P l fs (RTwo A' C' L1 L2 i1 i2) (Two A A' C C' L1 L2 i1 i2 W) a0 ds k o f:=
 fun ev _ w hr hK _ hh=>⟨fun _=>(h ev w hr hK.keeps hh).gen fun w' hb=>by unfold RTwo;rw [if_neg h1,if_neg h2];exact hb,fun hw=>by simp [Region.wanted,hg] at hw⟩
theorem fine_first {o:Oper} {f:Fact} (hg:o.guard=none) (h:∀(ev:Operand→Value) (w:World) (M2:List (Option Nat)),Reads a0 ds ev→Keeps (L1++L2) W w→A w L1→(C w M2∨C' w M2)→Dis L1 M2→has l fs ev w o.after.toList→
 GoesR P o ev f (fun w w'=>∃M1,A' w' M1∧Step L1 M1 w w') w) :
 FineR P l fs (RTwo A' C' L1 L2 i1 i2) (Two A A' C C' L1 L2 i1 i2 W) a0 ds i1 o f:=by
 intro ev b w hr hK hb hh;refine ⟨fun _=>?_,fun hw=>by simp [Region.wanted,hg] at hw⟩;obtain ⟨hk,M1,M2,h1,h2,h3,h4,h5⟩:=hK;have h1':A w M1∧M1=L1:=by
  rcases h1 with ⟨-,h⟩ | h
  ·rw [hb] at h;cases h
  ·exact h
 have e:=h1'.2;subst e;have hR:RTwo A' C' M1 L2 i1 i2 i1=fun w w'=>w'=w∨∃M1',A' w' M1'∧Step M1 M1' w w':=by funext w w';unfold RTwo;rw [if_pos rfl]
 rw [hR];cases h ev w M2 hr hk h1'.1 (h2.elim (fun h=>.inr h.1) (fun h=>.inl h.1)) h3 hh with
 | value v w' hrun hb hf=>exact .value v w' hrun (.inr hb) hf
 | enter g args hrun hc=>
   refine .enter g args hrun (hc.mono ?_);rintro e w' ⟨v,rfl,hb,hfv⟩;exact ⟨v,rfl,.inr hb,hfv⟩
theorem fine_second {o:Oper} {f:Fact} (h12:i1≠i2) (hg:o.guard=none) (h:∀(ev:Operand→Value) (w:World) (M1:List (Option Nat)),Reads a0 ds ev→Keeps (L1++L2) W w→C w L2→(A w M1∨A' w M1)→Dis L2 M1→has l fs ev w o.after.toList→
 GoesR P o ev f (fun w w'=>∃M2,C' w' M2∧Step L2 M2 w w') w) :
 FineR P l fs (RTwo A' C' L1 L2 i1 i2) (Two A A' C C' L1 L2 i1 i2 W) a0 ds i2 o f:=by
 intro ev b w hr hK hb hh;refine ⟨fun _=>?_,fun hw=>by simp [Region.wanted,hg] at hw⟩;obtain ⟨hk,M1,M2,h1,h2,h3,h4,h5⟩:=hK;have h2':C w M2∧M2=L2:=by
  rcases h2 with ⟨-,h⟩ | h
  ·rw [hb] at h;cases h
  ·exact h
 have e:=h2'.2;subst e;have hR:RTwo A' C' L1 M2 i1 i2 i2=fun w w'=>w'=w∨∃M2',C' w' M2'∧Step M2 M2' w w':=by funext w w';unfold RTwo;rw [if_neg h12.symm,if_pos rfl]
 rw [hR];cases h ev w M1 hr hk h2'.1 (h1.elim (fun h=>.inr h.1) (fun h=>.inl h.1)) h3.symm hh with
 | value v w' hrun hb hf=>exact .value v w' hrun (.inr hb) hf
 | enter g args hrun hc=>
   refine .enter g args hrun (hc.mono ?_);rintro e w' ⟨v,rfl,hb,hfv⟩;exact ⟨v,rfl,.inr hb,hfv⟩
def waits (l:List Oper) (k j:Nat):Bool:=match l[k]? with
 | some o=>o.after.toList.any fun e=>Region.binds .any e&&e.on==j
 | none=>false
def LastsTwo (l:List Oper) (A' C':World→List (Option Nat)→Prop) (L1 L2:List (Option Nat)) (i1 i2 k:Nat) (f:Fact):Prop:=
 (∀v w w',Below w.heap.size w w'→f v w→f v w')∧(k≠i1→waits l k i1=false→∀v w w' M1,A' w' M1→Step L1 M1 w w'→f v w→f v w')∧(k≠i2→waits l k i2=false→∀v w w' M2,C' w' M2→Step L2 M2 w w'→f v w→f v w')
theorem LastsTwo.pure (k:Nat) (p:Value→Prop):LastsTwo l A' C' L1 L2 i1 i2 k (fun v _=>p v):=⟨fun _ _ _ _ h=>h,fun _ _ _ _ _ _ _ _ h=>h,fun _ _ _ _ _ _ _ _ h=>h⟩
theorem LastsTwo.keeps {k:Nat} {f:Fact} (h:∀v w w' M,(∀k,some k∈M→some k∈L1++L2)→Keeps M w w'→f v w→f v w'):LastsTwo l A' C' L1 L2 i1 i2 k f:=
 ⟨fun v w w' hb hf=>h v w w' [] (by intro k hk;cases hk) (Keeps.of_below hb) hf,fun _ _ v w w' _ _ hs hf=>h v w w' L1 (fun _ hk=>List.mem_append_left _ hk) hs.keeps hf,fun _ _ v w w' _ _ hs hf=>h v w w' L2 (fun _ hk=>List.mem_append_right _ hk) hs.keeps hf⟩
def EveryTwo (l:List Oper) (A' C':World→List (Option Nat)→Prop) (L1 L2:List (Option Nat)) (i1 i2:Nat):Nat→List Fact→Prop
 | _,[]=>True
 | k,f::fs=>LastsTwo l A' C' L1 L2 i1 i2 k f∧EveryTwo l A' C' L1 L2 i1 i2 (k+1) fs
theorem everyTwo_at:∀{fs:List Fact} {n:Nat},EveryTwo l A' C' L1 L2 i1 i2 n fs→∀(k:Nat) (f:Fact),fs[k]?=some f→LastsTwo l A' C' L1 L2 i1 i2 (n+k) f
 | [],_,_,k,f,hf=>by simp at hf
 | g::fs,n,h,0,f,hf=>by simp at hf;subst hf;exact h.1
 | g::fs,n,h,k+1,f,hf=>by
   have:=everyTwo_at h.2 k f (by simpa using hf);rw [show n+(k+1)=n+1+k by omega];exact this
def AllTwo (P:Program) (l:List Oper) (fs:List Fact) (R:Nat→World→World→Prop) (K:Array Bool→World→Prop) (a0:Act) (ds:List Nat):Nat→List Oper→List Fact→Prop
 | k,o::os,f::gs=>FineR P l fs R K a0 ds k o f∧AllTwo P l fs R K a0 ds (k+1) os gs
 | _,_,_=>True
theorem allTwo_at {R:Nat→World→World→Prop} {K:Array Bool→World→Prop}:∀{os:List Oper} {gs:List Fact} {n:Nat},AllTwo P l fs R K a0 ds n os gs→∀(k:Nat) (o:Oper) (f:Fact),os[k]?=some o→gs[k]?=some f→FineR P l fs R K a0 ds (n+k) o f
 | [],_,_,_,k,o,f,ho,hf=>by simp at ho
 | _ :: _,[],_,_,k,o,f,ho,hf=>by simp at hf
 | _ :: _,_ :: _,_,h,0,o,f,ho,hf=>by simp at ho hf;subst ho hf;exact h.1
 | _ :: _,_ :: _,n,h,k+1,o,f,ho,hf=>by
   have:=allTwo_at h.2 k o f (by simpa using ho) (by simpa using hf);rw [show n+(k+1)=n+1+k by omega];exact this
theorem region_two (m:Nat) (ds:List Nat) (fs:List Fact) (i1 i2:Nat) {id:Nat} {a0:Act} {w:World} (hA:Thing A A') (hC:Thing C C') (hA0:A w L1) (hC0:C w L2) (hd:Dis L1 L2)
 (hmo:P.follows .mixedOrders=true) (hg:good l m ds [] (l.length-m)=true) (hns:Region.noSelect l.toArray=true)
 (hp:Tree.fits l.toArray .done (l.length-m) (fill l.length m [])=true) (hQ:∀c a d v w,Q (.panic c) (Act.put a d v) w→Q (.panic c) a w)
 (hsz:ds.all (fun d=>decide (d<a0.tmps.size))=true) (hlen:fs.length=m) (hi:(decide (i1<m)&&(decide (i2<m)&&decide (i1≠i2)))=true) (hlast:EveryTwo l A' C' L1 L2 i1 i2 0 fs)
 (hfine:AllTwo P l fs (RTwo A' C' L1 L2 i1 i2) (Two A A' C C' L1 L2 i1 i2 (w.drewN 1)) a0 ds 0 l fs)
 (hrest:∀(g:Nat→Value) (w':World) (M1 M2:List (Option Nat)),(A w' M1∨A' w' M1)→(C w' M2∨C' w' M2)→Dis M1 M2→Of w L1 M1→Of w L2 M2→Keeps (L1++L2) w w'→facts g w' ds fs→Q .normal (putg g ds a0) w'):(Code.region id l.toArray true).wp P Q a0 w:=by
 simp only [Bool.and_eq_true,decide_eq_true_eq] at hi;obtain ⟨hi1,hi2,h12⟩:=hi
 have hbd:Keeps [] w (w.drewN 1):=Keeps.of_below (Base.below_drewN (Below.refl w.heap.size w) 1);have hml:m≤l.length:=by simp only [good,Bool.and_eq_true,decide_eq_true_eq] at hg;exact hg.1
 refine region_gen (K:=fun b w'=>b.size=l.length∧Two A A' C C' L1 L2 i1 i2 (w.drewN 1) b w') (R:=RTwo A' C' L1 L2 i1 i2) m ds fs [] (l.length-m) .done hmo hg hns hp hQ hsz hlen
  ⟨by simp,Keeps.refl,L1,L2,.inr ⟨hA.keeps hA0 hbd (by simp),rfl⟩,.inr ⟨hC.keeps hC0 hbd (by simp),rfl⟩,hd,Of.refl,Of.refl⟩
  (fun b k w1 w2 hk hbk hK hR=>⟨by simp [hK.1],hK.2.step hA hC h12 (by rw [hK.1];omega) hbk hR⟩) (fun k w=>?_) (fun k j f hf hjk hwt v w1 w2 hR hv=>?_) trivial (fun k o f ho hf _ ev b w1 hr hK hb hh=>?_) (fun g w' hK hf=>?_)
 ·unfold RTwo;split
  ·exact .inl rfl
  ·split
   ·exact .inl rfl
   ·exact Below.refl _ _
 ·have:=everyTwo_at hlast k f hf;rw [Nat.zero_add] at this;obtain ⟨l1,l2,l3⟩:=this;have hw0:∀i,j=i→waits l k i=false:=by
   intro i hi;unfold waits;cases ho:l[k]? with
   | none=>rfl
   | some o=>
     rw [Bool.eq_false_iff];intro hh;obtain ⟨e,he,h2⟩:=List.any_eq_true.1 hh;rw [Bool.and_eq_true,beq_iff_eq] at h2
     exact hwt o ho e he h2.1 (h2.2.trans hi.symm)
  unfold RTwo at hR;split at hR
  ·rename_i e;rcases hR with rfl | ⟨M1,h1,h2⟩
   ·exact hv
   ·exact l2 (by omega) (hw0 _ e) v w1 w2 M1 h1 h2 hv
  ·split at hR
   ·rename_i e;rcases hR with rfl | ⟨M2,h1,h2⟩
    ·exact hv
    ·exact l3 (by omega) (hw0 _ e) v w1 w2 M2 h1 h2 hv
   ·exact l1 v w1 w2 hR hv
 ·have:=allTwo_at hfine k o f ho hf;rw [Nat.zero_add] at this;exact this ev b w1 hr hK.2 hb hh
 ·obtain ⟨-,hk,M1,M2,h1,h2,h3,h4,h5⟩:=hK;rw [Tree.grow];have hof:∀{L M:List (Option Nat)},Of (w.drewN 1) L M→Of w L M:=fun h k hk=>h k hk
  exact Tree.done (hrest g w' M1 M2 (h1.elim (fun h=>.inr h.1) (fun h=>.inl h.1)) (h2.elim (fun h=>.inr h.1) (fun h=>.inl h.1)) h3 (hof h4) (hof h5) (Keeps.trans (hbd.mono fun k hk=>by cases hk) hk Of.refl) hf)
end
end Go.Proofs.YtnabkcglnbdfeaaGreatDoor.Each
namespace Go.Proofs.YtnabkcglnbdfeaaGreatDoor.Pg
open Go.RowKit Base Txt Mem Par Each
section
variable {w w':World} {B:Zone} {g q:Nat} {v f bd t o:Value} {p:Nat} {b:Bd} {L M:List (Option Nat)} {x:Q} {rd:Ln.M} {fs ts:List Fld} {body:List UInt8}
theorem outs_nil (h:Outs L B w o []):w.ownsRow B 58 7 o 0 []:=by obtain ⟨ps,h1,h2,h3⟩:=h;have hps:ps= []:=List.map_eq_nil_iff.1 h1;subst hps;exact h3
theorem outs_of {L':List (Option Nat)} {B':Zone} (h:w.ownsRow B'.b 58 7 o 0 []):Outs L' B' w o []:=⟨[],rfl,(by intro x hx;cases hx),h⟩
theorem Own.keeps (h:Own w B g q v f bd t o rd fs body ts []) (hk:Keeps M w w') (hd:Dis (blks g q v f bd t o) M):Own w' B g q v f bd t o rd fs body ts []:=
 ⟨⟨hk.row h.R.row (hd q (by simp)),hk.own h.R.own fun k e=>hd k (by simp [←e]),h.R.ge,h.R.ne⟩,hk.own h.F fun k e=>hd k (by simp [←e]),hk.own h.D fun k e=>hd k (by simp [←e]),hk.own h.TR fun k e=>hd k (by simp [←e]),
   outs_of (hk.own (outs_nil h.O) fun k e=>hd k (by simp [←e])),h.lone,h.ge,Nat.lt_of_lt_of_le h.lt hk.size,h.zone.of hk.size Of.refl⟩
theorem Own.rezone (h:Own w B g q v f bd t o rd fs body ts []) {Z:List (Option Nat)} (hz:Clear w Z (blks g q v f bd t o)):Own w ⟨B.b,Z⟩ g q v f bd t o rd fs body ts []:=
 ⟨h.R,h.F,h.D,h.TR,outs_of (outs_nil (B:=B) h.O),h.lone,h.ge,h.lt,hz⟩
theorem At.keeps (h:At w B g p b L x) (ho:x.out= []) (hk:Keeps M w w') (hd:Dis L M):At w' B g p b L x:=by
 cases x with
 | live s=>
   obtain ⟨q,v,f,bd,t,o,rfl,h1,h2⟩:=h;have ho:s.out= []:=ho;rw [ho] at h2;refine ⟨q,v,f,bd,t,o,rfl,hk.row h1 (hd g (by simp)),?_⟩;rw [ho];exact h2.keeps hk hd
 | dead e out=>
   obtain ⟨o,rfl,h⟩:=h;have ho:out= []:=ho;subst ho;exact ⟨o,rfl,hk.row h.row (hd g (by simp)),outs_of (hk.own (outs_nil h.O) fun k e=>hd k (by simp [←e])),h.ne,h.ge,Nat.lt_of_lt_of_le h.lt hk.size,h.bad,h.zone.of hk.size Of.refl⟩
theorem At.rezone (h:At w B g p b L x) (ho:x.out= []) {Z:List (Option Nat)} (hz:Clear w Z L):At w ⟨B.b,Z⟩ g p b L x:=by
 cases x with
 | live s=>
   obtain ⟨q,v,f,bd,t,o,rfl,h1,h2⟩:=h;have ho:s.out= []:=ho;rw [ho] at h2;refine ⟨q,v,f,bd,t,o,rfl,h1,?_⟩;rw [ho];exact h2.rezone hz
 | dead e out=>
   obtain ⟨o,rfl,h⟩:=h;have ho:out= []:=ho;subst ho;exact ⟨o,rfl,h.row,outs_of (outs_nil (B:=B) h.O),h.ne,h.ge,h.lt,h.bad,hz⟩
theorem cells_inj {a c:List Value} {ty:TypeId} {fr:Nat × Nat} (h1:w.heap[g]?=some (.cells a.toArray ty fr)) (h2:w.heap[g]?=some (.cells c.toArray ty fr)):a=c:=by have h3:=h1.symm.trans h2;simp only [Option.some.injEq,Obj.cells.injEq,and_true] at h3;simpa using h3
theorem At.uniq {B':Zone} {p':Nat} {b':Bd} {x':Q} {L':List (Option Nat)} (h:At w B g p b L x) (h':At w B' g p' b' L' x'):L=L':=by
 cases x with
 | live s=>
   obtain ⟨q,v,f,bd,t,o,rfl,h1,h2⟩:=h;cases x' with
   | live s'=>
     obtain ⟨q',v',f',bd',t',o',rfl,h1',h2'⟩:=h';have e:=cells_inj h1 h1';have e2:f=f':=(List.cons.inj (List.cons.inj (List.cons.inj e).2).2).1
     have e9:t=t':=Option.some.inj (congrArg (fun l:List Value=>l[9]?) e)
     have e11:bd=bd':=Option.some.inj (congrArg (fun l:List Value=>l[11]?) e)
     have e25:ptr q=ptr q':=Option.some.inj (congrArg (fun l:List Value=>l[25]?) e)
     have e26:o=o':=Option.some.inj (congrArg (fun l:List Value=>l[26]?) e);have eq:q=q':=by simpa using e25
     subst eq e2 e9 e11 e26;have hr:=h2.R.row.symm.trans h2'.R.row;have ev:v=v':=by simp only [Option.some.injEq,Obj.cells.injEq,and_true] at hr;have h9:=congrArg (fun a:Array Value=>a.toList) hr;simp at h9;exact h9.2.2.2.1
     rw [ev]
   | dead e' out'=>
     obtain ⟨o',rfl,h'⟩:=h';have e:=cells_inj h1 h'.row
     have e25:ptr q=.pointer none:=Option.some.inj (congrArg (fun l:List Value=>l[25]?) e);cases e25
 | dead e out=>
   obtain ⟨o,rfl,h⟩:=h;cases x' with
   | live s'=>
     obtain ⟨q',v',f',bd',t',o',rfl,h1',h2'⟩:=h';have e:=cells_inj h.row h1'
     have e25:Value.pointer none=ptr q':=Option.some.inj (congrArg (fun l:List Value=>l[25]?) e);cases e25
   | dead e' out'=>
     obtain ⟨o',rfl,h'⟩:=h';have e:=cells_inj h.row h'.row
     have e26:o=o':=Option.some.inj (congrArg (fun l:List Value=>l[26]?) e);rw [e26]
theorem obj_at {B:Zone} {g p p':Nat} {b b':Bd} {x x':Q} (hx:x.out= []) (hx':x'.out= []):Thing (fun w L=>∃Z,At w ⟨B.b,Z⟩ g p b L x) (fun w L=>∃Z,At w ⟨B.b,Z⟩ g p' b' L x') where
 keeps:=fun ⟨Z,h⟩ hk hd=>⟨Z,h.keeps hx hk hd⟩
 keeps':=fun ⟨Z,h⟩ hk hd=>⟨Z,h.keeps hx' hk hd⟩
 inn:=fun ⟨_,h⟩=>h.in
 inn':=fun ⟨_,h⟩=>h.in
 uniq:=fun h h'=>by rcases h with ⟨_,h⟩ | ⟨_,h⟩<;>rcases h' with ⟨_,h'⟩ | ⟨_,h'⟩<;>exact h.uniq h'
theorem Told.keeps {out:List Rec.R} (h:Told L B w o out) (hk:Keeps M w w') (hM:∀k,some k∈M→some k∈B.z):Told L B w' o out:=by obtain ⟨ps,h1,h2,h3⟩:=h.outs;refine ⟨⟨ps,h1,fun x hx=>⟨(h2 x hx).1,?_⟩,hk.own h3 fun k e hm=>h.off k e (hM k hm)⟩,fun k e=>⟨(h.far k e).1,Nat.lt_of_lt_of_le (h.far k e).2 hk.size⟩,h.off⟩;have hf:=(h2 x hx).2;have hf2:Far M B.z w (.agg x.1) x.2:=⟨hf.reads,fun k hb=>⟨fun hm=>hf.off k hb (hM k hm),(hf.far k hb).2⟩,hf.off⟩;have:=hf2.keeps hk;exact ⟨this.reads,fun k hb=>⟨(hf.far k hb).1,(this.far k hb).2⟩,hf.off⟩
theorem Told.rezone {out:List Rec.R} (h:Told L B w o out) {Z:List (Option Nat)} (hZ:∀k,some k∈Z→some k∈B.z∨w.heap.size≤k):Told L ⟨B.b,Z⟩ w o out:=by
 obtain ⟨ps,h1,h2,h3⟩:=h.outs;refine ⟨⟨ps,h1,fun x hx=>⟨(h2 x hx).1,(h2 x hx).2.reads,(h2 x hx).2.far,fun k hb hz=>?_⟩,h3⟩,h.far,fun k e hz=>?_⟩
 ·rcases hZ k hz with e | e
  ·exact (h2 x hx).2.off k hb e
  ·have:=((h2 x hx).2.far k hb).2;omega
 ·rcases hZ k hz with e1 | e1
  ·exact h.off k e e1
  ·have:=(h.far k e).2;omega
end
end Go.Proofs.YtnabkcglnbdfeaaGreatDoor.Pg
namespace Go.Proofs.YtnabkcglnbdfeaaGreatDoor.Flt
open Go.RowKit Base Txt Mem Par Pg Each
abbrev fcells (g1 g2:Nat) (code:Nat) (pt:Bool):List Value:= [ptr g1,ptr g2,.int .i64 (code:Int),.bool pt]
structure FAt (w:World) (B g g1 g2 p:Nat) (b:Bd) (L1 L2:List (Option Nat)) (f:F):Prop where
 row:w.heap[g]?=some (.cells (fcells g1 g2 f.code f.parted).toArray 80 (0,0))
 x:∃Z,At w ⟨B,Z⟩ g1 0 b L1 f.x
 y:∃Z,At w ⟨B,Z⟩ g2 p b L2 f.y
 dis:Dis L1 L2
 n1:some g∉L1
 n2:some g∉L2
 ge:B≤g
 xo:f.x.out= []
 yo:f.y.out= []
 xk:f.x.Ok b
 yk:f.y.Ok b
abbrev fblks (g:Nat) (L1 L2:List (Option Nat)):List (Option Nat):=some g::(L1++L2)
section
variable {w w':World} {B g g1 g2 p:Nat} {b:Bd} {L1 L2 M:List (Option Nat)} {f:F}
theorem FAt.keeps (h:FAt w B g g1 g2 p b L1 L2 f) (hk:Keeps M w w') (hd:Dis (fblks g L1 L2) M):FAt w' B g g1 g2 p b L1 L2 f:=
 ⟨hk.row h.row (hd g (by simp)),h.x.imp fun _ h1=>h1.keeps h.xo hk fun k hk=>hd k (by simp [hk]),h.y.imp fun _ h1=>h1.keeps h.yo hk fun k hk=>hd k (by simp [hk]),h.dis,h.n1,h.n2,h.ge,h.xo,h.yo,h.xk,h.yk⟩
theorem FAt.in (h:FAt w B g g1 g2 p b L1 L2 f):In w (fblks g L1 L2):=by
 intro k hk;obtain ⟨_,hx⟩:=h.x;obtain ⟨_,hy⟩:=h.y;simp only [List.mem_cons,List.mem_append,Option.some.injEq] at hk;rcases hk with rfl | hk | hk
 ·exact Ln.row_lt h.row
 ·exact hx.in k hk
 ·exact hy.in k hk
theorem FAt.low (h:FAt w B g g1 g2 p b L1 L2 f):∀k,some k∈fblks g L1 L2→B≤k:=by
 intro k hk;obtain ⟨_,hx⟩:=h.x;obtain ⟨_,hy⟩:=h.y;simp only [List.mem_cons,List.mem_append,Option.some.injEq] at hk;rcases hk with rfl | hk | hk
 ·exact h.ge
 ·exact hx.low k hk
 ·exact hy.low k hk
structure Fix (M:List (Option Nat)) (w:World) (g:Nat) (cs:List Value):Prop where
 row:∃ty,w.heap[g]?=some (.cells cs.toArray ty (0,0))
 off:some g∉M
theorem Fix.below {cs:List Value} (h:Fix M w g cs) (hk:Keeps M w w'):Fix M w' g cs:=⟨h.row.imp fun _ h1=>hk.row h1 h.off,h.off⟩
theorem Fix.c {cs:List Value} (h:Fix M w g cs) (k:Nat) (v:Value) (hv:cs[k]?=some v):w.cell? ⟨g,k,none⟩=some v:=by obtain ⟨_,h1⟩:=h.row;exact row_cellL h1 hv
def OneBy (M:List (Option Nat)) (a:Option Addr) (c:Nat):Fact:=fun v w=>∃k,v=.slice (some ⟨k,0,none⟩) 1 1∧k<w.heap.size∧some k∉M∧w.cell? ⟨k,0,none⟩=some (.slice a 1 c)
theorem OneBy.lasts {l:List Oper} {A' C':World→List (Option Nat)→Prop} {i1 i2 k:Nat} {a:Option Addr} {c:Nat}:LastsTwo l A' C' L1 L2 i1 i2 k (OneBy (L1++L2) a c):=
 LastsTwo.keeps fun _ _ _ _ hM hk ⟨j,e,h1,h2,h3⟩=>⟨j,e,Nat.lt_of_lt_of_le h1 hk.size,h2,(hk.cell (p:=⟨j,0,none⟩) h1 fun hm=>h2 (hM j hm)).trans h3⟩
def ToldBy (A' C C':World→List (Option Nat)→Prop) (L2 Z:List (Option Nat)) (B:Nat) (out:List Rec.R):Fact:=fun v w=>∃M1 M2,A' w M1∧(C w M2∨C' w M2)∧Dis M1 L2∧Pg.Told M1 ⟨B,L2++(M2++Z)⟩ w v out
variable {A A' C C':World→List (Option Nat)→Prop} {Z:List (Option Nat)} {out:List Rec.R} {i1 i2 k:Nat} {l:List Oper}
theorem ToldBy.below (hA:Thing A A') (hC:Thing C C') {v:Value} (h:ToldBy A' C C' L2 Z B out v w) (hb:Below w.heap.size w w'):ToldBy A' C C' L2 Z B out v w':=by obtain ⟨M1,M2,h1,h2,h3,h4⟩:=h;have hk:Keeps [] w w':=Keeps.of_below hb;exact ⟨M1,M2,hA.keeps' h1 hk (by simp),hC.now h2 hk (by simp),h3,h4.keeps hk (by simp)⟩
theorem ToldBy.step (hA:Thing A A') {v:Value} (h:ToldBy A' C C' L2 Z B out v w) {M:List (Option Nat)} (hM:C' w' M) (hs:Step L2 M w w'):ToldBy A' C C' L2 Z B out v w':=by
 obtain ⟨M1,M2,h1,h2,h3,h4⟩:=h;have h5:Pg.Told M1 ⟨B,L2++(M++Z)⟩ w v out:=h4.rezone fun k hk=>by
  rw [List.mem_append,List.mem_append] at hk;show some k∈L2++(M2++Z)∨_;rw [List.mem_append,List.mem_append];rcases hk with hk | hk | hk
  ·exact .inl (.inl hk)
  ·exact (hs.of k hk).imp .inl id
  ·exact .inl (.inr (.inr hk))
 exact ⟨M1,M,hA.keeps' h1 hs.keeps h3,.inr hM,h3,h5.keeps hs.keeps fun k hk=>List.mem_append_left _ hk⟩
theorem ToldBy.first (hA:Thing A A') (hC:Thing C C') (hk:k=i1∨waits l k i1=true):LastsTwo l A' C' L1 L2 i1 i2 k (ToldBy A' C C' L2 Z B out):=
 ⟨fun _ _ _ hb h=>h.below hA hC hb,fun h1 h2=>absurd hk (by rw [h2];simpa using h1),fun _ _ _ _ _ _ hM hs h=>h.step hA hM hs⟩
theorem ToldBy.second (hA:Thing A A') (hC:Thing C C') (hk:k=i2∨waits l k i2=true):LastsTwo l A' C' L1 L2 i1 i2 k (ToldBy C' A A' L1 Z B out):=
 ⟨fun _ _ _ hb h=>h.below hC hA hb,fun _ _ _ _ _ _ hM hs h=>h.step hC hM hs,fun h1 h2=>absurd hk (by rw [h2];simpa using h1)⟩
theorem told_widen {B:Zone} {L L':List (Option Nat)} {v:Value} (h:Pg.Told L B w v out) (hL:∀k,some k∈L'→some k∈L∨some k∈B.z):Pg.Told L' B w v out:=by
 obtain ⟨ps,h1,h2,h3⟩:=h.outs;refine ⟨⟨ps,h1,fun x hx=>⟨(h2 x hx).1,(h2 x hx).2.reads,fun k hb=>⟨fun hm=>?_,((h2 x hx).2.far k hb).2⟩,(h2 x hx).2.off⟩,h3⟩,fun k e=>⟨fun hm=>?_,(h.far k e).2⟩,h.off⟩
 ·rcases hL k hm with e | e
  ·exact ((h2 x hx).2.far k hb).1 e
  ·exact (h2 x hx).2.off k hb e
 ·rcases hL k hm with e1 | e1
  ·exact (h.far k e).1 e1
  ·exact h.off k e e1
theorem told_recs {B:Zone} {L:List (Option Nat)} {v:Value} (h:Pg.Told L B w v out):∃a c,v=.slice a out.length c∧Rec.Recs w a out.length out:=by
 obtain ⟨a,c,e,hc⟩:=h.at;refine ⟨a,c,e,rfl,fun h0=>?_⟩;obtain ⟨bk,e1,hlt,h1⟩:=hc h0;refine ⟨bk,0,e1,hlt,fun k hk=>?_⟩;obtain ⟨fa,fc,ba,bc,ta,tc,f1,f2,f3,c0,c1,c2,c3,c4,c5,c6⟩:=h1 k hk;have e2:out[k]?.getD Rec.r0=out[k]:=by rw [List.getElem?_eq_getElem hk];rfl
 rw [e2,Nat.zero_add];exact ⟨fa,fc,ba,bc,ta,tc,⟨c0,c1,c2,c3,c4,c5,c6⟩,fa,fc,ba,bc,ta,tc,rfl,f1,f2,f3⟩
theorem OneBy.made {W w1:World} (hin:∀k,some k∈M→k<W.heap.size) (hk:Keeps M W w1) (a:Option Addr) (c:Nat) (ty:TypeId):OneBy M a c (.slice (some ⟨w1.heap.size,0,none⟩) 1 1) (w1.alloc (.cells #[.slice a 1 c] ty)):=by
 refine ⟨w1.heap.size,rfl,by simp,fun hm=>?_,?_⟩
 ·have:=hin _ hm;have:=hk.size;omega
 ·exact (cell_of_row (w1.alloc (.cells #[.slice a 1 c] ty)) w1.heap.size 0 _ ty (0,0) (heap_alloc_new w1 _)).trans rfl
theorem clear_app {Z Z' L:List (Option Nat)} (h:Clear w Z L) (h':Clear w Z' L):Clear w (Z++Z') L:=
 ⟨fun k hk=>(List.mem_append.1 hk).elim (h.inz k) (h'.inz k),fun k hk hz=>(List.mem_append.1 hz).elim (h.off k hk) (h'.off k hk)⟩
theorem clear_cons {Z L:List (Option Nat)} (hg:g<w.heap.size) (hn:some g∉L) (h:Clear w Z L):Clear w (some g::Z) L:=
 ⟨fun k hk=>by
   rcases List.mem_cons.1 hk with e | e
   ·cases e;exact hg
   ·exact h.inz k e,fun k hk hz=>by
   rcases List.mem_cons.1 hz with e | e
   ·cases e;exact hn hk
   ·exact h.off k hk e⟩
theorem clear_dis {Z L:List (Option Nat)} (hin:In w Z) (hd:Dis L Z):Clear w Z L:=⟨hin,hd⟩
theorem clear_sub {Z L L':List (Option Nat)} (h:Clear w Z L) (hs:∀k,some k∈L'→some k∈L):Clear w Z L':=⟨h.inz,fun k hk=>h.off k (hs k hk)⟩
theorem bts_sub {L L':List (Option Nat)} {a:Option Addr} {s:List UInt8} (h:Bts L w a s) (hs:∀k,some k∈L'→some k∈L):Bts L' w a s:=⟨h.nums,fun ad e=>⟨fun hm=>(h.far ad e).1 (hs _ hm),(h.far ad e).2⟩⟩
theorem bts_keeps {L:List (Option Nat)} {a:Option Addr} {s:List UInt8} (h:Bts L w a s) (hk:Keeps L w w'):Bts L w' a s:=h.step ⟨hk,Of.refl⟩
theorem feed_one {X:Q} {Z:List (Option Nat)} {L:List (Option Nat)} (hp:p<4294967296) (hA:At w ⟨B,Z⟩ g p b L X) (xo:X.out= []) (xk:X.Ok b) (k:Nat) {a:Option Addr} {c:Nat} {ch:UInt8} (hc:w.cell? ⟨k,0,none⟩=some (.slice a 1 c)) (hk:k<w.heap.size) (hkL:some k∉L)
 (hbt:Bts L w a [ch]) (Z':List (Option Nat)) (hz:Clear w Z' L):Calls Tryz.prog 20 #[ptr g,.slice (some ⟨k,0,none⟩) 1 1] w fun r w'=>∃v L',r=.returned v∧At w' ⟨B,Z'⟩ g p b L' (X.byte p b ch).told∧Pg.Told L' ⟨B,Z'⟩ w' v (X.byte p b ch).out∧Step L L' w w':=by
 have hpa:Parts L w (some ⟨k,0,none⟩) [[ch]]:=⟨fun _=>⟨k,0,rfl,hk,hkL,fun j hj=>by
  obtain rfl:j=0:=by have:j<1:=hj;omega
  exact ⟨a,c,hc,hbt⟩⟩⟩
 have:=feed_any hp X (hA.rezone xo hz) xk (some ⟨k,0,none⟩) 1 [[ch]] hpa (by simp) (by rw [xo];simp);exact this
theorem told_nil (L:List (Option Nat)) (B:Zone) (w:World):Pg.Told L B w (.slice none 0 0) []:=⟨⟨[],rfl,(by intro x hx;cases hx),World.ownsRow_nil _ _ _ _⟩,(fun k e=>by cases e),(fun k e=>by cases e)⟩
end
end Go.Proofs.YtnabkcglnbdfeaaGreatDoor.Flt
