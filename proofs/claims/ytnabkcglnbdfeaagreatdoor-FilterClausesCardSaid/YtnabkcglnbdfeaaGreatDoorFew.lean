import Derived.Test.YtnabkcglnbdfeaaGreatDoorFev
namespace Go.Proofs.YtnabkcglnbdfeaaGreatDoor.Can
open Go.RowKit Base Txt Par Pg
section code
set_option maxHeartbeats 4000000
set_option maxRecDepth 100000
attribute [local go_sem] Base.some_undef
theorem rchunked_any (V:Value) (r:Rec.R) (w:World) (h:Rec.Reads w V r):Calls Tryz.prog 65 #[V] w fun e w'=>e=.returned (.bool (decide (r.ts≠ [])))∧Below w.heap.size w w':=by
 obtain ⟨fa,fc,ba,bc,ta,tc,rfl,h1,h2,h3⟩:=h;clear h1 h2 h3;have e0:decide (r.ts≠ [])=decide (0<r.ts.length):=by
  rcases r.ts with _ | ⟨a,l⟩
  ·rfl
  ·simp
 rw [e0];clear e0;generalize r.ts.length=n;generalize r.fs.length=n1;generalize r.body.length=n2;go_enter Tryz.func65,Tryz.ntmps65;go_wp2_with fail;go_ret;exact ⟨rfl,(Below.refl _ _).alloc (Nat.le_refl _) _⟩
theorem rfields17_any (V:Value) (r:Rec.R) (w:World) (h:Rec.Reads w V r) (hl:r.fs.length≤100000) (hf:∀f∈r.fs,f.1.size≤1000000000) (hn:r.body.length≤1000000000) :
 Calls Tryz.prog 63 #[V] w fun e w'=>∃a c,e=.returned (.slice a (fieldsV r.m r.fs r.body r.ts).length c)∧Flds w' a (fieldsV r.m r.fs r.body r.ts).length (fieldsV r.m r.fs r.body r.ts)∧Below w.heap.size w w'∧w'.ownsRow w.heap.size 126 2 (.slice a (fieldsV r.m r.fs r.body r.ts).length c) (fieldsV r.m r.fs r.body r.ts).length (cells (fieldsV r.m r.fs r.body r.ts)):=by
 obtain ⟨fa,fc,ba,bc,ta,tc,rfl,h1,h2,h3⟩:=h;have hR:Rec.Reads w (.agg #[.string r.m,.string r.x,.int .i64 r.k,.slice fa r.fs.length fc,.bool r.ch,.slice ba r.body.length bc,.slice ta r.ts.length tc]) r:=⟨fa,fc,ba,bc,ta,tc,rfl,h1,h2,h3⟩;obtain ⟨W1,hW1⟩:∃W1,W1=(w.alloc (.cells #[.string r.m,.string r.x,.int .i64 r.k,.slice fa r.fs.length fc,.bool r.ch,.slice ba r.body.length bc,.slice ta r.ts.length tc] 58)):=⟨_,rfl⟩;have hsz:W1.heap.size=w.heap.size+1:=by rw [hW1];simp
 have hb1:Below w.heap.size w W1:=by rw [hW1];exact (Below.refl _ _).alloc (Nat.le_refl _) _
 have HW:Hid (∀wk,Below W1.heap.size W1 wk→Below w.heap.size w wk):=Lib.hid fun wk hb=>hb1.trans (hb.mono (by omega));have HQ:Hid (∀wk,Below W1.heap.size W1 wk→wk.cell? ⟨w.heap.size,0,none⟩=some (.string r.m)∧wk.cell? ⟨w.heap.size,1,none⟩=some (.string r.x)∧wk.cell? ⟨w.heap.size,2,none⟩=some (.int .i64 r.k)∧wk.cell? ⟨w.heap.size,3,none⟩=some (.slice fa r.fs.length fc)∧wk.cell? ⟨w.heap.size,4,none⟩=some (.bool r.ch)∧wk.cell? ⟨w.heap.size,5,none⟩=some (.slice ba r.body.length bc)∧wk.cell? ⟨w.heap.size,6,none⟩=some (.slice ta r.ts.length tc)):=Lib.hid fun wk hb=>by have key:∀i,wk.cell? ⟨w.heap.size,i,none⟩=W1.cell? ⟨w.heap.size,i,none⟩:=fun i=>hb.cell (p:=⟨w.heap.size,i,none⟩) (by show w.heap.size<W1.heap.size;omega);simp only [key];rw [hW1];refine ⟨?_,?_,?_,?_,?_,?_,?_⟩<;>simp
 have HC:=Lib.hid fun wk hb=>rchunked_any _ r wk (hR.below (HW.out wk hb))
 have HPU:=Lib.hid (fun w'=>Num.rput_any (r.body.length:Int) w' (by omega) (by omega));rw [Int.toNat_natCast] at HPU;rw [fields_frame];obtain ⟨X,hX⟩:∃X,without r.fs [Frm.clN,Frm.teN]=X:=⟨_,rfl⟩;have HWO:Hid (∀(wk:World) (b:Option Addr),Below W1.heap.size W1 wk→Strs wk b 2 [⟨#[67,111,110,116,101,110,116,45,76,101,110,103,116,104]⟩,⟨#[84,114,97,110,115,102,101,114,45,69,110,99,111,100,105,110,103]⟩]→Calls Tryz.prog 104 #[.slice fa r.fs.length fc,.slice b 2 2] wk fun e w2=>∃d k c,e=.returned (.slice d k c)∧k=X.length∧Flds w2 d k X∧Below wk.heap.size wk w2∧w2.ownsRow wk.heap.size 126 2 (.slice d k c) k (cells X)):=
  Lib.hid fun wk b hb hu=>hX ▸ rwithout_own fa _ fc r.fs b 2 2 [Frm.clN,Frm.teN] wk (h1.below (HW.out wk hb)) hu (by omega) (by decide) hf (by intro s hm;rcases (by simpa using hm:s=Frm.clN∨s=Frm.teN) with rfl | rfl<;>decide)
 have hXl:X.length≤100000:=by have:=List.length_filter_le (fun f:Fld=>!one [Frm.clN,Frm.teN] f.1) r.fs;rw [←hX];unfold without;omega
 have HXS:Hid (∀f∈X,f.1.size≤1000000000):=Lib.hid fun f hm=>by rw [←hX] at hm;exact hf f (List.mem_filter.1 hm).1
 rw [hX];clear hX h1 h2 h3 hf hR;obtain ⟨i0,hi,hz0,hz1,hz2⟩:=info_parts field_info;have G1:=Lib.hid hi;have G2:=Lib.hid hz0;have G3:=Lib.hid hz1;have G4:=Lib.hid hz2;clear hi hz0 hz1 hz2;obtain ⟨F,hF⟩:∃F,find X Frm.hostN=F:=⟨_,rfl⟩;have HF:Hid (∀(wk:World) (b:Option Addr) (c:Nat),Flds wk b X.length X→Calls Tryz.prog 105 #[.slice b X.length c,.string ⟨#[72,111,115,116]⟩] wk fun e w2=>∃b m c,e=.returned (.slice b m c)∧m=F.length∧Below wk.heap.size wk w2):=
  Lib.hid fun wk b c hv=>(rfind_any b _ c X Frm.hostN wk hv (by omega) HXS.out (by decide)).mono (by rintro e w2 ⟨b,m,c,h1,h2, -,h4⟩;exact ⟨b,m,c,h1,by rw [h2,hF],h4⟩)
 obtain ⟨H,hH⟩:∃H,hostA X=H:=⟨_,rfl⟩;have hHl:H.length≤100001:=by
  rw [←hH];unfold hostA;split
  ·rw [List.length_cons];omega
  ·omega
 have HH:Hid (H=if F= [] then (⟨#[72,111,115,116]⟩,⟨#[108,111,99,97,108,104,111,115,116]⟩)::X else X):=Lib.hid (by rw [←hH];unfold hostA;rw [hF];rfl);rw [hH];obtain ⟨Y,hY⟩:∃Y,frameV r.m.data.toList r.body r.ts=Y:=⟨_,rfl⟩;rw [hY];have HY:=Lib.hid hY;clear hF hH HXS hY;go_enter Tryz.func63,Tryz.ntmps63;go_upto_region 1 with fail
 rw [←hW1];have HSZ:=Lib.hid hsz
 have HBW:=Lib.hid (Below.refl W1.heap.size W1);have p3:=(HQ.out _ HBW.out).2.2.2.1;clear hW1 hb1 hsz
 go_upto_if 11 with (first
  |(go_at_call 105;with_reducible refine (HF.out _ _ _ HF2.out).mono ?_;rintro e w3 ⟨b3,m3,c3,rfl,rfl,hb3⟩
    have HB3:=Lib.hid (Base.below_step HB2.out hb3);have HO3:=Lib.hid (own_below HO2.out hb3);have HF3:=Lib.hid (HF2.out.below hb3);clear hb3)
  |(go_at_call 104;with_reducible refine (HWO.out _ _ ((Below.refl _ _).alloc (Nat.le_refl _) _) (Strs.two _ _ (by simp) _ _ _)).mono ?_;rintro e w2 ⟨d,k,c,rfl,rfl,hF2,hb2,ho2⟩
    have HB2:=Lib.hid (Base.below_step ((Below.refl _ _).alloc (Nat.le_refl _) _:Below W1.heap.size W1 _) hb2);have HO2:=Lib.hid (own_lower ho2 (base':=w.heap.size) (by have:=HSZ.out;simp;omega));have HF2:=Lib.hid hF2;clear hb2 ho2 hF2 p3))
 go_cut [3] from 12 to 15 (fun v wx=>∃(A:Option Addr) (cc:Nat),v=.slice A H.length cc∧Hid (wx.ownsRow w.heap.size 126 2 (.slice A H.length cc) H.length (cells H))∧Hid (Below W1.heap.size W1 wx))
 case first=>
  rcases F with _ | ⟨f0,F⟩
  ·have hHe:=HH.out;rw [if_pos rfl] at hHe
   go_wp2_with (at_builtin;refine App.wpList_append_list _ rfl _ _ 46 rfl w3.heap.size 126 i0 (.agg #[.string ByteArray.empty,.string ByteArray.empty]) 2 32 Tryz.underlying46 G1.out G2.out G3.out G4.out rfl (by decide) _ 1 [.string ⟨#[72,111,115,116]⟩,.string ⟨#[108,111,99,97,108,104,111,115,116]⟩] rfl (World.ownsRow_lit (base:=w3.heap.size) (e:=126) (size:=2) w3 #[.string ⟨#[72,111,115,116]⟩,.string ⟨#[108,111,99,97,108,104,111,115,116]⟩] 1 (Nat.le_refl _) (by decide) rfl) d X.length c (cells X) rfl (cells_length _) (cells_here (HF3.out.below ((Below.refl _ _).alloc (Nat.le_refl _) _))) (cells_one X) (by unfold maxLen;omega) (by omega) (by simp) ?_;intro v4 w4 hown4 hgr4 _ _
                have hgb4:Below w3.heap.size w3 w4:=((Below.refl _ _).alloc (Nat.le_refl _) _).grown hgr4 (by simp) (by intro k hk;have h9:w3.heap.size=k:=Option.some.inj hk;omega)
                have HB4:=Lib.hid (Base.below_step HB3.out hgb4)
                have HO4:=Lib.hid (show w4.ownsRow w3.heap.size 126 2 v4 (1+X.length) (cells ((⟨#[72,111,115,116]⟩,⟨#[108,111,99,97,108,104,111,115,116]⟩)::X)) from hown4);clear hown4 hgr4 hgb4)
   go_meet
   case rel=>have ho:=HO4.out;rw [←hHe,show 1+X.length=H.length by rw [hHe,List.length_cons];omega] at ho;obtain ⟨b4,c4,rfl⟩:=Rec.own_slice ho;exact ⟨b4,c4,rfl,Lib.hid (own_lower ho (HW.out _ HB3.out).size),HB4⟩
  ·have hHe:=HH.out;rw [if_neg (by simp)] at hHe;have hF0:¬(((f0::F).length:Nat):Int)=0:=by simp;omega
   clear HH;generalize (f0::F).length=nF at *;go_wp2_with fail;go_meet
   case rel=>exact ⟨d,c,by rw [hHe],by rw [hHe];exact HO3,HB3⟩
 case rest=>
 obtain ⟨Ac,cc,rfl,HOc,HBc⟩:=hcut;clear HH HO3 HO2 HF3 HF2 HB3 HB2 HF HWO hXl;obtain ⟨p0,p1,p2,p3,p4,p5,p6⟩:=HQ.out _ HBc.out;have hYe:=HY.out;unfold frameV at hYe;clear HY;by_cases ht:r.ts≠ []
 ·rw [decide_eq_true ht] at HC;rw [if_pos ht,show [(Frm.teN,Frm.chunked)]= [(⟨#[84,114,97,110,115,102,101,114,45,69,110,99,111,100,105,110,103]⟩,⟨#[99,104,117,110,107,101,100]⟩)] from rfl] at hYe;subst hYe;clear ht HPU
  go_wp2_with (first
   |(at_builtin;refine App.wpList_append_list _ rfl _ _ 46 rfl w.heap.size 126 i0 (.agg #[.string ByteArray.empty,.string ByteArray.empty]) 2 32 Tryz.underlying46 G1.out G2.out G3.out G4.out rfl (by decide) _ H.length (cells H) rfl (HO4.out.alloc (.cells #[.string ⟨#[84,114,97,110,115,102,101,114,45,69,110,99,111,100,105,110,103]⟩,.string ⟨#[99,104,117,110,107,101,100]⟩] 126)) (some ⟨w4.heap.size,0,none⟩) 1 1 (cells [(⟨#[84,114,97,110,115,102,101,114,45,69,110,99,111,100,105,110,103]⟩,⟨#[99,104,117,110,107,101,100]⟩)]) rfl rfl (cells_here (flds_one w4 126 ⟨#[84,114,97,110,115,102,101,114,45,69,110,99,111,100,105,110,103]⟩ ⟨#[99,104,117,110,107,101,100]⟩)) (cells_one _) (by unfold maxLen;omega) (by omega) (by have:=(HW.out _ HB4.out).size;simp;omega) ?_;intro v9 w9 hO9 hgr9 _ _;rw [←cells_append] at hO9
     have HB9:=Lib.hid (((HW.out _ HB4.out).alloc (HW.out _ HB4.out).size (.cells #[.string ⟨#[84,114,97,110,115,102,101,114,45,69,110,99,111,100,105,110,103]⟩,.string ⟨#[99,104,117,110,107,101,100]⟩] 126)).grown hgr9 (by have:=(HW.out _ HB4.out).size;simp;omega) (fun k hk=>(HO4.out.lt k hk).1));obtain ⟨b9,c9,rfl⟩:=Rec.own_slice hO9;have HO9:=Lib.hid hO9;clear hO9 hgr9)
   |(go_at_call 65;with_reducible refine (HC.out _ HBc.out).mono ?_;rintro e w4 ⟨rfl,hb4⟩
     obtain ⟨q0,q1,q2,q3,q4,q5,q6⟩:=HQ.out _ (Base.below_step HBc.out hb4)
     have HB4:=Lib.hid (Base.below_step HBc.out hb4);have HO4:=Lib.hid (own_below HOc.out hb4);clear hb4 p0 p1 p2 p3 p4 p5 p6))
  go_ret;obtain ⟨A,cc,e,hf⟩:=Flds.of_own HO9.out;simp only [Value.slice.injEq,true_and] at e;obtain ⟨rfl,rfl⟩:=e;exact ⟨b9,c9,by rw [List.length_append];rfl,by rw [List.length_append];exact hf,HB9.out,by rw [List.length_append];exact HO9.out⟩
 rw [decide_eq_false ht] at HC;rw [if_neg ht] at hYe;clear ht;by_cases hb:r.body≠ []
 ·rw [if_pos (.inl hb),show [(Frm.clN,lenV r.body.length)]= [(⟨#[67,111,110,116,101,110,116,45,76,101,110,103,116,104]⟩,Num.str (Num.spell 10 r.body.length))] from rfl] at hYe;subst hYe;have h0:0<r.body.length:=List.length_pos_iff.2 hb;clear hb
  go_wp2_with (first
   |(at_builtin;refine App.wpList_append_list _ rfl _ _ 46 rfl w.heap.size 126 i0 (.agg #[.string ByteArray.empty,.string ByteArray.empty]) 2 32 Tryz.underlying46 G1.out G2.out G3.out G4.out rfl (by decide) _ H.length (cells H) rfl (HO5.out.alloc (.cells #[.string ⟨#[67,111,110,116,101,110,116,45,76,101,110,103,116,104]⟩,.string (Num.str (Num.spell 10 r.body.length))] 126)) (some ⟨w5.heap.size,0,none⟩) 1 1 (cells [(⟨#[67,111,110,116,101,110,116,45,76,101,110,103,116,104]⟩,(Num.str (Num.spell 10 r.body.length)))]) rfl rfl (cells_here (flds_one w5 126 ⟨#[67,111,110,116,101,110,116,45,76,101,110,103,116,104]⟩ (Num.str (Num.spell 10 r.body.length)))) (cells_one _) (by unfold maxLen;omega) (by omega) (by have:=(HW.out _ HB5.out).size;simp;omega) ?_;intro v9 w9 hO9 hgr9 _ _;rw [←cells_append] at hO9
     have HB9:=Lib.hid (((HW.out _ HB5.out).alloc (HW.out _ HB5.out).size (.cells #[.string ⟨#[67,111,110,116,101,110,116,45,76,101,110,103,116,104]⟩,.string (Num.str (Num.spell 10 r.body.length))] 126)).grown hgr9 (by have:=(HW.out _ HB5.out).size;simp;omega) (fun k hk=>(HO5.out.lt k hk).1));obtain ⟨b9,c9,rfl⟩:=Rec.own_slice hO9;have HO9:=Lib.hid hO9;clear hO9 hgr9)
   |(go_at_call 106;with_reducible refine (HPU.out _).mono ?_;rintro e w5 ⟨rfl,m5,hw5⟩
     have hb5:Below w4.heap.size w4 w5:=by rw [hw5];exact Base.below_drewN (Below.refl _ _) m5
     have HB5:=Lib.hid (Base.below_step HB4.out hb5);have HO5:=Lib.hid (own_below HO4.out hb5);clear hb5 hw5 q0 q1 q2 q3 q4 q5 q6)
   |(go_at_call 65;with_reducible refine (HC.out _ HBc.out).mono ?_;rintro e w4 ⟨rfl,hb4⟩
     obtain ⟨q0,q1,q2,q3,q4,q5,q6⟩:=HQ.out _ (Base.below_step HBc.out hb4)
     have HB4:=Lib.hid (Base.below_step HBc.out hb4);have HO4:=Lib.hid (own_below HOc.out hb4);clear hb4 p0 p1 p2 p3 p4 p5 p6))
  go_ret;obtain ⟨A,cc,e,hf⟩:=Flds.of_own HO9.out;simp only [Value.slice.injEq,true_and] at e;obtain ⟨rfl,rfl⟩:=e;exact ⟨b9,c9,by rw [List.length_append];rfl,by rw [List.length_append];exact hf,HB9.out,by rw [List.length_append];exact HO9.out⟩
 have h0:¬0<r.body.length:=by rw [Decidable.not_not.1 hb];decide
 have HBN:=Lib.hid hb;clear hb;by_cases c0:r.m.data.toList= [80,79,83,84]
 ·rw [if_pos (.inr (by rw [c0];decide)),show [(Frm.clN,lenV r.body.length)]= [(⟨#[67,111,110,116,101,110,116,45,76,101,110,103,116,104]⟩,Num.str (Num.spell 10 r.body.length))] from rfl] at hYe;subst hYe;have k0:(r.m.toList == [80,79,83,84])=true:=by rw [Lib.toList_data,c0];decide
  clear c0 HBN
  go_wp2_with (first
   |(at_builtin;refine App.wpList_append_list _ rfl _ _ 46 rfl w.heap.size 126 i0 (.agg #[.string ByteArray.empty,.string ByteArray.empty]) 2 32 Tryz.underlying46 G1.out G2.out G3.out G4.out rfl (by decide) _ H.length (cells H) rfl (HO5.out.alloc (.cells #[.string ⟨#[67,111,110,116,101,110,116,45,76,101,110,103,116,104]⟩,.string (Num.str (Num.spell 10 r.body.length))] 126)) (some ⟨w5.heap.size,0,none⟩) 1 1 (cells [(⟨#[67,111,110,116,101,110,116,45,76,101,110,103,116,104]⟩,(Num.str (Num.spell 10 r.body.length)))]) rfl rfl (cells_here (flds_one w5 126 ⟨#[67,111,110,116,101,110,116,45,76,101,110,103,116,104]⟩ (Num.str (Num.spell 10 r.body.length)))) (cells_one _) (by unfold maxLen;omega) (by omega) (by have:=(HW.out _ HB5.out).size;simp;omega) ?_;intro v9 w9 hO9 hgr9 _ _;rw [←cells_append] at hO9
     have HB9:=Lib.hid (((HW.out _ HB5.out).alloc (HW.out _ HB5.out).size (.cells #[.string ⟨#[67,111,110,116,101,110,116,45,76,101,110,103,116,104]⟩,.string (Num.str (Num.spell 10 r.body.length))] 126)).grown hgr9 (by have:=(HW.out _ HB5.out).size;simp;omega) (fun k hk=>(HO5.out.lt k hk).1));obtain ⟨b9,c9,rfl⟩:=Rec.own_slice hO9;have HO9:=Lib.hid hO9;clear hO9 hgr9)
   |(go_at_call 106;with_reducible refine (HPU.out _).mono ?_;rintro e w5 ⟨rfl,m5,hw5⟩
     have hb5:Below w4.heap.size w4 w5:=by rw [hw5];exact Base.below_drewN (Below.refl _ _) m5
     have HB5:=Lib.hid (Base.below_step HB4.out hb5);have HO5:=Lib.hid (own_below HO4.out hb5);clear hb5 hw5 q0 q1 q2 q3 q4 q5 q6)
   |(go_at_call 65;with_reducible refine (HC.out _ HBc.out).mono ?_;rintro e w4 ⟨rfl,hb4⟩
     obtain ⟨q0,q1,q2,q3,q4,q5,q6⟩:=HQ.out _ (Base.below_step HBc.out hb4)
     have HB4:=Lib.hid (Base.below_step HBc.out hb4);have HO4:=Lib.hid (own_below HOc.out hb4);clear hb4 p0 p1 p2 p3 p4 p5 p6))
  go_ret;obtain ⟨A,cc,e,hf⟩:=Flds.of_own HO9.out;simp only [Value.slice.injEq,true_and] at e;obtain ⟨rfl,rfl⟩:=e;exact ⟨b9,c9,by rw [List.length_append];rfl,by rw [List.length_append];exact hf,HB9.out,by rw [List.length_append];exact HO9.out⟩
 have K0:=Lib.hid (show (r.m.toList == [80,79,83,84])=false by rw [Lib.toList_data,beq_eq_false_iff_ne];exact c0);by_cases c1:r.m.data.toList= [80,85,84]
 ·rw [if_pos (.inr (by rw [c1];decide)),show [(Frm.clN,lenV r.body.length)]= [(⟨#[67,111,110,116,101,110,116,45,76,101,110,103,116,104]⟩,Num.str (Num.spell 10 r.body.length))] from rfl] at hYe;subst hYe;have k0:=K0.out;have k1:(r.m.toList == [80,85,84])=true:=by rw [Lib.toList_data,c1];decide
  clear c1 HBN
  go_wp2_with (first
   |(at_builtin;refine App.wpList_append_list _ rfl _ _ 46 rfl w.heap.size 126 i0 (.agg #[.string ByteArray.empty,.string ByteArray.empty]) 2 32 Tryz.underlying46 G1.out G2.out G3.out G4.out rfl (by decide) _ H.length (cells H) rfl (HO5.out.alloc (.cells #[.string ⟨#[67,111,110,116,101,110,116,45,76,101,110,103,116,104]⟩,.string (Num.str (Num.spell 10 r.body.length))] 126)) (some ⟨w5.heap.size,0,none⟩) 1 1 (cells [(⟨#[67,111,110,116,101,110,116,45,76,101,110,103,116,104]⟩,(Num.str (Num.spell 10 r.body.length)))]) rfl rfl (cells_here (flds_one w5 126 ⟨#[67,111,110,116,101,110,116,45,76,101,110,103,116,104]⟩ (Num.str (Num.spell 10 r.body.length)))) (cells_one _) (by unfold maxLen;omega) (by omega) (by have:=(HW.out _ HB5.out).size;simp;omega) ?_;intro v9 w9 hO9 hgr9 _ _;rw [←cells_append] at hO9
     have HB9:=Lib.hid (((HW.out _ HB5.out).alloc (HW.out _ HB5.out).size (.cells #[.string ⟨#[67,111,110,116,101,110,116,45,76,101,110,103,116,104]⟩,.string (Num.str (Num.spell 10 r.body.length))] 126)).grown hgr9 (by have:=(HW.out _ HB5.out).size;simp;omega) (fun k hk=>(HO5.out.lt k hk).1));obtain ⟨b9,c9,rfl⟩:=Rec.own_slice hO9;have HO9:=Lib.hid hO9;clear hO9 hgr9)
   |(go_at_call 106;with_reducible refine (HPU.out _).mono ?_;rintro e w5 ⟨rfl,m5,hw5⟩
     have hb5:Below w4.heap.size w4 w5:=by rw [hw5];exact Base.below_drewN (Below.refl _ _) m5
     have HB5:=Lib.hid (Base.below_step HB4.out hb5);have HO5:=Lib.hid (own_below HO4.out hb5);clear hb5 hw5 q0 q1 q2 q3 q4 q5 q6)
   |(go_at_call 65;with_reducible refine (HC.out _ HBc.out).mono ?_;rintro e w4 ⟨rfl,hb4⟩
     obtain ⟨q0,q1,q2,q3,q4,q5,q6⟩:=HQ.out _ (Base.below_step HBc.out hb4)
     have HB4:=Lib.hid (Base.below_step HBc.out hb4);have HO4:=Lib.hid (own_below HOc.out hb4);clear hb4 p0 p1 p2 p3 p4 p5 p6))
  go_ret;obtain ⟨A,cc,e,hf⟩:=Flds.of_own HO9.out;simp only [Value.slice.injEq,true_and] at e;obtain ⟨rfl,rfl⟩:=e;exact ⟨b9,c9,by rw [List.length_append];rfl,by rw [List.length_append];exact hf,HB9.out,by rw [List.length_append];exact HO9.out⟩
 have K1:=Lib.hid (show (r.m.toList == [80,85,84])=false by rw [Lib.toList_data,beq_eq_false_iff_ne];exact c1);by_cases c2:r.m.data.toList= [80,65,84,67,72]
 ·rw [if_pos (.inr (by rw [c2];decide)),show [(Frm.clN,lenV r.body.length)]= [(⟨#[67,111,110,116,101,110,116,45,76,101,110,103,116,104]⟩,Num.str (Num.spell 10 r.body.length))] from rfl] at hYe;subst hYe;have k0:=K0.out;have k1:=K1.out;have k2:(r.m.toList == [80,65,84,67,72])=true:=by rw [Lib.toList_data,c2];decide
  clear c2 HBN
  go_wp2_with (first
   |(at_builtin;refine App.wpList_append_list _ rfl _ _ 46 rfl w.heap.size 126 i0 (.agg #[.string ByteArray.empty,.string ByteArray.empty]) 2 32 Tryz.underlying46 G1.out G2.out G3.out G4.out rfl (by decide) _ H.length (cells H) rfl (HO5.out.alloc (.cells #[.string ⟨#[67,111,110,116,101,110,116,45,76,101,110,103,116,104]⟩,.string (Num.str (Num.spell 10 r.body.length))] 126)) (some ⟨w5.heap.size,0,none⟩) 1 1 (cells [(⟨#[67,111,110,116,101,110,116,45,76,101,110,103,116,104]⟩,(Num.str (Num.spell 10 r.body.length)))]) rfl rfl (cells_here (flds_one w5 126 ⟨#[67,111,110,116,101,110,116,45,76,101,110,103,116,104]⟩ (Num.str (Num.spell 10 r.body.length)))) (cells_one _) (by unfold maxLen;omega) (by omega) (by have:=(HW.out _ HB5.out).size;simp;omega) ?_;intro v9 w9 hO9 hgr9 _ _;rw [←cells_append] at hO9
     have HB9:=Lib.hid (((HW.out _ HB5.out).alloc (HW.out _ HB5.out).size (.cells #[.string ⟨#[67,111,110,116,101,110,116,45,76,101,110,103,116,104]⟩,.string (Num.str (Num.spell 10 r.body.length))] 126)).grown hgr9 (by have:=(HW.out _ HB5.out).size;simp;omega) (fun k hk=>(HO5.out.lt k hk).1));obtain ⟨b9,c9,rfl⟩:=Rec.own_slice hO9;have HO9:=Lib.hid hO9;clear hO9 hgr9)
   |(go_at_call 106;with_reducible refine (HPU.out _).mono ?_;rintro e w5 ⟨rfl,m5,hw5⟩
     have hb5:Below w4.heap.size w4 w5:=by rw [hw5];exact Base.below_drewN (Below.refl _ _) m5
     have HB5:=Lib.hid (Base.below_step HB4.out hb5);have HO5:=Lib.hid (own_below HO4.out hb5);clear hb5 hw5 q0 q1 q2 q3 q4 q5 q6)
   |(go_at_call 65;with_reducible refine (HC.out _ HBc.out).mono ?_;rintro e w4 ⟨rfl,hb4⟩
     obtain ⟨q0,q1,q2,q3,q4,q5,q6⟩:=HQ.out _ (Base.below_step HBc.out hb4)
     have HB4:=Lib.hid (Base.below_step HBc.out hb4);have HO4:=Lib.hid (own_below HOc.out hb4);clear hb4 p0 p1 p2 p3 p4 p5 p6))
  go_ret;obtain ⟨A,cc,e,hf⟩:=Flds.of_own HO9.out;simp only [Value.slice.injEq,true_and] at e;obtain ⟨rfl,rfl⟩:=e;exact ⟨b9,c9,by rw [List.length_append];rfl,by rw [List.length_append];exact hf,HB9.out,by rw [List.length_append];exact HO9.out⟩
 have K2:=Lib.hid (show (r.m.toList == [80,65,84,67,72])=false by rw [Lib.toList_data,beq_eq_false_iff_ne];exact c2);have k0:=K0.out;have k1:=K1.out;have k2:=K2.out;rw [if_neg (fun x=>x.elim HBN.out (fun h=>by unfold posts at h;simp [c0,c1,c2] at h))] at hYe;subst hYe;clear c0 c1 c2 HBN HPU
 go_wp2_with (first
  |(go_at_call 65;with_reducible refine (HC.out _ HBc.out).mono ?_;rintro e w4 ⟨rfl,hb4⟩
    obtain ⟨q0,q1,q2,q3,q4,q5,q6⟩:=HQ.out _ (Base.below_step HBc.out hb4)
    have HB4:=Lib.hid (Base.below_step HBc.out hb4);have HO4:=Lib.hid (own_below HOc.out hb4);clear hb4 p0 p1 p2 p3 p4 p5 p6))
 go_ret;obtain ⟨A,cc,e,hf⟩:=Flds.of_own HO4.out;simp only [Value.slice.injEq,true_and] at e;obtain ⟨rfl,rfl⟩:=e;rw [List.append_nil];exact ⟨_,_,rfl,hf,HW.out _ HB4.out,HO4.out⟩
end code
end Go.Proofs.YtnabkcglnbdfeaaGreatDoor.Can
namespace Go.Proofs.YtnabkcglnbdfeaaGreatDoor.Can
open Go.RowKit Base Txt Par Pg
def BufB (B:Nat) (xs:List UInt8):Each.Fact:=fun v w=>By.Buf w B v xs
theorem BufB.lasts {B:Nat} {xs:List UInt8}:Each.Lasts (BufB B xs):=fun _ _ _ hb h=>By.Buf.below h hb
section code
set_option maxHeartbeats 8000000
set_option maxRecDepth 100000
attribute [local go_sem] Base.some_undef
theorem rput17_any (V:Value) (r:Rec.R) (w:World) (h:Rec.Reads w V r) (hs:Sm r):Calls Tryz.prog 46 #[V] w fun e w'=>∃v,e=.returned v∧By.Buf w' w.heap.size v (putR r)∧Below w.heap.size w w':=by
 obtain ⟨fa,fc,ba,bc,ta,tc,rfl,h1,h2,h3⟩:=h;have hR:Rec.Reads w (.agg #[.string r.m,.string r.x,.int .i64 r.k,.slice fa r.fs.length fc,.bool r.ch,.slice ba r.body.length bc,.slice ta r.ts.length tc]) r:=⟨fa,fc,ba,bc,ta,tc,rfl,h1,h2,h3⟩;obtain ⟨W,hW⟩:∃W,W=(w.alloc (.cells #[.string r.m,.string r.x,.int .i64 r.k,.slice fa r.fs.length fc,.bool r.ch,.slice ba r.body.length bc,.slice ta r.ts.length tc] 58)):=⟨_,rfl⟩;have hsz:W.heap.size=w.heap.size+1:=by rw [hW];simp
 have hle:w.heap.size≤W.heap.size:=by omega
 have hb1:Below w.heap.size w W:=by rw [hW];exact (Below.refl _ _).alloc (Nat.le_refl _) _
 have HZ0:Hid (Rec.Bk (W.drewN 1) w.heap.size [.string r.m,.string r.x,.int .i64 r.k,.slice fa r.fs.length fc,.bool r.ch,.slice ba r.body.length bc,.slice ta r.ts.length tc]):=Lib.hid (by rw [hW];exact (Rec.Bk.new w w.heap.size rfl 58 [.string r.m,.string r.x,.int .i64 r.k,.slice fa r.fs.length fc,.bool r.ch,.slice ba r.body.length bc,.slice ta r.ts.length tc]).drew 1)
 have HWD:Hid (Below W.heap.size W (W.drewN 1)):=Lib.hid (Base.below_drewN (Below.refl _ _) 1)
 have HW:Hid (∀wk,Below W.heap.size W wk→Below w.heap.size w wk):=Lib.hid fun wk hb=>hb1.trans (hb.mono hle);have HQ:Hid (∀wk,Below W.heap.size W wk→wk.cell? ⟨w.heap.size,0,none⟩=some (.string r.m)∧wk.cell? ⟨w.heap.size,1,none⟩=some (.string r.x)∧wk.cell? ⟨w.heap.size,2,none⟩=some (.int .i64 r.k)∧wk.cell? ⟨w.heap.size,3,none⟩=some (.slice fa r.fs.length fc)∧wk.cell? ⟨w.heap.size,4,none⟩=some (.bool r.ch)∧wk.cell? ⟨w.heap.size,5,none⟩=some (.slice ba r.body.length bc)∧wk.cell? ⟨w.heap.size,6,none⟩=some (.slice ta r.ts.length tc)):=Lib.hid fun wk hb=>by have key:∀i,wk.cell? ⟨w.heap.size,i,none⟩=W.cell? ⟨w.heap.size,i,none⟩:=fun i=>hb.cell (p:=⟨w.heap.size,i,none⟩) (by show w.heap.size<W.heap.size;omega);simp only [key];rw [hW];refine ⟨?_,?_,?_,?_,?_,?_,?_⟩<;>simp
 obtain ⟨z1,z2⟩:=hs.fields;have hzt:=hs.put
 have HF:=Lib.hid fun wk hb=>rfields17_any _ r wk (hR.below (HW.out wk hb)) (by have:=hs.fl;omega) (fun f hf=>by have:=hs.fs f hf;omega) (by have:=hs.body;omega)
 have HC:=Lib.hid fun wk hb=>rchunked_any _ r wk (hR.below (HW.out wk hb));have HL1:Hid (∀(wk:World) a c,Flds wk a (fieldsR r).length (fieldsR r)→Calls Tryz.prog 88 #[.slice a (fieldsR r).length c] wk fun e w'=>e=.returned (.string (Txt.ba (Fd.put (fieldsR r))))∧Below wk.heap.size wk w'):=
  Lib.hid fun wk a c hv=>(Fd.rput_any a _ c _ wk hv (by omega) (by have:=put_size z1 z2;omega)).mono (by rintro e w' ⟨h1,m,rfl⟩;exact ⟨h1,Base.below_drewN (Below.refl _ _) m⟩)
 have HL2:Hid (∀(wk:World),Below W.heap.size W wk→Calls Tryz.prog 88 #[.slice ta r.ts.length tc] wk fun e w'=>e=.returned (.string (Txt.ba (Fd.put r.ts)))∧Below wk.heap.size wk w'):=
  Lib.hid fun wk hb=>(Fd.rput_any ta _ tc _ wk (h3.below (HW.out wk hb)) (by have:=hs.tl;omega) (by have:=put_size hs.ts hs.tl;omega)).mono (by rintro e w' ⟨h1,m,rfl⟩;exact ⟨h1,Base.below_drewN (Below.refl _ _) m⟩)
 have HRQ:=Lib.hid fun wk=>Rq.rput_any r.m r.x wk (by have:=hs.m;omega) (by have:=hs.x;omega);have HCH:Hid (∀(wk:World) a,Lines wk a 1 [r.body]→Calls Tryz.prog 89 #[.slice a 1 1] wk fun e w'=>∃v,e=.returned v∧By.Rd w' v (Chk.putL [r.body])∧Below wk.heap.size wk w'):=
  Lib.hid fun wk a hv=>(Chk.rput_any a 1 1 [r.body] wk hv (by unfold maxLen;omega) (by have:=chunk_size hs;omega)).mono (by rintro e w' ⟨A,c,h1,h2,h3⟩;exact ⟨_,h1,⟨A,c,rfl,h2⟩,h3⟩)
 have HRB:Hid (∀wk,Below W.heap.size W wk→By.Rd wk (.slice ba r.body.length bc) r.body):=Lib.hid fun wk hb=>⟨ba,bc,rfl,h2.below (HW.out wk hb)⟩;have el:=Rq.lineOf_list r.m r.x;obtain ⟨PP,hP⟩:∃PP,putR r=PP:=⟨_,rfl⟩;obtain ⟨L4,hL4⟩:∃L4,reqL r.m.data.toList r.x.data.toList ++ [13,10]++(Fd.put (fieldsR r) ++ [13,10])=L4:=⟨_,rfl⟩
 have HX4:Hid (((((Rq.lineOf r.m r.x) ++⟨#[13,10]⟩)++Txt.ba (Fd.put (fieldsR r))) ++⟨#[13,10]⟩:ByteArray).data.toList=L4):=Lib.hid (by
  rw [←hL4];have e9:((((Rq.lineOf r.m r.x) ++⟨#[13,10]⟩)++Txt.ba (Fd.put (fieldsR r))) ++⟨#[13,10]⟩:ByteArray).data.toList=(Rq.lineOf r.m r.x).data.toList ++ [13,10]++Fd.put (fieldsR r) ++ [13,10]:=by simp [ByteArray.data_append,Txt.ba]
  rw [e9,el];show reqL r.m.data.toList r.x.data.toList ++ [13,10]++Fd.put (fieldsR r) ++ [13,10]= _;simp only [List.append_assoc])
 have HP1:Hid (putR r=L4++(if r.ts≠ [] then Chk.putL [r.body]++(Fd.put r.ts ++ [13,10]) else r.body)):=Lib.hid (by rw [←hL4];unfold putR putV;rw [show fieldsV (Txt.ba r.m.data.toList) r.fs r.body r.ts=fieldsR r from rfl];simp only [List.append_assoc])
 have hL4l:L4.length≤100000000:=by have:=HP1.out;have h9:=congrArg List.length this;rw [List.length_append] at h9;omega
 have hsum:(Rq.lineOf r.m r.x).size+2+(Txt.ba (Fd.put (fieldsR r))).size+2=L4.length:=by
  rw [←hL4,Txt.ba_size];have:(Rq.lineOf r.m r.x).size=(reqL r.m.data.toList r.x.data.toList).length:=by rw [←len,el];rfl
  rw [this];simp only [List.length_append,List.length_cons,List.length_nil];omega
 have HS2:Hid (¬9223372036854775807<(Txt.ba (Fd.put r.ts)).size+2):=Lib.hid (by rw [Txt.ba_size];have:=put_size hs.ts hs.tl;omega);have HZ:=Lib.hid hzt;rw [hP] at HP1 HZ ⊢;unfold fieldsR at HL1 HX4 hsum;clear el z1 z2 hzt hs hR h1 h2 h3 hb1 hP hL4
 have HP2:Hid (PP=L4++(if r.ts≠ [] then Chk.putL [r.body]++(Txt.ba (Fd.put r.ts) ++⟨#[13,10]⟩:ByteArray).data.toList else r.body)):=Lib.hid (by rw [HP1.out];simp [Txt.ba,ByteArray.data_append]);clear HP1;generalize fieldsV r.m r.fs r.body r.ts=F at *;generalize Txt.ba (Fd.put F)=S1 at *;generalize Txt.ba (Fd.put r.ts)=S2 at *;generalize Rq.lineOf r.m r.x=LN at *;generalize Chk.putL [r.body]=C at *;have HV:Hid (¬9223372036854775807<LN.size+2∧¬9223372036854775807<LN.size+2+S1.size∧¬9223372036854775807<LN.size+2+S1.size+2):=Lib.hid ⟨by omega,by omega,by omega⟩;clear hsum;go_enter Tryz.func46,Tryz.ntmps46;go_upto_region 1 with fail
 rw [←hW];clear hW hsz;refine Each.region_all 13 [4,5,6,7,8,9,10,11,12,13,14,15,3]
  [fun v _=>v=.pointer (some ⟨w.heap.size,0,none⟩),
    fun v _=>v=.string r.m,
    fun v _=>v=.pointer (some ⟨w.heap.size,1,none⟩),
    fun v _=>v=.string r.x,
    fun v _=>v=.string LN,
    fun v _=>v=.string (LN ++⟨#[13,10]⟩),
    fun v _=>v=.agg #[.string r.m,.string r.x,.int .i64 r.k,.slice fa r.fs.length fc,.bool r.ch,.slice ba r.body.length bc,.slice ta r.ts.length tc],
    FldsF F,
    fun v _=>v=.string S1,
    fun v _=>v=.string ((LN ++⟨#[13,10]⟩)++S1),
    fun v _=>v=.string (((LN ++⟨#[13,10]⟩)++S1) ++⟨#[13,10]⟩),
    BufB W.heap.size L4,
    BufB W.heap.size L4]
   (by kernel_rfl) (by kernel_rfl) (by kernel_rfl) (by kernel_rfl) (fun _ _ d _ _ h=>by cases d<;>exact h) (by rfl) (by rfl)
  ⟨Each.Lasts.eq _,Each.Lasts.eq _,Each.Lasts.eq _,Each.Lasts.eq _,Each.Lasts.eq _,Each.Lasts.eq _,Each.Lasts.eq _,(FldsF.lasts),Each.Lasts.eq _,Each.Lasts.eq _,Each.Lasts.eq _,(BufB.lasts),(BufB.lasts),trivial⟩ ?_ ?_
 ·refine ⟨?_,?_,?_,?_,?_,?_,?_,?_,?_,?_,?_,?_,?_,trivial⟩
  ·refine Each.fine rfl (fun ev w1 hR hb hh=>?_);clear hh;have e1:=hR.old 1 rfl;simp only [Array.getD_eq_getD_getElem?,List.getElem?_toArray,List.getElem?_cons_succ,List.getElem?_cons_zero,Option.getD_some] at e1;refine Each.Goes.same ?_;go_simp;try with_reducible rfl
  ·refine Each.fine rfl (fun ev w1 hR hb hh=>?_);have e4:(ev (.tmp 4)=.pointer (some ⟨w.heap.size,0,none⟩)):=hh.at 0;clear hh;have q0:=(HZ0.out.below hb).c 0 _ rfl;refine Each.Goes.same ?_;go_simp;try with_reducible rfl
  ·refine Each.fine rfl (fun ev w1 hR hb hh=>?_);clear hh;have e1:=hR.old 1 rfl;simp only [Array.getD_eq_getD_getElem?,List.getElem?_toArray,List.getElem?_cons_succ,List.getElem?_cons_zero,Option.getD_some] at e1;refine Each.Goes.same ?_;go_simp;try with_reducible rfl
  ·refine Each.fine rfl (fun ev w1 hR hb hh=>?_);have e6:(ev (.tmp 6)=.pointer (some ⟨w.heap.size,1,none⟩)):=hh.at 0;clear hh;have q1:=(HZ0.out.below hb).c 1 _ rfl;refine Each.Goes.same ?_;go_simp;try with_reducible rfl
  ·refine Each.fine rfl (fun ev w1 hR hb hh=>?_);have e5:(ev (.tmp 5)=.string r.m):=hh.at 0;have e7:(ev (.tmp 7)=.string r.x):=hh.at 1;clear hh;have ef:=hR.func
   refine Each.Goes.enter 87 #[.string r.m,.string r.x] (by go_simp) ((HRQ.out w1).mono ?_);rintro e w2 ⟨rfl,hw⟩;exact ⟨_,rfl,by rw [hw];exact Below.refl _ _,rfl⟩
  ·refine Each.fine rfl (fun ev w1 hR hb hh=>?_);have e8:(ev (.tmp 8)=.string LN):=hh.at 0;clear hh;have ec:=hR.const;obtain ⟨v1,v2,v3⟩:=HV.out;refine Each.Goes.same ?_;go_simp;try with_reducible rfl
  ·refine Each.fine rfl (fun ev w1 hR hb hh=>?_);clear hh;have e1:=hR.old 1 rfl;simp only [Array.getD_eq_getD_getElem?,List.getElem?_toArray,List.getElem?_cons_succ,List.getElem?_cons_zero,Option.getD_some] at e1;have q0:=(HZ0.out.below hb).c 0 _ rfl;have q1:=(HZ0.out.below hb).c 1 _ rfl;have q2:=(HZ0.out.below hb).c 2 _ rfl;have q3:=(HZ0.out.below hb).c 3 _ rfl;have q4:=(HZ0.out.below hb).c 4 _ rfl;have q5:=(HZ0.out.below hb).c 5 _ rfl;have q6:=(HZ0.out.below hb).c 6 _ rfl;refine Each.Goes.same ?_;go_simp;try with_reducible rfl
  ·refine Each.fine rfl (fun ev w1 hR hb hh=>?_);have e10:(ev (.tmp 10)=.agg #[.string r.m,.string r.x,.int .i64 r.k,.slice fa r.fs.length fc,.bool r.ch,.slice ba r.body.length bc,.slice ta r.ts.length tc]):=hh.at 0;clear hh;have ef:=hR.func
   refine Each.Goes.enter 63 #[.agg #[.string r.m,.string r.x,.int .i64 r.k,.slice fa r.fs.length fc,.bool r.ch,.slice ba r.body.length bc,.slice ta r.ts.length tc]] (by go_simp) ((HF.out w1 (Base.below_step HWD.out hb)).mono ?_);rintro e w2 ⟨a,cc,rfl,hf,h2, -⟩;exact ⟨_,rfl,h2,⟨a,cc,rfl,hf⟩⟩
  ·refine Each.fine rfl (fun ev w1 hR hb hh=>?_);have e11:((FldsF F) (ev (.tmp 11)) w1):=hh.at 0;clear hh;have ef:=hR.func;obtain ⟨a,cc,e11x,hf⟩:=e11
   refine Each.Goes.enter 88 #[.slice a F.length cc] (by go_simp) ((HL1.out w1 a cc hf).mono ?_);rintro e w2 ⟨rfl,h2⟩;exact ⟨_,rfl,h2,rfl⟩
  ·refine Each.fine rfl (fun ev w1 hR hb hh=>?_);have e9:(ev (.tmp 9)=.string (LN ++⟨#[13,10]⟩)):=hh.at 0;have e12:(ev (.tmp 12)=.string S1):=hh.at 1;clear hh;obtain ⟨v1,v2,v3⟩:=HV.out;refine Each.Goes.same ?_;go_simp;try with_reducible rfl
  ·refine Each.fine rfl (fun ev w1 hR hb hh=>?_);have e13:(ev (.tmp 13)=.string ((LN ++⟨#[13,10]⟩)++S1)):=hh.at 0;clear hh;have ec:=hR.const;obtain ⟨v1,v2,v3⟩:=HV.out;refine Each.Goes.same ?_;go_simp;try with_reducible rfl
  ·refine Each.fine rfl (fun ev w1 hR hb hh=>?_);have e14:(ev (.tmp 14)=.string (((LN ++⟨#[13,10]⟩)++S1) ++⟨#[13,10]⟩)):=hh.at 0;clear hh;obtain ⟨W9,v9,hcv,hbf,hb9⟩:=conv_buf (((LN ++⟨#[13,10]⟩)++S1) ++⟨#[13,10]⟩) w1;rw [HX4.out] at hbf
   exact Each.Goes.value v9 W9 (by go_simp) hb9 (hbf.mono (Nat.le_trans (by simp) hb.size))
  ·refine Each.fine rfl (fun ev w1 hR hb hh=>?_);have e15:((BufB W.heap.size L4) (ev (.tmp 15)) w1):=hh.at 0;clear hh;exact Each.Goes.value (ev (.tmp 15)) w1 (by go_simp) (Below.refl _ _) e15
 intro g1 w4 hb4 hf;have z3:((BufB W.heap.size L4) (g1 3) w4):=hf.at 12;clear hf;simp only [Each.putg,Act.put,List.setIfInBounds_toArray,List.set_cons_zero,List.set_cons_succ];have HBUF4:Hid (By.Buf w4 W.heap.size (g1 3) L4):=Lib.hid z3;have HB4:Hid (Below W.heap.size W w4):=Lib.hid hb4;clear z3 hb4 HV HX4 HRQ HL1 HF HZ0;generalize g1 3=v4 at *;obtain ⟨t0,t1,t2,t3,t4,t5,t6⟩:=HQ.out _ HB4.out;by_cases ht:r.ts≠ []
 ·rw [decide_eq_true ht] at HC;rw [if_pos ht] at HP2;clear ht
  have HS:Hid (L4.length+C.length≤1000000000∧(L4++C).length+(S2 ++⟨#[13,10]⟩:ByteArray).data.toList.length≤1000000000):=Lib.hid (by have:=HZ.out;rw [HP2.out] at this;simp only [List.length_append] at this ⊢;omega)
  clear HZ;have hs2:=HS2.out
  go_wp2_with (first
   |(at_builtin;(refine wp_append2 rfl _ _ 22 9 rfl _ _ rfl rfl _ _ hrun9 ?_))
   |(at_builtin;(refine wp_append2 rfl _ _ 22 22 rfl _ _ rfl rfl _ _ hrun7 ?_))
   |(go_at_call 88;with_reducible refine (HL2.out _ HB7.out).mono ?_;rintro e w8 ⟨rfl,hb8⟩
     obtain ⟨v9,w9,hrun9,hbuf9,hb9⟩:=By.Buf.append (HBUF7.out.below hb8) 9 (By.str_src (w:=w8) (S2 ++⟨#[13,10]⟩)) HS.out.2 (Nat.le_trans HB7.out.size hb8.size)
     have HB9:=Lib.hid ((Base.below_step HB7.out hb8).trans hb9);have HBUF9:=Lib.hid hbuf9;clear hbuf9 hb8 hb9)
   |(go_at_call 89;with_reducible refine (HCH.out _ _ (lines_one (HRB.out _ HB5.out) _)).mono ?_;rintro e w6 ⟨u6,rfl,hrd6,hb6⟩
     have hb56:=Base.below_step (HB5.out.alloc HB5.out.size _) hb6;obtain ⟨v7,w7,hrun7,hbuf7,hb7⟩:=By.Buf.append (HBUF5.out.below (Base.below_step ((Below.refl _ _).alloc (Nat.le_refl _) _) hb6)) 22 hrd6.src HS.out.1 hb56.size
     have HB7:=Lib.hid (hb56.trans hb7);have HBUF7:=Lib.hid hbuf7;obtain ⟨s0,s1,s2,s3,s4,s5,s6⟩:=HQ.out _ HB7.out;clear hbuf7 hb6 hb7 hb56 hrd6)
   |(go_at_call 65;with_reducible refine (HC.out _ HB4.out).mono ?_;rintro e w5 ⟨rfl,hb5⟩
     have HB5:=Lib.hid (Base.below_step HB4.out hb5)
     have HBUF5:=Lib.hid (HBUF4.out.below hb5);obtain ⟨r0,r1,r2,r3,r4,r5,r6⟩:=HQ.out _ HB5.out;clear hb5))
  go_ret;refine ⟨_,rfl,?_,HW.out _ HB9.out⟩;have:=HBUF9.out.mono hle;rw [HP2.out,←List.append_assoc];exact this
 ·rw [decide_eq_false ht] at HC;rw [if_neg ht] at HP2;clear ht
  have HS:Hid (L4.length+r.body.length≤1000000000):=Lib.hid (by have:=HZ.out;rw [HP2.out] at this;simp only [List.length_append] at this ⊢;omega)
  clear HZ HCH HL2 HS2
  go_wp2_with (first
   |(at_builtin;(refine wp_append2 rfl _ _ 22 22 rfl _ _ rfl rfl _ _ hrun7 ?_))
   |(go_at_call 65;with_reducible refine (HC.out _ HB4.out).mono ?_;rintro e w5 ⟨rfl,hb5⟩
     have hb45:=Base.below_step HB4.out hb5;obtain ⟨r0,r1,r2,r3,r4,r5,r6⟩:=HQ.out _ hb45;obtain ⟨v7,w7,hrun7,hbuf7,hb7⟩:=By.Buf.append (HBUF4.out.below hb5) 22 (HRB.out _ hb45).src HS.out hb45.size
     have HB7:=Lib.hid (hb45.trans hb7);have HBUF7:=Lib.hid hbuf7;clear hb5 hb45 hbuf7 hb7))
  go_ret;refine ⟨_,rfl,?_,HW.out _ HB7.out⟩;have:=HBUF7.out.mono hle;rw [HP2.out];exact this
end code
end Go.Proofs.YtnabkcglnbdfeaaGreatDoor.Can
