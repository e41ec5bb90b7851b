import Derived.Test.YtnabkcglnbdfeaaGreatDoorFew
namespace Go.Proofs.YtnabkcglnbdfeaaGreatDoor.FltC
open Go.RowKit Base Txt Mem Par Pg Flt Each Wit Can
theorem get_of {ss:Array Value} {k:Nat} {v:Value} (h:ss[k]?=some v):∀hh,ss[k]'hh=v:=fun hh=>by rw [Array.getElem?_eq_getElem hh] at h;exact Option.some.inj h
theorem cell_new (w:World) (t:TypeId) (ss:Array Value) (k:Nat) (v:Value) (h:ss[k]?=some v):(w.alloc (.cells ss t)).cell? ⟨w.heap.size,k,none⟩=some v:=by rw [cell_of_row (w.alloc _) w.heap.size k _ t (0,0) (heap_alloc_new w _)];exact h
theorem tmod_small (x r m:Nat) (h:x%m=r):Int.tmod (x:Int) (m:Int)=(r:Int):=by rw [Int.tmod_eq_emod_of_nonneg (by omega)];omega
theorem row_at {j:Nat} (h:j<6):∃(K:Nat) (B:ByteArray),K<30∧clBit j=K∧B.data.toList=clS j∧B.size≤70∧(#[.int .i64 1,.int .i64 2,.int .i64 9,.int .i64 11,.int .i64 29,.int .i64 15]:Array Value)[j]?=some (.int .i64 (K:Int))∧(#[.string ⟨#[71,69,84,32,47,32,72,84,84,80,47,49,46,49,10]⟩,.string ⟨#[71,69,84,32,47,32,72,84,84,80,47,49,46,49,13,72]⟩,.string ⟨#[71,69,84,32,47,32,72,84,84,80,47,49,46,49,13,10,72,111,115,116,32,58,32,97,13,10]⟩,.string ⟨#[71,69,84,32,47,32,72,84,84,80,47,49,46,49,13,10,97,98,99,13,10]⟩,.string ⟨#[80,85,84,32,47,32,72,84,84,80,47,49,46,49,13,10,72,111,115,116,58,32,97,13,10,84,114,97,110,115,102,101,114,45,69,110,99,111,100,105,110,103,58,32,99,104,117,110,107,101,100,13,10,13,10,49,13,10,65,48]⟩,.string ⟨#[71,69,84,32,47,32,72,84,84,80,47,49,46,49,13,10,13,10]⟩]:Array Value)[j]?=some (.string B):=by
 rcases (by omega:j=0∨j=1∨j=2∨j=3∨j=4∨j=5) with rfl | rfl | rfl | rfl | rfl | rfl
 ·exact ⟨1,⟨#[71,69,84,32,47,32,72,84,84,80,47,49,46,49,10]⟩,by decide,rfl,rfl,by decide,rfl,rfl⟩
 ·exact ⟨2,⟨#[71,69,84,32,47,32,72,84,84,80,47,49,46,49,13,72]⟩,by decide,rfl,rfl,by decide,rfl,rfl⟩
 ·exact ⟨9,⟨#[71,69,84,32,47,32,72,84,84,80,47,49,46,49,13,10,72,111,115,116,32,58,32,97,13,10]⟩,by decide,rfl,rfl,by decide,rfl,rfl⟩
 ·exact ⟨11,⟨#[71,69,84,32,47,32,72,84,84,80,47,49,46,49,13,10,97,98,99,13,10]⟩,by decide,rfl,rfl,by decide,rfl,rfl⟩
 ·exact ⟨29,⟨#[80,85,84,32,47,32,72,84,84,80,47,49,46,49,13,10,72,111,115,116,58,32,97,13,10,84,114,97,110,115,102,101,114,45,69,110,99,111,100,105,110,103,58,32,99,104,117,110,107,101,100,13,10,13,10,49,13,10,65,48]⟩,by decide,rfl,rfl,by decide,rfl,rfl⟩
 ·exact ⟨15,⟨#[71,69,84,32,47,32,72,84,84,80,47,49,46,49,13,10,13,10]⟩,by decide,rfl,rfl,by decide,rfl,rfl⟩
theorem has_set (A K:Nat) (hK:K<30):Qk.has (A ||| 2^K) (K:Int)=true:=by unfold Qk.has;rw [Int.toNat_natCast,Nat.testBit_or,Nat.testBit_two_pow_self,Bool.or_true,Bool.and_true];unfold Qk.known;simp;omega
section code
set_option maxHeartbeats 8000000
set_option maxRecDepth 100000
attribute [local go_sem] Base.some_undef
theorem fs_told {w0 w:World} {B g g1 g2 p:Nat} {b:Bd} {Z L1 L2 N1 N2:List (Option Nat)} {f:F} {V:Value} {out:List Rec.R} (h:FS w0 B g g1 g2 p b Z L1 L2 f V out N1 N2 w):Pg.Told (fblks g N1 N2) ⟨w0.heap.size,Z⟩ w V out:=by obtain ⟨ps,h1,h2,h3⟩:=h.outs;exact ⟨⟨ps,h1,fun x hx=>⟨(h2 x hx).1,(h2 x hx).2.reads,fun k hb=>⟨fun hm=>((h2 x hx).2.far k hb).1 (List.mem_cons_of_mem _ hm),((h2 x hx).2.far k hb).2⟩,(h2 x hx).2.off⟩,h3⟩,fun k e=>⟨h.far k e,(World.ownsRow.lt h3 k e).2⟩,fun k e=>h.zone.off k (by rw [e];exact List.mem_cons_self ..)⟩
theorem told_past {w0 w w1 w2:World} {B B2 g g1 g2 p q q1 q2 p2:Nat} {b b2:Bd} {L1 L2 N1 N2 M1 M2 P1 P2:List (Option Nat)} {f f2:F} {V U:Value} {out out2:List Rec.R} (h:FS w0 B g g1 g2 p b (fblks q M1 M2) L1 L2 f V out N1 N2 w) (hb:Below w.heap.size w w1) (h2:FS w1 B2 q q1 q2 p2 b2 [] M1 M2 f2 U out2 P1 P2 w2):Said w2 V out∧Said w2 U out2:=
 ⟨(((told_widen (fs_told h) (L':=fblks q M1 M2) fun _ hk=>.inr hk).step (Step.of_below hb)).step ⟨h2.keeps,h2.of⟩).said,(fs_told h2).said⟩
theorem buf_all {w:World} {B:Nat} {V:Value} {xs:List UInt8} (h:By.Buf w B V xs):∃g cap,V=.slice (some ⟨g,0,none⟩) xs.length cap∧xs.length≤cap∧g<w.heap.size∧∀L,some g∉L→Bts L w (some ⟨g,0,none⟩) xs:=by
 obtain ⟨g,cap,e,h1,h2,h3,h4,h5⟩:=h;refine ⟨g,cap,e,h3,h2,fun L hL=>⟨⟨by simp,fun _=>⟨g,0,rfl,h2,fun j hj=>by rw [Nat.zero_add,h4 j hj];simp [hj]⟩⟩,fun ad e=>?_⟩⟩;obtain rfl:ad=⟨g,0,none⟩:=by simpa using e.symm
 exact ⟨hL,h2⟩
theorem buf_bts {L:List (Option Nat)} {w:World} {B:Nat} {V:Value} {xs:List UInt8} (h:By.Buf w B V xs) (hL:∀k,some k∈L→B≤k→k<w.heap.size→False):∃g cap,V=.slice (some ⟨g,0,none⟩) xs.length cap∧xs.length≤cap∧Bts L w (some ⟨g,0,none⟩) xs:=by
 obtain ⟨g,cap,e,h1,h2,h3,h4,h5⟩:=h;refine ⟨g,cap,e,h3,⟨by simp,fun _=>⟨g,0,rfl,h2,fun j hj=>by rw [Nat.zero_add,h4 j hj];simp [hj]⟩⟩,fun ad e=>?_⟩;obtain rfl:ad=⟨g,0,none⟩:=by simpa using e.symm
 exact ⟨fun hm=>hL g hm h1 h2,h2⟩
theorem feed_two {w:World} {B g g1 g2 p:Nat} {b:Bd} {L1 L2:List (Option Nat)} {f:F} (hp:p<4294967296) (h:FAt w B g g1 g2 p b L1 L2 f) (Z:List (Option Nat)) (hZ:Clear w Z (fblks g L1 L2)) (S:ByteArray) (l:List UInt8) (a:Option Addr) (n cap:Nat) (hbt:Bts (fblks g L1 L2) w a l) (hn:l.length=n) (hc:n≤cap) (hlen:n+S.size≤300000000) :
 ∃(W:World) (gs cs:Nat),(convert 9 22 (.string S)).run Tryz.prog w=.ok (.slice (some ⟨gs,0,none⟩) S.size cs) W∧Below w.heap.size w W∧
  Calls Tryz.prog 36 #[ptr g,.slice (some ⟨W.heap.size,0,none⟩) 2 2] (W.alloc (.cells #[.slice a n cap,.slice (some ⟨gs,0,none⟩) S.size cs] 22)) fun r w'=>∃U,r=.returned U∧∃N1 N2,
   FS (W.alloc (.cells #[.slice a n cap,.slice (some ⟨gs,0,none⟩) S.size cs] 22)) B g g1 g2 p b Z L1 L2 (F.feed p b f (l++S.data.toList)).1 U (F.feed p b f (l++S.data.toList)).2 N1 N2 w':=by
 subst hn;obtain ⟨W,V,e,hbu,hb⟩:=conv_buf S w;have hs:S.data.toList.length=S.size:=by simp
 have hfW:=h.keeps (Keeps.of_below hb:Keeps [] w W) (fun _ _ hm=>by cases hm)
 obtain ⟨gs,cs,rfl,hcs,hbs⟩:=buf_bts (L:=fblks g L1 L2) hbu (fun k hk hlo _=>by have:=h.in k hk;omega);refine ⟨W,gs,cs,by rw [e,hs],hb,?_⟩;have hpc:=partsC_two (c:=cap) (hbt.step (Step.of_below hb)) hc hbs hcs hfW.in 22;have hb2:Below W.heap.size W (W.alloc (.cells #[.slice a l.length cap,.slice (some ⟨gs,0,none⟩) S.data.toList.length cs] 22)):=(Below.refl _ _).alloc (Nat.le_refl _) _
 have hf:=hfW.keeps (Keeps.of_below hb2:Keeps [] W _) (fun _ _ hm=>by cases hm)
 have:=feed_any hp hf Z ⟨fun k hk=>Nat.lt_of_lt_of_le (hZ.inz k hk) (Nat.le_trans hb.size hb2.size),hZ.off⟩ (some ⟨W.heap.size,0,none⟩) 2 [l,S.data.toList] hpc (by simp) (by simp;omega);rw [hs] at this;simpa using this
theorem filterClauses_any (c a:Nat) (la:Option Addr) (ln cap:Nat) (zs:List Int) (w:World) (ha:a<4294967296) (hv:Nums .u8 w la ln zs) :
 Calls Tryz.prog 7 #[.int .u8 c,.int .u32 a,.slice la ln cap] w fun e w'=>e=.returned (.bool true)∧Below w.heap.size w w':=by
 by_cases h12:12<ln
 ·have d1:(12:Int)<(ln:Int):=by omega
  go_enter Tryz.func7,Tryz.ntmps7
  go_wp2_with (go_at_call 32;with_reducible refine (Flt.known_any _).mono ?_;rintro e w1 ⟨rfl,hb⟩);go_ret;exact ⟨rfl,hb⟩
 have d1:¬(12:Int)<(ln:Int):=by omega
 have hm30:=Seat.mask30 a ha;obtain ⟨A,hA⟩:∃A,a%1073741824=A:=⟨_,rfl⟩;rw [hA] at hm30;have hA30:A<1073741824:=by omega
 obtain ⟨j,hj⟩:∃j,c%6=j:=⟨_,rfl⟩;have him:Int.tmod (c:Int) 6=(j:Int):=tmod_small c j 6 hj;have hl6:j<6:=by omega
 have hl6':(j:Int)<6:=by omega
 obtain ⟨K,S,hK,hKj,hSl,hSn,hKc,hSc⟩:=row_at hl6;have F1':=get_of hKc;have F2':=get_of hSc;have F1:=fun (w:World) t=>cell_new w t _ j _ hKc;have F2:=fun (w:World) t=>cell_new w t _ j _ hSc;have hM:2^K<1073741824:=Nat.pow_lt_pow_right (a:=2) (n:=30) (by decide) hK
 have hsh:(2:Int)^(K:Int).toNat%4294967296=((2^K:Nat):Int):=Qk.shl_one (K:Int) (by omega) (by omega);have hsh':(2:Int)^K%4294967296=((2^K:Nat):Int):=hsh
 have hor:bits .or .u32 (A:Int) ((2^K:Nat):Int)=((A ||| 2^K:Nat):Int):=u32_or_nat _ _ (by omega) (by omega);have hp:A ||| 2^K<1073741824:=Nat.or_lt_two_pow (n:=30) hA30 hM;have hhas:Qk.has (A ||| 2^K) (clBit j:Int)=true:=by rw [hKj];exact has_set A K hK
 have hmin:min K 32=K:=by omega
 generalize hM2:2^K=M at *;obtain ⟨p,hpp⟩:∃p,A ||| M=p:=⟨_,rfl⟩;rw [hpp] at hor hp hhas
 have HNW:=Lib.hid (fun w=>Flt.new_any (p:=p) (b:=usual) (by omega) w)
 have HN0:=Lib.hid (show∀w:World,Calls Tryz.prog 34 #[.int .u32 0,.agg #[.int .i64 1024,.int .i64 32,.int .i64 8192,.int .i64 65536,.int .i64 32,.int .i64 8,.int .i64 4,.int .i64 20,.bool true,.bool true]] w fun r w'=>∃g g1 g2 L1 L2,r=.returned (ptr g)∧FAt w' w.heap.size g g1 g2 0 usual L1 L2 (F.new 0 usual)∧Below w.heap.size w w' from fun w=>Flt.new_any (p:=0) (b:=usual) (by decide) w);have HV:=Lib.hid hv
 have HCL:=Lib.hid (fun (r:Rec.R) (hr:Neat r)=>clauses hr hp hl6 hhas)
 have HSL:=Lib.hid (And.intro hSl hSn)
 have HP:=Lib.hid (show p<4294967296 by omega);clear hv hp hhas hpp hM hM2 hSl hSn hK hKj ha hA hj hA30;go_enter Tryz.func7,Tryz.ntmps7
 go_upto_region 6 with (first
  |(go_at_call 45;with_reducible refine (Bnd.rusual_any _).mono ?_;rintro r w2 ⟨rfl,hb⟩;have HB2:=Lib.hid (Base.below_step HB1.out hb);clear hb)
  |(go_at_call 32;with_reducible refine (Flt.known_any _).mono ?_;rintro e w1 ⟨rfl,hb⟩;have HB1:=Lib.hid hb;clear hb))
 have HZ2:=Lib.hid (Rec.Bk.new w2 w2.heap.size rfl 29 [.int .i64 1024,.int .i64 32,.int .i64 8192,.int .i64 65536,.int .i64 32,.int .i64 8,.int .i64 4,.int .i64 20,.bool true,.bool true])
 have HB3:=Lib.hid (HB2.out.alloc HB2.out.size (.cells #[.int .i64 1024,.int .i64 32,.int .i64 8192,.int .i64 65536,.int .i64 32,.int .i64 8,.int .i64 4,.int .i64 20,.bool true,.bool true] 29));generalize w2.alloc (.cells #[.int .i64 1024,.int .i64 32,.int .i64 8192,.int .i64 65536,.int .i64 32,.int .i64 8,.int .i64 4,.int .i64 20,.bool true,.bool true] 29)=W2 at *;generalize w2.heap.size=gB at *;go_upto_region 7 with fail
 have HB4:=Lib.hid (HB3.out.alloc HB3.out.size (.cells #[.int .i64 1,.int .i64 2,.int .i64 9,.int .i64 11,.int .i64 29,.int .i64 15] 3))
 have HZ3:=Lib.hid (HZ2.out.alloc (.cells #[.int .i64 1,.int .i64 2,.int .i64 9,.int .i64 11,.int .i64 29,.int .i64 15] 3));clear HZ2 HB3;generalize W2.alloc (.cells #[.int .i64 1,.int .i64 2,.int .i64 9,.int .i64 11,.int .i64 29,.int .i64 15] 3)=W3 at *;go_upto_region 8 with fail
 have HB5:=Lib.hid (HB4.out.alloc HB4.out.size (.cells #[.string ⟨#[71,69,84,32,47,32,72,84,84,80,47,49,46,49,10]⟩,.string ⟨#[71,69,84,32,47,32,72,84,84,80,47,49,46,49,13,72]⟩,.string ⟨#[71,69,84,32,47,32,72,84,84,80,47,49,46,49,13,10,72,111,115,116,32,58,32,97,13,10]⟩,.string ⟨#[71,69,84,32,47,32,72,84,84,80,47,49,46,49,13,10,97,98,99,13,10]⟩,.string ⟨#[80,85,84,32,47,32,72,84,84,80,47,49,46,49,13,10,72,111,115,116,58,32,97,13,10,84,114,97,110,115,102,101,114,45,69,110,99,111,100,105,110,103,58,32,99,104,117,110,107,101,100,13,10,13,10,49,13,10,65,48]⟩,.string ⟨#[71,69,84,32,47,32,72,84,84,80,47,49,46,49,13,10,13,10]⟩] 9))
 have HZ4:=Lib.hid (HZ3.out.alloc (.cells #[.string ⟨#[71,69,84,32,47,32,72,84,84,80,47,49,46,49,10]⟩,.string ⟨#[71,69,84,32,47,32,72,84,84,80,47,49,46,49,13,72]⟩,.string ⟨#[71,69,84,32,47,32,72,84,84,80,47,49,46,49,13,10,72,111,115,116,32,58,32,97,13,10]⟩,.string ⟨#[71,69,84,32,47,32,72,84,84,80,47,49,46,49,13,10,97,98,99,13,10]⟩,.string ⟨#[80,85,84,32,47,32,72,84,84,80,47,49,46,49,13,10,72,111,115,116,58,32,97,13,10,84,114,97,110,115,102,101,114,45,69,110,99,111,100,105,110,103,58,32,99,104,117,110,107,101,100,13,10,13,10,49,13,10,65,48]⟩,.string ⟨#[71,69,84,32,47,32,72,84,84,80,47,49,46,49,13,10,13,10]⟩] 9));clear HZ3 HB4;generalize W3.alloc (.cells #[.string ⟨#[71,69,84,32,47,32,72,84,84,80,47,49,46,49,10]⟩,.string ⟨#[71,69,84,32,47,32,72,84,84,80,47,49,46,49,13,72]⟩,.string ⟨#[71,69,84,32,47,32,72,84,84,80,47,49,46,49,13,10,72,111,115,116,32,58,32,97,13,10]⟩,.string ⟨#[71,69,84,32,47,32,72,84,84,80,47,49,46,49,13,10,97,98,99,13,10]⟩,.string ⟨#[80,85,84,32,47,32,72,84,84,80,47,49,46,49,13,10,72,111,115,116,58,32,97,13,10,84,114,97,110,115,102,101,114,45,69,110,99,111,100,105,110,103,58,32,99,104,117,110,107,101,100,13,10,13,10,49,13,10,65,48]⟩,.string ⟨#[71,69,84,32,47,32,72,84,84,80,47,49,46,49,13,10,13,10]⟩] 9)=W4 at *;clear F1 F2 F1' F2' hKc hSc;go_upto_region 9 with fail
 clear hmin hsh hsh' hor hm30 him hl6' d1
 go_upto_region 10 with (first
  |(go_at_call 46;with_reducible refine (rput17_any _ _ _ HRN.out HSN.out).mono ?_
    rintro e w6 ⟨v6,rfl,hbu,hb⟩
    have HBU:=Lib.hid hbu;have HB7:=Lib.hid (Base.below_step HB6.out hb);have HZ6:=Lib.hid (HZ5.out.below hb);clear hbu hb)
  |(go_at_call 47;with_reducible refine (Rec.neat_full la ln cap zs _ (HV.out.below HB5.out)).mono ?_
    rintro e w5 ⟨V',rn,rfl,hrd, -, -, -, -,hb,hnr⟩
    have HB6:=Lib.hid (Base.below_step HB5.out hb);have HZ5:=Lib.hid (HZ4.out.below hb);have HNE:=Lib.hid (neat_of hnr);have HSN:=Lib.hid ((neat_of hnr).sm);have HRN:=Lib.hid hrd;clear hb hnr hrd))
 have hdr:Below w6.heap.size w6 w6.drew:=(Below.refl _ _).drew;have HDR:=Lib.hid hdr;clear hdr
 go_cut [12,13] from 40 to 44 (fun u v wx=>∃(g g1 g2 q q1 q2:Nat) (L1 L2 M1 M2:List (Option Nat)) (wm:World),u=ptr g∧v=ptr q∧Hid (FAt wm w6.heap.size g g1 g2 p usual L1 L2 (F.new p usual))∧Hid (Below w6.heap.size w6 wm)∧Hid (FAt wx wm.heap.size q q1 q2 0 usual M1 M2 (F.new 0 usual))∧Hid (Below wm.heap.size wm wx))
 case first=>
  have y0:=HZ6.out.c 0 _ rfl;have y1:=HZ6.out.c 1 _ rfl;have y2:=HZ6.out.c 2 _ rfl;have y3:=HZ6.out.c 3 _ rfl;have y4:=HZ6.out.c 4 _ rfl;have y5:=HZ6.out.c 5 _ rfl;have y6:=HZ6.out.c 6 _ rfl;have y7:=HZ6.out.c 7 _ rfl;have y8:=HZ6.out.c 8 _ rfl;have y9:=HZ6.out.c 9 _ rfl
  go_region_with (first
   |(go_at_call 34;with_reducible refine (HNW.out _).mono ?_;rintro r w7 ⟨g,g1,g2,L1,L2,rfl,hf,hb⟩
     have HF:=Lib.hid hf;have HB8:=Lib.hid hb
     have HZ7:=Lib.hid ((HZ6.out.below (Base.below_drewN (Below.refl w6.heap.size w6) 1)).below hb);have x0:=HZ7.out.c 0 _ rfl;have x1:=HZ7.out.c 1 _ rfl;have x2:=HZ7.out.c 2 _ rfl;have x3:=HZ7.out.c 3 _ rfl;have x4:=HZ7.out.c 4 _ rfl;have x5:=HZ7.out.c 5 _ rfl;have x6:=HZ7.out.c 6 _ rfl;have x7:=HZ7.out.c 7 _ rfl;have x8:=HZ7.out.c 8 _ rfl;have x9:=HZ7.out.c 9 _ rfl;clear hf hb)
   |(go_at_call 34;with_reducible refine (HN0.out _).mono ?_;rintro r w8 ⟨q,q1,q2,M1,M2,rfl,hh,hb⟩
     have HH:=Lib.hid hh;have HB9:=Lib.hid hb;clear hh hb))
  all_goals
   clear y0 y1 y2 y3 y4 y5 y6 y7 y8 y9;clear x0 x1 x2 x3 x4 x5 x6 x7 x8 x9;go_wp2_with fail;go_meet
   case rel=>exact ⟨g,g1,g2,q,q1,q2,L1,L2,M1,M2,w7,rfl,rfl,HF,Lib.hid (HDR.out.trans HB8.out),HH,HB9⟩
 case rest=>
  obtain ⟨g,g1,g2,q,q1,q2,L1,L2,M1,M2,w7,rfl,rfl,HF,HB8,HH,HB9⟩:=hcut;clear HNW HN0 HZ6 HDR;obtain ⟨b6,cap6,rfl,hc6,hl6,hbt6⟩:=buf_all HBU.out;obtain ⟨n6,hn6⟩:∃n,(putR rn).length=n:=⟨_,rfl⟩;have hn6s:n6≤100000000:=by rw [←hn6];exact HSN.out.put
  rw [hn6] at hc6 ⊢;have hSs:=HSL.out.2;have hbw:Below w6.heap.size w6 wc:=Base.below_step HB8.out HB9.out
  have hf8:=HF.out.keeps (Keeps.of_below HB9.out:Keeps [] w7 wc) (fun _ _ hm=>by cases hm);have hno:some b6∉fblks g L1 L2++fblks q M1 M2:=fun hm=>by
   rcases List.mem_append.1 hm with hm | hm
   ·have:=HF.out.low b6 hm;omega
   ·have:=HH.out.low b6 hm;have:=HB8.out.size;omega
  have hbt8:=(hbt6 _ hno).step (Step.of_below hbw)
  obtain ⟨W9,s9,k9,hcv,hb9,hfe⟩:=feed_two HP.out hf8 (fblks q M1 M2) ⟨HH.out.in,fun k hk hm=>by have:=HH.out.low k hm;have:=HF.out.in k hk;omega⟩ S (putR rn) (some ⟨b6,0,none⟩) n6 cap6 (bts_sub hbt8 fun k hk=>List.mem_append_left _ hk) hn6 hc6 (by omega);have hb10:Below wc.heap.size wc (W9.alloc (.cells #[.slice (some ⟨b6,0,none⟩) n6 cap6,.slice (some ⟨s9,0,none⟩) S.size k9] 22)):=hb9.alloc hb9.size _
  have HBT:=Lib.hid (hbt8.step (Step.of_below hb10))
  have HH9:=Lib.hid (HH.out.keeps (Keeps.of_below hb10:Keeps [] wc _) (fun _ _ hm=>by cases hm))
  have HDI:=Lib.hid (show Dis (fblks q M1 M2) (fblks g L1 L2) from fun k hk hm=>by have:=HH.out.low k hk;have:=HF.out.in k hm;omega)
  have HN6:=Lib.hid (And.intro hn6 (And.intro hc6 (show n6+S.size≤300000000 by omega)))
  have HBW:=Lib.hid (show Below w.heap.size w _ from Base.below_step (Base.below_step HB7.out hbw) hb10);have HFE:=Lib.hid hfe
  have HLO:=Lib.hid (show∀k,some k∈fblks g L1 L2++fblks q M1 M2→w.heap.size≤k from fun k hk=>by
   have h0:=HB7.out.size;rcases List.mem_append.1 hk with hk | hk
   ·have:=HF.out.low k hk;omega
   ·have:=HH.out.low k hk;have:=HB8.out.size;omega)
  clear hbt6 hno hbt8 hb9 hb10 hfe hf8 hbw hn6 hc6 hn6s hSs hl6 HF HH HB8 HB9 HBU
  go_upto_region 12 with (first
   |(go_at_call 36;with_reducible refine HFE.out.mono ?_;rintro r w10 ⟨U1,rfl,N1,N2,hs1⟩
     obtain ⟨W11,s11,k11,hcv2,hb11,hfe2⟩:=feed_two (p:=0) (by decide) (HH9.out.keeps hs1.keeps HDI.out) [] Clear.nil S (putR rn) (some ⟨b6,0,none⟩) n6 cap6 (bts_sub (bts_keeps HBT.out (hs1.keeps.mono fun k hk=>List.mem_append_left _ hk)) fun k hk=>List.mem_append_right _ hk) HN6.out.1 HN6.out.2.1 HN6.out.2.2
     have HB11:=Lib.hid (show Below w10.heap.size w10 _ from hb11.alloc hb11.size (.cells #[.slice (some ⟨b6,0,none⟩) n6 cap6,.slice (some ⟨s11,0,none⟩) S.size k11] 22));have HFE2:=Lib.hid hfe2;have HS1:=Lib.hid hs1;clear hfe2 hb11 hs1)
   |(go_at_call 36;with_reducible refine HFE2.out.mono ?_;rintro r w12 ⟨U2,rfl,P1,P2,hs2⟩
     have HS2:=Lib.hid hs2;clear hs2))
  have hst:=told_past HS1.out HB11.out HS2.out;obtain ⟨fe,hfe0,⟨fF,hF1,hF2,hF3⟩,⟨fG,hG1,hG2,hG3⟩⟩:=HCL.out rn HNE.out
  have HFF:=Lib.hid ((HS1.out.fat.keeps (Keeps.of_below HB11.out:Keeps [] w10 _) (fun _ _ hm=>by cases hm)).keeps HS2.out.keeps (HDI.out.of HH9.out.in HS1.out.of).symm);have HGG:=Lib.hid HS2.out.fat;rw [HSL.out.1,hF1] at HFF;rw [HSL.out.1,hG1] at HGG;rw [HSL.out.1,hF1,hG1] at hst;obtain ⟨hs1',hs2'⟩:=hst;have hfit:=HSN.out.fit;have hcf:(F.code fF)=fe∧F.parted fF=true:=⟨hF2,hF3⟩
  have hb10:Below w.heap.size w w10:=HBW.out.trans (HS1.out.keeps.below HBW.out.size (fun k hk=>HLO.out k (List.mem_append_left _ hk)));have hb11:=Base.below_step hb10 HB11.out
  have hb12:Below w.heap.size w w12:=hb11.trans (HS2.out.keeps.below hb11.size (fun k hk=>HLO.out k (List.mem_append_right _ hk)));have HB12:=Lib.hid hb12;generalize wrR rn=R9 at *;obtain ⟨a1,c1,e1,hc1⟩:=hs1';obtain ⟨b1,rfl,hl1,hr1⟩:=hc1 Nat.zero_lt_one;obtain ⟨fa1,fc1,ba1,bc1,ta1,tc1,p1,p2,p3,d0,d1,d2,d3,d4,d5,d6⟩:=hr1 0 Nat.zero_lt_one;obtain ⟨a2,c2,e2,hc2⟩:=hs2';obtain ⟨b2,rfl,hl2,hr2⟩:=hc2 Nat.zero_lt_one;obtain ⟨fa2,fc2,ba2,bc2,ta2,tc2,p4,p5,p6,u0,u1,u2,u3,u4,u5,u6⟩:=hr2 0 Nat.zero_lt_one;have e1:U1=.slice (some ⟨b1,0,none⟩) 1 c1:=e1;have e2:U2=.slice (some ⟨b2,0,none⟩) 1 c2:=e2;subst e1;subst e2;have hdw:Below w12.heap.size w12 (w12.drewN 1):=Base.below_drewN (Below.refl _ _) 1;have HC1:Hid (∀w1,Below (w12.drewN 1).heap.size (w12.drewN 1) w1→w1.cell? ⟨b1,0,none⟩=some (.string R9.m)∧w1.cell? ⟨b1,1,none⟩=some (.string R9.x)∧w1.cell? ⟨b1,2,none⟩=some (.int .i64 R9.k)∧w1.cell? ⟨b1,3,none⟩=some (.slice fa1 R9.fs.length fc1)∧w1.cell? ⟨b1,4,none⟩=some (.bool R9.ch)∧w1.cell? ⟨b1,5,none⟩=some (.slice ba1 R9.body.length bc1)∧w1.cell? ⟨b1,6,none⟩=some (.slice ta1 R9.ts.length tc1)):=Lib.hid fun w1 hb=>by have h:=fun i=>(hb.cell (p:=⟨b1,i,none⟩) (show b1<(w12.drewN 1).heap.size from hl1));exact ⟨(h 0).trans d0,(h 1).trans d1,(h 2).trans d2,(h 3).trans d3,(h 4).trans d4,(h 5).trans d5,(h 6).trans d6⟩
  have HC2:Hid (∀w1,Below (w12.drewN 1).heap.size (w12.drewN 1) w1→w1.cell? ⟨b2,0,none⟩=some (.string R9.m)∧w1.cell? ⟨b2,1,none⟩=some (.string R9.x)∧w1.cell? ⟨b2,2,none⟩=some (.int .i64 R9.k)∧w1.cell? ⟨b2,3,none⟩=some (.slice fa2 R9.fs.length fc2)∧w1.cell? ⟨b2,4,none⟩=some (.bool R9.ch)∧w1.cell? ⟨b2,5,none⟩=some (.slice ba2 R9.body.length bc2)∧w1.cell? ⟨b2,6,none⟩=some (.slice ta2 R9.ts.length tc2)):=Lib.hid fun w1 hb=>by have h:=fun i=>(hb.cell (p:=⟨b2,i,none⟩) (show b2<(w12.drewN 1).heap.size from hl2));exact ⟨(h 0).trans u0,(h 1).trans u1,(h 2).trans u2,(h 3).trans u3,(h 4).trans u4,(h 5).trans u5,(h 6).trans u6⟩
  have hrd1:Rec.Reads w12 (.agg #[.string R9.m,.string R9.x,.int .i64 R9.k,.slice fa1 R9.fs.length fc1,.bool R9.ch,.slice ba1 R9.body.length bc1,.slice ta1 R9.ts.length tc1]) R9:=⟨_,_,_,_,_,_,rfl,p1,p2,p3⟩;have hrd2:Rec.Reads w12 (.agg #[.string R9.m,.string R9.x,.int .i64 R9.k,.slice fa2 R9.fs.length fc2,.bool R9.ch,.slice ba2 R9.body.length bc2,.slice ta2 R9.ts.length tc2]) R9:=⟨_,_,_,_,_,_,rfl,p4,p5,p6⟩;have HSM:Hid (∀w1,Below (w12.drewN 1).heap.size (w12.drewN 1) w1→Calls Tryz.prog 48 #[.agg #[.string R9.m,.string R9.x,.int .i64 R9.k,.slice fa1 R9.fs.length fc1,.bool R9.ch,.slice ba1 R9.body.length bc1,.slice ta1 R9.ts.length tc1],.agg #[.string R9.m,.string R9.x,.int .i64 R9.k,.slice fa2 R9.fs.length fc2,.bool R9.ch,.slice ba2 R9.body.length bc2,.slice ta2 R9.ts.length tc2]] w1 fun r w'=>r=.returned (.bool true)∧Below w1.heap.size w1 w'):=Lib.hid fun w1 hb=>by
   have h:=Rec.rsame_any _ _ _ _ w1 ((hrd1.below hdw).below hb) ((hrd2.below hdw).below hb) hfit hfit
   rwa [Rec.same_self] at h
  have hff:∀w1,Below (w12.drewN 1).heap.size (w12.drewN 1) w1→w1.cell? ⟨g,2,none⟩=some (.int .i64 (fe:Int))∧w1.cell? ⟨g,3,none⟩=some (.bool true):=fun w1 hb=>by
   have h:=((HFF.out.keeps (Keeps.of_below hdw:Keeps [] w12 _) (fun _ _ hm=>by cases hm)).keeps (Keeps.of_below hb:Keeps [] _ w1) (fun _ _ hm=>by cases hm)).c.2.2
   rwa [hF2,hF3] at h
  have hgg:∀w1,Below (w12.drewN 1).heap.size (w12.drewN 1) w1→w1.cell? ⟨q,2,none⟩=some (.int .i64 (fe:Int))∧w1.cell? ⟨q,3,none⟩=some (.bool false):=fun w1 hb=>by
   have h:=((HGG.out.keeps (Keeps.of_below hdw:Keeps [] w12 _) (fun _ _ hm=>by cases hm)).keeps (Keeps.of_below hb:Keeps [] _ w1) (fun _ _ hm=>by cases hm)).c.2.2
   rwa [hG2,hG3] at h
  have HVF:Hid (∀w1,Below (w12.drewN 1).heap.size (w12.drewN 1) w1→Calls Tryz.prog 38 #[.pointer (some ⟨g,2,none⟩)] w1 fun r w'=>r=.returned (.int .i64 2)∧w'=w1):=Lib.hid fun w1 hb=>by
   have h:=verdict_any (w:=w1) g fe (hff w1 hb).1
   rwa [if_neg hfe0] at h
  have HVG:Hid (∀w1,Below (w12.drewN 1).heap.size (w12.drewN 1) w1→Calls Tryz.prog 38 #[.pointer (some ⟨q,2,none⟩)] w1 fun r w'=>r=.returned (.int .i64 2)∧w'=w1):=Lib.hid fun w1 hb=>by
   have h:=verdict_any (w:=w1) q fe (hgg w1 hb).1
   rwa [if_neg hfe0] at h
  have HPF:=Lib.hid fun (w1:World) (hb:Below (w12.drewN 1).heap.size (w12.drewN 1) w1)=>parted_any (w:=w1) g true (hff w1 hb).2;have HPG:=Lib.hid fun (w1:World) (hb:Below (w12.drewN 1).heap.size (w12.drewN 1) w1)=>parted_any (w:=w1) q false (hgg w1 hb).2;have HCF:=Lib.hid fun (w1:World) (hb:Below (w12.drewN 1).heap.size (w12.drewN 1) w1)=>code_any (w:=w1) g fe (hff w1 hb).1;have HCG:=Lib.hid fun (w1:World) (hb:Below (w12.drewN 1).heap.size (w12.drewN 1) w1)=>code_any (w:=w1) q fe (hgg w1 hb).1;clear hff hgg hrd1 hrd2 hr1 hr2 hc1 hc2 p1 p2 p3 p4 p5 p6 d0 d1 d2 d3 d4 d5 d6 u0 u1 u2 u3 u4 u5 u6 hb10 hb11 hb12 hdw hcf hF1 hF2 hF3 hG1 hG2 hG3 HFF HGG HS1 HS2 HFE2 HB11 HFE HBT HH9 HDI HN6 HLO hfit hl1 hl2;refine Each.region 55 [57,58,59,60,61,62,63,64,65,66,67,68,69,70,71,72,73,74,75,76,77,78,79,80,81,82,83,84,85,86,87,88,89,90,91,92,93,94,95,96,97,98,99,100,101,102,103,104,105,106,107,108,109,110,111]
   [fun v _=>v=.slice (some ⟨b1,0,none⟩) 1 c1,
     fun v _=>v=.int .i64 1,
     fun v _=>v=.bool true,
     fun v _=>v=.bool true,
     Each.When (true) true (fun v _=>v=.slice (some ⟨b2,0,none⟩) 1 c2),
     Each.When (true) true (fun v _=>v=.int .i64 1),
     Each.When (true) true (fun v _=>v=.bool true),
     fun v _=>v=.bool true,
     fun v _=>v=.bool true,
     Each.When (true) true (fun v _=>v=.slice (some ⟨b1,0,none⟩) 1 c1),
     Each.When (true) true (fun v _=>v=.pointer (some ⟨b1,0,none⟩)),
     Each.When (true) true (fun v _=>v=.agg #[.string R9.m,.string R9.x,.int .i64 R9.k,.slice fa1 R9.fs.length fc1,.bool R9.ch,.slice ba1 R9.body.length bc1,.slice ta1 R9.ts.length tc1]),
     Each.When (true) true (fun v _=>v=.slice (some ⟨b2,0,none⟩) 1 c2),
     Each.When (true) true (fun v _=>v=.pointer (some ⟨b2,0,none⟩)),
     Each.When (true) true (fun v _=>v=.agg #[.string R9.m,.string R9.x,.int .i64 R9.k,.slice fa2 R9.fs.length fc2,.bool R9.ch,.slice ba2 R9.body.length bc2,.slice ta2 R9.ts.length tc2]),
     Each.When (true) true (fun v _=>v=.bool true),
     fun v _=>v=.bool true,
     fun v _=>v=.bool true,
     Each.When (true) true (fun v _=>v=.pointer (some ⟨g,0,none⟩)),
     Each.When (true) true (fun v _=>v=.pointer (some ⟨g,0,none⟩)),
     Each.When (true) true (fun v _=>v=.pointer (some ⟨g,2,none⟩)),
     Each.When (true) true (fun v _=>v=.int .i64 2),
     Each.When (true) true (fun v _=>v=.bool true),
     fun v _=>v=.bool true,
     fun v _=>v=.bool true,
     Each.When (true) true (fun v _=>v=.pointer (some ⟨g,0,none⟩)),
     Each.When (true) true (fun v _=>v=.pointer (some ⟨g,0,none⟩)),
     Each.When (true) true (fun v _=>v=.pointer (some ⟨g,2,none⟩)),
     Each.When (true) true (fun v _=>v=.bool true),
     fun v _=>v=.bool true,
     fun v _=>v=.bool true,
     Each.When (true) true (fun v _=>v=.pointer (some ⟨q,0,none⟩)),
     Each.When (true) true (fun v _=>v=.pointer (some ⟨q,0,none⟩)),
     Each.When (true) true (fun v _=>v=.pointer (some ⟨q,2,none⟩)),
     Each.When (true) true (fun v _=>v=.int .i64 2),
     Each.When (true) true (fun v _=>v=.bool true),
     fun v _=>v=.bool true,
     fun v _=>v=.bool true,
     Each.When (true) true (fun v _=>v=.pointer (some ⟨q,0,none⟩)),
     Each.When (true) true (fun v _=>v=.pointer (some ⟨q,0,none⟩)),
     Each.When (true) true (fun v _=>v=.pointer (some ⟨q,2,none⟩)),
     Each.When (true) true (fun v _=>v=.bool false),
     Each.When (true) true (fun v _=>v=.bool true),
     fun v _=>v=.bool true,
     fun v _=>v=.bool true,
     Each.When (true) true (fun v _=>v=.pointer (some ⟨g,0,none⟩)),
     Each.When (true) true (fun v _=>v=.pointer (some ⟨g,0,none⟩)),
     Each.When (true) true (fun v _=>v=.pointer (some ⟨g,2,none⟩)),
     Each.When (true) true (fun v _=>v=.int .i64 (fe:Int)),
     Each.When (true) true (fun v _=>v=.pointer (some ⟨q,0,none⟩)),
     Each.When (true) true (fun v _=>v=.pointer (some ⟨q,0,none⟩)),
     Each.When (true) true (fun v _=>v=.pointer (some ⟨q,2,none⟩)),
     Each.When (true) true (fun v _=>v=.int .i64 (fe:Int)),
     Each.When (true) true (fun v _=>v=.bool true),
     fun v _=>v=.bool true]
   (.quiet 55 .done) (by kernel_rfl) (by kernel_rfl) (by kernel_rfl) (by kernel_rfl) (fun _ _ d _ _ h=>by cases d<;>exact h) (by rfl) (by rfl)
   ⟨Each.Lasts.eq _,Each.Lasts.eq _,Each.Lasts.eq _,Each.Lasts.eq _,Each.Lasts.when (Each.Lasts.eq _),Each.Lasts.when (Each.Lasts.eq _),Each.Lasts.when (Each.Lasts.eq _),Each.Lasts.eq _,Each.Lasts.eq _,Each.Lasts.when (Each.Lasts.eq _),Each.Lasts.when (Each.Lasts.eq _),Each.Lasts.when (Each.Lasts.eq _),Each.Lasts.when (Each.Lasts.eq _),Each.Lasts.when (Each.Lasts.eq _),Each.Lasts.when (Each.Lasts.eq _),Each.Lasts.when (Each.Lasts.eq _),Each.Lasts.eq _,Each.Lasts.eq _,Each.Lasts.when (Each.Lasts.eq _),Each.Lasts.when (Each.Lasts.eq _),Each.Lasts.when (Each.Lasts.eq _),Each.Lasts.when (Each.Lasts.eq _),Each.Lasts.when (Each.Lasts.eq _),Each.Lasts.eq _,Each.Lasts.eq _,Each.Lasts.when (Each.Lasts.eq _),Each.Lasts.when (Each.Lasts.eq _),Each.Lasts.when (Each.Lasts.eq _),Each.Lasts.when (Each.Lasts.eq _),Each.Lasts.eq _,Each.Lasts.eq _,Each.Lasts.when (Each.Lasts.eq _),Each.Lasts.when (Each.Lasts.eq _),Each.Lasts.when (Each.Lasts.eq _),Each.Lasts.when (Each.Lasts.eq _),Each.Lasts.when (Each.Lasts.eq _),Each.Lasts.eq _,Each.Lasts.eq _,Each.Lasts.when (Each.Lasts.eq _),Each.Lasts.when (Each.Lasts.eq _),Each.Lasts.when (Each.Lasts.eq _),Each.Lasts.when (Each.Lasts.eq _),Each.Lasts.when (Each.Lasts.eq _),Each.Lasts.eq _,Each.Lasts.eq _,Each.Lasts.when (Each.Lasts.eq _),Each.Lasts.when (Each.Lasts.eq _),Each.Lasts.when (Each.Lasts.eq _),Each.Lasts.when (Each.Lasts.eq _),Each.Lasts.when (Each.Lasts.eq _),Each.Lasts.when (Each.Lasts.eq _),Each.Lasts.when (Each.Lasts.eq _),Each.Lasts.when (Each.Lasts.eq _),Each.Lasts.when (Each.Lasts.eq _),Each.Lasts.eq _,trivial⟩ ?_ ?_
  ·refine ⟨?_,?_,?_,?_,?_,?_,?_,?_,?_,?_,?_,?_,?_,?_,?_,?_,?_,?_,?_,?_,?_,?_,?_,?_,?_,?_,?_,?_,?_,?_,?_,?_,?_,?_,?_,?_,?_,?_,?_,?_,?_,?_,?_,?_,?_,?_,?_,?_,?_,?_,?_,?_,?_,?_,?_,trivial⟩
   ·refine Each.fine rfl (fun ev w1 hR hb hh=>?_);clear hh;have e14:=hR.old 14 rfl;simp only [Array.getD_eq_getD_getElem?,List.getElem?_toArray,List.getElem?_cons_succ,List.getElem?_cons_zero,Option.getD_some] at e14;refine Each.Goes.same ?_;go_simp;try with_reducible rfl
   ·refine Each.fine rfl (fun ev w1 hR hb hh=>?_);have e57:(ev (.tmp 57)=.slice (some ⟨b1,0,none⟩) 1 c1):=hh.at 0;clear hh;refine Each.Goes.same ?_;go_simp;try with_reducible rfl
   ·refine Each.fine rfl (fun ev w1 hR hb hh=>?_);have e58:(ev (.tmp 58)=.int .i64 1):=hh.at 0;clear hh;have ec:=hR.const;refine Each.Goes.same ?_;go_simp;try with_reducible rfl
   ·refine Each.fine rfl (fun ev w1 hR hb hh=>?_);have e59:(ev (.tmp 59)=.bool true):=hh.at 0;clear hh;refine Each.Goes.same ?_;go_simp;try with_reducible rfl
   ·refine Each.fine_when 3 60 rfl rfl (fun ev w1 hh=>?_) (fun hg ev w1 hR hb hh=>?_)
    ·exact hh.at 0
    ·clear hh;have e15:=hR.old 15 rfl;simp only [Array.getD_eq_getD_getElem?,List.getElem?_toArray,List.getElem?_cons_succ,List.getElem?_cons_zero,Option.getD_some] at e15;refine Each.Goes.same ?_;go_simp;try with_reducible rfl
   ·refine Each.fine_when 3 60 rfl rfl (fun ev w1 hh=>?_) (fun hg ev w1 hR hb hh=>?_)
    ·exact hh.at 1
    ·have e61:=(show ((true)=true→ev (.tmp 61)=.slice (some ⟨b2,0,none⟩) 1 c2) from hh.at 0) hg;clear hh;refine Each.Goes.same ?_;go_simp;try with_reducible rfl
   ·refine Each.fine_when 3 60 rfl rfl (fun ev w1 hh=>?_) (fun hg ev w1 hR hb hh=>?_)
    ·exact hh.at 1
    ·have e62:=(show ((true)=true→ev (.tmp 62)=.int .i64 1) from hh.at 0) hg;clear hh;have ec:=hR.const;refine Each.Goes.same ?_;go_simp;try with_reducible rfl
   ·refine Each.fine rfl (fun ev w1 hR hb hh=>?_);have e60:(ev (.tmp 60)=.bool true):=hh.at 0;have h63:((true)=true→ev (.tmp 63)=.bool true):=hh.at 1;clear hh;have ec:=hR.const;refine Each.Goes.same ?_;have e63:=h63 rfl;go_simp;try with_reducible rfl
   ·refine Each.fine rfl (fun ev w1 hR hb hh=>?_);have e64:(ev (.tmp 64)=.bool true):=hh.at 0;clear hh;refine Each.Goes.same ?_;go_simp;try with_reducible rfl
   ·refine Each.fine_when 8 65 rfl rfl (fun ev w1 hh=>?_) (fun hg ev w1 hR hb hh=>?_)
    ·exact hh.at 0
    ·clear hh;have e14:=hR.old 14 rfl;simp only [Array.getD_eq_getD_getElem?,List.getElem?_toArray,List.getElem?_cons_succ,List.getElem?_cons_zero,Option.getD_some] at e14;refine Each.Goes.same ?_;go_simp;try with_reducible rfl
   ·refine Each.fine_when 8 65 rfl rfl (fun ev w1 hh=>?_) (fun hg ev w1 hR hb hh=>?_)
    ·exact hh.at 1
    ·have e66:=(show ((true)=true→ev (.tmp 66)=.slice (some ⟨b1,0,none⟩) 1 c1) from hh.at 0) hg;clear hh;have ec:=hR.const;refine Each.Goes.same ?_;go_simp;try with_reducible rfl
   ·refine Each.fine_when 8 65 rfl rfl (fun ev w1 hh=>?_) (fun hg ev w1 hR hb hh=>?_)
    ·exact hh.at 1
    ·have e67:=(show ((true)=true→ev (.tmp 67)=.pointer (some ⟨b1,0,none⟩)) from hh.at 0) hg;clear hh;obtain ⟨q0,q1,q2,q3,q4,q5,q6⟩:=HC1.out w1 hb;refine Each.Goes.same ?_;go_simp;try with_reducible rfl
   ·refine Each.fine_when 8 65 rfl rfl (fun ev w1 hh=>?_) (fun hg ev w1 hR hb hh=>?_)
    ·exact hh.at 0
    ·clear hh;have e15:=hR.old 15 rfl;simp only [Array.getD_eq_getD_getElem?,List.getElem?_toArray,List.getElem?_cons_succ,List.getElem?_cons_zero,Option.getD_some] at e15;refine Each.Goes.same ?_;go_simp;try with_reducible rfl
   ·refine Each.fine_when 8 65 rfl rfl (fun ev w1 hh=>?_) (fun hg ev w1 hR hb hh=>?_)
    ·exact hh.at 1
    ·have e69:=(show ((true)=true→ev (.tmp 69)=.slice (some ⟨b2,0,none⟩) 1 c2) from hh.at 0) hg;clear hh;have ec:=hR.const;refine Each.Goes.same ?_;go_simp;try with_reducible rfl
   ·refine Each.fine_when 8 65 rfl rfl (fun ev w1 hh=>?_) (fun hg ev w1 hR hb hh=>?_)
    ·exact hh.at 1
    ·have e70:=(show ((true)=true→ev (.tmp 70)=.pointer (some ⟨b2,0,none⟩)) from hh.at 0) hg;clear hh;obtain ⟨q0,q1,q2,q3,q4,q5,q6⟩:=HC2.out w1 hb;refine Each.Goes.same ?_;go_simp;try with_reducible rfl
   ·refine Each.fine_when 8 65 rfl rfl (fun ev w1 hh=>?_) (fun hg ev w1 hR hb hh=>?_)
    ·exact hh.at 2
    ·have e68:=(show ((true)=true→ev (.tmp 68)=.agg #[.string R9.m,.string R9.x,.int .i64 R9.k,.slice fa1 R9.fs.length fc1,.bool R9.ch,.slice ba1 R9.body.length bc1,.slice ta1 R9.ts.length tc1]) from hh.at 0) hg;have e71:=(show ((true)=true→ev (.tmp 71)=.agg #[.string R9.m,.string R9.x,.int .i64 R9.k,.slice fa2 R9.fs.length fc2,.bool R9.ch,.slice ba2 R9.body.length bc2,.slice ta2 R9.ts.length tc2]) from hh.at 1) hg;clear hh;have ef:=hR.func
     refine Each.Goes.enter 48 #[.agg #[.string R9.m,.string R9.x,.int .i64 R9.k,.slice fa1 R9.fs.length fc1,.bool R9.ch,.slice ba1 R9.body.length bc1,.slice ta1 R9.ts.length tc1],.agg #[.string R9.m,.string R9.x,.int .i64 R9.k,.slice fa2 R9.fs.length fc2,.bool R9.ch,.slice ba2 R9.body.length bc2,.slice ta2 R9.ts.length tc2]] (by go_simp) ((HSM.out w1 hb).mono ?_);rintro r w9 ⟨rfl,hb2⟩;exact ⟨_,rfl,hb2,rfl⟩
   ·refine Each.fine rfl (fun ev w1 hR hb hh=>?_);have e65:(ev (.tmp 65)=.bool true):=hh.at 0;have h72:((true)=true→ev (.tmp 72)=.bool true):=hh.at 1;clear hh;have ec:=hR.const;refine Each.Goes.same ?_;have e72:=h72 rfl;go_simp;try with_reducible rfl
   ·refine Each.fine rfl (fun ev w1 hR hb hh=>?_);have e73:(ev (.tmp 73)=.bool true):=hh.at 0;clear hh;refine Each.Goes.same ?_;go_simp;try with_reducible rfl
   ·refine Each.fine_when 17 74 rfl rfl (fun ev w1 hh=>?_) (fun hg ev w1 hR hb hh=>?_)
    ·exact hh.at 0
    ·clear hh;have e12:=hR.old 12 rfl;simp only [Array.getD_eq_getD_getElem?,List.getElem?_toArray,List.getElem?_cons_succ,List.getElem?_cons_zero,Option.getD_some] at e12;refine Each.Goes.same ?_;go_simp;try with_reducible rfl
   ·refine Each.fine_when 17 74 rfl rfl (fun ev w1 hh=>?_) (fun hg ev w1 hR hb hh=>?_)
    ·exact hh.at 1
    ·have e75:=(show ((true)=true→ev (.tmp 75)=.pointer (some ⟨g,0,none⟩)) from hh.at 0) hg;clear hh;refine Each.Goes.same ?_;go_simp;try with_reducible rfl
   ·refine Each.fine_when 17 74 rfl rfl (fun ev w1 hh=>?_) (fun hg ev w1 hR hb hh=>?_)
    ·exact hh.at 1
    ·have e76:=(show ((true)=true→ev (.tmp 76)=.pointer (some ⟨g,0,none⟩)) from hh.at 0) hg;clear hh;refine Each.Goes.same ?_;go_simp;try with_reducible rfl
   ·refine Each.fine_when 17 74 rfl rfl (fun ev w1 hh=>?_) (fun hg ev w1 hR hb hh=>?_)
    ·exact hh.at 1
    ·have e77:=(show ((true)=true→ev (.tmp 77)=.pointer (some ⟨g,2,none⟩)) from hh.at 0) hg;clear hh;have ef:=hR.func
     refine Each.Goes.enter 38 #[.pointer (some ⟨g,2,none⟩)] (by go_simp) ((HVF.out w1 hb).mono ?_);rintro r w9 ⟨rfl,hw⟩;rw [hw];exact ⟨_,rfl,Below.refl _ _,rfl⟩
   ·refine Each.fine_when 17 74 rfl rfl (fun ev w1 hh=>?_) (fun hg ev w1 hR hb hh=>?_)
    ·exact hh.at 1
    ·have e78:=(show ((true)=true→ev (.tmp 78)=.int .i64 2) from hh.at 0) hg;clear hh;have ec:=hR.const;refine Each.Goes.same ?_;go_simp;try with_reducible rfl
   ·refine Each.fine rfl (fun ev w1 hR hb hh=>?_);have e74:(ev (.tmp 74)=.bool true):=hh.at 0;have h79:((true)=true→ev (.tmp 79)=.bool true):=hh.at 1;clear hh;have ec:=hR.const;refine Each.Goes.same ?_;have e79:=h79 rfl;go_simp;try with_reducible rfl
   ·refine Each.fine rfl (fun ev w1 hR hb hh=>?_);have e80:(ev (.tmp 80)=.bool true):=hh.at 0;clear hh;refine Each.Goes.same ?_;go_simp;try with_reducible rfl
   ·refine Each.fine_when 24 81 rfl rfl (fun ev w1 hh=>?_) (fun hg ev w1 hR hb hh=>?_)
    ·exact hh.at 0
    ·clear hh;have e12:=hR.old 12 rfl;simp only [Array.getD_eq_getD_getElem?,List.getElem?_toArray,List.getElem?_cons_succ,List.getElem?_cons_zero,Option.getD_some] at e12;refine Each.Goes.same ?_;go_simp;try with_reducible rfl
   ·refine Each.fine_when 24 81 rfl rfl (fun ev w1 hh=>?_) (fun hg ev w1 hR hb hh=>?_)
    ·exact hh.at 1
    ·have e82:=(show ((true)=true→ev (.tmp 82)=.pointer (some ⟨g,0,none⟩)) from hh.at 0) hg;clear hh;refine Each.Goes.same ?_;go_simp;try with_reducible rfl
   ·refine Each.fine_when 24 81 rfl rfl (fun ev w1 hh=>?_) (fun hg ev w1 hR hb hh=>?_)
    ·exact hh.at 1
    ·have e83:=(show ((true)=true→ev (.tmp 83)=.pointer (some ⟨g,0,none⟩)) from hh.at 0) hg;clear hh;refine Each.Goes.same ?_;go_simp;try with_reducible rfl
   ·refine Each.fine_when 24 81 rfl rfl (fun ev w1 hh=>?_) (fun hg ev w1 hR hb hh=>?_)
    ·exact hh.at 1
    ·have e84:=(show ((true)=true→ev (.tmp 84)=.pointer (some ⟨g,2,none⟩)) from hh.at 0) hg;clear hh;have ef:=hR.func
     refine Each.Goes.enter 40 #[.pointer (some ⟨g,2,none⟩)] (by go_simp) ((HPF.out w1 hb).mono ?_);rintro r w9 ⟨rfl,hw⟩;rw [hw];exact ⟨_,rfl,Below.refl _ _,rfl⟩
   ·refine Each.fine rfl (fun ev w1 hR hb hh=>?_);have e81:(ev (.tmp 81)=.bool true):=hh.at 0;have h85:((true)=true→ev (.tmp 85)=.bool true):=hh.at 1;clear hh;have ec:=hR.const;refine Each.Goes.same ?_;have e85:=h85 rfl;go_simp;try with_reducible rfl
   ·refine Each.fine rfl (fun ev w1 hR hb hh=>?_);have e86:(ev (.tmp 86)=.bool true):=hh.at 0;clear hh;refine Each.Goes.same ?_;go_simp;try with_reducible rfl
   ·refine Each.fine_when 30 87 rfl rfl (fun ev w1 hh=>?_) (fun hg ev w1 hR hb hh=>?_)
    ·exact hh.at 0
    ·clear hh;have e13:=hR.old 13 rfl;simp only [Array.getD_eq_getD_getElem?,List.getElem?_toArray,List.getElem?_cons_succ,List.getElem?_cons_zero,Option.getD_some] at e13;refine Each.Goes.same ?_;go_simp;try with_reducible rfl
   ·refine Each.fine_when 30 87 rfl rfl (fun ev w1 hh=>?_) (fun hg ev w1 hR hb hh=>?_)
    ·exact hh.at 1
    ·have e88:=(show ((true)=true→ev (.tmp 88)=.pointer (some ⟨q,0,none⟩)) from hh.at 0) hg;clear hh;refine Each.Goes.same ?_;go_simp;try with_reducible rfl
   ·refine Each.fine_when 30 87 rfl rfl (fun ev w1 hh=>?_) (fun hg ev w1 hR hb hh=>?_)
    ·exact hh.at 1
    ·have e89:=(show ((true)=true→ev (.tmp 89)=.pointer (some ⟨q,0,none⟩)) from hh.at 0) hg;clear hh;refine Each.Goes.same ?_;go_simp;try with_reducible rfl
   ·refine Each.fine_when 30 87 rfl rfl (fun ev w1 hh=>?_) (fun hg ev w1 hR hb hh=>?_)
    ·exact hh.at 1
    ·have e90:=(show ((true)=true→ev (.tmp 90)=.pointer (some ⟨q,2,none⟩)) from hh.at 0) hg;clear hh;have ef:=hR.func
     refine Each.Goes.enter 38 #[.pointer (some ⟨q,2,none⟩)] (by go_simp) ((HVG.out w1 hb).mono ?_);rintro r w9 ⟨rfl,hw⟩;rw [hw];exact ⟨_,rfl,Below.refl _ _,rfl⟩
   ·refine Each.fine_when 30 87 rfl rfl (fun ev w1 hh=>?_) (fun hg ev w1 hR hb hh=>?_)
    ·exact hh.at 1
    ·have e91:=(show ((true)=true→ev (.tmp 91)=.int .i64 2) from hh.at 0) hg;clear hh;have ec:=hR.const;refine Each.Goes.same ?_;go_simp;try with_reducible rfl
   ·refine Each.fine rfl (fun ev w1 hR hb hh=>?_);have e87:(ev (.tmp 87)=.bool true):=hh.at 0;have h92:((true)=true→ev (.tmp 92)=.bool true):=hh.at 1;clear hh;have ec:=hR.const;refine Each.Goes.same ?_;have e92:=h92 rfl;go_simp;try with_reducible rfl
   ·refine Each.fine rfl (fun ev w1 hR hb hh=>?_);have e93:(ev (.tmp 93)=.bool true):=hh.at 0;clear hh;refine Each.Goes.same ?_;go_simp;try with_reducible rfl
   ·refine Each.fine_when 37 94 rfl rfl (fun ev w1 hh=>?_) (fun hg ev w1 hR hb hh=>?_)
    ·exact hh.at 0
    ·clear hh;have e13:=hR.old 13 rfl;simp only [Array.getD_eq_getD_getElem?,List.getElem?_toArray,List.getElem?_cons_succ,List.getElem?_cons_zero,Option.getD_some] at e13;refine Each.Goes.same ?_;go_simp;try with_reducible rfl
   ·refine Each.fine_when 37 94 rfl rfl (fun ev w1 hh=>?_) (fun hg ev w1 hR hb hh=>?_)
    ·exact hh.at 1
    ·have e95:=(show ((true)=true→ev (.tmp 95)=.pointer (some ⟨q,0,none⟩)) from hh.at 0) hg;clear hh;refine Each.Goes.same ?_;go_simp;try with_reducible rfl
   ·refine Each.fine_when 37 94 rfl rfl (fun ev w1 hh=>?_) (fun hg ev w1 hR hb hh=>?_)
    ·exact hh.at 1
    ·have e96:=(show ((true)=true→ev (.tmp 96)=.pointer (some ⟨q,0,none⟩)) from hh.at 0) hg;clear hh;refine Each.Goes.same ?_;go_simp;try with_reducible rfl
   ·refine Each.fine_when 37 94 rfl rfl (fun ev w1 hh=>?_) (fun hg ev w1 hR hb hh=>?_)
    ·exact hh.at 1
    ·have e97:=(show ((true)=true→ev (.tmp 97)=.pointer (some ⟨q,2,none⟩)) from hh.at 0) hg;clear hh;have ef:=hR.func
     refine Each.Goes.enter 40 #[.pointer (some ⟨q,2,none⟩)] (by go_simp) ((HPG.out w1 hb).mono ?_);rintro r w9 ⟨rfl,hw⟩;rw [hw];exact ⟨_,rfl,Below.refl _ _,rfl⟩
   ·refine Each.fine_when 37 94 rfl rfl (fun ev w1 hh=>?_) (fun hg ev w1 hR hb hh=>?_)
    ·exact hh.at 1
    ·have e98:=(show ((true)=true→ev (.tmp 98)=.bool false) from hh.at 0) hg;clear hh;refine Each.Goes.same ?_;go_simp;try with_reducible rfl
   ·refine Each.fine rfl (fun ev w1 hR hb hh=>?_);have e94:(ev (.tmp 94)=.bool true):=hh.at 0;have h99:((true)=true→ev (.tmp 99)=.bool true):=hh.at 1;clear hh;have ec:=hR.const;refine Each.Goes.same ?_;have e99:=h99 rfl;go_simp;try with_reducible rfl
   ·refine Each.fine rfl (fun ev w1 hR hb hh=>?_);have e100:(ev (.tmp 100)=.bool true):=hh.at 0;clear hh;refine Each.Goes.same ?_;go_simp;try with_reducible rfl
   ·refine Each.fine_when 44 101 rfl rfl (fun ev w1 hh=>?_) (fun hg ev w1 hR hb hh=>?_)
    ·exact hh.at 0
    ·clear hh;have e12:=hR.old 12 rfl;simp only [Array.getD_eq_getD_getElem?,List.getElem?_toArray,List.getElem?_cons_succ,List.getElem?_cons_zero,Option.getD_some] at e12;refine Each.Goes.same ?_;go_simp;try with_reducible rfl
   ·refine Each.fine_when 44 101 rfl rfl (fun ev w1 hh=>?_) (fun hg ev w1 hR hb hh=>?_)
    ·exact hh.at 1
    ·have e102:=(show ((true)=true→ev (.tmp 102)=.pointer (some ⟨g,0,none⟩)) from hh.at 0) hg;clear hh;refine Each.Goes.same ?_;go_simp;try with_reducible rfl
   ·refine Each.fine_when 44 101 rfl rfl (fun ev w1 hh=>?_) (fun hg ev w1 hR hb hh=>?_)
    ·exact hh.at 1
    ·have e103:=(show ((true)=true→ev (.tmp 103)=.pointer (some ⟨g,0,none⟩)) from hh.at 0) hg;clear hh;refine Each.Goes.same ?_;go_simp;try with_reducible rfl
   ·refine Each.fine_when 44 101 rfl rfl (fun ev w1 hh=>?_) (fun hg ev w1 hR hb hh=>?_)
    ·exact hh.at 1
    ·have e104:=(show ((true)=true→ev (.tmp 104)=.pointer (some ⟨g,2,none⟩)) from hh.at 0) hg;clear hh;have ef:=hR.func
     refine Each.Goes.enter 39 #[.pointer (some ⟨g,2,none⟩)] (by go_simp) ((HCF.out w1 hb).mono ?_);rintro r w9 ⟨rfl,hw⟩;rw [hw];exact ⟨_,rfl,Below.refl _ _,rfl⟩
   ·refine Each.fine_when 44 101 rfl rfl (fun ev w1 hh=>?_) (fun hg ev w1 hR hb hh=>?_)
    ·exact hh.at 0
    ·clear hh;have e13:=hR.old 13 rfl;simp only [Array.getD_eq_getD_getElem?,List.getElem?_toArray,List.getElem?_cons_succ,List.getElem?_cons_zero,Option.getD_some] at e13;refine Each.Goes.same ?_;go_simp;try with_reducible rfl
   ·refine Each.fine_when 44 101 rfl rfl (fun ev w1 hh=>?_) (fun hg ev w1 hR hb hh=>?_)
    ·exact hh.at 1
    ·have e106:=(show ((true)=true→ev (.tmp 106)=.pointer (some ⟨q,0,none⟩)) from hh.at 0) hg;clear hh;refine Each.Goes.same ?_;go_simp;try with_reducible rfl
   ·refine Each.fine_when 44 101 rfl rfl (fun ev w1 hh=>?_) (fun hg ev w1 hR hb hh=>?_)
    ·exact hh.at 1
    ·have e107:=(show ((true)=true→ev (.tmp 107)=.pointer (some ⟨q,0,none⟩)) from hh.at 0) hg;clear hh;refine Each.Goes.same ?_;go_simp;try with_reducible rfl
   ·refine Each.fine_when 44 101 rfl rfl (fun ev w1 hh=>?_) (fun hg ev w1 hR hb hh=>?_)
    ·exact hh.at 2
    ·have e108:=(show ((true)=true→ev (.tmp 108)=.pointer (some ⟨q,2,none⟩)) from hh.at 0) hg;clear hh;have ef:=hR.func
     refine Each.Goes.enter 39 #[.pointer (some ⟨q,2,none⟩)] (by go_simp) ((HCG.out w1 hb).mono ?_);rintro r w9 ⟨rfl,hw⟩;rw [hw];exact ⟨_,rfl,Below.refl _ _,rfl⟩
   ·refine Each.fine_when 44 101 rfl rfl (fun ev w1 hh=>?_) (fun hg ev w1 hR hb hh=>?_)
    ·exact hh.at 2
    ·have e105:=(show ((true)=true→ev (.tmp 105)=.int .i64 (fe:Int)) from hh.at 0) hg;have e109:=(show ((true)=true→ev (.tmp 109)=.int .i64 (fe:Int)) from hh.at 1) hg;clear hh;refine Each.Goes.same ?_;go_simp;try with_reducible rfl
   ·refine Each.fine rfl (fun ev w1 hR hb hh=>?_);have e101:(ev (.tmp 101)=.bool true):=hh.at 0;have h110:((true)=true→ev (.tmp 110)=.bool true):=hh.at 1;clear hh;have ec:=hR.const;refine Each.Goes.same ?_;have e110:=h110 rfl;go_simp;try with_reducible rfl
  intro ga w13 hb13 hf;have z111:(ga 111=.bool true):=hf.at 54;clear hf;simp only [Each.putg,Act.put,List.setIfInBounds_toArray,List.set_cons_zero,List.set_cons_succ];rw [z111];simp only [Tree.grow,Tree.put1,List.getElem?_cons_zero,List.getElem?_cons_succ];refine Tree.assign _ (by rfl) (by rfl) ?_;simp only [Act.put,Act.eval,Array.getD_eq_getD_getElem?,List.getElem?_toArray,List.getElem?_cons_zero,List.getElem?_cons_succ,Option.getD_some,List.setIfInBounds_toArray,List.set_cons_zero,List.set_cons_succ];refine Tree.done ?_;go_wp2_with fail;go_ret;exact ⟨rfl,Base.below_step HB12.out hb13⟩
end code
end Go.Proofs.YtnabkcglnbdfeaaGreatDoor.FltC
namespace Go.Proofs.YtnabkcglnbdfeaaGreatDoor.FltC
open Go.RowKit Base Txt
theorem filterClauses_law (c a:Int) (la:Option Addr) (ln cap:Nat) (zs:List Int) (w:World) (hc:0≤c∧c≤255) (ha:0≤a∧a≤4294967295) (hv:Nums .u8 w la ln zs) :
 Calls Tryz.prog 7 #[.int .u8 c,.int .u32 a,.slice la ln cap] w fun e w'=>e=.returned (.bool true)∧Below w.heap.size w w':=by
 obtain ⟨c,rfl⟩:=Int.eq_ofNat_of_zero_le hc.1;obtain ⟨a,rfl⟩:=Int.eq_ofNat_of_zero_le ha.1;exact filterClauses_any c a la ln cap zs w (by omega) hv
end Go.Proofs.YtnabkcglnbdfeaaGreatDoor.FltC
