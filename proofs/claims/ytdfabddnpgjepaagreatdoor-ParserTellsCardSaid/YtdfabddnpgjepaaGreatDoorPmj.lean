import Derived.Test.YtdfabddnpgjepaaGreatDoorPmi
set_option linter.unusedSimpArgs false
open Array renaming getD_eq_getD_getElem?→Ag
open Go.Act renaming put→Ab
open Go.Lib renaming hid→Bx
open Go.Proofs.Tryz renaming prog→EW,underlying22→F0
open Go.Proofs.YtdfabddnpgjepaaGreatDoor.Base renaming below_drewN→Ak,below_step→Al,some_undef→Am
open Go.Proofs.YtdfabddnpgjepaaGreatDoor.Each renaming Goes→AF,When→AO,fine_when→AR,fine→AP,putg→AU,region_all→AW
open Go.Proofs.YtdfabddnpgjepaaGreatDoor.Each.Goes renaming enter→AG,same→AH
open Go.Proofs.YtdfabddnpgjepaaGreatDoor.Each.Lasts renaming eq→AK,when→AL
open Go.Proofs.YtdfabddnpgjepaaGreatDoor.Each.LastsTwo renaming pure→AN
open Go.Proofs.YtdfabddnpgjepaaGreatDoor.Par.Step renaming of_below→DP
open Go.Proofs.YtdfabddnpgjepaaGreatDoor.Rec renaming vals→DB
open Go.Proofs.YtdfabddnpgjepaaGreatDoor.Rec.Bk renaming new→D6
open Go.RowKit.Below renaming refl→An
open Go.World.ownsRow renaming lt→FU
open List renaming getElem?_cons_succ→BY,getElem?_cons_zero→BZ,getElem?_toArray→Cg,length_append→Cr,mem_append→C3,setIfInBounds_toArray→CH,set_cons_succ→CJ,set_cons_zero→CK
open Nat renaming le_refl→Db,lt_of_lt_of_le→Df,lt_or_ge→Dg,zero_add→Di,zero_le→Dj
open Option renaming getD_some→Ds
open Go.Value renaming int→ZZ,string→ZY,slice→ZX,bool→ZW,pointer→ZV,agg→ZU,tuple→ZT
open Go.IntKind renaming i64→ZS,u8→ZR,u32→ZQ
namespace Go.Proofs.YtdfabddnpgjepaaGreatDoor.Tel
open Go.RowKit Base Txt Mem Par Pg Each Flt
section
set_option maxHeartbeats 8000000
set_option maxRecDepth 20000
attribute [local go_sem] Am
theorem XX0L0 {P:Prop} (h:P:=by refine AP rfl (λev w1 hR hb hh=>?_);have e27:=hR.old 27 rfl;have e28:=hR.old 28 rfl;simp only [Ag,Cg,BY,BZ,Ds] at e27 e28;exact Each.std):P:=h
theorem XX1p3 {P:Prop} (h:P:=by
 clear hv hrv hmv;go_enter Tryz.func3,Tryz.ntmps3
 go_wp2_with (go_at_call 10;with_reducible refine (known_any _).mono ?_;rintro e w1 ⟨rfl,hb⟩);go_ret
 exact ⟨rfl,hb⟩):P:=h
theorem XXKfk {P:Prop} (h:P:=by
 clear hh
 exact AF.value (ZX (some ⟨w1.heap.size,0,none⟩) 1 1) (w1.alloc (.cells #[ZX (some ⟨yb,yo+k,none⟩) 1 (cy-k)] 22)) (by go_simp) ((An _ _).alloc (Db _) _) (OneA.made HIN.out hb _ _ _)):P:=h
theorem XXf01 {P:Prop} (h:P:=by
 rintro r w3 ⟨rfl,hb3⟩
 exact ⟨_,rfl,hb3,rfl⟩):P:=h
theorem XXRIC {P:Prop} (h:P:=by
 clear hh;have ec:=hR.const;refine AH ?_;go_simp;try with_reducible rfl
 all_goals (try exact wrap_in _ (by have:=HK9.out;omega) (by have:=HK9.out;omega))):P:=h
theorem XXzMG {P:Prop} (h:P:=by
 rintro r w3 ⟨rfl,hb3⟩;rw [hb3]
 exact ⟨_,rfl,An _ _,rfl⟩):P:=h
theorem parserTells_any (ra:Option Addr) (rn rc:Nat) (bs:List UInt8) (la:Option Addr) (ln cap:Nat) (zs:List Int) (a k0 at_:Nat) (x:UInt8) (how:Nat) (ma:Option Addr) (mn mcap:Nat) (ms:List UInt8) (w:World)
 (hrv:Nums .u8 w ra rn (bs.map λc=>(c.toNat:Int))) (hrc:rn<=rc) (hrn:rn<=maxLen) (hv:Nums .u8 w la ln zs) (hln:ln<=maxLen) (hlc:ln<=cap) (ha:a<4294967296) (hk:k0<256) (hat:at_<65536) (hh:how<256)
 (hmv:Nums .u8 w ma mn (ms.map λc=>(c.toNat:Int))) (hmc:mn<=mcap) (hmn:mn<=maxLen) :
 Calls EW 3 #[.slice ra rn rc,.slice la ln cap,ZZ ZQ a,ZZ ZR k0,.int .u16 at_,ZZ ZR (x.toNat:Int),ZZ ZR how,.slice ma mn mcap] w λe w'=>e=.returned (ZW true)/\Below w.heap.size w w':=by
 unfold maxLen at hln hrn hmn;by_cases h200:200<rn
 ·have d1:(200:Int)<(rn:Int):=by omega
  exact XX1p3
 have d1:¬(200:Int)<(rn:Int):=by omega
 by_cases h30:30<ln
 ·have d2:(30:Int)<(ln:Int):=by omega
  exact XX1p3
 have d2:¬(30:Int)<(ln:Int):=by omega
 by_cases h8:8<mn
 ·have d3:(8:Int)<(mn:Int):=by omega
  exact XX1p3
 have d3:¬(8:Int)<(mn:Int):=by omega
 obtain ⟨b,hbd,hright⟩:=seat_bd k0
 have HBN:=Bx (λw=>Seat.bounds_any k0 hk w);rw [hbd] at HBN;have hp30:=Seat.seatP_lt a k0
 have HPF:=Bx (λw=>Seat.profile_any a k0 ha hk w);obtain ⟨p,hpp⟩:∃p,Seat.seatP a k0=p:=⟨_,rfl⟩;rw [hpp] at HPF hp30
 have HP:=Bx (Df hp30 (by decide):p<4294967296);have hm30:=Seat.mask30 a ha;obtain ⟨p3,hp3⟩:∃p3,a%1073741824=p3:=⟨_,rfl⟩;rw [hp3] at hm30
 have HP3:=Bx (show p3<4294967296 by omega);have HM30:=Bx hm30
 have HST:=Bx (λw' (hb':Below w.heap.size w w')=>Rq.stream_any la ln cap zs w' (hv.below hb') (by omega) hlc)
 have HR3:=Bx (show Rd3 w ra rn rc from ⟨⟨hrc,by omega⟩,λh0=>by
  have hl:bs.length=rn:=by have:=hrv.1;simpa using this
  obtain ⟨yb,yo,e,h1,h2⟩:=hrv.2 h0;refine ⟨yb,yo,bs,e,hl,⟨by rw [hl];exact hrv,λad e2=>⟨by simp,?_⟩⟩⟩
  rw [e] at e2;cases e2;exact h1⟩)
 have HM3:=Bx (show Rd3 w ma mn mcap from ⟨⟨hmc,by omega⟩,λh0=>by
  have hl:ms.length=mn:=by have:=hmv.1;simpa using this
  obtain ⟨yb,yo,e,h1,h2⟩:=hmv.2 h0;refine ⟨yb,yo,ms,e,hl,⟨by rw [hl];exact hmv,λad e2=>⟨by simp,?_⟩⟩⟩
  rw [e] at e2;cases e2;exact h1⟩)
 have HAT:=Bx (And.intro hat hh)
 have HM8:=Bx (show mn<=8 by omega)
 have HR200:=Bx (show rn<=200 by omega);obtain ⟨i0,hi0,hz0,hz1,hz2⟩:=info_parts Txt.byte_info;have G1:=Bx hi0;have G2:=Bx hz0;have G3:=Bx hz1;have G4:=Bx hz2;clear hi0 hz0 hz1 hz2 hpp hp3 hv hrv hmv hbd hlc hln hrn hmn hrc hmc hright hk hat hh h200 h30 h8 hp30 hm30;go_enter Tryz.func3,Tryz.ntmps3
 go_upto_region 6 with (first
  |(go_at_call 12;with_reducible refine (HBN.out _).mono ?_;rintro e w3 ⟨rfl,hb⟩;have HB3:=Bx (Al HB2.out hb);clear hb)
  |(go_at_call 11;with_reducible refine (HPF.out _).mono ?_;rintro e w2 ⟨rfl,hb⟩;have HB2:=Bx (Al HB1.out hb);clear hb)
  |(go_at_call 10;with_reducible refine (known_any _).mono ?_;rintro e w1 ⟨rfl,hb⟩;have HB1:=Bx hb;clear hb))
 have HBW:=Bx (HB3.out.alloc HB3.out.size (.cells #[ZZ ZS b.x0,ZZ ZS b.x1,ZZ ZS b.x2,ZZ ZS b.x3,ZZ ZS b.x4,ZZ ZS b.x5,ZZ ZS b.x6,ZZ ZS b.x7,ZW b.ch,ZW b.od] 29))
 have HZ9:=Bx (D6 w3 w3.heap.size rfl 29 [ZZ ZS b.x0,ZZ ZS b.x1,ZZ ZS b.x2,ZZ ZS b.x3,ZZ ZS b.x4,ZZ ZS b.x5,ZZ ZS b.x6,ZZ ZS b.x7,ZW b.ch,ZW b.od]);generalize w3.alloc (.cells #[ZZ ZS b.x0,ZZ ZS b.x1,ZZ ZS b.x2,ZZ ZS b.x3,ZZ ZS b.x4,ZZ ZS b.x5,ZZ ZS b.x6,ZZ ZS b.x7,ZW b.ch,ZW b.od] 29)=WB at *;generalize w3.heap.size=gB at *;go_upto_region 7 with
  (go_at_call 13;with_reducible refine (HST.out _ HBW.out).mono ?_;rintro e W5 ⟨gs,s,c,rfl,hsc,hsl,hgs,hgw,hby,hb⟩
   have HZ5:=Bx (HZ9.out.below hb);have HB5:=Bx (Al HBW.out hb);have HSB:=Bx (And.intro hgw hby);have HSL:=Bx (And.intro hsc hsl);clear hb hgs hgw hby hsc hsl)
 obtain ⟨sl,hsl⟩:∃n,s.length=n:=⟨_,rfl⟩;have HSN:=Bx hsl;rw [hsl] at HSL ⊢
 have hsr:Rd3 W5 (some ⟨gs,0,none⟩) sl c:=Rd3.bytes HSB.out.2 HSB.out.1 sl hsl HSL.out.1 (by have:=HSL.out.2;omega);have HSR:=Bx hsr;have hchg:=change_any (some ⟨gs,0,none⟩) sl c at_ x how ma mn mcap W5 hsr (by have:=HSL.out.2;omega) (HM3.out.below HB5.out) HM8.out HAT.out.1 HAT.out.2;have HCH:Hid (Calls EW 14 #[ZX (some ⟨gs,0,none⟩) sl c,.int .u16 (at_:Int),ZZ ZR (x.toNat:Int),ZZ ZR (how:Int),.slice ma mn mcap] W5 _):=Bx hchg;obtain ⟨l1,hl1,hn1⟩:=hsr.lies;obtain ⟨l2,hl2,hn2⟩:=HR3.out.lies;have HL1:=Bx hl1;have HN1:=Bx hn1;have HL2:=Bx hl2;have HN2:=Bx hn2;have hs25:=HSL.out.2;have hr2:=HR200.out;clear hsl hsr hchg hl1 hn1 hl2 hn2 HST HBN HPF HB1 HB2 HB3 HBW HZ9 HSB
 go_upto_region 8 with (first
  |(at_builtin;refine App.wpList_append_list _ rfl _ _ 22 rfl w6.heap.size 5 i0 (.int .u8 0) 1 1 F0 G1.out G2.out G3.out G4.out rfl (by decide) v7 (0+sl) ([]++DB l1) rfl HO7.out ra (rn) (rc) (DB l2) rfl (by rw [Nat.mul_one,vals_len];exact HL2.out) (HN2.out _ (Al HB6.out HB7.out)) (Rec.vals_one l2) (by unfold maxLen;omega) (by omega) HB7.out.size ?_;intro v8 w8 hown hgr hni _
    have HO8:=Bx hown;have HB8:=Bx (HB7.out.grown hgr HB7.out.size (λk e=>(FU HO7.out k e).1));clear hown hgr hni;have ho8:=HO8.out;rw [List.nil_append,vals_app] at ho8
    obtain ⟨a8,c8,rfl,hr8⟩:=rd_own ho8 (by rw [Cr,HL1.out,HL2.out];omega) (by omega);rw [Di] at hr8;have HR8:=Bx hr8;clear ho8 hr8 HO8)
  |(at_builtin;refine App.wpList_append_list _ rfl _ _ 22 rfl w6.heap.size 5 i0 (.int .u8 0) 1 1 F0 G1.out G2.out G3.out G4.out rfl (by decide) (.slice none 0 0) (0) [] rfl ⟨rfl,.inl ⟨rfl,rfl⟩⟩ (some ⟨gs,0,none⟩) (sl) (c) (DB l1) rfl (by rw [Nat.mul_one,vals_len];exact HL1.out) (HN1.out _ HBC.out) (Rec.vals_one l1) (by unfold maxLen;omega) (by omega) (Db _) ?_;intro v7 w7 hown hgr hni _
    have HO7:=Bx hown;have HB7:=Bx ((An w6.heap.size w6).grown hgr (Db _) (λg e=>by cases e));clear hown hgr hni)
  |(go_at_call 14;with_reducible refine HCH.out.mono ?_;rintro e w6 ⟨ca,cn,cc,rfl,hrd,hb⟩;have HRC:=Bx hrd;have HBC:=Bx hb;have HB6:=Bx (Al HB5.out hb);clear hb hrd))
 clear HCH HL1 HL2 HN1 HN2 hs25 hr2 HO7 HAT HM3 G1 G2 G3 G4 HB7;go_wp2_with fail
 have HLB:=Bx (D6 w8 w8.heap.size rfl 22 [.slice ra rn rc,ZX (some ⟨gs,0,none⟩) sl c,.slice ca cn cc,.slice a8 (sl+rn) c8])
 have HAL:Hid (Below w8.heap.size w8 (w8.alloc (.cells #[.slice ra rn rc,ZX (some ⟨gs,0,none⟩) sl c,.slice ca cn cc,.slice a8 (sl+rn) c8] 22))):=Bx ((An _ _).alloc (Db _) _);have h56:=HBC.out;have h68:=HB8.out;have hw6:=HB6.out;have hw5:=HB5.out
 have HBL:=Bx (Al (Al hw6 h68) HAL.out);have h5L:=Al (Al h56 h68) HAL.out;have h6L:=Al h68 HAL.out;have r0:=HR3.out.below HBL.out;have r1:=HSR.out.below h5L;have r2:=HRC.out.below h6L;have r3:=HR8.out.below HAL.out
 have HZL:=Bx (HZ5.out.below h5L);generalize w8.alloc (.cells #[.slice ra rn rc,ZX (some ⟨gs,0,none⟩) sl c,.slice ca cn cc,.slice a8 (sl+rn) c8] 22)=WL at *;generalize w8.heap.size=gL at *;have HYS:Hid (∀j,j<4->∃(a:Option Addr) (n c:Nat),WL.cell? ⟨gL,j,none⟩=some (.slice a n c)/\Rd3 WL a n c):=Bx λj hj=>by
  rcases (by omega:j=0∨j=1∨j=2∨j=3) with rfl | rfl | rfl | rfl
  ·exact ⟨_,_,_,HLB.out.c 0 _ rfl,r0⟩
  ·exact ⟨_,_,_,HLB.out.c 1 _ rfl,r1⟩
  ·exact ⟨_,_,_,HLB.out.c 2 _ rfl,r2⟩
  ·exact ⟨_,_,_,HLB.out.c 3 _ rfl,r3⟩
 have HLT:=Bx HLB.out.lt;clear h56 h68 hw6 hw5 h5L h6L r0 r1 r2 r3 HLB HAL HZ5 HR3 HSR HRC HR8 HB8 HB6 HB5 HBC HSN HSL HR200 HM8
 go_loopw [65] (λi W0=>∃j:Nat,j<=4/\i=ZZ ZS j/\Hid (Below WL.heap.size WL W0)) (λi _=>4-(intOf i).toNat)
 case atStart=>exact ⟨0,Dj _,rfl,Bx (An _ _)⟩
 case round=>
  obtain ⟨j,hj,rfl,HBJ⟩:=hrel;obtain ⟨W0,hW0⟩:∃x,x=wr:=⟨_,rfl⟩;subst hW0;rcases Dg j 4 with hjl | hjg
  rotate_left
  ·obtain rfl:j=4:=by omega
   go_wp2_with fail;go_ret;exact ⟨rfl,Al HBL.out HBJ.out⟩
  have tj:(j:Int)<4:=by omega
  obtain ⟨ay,n,cy,hcell,hry⟩:=HYS.out j hjl;have hcy:=(HBJ.out.cell (p:=⟨gL,j,none⟩) HLT.out).trans hcell;have hm3:=HM30.out
  have HRY0:=Bx (hry.below HBJ.out)
  have HZ0:=Bx (HZL.out.below HBJ.out);have HJ:=Bx hjl;clear hcell hry hjl;go_upto_region 11 with fail
  go_wp2_with fail
  have HPB:=Bx (D6 W0 W0.heap.size rfl 26 [ZZ ZQ 0,ZZ ZQ (p:Int),ZZ ZQ (p3:Int)])
  have HAP:Hid (Below W0.heap.size W0 (W0.alloc (.cells #[ZZ ZQ 0,ZZ ZQ (p:Int),ZZ ZQ (p3:Int)] 26))):=Bx ((An _ _).alloc (Db _) _)
  have HBP:=Bx (Al HBJ.out HAP.out)
  have HRY:=Bx (HRY0.out.below HAP.out);have HZP:=Bx (HZ0.out.below HAP.out);generalize W0.alloc (.cells #[ZZ ZQ 0,ZZ ZQ (p:Int),ZZ ZQ (p3:Int)] 26)=WP at *;generalize W0.heap.size=gP at *;have HPS:Hid (∀j,j<3->∃q:Nat,WP.cell? ⟨gP,j,none⟩=some (ZZ ZQ (q:Int))/\q<4294967296):=Bx λj hj=>by
   rcases (by omega:j=0∨j=1∨j=2) with rfl | rfl | rfl
   ·exact ⟨0,HPB.out.c 0 _ rfl,by decide⟩
   ·exact ⟨p,HPB.out.c 1 _ rfl,HP.out⟩
   ·exact ⟨p3,HPB.out.c 2 _ rfl,HP3.out⟩
  have HPT:=Bx HPB.out.lt;clear HPB HAP HRY0 HZ0 hcy tj hm3
  go_loopw [74] (λi W1=>∃j2:Nat,j2<=3/\i=ZZ ZS j2/\Hid (Below WP.heap.size WP W1)) (λi _=>3-(intOf i).toNat)
  case atStart=>exact ⟨0,Dj _,rfl,Bx (An _ _)⟩
  case round=>
  obtain ⟨j2,hj2,rfl,HBK⟩:=hrel;obtain ⟨W1,hW1⟩:∃x,x=wr:=⟨_,rfl⟩;subst hW1;rcases Dg j2 3 with hjl | hjg
  rotate_left
  ·obtain rfl:j2=3:=by omega
   go_wp2_with fail;go_roundw
   case rel=>exact ⟨j+1,HJ.out,by go_num,Bx (Al HBP.out HBK.out)⟩
   case measure=>have:=HJ.out;simp [intOf];omega
  have tj2:(j2:Int)<3:=by omega
  obtain ⟨q,hcell,hq⟩:=HPS.out j2 hjl;have hcy:=(HBK.out.cell (p:=⟨gP,j2,none⟩) HPT.out).trans hcell
  have HRW:=Bx (HRY.out.below HBK.out)
  have HZW:=Bx (HZP.out.below HBK.out);have HJ2:=Bx hjl;have HQ:=Bx hq;clear hcell hq hjl;go_upto_region 13 with fail
  clear hcy tj2
  have HN1:=Bx (λw=>Pg.new_any (p:=q) (b:=b) HQ.out w)
  have HN2:=Bx (λw=>Par.dnew_any (p:=q) (b:=b) HQ.out w)
  go_cut [24,25] from 78 to 83 (λu v wx=>∃g1 g2 L1 L2,u=ptr g1/\v=ptr g2/\Hid (TX W1 wx W1.heap.size g1 g2 q b (Q.new q b) L1 L2))
  case first=>
   have y0:=HZW.out.c 0 _ rfl;have y1:=HZW.out.c 1 _ rfl;have y2:=HZW.out.c 2 _ rfl;have y3:=HZW.out.c 3 _ rfl;have y4:=HZW.out.c 4 _ rfl;have y5:=HZW.out.c 5 _ rfl;have y6:=HZW.out.c 6 _ rfl;have y7:=HZW.out.c 7 _ rfl;have y8:=HZW.out.c 8 _ rfl;have y9:=HZW.out.c 9 _ rfl
   go_region_with (first
    |(go_at_call 15;with_reducible refine (HN1.out _).mono ?_;rintro r wx ⟨gx,Lx,rfl,hgx,hax,hbx⟩
      have HAX:=Bx hax;have HBX:=Bx hbx;first
       | have HZX:=Bx (HZY.out.below hbx)
       | have HZX:=Bx ((HZW.out.below (Ak (An W1.heap.size W1) 1)).below hbx)
      have x0:=HZX.out.c 0 _ rfl;have x1:=HZX.out.c 1 _ rfl;have x2:=HZX.out.c 2 _ rfl;have x3:=HZX.out.c 3 _ rfl;have x4:=HZX.out.c 4 _ rfl;have x5:=HZX.out.c 5 _ rfl;have x6:=HZX.out.c 6 _ rfl;have x7:=HZX.out.c 7 _ rfl;have x8:=HZX.out.c 8 _ rfl;have x9:=HZX.out.c 9 _ rfl;clear hax hbx hgx)
    |(go_at_call 16;with_reducible refine (HN2.out _).mono ?_;rintro r wy ⟨gy,Ly,rfl,hgy,hay,hby⟩
      have HAY:=Bx hay;have HBY:=Bx hby;first
       | have HZY:=Bx (HZX.out.below hby)
       | have HZY:=Bx ((HZW.out.below (Ak (An W1.heap.size W1) 1)).below hby)
      have v0:=HZY.out.c 0 _ rfl;have v1:=HZY.out.c 1 _ rfl;have v2:=HZY.out.c 2 _ rfl;have v3:=HZY.out.c 3 _ rfl;have v4:=HZY.out.c 4 _ rfl;have v5:=HZY.out.c 5 _ rfl;have v6:=HZY.out.c 6 _ rfl;have v7:=HZY.out.c 7 _ rfl;have v8:=HZY.out.c 8 _ rfl;have v9:=HZY.out.c 9 _ rfl;clear hay hby hgy))
   all_goals
    first
     | have HPR:=Bx (TX.first (w0:=W1) (Db W1.heap.size) HAX.out HAY.out ((Ak (An W1.heap.size W1) 1).trans HBX.out) HBY.out)
     | have HPR:=Bx (TX.second (w0:=W1) (Db W1.heap.size) HAY.out HAX.out ((Ak (An W1.heap.size W1) 1).trans HBY.out) HBX.out)
    clear y0 y1 y2 y3 y4 y5 y6 y7 y8 y9 x0 x1 x2 x3 x4 x5 x6 x7 x8 x9 v0 v1 v2 v3 v4 v5 v6 v7 v8 v9;go_wp2_with fail;go_meet
    case rel=>exact ⟨gx,gy,Lx,Ly,rfl,rfl,HPR⟩
  case rest=>
   obtain ⟨g1,g2,LL1,LL2,rfl,rfl,HTX0⟩:=hcut;clear HN1 HN2 HZW;go_wp2_with fail
   go_loopw [26] (λi wr=>∃(k:Nat) (X:Q) (L1 L2:List (Option Nat)),k<=n/\i=ZZ ZS k/\Hid (TX W1 wr W1.heap.size g1 g2 q b X L1 L2)) (λi _=>n-(intOf i).toNat)
   case atStart=>exact ⟨0,_,LL1,LL2,Dj _,rfl,HTX0⟩
   case round=>
   obtain ⟨k,X,L1,L2,hk,rfl,HTX⟩:=hrel;clear HTX0;rcases Dg k n with hlt | hge
   rotate_left
   ·obtain rfl:k=n:=by omega
    have t1:¬(k:Int)<(k:Int):=by omega
    go_wp2_with fail;go_roundw
    case rel=>exact ⟨j2+1,HJ2.out,by go_num,Bx (Al HBK.out HTX.out.bel)⟩
    case measure=>have:=HJ2.out;simp [intOf];omega
   have t1:(k:Int)<(n:Int):=by omega
   obtain ⟨yb,yo,l,rfl,hl,hbts⟩:=HRW.out.rd (by omega);have hkl:k<l.length:=by omega
   obtain ⟨ch,hch⟩:∃ch,l[k]=ch:=⟨_,rfl⟩;obtain ⟨hx0,hy0,hd0,hok0,hxo0,hbl0⟩:=HTX.out
   have HK9:=Bx (show k<n/\n<=cy/\n<=3000 from ⟨hlt,HRW.out.le.1,HRW.out.le.2⟩);obtain ⟨X',hX⟩:∃X',X.byte q b ch=X':=⟨_,rfl⟩;obtain ⟨B,hB⟩:∃B,W1.heap.size=B:=⟨_,rfl⟩;rw [hB] at hx0 hy0 hbl0;have hlo1:∀k,some k∈L1->B<=k:=by obtain ⟨_,h⟩:=hx0;exact h.low
   have hlo2:∀k,some k∈L2->B<=k:=by obtain ⟨_,h⟩:=hy0;exact h.low
   have hin1:In wr L1:=by obtain ⟨_,h⟩:=hx0;exact h.in
   have hin2:In wr L2:=by obtain ⟨_,h⟩:=hy0;exact h.in
   have hyB:yb<B:=hB ▸ (hbts.far _ rfl).2;have hgn:some yb∉L1++L2:=λhm=>by have:B<=yb:=(C3.1 hm).elim (hlo1 yb) (hlo2 yb);omega
   have hdw:Below wr.heap.size wr (wr.drewN 1):=Ak (An wr.heap.size wr) 1;have hbw:Below W1.heap.size W1 wr:=hB ▸ hbl0;have hokX:X'.Ok b:=hX ▸ Q.Ok.byte hok0 ch;have hft:=byte_fits' (p:=q) hxo0 hok0 ch;rw [hX] at hft;have HX:=Bx hX;have HXO:=Bx hxo0;have HOK:=Bx hok0;have HOK2:=Bx hokX
   have HTA:=Bx (show Thing (Has B g1 q b X) (Has B g1 q b X'.told) from obj_at (B:=⟨B,[]⟩) hxo0 (Pg.told_out _))
   have HTC:=Bx (show Thing (DHas B g2 q b X) (DHas B g2 q b X'.told) from obj_dq (B:=⟨B,[]⟩))
   have HA0:=Bx (show Has B g1 q b X wr L1 from hx0);have HC0:=Bx (show DHas B g2 q b X wr L2 from hy0);have HD:=Bx hd0;have HBLO:=Bx hbl0
   have HIN:=Bx (show∀k,some k∈L1++L2->k<(wr.drewN 1).heap.size from λk hk=>(C3.1 hk).elim (hin1 k) (hin2 k))
   have HBT:=Bx (show Bts (L1++L2) (wr.drewN 1) (some ⟨yb,yo+k,none⟩) [ch] from hch ▸ bts_at (hbts.step (DP (Al hbw hdw))) k hkl hgn);have HLO:=Bx (And.intro hlo1 hlo2);have HB:=Bx hB;have HFX:=Bx hft;clear hx0 hy0 hd0 hok0 hxo0 hbl0 hX hlo1 hlo2 hin1 hin2 hgn hdw hbw hch hkl hB hl hbts hyB HTX HRW hokX hft;go_upto_region 17 with fail
   refine Each.region_two 18 [90,91,92,93,94,95,96,97,98,99,100,101,102,103,104,105,27,28]
    [eP g1 0,
      eQ (ZX (some ⟨yb,yo,none⟩) n cy),
      eQ (ZZ ZS (k:Int)),
      eQ (ZZ ZS (k:Int)),
      eQ (ZZ ZS ((k:Int)+1)),
      eQ (ZX (some ⟨yb,yo+k,none⟩) 1 (cy-k)),
      OneA (L1++L2) (some ⟨yb,yo+k,none⟩) (cy-k),
      ToldBy (Has B g1 q b X'.told) (DHas B g2 q b X) (DHas B g2 q b X'.told) L2 [] B X'.out,
      eP g2 0,
      eQ (ZX (some ⟨yb,yo,none⟩) n cy),
      eQ (ZZ ZS (k:Int)),
      eQ (ZZ ZS (k:Int)),
      eQ (ZZ ZS ((k:Int)+1)),
      eQ (ZX (some ⟨yb,yo+k,none⟩) 1 (cy-k)),
      OneA (L1++L2) (some ⟨yb,yo+k,none⟩) (cy-k),
      ToldBy (DHas B g2 q b X'.told) (Has B g1 q b X) (Has B g1 q b X'.told) L1 [] B X'.out,
      ToldBy (Has B g1 q b X'.told) (DHas B g2 q b X) (DHas B g2 q b X'.told) L2 [] B X'.out,
      ToldBy (DHas B g2 q b X'.told) (Has B g1 q b X) (Has B g1 q b X'.told) L1 [] B X'.out]
    7 15 HTA.out HTC.out HA0.out HC0.out HD.out (by kernel_rfl) (by kernel_rfl) (by kernel_rfl) (by kernel_rfl) (λ_ _ d _ _ h=>by cases d<;>exact h) (by rfl) (by rfl) (by rfl)
    ⟨(AN _ _),(AN _ _),(AN _ _),(AN _ _),(AN _ _),(AN _ _),OneA.lasts,ToldBy.first HTA.out HTC.out (.inl rfl),(AN _ _),(AN _ _),(AN _ _),(AN _ _),(AN _ _),(AN _ _),OneA.lasts,ToldBy.second HTA.out HTC.out (.inl rfl),ToldBy.first HTA.out HTC.out (.inr (by rfl)),ToldBy.second HTA.out HTC.out (.inr (by rfl)),trivial⟩ ?_ ?_
   ·refine ⟨?_,?_,?_,?_,?_,?_,?_,?_,?_,?_,?_,?_,?_,?_,?_,?_,?_,?_,trivial⟩
    ·refine Each.fine_two (by decide) (by decide) rfl (λev w1 hR hb hh=>?_);clear hh;have e24:=hR.old 24 rfl;simp only [Ag,Cg,BY,BZ,Ds] at e24;exact XXqTe
    ·refine Each.fine_two (by decide) (by decide) rfl (λev w1 hR hb hh=>?_);clear hh;have e21:=hR.old 21 rfl;simp only [Ag,Cg,BY,BZ,Ds] at e21;exact XXqTe
    ·refine Each.fine_two (by decide) (by decide) rfl (λev w1 hR hb hh=>?_);clear hh;have e26:=hR.old 26 rfl;simp only [Ag,Cg,BY,BZ,Ds] at e26;exact XXqTe
    ·refine Each.fine_two (by decide) (by decide) rfl (λev w1 hR hb hh=>?_);clear hh;have e26:=hR.old 26 rfl;simp only [Ag,Cg,BY,BZ,Ds] at e26;exact XXqTe
    ·refine Each.fine_two (by decide) (by decide) rfl (λev w1 hR hb hh=>?_);have e93:ev (.tmp 93)= _:=hh.at 0;exact XXRIC
    ·refine Each.fine_two (by decide) (by decide) rfl (λev w1 hR hb hh=>?_);have e91:ev (.tmp 91)= _:=hh.at 0;have e92:ev (.tmp 92)= _:=hh.at 1;have e94:ev (.tmp 94)= _:=hh.at 2;clear hh;have h01:(0:Int)<=(k:Int)+1:=by omega
     have hck:¬cy=k:=by have:=HK9.out;omega
     have hcy:(k:Int)+1<=(cy:Int):=by have:=HK9.out;omega
     exact XXqTe
    ·refine Each.fine_two (by decide) (by decide) rfl (λev w1 hR hb hh=>?_);have e95:ev (.tmp 95)= _:=hh.at 0;exact XXKfk
    ·refine Each.fine_first rfl (λev w1 M2 hR hb hA hC hd hh=>?_);have e90:ev (.tmp 90)= _:=hh.at 0;have e96:((OneA (L1++L2) (some ⟨yb,yo+k,none⟩) (cy-k)) (ev (.tmp 96)) w1):=hh.at 1;clear hh;have ef:=hR.func;obtain ⟨k9,e96,hkl,hkn,hkc⟩:=e96;obtain ⟨Z1,hA⟩:=hA;have hsz:=hb.size;have hi2:In w1 L2:=λk hk=>Df (HIN.out k (List.mem_append_right _ hk)) hsz
     have hcl:Clear w1 (L2++(M2 ++ [])) L1:=clear_app (clear_dis hi2 HD.out) (clear_app (clear_dis (HTC.out.in hC) hd) Clear.nil);have hbt:Bts L1 w1 (some ⟨yb,yo+k,none⟩) [ch]:=bts_sub (bts_keeps HBT.out hb) λk hk=>List.mem_append_left _ hk
     refine Each.GoesR.enter 17 #[ptr g1,ZX (some ⟨k9,0,none⟩) 1 1] (by go_simp) ((feed_by HQ.out hA HOK.out HXO.out k9 hkc hkl (λhm=>hkn (List.mem_append_left _ hm)) hbt _ hcl).mono ?_);rintro r w2 ⟨v,N1,rfl,h1,h2,h3⟩;rw [HX.out] at h1 h2;exact ⟨v,rfl,⟨N1,⟨_,h1⟩,h3⟩,N1,M2,⟨_,h1⟩,HTC.out.now hC h3.keeps hd.symm,(HD.out.symm.of hi2 h3.of).symm,h2⟩
    ·refine Each.fine_two (by decide) (by decide) rfl (λev w1 hR hb hh=>?_);clear hh;have e25:=hR.old 25 rfl;simp only [Ag,Cg,BY,BZ,Ds] at e25;exact XXqTe
    ·refine Each.fine_two (by decide) (by decide) rfl (λev w1 hR hb hh=>?_);clear hh;have e21:=hR.old 21 rfl;simp only [Ag,Cg,BY,BZ,Ds] at e21;exact XXqTe
    ·refine Each.fine_two (by decide) (by decide) rfl (λev w1 hR hb hh=>?_);clear hh;have e26:=hR.old 26 rfl;simp only [Ag,Cg,BY,BZ,Ds] at e26;exact XXqTe
    ·refine Each.fine_two (by decide) (by decide) rfl (λev w1 hR hb hh=>?_);clear hh;have e26:=hR.old 26 rfl;simp only [Ag,Cg,BY,BZ,Ds] at e26;exact XXqTe
    ·refine Each.fine_two (by decide) (by decide) rfl (λev w1 hR hb hh=>?_);have e101:ev (.tmp 101)= _:=hh.at 0;exact XXRIC
    ·refine Each.fine_two (by decide) (by decide) rfl (λev w1 hR hb hh=>?_);have e99:ev (.tmp 99)= _:=hh.at 0;have e100:ev (.tmp 100)= _:=hh.at 1;have e102:ev (.tmp 102)= _:=hh.at 2;clear hh;have h01:(0:Int)<=(k:Int)+1:=by omega
     have hck:¬cy=k:=by have:=HK9.out;omega
     have hcy:(k:Int)+1<=(cy:Int):=by have:=HK9.out;omega
     exact XXqTe
    ·refine Each.fine_two (by decide) (by decide) rfl (λev w1 hR hb hh=>?_);have e103:ev (.tmp 103)= _:=hh.at 0;exact XXKfk
    ·refine Each.fine_second (by decide) rfl (λev w1 M1 hR hb hC hA hd hh=>?_);have e98:ev (.tmp 98)= _:=hh.at 0;have e104:((OneA (L1++L2) (some ⟨yb,yo+k,none⟩) (cy-k)) (ev (.tmp 104)) w1):=hh.at 1;clear hh;have ef:=hR.func;obtain ⟨k9,e104,hkl,hkn,hkc⟩:=e104;obtain ⟨Z1,hC⟩:=hC;have hsz:=hb.size;have hi2:In w1 L1:=λk hk=>Df (HIN.out k (List.mem_append_left _ hk)) hsz
     have hcl:Clear w1 (L1++(M1 ++ [])) L2:=clear_app (clear_dis hi2 HD.out.symm) (clear_app (clear_dis (HTA.out.in hA) hd) Clear.nil);have hbt:Bts L2 w1 (some ⟨yb,yo+k,none⟩) [ch]:=bts_sub (bts_keeps HBT.out hb) λk hk=>List.mem_append_right _ hk
     refine Each.GoesR.enter 18 #[ptr g2,ZX (some ⟨k9,0,none⟩) 1 1] (by go_simp) ((dfeed_by HQ.out hC HXO.out k9 hkc hkl (λhm=>hkn (List.mem_append_right _ hm)) hbt _ hcl).mono ?_);rintro r w2 ⟨v,N1,rfl,h1,h2,h3⟩;rw [HX.out] at h1 h2;exact ⟨v,rfl,⟨N1,⟨_,h1⟩,h3⟩,N1,M1,⟨_,h1⟩,HTA.out.now hA h3.keeps hd.symm,(HD.out.of hi2 h3.of).symm,h2⟩
    ·refine Each.fine_two (by decide) (by decide) rfl (λev w1 hR hb hh=>?_);have e97:((ToldBy (Has B g1 q b X'.told) (DHas B g2 q b X) (DHas B g2 q b X'.told) L2 [] B X'.out) (ev (.tmp 97)) w1):=hh.at 0;clear hh;exact AF.value (ev (.tmp 97)) w1 (by go_simp) (An _ _) e97
    ·refine Each.fine_two (by decide) (by decide) rfl (λev w1 hR hb hh=>?_);have e105:((ToldBy (DHas B g2 q b X'.told) (Has B g1 q b X) (Has B g1 q b X'.told) L1 [] B X'.out) (ev (.tmp 105)) w1):=hh.at 0;clear hh;exact AF.value (ev (.tmp 105)) w1 (by go_simp) (An _ _) e105
   intro ga w2 M1 M2 hA hC hd hof1 hof2 hb hf;have z27:(ToldBy (Has B g1 q b X'.told) (DHas B g2 q b X) (DHas B g2 q b X'.told) L2 [] B X'.out) (ga 27) w2:=hf.at 16;have z28:(ToldBy (DHas B g2 q b X'.told) (Has B g1 q b X) (Has B g1 q b X'.told) L1 [] B X'.out) (ga 28) w2:=hf.at 17;clear hf;obtain ⟨N1,K2,hA5,hC5,hd5,ht5⟩:=z27;obtain ⟨N2,K1,hA6,hC6,hd6,ht6⟩:=z28;have u1:N1=M1:=HTA.out.uniq (.inr hA5) hA;have u2:N2=M2:=HTC.out.uniq (.inr hA6) hC;subst u1 u2;obtain ⟨a5,c5,e5,hr5⟩:=told_recs ht5;obtain ⟨a6,c6,e6,hr6⟩:=told_recs ht6
   have hbl2:Below B wr w2:=hb.below (HB.out ▸ HBLO.out.size) λk hk=>(C3.1 hk).elim (HLO.out.1 k) (HLO.out.2 k)
   have HBL2:=Bx (show Below B W1 w2 from HBLO.out.trans hbl2);obtain ⟨m2,hm2⟩:∃m,X'.out.length=m:=⟨_,rfl⟩;rw [hm2] at e5 e6 hr5 hr6;obtain ⟨Zx,hax⟩:=hA5;obtain ⟨Zy,hay⟩:=hA6;have hdw:Below w2.heap.size w2 (w2.drewN 1):=Ak (An w2.heap.size w2) 1;have hokt:X'.told.Ok b:=told_ok HOK2.out;obtain ⟨XT,hXT⟩:∃XT,X'.told=XT:=⟨_,rfl⟩;have hxto:XT.out= []:=hXT ▸ Pg.told_out _;rw [hXT] at hax hay hokt;have HAX:=Bx (hax.below hdw);have HAY:=Bx (hay.below hdw);have HAX2:=Bx hax;have HAY2:=Bx hay;have HOT:=Bx hokt;have HXT:=Bx hxto
   have HALL:=Bx (λ(w1:World) (hb:Below (w2.drewN 1).heap.size (w2.drewN 1) w1)=>show Calls EW 19 #[.slice a5 m2 c5,.slice a6 m2 c6] w1 λe w'=>e=.returned (ZW true)/\Below w1.heap.size w1 w' from by have h9:Below w2.heap.size w2 w1:=Al hdw hb;have:=Rec.rall_any a5 m2 c5 X'.out a6 m2 c6 X'.out w1 (hr5.below h9) (hr6.below h9) (by have:=HFX.out.2;omega) (by have:=HFX.out.2;omega) HFX.out.1 HFX.out.1;rw [Rec.all_self] at this;exact this)
   obtain ⟨cl,hcl⟩:∃cl,XT.clean=cl:=⟨_,rfl⟩;obtain ⟨wt,hwt⟩:∃wt,XT.waits=wt:=⟨_,rfl⟩;obtain ⟨hd9,hhd⟩:∃hd9:Int,(XT.held:Int)=hd9:=⟨_,rfl⟩;obtain ⟨x1,hx1⟩:∃x1:Int,(XT.err:Int)=x1:=⟨_,rfl⟩
   have HC1:=Bx (λ(w1:World) (hb:Below (w2.drewN 1).heap.size (w2.drewN 1) w1)=>show Calls EW 25 #[ptr g1] w1 λr w'=>r=.returned (ZW cl)/\w'=w1 from by rw [←hcl];exact cleanq_any (HAX.out.below hb))
   have HC2:=Bx (λ(w1:World) (hb:Below (w2.drewN 1).heap.size (w2.drewN 1) w1)=>show Calls EW 26 #[ptr g2] w1 λr w'=>r=.returned (ZW cl)/\w'=w1 from by rw [←hcl];exact dclean_any (HAY.out.below hb))
   have HW1:=Bx (λ(w1:World) (hb:Below (w2.drewN 1).heap.size (w2.drewN 1) w1)=>show Calls EW 21 #[ptr g1] w1 λr w'=>r=.returned (ZW wt)/\Below w1.heap.size w1 w' from by rw [←hwt];exact Pg.waits_any (HAX.out.below hb) HOT.out)
   have HW2:=Bx (λ(w1:World) (hb:Below (w2.drewN 1).heap.size (w2.drewN 1) w1)=>show Calls EW 22 #[ptr g2] w1 λr w'=>r=.returned (ZW wt)/\Below w1.heap.size w1 w' from by rw [←hwt];exact dwaits_any (HAY.out.below hb))
   have HH1:=Bx (λ(w1:World) (hb:Below (w2.drewN 1).heap.size (w2.drewN 1) w1)=>show Calls EW 23 #[ptr g1] w1 λr w'=>r=.returned (ZZ ZS hd9)/\Below w1.heap.size w1 w' from by rw [←hhd];exact Pg.held_any (HAX.out.below hb) HOT.out)
   have HH2:=Bx (λ(w1:World) (hb:Below (w2.drewN 1).heap.size (w2.drewN 1) w1)=>show Calls EW 24 #[ptr g2] w1 λr w'=>r=.returned (ZZ ZS hd9)/\Below w1.heap.size w1 w' from by rw [←hhd];exact dheld_any (HAY.out.below hb))
   have HER:=Bx (λ(w1:World) (hb:Below (w2.drewN 1).heap.size (w2.drewN 1) w1)=>show Calls EW 20 #[ptr g1] w1 λr w'=>r=.returned (ZZ ZS x1)/\w'=w1 from by rw [←hx1];exact errq_any (HAX.out.below hb));have HE1:=Bx hx1;have HD2:=Bx hd;have hlt9:k+1<=n:=hlt;clear hA hC hd hof1 hof2 hb hC5 hd5 hC6 hd6 ht5 ht6 hr5 hr6 hbl2 hax hay hdw hm2 hcl hwt hhd hx1 hokt hxto hXT HTA HTC HA0 HC0 HD HIN HBT HLO;simp only [AU,Ab,CH,CK,CJ];rw [e5,e6];clear e5 e6;go_upto_region 18 with fail
   refine AW 36 [106,107,108,109,110,111,112,113,114,115,116,117,118,119,120,121,122,123,124,125,126,127,128,129,130,131,132,133,134,135,136,137,138,139,140,141] [eQ (.slice a5 m2 c5),eQ (.slice a6 m2 c6),eQ (ZW true),eQ (ZW false),eQ (ZW false),AO (false) false (λv _=>v=ZV (some ⟨g1,0,none⟩)),AO (false) false (λv _=>v=ZV (some ⟨g1,0,none⟩)),AO (false) false (λv _=>v=ZV (some ⟨g1,0,none⟩)),AO (false) false (λv _=>v=ZZ ZS x1),AO (false) false (λv _=>v=ZV (some ⟨g2,0,none⟩)),AO (false) false (λv _=>v=ZV (some ⟨g2,0,none⟩)),AO (false) false (λv _=>v=ZV (some ⟨g2,25,none⟩)),AO (false) false (λv _=>v=ZZ ZS x1),AO (false) false (λv _=>v=ZW false),eQ (ZW ((false&&true))),eQ (ZW ((false&&true))),AO ((false&&true)) false (λv _=>v=ZV (some ⟨g1,0,none⟩)),AO ((false&&true)) false (λv _=>v=ZW wt),AO ((false&&true)) false (λv _=>v=ZV (some ⟨g2,0,none⟩)),AO ((false&&true)) false (λv _=>v=ZW wt),AO ((false&&true)) false (λv _=>v=ZW false),eQ (ZW (((false&&true)&&true))),eQ (ZW (((false&&true)&&true))),AO (((false&&true)&&true)) false (λv _=>v=ZV (some ⟨g1,0,none⟩)),AO (((false&&true)&&true)) false (λv _=>v=ZZ ZS hd9),AO (((false&&true)&&true)) false (λv _=>v=ZV (some ⟨g2,0,none⟩)),AO (((false&&true)&&true)) false (λv _=>v=ZZ ZS hd9),AO (((false&&true)&&true)) false (λv _=>v=ZW false),eQ (ZW ((((false&&true)&&true)&&true))),eQ (ZW ((((false&&true)&&true)&&true))),AO ((((false&&true)&&true)&&true)) false (λv _=>v=ZV (some ⟨g1,0,none⟩)),AO ((((false&&true)&&true)&&true)) false (λv _=>v=ZW cl),AO ((((false&&true)&&true)&&true)) false (λv _=>v=ZV (some ⟨g2,0,none⟩)),AO ((((false&&true)&&true)&&true)) false (λv _=>v=ZW cl),AO ((((false&&true)&&true)&&true)) false (λv _=>v=ZW false),eQ (ZW (((((false&&true)&&true)&&true)&&true)))] (by kernel_rfl) (by kernel_rfl) (by kernel_rfl) (by kernel_rfl) (λ_ _ d _ _ h=>by cases d<;>exact h) (by rfl) (by rfl) ⟨AK _,AK _,AK _,AK _,AK _,AL (AK _),AL (AK _),AL (AK _),AL (AK _),AL (AK _),AL (AK _),AL (AK _),AL (AK _),AL (AK _),AK _,AK _,AL (AK _),AL (AK _),AL (AK _),AL (AK _),AL (AK _),AK _,AK _,AL (AK _),AL (AK _),AL (AK _),AL (AK _),AL (AK _),AK _,AK _,AL (AK _),AL (AK _),AL (AK _),AL (AK _),AL (AK _),AK _,trivial⟩ ?_ ?_
   ·refine ⟨?_,?_,?_,?_,?_,?_,?_,?_,?_,?_,?_,?_,?_,?_,?_,?_,?_,?_,?_,?_,?_,?_,?_,?_,?_,?_,?_,?_,?_,?_,?_,?_,?_,?_,?_,?_,trivial⟩
    ·exact XX0L0
    ·exact XX0L0
    ·refine AP rfl (λev w1 hR hb hh=>?_);have e106:ev (.tmp 106)= _:=hh.at 0;have e107:ev (.tmp 107)= _:=hh.at 1;clear hh;have ef:=hR.func
     refine AG 19 #[.slice a5 m2 c5,.slice a6 m2 c6] (by go_simp) ((HALL.out w1 hb).mono ?_);exact XXf01
    ·exact XX0L0
    ·exact XX0L0
    ·refine AR 4 110 rfl rfl (λev w1 hh=>?_) (λhg ev w1 hR hb hh=>?_)
     ·exact hh.at 0
     ·clear hh;have e24:=hR.old 24 rfl;simp only [Ag,Cg,BY,BZ,Ds] at e24;exact XXqTe
    ·refine AR 4 110 rfl rfl (λev w1 hh=>?_) (λhg ev w1 hR hb hh=>?_)
     ·exact hh.at 1
     ·have e111:=(show ((false)=false->ev (.tmp 111)=ZV (some ⟨g1,0,none⟩)) from hh.at 0) hg;clear hh;exact XXqTe
    ·refine AR 4 110 rfl rfl (λev w1 hh=>?_) (λhg ev w1 hR hb hh=>?_)
     ·exact hh.at 1
     ·have e112:=(show ((false)=false->ev (.tmp 112)=ZV (some ⟨g1,0,none⟩)) from hh.at 0) hg;clear hh;exact XXqTe
    ·refine AR 4 110 rfl rfl (λev w1 hh=>?_) (λhg ev w1 hR hb hh=>?_)
     ·exact hh.at 1
     ·have e113:=(show ((false)=false->ev (.tmp 113)=ZV (some ⟨g1,0,none⟩)) from hh.at 0) hg;clear hh;have ef:=hR.func
      refine AG 20 #[ptr g1] (by go_simp) ((HER.out w1 hb).mono ?_);exact XXzMG
    ·refine AR 4 110 rfl rfl (λev w1 hh=>?_) (λhg ev w1 hR hb hh=>?_)
     ·exact hh.at 0
     ·clear hh;have e25:=hR.old 25 rfl;simp only [Ag,Cg,BY,BZ,Ds] at e25;exact XXqTe
    ·refine AR 4 110 rfl rfl (λev w1 hh=>?_) (λhg ev w1 hR hb hh=>?_)
     ·exact hh.at 1
     ·have e115:=(show ((false)=false->ev (.tmp 115)=ZV (some ⟨g2,0,none⟩)) from hh.at 0) hg;clear hh;exact XXqTe
    ·refine AR 4 110 rfl rfl (λev w1 hh=>?_) (λhg ev w1 hR hb hh=>?_)
     ·exact hh.at 1
     ·have e116:=(show ((false)=false->ev (.tmp 116)=ZV (some ⟨g2,0,none⟩)) from hh.at 0) hg;clear hh;exact XXqTe
    ·refine AR 4 110 rfl rfl (λev w1 hh=>?_) (λhg ev w1 hR hb hh=>?_)
     ·exact hh.at 1
     ·have e117:=(show ((false)=false->ev (.tmp 117)=ZV (some ⟨g2,25,none⟩)) from hh.at 0) hg;clear hh;have qq:=(HAY.out.below hb).e;rw [HE1.out] at qq;exact XXqTe
    ·refine AR 4 110 rfl rfl (λev w1 hh=>?_) (λhg ev w1 hR hb hh=>?_)
     ·exact hh.at 2
     ·have e114:=(show ((false)=false->ev (.tmp 114)=ZZ ZS x1) from hh.at 0) hg;have e118:=(show ((false)=false->ev (.tmp 118)=ZZ ZS x1) from hh.at 1) hg;clear hh;refine AH ?_;go_simp
      first | done | exact bne_self_eq_false x1 |(simp)
    ·refine AP rfl (λev w1 hR hb hh=>?_);have e110:ev (.tmp 110)= _:=hh.at 0;have h119:((false)=false->ev (.tmp 119)=ZW false):=hh.at 1;clear hh;have ec:=hR.const;refine AH ?_;have e119:=h119 rfl;go_simp;try with_reducible rfl
    ·exact XX0L0
    ·refine AR 15 121 rfl rfl (λev w1 hh=>?_) (λhg ev w1 hR hb hh=>?_)
     ·exact hh.at 0
     ·clear hh;have e24:=hR.old 24 rfl;simp only [Ag,Cg,BY,BZ,Ds] at e24;exact XXqTe
    ·refine AR 15 121 rfl rfl (λev w1 hh=>?_) (λhg ev w1 hR hb hh=>?_)
     ·exact hh.at 1
     ·have e122:=(show (((false&&true))=false->ev (.tmp 122)=ZV (some ⟨g1,0,none⟩)) from hh.at 0) hg;clear hh;have ef:=hR.func
      refine AG 21 #[ptr g1] (by go_simp) ((HW1.out w1 hb).mono ?_);exact XXf01
    ·refine AR 15 121 rfl rfl (λev w1 hh=>?_) (λhg ev w1 hR hb hh=>?_)
     ·exact hh.at 0
     ·clear hh;have e25:=hR.old 25 rfl;simp only [Ag,Cg,BY,BZ,Ds] at e25;exact XXqTe
    ·refine AR 15 121 rfl rfl (λev w1 hh=>?_) (λhg ev w1 hR hb hh=>?_)
     ·exact hh.at 2
     ·have e124:=(show (((false&&true))=false->ev (.tmp 124)=ZV (some ⟨g2,0,none⟩)) from hh.at 0) hg;clear hh;have ef:=hR.func
      refine AG 22 #[ptr g2] (by go_simp) ((HW2.out w1 hb).mono ?_);exact XXf01
    ·refine AR 15 121 rfl rfl (λev w1 hh=>?_) (λhg ev w1 hR hb hh=>?_)
     ·exact hh.at 2
     ·have e123:=(show (((false&&true))=false->ev (.tmp 123)=ZW wt) from hh.at 0) hg;have e125:=(show (((false&&true))=false->ev (.tmp 125)=ZW wt) from hh.at 1) hg;clear hh;refine AH ?_;go_simp
      first | done | exact bne_self_eq_false wt |(simp)
    ·refine AP rfl (λev w1 hR hb hh=>?_);have e121:ev (.tmp 121)= _:=hh.at 0;have h126:(((false&&true))=false->ev (.tmp 126)=ZW false):=hh.at 1;clear hh;have ec:=hR.const;refine AH ?_;rcases Bool.eq_false_or_eq_true ((false&&true)) with hx | hx
     ·rw [hx] at e121 ⊢;go_simp;try with_reducible rfl
     ·rw [hx] at e121 ⊢;have e126:=h126 hx;go_simp;try with_reducible rfl
    ·exact XX0L0
    ·refine AR 22 128 rfl rfl (λev w1 hh=>?_) (λhg ev w1 hR hb hh=>?_)
     ·exact hh.at 0
     ·clear hh;have e24:=hR.old 24 rfl;simp only [Ag,Cg,BY,BZ,Ds] at e24;exact XXqTe
    ·refine AR 22 128 rfl rfl (λev w1 hh=>?_) (λhg ev w1 hR hb hh=>?_)
     ·exact hh.at 1
     ·have e129:=(show ((((false&&true)&&true))=false->ev (.tmp 129)=ZV (some ⟨g1,0,none⟩)) from hh.at 0) hg;clear hh;have ef:=hR.func
      refine AG 23 #[ptr g1] (by go_simp) ((HH1.out w1 hb).mono ?_);exact XXf01
    ·refine AR 22 128 rfl rfl (λev w1 hh=>?_) (λhg ev w1 hR hb hh=>?_)
     ·exact hh.at 0
     ·clear hh;have e25:=hR.old 25 rfl;simp only [Ag,Cg,BY,BZ,Ds] at e25;exact XXqTe
    ·refine AR 22 128 rfl rfl (λev w1 hh=>?_) (λhg ev w1 hR hb hh=>?_)
     ·exact hh.at 2
     ·have e131:=(show ((((false&&true)&&true))=false->ev (.tmp 131)=ZV (some ⟨g2,0,none⟩)) from hh.at 0) hg;clear hh;have ef:=hR.func
      refine AG 24 #[ptr g2] (by go_simp) ((HH2.out w1 hb).mono ?_);exact XXf01
    ·refine AR 22 128 rfl rfl (λev w1 hh=>?_) (λhg ev w1 hR hb hh=>?_)
     ·exact hh.at 2
     ·have e130:=(show ((((false&&true)&&true))=false->ev (.tmp 130)=ZZ ZS hd9) from hh.at 0) hg;have e132:=(show ((((false&&true)&&true))=false->ev (.tmp 132)=ZZ ZS hd9) from hh.at 1) hg;clear hh;refine AH ?_;go_simp
      first | done | exact bne_self_eq_false hd9 |(simp)
    ·refine AP rfl (λev w1 hR hb hh=>?_);have e128:ev (.tmp 128)= _:=hh.at 0;have h133:((((false&&true)&&true))=false->ev (.tmp 133)=ZW false):=hh.at 1;clear hh;have ec:=hR.const;refine AH ?_;rcases Bool.eq_false_or_eq_true (((false&&true)&&true)) with hx | hx
     ·rw [hx] at e128 ⊢;go_simp;try with_reducible rfl
     ·rw [hx] at e128 ⊢;have e133:=h133 hx;go_simp;try with_reducible rfl
    ·exact XX0L0
    ·refine AR 29 135 rfl rfl (λev w1 hh=>?_) (λhg ev w1 hR hb hh=>?_)
     ·exact hh.at 0
     ·clear hh;have e24:=hR.old 24 rfl;simp only [Ag,Cg,BY,BZ,Ds] at e24;exact XXqTe
    ·refine AR 29 135 rfl rfl (λev w1 hh=>?_) (λhg ev w1 hR hb hh=>?_)
     ·exact hh.at 1
     ·have e136:=(show (((((false&&true)&&true)&&true))=false->ev (.tmp 136)=ZV (some ⟨g1,0,none⟩)) from hh.at 0) hg;clear hh;have ef:=hR.func
      refine AG 25 #[ptr g1] (by go_simp) ((HC1.out w1 hb).mono ?_);exact XXzMG
    ·refine AR 29 135 rfl rfl (λev w1 hh=>?_) (λhg ev w1 hR hb hh=>?_)
     ·exact hh.at 0
     ·clear hh;have e25:=hR.old 25 rfl;simp only [Ag,Cg,BY,BZ,Ds] at e25;exact XXqTe
    ·refine AR 29 135 rfl rfl (λev w1 hh=>?_) (λhg ev w1 hR hb hh=>?_)
     ·exact hh.at 2
     ·have e138:=(show (((((false&&true)&&true)&&true))=false->ev (.tmp 138)=ZV (some ⟨g2,0,none⟩)) from hh.at 0) hg;clear hh;have ef:=hR.func
      refine AG 26 #[ptr g2] (by go_simp) ((HC2.out w1 hb).mono ?_);exact XXzMG
    ·refine AR 29 135 rfl rfl (λev w1 hh=>?_) (λhg ev w1 hR hb hh=>?_)
     ·exact hh.at 2
     ·have e137:=(show (((((false&&true)&&true)&&true))=false->ev (.tmp 137)=ZW cl) from hh.at 0) hg;have e139:=(show (((((false&&true)&&true)&&true))=false->ev (.tmp 139)=ZW cl) from hh.at 1) hg;clear hh;refine AH ?_;go_simp
      first | done | exact bne_self_eq_false cl |(simp)
    ·refine AP rfl (λev w1 hR hb hh=>?_);have e135:ev (.tmp 135)= _:=hh.at 0;have h140:(((((false&&true)&&true)&&true))=false->ev (.tmp 140)=ZW false):=hh.at 1;clear hh;have ec:=hR.const;refine AH ?_;rcases Bool.eq_false_or_eq_true ((((false&&true)&&true)&&true)) with hx | hx
     ·rw [hx] at e135 ⊢;go_simp;try with_reducible rfl
     ·rw [hx] at e135 ⊢;have e140:=h140 hx;go_simp;try with_reducible rfl
   intro gb w4 hb4 hf;have z9:gb 141=ZW false:=hf.at 35;clear hf;simp only [AU,Ab,CH,CK,CJ];rw [z9]
   have HAX4:=Bx (HAX2.out.below hb4);have HAY4:=Bx (HAY2.out.below hb4)
   have HBL4:=Bx (show Below B W1 w4 from HBL2.out.trans (hb4.mono (by have:=HBL2.out.size;have:=HB.out;omega)));clear hb4 HALL HC1 HC2 HW1 HW2 HH1 HH2 HER;have hn3:n<=3000:=HK9.out.2.2;go_wp2_with fail;go_roundw
   case rel=>exact ⟨k+1,XT,N1,N2,hlt9,by go_num,Bx ⟨HB.out ▸ ⟨Zx,HAX4.out⟩,HB.out ▸ ⟨Zy,HAY4.out⟩,HD2.out,HOT.out,HXT.out,HB.out ▸ HBL4.out⟩⟩
   case measure=>simp [intOf];omega
theorem parserTells_law (ra:Option Addr) (rn rc:Nat) (rs:List Int) (la:Option Addr) (ln cap:Nat) (zs:List Int) (a k at_ x how:Int) (ma:Option Addr) (mn mcap:Nat) (ms:List Int) (w:World)
 (hrv:Nums .u8 w ra rn rs) (hrn:rn<=maxLen) (hrc:rn<=rc) (hrw:∀x∈rs,(Lit.int .u8 x).wf=true) (hv:Nums .u8 w la ln zs) (hln:ln<=maxLen) (hlc:ln<=cap) (ha:0<=a/\a<=4294967295) (hk:0<=k/\k<=255) (hat:0<=at_/\at_<=65535) (hx:0<=x/\x<=255) (hh:0<=how/\how<=255)
 (hmv:Nums .u8 w ma mn ms) (hmn:mn<=maxLen) (hmc:mn<=mcap) (hmw:∀x∈ms,(Lit.int .u8 x).wf=true) :
 Calls EW 3 #[.slice ra rn rc,.slice la ln cap,ZZ ZQ a,ZZ ZR k,.int .u16 at_,ZZ ZR x,ZZ ZR how,.slice ma mn mcap] w λe w'=>e=.returned (ZW true)/\Below w.heap.size w w':=by
 obtain ⟨bs,rfl⟩:=Txt.bytes_of rs λx hx=>bounds_u8 (hrw x hx)
 obtain ⟨cs,rfl⟩:=Txt.bytes_of ms λx hx=>bounds_u8 (hmw x hx);obtain ⟨a,rfl⟩:=Int.eq_ofNat_of_zero_le ha.1;obtain ⟨k,rfl⟩:=Int.eq_ofNat_of_zero_le hk.1;obtain ⟨at_,rfl⟩:=Int.eq_ofNat_of_zero_le hat.1;obtain ⟨how,rfl⟩:=Int.eq_ofNat_of_zero_le hh.1;obtain ⟨y,rfl⟩:∃b:UInt8,x=(b.toNat:Int):=⟨UInt8.ofNat x.toNat,by rw [UInt8.toNat_ofNat_of_lt' (by show x.toNat<256;omega)];omega⟩;exact parserTells_any ra rn rc bs la ln cap zs a k at_ y how ma mn mcap cs w hrv hrc hrn hv hln hlc (by omega) (by omega) (by omega) (by omega) hmv hmc hmn
end
end Go.Proofs.YtdfabddnpgjepaaGreatDoor.Tel
