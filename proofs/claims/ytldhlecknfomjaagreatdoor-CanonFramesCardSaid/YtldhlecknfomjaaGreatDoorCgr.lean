import Derived.Test.YtldhlecknfomjaaGreatDoorCgq
namespace Go.Proofs.YtldhlecknfomjaaGreatDoor.Can
open Go.RowKit Base Txt Par Pg
theorem find_te_all (m:ByteArray) (fs ts:List Fld) (body:List UInt8):find (fieldsV m fs body ts) Frm.teN=if ts≠ [] then [Frm.chunked] else []:=by
 unfold fieldsV;by_cases ht:ts≠ []
 ·rw [if_pos ht,if_pos ht,find_app,host_te,show find [(Frm.teN,Frm.chunked)] Frm.teN= [Frm.chunked] by decide +kernel];rfl
 ·rw [if_neg ht,if_neg ht];split
  ·have e:find [(Frm.clN,lenV body.length)] Frm.teN= []:=by
    unfold find;rw [List.filter_cons,if_neg (by rw [show same Frm.clN Frm.teN=false by decide +kernel];simp)];rfl
   rw [find_app,host_te,e];rfl
  ·rw [host_te]
theorem find_cl_all (m:ByteArray) (fs ts:List Fld) (body:List UInt8):find (fieldsV m fs body ts) Frm.clN=if ts≠ [] then [] else if body≠ []∨m.data.toList∈posts then [lenV body.length] else []:=by
 unfold fieldsV;by_cases ht:ts≠ []
 ·rw [if_pos ht,if_pos ht,find_app,host_cl,show find [(Frm.teN,Frm.chunked)] Frm.clN= [] by decide +kernel];rfl
 ·rw [if_neg ht,if_neg ht];split
  ·have e:find [(Frm.clN,lenV body.length)] Frm.clN= [lenV body.length]:=by
    unfold find;rw [List.filter_cons,if_pos (show same Frm.clN Frm.clN=true by decide +kernel)];rfl
   rw [find_app,host_cl,e];rfl
  ·rw [host_cl]
theorem meth6 (c:Nat) (hc:c<6):∃M:ByteArray,([.string ⟨#[71,69,84]⟩,.string ⟨#[80,79,83,84]⟩,.string ⟨#[80,85,84]⟩,.string ⟨#[80,65,84,67,72]⟩,.string ⟨#[68,69,76,69,84,69]⟩,.string ⟨#[88]⟩]:List Value)[c]?=some (.string M)∧M.size≤10∧(M.data.toList∈posts↔1≤c∧c≤3):=by
 match c,hc with
 | 0,_=>exact ⟨_,rfl,by decide,by decide⟩
 | 1,_=>exact ⟨_,rfl,by decide,by decide⟩
 | 2,_=>exact ⟨_,rfl,by decide,by decide⟩
 | 3,_=>exact ⟨_,rfl,by decide,by decide⟩
 | 4,_=>exact ⟨_,rfl,by decide,by decide⟩
 | 5,_=>exact ⟨_,rfl,by decide,by decide⟩
section code
set_option maxHeartbeats 8000000
set_option maxRecDepth 100000
attribute [local go_sem] Base.some_undef
theorem canonFrames_law (a0:Option Addr) (l0 c0:Nat) (n0:List Int) (te cl:Bool) (a3:Int) (w:World) (i0:Nums .u8 w a0 l0 n0) (b3:0≤a3) :
 Calls Tryz.prog 5 #[.slice a0 l0 c0,.bool te,.bool cl,.int .u8 a3] w fun e w'=>e=.returned (.bool true)∧Below w.heap.size w w':=by
 have HK:=Lib.hid (fun w=>known_any w);obtain ⟨c,hc,hnc⟩:=rem_of a3 6 (by decide) b3;have hc6:c<6:=by omega
 obtain ⟨M,hM,hMs,hMp⟩:=meth6 c hc6;rcases Nat.lt_or_ge 12 l0 with hbig | hsm
 ·have h1:(12:Int)<(l0:Int):=by omega
  clear hnc hc hc6 hM hMs hMp b3;go_enter Tryz.func5,Tryz.ntmps5
  go_wp2_with (go_at_call 15;with_reducible refine (HK.out _).mono ?_;rintro e w1 ⟨rfl,hb1⟩);go_ret;exact ⟨rfl,hb1⟩
 have h1:¬(12:Int)<(l0:Int):=by omega
 have HI0:=Lib.hid i0;have HM:=Lib.hid hM;have HMS:=Lib.hid hMs;have HMP:=Lib.hid hMp;have HNC:=Lib.hid (And.intro hnc (And.intro hc hc6));clear i0 hM hMs hMp hnc hc hc6 b3;obtain ⟨i0,hi,hz0,hz1,hz2⟩:=info_parts field_info;have G1:=Lib.hid hi;have G2:=Lib.hid hz0;have G3:=Lib.hid hz1;have G4:=Lib.hid hz2;clear hi hz0 hz1 hz2;go_enter Tryz.func5,Tryz.ntmps5
 go_upto_region 6 with (first
  |(go_at_call 18;with_reducible refine (Rec.neat_any a0 l0 c0 n0 _ (HI0.out.below HB1.out)).mono ?_;rintro e w2 ⟨V',r,rfl,hrd, -,hsm', -,hfl,hb2⟩
    obtain ⟨fa,fc,ba,bc,ta,tc,rfl,f1,f2,f3⟩:=hrd
    have HB2:=Lib.hid (Base.below_step HB1.out hb2);have HSM:=Lib.hid (And.intro hsm' hfl);have HF1:=Lib.hid f1;have HF2:=Lib.hid f2;have HF3:=Lib.hid f3;clear hb2 hsm' hfl f1 f2 f3)
  |(go_at_call 15;with_reducible refine (HK.out _).mono ?_;rintro e w1 ⟨rfl,hb1⟩
    have HB1:=Lib.hid hb1;clear hb1))
 have HZ2:=Lib.hid (Rec.Bk.new w2 w2.heap.size rfl 25 [.string r.m,.string r.x,.int .i64 r.k,.slice fa r.fs.length fc,.bool r.ch,.slice ba r.body.length bc,.slice ta r.ts.length tc])
 have HG2:=Lib.hid (show w2.heap.size<(w2.alloc (.cells #[.string r.m,.string r.x,.int .i64 r.k,.slice fa r.fs.length fc,.bool r.ch,.slice ba r.body.length bc,.slice ta r.ts.length tc] 25)).heap.size by simp)
 have HX2:=Lib.hid ((Below.refl _ _).alloc (Nat.le_refl _) (.cells #[.string r.m,.string r.x,.int .i64 r.k,.slice fa r.fs.length fc,.bool r.ch,.slice ba r.body.length bc,.slice ta r.ts.length tc] 25):Below w2.heap.size w2 _);generalize w2.alloc (.cells #[.string r.m,.string r.x,.int .i64 r.k,.slice fa r.fs.length fc,.bool r.ch,.slice ba r.body.length bc,.slice ta r.ts.length tc] 25)=W2 at *;obtain ⟨gR,hgR⟩:∃gR,w2.heap.size=gR:=⟨_,rfl⟩;have HGR:=Lib.hid hgR;rw [hgR] at HZ2 HG2 HX2 ⊢;clear hgR
 have HL2:=Lib.hid (Rec.Bk.new W2 W2.heap.size rfl 9 [.string ⟨#[71,69,84]⟩,.string ⟨#[80,79,83,84]⟩,.string ⟨#[80,85,84]⟩,.string ⟨#[80,65,84,67,72]⟩,.string ⟨#[68,69,76,69,84,69]⟩,.string ⟨#[88]⟩]);have y:=HL2.out.c c _ HM.out
 have HZ2a:=Lib.hid (HZ2.out.alloc (.cells #[.string ⟨#[71,69,84]⟩,.string ⟨#[80,79,83,84]⟩,.string ⟨#[80,85,84]⟩,.string ⟨#[80,65,84,67,72]⟩,.string ⟨#[68,69,76,69,84,69]⟩,.string ⟨#[88]⟩] 9))
 have q0:=HZ2a.out.c 0 _ rfl;have z0:=HZ2a.out.z 0 (by simp);obtain ⟨hnc,hc,hc6⟩:=HNC.out;go_upto_region 7 with fail
 clear y q0 z0
 have HZ3:=Lib.hid (HZ2a.out.set 0 (.string M) (by simp))
 have HB3:=Lib.hid (show Below gR w2 ((W2.alloc (.cells #[.string ⟨#[71,69,84]⟩,.string ⟨#[80,79,83,84]⟩,.string ⟨#[80,85,84]⟩,.string ⟨#[80,65,84,67,72]⟩,.string ⟨#[68,69,76,69,84,69]⟩,.string ⟨#[88]⟩] 9)).setCell ⟨gR,0,none⟩ (.string M)) from (HX2.out.alloc (Nat.le_of_lt HG2.out) (.cells #[.string ⟨#[71,69,84]⟩,.string ⟨#[80,79,83,84]⟩,.string ⟨#[80,85,84]⟩,.string ⟨#[80,65,84,67,72]⟩,.string ⟨#[68,69,76,69,84,69]⟩,.string ⟨#[88]⟩] 9)).setCell (Nat.le_refl _) _)
 have HS3:=Lib.hid (show W2.heap.size≤((W2.alloc (.cells #[.string ⟨#[71,69,84]⟩,.string ⟨#[80,79,83,84]⟩,.string ⟨#[80,85,84]⟩,.string ⟨#[80,65,84,67,72]⟩,.string ⟨#[68,69,76,69,84,69]⟩,.string ⟨#[88]⟩] 9)).setCell ⟨gR,0,none⟩ (.string M)).heap.size by simp);clear HZ2 HZ2a HL2 HX2;generalize (W2.alloc (.cells #[.string ⟨#[71,69,84]⟩,.string ⟨#[80,79,83,84]⟩,.string ⟨#[80,85,84]⟩,.string ⟨#[80,65,84,67,72]⟩,.string ⟨#[68,69,76,69,84,69]⟩,.string ⟨#[88]⟩] 9)).setCell ⟨gR,0,none⟩ (.string M)=W3 at *;have q3:=HZ3.out.c 3 _ rfl;go_upto_if 30 with
  (at_builtin;refine App.wpList_append_list _ rfl _ _ 22 rfl W2.heap.size 48 i0 (.agg #[.string ByteArray.empty,.string ByteArray.empty]) 2 32 Tryz.underlying22 G1.out G2.out G3.out G4.out rfl (by decide) _ 0 [] rfl (World.ownsRow_nil _ _ _ _) fa r.fs.length fc (cells r.fs) rfl (cells_length _) (cells_here (HF1.out.below (HGR.out ▸ HB3.out))) (cells_one _) (by have:=HSM.out.2;unfold maxLen;omega) (by have:=HSM.out.2;omega) HS3.out ?_;intro v4 w4 hO4 hgr4 _ _;rw [Nat.zero_add,List.nil_append] at hO4;obtain ⟨b4,c4,rfl⟩:=Rec.own_slice hO4;have hb4:Below W3.heap.size W3 w4:=Rec.below_of_grown hgr4;have HO4:=Lib.hid hO4
   have HZ4:=Lib.hid (HZ3.out.below hb4)
   have HB4:=Lib.hid (HB3.out.trans (hb4.mono (Nat.le_trans (Nat.le_of_lt HG2.out) HS3.out)))
   have HS4:=Lib.hid (Nat.le_trans HS3.out hb4.size);clear hO4 hgr4 hb4 q3
   have q3:=HZ4.out.c 3 _ rfl;have z3:=HZ4.out.z 3 (by simp))
 have HNE:=Lib.hid (show∀g,(Value.slice b4 r.fs.length c4).ownBlock=some g→¬g=gR from fun g hg=>by have:=(HO4.out.lt g hg).1;have:=HG2.out;omega)
 have HZ5:=Lib.hid (HZ4.out.set 3 (.slice b4 r.fs.length c4) (by simp))
 have HB5:=Lib.hid (show Below gR w2 (w4.setCell ⟨gR,3,none⟩ (.slice b4 r.fs.length c4)) from HB4.out.setCell (Nat.le_refl _) _)
 have HO5:=Lib.hid (ownsRow_setCell_other HO4.out (a:=⟨gR,3,none⟩) (fun e=>HNE.out _ e rfl) (.slice b4 r.fs.length c4))
 have HS5:=Lib.hid (show W2.heap.size≤(w4.setCell ⟨gR,3,none⟩ (.slice b4 r.fs.length c4)).heap.size by have:=HS4.out;simpa using this);clear q3 z3 HZ4 HZ3 HB4 HB3 HO4 HS4 HS3;generalize w4.setCell ⟨gR,3,none⟩ (.slice b4 r.fs.length c4)=W5 at *
 go_cut [] from 31 to 36 (fun wx=>∃(fa3:Option Addr) (n3 fc3:Nat) (fs3:List Fld),n3≤4∧Hid (∀f∈fs3,f.1.size≤1000∧f.2.size≤1000)∧Hid (Rec.Bk wx gR [.string M,.string r.x,.int .i64 r.k,.slice fa3 n3 fc3,.bool r.ch,.slice ba r.body.length bc,.slice ta r.ts.length tc])∧Hid (Flds wx fa3 n3 fs3)∧Hid (Below gR w2 wx))
 case first=>
  cases te with
  | false=>
    go_wp2_with fail;go_meet
    case rel=>obtain ⟨A,cc,e,hf⟩:=Flds.of_own HO5.out;simp only [Value.slice.injEq,true_and] at e;obtain ⟨rfl,rfl⟩:=e;exact ⟨b4,r.fs.length,c4,r.fs,by have:=HSM.out.2;omega,Lib.hid HSM.out.1.f,HZ5,Lib.hid hf,HB5⟩
  | true=>
    have q3:=HZ5.out.c 3 _ rfl;go_wp2_with
     (at_builtin;refine App.wpList_append_list _ rfl _ _ 22 rfl W2.heap.size 48 i0 (.agg #[.string ByteArray.empty,.string ByteArray.empty]) 2 32 Tryz.underlying22 G1.out G2.out G3.out G4.out rfl (by decide) _ r.fs.length (cells r.fs) rfl (HO5.out.alloc (.cells #[.string ⟨#[116,114,97,110,115,102,101,114,45,101,110,99,111,100,105,110,103]⟩,.string ⟨#[99,104,117,110,107,101,100]⟩] 48)) (some ⟨W5.heap.size,0,none⟩) 1 1 (cells [(⟨#[116,114,97,110,115,102,101,114,45,101,110,99,111,100,105,110,103]⟩,⟨#[99,104,117,110,107,101,100]⟩)]) rfl rfl (cells_here (flds_one W5 48 ⟨#[116,114,97,110,115,102,101,114,45,101,110,99,111,100,105,110,103]⟩ ⟨#[99,104,117,110,107,101,100]⟩)) (cells_one _) (by have:=HSM.out.2;unfold maxLen;omega) (by have:=HSM.out.2;omega) (by have:=HS5.out;simp;omega) ?_;intro v6 w6 hO6 hgr6 _ _;rw [←cells_append] at hO6;obtain ⟨b6,c6,rfl⟩:=Rec.own_slice hO6;have HO6:=Lib.hid hO6
      have HZ6:=Lib.hid ((HZ5.out.alloc (.cells #[.string ⟨#[116,114,97,110,115,102,101,114,45,101,110,99,111,100,105,110,103]⟩,.string ⟨#[99,104,117,110,107,101,100]⟩] 48)).grown hgr6 (fun e=>HNE.out _ e.symm rfl))
      have HB6:=Lib.hid ((HB5.out.alloc (Nat.le_trans (Nat.le_of_lt HG2.out) HS5.out) (.cells #[.string ⟨#[116,114,97,110,115,102,101,114,45,101,110,99,111,100,105,110,103]⟩,.string ⟨#[99,104,117,110,107,101,100]⟩] 48)).grown hgr6 (by have:=HS5.out;have:=HG2.out;simp;omega) (fun k hk=>by have:=(HO5.out.lt k hk).1;have:=HG2.out;omega));clear hO6 hgr6 q3
      have q3:=HZ6.out.c 3 _ rfl;have z3:=HZ6.out.z 3 (by simp))
    have HNE6:=Lib.hid (show∀g,(Value.slice b6 (r.fs.length+1) c6).ownBlock=some g→¬g=gR from fun g hg=>by have:=(HO6.out.lt g hg).1;have:=HG2.out;omega)
    have HZ7:=Lib.hid (HZ6.out.set 3 (.slice b6 (r.fs.length+1) c6) (by simp))
    have HB7:=Lib.hid (show Below gR w2 (w6.setCell ⟨gR,3,none⟩ (.slice b6 (r.fs.length+1) c6)) from HB6.out.setCell (Nat.le_refl _) _)
    have HO7:=Lib.hid (ownsRow_setCell_other HO6.out (a:=⟨gR,3,none⟩) (fun e=>HNE6.out _ e rfl) (.slice b6 (r.fs.length+1) c6));clear q3 z3 HZ6 HB6 HO6 HNE6;generalize w6.setCell ⟨gR,3,none⟩ (.slice b6 (r.fs.length+1) c6)=W7 at *;go_meet
    case rel=>
     obtain ⟨A,cc,e,hf⟩:=Flds.of_own HO7.out;simp only [Value.slice.injEq,true_and] at e;obtain ⟨rfl,rfl⟩:=e
     exact ⟨b6,r.fs.length+1,c6,_,by have:=HSM.out.2;omega,Lib.hid (fun f hf=>by
      rcases List.mem_append.1 hf with h | h
      ·exact HSM.out.1.f f h
      ·rw [List.mem_singleton.1 h];exact ⟨show (⟨#[116,114,97,110,115,102,101,114,45,101,110,99,111,100,105,110,103]⟩:ByteArray).size≤1000 by decide,show (⟨#[99,104,117,110,107,101,100]⟩:ByteArray).size≤1000 by decide⟩),HZ7,Lib.hid hf,HB7⟩
 case rest=>
 obtain ⟨fa3,n3,fc3,fs3,hn3,HS3,HZ3,HF3,HB3⟩:=hcut;obtain ⟨W7,hW7⟩:∃x,x=wc:=⟨_,rfl⟩;subst hW7;clear HZ5 HB5 HO5 HNE HS5;go_upto_if 37 with fail
 go_cut [] from 38 to 43 (fun wx=>∃(fa3:Option Addr) (n3 fc3:Nat) (fs3:List Fld),n3≤5∧Hid (∀f∈fs3,f.1.size≤1000∧f.2.size≤1000)∧Hid (Rec.Bk wx gR [.string M,.string r.x,.int .i64 r.k,.slice fa3 n3 fc3,.bool r.ch,.slice ba r.body.length bc,.slice ta r.ts.length tc])∧Hid (Flds wx fa3 n3 fs3)∧Hid (Below gR w2 wx))
 case first=>
  cases cl with
  | false=>
    go_wp2_with fail;go_meet
    case rel=>exact ⟨fa3,n3,fc3,fs3,by omega,HS3,HZ3,HF3,HB3⟩
  | true=>
    have HW8:=Lib.hid ((Below.refl W7.heap.size W7).alloc (Nat.le_refl _) (.cells #[.string ⟨#[67,79,78,84,69,78,84,45,76,69,78,71,84,72]⟩,.string ⟨#[57,57,57]⟩] 48))
    have HGW:=Lib.hid (show gR<W7.heap.size from HZ3.out.lt)
    have HZ8:=Lib.hid (HZ3.out.below HW8.out);have q3:=HZ8.out.c 3 _ rfl;go_wp2_with
     (at_builtin;refine App.wpList_append_list _ rfl _ _ 22 rfl W7.heap.size 48 i0 (.agg #[.string ByteArray.empty,.string ByteArray.empty]) 2 32 Tryz.underlying22 G1.out G2.out G3.out G4.out rfl (by decide) _ 1 [.string ⟨#[67,79,78,84,69,78,84,45,76,69,78,71,84,72]⟩,.string ⟨#[57,57,57]⟩] rfl (World.ownsRow_lit (base:=W7.heap.size) (e:=48) (size:=2) W7 #[.string ⟨#[67,79,78,84,69,78,84,45,76,69,78,71,84,72]⟩,.string ⟨#[57,57,57]⟩] 1 (Nat.le_refl _) (by decide) rfl) fa3 n3 fc3 (cells fs3) rfl (by rw [cells_length,HF3.out.1]) (cells_here (HF3.out.below HW8.out)) (cells_one fs3) (by unfold maxLen;omega) (by omega) (by simp) ?_;intro v9 w9 hO9 hgr9 _ _;obtain ⟨b9,c9,rfl⟩:=Rec.own_slice hO9
      have HO9:=Lib.hid (show w9.ownsRow W7.heap.size 48 2 (.slice b9 (1+n3) c9) (1+n3) (cells ((⟨#[67,79,78,84,69,78,84,45,76,69,78,71,84,72]⟩,⟨#[57,57,57]⟩)::fs3)) from hO9)
      have HZ9:=Lib.hid (HZ8.out.grown hgr9 (fun e=>by have h9:gR=W7.heap.size:=Option.some.inj e;have:=HGW.out;omega))
      have HB9:=Lib.hid ((HB3.out.alloc (Nat.le_of_lt HGW.out) (.cells #[.string ⟨#[67,79,78,84,69,78,84,45,76,69,78,71,84,72]⟩,.string ⟨#[57,57,57]⟩] 48)).grown hgr9 (by have:=HGW.out;simp;omega) (fun k hk=>by have h9:W7.heap.size=k:=Option.some.inj hk;have:=HGW.out;omega));clear hO9 hgr9 q3
      have q3:=HZ9.out.c 3 _ rfl;have z3:=HZ9.out.z 3 (by simp))
    have HNE9:=Lib.hid (show∀g,(Value.slice b9 (1+n3) c9).ownBlock=some g→¬g=gR from fun g hg=>by have:=(HO9.out.lt g hg).1;have:=HGW.out;omega)
    have HZ10:=Lib.hid (HZ9.out.set 3 (.slice b9 (1+n3) c9) (by simp))
    have HB10:=Lib.hid (show Below gR w2 (w9.setCell ⟨gR,3,none⟩ (.slice b9 (1+n3) c9)) from HB9.out.setCell (Nat.le_refl _) _)
    have HO10:=Lib.hid (ownsRow_setCell_other HO9.out (a:=⟨gR,3,none⟩) (fun e=>HNE9.out _ e rfl) (.slice b9 (1+n3) c9));clear q3 z3 HZ9 HB9 HO9 HNE9;generalize w9.setCell ⟨gR,3,none⟩ (.slice b9 (1+n3) c9)=W10 at *;go_meet
    case rel=>
     obtain ⟨A,cc,e,hf⟩:=Flds.of_own HO10.out;simp only [Value.slice.injEq,true_and] at e;obtain ⟨rfl,rfl⟩:=e
     exact ⟨b9,1+n3,c9,_,by omega,Lib.hid (fun f hf=>by
      rcases List.mem_cons.1 hf with h | h
      ·rw [h];exact ⟨show (⟨#[67,79,78,84,69,78,84,45,76,69,78,71,84,72]⟩:ByteArray).size≤1000 by decide,show (⟨#[57,57,57]⟩:ByteArray).size≤1000 by decide⟩
      ·exact HS3.out f h),HZ10,Lib.hid hf,HB10⟩
 case rest=>
 clear HZ3 HF3 HS3 HB3 hn3;obtain ⟨fa4,n4,fc4,fs4,hn4,HS4,HZC,HF4,HB4⟩:=hcut;have hl4:=HF4.out.1
 have HBY:Hid (Below w.heap.size w wc):=Lib.hid (HB2.out.trans ((HGR.out ▸ HB4.out:Below w2.heap.size w2 wc).mono HB2.out.size));have hR:∀wk,Below wc.heap.size wc wk→Rec.Reads wk (.agg #[.string M,.string r.x,.int .i64 r.k,.slice fa4 n4 fc4,.bool r.ch,.slice ba r.body.length bc,.slice ta r.ts.length tc]) ⟨M,r.x,r.k,fs4,r.ch,r.body,r.ts⟩:=fun wk hb=>by have h2:Below w2.heap.size w2 wk:=(HGR.out ▸ HB4.out:Below w2.heap.size w2 wc).trans (hb.mono (HGR.out ▸ HB4.out.size));exact ⟨fa4,fc4,ba,bc,ta,tc,by subst hl4;rfl,by subst hl4;exact HF4.out.below hb,HF2.out.below h2,HF3.out.below h2⟩
 have HFI:=Lib.hid fun wk hb=>fields_any _ ⟨M,r.x,r.k,fs4,r.ch,r.body,r.ts⟩ wk (hR wk hb) (by show fs4.length≤_;omega) (fun f hf=>by have:=HS4.out f hf;omega) (by have:=HSM.out.1.body;show r.body.length≤_;omega)
 have HC:=Lib.hid fun wk hb=>chunked_any _ ⟨M,r.x,r.k,fs4,r.ch,r.body,r.ts⟩ wk (hR wk hb);have hsz:∀f∈fieldsV M fs4 r.body r.ts,f.1.size≤1000000000:=fun f hf=>by
  rcases mem_fields hf with h | rfl | rfl | rfl
  ·have:=HS4.out f h;omega
  ·exact (by decide:Frm.hostN.size≤1000000000)
  ·exact (by decide:Frm.teN.size≤1000000000)
  ·exact (by decide:Frm.clN.size≤1000000000)
 have hfl:(fieldsV M fs4 r.body r.ts).length≤1000:=by have:=fields_len M fs4 r.ts r.body;omega
 have h1:=find_te_all M fs4 r.ts r.body;have h2:=find_cl_all M fs4 r.ts r.body;have HT1:Hid (∀(wk:World) a cx,Flds wk a (fieldsV M fs4 r.body r.ts).length (fieldsV M fs4 r.body r.ts)→Calls Tryz.prog 32 #[.slice a (fieldsV M fs4 r.body r.ts).length cx,.string ⟨#[84,114,97,110,115,102,101,114,45,69,110,99,111,100,105,110,103]⟩] wk fun e w'=>∃b cy,e=.returned (.slice b (if r.ts≠ [] then [Frm.chunked] else []).length cy)∧Strs w' b (if r.ts≠ [] then [Frm.chunked] else []).length (if r.ts≠ [] then [Frm.chunked] else [])∧Below wk.heap.size wk w'):=
  Lib.hid fun wk a cx hf=>(rfind_any a _ cx _ Frm.teN wk hf (by omega) hsz (by decide)).mono (by rw [h1];rintro e w' ⟨b,m,cy,e1,e2,e3,e4⟩;subst e2;exact ⟨b,cy,e1,e3,e4⟩)
 have HT2:Hid (∀(wk:World) a cx,Flds wk a (fieldsV M fs4 r.body r.ts).length (fieldsV M fs4 r.body r.ts)→Calls Tryz.prog 32 #[.slice a (fieldsV M fs4 r.body r.ts).length cx,.string ⟨#[67,111,110,116,101,110,116,45,76,101,110,103,116,104]⟩] wk fun e w'=>∃b cy,e=.returned (.slice b (if r.ts≠ [] then [] else if r.body≠ []∨M.data.toList∈posts then [lenV r.body.length] else []).length cy)∧Strs w' b (if r.ts≠ [] then [] else if r.body≠ []∨M.data.toList∈posts then [lenV r.body.length] else []).length (if r.ts≠ [] then [] else if r.body≠ []∨M.data.toList∈posts then [lenV r.body.length] else [])∧Below wk.heap.size wk w'):=
  Lib.hid fun wk a cx hf=>(rfind_any a _ cx _ Frm.clN wk hf (by omega) hsz (by decide)).mono (by rw [h2];rintro e w' ⟨b,m,cy,e1,e2,e3,e4⟩;subst e2;exact ⟨b,cy,e1,e3,e4⟩)
 have HPU:=Lib.hid (fun w'=>Num.rput_any (r.body.length:Int) w' (by omega) (by have:=HSM.out.1.body;omega));rw [Int.toNat_natCast] at HPU;clear h1 h2 hsz hfl hR hl4 HF4 HS4 HF2 HF3 HF1 HB4;unfold fieldsR at *;generalize fieldsV M fs4 r.body r.ts=F at *;by_cases ht:r.ts≠ []
 ·have ht0:0<r.ts.length:=List.length_pos_iff.2 ht;rw [if_pos ht] at HT1 HT2;rw [decide_eq_true ht] at HC;clear ht HPU HMP;have q0:=HZC.out.c 0 _ rfl;have q1:=HZC.out.c 1 _ rfl;have q2:=HZC.out.c 2 _ rfl;have q3:=HZC.out.c 3 _ rfl;have q4:=HZC.out.c 4 _ rfl;have q5:=HZC.out.c 5 _ rfl;have q6:=HZC.out.c 6 _ rfl
  go_upto_region 14 with (first
   |(go_at_call 32;with_reducible refine (HT2.out _ _ _ (HFX.out.below HB13.out)).mono ?_;rintro e w14 ⟨b14,c14,rfl,hs14,hb14⟩
     have HS14:=Lib.hid hs14;have HB14:=Lib.hid (Base.below_step HB13.out hb14);have HS13':=Lib.hid (HS13.out.below hb14);clear hs14 hb14)
   |(go_at_call 32;with_reducible refine (HT1.out _ _ _ HFX.out).mono ?_;rintro e w13 ⟨b13,c13,rfl,hs13,hb13⟩
     have HS13:=Lib.hid hs13;have HB13:=Lib.hid hb13;clear hs13 hb13)
   |(go_at_call 25;with_reducible refine (HFI.out _ (Below.refl _ _)).mono ?_;rintro e w12 ⟨a12,c12,rfl,hf12,hb12, -⟩
     have HFX:=Lib.hid hf12;have HB12:=Lib.hid hb12;clear hf12 hb12 q0 q1 q2 q3 q4 q5 q6))
  have HBD:=Lib.hid ((HB12.out.trans ((HB14.out.mono HB12.out.size))):Below wc.heap.size wc w14)
  have HZ14:=Lib.hid (HZC.out.below HBD.out)
  obtain ⟨b9,of9,rfl,hlt9,hc9⟩:=HS13'.out.2 (by decide)
  have HK9:=Lib.hid (show w14.cell? ⟨b9,of9,none⟩=some (.string ⟨#[99,104,117,110,107,101,100]⟩) from hc9 0 (by decide));have HL9:=Lib.hid hlt9;have q0:=HZ14.out.c 0 _ rfl;have q1:=HZ14.out.c 1 _ rfl;have q2:=HZ14.out.c 2 _ rfl;have q3:=HZ14.out.c 3 _ rfl;have q4:=HZ14.out.c 4 _ rfl;have q5:=HZ14.out.c 5 _ rfl;have q6:=HZ14.out.c 6 _ rfl;clear hlt9 hc9;go_wp2_with
   (go_at_call 27;with_reducible refine (HC.out _ HBD.out).mono ?_;rintro e w15 ⟨rfl,hb15⟩
    have k9:=(hb15.cell (p:=⟨b9,of9,none⟩) HL9.out).trans HK9.out
    have HB15:=Lib.hid (Base.below_step HBD.out hb15);clear hb15 q0 q1 q2 q3 q4 q5 q6)
  go_ret;exact ⟨rfl,HBY.out.trans (HB15.out.mono HBY.out.size)⟩
 have HT0:=Lib.hid (show¬0<r.ts.length by rw [Decidable.not_not.1 ht];decide);rw [if_neg ht] at HT1 HT2;rw [decide_eq_false ht] at HC;clear ht;by_cases hb:r.body≠ []
 ·rw [if_pos (.inl hb)] at HT2
  have HBD9:=Lib.hid (show 0<r.body.length from List.length_pos_iff.2 hb);clear hb HMP;have q0:=HZC.out.c 0 _ rfl;have q1:=HZC.out.c 1 _ rfl;have q2:=HZC.out.c 2 _ rfl;have q3:=HZC.out.c 3 _ rfl;have q4:=HZC.out.c 4 _ rfl;have q5:=HZC.out.c 5 _ rfl;have q6:=HZC.out.c 6 _ rfl
  go_upto_region 14 with (first
   |(go_at_call 32;with_reducible refine (HT2.out _ _ _ (HFX.out.below HB13.out)).mono ?_;rintro e w14 ⟨b14,c14,rfl,hs14,hb14⟩
     have HS14:=Lib.hid hs14;have HB14:=Lib.hid (Base.below_step HB13.out hb14);have HS13':=Lib.hid (HS13.out.below hb14);clear hs14 hb14)
   |(go_at_call 32;with_reducible refine (HT1.out _ _ _ HFX.out).mono ?_;rintro e w13 ⟨b13,c13,rfl,hs13,hb13⟩
     have HS13:=Lib.hid hs13;have HB13:=Lib.hid hb13;clear hs13 hb13)
   |(go_at_call 25;with_reducible refine (HFI.out _ (Below.refl _ _)).mono ?_;rintro e w12 ⟨a12,c12,rfl,hf12,hb12, -⟩
     have HFX:=Lib.hid hf12;have HB12:=Lib.hid hb12;clear hf12 hb12 q0 q1 q2 q3 q4 q5 q6))
  have HBD:=Lib.hid ((HB12.out.trans ((HB14.out.mono HB12.out.size))):Below wc.heap.size wc w14)
  have HZ14:=Lib.hid (HZC.out.below HBD.out)
  obtain ⟨bk,of,rfl,hlt9,hc9⟩:=HS14.out.2 (Nat.succ_pos 0)
  have HKC0:=Lib.hid (show w14.cell? ⟨bk,of,none⟩=some (.string (lenV r.body.length)) from hc9 0 (Nat.succ_pos 0));have HKL0:=Lib.hid hlt9;clear hlt9 hc9;obtain ⟨bt,hbt⟩:∃x,x=b13:=⟨_,rfl⟩;obtain ⟨ct,hct⟩:∃x,x=c13:=⟨_,rfl⟩;obtain ⟨cc,hcc⟩:∃x,x=c14:=⟨_,rfl⟩;subst hbt hct hcc;have ht0:=HT0.out;have q5:=HZ14.out.c 5 _ rfl;have q6:=HZ14.out.c 6 _ rfl;have hb0:=HBD9.out;go_upto_region 17 with fail
  clear q5 q6
  have HZD:=Lib.hid (HZ14.out.drew 1);have HBD0:=HBD
  replace HBD:=Lib.hid (Base.below_drewN HBD.out 1)
  have HKC:=Lib.hid (show (w14.drewN 1).cell? ⟨bk,of,none⟩=some (.string (lenV r.body.length)) from HKC0.out)
  have HKL:=Lib.hid (show bk<(w14.drewN 1).heap.size from HKL0.out);refine Each.region_all 24 [88,89,90,91,92,93,94,95,96,97,98,99,100,101,102,103,104,105,106,107,108,109,110,8]
   [fun v _=>v=.agg #[.string M,.string r.x,.int .i64 r.k,.slice fa4 n4 fc4,.bool r.ch,.slice ba r.body.length bc,.slice ta r.ts.length tc],
     fun v _=>v=.bool false,
     fun v _=>v=.bool true,
     fun v _=>v=.bool true,
     Each.When (true) true (fun v _=>v=.slice bt 0 ct),
     Each.When (true) true (fun v _=>v=.int .i64 0),
     Each.When (true) true (fun v _=>v=.bool true),
     fun v _=>v=.bool true,
     fun v _=>v=.bool true,
     Each.When (true) true (fun v _=>v=.slice (some ⟨bk,of,none⟩) 1 cc),
     Each.When (true) true (fun v _=>v=.int .i64 1),
     Each.When (true) true (fun v _=>v=.bool true),
     fun v _=>v=.bool true,
     fun v _=>v=.bool true,
     Each.When (true) true (fun v _=>v=.slice (some ⟨bk,of,none⟩) 1 cc),
     Each.When (true) true (fun v _=>v=.pointer (some ⟨bk,of,none⟩)),
     Each.When (true) true (fun v _=>v=.string (lenV r.body.length)),
     Each.When (true) true (fun v _=>v=.pointer (some ⟨gR,5,none⟩)),
     Each.When (true) true (fun v _=>v=.slice ba r.body.length bc),
     Each.When (true) true (fun v _=>v=.int .i64 (r.body.length:Int)),
     Each.When (true) true (fun v _=>v=.string (lenV r.body.length)),
     Each.When (true) true (fun v _=>v=.bool true),
     fun v _=>v=.bool true,
     fun v _=>v=.bool true]
    (by kernel_rfl) (by kernel_rfl) (by kernel_rfl) (by kernel_rfl) (fun _ _ d _ _ h=>by cases d<;>exact h) (by rfl) (by rfl)
   ⟨Each.Lasts.eq _,Each.Lasts.eq _,Each.Lasts.eq _,Each.Lasts.eq _,Each.Lasts.when (Each.Lasts.eq _),Each.Lasts.when (Each.Lasts.eq _),Each.Lasts.when (Each.Lasts.eq _),Each.Lasts.eq _,Each.Lasts.eq _,Each.Lasts.when (Each.Lasts.eq _),Each.Lasts.when (Each.Lasts.eq _),Each.Lasts.when (Each.Lasts.eq _),Each.Lasts.eq _,Each.Lasts.eq _,Each.Lasts.when (Each.Lasts.eq _),Each.Lasts.when (Each.Lasts.eq _),Each.Lasts.when (Each.Lasts.eq _),Each.Lasts.when (Each.Lasts.eq _),Each.Lasts.when (Each.Lasts.eq _),Each.Lasts.when (Each.Lasts.eq _),Each.Lasts.when (Each.Lasts.eq _),Each.Lasts.when (Each.Lasts.eq _),Each.Lasts.eq _,Each.Lasts.eq _,trivial⟩ ?_ ?_
  ·refine ⟨?_,?_,?_,?_,?_,?_,?_,?_,?_,?_,?_,?_,?_,?_,?_,?_,?_,?_,?_,?_,?_,?_,?_,?_,trivial⟩
   ·refine Each.fine rfl (fun ev w1 hR hb hh=>?_);clear hh;have e9:=hR.old 9 rfl;simp only [Array.getD_eq_getD_getElem?,List.getElem?_toArray,List.getElem?_cons_succ,List.getElem?_cons_zero,Option.getD_some] at e9;have q0:=(HZD.out.below hb).c 0 _ rfl;have q1:=(HZD.out.below hb).c 1 _ rfl;have q2:=(HZD.out.below hb).c 2 _ rfl;have q3:=(HZD.out.below hb).c 3 _ rfl;have q4:=(HZD.out.below hb).c 4 _ rfl;have q5:=(HZD.out.below hb).c 5 _ rfl;have q6:=(HZD.out.below hb).c 6 _ rfl;refine Each.Goes.same ?_;go_simp;try with_reducible rfl
   ·refine Each.fine rfl (fun ev w1 hR hb hh=>?_);have e88:(ev (.tmp 88)=.agg #[.string M,.string r.x,.int .i64 r.k,.slice fa4 n4 fc4,.bool r.ch,.slice ba r.body.length bc,.slice ta r.ts.length tc]):=hh.at 0;clear hh;have ef:=hR.func
    refine Each.Goes.enter 27 #[.agg #[.string M,.string r.x,.int .i64 r.k,.slice fa4 n4 fc4,.bool r.ch,.slice ba r.body.length bc,.slice ta r.ts.length tc]] (by go_simp) ((HC.out w1 (Base.below_step HBD.out hb)).mono ?_);rintro r w2 ⟨rfl,h2⟩;exact ⟨_,rfl,h2,rfl⟩
   ·refine Each.fine rfl (fun ev w1 hR hb hh=>?_);have e89:(ev (.tmp 89)=.bool false):=hh.at 0;clear hh;refine Each.Goes.same ?_;go_simp;try with_reducible rfl
   ·refine Each.fine rfl (fun ev w1 hR hb hh=>?_);have e90:(ev (.tmp 90)=.bool true):=hh.at 0;clear hh;refine Each.Goes.same ?_;go_simp;try with_reducible rfl
   ·refine Each.fine_when 3 91 rfl rfl (fun ev w1 hh=>?_) (fun hg ev w1 hR hb hh=>?_)
    ·exact hh.at 0
    ·clear hh;have e11:=hR.old 11 rfl;simp only [Array.getD_eq_getD_getElem?,List.getElem?_toArray,List.getElem?_cons_succ,List.getElem?_cons_zero,Option.getD_some] at e11;refine Each.Goes.same ?_;go_simp;try with_reducible rfl
   ·refine Each.fine_when 3 91 rfl rfl (fun ev w1 hh=>?_) (fun hg ev w1 hR hb hh=>?_)
    ·exact hh.at 1
    ·have e92:=(show ((true)=true→ev (.tmp 92)=.slice bt 0 ct) from hh.at 0) hg;clear hh;refine Each.Goes.same ?_;go_simp;try with_reducible rfl
   ·refine Each.fine_when 3 91 rfl rfl (fun ev w1 hh=>?_) (fun hg ev w1 hR hb hh=>?_)
    ·exact hh.at 1
    ·have e93:=(show ((true)=true→ev (.tmp 93)=.int .i64 0) from hh.at 0) hg;clear hh;have ec:=hR.const;refine Each.Goes.same ?_;go_simp;try with_reducible rfl
   ·refine Each.fine rfl (fun ev w1 hR hb hh=>?_);have e91:(ev (.tmp 91)=.bool true):=hh.at 0;have h94:((true)=true→ev (.tmp 94)=.bool true):=hh.at 1;clear hh;have ec:=hR.const;refine Each.Goes.same ?_;have e94:=h94 rfl;go_simp;try with_reducible rfl
   ·refine Each.fine rfl (fun ev w1 hR hb hh=>?_);have e95:(ev (.tmp 95)=.bool true):=hh.at 0;clear hh;refine Each.Goes.same ?_;go_simp;try with_reducible rfl
   ·refine Each.fine_when 8 96 rfl rfl (fun ev w1 hh=>?_) (fun hg ev w1 hR hb hh=>?_)
    ·exact hh.at 0
    ·clear hh;have e12:=hR.old 12 rfl;simp only [Array.getD_eq_getD_getElem?,List.getElem?_toArray,List.getElem?_cons_succ,List.getElem?_cons_zero,Option.getD_some] at e12;refine Each.Goes.same ?_;go_simp;try with_reducible rfl
   ·refine Each.fine_when 8 96 rfl rfl (fun ev w1 hh=>?_) (fun hg ev w1 hR hb hh=>?_)
    ·exact hh.at 1
    ·have e97:=(show ((true)=true→ev (.tmp 97)=.slice (some ⟨bk,of,none⟩) 1 cc) from hh.at 0) hg;clear hh;refine Each.Goes.same ?_;go_simp;try with_reducible rfl
   ·refine Each.fine_when 8 96 rfl rfl (fun ev w1 hh=>?_) (fun hg ev w1 hR hb hh=>?_)
    ·exact hh.at 1
    ·have e98:=(show ((true)=true→ev (.tmp 98)=.int .i64 1) from hh.at 0) hg;clear hh;have ec:=hR.const;refine Each.Goes.same ?_;go_simp;try with_reducible rfl
   ·refine Each.fine rfl (fun ev w1 hR hb hh=>?_);have e96:(ev (.tmp 96)=.bool true):=hh.at 0;have h99:((true)=true→ev (.tmp 99)=.bool true):=hh.at 1;clear hh;have ec:=hR.const;refine Each.Goes.same ?_;have e99:=h99 rfl;go_simp;try with_reducible rfl
   ·refine Each.fine rfl (fun ev w1 hR hb hh=>?_);have e100:(ev (.tmp 100)=.bool true):=hh.at 0;clear hh;refine Each.Goes.same ?_;go_simp;try with_reducible rfl
   ·refine Each.fine_when 13 101 rfl rfl (fun ev w1 hh=>?_) (fun hg ev w1 hR hb hh=>?_)
    ·exact hh.at 0
    ·clear hh;have e12:=hR.old 12 rfl;simp only [Array.getD_eq_getD_getElem?,List.getElem?_toArray,List.getElem?_cons_succ,List.getElem?_cons_zero,Option.getD_some] at e12;refine Each.Goes.same ?_;go_simp;try with_reducible rfl
   ·refine Each.fine_when 13 101 rfl rfl (fun ev w1 hh=>?_) (fun hg ev w1 hR hb hh=>?_)
    ·exact hh.at 1
    ·have e102:=(show ((true)=true→ev (.tmp 102)=.slice (some ⟨bk,of,none⟩) 1 cc) from hh.at 0) hg;clear hh;have ec:=hR.const;refine Each.Goes.same ?_;go_simp;try with_reducible rfl
   ·refine Each.fine_when 13 101 rfl rfl (fun ev w1 hh=>?_) (fun hg ev w1 hR hb hh=>?_)
    ·exact hh.at 1
    ·have e103:=(show ((true)=true→ev (.tmp 103)=.pointer (some ⟨bk,of,none⟩)) from hh.at 0) hg;clear hh;have qx:=(hb.cell (p:=⟨bk,of,none⟩) HKL.out).trans HKC.out;refine Each.Goes.same ?_;go_simp;try with_reducible rfl
   ·refine Each.fine_when 13 101 rfl rfl (fun ev w1 hh=>?_) (fun hg ev w1 hR hb hh=>?_)
    ·exact hh.at 0
    ·clear hh;have e9:=hR.old 9 rfl;simp only [Array.getD_eq_getD_getElem?,List.getElem?_toArray,List.getElem?_cons_succ,List.getElem?_cons_zero,Option.getD_some] at e9;refine Each.Goes.same ?_;go_simp;try with_reducible rfl
   ·refine Each.fine_when 13 101 rfl rfl (fun ev w1 hh=>?_) (fun hg ev w1 hR hb hh=>?_)
    ·exact hh.at 1
    ·have e105:=(show ((true)=true→ev (.tmp 105)=.pointer (some ⟨gR,5,none⟩)) from hh.at 0) hg;clear hh;have q5:=(HZD.out.below hb).c 5 _ rfl;refine Each.Goes.same ?_;go_simp;try with_reducible rfl
   ·refine Each.fine_when 13 101 rfl rfl (fun ev w1 hh=>?_) (fun hg ev w1 hR hb hh=>?_)
    ·exact hh.at 1
    ·have e106:=(show ((true)=true→ev (.tmp 106)=.slice ba r.body.length bc) from hh.at 0) hg;clear hh;refine Each.Goes.same ?_;go_simp;try with_reducible rfl
   ·refine Each.fine_when 13 101 rfl rfl (fun ev w1 hh=>?_) (fun hg ev w1 hR hb hh=>?_)
    ·exact hh.at 1
    ·have e107:=(show ((true)=true→ev (.tmp 107)=.int .i64 (r.body.length:Int)) from hh.at 0) hg;clear hh;have ef:=hR.func
     refine Each.Goes.enter 33 #[.int .i64 (r.body.length:Int)] (by go_simp) ((HPU.out w1).mono ?_);rintro r w2 ⟨rfl,m,hw⟩;exact ⟨_,rfl,by rw [hw];exact Base.below_drewN (Below.refl _ _) m,rfl⟩
   ·refine Each.fine_when 13 101 rfl rfl (fun ev w1 hh=>?_) (fun hg ev w1 hR hb hh=>?_)
    ·exact hh.at 2
    ·have e104:=(show ((true)=true→ev (.tmp 104)=.string (lenV r.body.length)) from hh.at 0) hg;have e108:=(show ((true)=true→ev (.tmp 108)=.string (lenV r.body.length)) from hh.at 1) hg;clear hh;refine Each.Goes.same ?_;go_simp;try with_reducible rfl
   ·refine Each.fine rfl (fun ev w1 hR hb hh=>?_);have e101:(ev (.tmp 101)=.bool true):=hh.at 0;have h109:((true)=true→ev (.tmp 109)=.bool true):=hh.at 1;clear hh;have ec:=hR.const;refine Each.Goes.same ?_;have e109:=h109 rfl;go_simp;try with_reducible rfl
   ·refine Each.fine rfl (fun ev w1 hR hb hh=>?_);have e110:(ev (.tmp 110)=.bool true):=hh.at 0;clear hh;refine Each.Goes.same ?_;go_simp;try with_reducible rfl
  intro g1 w17 hb17 hf;have z8:(g1 8=.bool true):=hf.at 23;clear hf;simp only [Each.putg,Act.put,List.setIfInBounds_toArray,List.set_cons_zero,List.set_cons_succ];rw [z8];go_wp2_with fail;go_ret;exact ⟨rfl,HBY.out.trans ((HBD0.out.trans (hb17.mono HBD0.out.size)).mono HBY.out.size)⟩
 have HBD9:=Lib.hid (show¬0<r.body.length by rw [Decidable.not_not.1 hb];decide);by_cases hm:M.data.toList∈posts
 ·rw [if_pos (.inr hm)] at HT2;obtain ⟨j1,j2⟩:=HMP.out.1 hm
  have HJ:=Lib.hid (And.intro (show (1:Int)≤(c:Int) by omega) (show (c:Int)≤3 by omega));clear hb hm HMP j1 j2;have q0:=HZC.out.c 0 _ rfl;have q1:=HZC.out.c 1 _ rfl;have q2:=HZC.out.c 2 _ rfl;have q3:=HZC.out.c 3 _ rfl;have q4:=HZC.out.c 4 _ rfl;have q5:=HZC.out.c 5 _ rfl;have q6:=HZC.out.c 6 _ rfl
  go_upto_region 14 with (first
   |(go_at_call 32;with_reducible refine (HT2.out _ _ _ (HFX.out.below HB13.out)).mono ?_;rintro e w14 ⟨b14,c14,rfl,hs14,hb14⟩
     have HS14:=Lib.hid hs14;have HB14:=Lib.hid (Base.below_step HB13.out hb14);have HS13':=Lib.hid (HS13.out.below hb14);clear hs14 hb14)
   |(go_at_call 32;with_reducible refine (HT1.out _ _ _ HFX.out).mono ?_;rintro e w13 ⟨b13,c13,rfl,hs13,hb13⟩
     have HS13:=Lib.hid hs13;have HB13:=Lib.hid hb13;clear hs13 hb13)
   |(go_at_call 25;with_reducible refine (HFI.out _ (Below.refl _ _)).mono ?_;rintro e w12 ⟨a12,c12,rfl,hf12,hb12, -⟩
     have HFX:=Lib.hid hf12;have HB12:=Lib.hid hb12;clear hf12 hb12 q0 q1 q2 q3 q4 q5 q6))
  have HBD:=Lib.hid ((HB12.out.trans ((HB14.out.mono HB12.out.size))):Below wc.heap.size wc w14)
  have HZ14:=Lib.hid (HZC.out.below HBD.out)
  obtain ⟨bk,of,rfl,hlt9,hc9⟩:=HS14.out.2 (Nat.succ_pos 0)
  have HKC0:=Lib.hid (show w14.cell? ⟨bk,of,none⟩=some (.string (lenV r.body.length)) from hc9 0 (Nat.succ_pos 0));have HKL0:=Lib.hid hlt9;clear hlt9 hc9;obtain ⟨bt,hbt⟩:∃x,x=b13:=⟨_,rfl⟩;obtain ⟨ct,hct⟩:∃x,x=c13:=⟨_,rfl⟩;obtain ⟨cc,hcc⟩:∃x,x=c14:=⟨_,rfl⟩;subst hbt hct hcc;have ht0:=HT0.out;have q5:=HZ14.out.c 5 _ rfl;have q6:=HZ14.out.c 6 _ rfl;have hb0:=HBD9.out;obtain ⟨j1,j2⟩:=HJ.out;obtain ⟨hnc,hc,hc6⟩:=HNC.out;go_upto_region 17 with fail
  clear q5 q6
  have HZD:=Lib.hid (HZ14.out.drew 1);have HBD0:=HBD
  replace HBD:=Lib.hid (Base.below_drewN HBD.out 1)
  have HKC:=Lib.hid (show (w14.drewN 1).cell? ⟨bk,of,none⟩=some (.string (lenV r.body.length)) from HKC0.out)
  have HKL:=Lib.hid (show bk<(w14.drewN 1).heap.size from HKL0.out);refine Each.region_all 24 [88,89,90,91,92,93,94,95,96,97,98,99,100,101,102,103,104,105,106,107,108,109,110,8]
   [fun v _=>v=.agg #[.string M,.string r.x,.int .i64 r.k,.slice fa4 n4 fc4,.bool r.ch,.slice ba r.body.length bc,.slice ta r.ts.length tc],
     fun v _=>v=.bool false,
     fun v _=>v=.bool true,
     fun v _=>v=.bool true,
     Each.When (true) true (fun v _=>v=.slice bt 0 ct),
     Each.When (true) true (fun v _=>v=.int .i64 0),
     Each.When (true) true (fun v _=>v=.bool true),
     fun v _=>v=.bool true,
     fun v _=>v=.bool true,
     Each.When (true) true (fun v _=>v=.slice (some ⟨bk,of,none⟩) 1 cc),
     Each.When (true) true (fun v _=>v=.int .i64 1),
     Each.When (true) true (fun v _=>v=.bool true),
     fun v _=>v=.bool true,
     fun v _=>v=.bool true,
     Each.When (true) true (fun v _=>v=.slice (some ⟨bk,of,none⟩) 1 cc),
     Each.When (true) true (fun v _=>v=.pointer (some ⟨bk,of,none⟩)),
     Each.When (true) true (fun v _=>v=.string (lenV r.body.length)),
     Each.When (true) true (fun v _=>v=.pointer (some ⟨gR,5,none⟩)),
     Each.When (true) true (fun v _=>v=.slice ba r.body.length bc),
     Each.When (true) true (fun v _=>v=.int .i64 (r.body.length:Int)),
     Each.When (true) true (fun v _=>v=.string (lenV r.body.length)),
     Each.When (true) true (fun v _=>v=.bool true),
     fun v _=>v=.bool true,
     fun v _=>v=.bool true]
    (by kernel_rfl) (by kernel_rfl) (by kernel_rfl) (by kernel_rfl) (fun _ _ d _ _ h=>by cases d<;>exact h) (by rfl) (by rfl)
   ⟨Each.Lasts.eq _,Each.Lasts.eq _,Each.Lasts.eq _,Each.Lasts.eq _,Each.Lasts.when (Each.Lasts.eq _),Each.Lasts.when (Each.Lasts.eq _),Each.Lasts.when (Each.Lasts.eq _),Each.Lasts.eq _,Each.Lasts.eq _,Each.Lasts.when (Each.Lasts.eq _),Each.Lasts.when (Each.Lasts.eq _),Each.Lasts.when (Each.Lasts.eq _),Each.Lasts.eq _,Each.Lasts.eq _,Each.Lasts.when (Each.Lasts.eq _),Each.Lasts.when (Each.Lasts.eq _),Each.Lasts.when (Each.Lasts.eq _),Each.Lasts.when (Each.Lasts.eq _),Each.Lasts.when (Each.Lasts.eq _),Each.Lasts.when (Each.Lasts.eq _),Each.Lasts.when (Each.Lasts.eq _),Each.Lasts.when (Each.Lasts.eq _),Each.Lasts.eq _,Each.Lasts.eq _,trivial⟩ ?_ ?_
  ·refine ⟨?_,?_,?_,?_,?_,?_,?_,?_,?_,?_,?_,?_,?_,?_,?_,?_,?_,?_,?_,?_,?_,?_,?_,?_,trivial⟩
   ·refine Each.fine rfl (fun ev w1 hR hb hh=>?_);clear hh;have e9:=hR.old 9 rfl;simp only [Array.getD_eq_getD_getElem?,List.getElem?_toArray,List.getElem?_cons_succ,List.getElem?_cons_zero,Option.getD_some] at e9;have q0:=(HZD.out.below hb).c 0 _ rfl;have q1:=(HZD.out.below hb).c 1 _ rfl;have q2:=(HZD.out.below hb).c 2 _ rfl;have q3:=(HZD.out.below hb).c 3 _ rfl;have q4:=(HZD.out.below hb).c 4 _ rfl;have q5:=(HZD.out.below hb).c 5 _ rfl;have q6:=(HZD.out.below hb).c 6 _ rfl;refine Each.Goes.same ?_;go_simp;try with_reducible rfl
   ·refine Each.fine rfl (fun ev w1 hR hb hh=>?_);have e88:(ev (.tmp 88)=.agg #[.string M,.string r.x,.int .i64 r.k,.slice fa4 n4 fc4,.bool r.ch,.slice ba r.body.length bc,.slice ta r.ts.length tc]):=hh.at 0;clear hh;have ef:=hR.func
    refine Each.Goes.enter 27 #[.agg #[.string M,.string r.x,.int .i64 r.k,.slice fa4 n4 fc4,.bool r.ch,.slice ba r.body.length bc,.slice ta r.ts.length tc]] (by go_simp) ((HC.out w1 (Base.below_step HBD.out hb)).mono ?_);rintro r w2 ⟨rfl,h2⟩;exact ⟨_,rfl,h2,rfl⟩
   ·refine Each.fine rfl (fun ev w1 hR hb hh=>?_);have e89:(ev (.tmp 89)=.bool false):=hh.at 0;clear hh;refine Each.Goes.same ?_;go_simp;try with_reducible rfl
   ·refine Each.fine rfl (fun ev w1 hR hb hh=>?_);have e90:(ev (.tmp 90)=.bool true):=hh.at 0;clear hh;refine Each.Goes.same ?_;go_simp;try with_reducible rfl
   ·refine Each.fine_when 3 91 rfl rfl (fun ev w1 hh=>?_) (fun hg ev w1 hR hb hh=>?_)
    ·exact hh.at 0
    ·clear hh;have e11:=hR.old 11 rfl;simp only [Array.getD_eq_getD_getElem?,List.getElem?_toArray,List.getElem?_cons_succ,List.getElem?_cons_zero,Option.getD_some] at e11;refine Each.Goes.same ?_;go_simp;try with_reducible rfl
   ·refine Each.fine_when 3 91 rfl rfl (fun ev w1 hh=>?_) (fun hg ev w1 hR hb hh=>?_)
    ·exact hh.at 1
    ·have e92:=(show ((true)=true→ev (.tmp 92)=.slice bt 0 ct) from hh.at 0) hg;clear hh;refine Each.Goes.same ?_;go_simp;try with_reducible rfl
   ·refine Each.fine_when 3 91 rfl rfl (fun ev w1 hh=>?_) (fun hg ev w1 hR hb hh=>?_)
    ·exact hh.at 1
    ·have e93:=(show ((true)=true→ev (.tmp 93)=.int .i64 0) from hh.at 0) hg;clear hh;have ec:=hR.const;refine Each.Goes.same ?_;go_simp;try with_reducible rfl
   ·refine Each.fine rfl (fun ev w1 hR hb hh=>?_);have e91:(ev (.tmp 91)=.bool true):=hh.at 0;have h94:((true)=true→ev (.tmp 94)=.bool true):=hh.at 1;clear hh;have ec:=hR.const;refine Each.Goes.same ?_;have e94:=h94 rfl;go_simp;try with_reducible rfl
   ·refine Each.fine rfl (fun ev w1 hR hb hh=>?_);have e95:(ev (.tmp 95)=.bool true):=hh.at 0;clear hh;refine Each.Goes.same ?_;go_simp;try with_reducible rfl
   ·refine Each.fine_when 8 96 rfl rfl (fun ev w1 hh=>?_) (fun hg ev w1 hR hb hh=>?_)
    ·exact hh.at 0
    ·clear hh;have e12:=hR.old 12 rfl;simp only [Array.getD_eq_getD_getElem?,List.getElem?_toArray,List.getElem?_cons_succ,List.getElem?_cons_zero,Option.getD_some] at e12;refine Each.Goes.same ?_;go_simp;try with_reducible rfl
   ·refine Each.fine_when 8 96 rfl rfl (fun ev w1 hh=>?_) (fun hg ev w1 hR hb hh=>?_)
    ·exact hh.at 1
    ·have e97:=(show ((true)=true→ev (.tmp 97)=.slice (some ⟨bk,of,none⟩) 1 cc) from hh.at 0) hg;clear hh;refine Each.Goes.same ?_;go_simp;try with_reducible rfl
   ·refine Each.fine_when 8 96 rfl rfl (fun ev w1 hh=>?_) (fun hg ev w1 hR hb hh=>?_)
    ·exact hh.at 1
    ·have e98:=(show ((true)=true→ev (.tmp 98)=.int .i64 1) from hh.at 0) hg;clear hh;have ec:=hR.const;refine Each.Goes.same ?_;go_simp;try with_reducible rfl
   ·refine Each.fine rfl (fun ev w1 hR hb hh=>?_);have e96:(ev (.tmp 96)=.bool true):=hh.at 0;have h99:((true)=true→ev (.tmp 99)=.bool true):=hh.at 1;clear hh;have ec:=hR.const;refine Each.Goes.same ?_;have e99:=h99 rfl;go_simp;try with_reducible rfl
   ·refine Each.fine rfl (fun ev w1 hR hb hh=>?_);have e100:(ev (.tmp 100)=.bool true):=hh.at 0;clear hh;refine Each.Goes.same ?_;go_simp;try with_reducible rfl
   ·refine Each.fine_when 13 101 rfl rfl (fun ev w1 hh=>?_) (fun hg ev w1 hR hb hh=>?_)
    ·exact hh.at 0
    ·clear hh;have e12:=hR.old 12 rfl;simp only [Array.getD_eq_getD_getElem?,List.getElem?_toArray,List.getElem?_cons_succ,List.getElem?_cons_zero,Option.getD_some] at e12;refine Each.Goes.same ?_;go_simp;try with_reducible rfl
   ·refine Each.fine_when 13 101 rfl rfl (fun ev w1 hh=>?_) (fun hg ev w1 hR hb hh=>?_)
    ·exact hh.at 1
    ·have e102:=(show ((true)=true→ev (.tmp 102)=.slice (some ⟨bk,of,none⟩) 1 cc) from hh.at 0) hg;clear hh;have ec:=hR.const;refine Each.Goes.same ?_;go_simp;try with_reducible rfl
   ·refine Each.fine_when 13 101 rfl rfl (fun ev w1 hh=>?_) (fun hg ev w1 hR hb hh=>?_)
    ·exact hh.at 1
    ·have e103:=(show ((true)=true→ev (.tmp 103)=.pointer (some ⟨bk,of,none⟩)) from hh.at 0) hg;clear hh;have qx:=(hb.cell (p:=⟨bk,of,none⟩) HKL.out).trans HKC.out;refine Each.Goes.same ?_;go_simp;try with_reducible rfl
   ·refine Each.fine_when 13 101 rfl rfl (fun ev w1 hh=>?_) (fun hg ev w1 hR hb hh=>?_)
    ·exact hh.at 0
    ·clear hh;have e9:=hR.old 9 rfl;simp only [Array.getD_eq_getD_getElem?,List.getElem?_toArray,List.getElem?_cons_succ,List.getElem?_cons_zero,Option.getD_some] at e9;refine Each.Goes.same ?_;go_simp;try with_reducible rfl
   ·refine Each.fine_when 13 101 rfl rfl (fun ev w1 hh=>?_) (fun hg ev w1 hR hb hh=>?_)
    ·exact hh.at 1
    ·have e105:=(show ((true)=true→ev (.tmp 105)=.pointer (some ⟨gR,5,none⟩)) from hh.at 0) hg;clear hh;have q5:=(HZD.out.below hb).c 5 _ rfl;refine Each.Goes.same ?_;go_simp;try with_reducible rfl
   ·refine Each.fine_when 13 101 rfl rfl (fun ev w1 hh=>?_) (fun hg ev w1 hR hb hh=>?_)
    ·exact hh.at 1
    ·have e106:=(show ((true)=true→ev (.tmp 106)=.slice ba r.body.length bc) from hh.at 0) hg;clear hh;refine Each.Goes.same ?_;go_simp;try with_reducible rfl
   ·refine Each.fine_when 13 101 rfl rfl (fun ev w1 hh=>?_) (fun hg ev w1 hR hb hh=>?_)
    ·exact hh.at 1
    ·have e107:=(show ((true)=true→ev (.tmp 107)=.int .i64 (r.body.length:Int)) from hh.at 0) hg;clear hh;have ef:=hR.func
     refine Each.Goes.enter 33 #[.int .i64 (r.body.length:Int)] (by go_simp) ((HPU.out w1).mono ?_);rintro r w2 ⟨rfl,m,hw⟩;exact ⟨_,rfl,by rw [hw];exact Base.below_drewN (Below.refl _ _) m,rfl⟩
   ·refine Each.fine_when 13 101 rfl rfl (fun ev w1 hh=>?_) (fun hg ev w1 hR hb hh=>?_)
    ·exact hh.at 2
    ·have e104:=(show ((true)=true→ev (.tmp 104)=.string (lenV r.body.length)) from hh.at 0) hg;have e108:=(show ((true)=true→ev (.tmp 108)=.string (lenV r.body.length)) from hh.at 1) hg;clear hh;refine Each.Goes.same ?_;go_simp;try with_reducible rfl
   ·refine Each.fine rfl (fun ev w1 hR hb hh=>?_);have e101:(ev (.tmp 101)=.bool true):=hh.at 0;have h109:((true)=true→ev (.tmp 109)=.bool true):=hh.at 1;clear hh;have ec:=hR.const;refine Each.Goes.same ?_;have e109:=h109 rfl;go_simp;try with_reducible rfl
   ·refine Each.fine rfl (fun ev w1 hR hb hh=>?_);have e110:(ev (.tmp 110)=.bool true):=hh.at 0;clear hh;refine Each.Goes.same ?_;go_simp;try with_reducible rfl
  intro g1 w17 hb17 hf;have z8:(g1 8=.bool true):=hf.at 23;clear hf;simp only [Each.putg,Act.put,List.setIfInBounds_toArray,List.set_cons_zero,List.set_cons_succ];rw [z8];go_wp2_with fail;go_ret;exact ⟨rfl,HBY.out.trans ((HBD0.out.trans (hb17.mono HBD0.out.size)).mono HBY.out.size)⟩
 ·rw [if_neg (fun x=>x.elim hb hm)] at HT2
  have HJ:=Lib.hid (show c=0∨4≤c by
   by_cases h:1≤c∧c≤3
   ·exact absurd (HMP.out.2 h) hm
   ·omega)
  clear hb hm HMP HPU;have q0:=HZC.out.c 0 _ rfl;have q1:=HZC.out.c 1 _ rfl;have q2:=HZC.out.c 2 _ rfl;have q3:=HZC.out.c 3 _ rfl;have q4:=HZC.out.c 4 _ rfl;have q5:=HZC.out.c 5 _ rfl;have q6:=HZC.out.c 6 _ rfl
  go_upto_region 14 with (first
   |(go_at_call 32;with_reducible refine (HT2.out _ _ _ (HFX.out.below HB13.out)).mono ?_;rintro e w14 ⟨b14,c14,rfl,hs14,hb14⟩
     have HS14:=Lib.hid hs14;have HB14:=Lib.hid (Base.below_step HB13.out hb14);have HS13':=Lib.hid (HS13.out.below hb14);clear hs14 hb14)
   |(go_at_call 32;with_reducible refine (HT1.out _ _ _ HFX.out).mono ?_;rintro e w13 ⟨b13,c13,rfl,hs13,hb13⟩
     have HS13:=Lib.hid hs13;have HB13:=Lib.hid hb13;clear hs13 hb13)
   |(go_at_call 25;with_reducible refine (HFI.out _ (Below.refl _ _)).mono ?_;rintro e w12 ⟨a12,c12,rfl,hf12,hb12, -⟩
     have HFX:=Lib.hid hf12;have HB12:=Lib.hid hb12;clear hf12 hb12 q0 q1 q2 q3 q4 q5 q6))
  have HBD:=Lib.hid ((HB12.out.trans ((HB14.out.mono HB12.out.size))):Below wc.heap.size wc w14)
  have HZ14:=Lib.hid (HZC.out.below HBD.out);have ht0:=HT0.out;have hb0:=HBD9.out;have q5:=HZ14.out.c 5 _ rfl;have q6:=HZ14.out.c 6 _ rfl;rcases HJ.out with rfl | j4
  ·obtain ⟨hnc,hc,hc6⟩:=HNC.out;go_wp2_with fail;go_ret;exact ⟨rfl,HBY.out.trans (HBD.out.mono HBY.out.size)⟩
  ·obtain ⟨hnc,hc,hc6⟩:=HNC.out;have j1:(1:Int)≤(c:Int):=by omega
   have j2:¬(c:Int)≤3:=by omega
   go_wp2_with fail;go_ret;exact ⟨rfl,HBY.out.trans (HBD.out.mono HBY.out.size)⟩
end code
end Go.Proofs.YtldhlecknfomjaaGreatDoor.Can
