import Derived.Test.YtnabkcglnbdfeaaGreatDoorFer
namespace Go.Proofs.YtnabkcglnbdfeaaGreatDoor.Flt
open Go.RowKit Base Txt Mem Par Pg Each
section code
set_option maxHeartbeats 4000000
set_option maxRecDepth 20000
attribute [local go_sem] Base.some_undef
variable {w:World} {B g g1 g2 p:Nat} {b:Bd} {L1 L2:List (Option Nat)} {f:F}
theorem verdict_any (g:Nat) (e:Nat) (h:w.cell? ⟨g,2,none⟩=some (.int .i64 (e:Int))):Calls Tryz.prog 38 #[.pointer (some ⟨g,2,none⟩)] w fun r w'=>r=.returned (.int .i64 (if e=0 then 1 else 2))∧w'=w:=by
 by_cases h0:e=0
 ·subst h0;rw [if_pos rfl];go_enter Tryz.func38,Tryz.ntmps38;go_wp2;go_ret;exact ⟨rfl,rfl⟩
 ·rw [if_neg h0]
  have t1:((e:Int)==0)=false:=beq_eq_false_iff_ne.2 (by omega);go_enter Tryz.func38,Tryz.ntmps38;go_wp2;go_ret;exact ⟨rfl,rfl⟩
theorem code_any (g:Nat) (e:Nat) (h:w.cell? ⟨g,2,none⟩=some (.int .i64 (e:Int))):Calls Tryz.prog 39 #[.pointer (some ⟨g,2,none⟩)] w fun r w'=>r=.returned (.int .i64 (e:Int))∧w'=w:=by go_enter Tryz.func39,Tryz.ntmps39;go_wp2;go_ret;exact ⟨rfl,rfl⟩
theorem parted_any (g:Nat) (e:Bool) (h:w.cell? ⟨g,3,none⟩=some (.bool e)):Calls Tryz.prog 40 #[.pointer (some ⟨g,2,none⟩)] w fun r w'=>r=.returned (.bool e)∧w'=w:=by go_enter Tryz.func40,Tryz.ntmps40;go_wp2;go_ret;exact ⟨rfl,rfl⟩
theorem FAt.c (h:FAt w B g g1 g2 p b L1 L2 f):w.cell? ⟨g,0,none⟩=some (ptr g1)∧w.cell? ⟨g,1,none⟩=some (ptr g2)∧w.cell? ⟨g,2,none⟩=some (.int .i64 (f.code:Int))∧w.cell? ⟨g,3,none⟩=some (.bool f.parted):=
 ⟨row_cellL h.row rfl,row_cellL h.row rfl,row_cellL h.row rfl,row_cellL h.row rfl⟩
theorem judge_any (g g1 g2 e:Nat) (pt:Bool) (s l:Nat) (al:Bool) (h:w.heap[g]?=some (.cells (fcells g1 g2 e pt).toArray 80 (0,0))) (f:F) (he:f.code=e) (hp:f.parted=pt) :
 Calls Tryz.prog 127 #[.pointer (some ⟨g,2,none⟩),.int .i64 (s:Int),.int .i64 (l:Int),.bool al] w fun r w'=>r=.returned (.tuple #[])∧w'.heap[g]?=some (.cells (fcells g1 g2 (f.judge s l al).code (f.judge s l al).parted).toArray 80 (0,0))∧Keeps [some g] w w':=by
 have c2:=row_cellL h (k:=2) rfl;have z2:=Ln.row_frozen h 2;have c3:=row_cellL h (k:=3) rfl;have z3:=Ln.row_frozen h 3
 have HP:=fun (x y:Value)=>Lib.hid (show ((w.setCell ⟨g,2,none⟩ x).setCell ⟨g,3,none⟩ y).heap[g]?=some (.cells ([ptr g1,ptr g2,x,y]:List Value).toArray 80 (0,0)) from row_setL (row_setL h 2 x) 3 y)
 have HK:=fun (x y:Value)=>Lib.hid (show Keeps [some g] w ((w.setCell ⟨g,2,none⟩ x).setCell ⟨g,3,none⟩ y) from (Keeps.set g 2 x (by simp)).trans (Keeps.set g 3 y (by simp)) Of.refl);have H0:=Lib.hid h;unfold F.judge;clear h;by_cases hs:s=0
 ·subst hs;have hs':¬(0:Nat)≠0:=fun hn=>hn rfl;simp only [if_neg hs'];clear hs';by_cases hl:l=0
  ·subst hl;have e2:((0:Nat)==0)=true:=rfl;rw [e2];cases al with
   | true=>
     simp only [Bool.not_true,Bool.or_self,Bool.false_eq_true,if_false,he,hp];clear he hp e2;rw [show (((0:Nat):Int))=0 from rfl];go_enter Tryz.func127,Tryz.ntmps127;go_wp2;first | go_end0 | skip
     exact ⟨rfl,H0.out,Keeps.refl⟩
   | false=>
     simp only [Bool.not_true,Bool.not_false,Bool.or_true,if_true];clear he hp e2;rw [show (((0:Nat):Int))=0 from rfl];go_enter Tryz.func127,Tryz.ntmps127;go_wp2;first | go_end0 | skip
     exact ⟨rfl,(HP _ _).out,(HK _ _).out⟩
  ·have t2:((l:Int)==0)=false:=beq_eq_false_iff_ne.2 (by omega);have n2:((l:Int) != 0)=true:=by show (!((l:Int)==0))=true;rw [t2];rfl
   have e2:(l==0)=false:=beq_eq_false_iff_ne.2 hl;rw [e2];simp only [Bool.not_false,Bool.true_or,if_true];clear hl he hp e2;rw [show (((0:Nat):Int))=0 from rfl];go_enter Tryz.func127,Tryz.ntmps127;go_wp2;first | go_end0 | skip
   exact ⟨rfl,(HP _ _).out,(HK _ _).out⟩
 ·have t1:((s:Int)==0)=false:=beq_eq_false_iff_ne.2 (by omega);have n1:((s:Int) != 0)=true:=by show (!((s:Int)==0))=true;rw [t1];rfl
  have hs':s≠0:=hs;simp only [if_pos hs'];have e2:(l==0)=((l:Int)==0):=by rw [Bool.eq_iff_iff,beq_iff_eq,beq_iff_eq];omega
  rw [e2];clear hs hs' he hp e2;go_enter Tryz.func127,Tryz.ntmps127;go_wp2;first | go_end0 | skip
  exact ⟨rfl,(HP _ _).out,(HK _ _).out⟩
abbrev Has (B g p:Nat) (b:Bd) (X:Q):World→List (Option Nat)→Prop:=fun w L=>∃Z,At w ⟨B,Z⟩ g p b L X
theorem told_err (x:Q):x.told.err=x.err:=by cases x<;>rfl
theorem look_any (hp:p<4294967296) (h:FAt w B g g1 g2 p b L1 L2 f) (Z:List (Option Nat)) (hZ:Clear w Z (fblks g L1 L2)) (a:Option Addr) (c:Nat) (ch:UInt8) (hbt:Bts (fblks g L1 L2) w a [ch]) :
 Calls Tryz.prog 86 #[ptr g,.slice a 1 c] w fun r w'=>∃v M1 M2,r=.returned v∧FAt w' B g g1 g2 p b M1 M2 (f.look p b ch).1∧Pg.Told (fblks g M1 M2) ⟨B,Z⟩ w' v (f.look p b ch).2∧Step (fblks g L1 L2) (fblks g M1 M2) w w':=by
 obtain ⟨X',hX⟩:∃X',f.x.byte 0 b ch=X':=⟨_,rfl⟩;obtain ⟨Y',hY⟩:∃Y',f.y.byte p b ch=Y':=⟨_,rfl⟩;have hdw:Below w.heap.size w (w.drewN 1):=Base.below_drewN (Below.refl w.heap.size w) 1;have HX:=Lib.hid hX;have HY:=Lib.hid hY;have HXO:=Lib.hid h.xo;have HYO:=Lib.hid h.yo;have HXK:=Lib.hid h.xk;have HYK:=Lib.hid h.yk
 have HTA:=Lib.hid (show Thing (Has B g1 0 b f.x) (Has B g1 0 b X'.told) from obj_at (B:=⟨B,[]⟩) h.xo (told_out _))
 have HTC:=Lib.hid (show Thing (Has B g2 p b f.y) (Has B g2 p b Y'.told) from obj_at (B:=⟨B,[]⟩) h.yo (told_out _))
 have HA0:=Lib.hid (show Has B g1 0 b f.x w L1 from h.x);have HC0:=Lib.hid (show Has B g2 p b f.y w L2 from h.y);have HD:=Lib.hid h.dis;have HN1:=Lib.hid h.n1;have HN2:=Lib.hid h.n2;have HZC:=Lib.hid hZ;have HGE:=Lib.hid h.ge
 have HF0:=Lib.hid (show Fix (L1++L2) w g (fcells g1 g2 f.code f.parted) from ⟨⟨_,h.row⟩,fun hm=>(List.mem_append.1 hm).elim h.n1 h.n2⟩)
 have HF:=Lib.hid (HF0.out.below (Keeps.of_below hdw));have HROW:=Lib.hid h.row
 have HIN:=Lib.hid (show∀k,some k∈L1++L2→k<(w.drewN 1).heap.size from fun k hk=>h.in k (List.mem_cons_of_mem _ hk))
 have HGL:=Lib.hid (show g<(w.drewN 1).heap.size from Ln.row_lt h.row)
 have HBT:=Lib.hid (show Bts (L1++L2) (w.drewN 1) a [ch] from bts_keeps (bts_sub hbt fun k hk=>List.mem_cons_of_mem _ hk) (Keeps.of_below hdw));have elk:f.look p b ch=(F.judge ⟨X'.told,Y'.told,f.code,f.parted⟩ X'.err Y'.err (Rec.all X'.out Y'.out),if Rec.all X'.out Y'.out=true then X'.out else []):=by unfold F.look;rw [hX,hY]
 have HFX:=Lib.hid (show Fits X'.out from hX ▸ byte_fits (by rw [h.xo];intro r hr;cases hr) h.xk ch)
 have HFY:=Lib.hid (show Fits Y'.out from hY ▸ byte_fits (by rw [h.yo];intro r hr;cases hr) h.yk ch)
 have HKX:=Lib.hid (show X'.told.Ok b from hX ▸ told_ok (Q.Ok.byte h.xk ch));have HKY:=Lib.hid (show Y'.told.Ok b from hY ▸ told_ok (Q.Ok.byte h.yk ch))
 have HLX:=Lib.hid (show X'.out.length≤2 from hX ▸ (by have:=Q.byte_out (p:=0) (b:=b) f.x ch;rw [h.xo] at this;simpa using this));have HLY:=Lib.hid (show Y'.out.length≤2 from hY ▸ (by have:=Q.byte_out (p:=p) (b:=b) f.y ch;rw [h.yo] at this;simpa using this));obtain ⟨al,hal⟩:∃al,Rec.all X'.out Y'.out=al:=⟨_,rfl⟩;rw [elk,hal];have HAL5:=Lib.hid hal;clear h hZ hbt hX hY elk hdw hal;go_enter Tryz.func86,Tryz.ntmps86;go_upto_region 1 with fail
 refine Each.region_two 18 [8,9,10,11,12,13,14,15,16,17,18,19,20,21,22,23,5,6]
  [fun v _=>v=.pointer (some ⟨g,0,none⟩),
    fun v _=>v=.pointer (some ⟨g,0,none⟩),
    fun v _=>v=.pointer (some ⟨g,0,none⟩),
    fun v _=>v=.pointer (some ⟨g,0,none⟩),
    fun v _=>v=.pointer (some ⟨g1,0,none⟩),
    fun v _=>v=.slice a 1 c,
    OneBy (L1++L2) a c,
    ToldBy (Has B g1 0 b X'.told) (Has B g2 p b f.y) (Has B g2 p b Y'.told) L2 (some g::Z) B X'.out,
    fun v _=>v=.pointer (some ⟨g,0,none⟩),
    fun v _=>v=.pointer (some ⟨g,0,none⟩),
    fun v _=>v=.pointer (some ⟨g,0,none⟩),
    fun v _=>v=.pointer (some ⟨g,1,none⟩),
    fun v _=>v=.pointer (some ⟨g2,0,none⟩),
    fun v _=>v=.slice a 1 c,
    OneBy (L1++L2) a c,
    ToldBy (Has B g2 p b Y'.told) (Has B g1 0 b f.x) (Has B g1 0 b X'.told) L1 (some g::Z) B Y'.out,
    ToldBy (Has B g1 0 b X'.told) (Has B g2 p b f.y) (Has B g2 p b Y'.told) L2 (some g::Z) B X'.out,
    ToldBy (Has B g2 p b Y'.told) (Has B g1 0 b f.x) (Has B g1 0 b X'.told) L1 (some g::Z) B Y'.out]
  7 15 HTA.out HTC.out HA0.out HC0.out HD.out (by kernel_rfl) (by kernel_rfl) (by kernel_rfl) (by kernel_rfl) (fun _ _ d _ _ h=>by cases d<;>exact h) (by rfl) (by rfl) (by rfl)
  ⟨(Each.LastsTwo.pure _ _),(Each.LastsTwo.pure _ _),(Each.LastsTwo.pure _ _),(Each.LastsTwo.pure _ _),(Each.LastsTwo.pure _ _),(Each.LastsTwo.pure _ _),OneBy.lasts,ToldBy.first HTA.out HTC.out (.inl rfl),(Each.LastsTwo.pure _ _),(Each.LastsTwo.pure _ _),(Each.LastsTwo.pure _ _),(Each.LastsTwo.pure _ _),(Each.LastsTwo.pure _ _),(Each.LastsTwo.pure _ _),OneBy.lasts,ToldBy.second HTA.out HTC.out (.inl rfl),ToldBy.first HTA.out HTC.out (.inr (by rfl)),ToldBy.second HTA.out HTC.out (.inr (by rfl)),trivial⟩ ?_ ?_
 ·refine ⟨?_,?_,?_,?_,?_,?_,?_,?_,?_,?_,?_,?_,?_,?_,?_,?_,?_,?_,trivial⟩
  ·refine Each.fine_two (by decide) (by decide) rfl (fun ev w1 hR hb hh=>?_);clear hh;have e0:=hR.old 0 rfl;simp only [Array.getD_eq_getD_getElem?,List.getElem?_toArray,List.getElem?_cons_zero,Option.getD_some] at e0;refine Each.Goes.same ?_;go_simp;try with_reducible rfl
  ·refine Each.fine_two (by decide) (by decide) rfl (fun ev w1 hR hb hh=>?_);have e8:(ev (.tmp 8)=.pointer (some ⟨g,0,none⟩)):=hh.at 0;clear hh;refine Each.Goes.same ?_;go_simp;try with_reducible rfl
  ·refine Each.fine_two (by decide) (by decide) rfl (fun ev w1 hR hb hh=>?_);have e9:(ev (.tmp 9)=.pointer (some ⟨g,0,none⟩)):=hh.at 0;clear hh;refine Each.Goes.same ?_;go_simp;try with_reducible rfl
  ·refine Each.fine_two (by decide) (by decide) rfl (fun ev w1 hR hb hh=>?_);have e10:(ev (.tmp 10)=.pointer (some ⟨g,0,none⟩)):=hh.at 0;clear hh;refine Each.Goes.same ?_;go_simp;try with_reducible rfl
  ·refine Each.fine_two (by decide) (by decide) rfl (fun ev w1 hR hb hh=>?_);have e11:(ev (.tmp 11)=.pointer (some ⟨g,0,none⟩)):=hh.at 0;clear hh;have q0:=(HF.out.below hb).c 0 _ rfl;refine Each.Goes.same ?_;go_simp;try with_reducible rfl
  ·refine Each.fine_two (by decide) (by decide) rfl (fun ev w1 hR hb hh=>?_);clear hh;have e1:=hR.old 1 rfl;simp only [Array.getD_eq_getD_getElem?,List.getElem?_toArray,List.getElem?_cons_succ,List.getElem?_cons_zero,Option.getD_some] at e1;refine Each.Goes.same ?_;go_simp;try with_reducible rfl
  ·refine Each.fine_two (by decide) (by decide) rfl (fun ev w1 hR hb hh=>?_);have e13:(ev (.tmp 13)=.slice a 1 c):=hh.at 0;clear hh
   exact Each.Goes.value (.slice (some ⟨w1.heap.size,0,none⟩) 1 1) (w1.alloc (.cells #[.slice a 1 c] 22)) (by go_simp) ((Below.refl _ _).alloc (Nat.le_refl _) _) (OneBy.made HIN.out hb a c _)
  ·refine Each.fine_first rfl (fun ev w1 M2 hR hb hA hC hd hh=>?_);have e12:(ev (.tmp 12)=.pointer (some ⟨g1,0,none⟩)):=hh.at 0;have e14:((OneBy (L1++L2) a c) (ev (.tmp 14)) w1):=hh.at 1;clear hh;have ef:=hR.func;obtain ⟨k,ek,hkl,hkn,hkc⟩:=e14;obtain ⟨Z1,hA⟩:=hA;have hsz:=hb.size;have hi2:In w1 L2:=fun k hk=>Nat.lt_of_lt_of_le (HIN.out k (List.mem_append_right _ hk)) hsz
   have hcl:Clear w1 (L2++(M2++(some g::Z))) L1:=clear_app (clear_dis hi2 HD.out) (clear_app (clear_dis (HTC.out.in hC) hd) (clear_cons (Nat.lt_of_lt_of_le HGL.out hsz) HN1.out ⟨fun k hk=>Nat.lt_of_lt_of_le (HZC.out.inz k hk) hsz,fun k hk=>HZC.out.off k (List.mem_cons_of_mem _ (List.mem_append_left _ hk))⟩));have hbt:Bts L1 w1 a [ch]:=bts_sub (bts_keeps HBT.out hb) fun k hk=>List.mem_append_left _ hk
   refine Each.GoesR.enter 20 #[ptr g1,.slice (some ⟨k,0,none⟩) 1 1] (by go_simp) ((feed_one (p:=0) (by decide) hA HXO.out HXK.out k hkc hkl (fun hm=>hkn (List.mem_append_left _ hm)) hbt _ hcl).mono ?_);rintro r w2 ⟨v,N1,rfl,h1,h2,h3⟩;rw [HX.out] at h1 h2;exact ⟨v,rfl,⟨N1,⟨_,h1⟩,h3⟩,N1,M2,⟨_,h1⟩,HTC.out.now hC h3.keeps hd.symm,(HD.out.symm.of hi2 h3.of).symm,h2⟩
  ·refine Each.fine_two (by decide) (by decide) rfl (fun ev w1 hR hb hh=>?_);clear hh;have e0:=hR.old 0 rfl;simp only [Array.getD_eq_getD_getElem?,List.getElem?_toArray,List.getElem?_cons_zero,Option.getD_some] at e0;refine Each.Goes.same ?_;go_simp;try with_reducible rfl
  ·refine Each.fine_two (by decide) (by decide) rfl (fun ev w1 hR hb hh=>?_);have e16:(ev (.tmp 16)=.pointer (some ⟨g,0,none⟩)):=hh.at 0;clear hh;refine Each.Goes.same ?_;go_simp;try with_reducible rfl
  ·refine Each.fine_two (by decide) (by decide) rfl (fun ev w1 hR hb hh=>?_);have e17:(ev (.tmp 17)=.pointer (some ⟨g,0,none⟩)):=hh.at 0;clear hh;refine Each.Goes.same ?_;go_simp;try with_reducible rfl
  ·refine Each.fine_two (by decide) (by decide) rfl (fun ev w1 hR hb hh=>?_);have e18:(ev (.tmp 18)=.pointer (some ⟨g,0,none⟩)):=hh.at 0;clear hh;refine Each.Goes.same ?_;go_simp;try with_reducible rfl
  ·refine Each.fine_two (by decide) (by decide) rfl (fun ev w1 hR hb hh=>?_);have e19:(ev (.tmp 19)=.pointer (some ⟨g,1,none⟩)):=hh.at 0;clear hh;have q1:=(HF.out.below hb).c 1 _ rfl;refine Each.Goes.same ?_;go_simp;try with_reducible rfl
  ·refine Each.fine_two (by decide) (by decide) rfl (fun ev w1 hR hb hh=>?_);clear hh;have e1:=hR.old 1 rfl;simp only [Array.getD_eq_getD_getElem?,List.getElem?_toArray,List.getElem?_cons_succ,List.getElem?_cons_zero,Option.getD_some] at e1;refine Each.Goes.same ?_;go_simp;try with_reducible rfl
  ·refine Each.fine_two (by decide) (by decide) rfl (fun ev w1 hR hb hh=>?_);have e21:(ev (.tmp 21)=.slice a 1 c):=hh.at 0;clear hh
   exact Each.Goes.value (.slice (some ⟨w1.heap.size,0,none⟩) 1 1) (w1.alloc (.cells #[.slice a 1 c] 22)) (by go_simp) ((Below.refl _ _).alloc (Nat.le_refl _) _) (OneBy.made HIN.out hb a c _)
  ·refine Each.fine_second (by decide) rfl (fun ev w1 M1 hR hb hC hA hd hh=>?_);have e20:(ev (.tmp 20)=.pointer (some ⟨g2,0,none⟩)):=hh.at 0;have e22:((OneBy (L1++L2) a c) (ev (.tmp 22)) w1):=hh.at 1;clear hh;have ef:=hR.func;obtain ⟨k,ek,hkl,hkn,hkc⟩:=e22;obtain ⟨Z1,hC⟩:=hC;have hsz:=hb.size;have hi2:In w1 L1:=fun k hk=>Nat.lt_of_lt_of_le (HIN.out k (List.mem_append_left _ hk)) hsz
   have hcl:Clear w1 (L1++(M1++(some g::Z))) L2:=clear_app (clear_dis hi2 HD.out.symm) (clear_app (clear_dis (HTA.out.in hA) hd) (clear_cons (Nat.lt_of_lt_of_le HGL.out hsz) HN2.out ⟨fun k hk=>Nat.lt_of_lt_of_le (HZC.out.inz k hk) hsz,fun k hk=>HZC.out.off k (List.mem_cons_of_mem _ (List.mem_append_right _ hk))⟩));have hbt:Bts L2 w1 a [ch]:=bts_sub (bts_keeps HBT.out hb) fun k hk=>List.mem_append_right _ hk
   refine Each.GoesR.enter 20 #[ptr g2,.slice (some ⟨k,0,none⟩) 1 1] (by go_simp) ((feed_one hp hC HYO.out HYK.out k hkc hkl (fun hm=>hkn (List.mem_append_right _ hm)) hbt _ hcl).mono ?_);rintro r w2 ⟨v,N1,rfl,h1,h2,h3⟩;rw [HY.out] at h1 h2;exact ⟨v,rfl,⟨N1,⟨_,h1⟩,h3⟩,N1,M1,⟨_,h1⟩,HTA.out.now hA h3.keeps hd.symm,(HD.out.of hi2 h3.of).symm,h2⟩
  ·refine Each.fine_two (by decide) (by decide) rfl (fun ev w1 hR hb hh=>?_);have e15:((ToldBy (Has B g1 0 b X'.told) (Has B g2 p b f.y) (Has B g2 p b Y'.told) L2 (some g::Z) B X'.out) (ev (.tmp 15)) w1):=hh.at 0;clear hh;exact Each.Goes.value (ev (.tmp 15)) w1 (by go_simp) (Below.refl _ _) e15
  ·refine Each.fine_two (by decide) (by decide) rfl (fun ev w1 hR hb hh=>?_);have e23:((ToldBy (Has B g2 p b Y'.told) (Has B g1 0 b f.x) (Has B g1 0 b X'.told) L1 (some g::Z) B Y'.out) (ev (.tmp 23)) w1):=hh.at 0;clear hh;exact Each.Goes.value (ev (.tmp 23)) w1 (by go_simp) (Below.refl _ _) e23
 intro ga w2 M1 M2 hA hC hd hof1 hof2 hb hf;have z5:(ToldBy (Has B g1 0 b X'.told) (Has B g2 p b f.y) (Has B g2 p b Y'.told) L2 (some g::Z) B X'.out) (ga 5) w2:=hf.at 16;have z6:(ToldBy (Has B g2 p b Y'.told) (Has B g1 0 b f.x) (Has B g1 0 b X'.told) L1 (some g::Z) B Y'.out) (ga 6) w2:=hf.at 17;clear hf;obtain ⟨N1,K2,hA5,hC5,hd5,ht5⟩:=z5;obtain ⟨N2,K1,hA6,hC6,hd6,ht6⟩:=z6;have u1:N1=M1:=HTA.out.uniq (.inr hA5) hA;have u2:N2=M2:=HTC.out.uniq (.inr hA6) hC;have u3:K2=M2:=HTC.out.uniq hC5 hC;have u4:K1=M1:=HTA.out.uniq hC6 hA;subst u1 u2 u3 u4;obtain ⟨a5,c5,e5,hr5⟩:=told_recs ht5;obtain ⟨a6,c6,e6,hr6⟩:=told_recs ht6;have hk2:Keeps (fblks g L1 L2) w w2:=hb.mono fun k hk=>List.mem_cons_of_mem _ hk;have hn1:some g∉K1:=fun hm=>by
  rcases hof1 g hm with e | e
  ·exact HN1.out e
  ·exact absurd HGL.out (Nat.not_lt.2 e)
 have hn2:some g∉K2:=fun hm=>by
  rcases hof2 g hm with e | e
  ·exact HN2.out e
  ·exact absurd HGL.out (Nat.not_lt.2 e)
 have hof:Of w (fblks g L1 L2) (fblks g K1 K2):=fun k hk=>by
  simp only [List.mem_cons,List.mem_append] at hk ⊢;rcases hk with hk | hk | hk
  ·exact .inl (.inl hk)
  ·exact (hof1 k hk).imp (fun e=>.inr (.inl e)) id
  ·exact (hof2 k hk).imp (fun e=>.inr (.inr e)) id
 have HOF:=Lib.hid hof
 have HS2:=Lib.hid (show Step (fblks g L1 L2) (fblks g K1 K2) w w2 from ⟨hk2,hof⟩)
 have HFA:=Lib.hid (show FAt w2 B g g1 g2 p b K1 K2 ⟨X'.told,Y'.told,f.code,f.parted⟩ from ⟨hb.row HROW.out HF0.out.off,hA5,hA6,hd,hn1,hn2,HGE.out,told_out _,told_out _,HKX.out,HKY.out⟩);have HT5:=Lib.hid ht5;have HR5:=Lib.hid hr5;have HR6:=Lib.hid hr6;clear hA hC hd hof1 hof2 hb hA5 hC5 hd5 hA6 hC6 hd6 ht6 hr5 hr6 hn1 hn2 hof hk2;simp only [Each.putg,Act.put,List.setIfInBounds_toArray,List.set_cons_zero,List.set_cons_succ];rw [e5,e6];obtain ⟨n5,hn5⟩:∃n,X'.out.length=n:=⟨_,rfl⟩;obtain ⟨n6,hn6⟩:∃n,Y'.out.length=n:=⟨_,rfl⟩
 have HALL:=Lib.hid (show Calls Tryz.prog 107 #[.slice a5 n5 c5,.slice a6 n6 c6] w2 fun e w'=>e=.returned (.bool al)∧Below w2.heap.size w2 w' from by rw [←hn5,←hn6,←HAL5.out];exact Rec.all_any a5 X'.out.length c5 X'.out a6 Y'.out.length c6 Y'.out w2 HR5.out HR6.out (by have:=HLX.out;omega) (by have:=HLY.out;omega) HFX.out HFY.out)
 rw [hn5,hn6];rw [e5,hn5] at HT5;have HN5:=Lib.hid hn5;clear hn5 hn6 e5 e6
 go_upto_region 3 with (go_at_call 107;with_reducible refine HALL.out.mono ?_;rintro r w3 ⟨rfl,hb3⟩)
 have HFA3:=Lib.hid (HFA.out.keeps (Keeps.of_below hb3:Keeps [] w2 w3) (fun _ _ hm=>by cases hm))
 have HT3:=Lib.hid (HT5.out.keeps (Keeps.of_below hb3:Keeps [] w2 w3) (fun _ hm=>by cases hm))
 have HS3:=Lib.hid (HS2.out.trans (Step.of_below hb3));clear hb3;obtain ⟨Zx,hx3⟩:=HFA3.out.x;obtain ⟨Zy,hy3⟩:=HFA3.out.y;have hdw:Below w3.heap.size w3 (w3.drewN 1):=Base.below_drewN (Below.refl w3.heap.size w3) 1
 have HX3:=Lib.hid (hx3.below hdw);have HY3:=Lib.hid (hy3.below hdw)
 have HF3:=Lib.hid ((show Rec.Bk w3 g (fcells g1 g2 f.code f.parted) from ⟨fun _ _ hu=>row_cellL HFA3.out.row hu,fun k _=>Ln.row_frozen HFA3.out.row k,Ln.row_lt HFA3.out.row⟩).below hdw);clear hx3 hy3 hdw;refine Each.region 20 [27,28,29,30,31,32,33,34,35,36,37,38,39,40,41,42,43,44,45,46]
  [fun v _=>v=.pointer (some ⟨g,0,none⟩),
    fun v _=>v=.pointer (some ⟨g,0,none⟩),
    fun v _=>v=.pointer (some ⟨g,2,none⟩),
    fun v _=>v=.pointer (some ⟨g,0,none⟩),
    fun v _=>v=.pointer (some ⟨g,0,none⟩),
    fun v _=>v=.pointer (some ⟨g,0,none⟩),
    fun v _=>v=.pointer (some ⟨g,0,none⟩),
    fun v _=>v=.pointer (some ⟨g1,0,none⟩),
    fun v _=>v=.pointer (some ⟨g1,0,none⟩),
    fun v _=>v=.pointer (some ⟨g1,0,none⟩),
    fun v _=>v=.int .i64 (X'.err:Int),
    fun v _=>v=.pointer (some ⟨g,0,none⟩),
    fun v _=>v=.pointer (some ⟨g,0,none⟩),
    fun v _=>v=.pointer (some ⟨g,0,none⟩),
    fun v _=>v=.pointer (some ⟨g,1,none⟩),
    fun v _=>v=.pointer (some ⟨g2,0,none⟩),
    fun v _=>v=.pointer (some ⟨g2,0,none⟩),
    fun v _=>v=.pointer (some ⟨g2,0,none⟩),
    fun v _=>v=.int .i64 (Y'.err:Int),
    fun v _=>v=(.bool al)]
  (.act 20 .done) (by kernel_rfl) (by kernel_rfl) (by kernel_rfl) (by kernel_rfl) (fun _ _ d _ _ h=>by cases d<;>exact h) (by rfl) (by rfl)
  ⟨Each.Lasts.eq _,Each.Lasts.eq _,Each.Lasts.eq _,Each.Lasts.eq _,Each.Lasts.eq _,Each.Lasts.eq _,Each.Lasts.eq _,Each.Lasts.eq _,Each.Lasts.eq _,Each.Lasts.eq _,Each.Lasts.eq _,Each.Lasts.eq _,Each.Lasts.eq _,Each.Lasts.eq _,Each.Lasts.eq _,Each.Lasts.eq _,Each.Lasts.eq _,Each.Lasts.eq _,Each.Lasts.eq _,Each.Lasts.eq _,trivial⟩ ?_ ?_
 ·refine ⟨?_,?_,?_,?_,?_,?_,?_,?_,?_,?_,?_,?_,?_,?_,?_,?_,?_,?_,?_,?_,trivial⟩
  ·refine Each.fine rfl (fun ev w1 hR hb hh=>?_);clear hh;have e0:=hR.old 0 rfl;simp only [Array.getD_eq_getD_getElem?,List.getElem?_toArray,List.getElem?_cons_zero,Option.getD_some] at e0;refine Each.Goes.same ?_;go_simp;try with_reducible rfl
  ·refine Each.fine rfl (fun ev w1 hR hb hh=>?_);have e27:(ev (.tmp 27)=.pointer (some ⟨g,0,none⟩)):=hh.at 0;clear hh;refine Each.Goes.same ?_;go_simp;try with_reducible rfl
  ·refine Each.fine rfl (fun ev w1 hR hb hh=>?_);have e28:(ev (.tmp 28)=.pointer (some ⟨g,0,none⟩)):=hh.at 0;clear hh;refine Each.Goes.same ?_;go_simp;try with_reducible rfl
  ·refine Each.fine rfl (fun ev w1 hR hb hh=>?_);clear hh;have e0:=hR.old 0 rfl;simp only [Array.getD_eq_getD_getElem?,List.getElem?_toArray,List.getElem?_cons_zero,Option.getD_some] at e0;refine Each.Goes.same ?_;go_simp;try with_reducible rfl
  ·refine Each.fine rfl (fun ev w1 hR hb hh=>?_);have e30:(ev (.tmp 30)=.pointer (some ⟨g,0,none⟩)):=hh.at 0;clear hh;refine Each.Goes.same ?_;go_simp;try with_reducible rfl
  ·refine Each.fine rfl (fun ev w1 hR hb hh=>?_);have e31:(ev (.tmp 31)=.pointer (some ⟨g,0,none⟩)):=hh.at 0;clear hh;refine Each.Goes.same ?_;go_simp;try with_reducible rfl
  ·refine Each.fine rfl (fun ev w1 hR hb hh=>?_);have e32:(ev (.tmp 32)=.pointer (some ⟨g,0,none⟩)):=hh.at 0;clear hh;refine Each.Goes.same ?_;go_simp;try with_reducible rfl
  ·refine Each.fine rfl (fun ev w1 hR hb hh=>?_);have e33:(ev (.tmp 33)=.pointer (some ⟨g,0,none⟩)):=hh.at 0;clear hh;have q0:=(HF3.out.below hb).c 0 _ rfl;refine Each.Goes.same ?_;go_simp;try with_reducible rfl
  ·refine Each.fine rfl (fun ev w1 hR hb hh=>?_);have e34:(ev (.tmp 34)=.pointer (some ⟨g1,0,none⟩)):=hh.at 0;clear hh;refine Each.Goes.same ?_;go_simp;try with_reducible rfl
  ·refine Each.fine rfl (fun ev w1 hR hb hh=>?_);have e35:(ev (.tmp 35)=.pointer (some ⟨g1,0,none⟩)):=hh.at 0;clear hh;refine Each.Goes.same ?_;go_simp;try with_reducible rfl
  ·refine Each.fine rfl (fun ev w1 hR hb hh=>?_);have e36:(ev (.tmp 36)=.pointer (some ⟨g1,0,none⟩)):=hh.at 0;clear hh;have ef:=hR.func
   refine Each.Goes.enter 23 #[ptr g1] (by go_simp) ((errq_any (HX3.out.below hb)).mono ?_);rintro r w2 ⟨rfl,hw⟩;rw [hw];exact ⟨_,rfl,Below.refl _ _,by rw [told_err]⟩
  ·refine Each.fine rfl (fun ev w1 hR hb hh=>?_);clear hh;have e0:=hR.old 0 rfl;simp only [Array.getD_eq_getD_getElem?,List.getElem?_toArray,List.getElem?_cons_zero,Option.getD_some] at e0;refine Each.Goes.same ?_;go_simp;try with_reducible rfl
  ·refine Each.fine rfl (fun ev w1 hR hb hh=>?_);have e38:(ev (.tmp 38)=.pointer (some ⟨g,0,none⟩)):=hh.at 0;clear hh;refine Each.Goes.same ?_;go_simp;try with_reducible rfl
  ·refine Each.fine rfl (fun ev w1 hR hb hh=>?_);have e39:(ev (.tmp 39)=.pointer (some ⟨g,0,none⟩)):=hh.at 0;clear hh;refine Each.Goes.same ?_;go_simp;try with_reducible rfl
  ·refine Each.fine rfl (fun ev w1 hR hb hh=>?_);have e40:(ev (.tmp 40)=.pointer (some ⟨g,0,none⟩)):=hh.at 0;clear hh;refine Each.Goes.same ?_;go_simp;try with_reducible rfl
  ·refine Each.fine rfl (fun ev w1 hR hb hh=>?_);have e41:(ev (.tmp 41)=.pointer (some ⟨g,1,none⟩)):=hh.at 0;clear hh;have q1:=(HF3.out.below hb).c 1 _ rfl;refine Each.Goes.same ?_;go_simp;try with_reducible rfl
  ·refine Each.fine rfl (fun ev w1 hR hb hh=>?_);have e42:(ev (.tmp 42)=.pointer (some ⟨g2,0,none⟩)):=hh.at 0;clear hh;refine Each.Goes.same ?_;go_simp;try with_reducible rfl
  ·refine Each.fine rfl (fun ev w1 hR hb hh=>?_);have e43:(ev (.tmp 43)=.pointer (some ⟨g2,0,none⟩)):=hh.at 0;clear hh;refine Each.Goes.same ?_;go_simp;try with_reducible rfl
  ·refine Each.fine rfl (fun ev w1 hR hb hh=>?_);have e44:(ev (.tmp 44)=.pointer (some ⟨g2,0,none⟩)):=hh.at 0;clear hh;have ef:=hR.func
   refine Each.Goes.enter 23 #[ptr g2] (by go_simp) ((errq_any (HY3.out.below hb)).mono ?_);rintro r w2 ⟨rfl,hw⟩;rw [hw];exact ⟨_,rfl,Below.refl _ _,by rw [told_err]⟩
  ·refine Each.fine rfl (fun ev w1 hR hb hh=>?_);clear hh;have e7:=hR.old 7 rfl;simp only [Array.getD_eq_getD_getElem?,List.getElem?_toArray,List.getElem?_cons_succ,List.getElem?_cons_zero,Option.getD_some] at e7;refine Each.Goes.same ?_;go_simp;try with_reducible rfl
 intro gb w4 hb hf;have z29:(gb 29=.pointer (some ⟨g,2,none⟩)):=hf.at 2;have z37:(gb 37=.int .i64 (X'.err:Int)):=hf.at 10;have z45:(gb 45=.int .i64 (Y'.err:Int)):=hf.at 18;have z46:(gb 46=(.bool al)):=hf.at 19;clear hf;simp only [Each.putg,Act.put,List.setIfInBounds_toArray,List.set_cons_zero,List.set_cons_succ];rw [z29,z37,z45,z46];simp only [Tree.grow,Tree.put1,List.getElem?_cons_zero,List.getElem?_cons_succ]
 have HFA4:=Lib.hid (HFA3.out.keeps (Keeps.of_below hb:Keeps [] w3 w4) (fun _ _ hm=>by cases hm))
 have HT4:=Lib.hid (HT3.out.keeps (Keeps.of_below hb:Keeps [] w3 w4) (fun _ hm=>by cases hm))
 have HS4:=Lib.hid (HS3.out.trans (Step.of_below hb));clear hb
 have HJ:=Lib.hid (judge_any g g1 g2 f.code f.parted X'.err Y'.err al HFA4.out.row ⟨X'.told,Y'.told,f.code,f.parted⟩ rfl rfl)
 refine Tree.change (by rfl) (fun K hK=>?_)
 refine Each.oper_enter (g:=127) (args:=#[.pointer (some ⟨g,2,none⟩),.int .i64 (X'.err:Int),.int .i64 (Y'.err:Int),.bool al]) (by go_simp) (HJ.out.mono ?_);rintro r w5 ⟨rfl,hrow5,hk5⟩;refine ⟨_,rfl,hK _ _ trivial (Tree.done ?_)⟩;clear hK K;have hd5:Dis (K1++K2) [some g]:=fun k hk hm=>by
  have e:k=g:=by simpa using hm
  rw [e] at hk;exact (List.mem_append.1 hk).elim HFA4.out.n1 HFA4.out.n2
 have e1:(F.judge ⟨X'.told,Y'.told,f.code,f.parted⟩ X'.err Y'.err al).x=X'.told:=by unfold F.judge;split<;> (try split)<;>rfl
 have e2:(F.judge ⟨X'.told,Y'.told,f.code,f.parted⟩ X'.err Y'.err al).y=Y'.told:=by unfold F.judge;split<;> (try split)<;>rfl
 have HFA5:=Lib.hid (show FAt w5 B g g1 g2 p b K1 K2 (F.judge ⟨X'.told,Y'.told,f.code,f.parted⟩ X'.err Y'.err al) from
  ⟨hrow5,by rw [e1];exact HFA4.out.x.imp fun _ h1=>h1.keeps (told_out _) hk5 fun k hk=>hd5 k (List.mem_append_left _ hk),by rw [e2];exact HFA4.out.y.imp fun _ h1=>h1.keeps (told_out _) hk5 fun k hk=>hd5 k (List.mem_append_right _ hk),HFA4.out.dis,HFA4.out.n1,HFA4.out.n2,HGE.out,by rw [e1];exact told_out _,by rw [e2];exact told_out _,by rw [e1];exact HKX.out,by rw [e2];exact HKY.out⟩)
 have HT6:=Lib.hid (told_widen (L':=fblks g K1 K2) (HT4.out.keeps hk5 (fun k hk=>by
  have e:k=g:=by simpa using hk
  rw [e];simp)) (fun k hk=>by
  simp only [List.mem_cons,List.mem_append] at hk ⊢;rcases hk with hk | hk | hk
  ·exact .inr (.inr (.inr (.inl hk)))
  ·exact .inl hk
  ·exact .inr (.inr (.inl hk))))
 have HT7:=Lib.hid (HT6.out.rezone (Z:=Z) fun k hk=>.inl (by simp [hk]))
 have HS5:=Lib.hid (HS4.out.trans (⟨hk5.mono (fun k hk=>by
  have e:k=g:=by simpa using hk
  rw [e];simp),Of.refl⟩:Step (fblks g K1 K2) (fblks g K1 K2) w4 w5))
 clear hrow5 hk5 hd5 e1 e2;cases al with
 | true=>
   go_wp2;go_ret;exact ⟨_,rfl,K1,K2,HFA5.out,HT7.out,HS5.out⟩
 | false=>
   go_wp2;go_ret;exact ⟨_,rfl,K1,K2,HFA5.out,told_nil _ _ _,HS5.out⟩
end code
end Go.Proofs.YtnabkcglnbdfeaaGreatDoor.Flt
namespace Go.Proofs.YtnabkcglnbdfeaaGreatDoor.Flt
open Go.RowKit Base Txt Mem Par Pg Each
section
variable {w w' w0 w1:World} {B g g1 g2 p:Nat} {b:Bd} {L L' L1 L2 N1 N2 M1 M2 Z:List (Option Nat)} {f f':F} {V U:Value} {out out2:List Rec.R}
theorem look_len (hx:f.x.out= []) (c:UInt8):(f.look p b c).2.length≤2:=by
 show (if Rec.all (f.x.byte 0 b c).out (f.y.byte p b c).out=true then (f.x.byte 0 b c).out else []).length≤2;split
 ·have:=Q.byte_out (p:=0) (b:=b) f.x c;rw [hx] at this;simpa using this
 ·simp
theorem outs_step {B:Zone} (h:Outs (V.ownBlock::L) B w V out) (hs:Step L L' w w') (ho:∀k,V.ownBlock=some k→some k∉L):Outs (V.ownBlock::L') B w' V out:=by
 obtain ⟨ps,h1,h2,h3⟩:=h;refine ⟨ps,h1,fun x hx=>⟨(h2 x hx).1,?_⟩,hs.keeps.own h3 ho⟩;have e1:=(h2 x hx).2
 have e2:=e1.keeps (hs.keeps.mono fun k hk=>List.mem_cons_of_mem _ hk);refine ⟨e2.reads,fun k hb=>⟨fun hm=>?_,(e2.far k hb).2⟩,e1.off⟩;rcases List.mem_cons.1 hm with e | e
 ·exact (e1.far k hb).1 (by rw [e];exact List.mem_cons_self ..)
 ·rcases hs.of k e with e | e
  ·exact (e1.far k hb).1 (List.mem_cons_of_mem _ e)
  ·have:=(e1.far k hb).2;omega
theorem outs_append {b0 b1:Nat} (h:Outs (V.ownBlock::L) ⟨b0,Z⟩ w V out) (h':Outs (V.ownBlock::L) ⟨b1,Z⟩ w U out2) (hn:out.length+out2.length≤1000000000) (hb:b0≤w.heap.size) :
 ∃V' w',(Builtin.append_ #[39,39] 39 #[V,U]).run Tryz.prog w=.ok V' w'∧Outs (V'.ownBlock::L) ⟨b0,Z⟩ w' V' (out++out2)∧Keeps [V.ownBlock] w w'∧(V'.ownBlock=V.ownBlock∨V'.ownBlock=some w.heap.size):=by
 obtain ⟨ps,h1,h2,h3⟩:=h;obtain ⟨qs,g1,g2,g3⟩:=h';obtain ⟨iR,hi,hz0,hz1,hz2⟩:=info_parts record_info;have hlen:(qs.flatMap (·.1.toList)).length=out2.length*7:=by
  rw [←g1,List.length_map];have:∀rs:List (Array Value × Rec.R),(∀x∈rs,x.1.size=7)→(rs.flatMap (·.1.toList)).length=rs.length*7:=fun rs=>by
   induction rs with
   | nil=>intro _;rfl
   | cons x rs ih=>
     intro hx;rw [List.flatMap_cons,List.length_append,ih fun y hy=>hx y (by simp [hy]),Array.length_toList,hx x (by simp),List.length_cons];omega
  exact this qs fun x hx=>(g2 x hx).1
 obtain ⟨a,c,eU, -⟩:=Ln.own_slice g3;subst eU;have hone:∀u∈qs.flatMap (·.1.toList),u.oneCell'=true:=by
  intro u hu;obtain ⟨x,hx,hu⟩:=List.mem_flatMap.1 hu;obtain ⟨fa,fc,ba,bc,ta,tc,e, -, -, -⟩:=(g2 x hx).2.reads;have e:x.1= #[.string x.2.m,.string x.2.x,.int .i64 x.2.k,.slice fa x.2.fs.length fc,.bool x.2.ch,.slice ba x.2.body.length bc,.slice ta x.2.ts.length tc]:=by injection e
  rw [e] at hu;simp only [List.mem_cons,List.not_mem_nil,or_false] at hu;rcases hu with rfl | rfl | rfl | rfl | rfl | rfl | rfl<;>rfl
 obtain ⟨V',w',hrun,ho,hgr,hor⟩:=App.run_append_list w 39 39 b0 58 iR (.agg #[.string ByteArray.empty,.string ByteArray.empty,.int .i64 0,.slice none 0 0,.bool false,.slice none 0 0,.slice none 0 0]) 7 120 Tryz.underlying39 hi hz0 hz1 hz2 rfl (by decide) V out.length (ps.flatMap (·.1.toList)) h3 a out2.length c (qs.flatMap (·.1.toList)) hlen
  (fun h0=>by
    obtain ⟨bk,cf,hform, -,hlt⟩:=g3.form h0;simp only [Value.slice.injEq,true_and] at hform;obtain ⟨rfl,rfl⟩:=hform
    exact ⟨bk,0,rfl,fun j u hu=>by
     have hj:j<(qs.flatMap (·.1.toList)).length:=(List.getElem?_eq_some_iff.1 hu).1;rw [Nat.zero_add]
     exact (g3.cellAt j (by rw [hlen] at hj;omega)).trans hu⟩)
  hone (by unfold maxLen;omega) (by omega) hb
 have hk:Keeps [V.ownBlock] w w':=Keeps.grown hgr fun k e=>by rw [e];exact List.mem_singleton.2 rfl
 refine ⟨V',w',hrun,⟨ps++qs,by rw [List.map_append,h1,g1],fun x hx=>?_,by rw [List.length_append,List.flatMap_append];exact ho⟩,hk,hor⟩
 have hx2:x.1.size=7∧Far (V.ownBlock::L) Z w (.agg x.1) x.2:=(List.mem_append.1 hx).elim (h2 x) (g2 x);refine ⟨hx2.1,?_⟩;have e1:=hx2.2
 have e2:=e1.keeps (hk.mono fun k hk=>by rw [List.mem_singleton.1 hk];exact List.mem_cons_self ..);refine ⟨e2.reads,fun k hb=>⟨fun hm=>?_,(e2.far k hb).2⟩,e1.off⟩;rcases List.mem_cons.1 hm with e | e
 ·rcases hor with e3 | e3
  ·exact (e1.far k hb).1 (by rw [e,e3];exact List.mem_cons_self ..)
  ·rw [e3] at e;have:=(e1.far k hb).2;cases e;omega
 ·exact (e1.far k hb).1 (List.mem_cons_of_mem _ e)
structure FS (w0:World) (B g g1 g2 p:Nat) (b:Bd) (Z L1 L2:List (Option Nat)) (f:F) (V:Value) (out:List Rec.R) (N1 N2:List (Option Nat)) (w:World):Prop where
 fat:FAt w B g g1 g2 p b N1 N2 f
 outs:Outs (V.ownBlock::fblks g N1 N2) ⟨w0.heap.size,Z⟩ w V out
 far:∀k,V.ownBlock=some k→some k∉fblks g N1 N2
 zone:Clear w Z (V.ownBlock::fblks g N1 N2)
 keeps:Keeps (fblks g L1 L2) w0 w
 of:Of w0 (fblks g L1 L2) (fblks g N1 N2)
theorem FS.start (h:FAt w B g g1 g2 p b L1 L2 f) (hz:Clear w Z (fblks g L1 L2)):FS w B g g1 g2 p b Z L1 L2 f (.slice none 0 0) [] L1 L2 w:=
 ⟨h,⟨[],rfl,(by intro x hx;cases hx),World.ownsRow_nil _ _ _ _⟩,(fun k e=>by cases e),clear_sub hz (fun k hk=>by
   rcases List.mem_cons.1 hk with e | e
   ·cases e
   ·exact e),Keeps.refl,Of.refl⟩
theorem FS.off (h:FS w0 B g g1 g2 p b Z L1 L2 f V out N1 N2 w):Clear w (V.ownBlock::Z) (fblks g N1 N2):=by
 obtain ⟨ps,h1,h2,h3⟩:=h.outs;refine ⟨fun k hk=>?_,fun k hk hz=>?_⟩
 ·rcases List.mem_cons.1 hk with e | e
  ·exact (World.ownsRow.lt h3 k e.symm).2
  ·exact h.zone.inz k e
 ·rcases List.mem_cons.1 hz with e | e
  ·exact h.far k e.symm hk
  ·exact h.zone.off k (List.mem_cons_of_mem _ hk) e
theorem FS.next (h:FS w0 B g g1 g2 p b Z L1 L2 f V out N1 N2 w) (hf:FAt w1 B g g1 g2 p b M1 M2 f') (ht:Pg.Told (fblks g M1 M2) ⟨B,V.ownBlock::Z⟩ w1 U out2) (hs:Step (fblks g N1 N2) (fblks g M1 M2) w w1) (hn:out.length+out2.length≤1000000000) :
 ∃V' w2,(Builtin.append_ #[39,39] 39 #[V,U]).run Tryz.prog w1=.ok V' w2∧FS w0 B g g1 g2 p b Z L1 L2 f' V' (out++out2) M1 M2 w2:=by
 have o1:=outs_step h.outs hs h.far;obtain ⟨qs,q1,q2,q3⟩:=ht.outs
 have o2:Outs (V.ownBlock::fblks g M1 M2) ⟨B,Z⟩ w1 U out2:=⟨qs,q1,fun x hx=>⟨(q2 x hx).1,(q2 x hx).2.reads,fun k hb=>⟨fun hm=>by
  rcases List.mem_cons.1 hm with e | e
  ·exact (q2 x hx).2.off k hb (by rw [e];exact List.mem_cons_self ..)
  ·exact ((q2 x hx).2.far k hb).1 e,((q2 x hx).2.far k hb).2⟩,fun k hb hz=>(q2 x hx).2.off k hb (List.mem_cons_of_mem _ hz)⟩,q3⟩
 have hsz:=Nat.le_trans h.keeps.size hs.keeps.size;obtain ⟨V',w2,hrun,o3,hk,hor⟩:=outs_append o1 o2 hn hsz;have hVb:∀k,V.ownBlock=some k→w0.heap.size≤k∧k<w.heap.size:=fun k e=>by obtain ⟨ps, -, -,h3⟩:=h.outs;exact World.ownsRow.lt h3 k e
 have hVM:∀k,V.ownBlock=some k→some k∉fblks g M1 M2:=fun k e hm=>by
  rcases hs.of k hm with e1 | e1
  ·exact h.far k e e1
  ·have:=(hVb k e).2;omega
 have hV'M:∀k,V'.ownBlock=some k→some k∉fblks g M1 M2:=fun k e hm=>by
  rcases hor with e1 | e1
  ·exact hVM k (e1 ▸ e) hm
  ·rw [e1] at e;cases e;have:=hf.in _ hm;omega
 have hdis:Dis (fblks g M1 M2) [V.ownBlock]:=fun k hk hm=>by
  have e:some k=V.ownBlock:=by simpa using hm
  exact hVM k e.symm hk
 refine ⟨V',w2,hrun,hf.keeps hk hdis,o3,hV'M,⟨fun k hz=>Nat.lt_of_lt_of_le (h.zone.inz k hz) (Nat.le_trans hs.keeps.size hk.size),fun k hk' hz=>?_⟩,(h.keeps.trans hs.keeps h.of).trans hk (fun k hk=>.inr ?_),h.of.trans hs.of h.keeps.size⟩
 ·rcases List.mem_cons.1 hk' with e | e
  ·rcases hor with e1 | e1
   ·exact h.zone.off k (by rw [e,e1];exact List.mem_cons_self ..) hz
   ·rw [e1] at e;have:=h.zone.inz k hz;have:=hs.keeps.size;cases e;omega
  ·rcases hs.of k e with e1 | e1
   ·exact h.zone.off k (List.mem_cons_of_mem _ e1) hz
   ·have:=h.zone.inz k hz;omega
 ·have e:some k=V.ownBlock:=by simpa using hk
  exact (hVb k e.symm).1
end
end Go.Proofs.YtnabkcglnbdfeaaGreatDoor.Flt
namespace Go.Proofs.YtnabkcglnbdfeaaGreatDoor.Flt
open Go.RowKit Base Txt Mem Par Pg Each
structure PartsC (L:List (Option Nat)) (w:World) (a:Option Addr) (ls:List (List UInt8)):Prop where
 cells:0<ls.length→∃bk off,a=some ⟨bk,off,none⟩∧bk<w.heap.size∧some bk∉L∧∀k (hk:k<ls.length),∃ak ck,w.cell? ⟨bk,off+k,none⟩=some (.slice ak ls[k].length ck)∧ls[k].length≤ck∧(ls[k]≠ []→Bts L w ak ls[k])
theorem bts_at {L:List (Option Nat)} {w:World} {zb zo:Nat} {l:List UInt8} (h:Bts L w (some ⟨zb,zo,none⟩) l) (i:Nat) (hi:i<l.length):Bts L w (some ⟨zb,zo+i,none⟩) [l[i]]:=by
 obtain ⟨b0,o0,e,hlt,hc⟩:=h.nums.2 (by omega);cases e;refine ⟨⟨rfl,fun _=>⟨zb,zo+i,rfl,hlt,fun k hk=>?_⟩⟩,fun ad e=>?_⟩
 ·obtain rfl:k=0:=by
   have:k<1:=hk;omega
  have:=hc i hi;rw [show zo+i+0=zo+i by omega,this];simp [hi]
 ·have e:ad=⟨zb,zo+i,none⟩:=by simpa using e.symm
  rw [e];exact h.far ⟨zb,zo,none⟩ rfl
section code
set_option maxHeartbeats 4000000
set_option maxRecDepth 20000
attribute [local go_sem] Base.some_undef
variable {w:World} {B g g1 g2 p:Nat} {b:Bd} {L1 L2:List (Option Nat)} {f:F}
theorem feed_len (p:Nat) (b:Bd):∀(l:List UInt8) (f:F),f.x.out= []→(F.feed p b f l).2.length≤2*l.length∧(F.feed p b f l).1.x.out= []
 | [],f,h=>⟨Nat.zero_le _,h⟩
 | c::l,f,h=>by
   have h1:(f.byte p b c).2.length≤2∧(f.byte p b c).1.x.out= []:=by
    unfold F.byte;split
    ·refine ⟨look_len h c,?_⟩;show (F.judge _ _ _ _).x.out= [];unfold F.judge;split
     ·exact told_out _
     ·split<;>exact told_out _
    ·exact ⟨Nat.zero_le _,h⟩
   obtain ⟨h2,h3⟩:=feed_len p b l (f.byte p b c).1 h1.2;refine ⟨?_,h3⟩
   show ((f.byte p b c).2++(F.feed p b (f.byte p b c).1 l).2).length≤2*(l.length+1);rw [List.length_append];omega
theorem feed_any (hp:p<4294967296) (h:FAt w B g g1 g2 p b L1 L2 f) (Z:List (Option Nat)) (hZ:Clear w Z (fblks g L1 L2)) (a:Option Addr) (ca:Nat) (ls:List (List UInt8)) (hl:PartsC (fblks g L1 L2) w a ls) (hn:ls.length≤1000000) (hlen:ls.flatten.length≤400000000) :
 Calls Tryz.prog 36 #[ptr g,.slice a ls.length ca] w fun r w'=>∃V,r=.returned V∧∃M1 M2,FS w B g g1 g2 p b Z L1 L2 (F.feed p b f ls.flatten).1 V (F.feed p b f ls.flatten).2 M1 M2 w':=by
 have HL:=Lib.hid hl;have HOU:=Lib.hid hlen;have HXO:=Lib.hid h.xo
 have HS0:=Lib.hid (FS.start h hZ);obtain ⟨R,hR⟩:∃R,F.feed p b f ls.flatten=R:=⟨_,rfl⟩;rw [hR];have HR:=Lib.hid hR;obtain ⟨n,hnn⟩:∃n,ls.length=n:=⟨_,rfl⟩;have HN:=Lib.hid hnn;have hn1:n≤1000000:=by omega
 rw [hnn];clear h hl hlen hn hnn hZ hR;go_enter Tryz.func36,Tryz.ntmps36;go_upto_region 3 with fail
 go_loopw [5,11] (fun V i wr=>∃k:Nat,k≤n∧i=.int .i64 k∧Hid (∃N1 N2,FS w B g g1 g2 p b Z L1 L2 (F.feed p b f (ls.take k).flatten).1 V (F.feed p b f (ls.take k).flatten).2 N1 N2 wr)) (fun _ i _=>n-(intOf i).toNat)
 case atStart=>exact ⟨0,Nat.zero_le _,rfl,Lib.hid ⟨L1,L2,HS0.out⟩⟩
 case round=>
  obtain ⟨k,hk,rfl,hR⟩:=hrel;rcases Nat.lt_or_ge k n with hlt | hge
  ·obtain ⟨N1,N2,hA⟩:=hR.out;have hkl:k<ls.length:=by rw [HN.out];exact hlt
   obtain ⟨bk,off,rfl,hbk,hnb,hc⟩:=HL.out.cells (by have:=HN.out;omega);obtain ⟨ak,ck,hcell0,hcap,hB⟩:=hc k hkl;have hcell:=(hA.keeps.cell (p:=⟨bk,off+k,none⟩) hbk hnb).trans hcell0;clear hcell0;have htk:(ls.take (k+1)).flatten=(ls.take k).flatten++ls[k]:=by rw [List.take_succ_eq_append_getElem hkl,List.flatten_append];simp
   have hsum:(ls.take (k+1)).flatten.length≤ls.flatten.length:=by have:=congrArg List.length (congrArg List.flatten (List.take_append_drop (k+1) ls));rw [List.flatten_append,List.length_append] at this;omega
   rw [htk,List.length_append] at hsum;have t1:(k:Int)<(n:Int):=by omega
   have HTK:=Lib.hid htk;obtain ⟨pl,hpl⟩:∃pl,ls[k]=pl:=⟨_,rfl⟩;rw [hpl] at hcell hcap hB hsum HTK;have hpb:pl.length≤1000000000:=by have:=HOU.out;omega
   obtain ⟨m,hm⟩:∃m,pl.length=m:=⟨_,rfl⟩;rw [hm] at hcell hcap hpb hsum;have HM:=Lib.hid hm;obtain ⟨q,hq⟩:∃q,(ls.take k).flatten=q:=⟨_,rfl⟩;rw [hq] at hA hsum HTK;have hsum2:q.length+m≤400000000:=by have:=HOU.out;omega
   have HSUM:=Lib.hid hsum2;have HQ:=Lib.hid hq;have HA:=Lib.hid hA;have HB:=Lib.hid hB;have HCAP:=Lib.hid hcap;clear hA hB hcap hq hsum hsum2 htk hpl hm hc hR hnb hbk;go_upto_region 6 with fail
   clear hcell;obtain ⟨wA,hwA⟩:∃x,x=wr:=⟨_,rfl⟩;subst hwA
   go_loopw [5,17] (fun V j wq=>∃i:Nat,i≤m∧j=.int .i64 i∧Hid (∃N1 N2,FS w B g g1 g2 p b Z L1 L2 (F.feed p b f (q++pl.take i)).1 V (F.feed p b f (q++pl.take i)).2 N1 N2 wq)) (fun _ j _=>m-(intOf j).toNat)
   case atStart=>exact ⟨0,Nat.zero_le _,rfl,Lib.hid ⟨N1,N2,by rw [List.take_zero,List.append_nil];exact HA.out⟩⟩
   case round=>
    obtain ⟨i,hi,rfl,hR2⟩:=hrel;obtain ⟨V,hV0⟩:∃x,x=u5:=⟨_,rfl⟩;subst hV0;rcases Nat.lt_or_ge i m with hilt | hige
    ·obtain ⟨P1,P2,hA2⟩:=hR2.out;have hil:i<pl.length:=by rw [HM.out];exact hilt
     have hti:pl.take (i+1)=pl.take i ++ [pl[i]]:=List.take_succ_eq_append_getElem hil;obtain ⟨f2,hf2⟩:∃f2,(F.feed p b f (q++pl.take i)).1=f2:=⟨_,rfl⟩;obtain ⟨o2,ho2⟩:∃o2,(F.feed p b f (q++pl.take i)).2=o2:=⟨_,rfl⟩;have hol:=(feed_len p b (q++pl.take i) f HXO.out).1;rw [ho2,List.length_append,List.length_take] at hol;have hol2:o2.length≤800000002:=by have:=HSUM.out;omega
     rw [hf2,ho2] at hA2;obtain ⟨c0,c1,c2,c3⟩:=hA2.fat.c;by_cases hcd:f2.code=0
     ·have hbq:=(HB.out (fun e=>by rw [e] at hil;exact absurd hil (Nat.not_lt_zero _))).step ⟨hA2.keeps,hA2.of⟩
      obtain ⟨zb,zo,rfl,hzb,hz⟩:=hbq.nums.2 (by omega);obtain ⟨c,hc⟩:∃c,pl[i]=c:=⟨_,rfl⟩;have hb1:=bts_at hbq i hil;rw [hc] at hb1 hti;have hV:=verdict_any g f2.code c2;rw [if_pos hcd] at hV;have HV:=Lib.hid hV
      have HLK:=Lib.hid (look_any hp hA2.fat (V.ownBlock::Z) hA2.off (some ⟨zb,zo+i,none⟩) (ck-i) c hb1);have hby:f2.byte p b c=f2.look p b c:=if_pos hcd;have hfs:F.feed p b f (q++pl.take (i+1))=((f2.look p b c).1,o2++(f2.look p b c).2):=by rw [hti,←List.append_assoc,F.feed_snoc,hf2,ho2,hby]
      have HFS:=Lib.hid hfs;have hl2:(f2.look p b c).2.length≤2:=look_len hA2.fat.xo c
      have HOL:=Lib.hid (show o2.length+(f2.look p b c).2.length≤1000000000 by omega);have HA2:=Lib.hid hA2;have t2:(i:Int)<(m:Int):=by omega
      have t3:i+1≤ck:=by have:=HCAP.out;omega
      have t4:(i:Int)+1≤(ck:Int):=by omega
      clear hA2 hzb hz hti hf2 ho2 hol hol2 hV hb1 hbq hby hfs hl2 hR2 c0 c1 c3 hc
      go_wp2_with (first
       |(at_builtin;(refine App.wpList_append_run rfl _ _ 39 rfl V U rfl rfl V' w6 hrun ?_))
       |(go_at_call 86;with_reducible refine HLK.out.mono ?_;rintro r w5 ⟨U,M1,M2,rfl,hf5,ht5,hs5⟩
         obtain ⟨V',w6,hrun,hS6⟩:=HA2.out.next hf5 ht5 hs5 HOL.out;have HS6:=Lib.hid hS6;have HS5:=Lib.hid hs5;clear hf5 ht5 hs5 hS6)
       |(go_at_call 38;with_reducible refine HV.out.mono ?_;rintro r w4 ⟨rfl,hw⟩;rw [hw];clear hw))
      go_roundw
      case rel=>exact ⟨i+1,by omega,by go_num,Lib.hid ⟨M1,M2,by rw [HFS.out];exact HS6.out⟩⟩
      case measure=>simp [intOf];omega
     ·have hV:=verdict_any g f2.code c2;rw [if_neg hcd] at hV;have HV:=Lib.hid hV;have hR3:R=(f2,o2):=by
       have e1:ls.flatten=(q++pl.take i)++(pl.drop i++(ls.drop (k+1)).flatten):=by rw [List.append_assoc,←List.append_assoc (pl.take i),List.take_append_drop,←List.append_assoc,←HTK.out,←List.flatten_append,List.take_append_drop]
       rw [←HR.out,e1,F.feed_app,hf2,ho2,F.feed_blocked p b f2 hcd];simp
      have HA2:=Lib.hid hA2;have HR3:=Lib.hid hR3;clear hA2 hti hf2 ho2 hol hol2 hV hR2 c0 c1 c3 hR3;have t2:(i:Int)<(m:Int):=by omega
      go_wp2_with (go_at_call 38;with_reducible refine HV.out.mono ?_;rintro r w4 ⟨rfl,hw⟩;rw [hw];clear hw);go_ret;exact ⟨_,rfl,P1,P2,by rw [HR3.out];exact HA2.out⟩
    ·obtain rfl:i=m:=by omega
     have t2:¬(i:Int)<(i:Int):=by omega
     obtain ⟨P1,P2,hA2⟩:=hR2.out
     have e:pl.take i=pl:=List.take_of_length_le (by rw [HM.out];exact Nat.le_refl _);rw [e,←HTK.out] at hA2;have HA2:=Lib.hid hA2;clear hA2 e hR2;go_wp2_with fail;go_roundw
     case rel=>exact ⟨k+1,by omega,by go_num,Lib.hid ⟨P1,P2,HA2.out⟩⟩
     case measure=>simp [intOf];omega
  ·obtain rfl:k=n:=by omega
   have t1:¬(k:Int)<(k:Int):=by omega
   obtain ⟨N1,N2,hA⟩:=hR.out
   have e:ls.take k=ls:=List.take_of_length_le (by rw [HN.out];exact Nat.le_refl _);rw [e,HR.out] at hA;have HA:=Lib.hid hA;clear hA hR e;go_wp2_with fail;go_ret;exact ⟨_,rfl,N1,N2,HA.out⟩
end code
end Go.Proofs.YtnabkcglnbdfeaaGreatDoor.Flt
namespace Go.Proofs.YtnabkcglnbdfeaaGreatDoor.Flt
open Go.RowKit Base Txt Mem Par Pg Each
section code
set_option maxHeartbeats 8000000
set_option maxRecDepth 20000
attribute [local go_sem] Base.some_undef
variable {p:Nat} {b:Bd}
abbrev bdL (b:Bd):List Value:= [.int .i64 b.x0,.int .i64 b.x1,.int .i64 b.x2,.int .i64 b.x3,.int .i64 b.x4,.int .i64 b.x5,.int .i64 b.x6,.int .i64 b.x7,.bool b.ch,.bool b.od]
theorem own_lower {w:World} {B B':Nat} {e:TypeId} {size n:Nat} {v:Value} {xs:List Value} (h:w.ownsRow B e size v n xs) (hB:B'≤B):w.ownsRow B' e size v n xs:=by
 refine ⟨h.1,?_⟩;rcases h.2 with h0 | ⟨b,cap,cur,rfl,hb,rest⟩
 ·exact .inl h0
 ·exact .inr ⟨b,cap,cur,rfl,Nat.le_trans hB hb,rest⟩
theorem at_lower {w:World} {B B' g p:Nat} {b:Bd} {L Z:List (Option Nat)} {x:Q} (h:At w ⟨B,Z⟩ g p b L x) (ho:x.out= []) (hB:B'≤B):At w ⟨B',Z⟩ g p b L x:=by
 cases x with
 | live s=>
   obtain ⟨q,v,f,bd,t,o,rfl,h1,h2⟩:=h;have ho:s.out= []:=ho;rw [ho] at h2;refine ⟨q,v,f,bd,t,o,rfl,h1,?_⟩;rw [ho];exact ⟨⟨h2.R.row,own_lower h2.R.own hB,Nat.le_trans hB h2.R.ge,h2.R.ne⟩,own_lower h2.F hB,own_lower h2.D hB,own_lower h2.TR hB,outs_of (own_lower (outs_nil (B:=⟨B,Z⟩) h2.O) hB),h2.lone,Nat.le_trans hB h2.ge,h2.lt,h2.zone⟩
 | dead e out=>
   obtain ⟨o,rfl,h⟩:=h;have ho:out= []:=ho;subst ho;exact ⟨o,rfl,h.row,outs_of (own_lower (outs_nil (B:=⟨B,Z⟩) h.O) hB),h.ne,Nat.le_trans hB h.ge,h.lt,h.bad,h.zone⟩
structure Pair (w0 w:World) (g1 g2 p:Nat) (b:Bd) (L1 L2:List (Option Nat)):Prop where
 x:At w ⟨w0.heap.size,[]⟩ g1 0 b L1 (Q.new 0 b)
 y:At w ⟨w0.heap.size,[]⟩ g2 p b L2 (Q.new p b)
 dis:Dis L1 L2
 bel:Below w0.heap.size w0 w
theorem Pair.first {w0 w1 w2:World} {g1 g2 p:Nat} {b:Bd} {L1 L2:List (Option Nat)} {B:Nat} (hB:w0.heap.size≤B) (h1:At w1 ⟨B,[]⟩ g1 0 b L1 (Q.new 0 b)) (h2:At w2 ⟨w1.heap.size,[]⟩ g2 p b L2 (Q.new p b)) (o1:(Q.new 0 b).out= []) (o2:(Q.new p b).out= []) (hb1:Below w0.heap.size w0 w1) (hb2:Below w1.heap.size w1 w2):Pair w0 w2 g1 g2 p b L1 L2:=
 ⟨(at_lower h1 o1 hB).below hb2,at_lower h2 o2 hb1.size,fun k hk hk'=>by
   have:=h1.in k hk;have:w1.heap.size≤k:=h2.low k hk'
   omega,Base.below_step hb1 hb2⟩
theorem Pair.filter {w0 w w':World} {g1 g2 p:Nat} {b:Bd} {L1 L2:List (Option Nat)} (h:Pair w0 w g1 g2 p b L1 L2) (hw:w'=w.alloc (.cells (fcells g1 g2 (Q.new p b).err false).toArray 80)) (B:Nat) (hB:B≤w0.heap.size) (o1:(Q.new 0 b).out= []) (o2:(Q.new p b).out= []):FAt w' B w.heap.size g1 g2 p b L1 L2 (F.new p b):=by subst hw;have hb:Below w.heap.size w (w.alloc (.cells (fcells g1 g2 (Q.new p b).err false).toArray 80)):=(Below.refl _ _).alloc (Nat.le_refl _) _;exact ⟨heap_alloc_new w _,⟨[],(at_lower h.x o1 hB).below hb⟩,⟨[],(at_lower h.y o2 hB).below hb⟩,h.dis,fun hm=>Nat.lt_irrefl _ (h.x.in _ hm),fun hm=>Nat.lt_irrefl _ (h.y.in _ hm),Nat.le_trans hB h.bel.size,o1,o2,Q.new_ok 0 b,Q.new_ok p b⟩
theorem new_out:(Q.new p b).out= []:=by unfold Q.new;split<;>rfl
theorem new_any (hp:p<4294967296) (w:World):Calls Tryz.prog 34 #[.int .u32 (p:Int),.agg #[.int .i64 b.x0,.int .i64 b.x1,.int .i64 b.x2,.int .i64 b.x3,.int .i64 b.x4,.int .i64 b.x5,.int .i64 b.x6,.int .i64 b.x7,.bool b.ch,.bool b.od]] w fun r w'=>
 ∃g g1 g2 L1 L2,r=.returned (ptr g)∧FAt w' w.heap.size g g1 g2 p b L1 L2 (F.new p b)∧Below w.heap.size w w':=by
 have HB0:=Lib.hid (((Below.refl _ _).alloc (Nat.le_refl _) (.cells #[.int .i64 b.x0,.int .i64 b.x1,.int .i64 b.x2,.int .i64 b.x3,.int .i64 b.x4,.int .i64 b.x5,.int .i64 b.x6,.int .i64 b.x7,.bool b.ch,.bool b.od] 29)):Below w.heap.size w _)
 have HZ0:=Lib.hid (Rec.Bk.new w w.heap.size rfl 29 (bdL b))
 have HSZ:=Lib.hid (show w.heap.size<(w.alloc (.cells #[.int .i64 b.x0,.int .i64 b.x1,.int .i64 b.x2,.int .i64 b.x3,.int .i64 b.x4,.int .i64 b.x5,.int .i64 b.x6,.int .i64 b.x7,.bool b.ch,.bool b.od] 29)).heap.size by simp)
 have HN0:=Lib.hid (show∀w:World,Calls Tryz.prog 18 #[.int .u32 0,.agg #[.int .i64 b.x0,.int .i64 b.x1,.int .i64 b.x2,.int .i64 b.x3,.int .i64 b.x4,.int .i64 b.x5,.int .i64 b.x6,.int .i64 b.x7,.bool b.ch,.bool b.od]] w fun r w'=>∃g L',r=.returned (ptr g)∧w.heap.size≤g∧At w' ⟨w.heap.size,[]⟩ g 0 b L' (Q.new 0 b)∧Below w.heap.size w w' from fun w=>Pg.new_any (p:=0) (b:=b) (by decide) w)
 have HN1:=Lib.hid (fun w=>Pg.new_any (p:=p) (b:=b) hp w);go_enter Tryz.func34,Tryz.ntmps34;go_upto_region 1 with fail
 generalize w.alloc (.cells #[.int .i64 b.x0,.int .i64 b.x1,.int .i64 b.x2,.int .i64 b.x3,.int .i64 b.x4,.int .i64 b.x5,.int .i64 b.x6,.int .i64 b.x7,.bool b.ch,.bool b.od] 29)=W0 at *;generalize hgB:w.heap.size=gB at *;have HGB:=Lib.hid hgB;clear hgB;have y0:=HZ0.out.c 0 _ rfl;have y1:=HZ0.out.c 1 _ rfl;have y2:=HZ0.out.c 2 _ rfl;have y3:=HZ0.out.c 3 _ rfl;have y4:=HZ0.out.c 4 _ rfl;have y5:=HZ0.out.c 5 _ rfl;have y6:=HZ0.out.c 6 _ rfl;have y7:=HZ0.out.c 7 _ rfl;have y8:=HZ0.out.c 8 _ rfl;have y9:=HZ0.out.c 9 _ rfl
 go_region_with (first
  |(go_at_call 18;with_reducible refine (HN0.out _).mono ?_;rintro r wx ⟨gx,Lx,rfl,hgx,hax,hbx⟩
    have HAX:=Lib.hid hax;have HBX:=Lib.hid hbx;first
     | have HZX:=Lib.hid (HZY.out.below hbx)
     | have HZX:=Lib.hid ((HZ0.out.below (Base.below_drewN (Below.refl W0.heap.size W0) 1)).below hbx)
    have x0:=HZX.out.c 0 _ rfl;have x1:=HZX.out.c 1 _ rfl;have x2:=HZX.out.c 2 _ rfl;have x3:=HZX.out.c 3 _ rfl;have x4:=HZX.out.c 4 _ rfl;have x5:=HZX.out.c 5 _ rfl;have x6:=HZX.out.c 6 _ rfl;have x7:=HZX.out.c 7 _ rfl;have x8:=HZX.out.c 8 _ rfl;have x9:=HZX.out.c 9 _ rfl;clear hax hbx hgx)
  |(go_at_call 18;with_reducible refine (HN1.out _).mono ?_;rintro r wy ⟨gy,Ly,rfl,hgy,hay,hby⟩
    have HAY:=Lib.hid hay;have HBY:=Lib.hid hby;first
     | have HZY:=Lib.hid (HZX.out.below hby)
     | have HZY:=Lib.hid ((HZ0.out.below (Base.below_drewN (Below.refl W0.heap.size W0) 1)).below hby)
    have v0:=HZY.out.c 0 _ rfl;have v1:=HZY.out.c 1 _ rfl;have v2:=HZY.out.c 2 _ rfl;have v3:=HZY.out.c 3 _ rfl;have v4:=HZY.out.c 4 _ rfl;have v5:=HZY.out.c 5 _ rfl;have v6:=HZY.out.c 6 _ rfl;have v7:=HZY.out.c 7 _ rfl;have v8:=HZY.out.c 8 _ rfl;have v9:=HZY.out.c 9 _ rfl;clear hay hby hgy))
 all_goals
  first
   | have HPR:=Lib.hid (Pair.first (w0:=W0) (Nat.le_refl W0.heap.size) HAX.out HAY.out new_out new_out ((Base.below_drewN (Below.refl W0.heap.size W0) 1).trans HBX.out) HBY.out)
   | have HPR:=Lib.hid (Pair.second (w0:=W0) (Nat.le_refl W0.heap.size) HAY.out HAX.out new_out new_out ((Base.below_drewN (Below.refl W0.heap.size W0) 1).trans HBY.out) HBX.out)
  clear y0 y1 y2 y3 y4 y5 y6 y7 y8 y9 x0 x1 x2 x3 x4 x5 x6 x7 x8 x9 v0 v1 v2 v3 v4 v5 v6 v7 v8 v9
  have HER:=Lib.hid (errq_any HPR.out.y)
  have HBL:=Lib.hid (HB0.out.trans (HPR.out.bel.mono (Nat.le_of_lt HSZ.out)));generalize hE:(Q.new p b).err=E at HER;have HE:=Lib.hid hE;clear hE
  go_wp2_with (go_at_call 23;with_reducible refine HER.out.mono ?_;rintro r w9 ⟨rfl,hw⟩;rw [hw];clear hw);go_ret;rw [HGB.out];exact ⟨_,gx,gy,Lx,Ly,rfl,HPR.out.filter (by rw [HE.out]) gB (Nat.le_of_lt HSZ.out) new_out new_out,HBL.out.alloc (Nat.le_trans (Nat.le_of_lt HSZ.out) HPR.out.bel.size) _⟩
end code
end Go.Proofs.YtnabkcglnbdfeaaGreatDoor.Flt
namespace Go.Proofs.YtnabkcglnbdfeaaGreatDoor.Flt
open Go.RowKit Base Txt Mem Par Pg Each
section code
set_option maxHeartbeats 4000000
set_option maxRecDepth 20000
attribute [local go_sem] Base.some_undef
variable {w:World} {B g g1 g2 p:Nat} {b:Bd} {L1 L2:List (Option Nat)} {f:F}
end code
end Go.Proofs.YtnabkcglnbdfeaaGreatDoor.Flt
namespace Go.Proofs.YtnabkcglnbdfeaaGreatDoor.Flt
open Go.RowKit Base Txt Mem Par Pg Each
theorem partsC_one {L:List (Option Nat)} {w:World} {a:Option Addr} {c:Nat} {l:List UInt8} (h:Bts L w a l) (hc:l.length≤c) (hin:In w L) (ty:TypeId):PartsC L (w.alloc (.cells #[.slice a l.length c] ty)) (some ⟨w.heap.size,0,none⟩) [l]:=by
 refine ⟨fun _=>⟨w.heap.size,0,rfl,by simp,fun hm=>by have:=hin _ hm;omega,fun k hk=>?_⟩⟩;obtain rfl:k=0:=by have:k<1:=hk;omega
 exact ⟨a,c,(cell_of_row (w.alloc (.cells #[.slice a l.length c] ty)) w.heap.size 0 _ ty (0,0) (heap_alloc_new w _)).trans rfl,hc,fun _=>h.alloc _⟩
theorem partsC_two {L:List (Option Nat)} {w:World} {a a':Option Addr} {c c':Nat} {l l':List UInt8} (h:Bts L w a l) (hc:l.length≤c) (h':Bts L w a' l') (hc':l'.length≤c') (hin:In w L) (ty:TypeId) :
 PartsC L (w.alloc (.cells #[.slice a l.length c,.slice a' l'.length c'] ty)) (some ⟨w.heap.size,0,none⟩) [l,l']:=by
 refine ⟨fun _=>⟨w.heap.size,0,rfl,by simp,fun hm=>by have:=hin _ hm;omega,fun k hk=>?_⟩⟩;have hk:k<2:=hk
 have hr:=fun j=>cell_of_row (w.alloc (.cells #[.slice a l.length c,.slice a' l'.length c'] ty)) w.heap.size j _ ty (0,0) (heap_alloc_new w _);rcases (by omega:k=0∨k=1) with rfl | rfl
 ·exact ⟨a,c,(hr 0).trans rfl,hc,fun _=>h.alloc _⟩
 ·exact ⟨a',c',(hr 1).trans rfl,hc',fun _=>h'.alloc _⟩
theorem FS.slice {w0 w:World} {B g g1 g2 p:Nat} {b:Bd} {Z L1 L2 N1 N2:List (Option Nat)} {f:F} {V:Value} {out:List Rec.R} (h:FS w0 B g g1 g2 p b Z L1 L2 f V out N1 N2 w):∃a c,V=.slice a out.length c:=by obtain ⟨ps, -, -,h3⟩:=h.outs;obtain ⟨a,c,e, -⟩:=Ln.own_slice h3;exact ⟨a,c,e⟩
theorem feed_lit {w:World} {B g g1 g2 p:Nat} {b:Bd} {L1 L2:List (Option Nat)} {f:F} (hp:p<4294967296) (h:FAt w B g g1 g2 p b L1 L2 f) (l:List UInt8) (V:Array Value) (hV:V=bytesV l) (n:Nat) (hn:l.length=n) (hn9:n≤1000) (fr:Nat × Nat) :
 Calls Tryz.prog 36 #[ptr g,.slice (some ⟨w.heap.size+1,0,none⟩) 1 1] ((w.alloc (.cells V 5 fr)).alloc (.cells #[.slice (some ⟨w.heap.size,0,none⟩) n n] 22)) fun r w'=>∃U,r=.returned U∧∃M1 M2,
  FS ((w.alloc (.cells V 5 fr)).alloc (.cells #[.slice (some ⟨w.heap.size,0,none⟩) n n] 22)) B g g1 g2 p b [] L1 L2 (F.feed p b f l).1 U (F.feed p b f l).2 M1 M2 w':=by
 subst hn;have hb1:Below w.heap.size w (w.alloc (.cells V 5 fr)):=(Below.refl _ _).alloc (Nat.le_refl _) _;have hs:(w.alloc (.cells V 5 fr)).heap.size=w.heap.size+1:=by simp
 have hpc:=partsC_one (c:=l.length) (Bts.lit h.in l V hV 5 fr) (Nat.le_refl _) (in_alloc h.in _) 22;rw [hs] at hpc;have hb2:Below w.heap.size w ((w.alloc (.cells V 5 fr)).alloc (.cells #[.slice (some ⟨w.heap.size,0,none⟩) l.length l.length] 22)):=hb1.alloc hb1.size _
 have hf:=h.keeps (Keeps.of_below hb2:Keeps [] w _) (fun _ _ hm=>by cases hm)
 have:=feed_any hp hf [] Clear.nil (some ⟨w.heap.size+1,0,none⟩) 1 [l] hpc (by simp) (by simpa using Nat.le_trans hn9 (by decide));simpa using this
theorem k1:(F.feed 2 usual (F.new 2 usual) [71,69,84,32,47,32,72,84,84,80,47,49,46,49,10]).1.code=400∧(F.feed 2 usual (F.new 2 usual) [71,69,84,32,47,32,72,84,84,80,47,49,46,49,10]).1.parted=true:=by decide +kernel
theorem k2:(F.feed 0 usual (F.new 0 usual) [71,69,84,32,47,32,72,84,84,80,47,49,46,49,13,10,72,111,115,116,58,32,97,13,10,13,10,120,10]).1.code=400∧(F.feed 0 usual (F.new 0 usual) [71,69,84,32,47,32,72,84,84,80,47,49,46,49,13,10,72,111,115,116,58,32,97,13,10,13,10,120,10]).1.parted=false∧(F.feed 0 usual (F.new 0 usual) [71,69,84,32,47,32,72,84,84,80,47,49,46,49,13,10,72,111,115,116,58,32,97,13,10,13,10,120,10]).2.length=1:=by decide +kernel
section code
set_option maxHeartbeats 8000000
set_option maxRecDepth 100000
attribute [local go_sem] Base.some_undef
theorem known_any (w:World):Calls Tryz.prog 32 #[] w fun e w'=>e=.returned (.bool true)∧Below w.heap.size w w':=by
 have hc1:∀w:World,(convert 22 22 (.slice (some ⟨w.heap.size,0,none⟩) 15 15)).run Tryz.prog (w.alloc (.cells #[.int .u8 71,.int .u8 69,.int .u8 84,.int .u8 32,.int .u8 47,.int .u8 32,.int .u8 72,.int .u8 84,.int .u8 84,.int .u8 80,.int .u8 47,.int .u8 49,.int .u8 46,.int .u8 49,.int .u8 10] 5))=.ok (.slice (some ⟨w.heap.size,0,none⟩) 15 15) (w.alloc (.cells #[.int .u8 71,.int .u8 69,.int .u8 84,.int .u8 32,.int .u8 47,.int .u8 32,.int .u8 72,.int .u8 84,.int .u8 84,.int .u8 80,.int .u8 47,.int .u8 49,.int .u8 46,.int .u8 49,.int .u8 10] 5 (15,16))):=fun w=>Lib.run_convert_bytes_const w 22 5 #[.int .u8 71,.int .u8 69,.int .u8 84,.int .u8 32,.int .u8 47,.int .u8 32,.int .u8 72,.int .u8 84,.int .u8 84,.int .u8 80,.int .u8 47,.int .u8 49,.int .u8 46,.int .u8 49,.int .u8 10] 15 15 Tryz.underlying22 Tryz.underlying5
 have hc2:∀w:World,(convert 22 22 (.slice (some ⟨w.heap.size,0,none⟩) 29 29)).run Tryz.prog (w.alloc (.cells #[.int .u8 71,.int .u8 69,.int .u8 84,.int .u8 32,.int .u8 47,.int .u8 32,.int .u8 72,.int .u8 84,.int .u8 84,.int .u8 80,.int .u8 47,.int .u8 49,.int .u8 46,.int .u8 49,.int .u8 13,.int .u8 10,.int .u8 72,.int .u8 111,.int .u8 115,.int .u8 116,.int .u8 58,.int .u8 32,.int .u8 97,.int .u8 13,.int .u8 10,.int .u8 13,.int .u8 10,.int .u8 120,.int .u8 10] 5))=.ok (.slice (some ⟨w.heap.size,0,none⟩) 29 29) (w.alloc (.cells #[.int .u8 71,.int .u8 69,.int .u8 84,.int .u8 32,.int .u8 47,.int .u8 32,.int .u8 72,.int .u8 84,.int .u8 84,.int .u8 80,.int .u8 47,.int .u8 49,.int .u8 46,.int .u8 49,.int .u8 13,.int .u8 10,.int .u8 72,.int .u8 111,.int .u8 115,.int .u8 116,.int .u8 58,.int .u8 32,.int .u8 97,.int .u8 13,.int .u8 10,.int .u8 13,.int .u8 10,.int .u8 120,.int .u8 10] 5 (29,30))):=fun w=>Lib.run_convert_bytes_const w 22 5 #[.int .u8 71,.int .u8 69,.int .u8 84,.int .u8 32,.int .u8 47,.int .u8 32,.int .u8 72,.int .u8 84,.int .u8 84,.int .u8 80,.int .u8 47,.int .u8 49,.int .u8 46,.int .u8 49,.int .u8 13,.int .u8 10,.int .u8 72,.int .u8 111,.int .u8 115,.int .u8 116,.int .u8 58,.int .u8 32,.int .u8 97,.int .u8 13,.int .u8 10,.int .u8 13,.int .u8 10,.int .u8 120,.int .u8 10] 29 29 Tryz.underlying22 Tryz.underlying5
 have HN2:=Lib.hid (show∀w:World,Calls Tryz.prog 34 #[.int .u32 2,.agg #[.int .i64 1024,.int .i64 32,.int .i64 8192,.int .i64 65536,.int .i64 32,.int .i64 8,.int .i64 4,.int .i64 20,.bool true,.bool true]] w fun r w'=>∃g g1 g2 L1 L2,r=.returned (ptr g)∧FAt w' w.heap.size g g1 g2 2 usual L1 L2 (F.new 2 usual)∧Below w.heap.size w w' from fun w=>new_any (p:=2) (b:=usual) (by decide) w)
 have HN0:=Lib.hid (show∀w:World,Calls Tryz.prog 34 #[.int .u32 0,.agg #[.int .i64 1024,.int .i64 32,.int .i64 8192,.int .i64 65536,.int .i64 32,.int .i64 8,.int .i64 4,.int .i64 20,.bool true,.bool true]] w fun r w'=>∃g g1 g2 L1 L2,r=.returned (ptr g)∧FAt w' w.heap.size g g1 g2 0 usual L1 L2 (F.new 0 usual)∧Below w.heap.size w w' from fun w=>new_any (p:=0) (b:=usual) (by decide) w);go_enter Tryz.func32,Tryz.ntmps32
 go_upto_region 2 with (go_at_call 45;with_reducible refine (Bnd.rusual_any _).mono ?_;rintro r w1 ⟨rfl,hb⟩;have HB1:=Lib.hid hb;clear hb)
 have HZ1:=Lib.hid (Rec.Bk.new w1 w1.heap.size rfl 29 [.int .i64 1024,.int .i64 32,.int .i64 8192,.int .i64 65536,.int .i64 32,.int .i64 8,.int .i64 4,.int .i64 20,.bool true,.bool true])
 have HBW1:=Lib.hid (HB1.out.alloc HB1.out.size (.cells #[.int .i64 1024,.int .i64 32,.int .i64 8192,.int .i64 65536,.int .i64 32,.int .i64 8,.int .i64 4,.int .i64 20,.bool true,.bool true] 29));generalize w1.alloc (.cells #[.int .i64 1024,.int .i64 32,.int .i64 8192,.int .i64 65536,.int .i64 32,.int .i64 8,.int .i64 4,.int .i64 20,.bool true,.bool true] 29)=W1 at *;generalize w1.heap.size=gB at *;have y0:=HZ1.out.c 0 _ rfl;have y1:=HZ1.out.c 1 _ rfl;have y2:=HZ1.out.c 2 _ rfl;have y3:=HZ1.out.c 3 _ rfl;have y4:=HZ1.out.c 4 _ rfl;have y5:=HZ1.out.c 5 _ rfl;have y6:=HZ1.out.c 6 _ rfl;have y7:=HZ1.out.c 7 _ rfl;have y8:=HZ1.out.c 8 _ rfl;have y9:=HZ1.out.c 9 _ rfl;go_upto_region 3 with
  (go_at_call 34;with_reducible refine (HN2.out _).mono ?_;rintro r w2 ⟨g,g1,g2,L1,L2,rfl,hf,hb⟩
   have HF:=Lib.hid hf;have HB2:=Lib.hid hb;have HZ2:=Lib.hid (HZ1.out.below hb);clear hf hb)
 clear y0 y1 y2 y3 y4 y5 y6 y7 y8 y9;have y0:=HZ2.out.c 0 _ rfl;have y1:=HZ2.out.c 1 _ rfl;have y2:=HZ2.out.c 2 _ rfl;have y3:=HZ2.out.c 3 _ rfl;have y4:=HZ2.out.c 4 _ rfl;have y5:=HZ2.out.c 5 _ rfl;have y6:=HZ2.out.c 6 _ rfl;have y7:=HZ2.out.c 7 _ rfl;have y8:=HZ2.out.c 8 _ rfl;have y9:=HZ2.out.c 9 _ rfl;go_upto_region 6 with
  (go_at_call 34;with_reducible refine (HN0.out _).mono ?_;rintro r w3 ⟨h,h1,h2,M1,M2,rfl,hh,hb⟩
   have HH:=Lib.hid hh;have HB3:=Lib.hid hb;clear hh hb)
 clear y0 y1 y2 y3 y4 y5 y6 y7 y8 y9
 have hf3:=HF.out.keeps (Keeps.of_below HB3.out:Keeps [] w2 w3) (fun _ _ hm=>by cases hm);have hgl:∀k,some k∈fblks g L1 L2→k<w2.heap.size:=HF.out.in;have hhl:∀k,some k∈fblks h M1 M2→w2.heap.size≤k:=HH.out.low;have hgz:¬((ptr g:Value)=.pointer none):=by intro e;cases e
 have HFE:=Lib.hid (feed_lit (by decide) hf3 [71,69,84,32,47,32,72,84,84,80,47,49,46,49,10] #[.int .u8 71,.int .u8 69,.int .u8 84,.int .u8 32,.int .u8 47,.int .u8 32,.int .u8 72,.int .u8 84,.int .u8 84,.int .u8 80,.int .u8 47,.int .u8 49,.int .u8 46,.int .u8 49,.int .u8 10] rfl 15 rfl (by decide) (15,16))
 have HW3:=Lib.hid (And.intro hgl hhl);have hb3:Below w3.heap.size w3 ((w3.alloc (.cells #[.int .u8 71,.int .u8 69,.int .u8 84,.int .u8 32,.int .u8 47,.int .u8 32,.int .u8 72,.int .u8 84,.int .u8 84,.int .u8 80,.int .u8 47,.int .u8 49,.int .u8 46,.int .u8 49,.int .u8 10] 5 (15,16))).alloc (.cells #[.slice (some ⟨w3.heap.size,0,none⟩) 15 15] 22)):=((Below.refl _ _).alloc (Nat.le_refl _) _).alloc (by simp) _;have HB4:=Lib.hid hb3;clear hf3 hgl hhl hb3;go_upto_region 7 with
  (go_at_call 36;with_reducible refine HFE.out.mono ?_;rintro r w4 ⟨U4,rfl,N1,N2,hs4⟩
   have HS4:=Lib.hid hs4;clear hs4)
 have hh4:=(HH.out.keeps (Keeps.of_below HB4.out:Keeps [] w3 _) (fun _ _ hm=>by cases hm)).keeps HS4.out.keeps (fun k hk hm=>by have:=HW3.out.1 k hm;have:=HW3.out.2 k hk;omega)
 have HFE2:=Lib.hid (feed_lit (by decide) hh4 [71,69,84,32,47,32,72,84,84,80,47,49,46,49,13,10,72,111,115,116,58,32,97,13,10,13,10,120,10] #[.int .u8 71,.int .u8 69,.int .u8 84,.int .u8 32,.int .u8 47,.int .u8 32,.int .u8 72,.int .u8 84,.int .u8 84,.int .u8 80,.int .u8 47,.int .u8 49,.int .u8 46,.int .u8 49,.int .u8 13,.int .u8 10,.int .u8 72,.int .u8 111,.int .u8 115,.int .u8 116,.int .u8 58,.int .u8 32,.int .u8 97,.int .u8 13,.int .u8 10,.int .u8 13,.int .u8 10,.int .u8 120,.int .u8 10] rfl 29 rfl (by decide) (29,30));have hb5:Below w4.heap.size w4 ((w4.alloc (.cells #[.int .u8 71,.int .u8 69,.int .u8 84,.int .u8 32,.int .u8 47,.int .u8 32,.int .u8 72,.int .u8 84,.int .u8 84,.int .u8 80,.int .u8 47,.int .u8 49,.int .u8 46,.int .u8 49,.int .u8 13,.int .u8 10,.int .u8 72,.int .u8 111,.int .u8 115,.int .u8 116,.int .u8 58,.int .u8 32,.int .u8 97,.int .u8 13,.int .u8 10,.int .u8 13,.int .u8 10,.int .u8 120,.int .u8 10] 5 (29,30))).alloc (.cells #[.slice (some ⟨w4.heap.size,0,none⟩) 29 29] 22)):=((Below.refl _ _).alloc (Nat.le_refl _) _).alloc (by simp) _;have HB5:=Lib.hid hb5;have HH4:=Lib.hid hh4;have HHI:=Lib.hid HH.out.in;clear hh4 hb5;go_upto_region 8 with
  (go_at_call 36;with_reducible refine HFE2.out.mono ?_;rintro r w5 ⟨U5,rfl,P1,P2,hs5⟩
   have HS5:=Lib.hid hs5;clear hs5)
 have hf5:=((HS4.out.fat.keeps (Keeps.of_below HB5.out:Keeps [] w4 _) (fun _ _ hm=>by cases hm)).keeps HS5.out.keeps (fun k hk hm=>by
  have h1:=HHI.out k hm;have h2:=HW3.out.2 k hm;rcases HS4.out.of k hk with e | e
  ·have:=HW3.out.1 k e;omega
  ·have h3:=HB4.out.size
   exact absurd (Nat.le_trans h3 e) (by omega)))
 obtain ⟨c0,c1,c2,c3⟩:=hf5.c;obtain ⟨d0,d1,d2,d3⟩:=HS5.out.fat.c;rw [k1.1] at c2;rw [k1.2] at c3;rw [k2.1] at d2;rw [k2.2.1] at d3;obtain ⟨a5,c5,e5⟩:=HS5.out.slice;rw [k2.2.2] at e5;subst e5
 have HV1:=Lib.hid (show Calls Tryz.prog 38 #[.pointer (some ⟨g,2,none⟩)] w5 fun r w'=>r=.returned (.int .i64 2)∧w'=w5 from verdict_any g 400 c2)
 have HV2:=Lib.hid (show Calls Tryz.prog 38 #[.pointer (some ⟨h,2,none⟩)] w5 fun r w'=>r=.returned (.int .i64 2)∧w'=w5 from verdict_any h 400 d2)
 have HCO:=Lib.hid (show Calls Tryz.prog 39 #[.pointer (some ⟨g,2,none⟩)] w5 fun r w'=>r=.returned (.int .i64 400)∧w'=w5 from code_any g 400 c2)
 have HP1:=Lib.hid (parted_any g true c3)
 have HP2:=Lib.hid (parted_any h false d3)
 have HBE:=Lib.hid (show Below w.heap.size w w5 from by
  have b3:=Base.below_step (HBW1.out.trans (HB2.out.mono HBW1.out.size)) HB3.out;have b4:=Base.below_step b3 HB4.out
  have b5:=b4.trans (HS4.out.keeps.below b4.size (fun k hk=>Nat.le_trans HBW1.out.size (HF.out.low k hk)));have b6:=Base.below_step b5 HB5.out
  exact b6.trans (HS5.out.keeps.below b6.size (fun k hk=>Nat.le_trans (HBW1.out.trans (HB2.out.mono HBW1.out.size)).size (HW3.out.2 k hk))))
 clear c0 c1 c2 c3 d0 d1 d2 d3 hf5 HFE HFE2 HS4 HS5 HB4 HB5 HHI HW3 HF HH HH4 HN2 HN0 hc1 hc2
 go_wp2_with (first
  |(go_at_call 38;with_reducible refine HV1.out.mono ?_;rintro r w9 ⟨rfl,hw⟩;rw [hw];clear hw)
  |(go_at_call 38;with_reducible refine HV2.out.mono ?_;rintro r w9 ⟨rfl,hw⟩;rw [hw];clear hw)
  |(go_at_call 39;with_reducible refine HCO.out.mono ?_;rintro r w9 ⟨rfl,hw⟩;rw [hw];clear hw)
  |(go_at_call 40;with_reducible refine HP1.out.mono ?_;rintro r w9 ⟨rfl,hw⟩;rw [hw];clear hw)
  |(go_at_call 40;with_reducible refine HP2.out.mono ?_;rintro r w9 ⟨rfl,hw⟩;rw [hw];clear hw))
 go_ret;exact ⟨rfl,HBE.out⟩
end code
end Go.Proofs.YtnabkcglnbdfeaaGreatDoor.Flt
namespace Go.Proofs.YtnabkcglnbdfeaaGreatDoor.Txt
open Go.RowKit Base Oct Go.Maps
def keyIn (s:ByteArray):Lit:=.string (lower s).data.toList
def gone (ss:List ByteArray):DataW Unit:=setOf (.agg []) (ss.map keyIn)
section code
set_option maxHeartbeats 1000000
attribute [local go_sem] Base.some_undef
end code
end Go.Proofs.YtnabkcglnbdfeaaGreatDoor.Txt
namespace Go.Proofs.YtnabkcglnbdfeaaGreatDoor.Txt
open Go.RowKit Base Oct Go.Maps
section
variable {w:World} {base size g n cap:Nat} {e:TypeId} {xs:List Value} {v:Value}
theorem own_lower (h:w.ownsRow base e size v n xs) {base':Nat} (hb:base'≤base):w.ownsRow base' e size v n xs:=by refine ⟨h.1,h.2.imp_right ?_⟩;rintro ⟨g,cap,cur,e1,h1,h2⟩;exact ⟨g,cap,cur,e1,Nat.le_trans hb h1,h2⟩
end
def Asks (g:Nat) (lb:Array Value) (p:Fld→Bool) (fs:List Fld) (w0:World):Prop:=
 ∀(W:World) (x:Fld),x∈fs→Below w0.heap.size w0 W→Calls Tryz.prog g (#[.agg #[.string x.1,.string x.2]]++lb) W fun e w'=>e=.returned (.bool (p x))∧Below W.heap.size W w'
section code
set_option maxHeartbeats 1000000
theorem cells_here {w:World} {a:Option Addr} {n:Nat} {fs:List Fld} (h:Flds w a n fs) (hn:0<n):∃b off,a=some ⟨b,off,none⟩∧∀j u,(cells fs)[j]?=some u→w.cell? ⟨b,off+j,none⟩=some u:=by
 obtain ⟨b,off,e,_,hc⟩:=h.2 hn;refine ⟨b,off,e,fun j u hj=>?_⟩;have hlt:j<fs.length*2:=by
  rw [←cells_length];rcases Nat.lt_or_ge j (cells fs).length with h | h
  ·exact h
  ·rw [List.getElem?_eq_none h] at hj;cases hj
 have hk:j/2<n:=by have:=h.1;omega
 obtain ⟨c0,c1⟩:=hc (j/2) hk
 obtain ⟨d0,d1⟩:=cells_at fs (j/2) (by have:=h.1;omega);rcases (by omega:j=j/2*2∨j=j/2*2+1) with e | e
 ·rw [←e] at c0 d0;rw [d0] at hj;rw [c0];exact hj
 ·rw [show off+j/2*2+1=off+j by omega] at c1;rw [←e] at d1;rw [d1] at hj;rw [c1];exact hj
theorem cells_one (fs:List Fld):∀u∈cells fs,u.oneCell'=true:=by intro u hu;simp only [cells,List.mem_flatMap,List.mem_cons,List.not_mem_nil,or_false] at hu;obtain ⟨f,_,rfl | rfl⟩:=hu<;>rfl
end code
end Go.Proofs.YtnabkcglnbdfeaaGreatDoor.Txt
namespace Go.Proofs.YtnabkcglnbdfeaaGreatDoor.Can
open Go.RowKit Base Txt Par Pg
section
variable {b:Bd} {t:T} {s m x:List UInt8} {o:List Rec.R} {fs:List Fld} {n:Nat}
structure Fr (b:Bd) (t:T) (o:List Rec.R):Prop where
 st:t.st=1
 pend:t.rd.pend=false
 nf:Ln.failed t.rd.last=false
 buf:t.rd.clear.buf= []
 new:t.isNew=true
 most:t.rd.most=Ln.mid b.x0
 r:t.r=zero
 hl:t.hl=0
 bl:t.bl=0
 size:t.size=0
 out:t.out=o
 left:t.left=0
structure Mh (b:Bd) (t:T) (m x:List UInt8) (fs:List Fld) (n:Nat) (o:List Rec.R):Prop where
 st:t.st=2
 pend:t.rd.pend=false
 nf:Ln.failed t.rd.last=false
 buf:t.rd.clear.buf= []
 most:t.rd.most=Ln.mid b.x0
 r:t.r=⟨ba m,ba x,1,fs,false,[],[]⟩
 hl:t.hl=fs.length
 bl:t.bl=0
 size:t.size=n
 out:t.out=o
theorem Fr.open (h:Fr b t o):t.Open:=⟨by rw [h.st];rfl,h.pend,h.nf⟩
theorem Mh.open (h:Mh b t m x fs n o):t.Open:=⟨by rw [h.st];rfl,h.pend,h.nf⟩
theorem fr_new (b:Bd):Fr b (T.new 0 b) []:=⟨rfl,rfl,rfl,rfl,rfl,rfl,rfl,rfl,rfl,rfl,rfl,rfl⟩
theorem mh_start (h:Fr b t o) (hs:s≠ []) (hc:∀c∈s,c≠10∧c≠13) (hl:s.length≤Ln.mid b.x0) (hn:((s.length+2:Nat):Int)≤b.x2) (hq:Rq.request (Rq.clOf 0) b.od s=(m,x,1,0)) :
 ∃t',(Q.live t).feed 0 b (s ++ [13,10])=.live t'∧Mh b t' m x [] (s.length+2) o:=by
 have e1:=feed_line (p:=0) (b:=b) (t:=t) s h.open h.buf hc (by rw [h.most];exact hl) (by intro _;rw [h.size,Nat.zero_add];exact hn);obtain ⟨u,hu⟩:∃u,t.went {t.rd with buf:=s,last:=1,pend:=false} (s.length+2)=u:=⟨_,rfl⟩;have hl1:T.line 0 b u s=(0,{u with r:={u.r with m:=ba m,x:=ba x,k:=1},st:=2}):=by unfold T.line;rw [if_pos (by rw [←hu];exact h.st)];unfold T.first;rw [if_neg hs,hq];rfl
 refine ⟨_,e1.trans ((by rw [hu];exact congrArg ends hl1)),?_⟩;rw [←hu];refine ⟨rfl,rfl,rfl,rfl,h.most,?_,h.hl,h.bl,?_,h.out⟩
 ·show ({t.r with m:=ba m,x:=ba x,k:=1}:Rec.R)= _;rw [h.r];rfl
 ·show (if Pg.headed t.st=true then t.size+(s.length+2) else t.size)= _;rw [h.st,h.size,Nat.zero_add];rfl
theorem line_two (h:t.st=2):T.line 0 b t s=T.fields 0 b t s:=by unfold T.line;rw [if_neg (by rw [h];decide),if_pos h]
theorem mh_field {nm v:List UInt8} (h:Mh b t m x fs n o) (hs:s≠ []) (hc:∀c∈s,c≠10∧c≠13) (hl:s.length≤Ln.mid b.x0) (hn:((n+(s.length+2):Nat):Int)≤b.x2) (hf:((fs.length+1:Nat):Int)≤b.x1) (hp:Fd.parse (Fd.clOf 0) s=some (some (nm,v))) :
 ∃t',(Q.live t).feed 0 b (s ++ [13,10])=.live t'∧Mh b t' m x (fs ++ [(ba nm,ba v)]) (n+(s.length+2)) o:=by
 have hg:Fd.goes 0 s=false:=by unfold Fd.goes;rw [none0,Bool.false_and]
 have e:=feed_line (p:=0) (b:=b) (t:=t) s h.open h.buf hc (by rw [h.most];exact hl) (by intro _;rw [h.size];exact hn);have hv:fieldV 0 t.hl t.r.fs s b.x1=.inr (fs ++ [(ba nm,ba v)]):=by rw [h.hl,h.r];show fieldV 0 fs.length fs s b.x1= _;unfold fieldV;rw [if_neg (by omega),hg,if_neg (by simp),hp]
 obtain ⟨t',ht'⟩:∃t',({t.went {t.rd with buf:=s,last:=1,pend:=false} (s.length+2) with hl:=t.hl+1,r:={t.r with fs:=fs ++ [(ba nm,ba v)]}}:T)=t':=⟨_,rfl⟩;have hl:T.line 0 b (t.went {t.rd with buf:=s,last:=1,pend:=false} (s.length+2)) s=(0,t'):=by refine (line_two (show (t.went {t.rd with buf:=s,last:=1,pend:=false} (s.length+2)).st=2 from h.st)).trans ?_;unfold T.fields;rw [if_neg hs,←ht'];show (listE (fieldV 0 t.hl t.r.fs s b.x1),({t.went _ _ with hl:=t.hl+1,r:={t.r with fs:=listL t.r.fs (fieldV 0 t.hl t.r.fs s b.x1)}}:T))= _;rw [hv];rfl
 refine ⟨t',e.trans (congrArg ends hl),?_⟩;rw [←ht'];refine ⟨h.st,rfl,rfl,rfl,h.most,?_,?_,h.bl,?_,h.out⟩
 ·show ({t.r with fs:=fs ++ [(ba nm,ba v)]}:Rec.R)= _;rw [h.r]
 ·show t.hl+1= _;rw [h.hl,List.length_append];rfl
 ·show (if Pg.headed t.st=true then t.size+(s.length+2) else t.size)= _;rw [h.st,h.size];rfl
theorem token_plain {l:List UInt8} (h:Oct.allOf [1] l=true):∀c∈l,c≠10∧c≠13:=by
 intro c hc;have h1:=List.all_eq_true.1 h c hc;constructor
 ·intro e;rw [e] at h1;exact absurd h1 (by decide)
 ·intro e;rw [e] at h1;exact absurd h1 (by decide)
theorem value_plain {l:List UInt8} (h:Oct.allOf [6] l=true):∀c∈l,c≠10∧c≠13:=by
 intro c hc;have h1:=List.all_eq_true.1 h c hc;constructor
 ·intro e;rw [e] at h1;exact absurd h1 (by decide)
 ·intro e;rw [e] at h1;exact absurd h1 (by decide)
def okF (f:Fld):Prop:=Fd.right f.1.data.toList f.2.data.toList=true
def bare (f:Fld):List UInt8:=f.1.data.toList++58::32::f.2.data.toList
theorem line_bare (f:Fld):Fd.line f=bare f ++ [13,10]:=by simp [Fd.line,bare]
theorem bare_plain {f:Fld} (h:okF f):∀c∈bare f,c≠10∧c≠13:=by
 unfold okF Fd.right at h;simp only [Bool.and_eq_true] at h;intro c hc;unfold bare at hc;rw [List.mem_append,List.mem_cons,List.mem_cons] at hc;rcases hc with hc | rfl | rfl | hc
 ·exact token_plain h.2.1 c hc
 ·decide
 ·decide
 ·exact value_plain h.2.2.1 c hc
theorem bare_ne (f:Fld):bare f≠ []:=by unfold bare;simp
theorem ba_back (v:ByteArray):ba v.data.toList=v:=by simp [ba]
theorem mh_fields:∀(gs fs:List Fld) (t:T) (n:Nat),Mh b t m x fs n o→(∀f∈gs,okF f∧(bare f).length≤Ln.mid b.x0)→((n+(Fd.put gs).length:Nat):Int)≤b.x2→((fs.length+gs.length:Nat):Int)≤b.x1→
 ∃t',(Q.live t).feed 0 b (Fd.put gs)=.live t'∧Mh b t' m x (fs++gs) (n+(Fd.put gs).length) o
 | [],fs,t,n,h,_,_,_=>⟨t,rfl,by rw [List.append_nil];exact h⟩
 | f::gs,fs,t,n,h,hg,hn,hf=>by
   have e:Fd.put (f::gs)=(bare f ++ [13,10])++Fd.put gs:=by rw [←line_bare];rfl
   have hlen:(Fd.put (f::gs)).length=((bare f).length+2)+(Fd.put gs).length:=by rw [e];simp;omega
   rw [hlen] at hn;rw [List.length_cons] at hf
   have h1:=hg f (by simp)
   obtain ⟨t1,e1,k1⟩:=mh_field h (bare_ne f) (bare_plain h1.1) h1.2 (by omega) (by omega) (Fd.parse_line (Fd.clOf 0) h1.1);rw [ba_back,ba_back] at k1
   obtain ⟨t2,e2,k2⟩:=mh_fields gs (fs ++ [(f.1,f.2)]) t1 _ k1 (fun g hm=>hg g (by simp [hm])) (by omega) (by rw [List.length_append,List.length_singleton];omega);refine ⟨t2,?_,?_⟩
   ·rw [e,feed_app,e1];exact e2
   ·rw [List.append_assoc] at k2;rw [hlen,←Nat.add_assoc];exact k2
theorem end_line (h:Mh b t m x fs n o) (hn:((n+2:Nat):Int)≤b.x2) :
 (Q.live t).feed 0 b [13,10]=ends (T.endHead 0 b (t.went {t.rd with buf:= [],last:=1,pend:=false} 2)):=by
 have e:=feed_line (p:=0) (b:=b) (t:=t) [] h.open h.buf (fun c hc=>by cases hc) (Nat.zero_le _) (by intro _;rw [h.size];exact hn)
 refine e.trans (congrArg ends ?_);refine (line_two (show (t.went {t.rd with buf:= [],last:=1,pend:=false} (([]:List UInt8).length+2)).st=2 from h.st)).trans ?_;unfold T.fields;rw [if_pos rfl];rfl
theorem end_none (h:Mh b t m x fs n o) (hn:((n+2:Nat):Int)≤b.x2) {k:Int} (hk:k≠2) (hd:Frm.decideV (Frm.clOf 0) b.ch b.x3 1 fs=(k,0,0)) :
 ∃t',(Q.live t).feed 0 b [13,10]=.live t'∧Fr b t' (o ++ [⟨ba m,ba x,1,fs,false,[],[]⟩]):=by
 have e:=end_line h hn;have he:T.endHead 0 b (t.went {t.rd with buf:= [],last:=1,pend:=false} 2)=(0,(t.went {t.rd with buf:= [],last:=1,pend:=false} 2).fin):=by
  unfold T.endHead;have hd':Frm.decideV (Frm.clOf 0) b.ch b.x3 (t.went {t.rd with buf:= [],last:=1,pend:=false} 2).r.k (t.went {t.rd with buf:= [],last:=1,pend:=false} 2).r.fs=(k,0,0):=by show Frm.decideV (Frm.clOf 0) b.ch b.x3 t.r.k t.r.fs= _;rw [h.r];exact hd
  rw [hd'];dsimp only;rw [if_neg (by decide),if_neg hk,if_pos rfl]
 rw [he] at e;refine ⟨_,e,⟨rfl,rfl,rfl,rfl,rfl,h.most,rfl,rfl,rfl,rfl,?_,rfl⟩⟩;show t.out ++ [t.r]= _;rw [h.out,h.r]
theorem end_body (h:Mh b t m x fs n o) (hn:((n+2:Nat):Int)≤b.x2) {k:Int} (hk:k≠2) (d:List UInt8) (h0:d≠ []) (hd:Frm.decideV (Frm.clOf 0) b.ch b.x3 1 fs=(k,(d.length:Int),0)) :
 ∃t',(Q.live t).feed 0 b ([13,10]++d)=.live t'∧Fr b t' (o ++ [⟨ba m,ba x,1,fs,false,d,[]⟩]):=by
 have hp:0<d.length:=List.length_pos_iff.2 h0;have e:=end_line h hn;obtain ⟨u,hu⟩:∃u,({t.went {t.rd with buf:= [],last:=1,pend:=false} 2 with left:=d.length,st:=3}:T)=u:=⟨_,rfl⟩;have he:T.endHead 0 b (t.went {t.rd with buf:= [],last:=1,pend:=false} 2)=(0,u):=by
  unfold T.endHead;have hd':Frm.decideV (Frm.clOf 0) b.ch b.x3 (t.went {t.rd with buf:= [],last:=1,pend:=false} 2).r.k (t.went {t.rd with buf:= [],last:=1,pend:=false} 2).r.fs=(k,(d.length:Int),0):=by show Frm.decideV (Frm.clOf 0) b.ch b.x3 t.r.k t.r.fs= _;rw [h.r];exact hd
  rw [hd'];dsimp only;rw [if_neg (by decide),if_neg hk,if_neg (by omega),←hu];rfl
 rw [he] at e
 have e2:=feed_body (p:=0) (b:=b) d u (by rw [←hu];rfl) h0 (by rw [←hu];exact Nat.le_refl _);rw [if_pos (by rw [←hu])] at e2;have hr:u.r=⟨ba m,ba x,1,fs,false,[],[]⟩:=by rw [←hu];exact h.r
 have hE:T.endData 0 {u with cnt:=false,r:={u.r with body:=u.r.body++d},left:=0}=({u with cnt:=false,r:={u.r with body:=u.r.body++d},left:=0}:T).fin:=by unfold T.endData;rw [if_neg (by rw [hr];simp)]
 rw [hE] at e2;refine ⟨_,by rw [feed_app,e];exact e2,⟨rfl,?_,?_,?_,?_,?_,rfl,rfl,rfl,rfl,?_,rfl⟩⟩
 ·show u.rd.pend=false;rw [←hu];rfl
 ·show Ln.failed u.rd.last=false;rw [←hu];rfl
 ·show u.rd.clear.buf= [];rw [←hu];rfl
 ·show (decide (u.rd.len=0) && !u.rd.pend)=true;rw [←hu];rfl
 ·show u.rd.most= _;rw [←hu];exact h.most
 ·show u.out ++ [{u.r with body:=u.r.body++d}]= _;rw [hr,←hu];show t.out ++ _= _;rw [h.out];rfl
end
end Go.Proofs.YtnabkcglnbdfeaaGreatDoor.Can
