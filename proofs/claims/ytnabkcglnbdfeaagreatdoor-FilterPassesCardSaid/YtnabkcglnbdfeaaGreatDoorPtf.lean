import Derived.Test.YtnabkcglnbdfeaaGreatDoorPte
set_option linter.unusedSimpArgs false
open Array renaming getD_eq_getD_getElem?→Ag
open Bool renaming and_eq_true→As,and_false→Au,eq_iff_iff→Ay,false_eq_true→A4,not_eq_true'→A7
open ByteArray renaming empty→AG,size_append→AH
open Go.Act renaming put→Ab
open Go.Lib renaming extract_data→BK,hid→BN
open Go.Proofs.Tryz renaming prog→Gq,underlying22→GI,underlying5→GQ,underlying9→GS
open Go.Proofs.YtnabkcglnbdfeaaGreatDoor.Base renaming below_drewN→Ak,below_step→Al,some_undef→An
open Go.Proofs.YtnabkcglnbdfeaaGreatDoor.Chk renaming sizeV→AK
open Go.Proofs.YtnabkcglnbdfeaaGreatDoor.Each renaming Goes→AO,fine→AY,putg→Be
open Go.Proofs.YtnabkcglnbdfeaaGreatDoor.Each.Goes renaming enter→AP
open Go.Proofs.YtnabkcglnbdfeaaGreatDoor.Each.Lasts renaming eq→AT
open Go.Proofs.YtnabkcglnbdfeaaGreatDoor.Each.LastsTwo renaming pure→AW
open Go.Proofs.YtnabkcglnbdfeaaGreatDoor.Flt.F renaming feed→Bj
open Go.Proofs.YtnabkcglnbdfeaaGreatDoor.Frm renaming decideV→Bs
open Go.Proofs.YtnabkcglnbdfeaaGreatDoor.Ln renaming own_slice→Dw,row_frozen→Dy
open Go.Proofs.YtnabkcglnbdfeaaGreatDoor.Mem.Keeps renaming of_below→BD,set→BF
open Go.Proofs.YtnabkcglnbdfeaaGreatDoor.Mem.Of renaming refl→DT
open Go.Proofs.YtnabkcglnbdfeaaGreatDoor.Oct renaming allOf→DG
open Go.Proofs.YtnabkcglnbdfeaaGreatDoor.Par.Step renaming of_below→EH,set→EJ
open Go.Proofs.YtnabkcglnbdfeaaGreatDoor.Qk renaming has→Ei,rhas_any→Ek
open Go.Proofs.YtnabkcglnbdfeaaGreatDoor.Rec renaming Bk→El,R→Eo,wraps→Et
open Go.Proofs.YtnabkcglnbdfeaaGreatDoor.Rec.Bk renaming new→Em
open Go.Proofs.YtnabkcglnbdfeaaGreatDoor.Tree renaming change→Fi,done→Fj,grow→Fk,put1→Fl,quiet→Fm
open Go.Proofs.YtnabkcglnbdfeaaGreatDoor.Txt renaming blank→He
open Go.RowKit.Below renaming refl→Ao
open Go.World renaming ownsRow_nil→Hp
open Go.World.ownsRow renaming lt→Ho
open List renaming append_nil→Cb,drop_eq_getElem_cons→Co,getElem?_cons_succ→Cy,getElem?_cons_zero→Cz,getElem?_eq_getElem→C0,getElem?_map→C3,getElem?_toArray→C6,getElem_mem→C8,length_append→CG,length_drop→CI,length_map→CK,length_take→CO,mem_append→CS,mem_cons→CV,mem_singleton→Dc,not_mem_nil→De,setIfInBounds_toArray→Di,set_cons_succ→Dk,set_cons_zero→Dl,take_append_drop→Do,take_of_length_le→Dp,take_succ_eq_append_getElem→Dq
open Nat renaming eq_zero_or_pos→D3,le_of_lt→D4,le_refl→D5,le_trans→D7,lt_of_lt_of_le→D8,lt_or_ge→D9,zero_add→DB,zero_le→DC
open Option renaming getD_some→DV,some→DX
open UInt8 renaming toNat_inj→Hg
open Go.Value renaming int→ZZ,string→ZY,slice→ZX,bool→ZW,pointer→ZV,agg→ZU,tuple→ZT
open Go.IntKind renaming i64→ZS,u8→ZR,u32→ZQ
namespace Go.Proofs.YtnabkcglnbdfeaaGreatDoor.Flt
open Go.RowKit Base Txt Mem Par Pg Each
abbrev fcells (g1 g2:Nat) (code:Nat) (pt:Bool):List Value:= [ptr g1,ptr g2,ZZ ZS (code:Int),ZW pt]
structure FAt (w:World) (B g g1 g2 p:Nat) (b:Bd) (L1 L2:List (Option Nat)) (f:F):Prop where
 row:w.heap[g]?=some (.cells (fcells g1 g2 f.code f.parted).toArray 80 (0,0))
 x:∃Z,At w ⟨B,Z⟩ g1 0 b L1 f.x
 y:∃Z,At w ⟨B,Z⟩ g2 p b L2 f.y
 dis:Dis L1 L2
 n1:some g∉L1
 n2:some g∉L2
 ge:B<=g
 xo:f.x.out= []
 yo:f.y.out= []
 xk:f.x.Ok b
 yk:f.y.Ok b
abbrev fblks (g:Nat) (L1 L2:List (Option Nat)):List (Option Nat):=some g::(L1++L2)
section
variable {w w':World} {B g g1 g2 p:Nat} {b:Bd} {L1 L2 M:List (Option Nat)} {f:F}
theorem FAt.keeps (h:FAt w B g g1 g2 p b L1 L2 f) (hk:Keeps M w w') (hd:Dis (fblks g L1 L2) M):FAt w' B g g1 g2 p b L1 L2 f:=
 ⟨hk.row h.row (hd g (by simp)),h.x.imp λ_ h1=>h1.keeps h.xo hk λk hk=>hd k (by simp [hk]),h.y.imp λ_ h1=>h1.keeps h.yo hk λk hk=>hd k (by simp [hk]),h.dis,h.n1,h.n2,h.ge,h.xo,h.yo,h.xk,h.yk⟩
theorem FAt.in (h:FAt w B g g1 g2 p b L1 L2 f):In w (fblks g L1 L2):=by
 intro k hk;obtain ⟨_,hx⟩:=h.x;obtain ⟨_,hy⟩:=h.y;simp only [CV,CS,DX.injEq] at hk;rcases hk with rfl | hk | hk
 ·exact Ln.row_lt h.row
 ·exact hx.in k hk
 ·exact hy.in k hk
theorem FAt.low (h:FAt w B g g1 g2 p b L1 L2 f):∀k,some k∈fblks g L1 L2->B<=k:=by
 intro k hk;obtain ⟨_,hx⟩:=h.x;obtain ⟨_,hy⟩:=h.y;simp only [CV,CS,DX.injEq] at hk;rcases hk with rfl | hk | hk
 ·exact h.ge
 ·exact hx.low k hk
 ·exact hy.low k hk
structure Fix (M:List (Option Nat)) (w:World) (g:Nat) (cs:List Value):Prop where
 row:∃ty,w.heap[g]?=some (.cells cs.toArray ty (0,0))
 off:some g∉M
theorem Fix.below {cs:List Value} (h:Fix M w g cs) (hk:Keeps M w w'):Fix M w' g cs:=⟨h.row.imp λ_ h1=>hk.row h1 h.off,h.off⟩
theorem Fix.c {cs:List Value} (h:Fix M w g cs) (k:Nat) (v:Value) (hv:cs[k]?=some v):w.cell? ⟨g,k,none⟩=some v:=by obtain ⟨_,h1⟩:=h.row;exact row_cellL h1 hv
def OneBy (M:List (Option Nat)) (a:Option Addr) (c:Nat):Fact:=λv w=>∃k,v=ZX (some ⟨k,0,none⟩) 1 1/\k<w.heap.size/\some k∉M/\w.cell? ⟨k,0,none⟩=some (.slice a 1 c)
theorem OneBy.lasts {l:List Oper} {A' C':World->List (Option Nat)->Prop} {i1 i2 k:Nat} {a:Option Addr} {c:Nat}:LastsTwo l A' C' L1 L2 i1 i2 k (OneBy (L1++L2) a c):=
 LastsTwo.keeps λ_ _ _ _ hM hk ⟨j,e,h1,h2,h3⟩=>⟨j,e,D8 h1 hk.size,h2,(hk.cell (p:=⟨j,0,none⟩) h1 λhm=>h2 (hM j hm)).trans h3⟩
def ToldBy (A' C C':World->List (Option Nat)->Prop) (L2 Z:List (Option Nat)) (B:Nat) (out:List Eo):Fact:=λv w=>∃M1 M2,A' w M1/\(C w M2∨C' w M2)/\Dis M1 L2/\Pg.Told M1 ⟨B,L2++(M2++Z)⟩ w v out
variable {A A' C C':World->List (Option Nat)->Prop} {Z:List (Option Nat)} {out:List Eo} {i1 i2 k:Nat} {l:List Oper}
theorem ToldBy.below (hA:Thing A A') (hC:Thing C C') {v:Value} (h:ToldBy A' C C' L2 Z B out v w) (hb:Below w.heap.size w w'):ToldBy A' C C' L2 Z B out v w':=by obtain ⟨M1,M2,h1,h2,h3,h4⟩:=h;have hk:Keeps [] w w':=BD hb;exact ⟨M1,M2,hA.keeps' h1 hk (by simp),hC.now h2 hk (by simp),h3,h4.keeps hk (by simp)⟩
theorem ToldBy.step (hA:Thing A A') {v:Value} (h:ToldBy A' C C' L2 Z B out v w) {M:List (Option Nat)} (hM:C' w' M) (hs:Step L2 M w w'):ToldBy A' C C' L2 Z B out v w':=by
 obtain ⟨M1,M2,h1,h2,h3,h4⟩:=h;have h5:Pg.Told M1 ⟨B,L2++(M++Z)⟩ w v out:=h4.rezone λk hk=>by
  rw [CS,CS] at hk;show some k∈L2++(M2++Z)∨_;rw [CS,CS];rcases hk with hk | hk | hk
  ·exact .inl (.inl hk)
  ·exact (hs.of k hk).imp .inl id
  ·exact .inl (.inr (.inr hk))
 exact ⟨M1,M,hA.keeps' h1 hs.keeps h3,.inr hM,h3,h5.keeps hs.keeps λk hk=>List.mem_append_left _ hk⟩
theorem ToldBy.first (hA:Thing A A') (hC:Thing C C') (hk:k=i1∨waits l k i1=true):LastsTwo l A' C' L1 L2 i1 i2 k (ToldBy A' C C' L2 Z B out):=
 ⟨λ_ _ _ hb h=>h.below hA hC hb,λh1 h2=>absurd hk (by rw [h2];simpa using h1),λ_ _ _ _ _ _ hM hs h=>h.step hA hM hs⟩
theorem ToldBy.second (hA:Thing A A') (hC:Thing C C') (hk:k=i2∨waits l k i2=true):LastsTwo l A' C' L1 L2 i1 i2 k (ToldBy C' A A' L1 Z B out):=
 ⟨λ_ _ _ hb h=>h.below hC hA hb,λ_ _ _ _ _ _ hM hs h=>h.step hC hM hs,λh1 h2=>absurd hk (by rw [h2];simpa using h1)⟩
theorem told_widen {B:Zone} {L L':List (Option Nat)} {v:Value} (h:Pg.Told L B w v out) (hL:∀k,some k∈L'->some k∈L∨some k∈B.z):Pg.Told L' B w v out:=by
 obtain ⟨ps,h1,h2,h3⟩:=h.outs;refine ⟨⟨ps,h1,λx hx=>⟨(h2 x hx).1,(h2 x hx).2.reads,λk hb=>⟨λhm=>?_,((h2 x hx).2.far k hb).2⟩,(h2 x hx).2.off⟩,h3⟩,λk e=>⟨λhm=>?_,(h.far k e).2⟩,h.off⟩
 ·rcases hL k hm with e | e
  ·exact ((h2 x hx).2.far k hb).1 e
  ·exact (h2 x hx).2.off k hb e
 ·rcases hL k hm with e1 | e1
  ·exact (h.far k e).1 e1
  ·exact h.off k e e1
theorem told_recs {B:Zone} {L:List (Option Nat)} {v:Value} (h:Pg.Told L B w v out):∃a c,v=.slice a out.length c/\Rec.Recs w a out.length out:=by
 obtain ⟨a,c,e,hc⟩:=h.at;refine ⟨a,c,e,rfl,λh0=>?_⟩;obtain ⟨bk,e1,hlt,h1⟩:=hc h0;refine ⟨bk,0,e1,hlt,λk hk=>?_⟩;obtain ⟨fa,fc,ba,bc,ta,tc,f1,f2,f3,c0,c1,c2,c3,c4,c5,c6⟩:=h1 k hk;have e2:out[k]?.getD Rec.r0=out[k]:=by rw [C0 hk];rfl
 rw [e2,DB];exact ⟨fa,fc,ba,bc,ta,tc,⟨c0,c1,c2,c3,c4,c5,c6⟩,fa,fc,ba,bc,ta,tc,rfl,f1,f2,f3⟩
theorem OneBy.made {W w1:World} (hin:∀k,some k∈M->k<W.heap.size) (hk:Keeps M W w1) (a:Option Addr) (c:Nat) (ty:TypeId):OneBy M a c (ZX (some ⟨w1.heap.size,0,none⟩) 1 1) (w1.alloc (.cells #[.slice a 1 c] ty)):=by
 refine ⟨w1.heap.size,rfl,by simp,λhm=>?_,?_⟩
 ·have:=hin _ hm;have:=hk.size;omega
 ·exact (cell_of_row (w1.alloc (.cells #[.slice a 1 c] ty)) w1.heap.size 0 _ ty (0,0) (heap_alloc_new w1 _)).trans rfl
theorem clear_app {Z Z' L:List (Option Nat)} (h:Clear w Z L) (h':Clear w Z' L):Clear w (Z++Z') L:=
 ⟨λk hk=>(CS.1 hk).elim (h.inz k) (h'.inz k),λk hk hz=>(CS.1 hz).elim (h.off k hk) (h'.off k hk)⟩
theorem clear_cons {Z L:List (Option Nat)} (hg:g<w.heap.size) (hn:some g∉L) (h:Clear w Z L):Clear w (some g::Z) L:=
 ⟨λk hk=>by
   rcases CV.1 hk with e | e
   ·cases e;exact hg
   ·exact h.inz k e,λk hk hz=>by
   rcases CV.1 hz with e | e
   ·cases e;exact hn hk
   ·exact h.off k hk e⟩
theorem clear_dis {Z L:List (Option Nat)} (hin:In w Z) (hd:Dis L Z):Clear w Z L:=⟨hin,hd⟩
theorem clear_sub {Z L L':List (Option Nat)} (h:Clear w Z L) (hs:∀k,some k∈L'->some k∈L):Clear w Z L':=⟨h.inz,λk hk=>h.off k (hs k hk)⟩
theorem bts_sub {L L':List (Option Nat)} {a:Option Addr} {s:List UInt8} (h:Bts L w a s) (hs:∀k,some k∈L'->some k∈L):Bts L' w a s:=⟨h.nums,λad e=>⟨λhm=>(h.far ad e).1 (hs _ hm),(h.far ad e).2⟩⟩
theorem bts_keeps {L:List (Option Nat)} {a:Option Addr} {s:List UInt8} (h:Bts L w a s) (hk:Keeps L w w'):Bts L w' a s:=h.step ⟨hk,DT⟩
theorem feed_one {X:Q} {Z:List (Option Nat)} {L:List (Option Nat)} (hp:p<4294967296) (hA:At w ⟨B,Z⟩ g p b L X) (xo:X.out= []) (xk:X.Ok b) (k:Nat) {a:Option Addr} {c:Nat} {ch:UInt8} (hc:w.cell? ⟨k,0,none⟩=some (.slice a 1 c)) (hk:k<w.heap.size) (hkL:some k∉L)
 (hbt:Bts L w a [ch]) (Z':List (Option Nat)) (hz:Clear w Z' L):Calls Gq 20 #[ptr g,ZX (some ⟨k,0,none⟩) 1 1] w λr w'=>∃v L',r=.returned v/\At w' ⟨B,Z'⟩ g p b L' (X.byte p b ch).told/\Pg.Told L' ⟨B,Z'⟩ w' v (X.byte p b ch).out/\Step L L' w w':=by
 have hpa:Parts L w (some ⟨k,0,none⟩) [[ch]]:=⟨λ_=>⟨k,0,rfl,hk,hkL,λj hj=>by
  obtain rfl:j=0:=by have:j<1:=hj;omega
  exact ⟨a,c,hc,hbt⟩⟩⟩
 have:=feed_any hp X (hA.rezone xo hz) xk (some ⟨k,0,none⟩) 1 [[ch]] hpa (by simp) (by rw [xo];simp);exact this
theorem told_nil (L:List (Option Nat)) (B:Zone) (w:World):Pg.Told L B w (ZX none 0 0) []:=⟨⟨[],rfl,(by intro x hx;cases hx),Hp _ _ _ _⟩,(λk e=>by cases e),(λk e=>by cases e)⟩
end
end Go.Proofs.YtnabkcglnbdfeaaGreatDoor.Flt
namespace Go.Proofs.YtnabkcglnbdfeaaGreatDoor.Flt
open Go.RowKit Base Txt Mem Par Pg Each
section
set_option maxHeartbeats 4000000
set_option maxRecDepth 20000
attribute [local go_sem] An
variable {w:World} {B g g1 g2 p:Nat} {b:Bd} {L1 L2:List (Option Nat)} {f:F}
theorem verdict_any (g:Nat) (e:Nat) (h:w.cell? ⟨g,2,none⟩=some (ZZ ZS (e:Int))):Calls Gq 38 #[ZV (some ⟨g,2,none⟩)] w λr w'=>r=.returned (ZZ ZS (if e=0 then 1 else 2))/\w'=w:=by
 by_cases h0:e=0
 ·subst h0;rw [if_pos rfl];go_enter Tryz.func38,Tryz.ntmps38;go_wp2;go_ret;exact ⟨rfl,rfl⟩
 ·rw [if_neg h0]
  have t1:((e:Int)==0)=false:=beq_eq_false_iff_ne.2 (by omega);go_enter Tryz.func38,Tryz.ntmps38;go_wp2;go_ret;exact ⟨rfl,rfl⟩
theorem code_any (g:Nat) (e:Nat) (h:w.cell? ⟨g,2,none⟩=some (ZZ ZS (e:Int))):Calls Gq 39 #[ZV (some ⟨g,2,none⟩)] w λr w'=>r=.returned (ZZ ZS (e:Int))/\w'=w:=by go_enter Tryz.func39,Tryz.ntmps39;go_wp2;go_ret;exact ⟨rfl,rfl⟩
theorem parted_any (g:Nat) (e:Bool) (h:w.cell? ⟨g,3,none⟩=some (ZW e)):Calls Gq 40 #[ZV (some ⟨g,2,none⟩)] w λr w'=>r=.returned (ZW e)/\w'=w:=by go_enter Tryz.func40,Tryz.ntmps40;go_wp2;go_ret;exact ⟨rfl,rfl⟩
theorem FAt.c (h:FAt w B g g1 g2 p b L1 L2 f):w.cell? ⟨g,0,none⟩=some (ptr g1)/\w.cell? ⟨g,1,none⟩=some (ptr g2)/\w.cell? ⟨g,2,none⟩=some (ZZ ZS (f.code:Int))/\w.cell? ⟨g,3,none⟩=some (ZW f.parted):=
 ⟨row_cellL h.row rfl,row_cellL h.row rfl,row_cellL h.row rfl,row_cellL h.row rfl⟩
theorem XXF4o {P:Prop} (h:P:=by
 go_enter Tryz.func127,Tryz.ntmps127;go_wp2;first | go_end0 | skip
 first
  |exact ⟨rfl,H0.out,Keeps.refl⟩
  |exact ⟨rfl,(HP _ _).out,(HK _ _).out⟩):P:=h
theorem judge_any (g g1 g2 e:Nat) (pt:Bool) (s l:Nat) (al:Bool) (h:w.heap[g]?=some (.cells (fcells g1 g2 e pt).toArray 80 (0,0))) (f:F) (he:f.code=e) (hp:f.parted=pt) :
 Calls Gq 127 #[ZV (some ⟨g,2,none⟩),ZZ ZS (s:Int),ZZ ZS (l:Int),ZW al] w λr w'=>r=.returned (ZT #[])/\w'.heap[g]?=some (.cells (fcells g1 g2 (f.judge s l al).code (f.judge s l al).parted).toArray 80 (0,0))/\Keeps [some g] w w':=by
 have c2:=row_cellL h (k:=2) rfl;have z2:=Dy h 2;have c3:=row_cellL h (k:=3) rfl;have z3:=Dy h 3
 have HP:=λ(x y:Value)=>BN (show ((w.setCell ⟨g,2,none⟩ x).setCell ⟨g,3,none⟩ y).heap[g]?=some (.cells ([ptr g1,ptr g2,x,y]:List Value).toArray 80 (0,0)) from row_setL (row_setL h 2 x) 3 y)
 have HK:=λ(x y:Value)=>BN (show Keeps [some g] w ((w.setCell ⟨g,2,none⟩ x).setCell ⟨g,3,none⟩ y) from (BF g 2 x (by simp)).trans (BF g 3 y (by simp)) DT);have H0:=BN h;unfold F.judge;clear h;by_cases hs:s=0
 ·subst hs;have hs':¬(0:Nat)≠0:=λhn=>hn rfl;simp only [if_neg hs'];clear hs';by_cases hl:l=0
  ·subst hl;have e2:((0:Nat)==0)=true:=rfl;rw [e2];cases al with
   | true=>
     simp only [Bool.not_true,Bool.or_self,A4,if_false,he,hp];clear he hp e2;rw [show (((0:Nat):Int))=0 from rfl];exact XXF4o
   | false=>
     simp only [Bool.not_true,Bool.not_false,Bool.or_true,if_true];clear he hp e2;rw [show (((0:Nat):Int))=0 from rfl];exact XXF4o
  ·have t2:((l:Int)==0)=false:=beq_eq_false_iff_ne.2 (by omega);have n2:((l:Int) != 0)=true:=by show (!((l:Int)==0))=true;rw [t2];rfl
   have e2:(l==0)=false:=beq_eq_false_iff_ne.2 hl;rw [e2];simp only [Bool.not_false,Bool.true_or,if_true];clear hl he hp e2;rw [show (((0:Nat):Int))=0 from rfl];exact XXF4o
 ·have t1:((s:Int)==0)=false:=beq_eq_false_iff_ne.2 (by omega);have n1:((s:Int) != 0)=true:=by show (!((s:Int)==0))=true;rw [t1];rfl
  have hs':s≠0:=hs;simp only [if_pos hs'];have e2:(l==0)=((l:Int)==0):=by rw [Ay,beq_iff_eq,beq_iff_eq];omega
  rw [e2];clear hs hs' he hp e2;exact XXF4o
abbrev Has (B g p:Nat) (b:Bd) (X:Q):World->List (Option Nat)->Prop:=λw L=>∃Z,At w ⟨B,Z⟩ g p b L X
theorem told_err (x:Q):x.told.err=x.err:=by cases x<;>rfl
theorem XXwkZ {P:Prop} (h:P:=by refine AY rfl (λev w1 hR hb hh=>?_);have e0:=hR.old 0 rfl;have e7:=hR.old 7 rfl;simp only [Ag,C6,Cy,Cz,DV] at e0 e7;have q0:=(HF3.out.below hb).c 0 _ rfl;have q1:=(HF3.out.below hb).c 1 _ rfl;exact Each.std):P:=h
theorem XXpYW {P:Prop} (h:P:=by
 clear hh
 exact AO.value (ZX (some ⟨w1.heap.size,0,none⟩) 1 1) (w1.alloc (.cells #[.slice a 1 c] 22)) (by go_simp) ((Ao _ _).alloc (D5 _) _) (OneBy.made HIN.out hb a c _)):P:=h
theorem look_any (hp:p<4294967296) (h:FAt w B g g1 g2 p b L1 L2 f) (Z:List (Option Nat)) (hZ:Clear w Z (fblks g L1 L2)) (a:Option Addr) (c:Nat) (ch:UInt8) (hbt:Bts (fblks g L1 L2) w a [ch]) :
 Calls Gq 86 #[ptr g,.slice a 1 c] w λr w'=>∃v M1 M2,r=.returned v/\FAt w' B g g1 g2 p b M1 M2 (f.look p b ch).1/\Pg.Told (fblks g M1 M2) ⟨B,Z⟩ w' v (f.look p b ch).2/\Step (fblks g L1 L2) (fblks g M1 M2) w w':=by
 obtain ⟨X',hX⟩:∃X',f.x.byte 0 b ch=X':=⟨_,rfl⟩;obtain ⟨Y',hY⟩:∃Y',f.y.byte p b ch=Y':=⟨_,rfl⟩;have hdw:Below w.heap.size w (w.drewN 1):=Ak (Ao w.heap.size w) 1;have HX:=BN hX;have HY:=BN hY;have HXO:=BN h.xo;have HYO:=BN h.yo;have HXK:=BN h.xk;have HYK:=BN h.yk
 have HTA:=BN (show Thing (Has B g1 0 b f.x) (Has B g1 0 b X'.told) from obj_at (B:=⟨B,[]⟩) h.xo (told_out _))
 have HTC:=BN (show Thing (Has B g2 p b f.y) (Has B g2 p b Y'.told) from obj_at (B:=⟨B,[]⟩) h.yo (told_out _))
 have HA0:=BN (show Has B g1 0 b f.x w L1 from h.x);have HC0:=BN (show Has B g2 p b f.y w L2 from h.y);have HD:=BN h.dis;have HN1:=BN h.n1;have HN2:=BN h.n2;have HZC:=BN hZ;have HGE:=BN h.ge
 have HF0:=BN (show Fix (L1++L2) w g (fcells g1 g2 f.code f.parted) from ⟨⟨_,h.row⟩,λhm=>(CS.1 hm).elim h.n1 h.n2⟩)
 have HF:=BN (HF0.out.below (BD hdw));have HROW:=BN h.row
 have HIN:=BN (show∀k,some k∈L1++L2->k<(w.drewN 1).heap.size from λk hk=>h.in k (List.mem_cons_of_mem _ hk))
 have HGL:=BN (show g<(w.drewN 1).heap.size from Ln.row_lt h.row)
 have HBT:=BN (show Bts (L1++L2) (w.drewN 1) a [ch] from bts_keeps (bts_sub hbt λk hk=>List.mem_cons_of_mem _ hk) (BD hdw));have elk:f.look p b ch=(F.judge ⟨X'.told,Y'.told,f.code,f.parted⟩ X'.err Y'.err (Rec.all X'.out Y'.out),if Rec.all X'.out Y'.out=true then X'.out else []):=by unfold F.look;rw [hX,hY]
 have HFX:=BN (show Fits X'.out from hX ▸ byte_fits (by rw [h.xo];intro r hr;cases hr) h.xk ch)
 have HFY:=BN (show Fits Y'.out from hY ▸ byte_fits (by rw [h.yo];intro r hr;cases hr) h.yk ch)
 have HKX:=BN (show X'.told.Ok b from hX ▸ told_ok (Q.Ok.byte h.xk ch));have HKY:=BN (show Y'.told.Ok b from hY ▸ told_ok (Q.Ok.byte h.yk ch))
 have HLX:=BN (show X'.out.length<=2 from hX ▸ (by have:=Q.byte_out (p:=0) (b:=b) f.x ch;rw [h.xo] at this;simpa using this));have HLY:=BN (show Y'.out.length<=2 from hY ▸ (by have:=Q.byte_out (p:=p) (b:=b) f.y ch;rw [h.yo] at this;simpa using this));obtain ⟨al,hal⟩:∃al,Rec.all X'.out Y'.out=al:=⟨_,rfl⟩;rw [elk,hal];have HAL5:=BN hal;clear h hZ hbt hX hY elk hdw hal;go_enter Tryz.func86,Tryz.ntmps86;go_upto_region 1 with fail
 refine Each.region_two 18 [8,9,10,11,12,13,14,15,16,17,18,19,20,21,22,23,5,6]
  [eP g 0,
    eP g 0,
    eP g 0,
    eP g 0,
    eP g1 0,
    eQ (.slice a 1 c),
    OneBy (L1++L2) a c,
    ToldBy (Has B g1 0 b X'.told) (Has B g2 p b f.y) (Has B g2 p b Y'.told) L2 (some g::Z) B X'.out,
    eP g 0,
    eP g 0,
    eP g 0,
    eP g 1,
    eP g2 0,
    eQ (.slice a 1 c),
    OneBy (L1++L2) a c,
    ToldBy (Has B g2 p b Y'.told) (Has B g1 0 b f.x) (Has B g1 0 b X'.told) L1 (some g::Z) B Y'.out,
    ToldBy (Has B g1 0 b X'.told) (Has B g2 p b f.y) (Has B g2 p b Y'.told) L2 (some g::Z) B X'.out,
    ToldBy (Has B g2 p b Y'.told) (Has B g1 0 b f.x) (Has B g1 0 b X'.told) L1 (some g::Z) B Y'.out]
  7 15 HTA.out HTC.out HA0.out HC0.out HD.out (by kernel_rfl) (by kernel_rfl) (by kernel_rfl) (by kernel_rfl) (λ_ _ d _ _ h=>by cases d<;>exact h) (by rfl) (by rfl) (by rfl)
  ⟨(AW _ _),(AW _ _),(AW _ _),(AW _ _),(AW _ _),(AW _ _),OneBy.lasts,ToldBy.first HTA.out HTC.out (.inl rfl),(AW _ _),(AW _ _),(AW _ _),(AW _ _),(AW _ _),(AW _ _),OneBy.lasts,ToldBy.second HTA.out HTC.out (.inl rfl),ToldBy.first HTA.out HTC.out (.inr (by rfl)),ToldBy.second HTA.out HTC.out (.inr (by rfl)),trivial⟩ ?_ ?_
 ·refine ⟨?_,?_,?_,?_,?_,?_,?_,?_,?_,?_,?_,?_,?_,?_,?_,?_,?_,?_,trivial⟩
  ·refine Each.fine_two (by decide) (by decide) rfl (λev w1 hR hb hh=>?_);clear hh;have e0:=hR.old 0 rfl;simp only [Ag,C6,Cz,DV] at e0;exact XXqTe
  ·refine Each.fine_two (by decide) (by decide) rfl (λev w1 hR hb hh=>?_);have e8:ev (.tmp 8)= _:=hh.at 0;clear hh;exact XXqTe
  ·refine Each.fine_two (by decide) (by decide) rfl (λev w1 hR hb hh=>?_);have e9:ev (.tmp 9)= _:=hh.at 0;clear hh;exact XXqTe
  ·refine Each.fine_two (by decide) (by decide) rfl (λev w1 hR hb hh=>?_);have e10:ev (.tmp 10)= _:=hh.at 0;clear hh;exact XXqTe
  ·refine Each.fine_two (by decide) (by decide) rfl (λev w1 hR hb hh=>?_);have e11:ev (.tmp 11)= _:=hh.at 0;clear hh;have q0:=(HF.out.below hb).c 0 _ rfl;exact XXqTe
  ·refine Each.fine_two (by decide) (by decide) rfl (λev w1 hR hb hh=>?_);clear hh;have e1:=hR.old 1 rfl;simp only [Ag,C6,Cy,Cz,DV] at e1;exact XXqTe
  ·refine Each.fine_two (by decide) (by decide) rfl (λev w1 hR hb hh=>?_);have e13:ev (.tmp 13)= _:=hh.at 0;exact XXpYW
  ·refine Each.fine_first rfl (λev w1 M2 hR hb hA hC hd hh=>?_);have e12:ev (.tmp 12)= _:=hh.at 0;have e14:((OneBy (L1++L2) a c) (ev (.tmp 14)) w1):=hh.at 1;clear hh;have ef:=hR.func;obtain ⟨k,ek,hkl,hkn,hkc⟩:=e14;obtain ⟨Z1,hA⟩:=hA;have hsz:=hb.size;have hi2:In w1 L2:=λk hk=>D8 (HIN.out k (List.mem_append_right _ hk)) hsz
   have hcl:Clear w1 (L2++(M2++(some g::Z))) L1:=clear_app (clear_dis hi2 HD.out) (clear_app (clear_dis (HTC.out.in hC) hd) (clear_cons (D8 HGL.out hsz) HN1.out ⟨λk hk=>D8 (HZC.out.inz k hk) hsz,λk hk=>HZC.out.off k (List.mem_cons_of_mem _ (List.mem_append_left _ hk))⟩));have hbt:Bts L1 w1 a [ch]:=bts_sub (bts_keeps HBT.out hb) λk hk=>List.mem_append_left _ hk
   refine Each.GoesR.enter 20 #[ptr g1,ZX (some ⟨k,0,none⟩) 1 1] (by go_simp) ((feed_one (p:=0) (by decide) hA HXO.out HXK.out k hkc hkl (λhm=>hkn (List.mem_append_left _ hm)) hbt _ hcl).mono ?_);rintro r w2 ⟨v,N1,rfl,h1,h2,h3⟩;rw [HX.out] at h1 h2;exact ⟨v,rfl,⟨N1,⟨_,h1⟩,h3⟩,N1,M2,⟨_,h1⟩,HTC.out.now hC h3.keeps hd.symm,(HD.out.symm.of hi2 h3.of).symm,h2⟩
  ·refine Each.fine_two (by decide) (by decide) rfl (λev w1 hR hb hh=>?_);clear hh;have e0:=hR.old 0 rfl;simp only [Ag,C6,Cz,DV] at e0;exact XXqTe
  ·refine Each.fine_two (by decide) (by decide) rfl (λev w1 hR hb hh=>?_);have e16:ev (.tmp 16)= _:=hh.at 0;clear hh;exact XXqTe
  ·refine Each.fine_two (by decide) (by decide) rfl (λev w1 hR hb hh=>?_);have e17:ev (.tmp 17)= _:=hh.at 0;clear hh;exact XXqTe
  ·refine Each.fine_two (by decide) (by decide) rfl (λev w1 hR hb hh=>?_);have e18:ev (.tmp 18)= _:=hh.at 0;clear hh;exact XXqTe
  ·refine Each.fine_two (by decide) (by decide) rfl (λev w1 hR hb hh=>?_);have e19:ev (.tmp 19)= _:=hh.at 0;clear hh;have q1:=(HF.out.below hb).c 1 _ rfl;exact XXqTe
  ·refine Each.fine_two (by decide) (by decide) rfl (λev w1 hR hb hh=>?_);clear hh;have e1:=hR.old 1 rfl;simp only [Ag,C6,Cy,Cz,DV] at e1;exact XXqTe
  ·refine Each.fine_two (by decide) (by decide) rfl (λev w1 hR hb hh=>?_);have e21:ev (.tmp 21)= _:=hh.at 0;exact XXpYW
  ·refine Each.fine_second (by decide) rfl (λev w1 M1 hR hb hC hA hd hh=>?_);have e20:ev (.tmp 20)= _:=hh.at 0;have e22:((OneBy (L1++L2) a c) (ev (.tmp 22)) w1):=hh.at 1;clear hh;have ef:=hR.func;obtain ⟨k,ek,hkl,hkn,hkc⟩:=e22;obtain ⟨Z1,hC⟩:=hC;have hsz:=hb.size;have hi2:In w1 L1:=λk hk=>D8 (HIN.out k (List.mem_append_left _ hk)) hsz
   have hcl:Clear w1 (L1++(M1++(some g::Z))) L2:=clear_app (clear_dis hi2 HD.out.symm) (clear_app (clear_dis (HTA.out.in hA) hd) (clear_cons (D8 HGL.out hsz) HN2.out ⟨λk hk=>D8 (HZC.out.inz k hk) hsz,λk hk=>HZC.out.off k (List.mem_cons_of_mem _ (List.mem_append_right _ hk))⟩));have hbt:Bts L2 w1 a [ch]:=bts_sub (bts_keeps HBT.out hb) λk hk=>List.mem_append_right _ hk
   refine Each.GoesR.enter 20 #[ptr g2,ZX (some ⟨k,0,none⟩) 1 1] (by go_simp) ((feed_one hp hC HYO.out HYK.out k hkc hkl (λhm=>hkn (List.mem_append_right _ hm)) hbt _ hcl).mono ?_);rintro r w2 ⟨v,N1,rfl,h1,h2,h3⟩;rw [HY.out] at h1 h2;exact ⟨v,rfl,⟨N1,⟨_,h1⟩,h3⟩,N1,M1,⟨_,h1⟩,HTA.out.now hA h3.keeps hd.symm,(HD.out.of hi2 h3.of).symm,h2⟩
  ·refine Each.fine_two (by decide) (by decide) rfl (λev w1 hR hb hh=>?_);have e15:((ToldBy (Has B g1 0 b X'.told) (Has B g2 p b f.y) (Has B g2 p b Y'.told) L2 (some g::Z) B X'.out) (ev (.tmp 15)) w1):=hh.at 0;clear hh;exact AO.value (ev (.tmp 15)) w1 (by go_simp) (Ao _ _) e15
  ·refine Each.fine_two (by decide) (by decide) rfl (λev w1 hR hb hh=>?_);have e23:((ToldBy (Has B g2 p b Y'.told) (Has B g1 0 b f.x) (Has B g1 0 b X'.told) L1 (some g::Z) B Y'.out) (ev (.tmp 23)) w1):=hh.at 0;clear hh;exact AO.value (ev (.tmp 23)) w1 (by go_simp) (Ao _ _) e23
 intro ga w2 M1 M2 hA hC hd hof1 hof2 hb hf;have z5:(ToldBy (Has B g1 0 b X'.told) (Has B g2 p b f.y) (Has B g2 p b Y'.told) L2 (some g::Z) B X'.out) (ga 5) w2:=hf.at 16;have z6:(ToldBy (Has B g2 p b Y'.told) (Has B g1 0 b f.x) (Has B g1 0 b X'.told) L1 (some g::Z) B Y'.out) (ga 6) w2:=hf.at 17;clear hf;obtain ⟨N1,K2,hA5,hC5,hd5,ht5⟩:=z5;obtain ⟨N2,K1,hA6,hC6,hd6,ht6⟩:=z6;have u1:N1=M1:=HTA.out.uniq (.inr hA5) hA;have u2:N2=M2:=HTC.out.uniq (.inr hA6) hC;have u3:K2=M2:=HTC.out.uniq hC5 hC;have u4:K1=M1:=HTA.out.uniq hC6 hA;subst u1 u2 u3 u4;obtain ⟨a5,c5,e5,hr5⟩:=told_recs ht5;obtain ⟨a6,c6,e6,hr6⟩:=told_recs ht6;have hk2:Keeps (fblks g L1 L2) w w2:=hb.mono λk hk=>List.mem_cons_of_mem _ hk;have hn1:some g∉K1:=λhm=>by
  rcases hof1 g hm with e | e
  ·exact HN1.out e
  ·exact absurd HGL.out (Nat.not_lt.2 e)
 have hn2:some g∉K2:=λhm=>by
  rcases hof2 g hm with e | e
  ·exact HN2.out e
  ·exact absurd HGL.out (Nat.not_lt.2 e)
 have hof:Of w (fblks g L1 L2) (fblks g K1 K2):=λk hk=>by
  simp only [CV,CS] at hk ⊢;rcases hk with hk | hk | hk
  ·exact .inl (.inl hk)
  ·exact (hof1 k hk).imp (λe=>.inr (.inl e)) id
  ·exact (hof2 k hk).imp (λe=>.inr (.inr e)) id
 have HOF:=BN hof
 have HS2:=BN (show Step (fblks g L1 L2) (fblks g K1 K2) w w2 from ⟨hk2,hof⟩)
 have HFA:=BN (show FAt w2 B g g1 g2 p b K1 K2 ⟨X'.told,Y'.told,f.code,f.parted⟩ from ⟨hb.row HROW.out HF0.out.off,hA5,hA6,hd,hn1,hn2,HGE.out,told_out _,told_out _,HKX.out,HKY.out⟩);have HT5:=BN ht5;have HR5:=BN hr5;have HR6:=BN hr6;clear hA hC hd hof1 hof2 hb hA5 hC5 hd5 hA6 hC6 hd6 ht6 hr5 hr6 hn1 hn2 hof hk2;simp only [Be,Ab,Di,Dl,Dk];rw [e5,e6];obtain ⟨n5,hn5⟩:∃n,X'.out.length=n:=⟨_,rfl⟩;obtain ⟨n6,hn6⟩:∃n,Y'.out.length=n:=⟨_,rfl⟩
 have HALL:=BN (show Calls Gq 107 #[.slice a5 n5 c5,.slice a6 n6 c6] w2 λe w'=>e=.returned (ZW al)/\Below w2.heap.size w2 w' from by rw [←hn5,←hn6,←HAL5.out];exact Rec.all_any a5 X'.out.length c5 X'.out a6 Y'.out.length c6 Y'.out w2 HR5.out HR6.out (by have:=HLX.out;omega) (by have:=HLY.out;omega) HFX.out HFY.out)
 rw [hn5,hn6];rw [e5,hn5] at HT5;have HN5:=BN hn5;clear hn5 hn6 e5 e6
 go_upto_region 3 with (go_at_call 107;with_reducible refine HALL.out.mono ?_;rintro r w3 ⟨rfl,hb3⟩)
 have HFA3:=BN (HFA.out.keeps (BD hb3:Keeps [] w2 w3) (λ_ _ hm=>by cases hm))
 have HT3:=BN (HT5.out.keeps (BD hb3:Keeps [] w2 w3) (λ_ hm=>by cases hm))
 have HS3:=BN (HS2.out.trans (EH hb3));clear hb3;obtain ⟨Zx,hx3⟩:=HFA3.out.x;obtain ⟨Zy,hy3⟩:=HFA3.out.y;have hdw:Below w3.heap.size w3 (w3.drewN 1):=Ak (Ao w3.heap.size w3) 1
 have HX3:=BN (hx3.below hdw);have HY3:=BN (hy3.below hdw)
 have HF3:=BN ((show El w3 g (fcells g1 g2 f.code f.parted) from ⟨λ_ _ hu=>row_cellL HFA3.out.row hu,λk _=>Dy HFA3.out.row k,Ln.row_lt HFA3.out.row⟩).below hdw);clear hx3 hy3 hdw;refine Each.region 20 [27,28,29,30,31,32,33,34,35,36,37,38,39,40,41,42,43,44,45,46] [eP g 0,eP g 0,eP g 2,eP g 0,eP g 0,eP g 0,eP g 0,eP g1 0,eP g1 0,eP g1 0,eQ (ZZ ZS (X'.err:Int)),eP g 0,eP g 0,eP g 0,eP g 1,eP g2 0,eP g2 0,eP g2 0,eQ (ZZ ZS (Y'.err:Int)),eQ ((ZW al))] (.act 20 .done) (by kernel_rfl) (by kernel_rfl) (by kernel_rfl) (by kernel_rfl) (λ_ _ d _ _ h=>by cases d<;>exact h) (by rfl) (by rfl) (by repeat first | exact trivial | refine ⟨AT _,?_⟩) ?_ ?_
 ·refine ⟨?_,?_,?_,?_,?_,?_,?_,?_,?_,?_,?_,?_,?_,?_,?_,?_,?_,?_,?_,?_,trivial⟩
  ·exact XXwkZ
  ·exact XXwkZ
  ·exact XXwkZ
  ·exact XXwkZ
  ·exact XXwkZ
  ·exact XXwkZ
  ·exact XXwkZ
  ·exact XXwkZ
  ·exact XXwkZ
  ·exact XXwkZ
  ·refine AY rfl (λev w1 hR hb hh=>?_);have e36:ev (.tmp 36)= _:=hh.at 0;clear hh;have ef:=hR.func
   refine AP 23 #[ptr g1] (by go_simp) ((errq_any (HX3.out.below hb)).mono ?_);rintro r w2 ⟨rfl,hw⟩;rw [hw];exact ⟨_,rfl,Ao _ _,by rw [told_err]⟩
  ·exact XXwkZ
  ·exact XXwkZ
  ·exact XXwkZ
  ·exact XXwkZ
  ·exact XXwkZ
  ·exact XXwkZ
  ·exact XXwkZ
  ·refine AY rfl (λev w1 hR hb hh=>?_);have e44:ev (.tmp 44)= _:=hh.at 0;clear hh;have ef:=hR.func
   refine AP 23 #[ptr g2] (by go_simp) ((errq_any (HY3.out.below hb)).mono ?_);rintro r w2 ⟨rfl,hw⟩;rw [hw];exact ⟨_,rfl,Ao _ _,by rw [told_err]⟩
  ·exact XXwkZ
 intro gb w4 hb hf;have z29:gb 29= _:=hf.at 2;have z37:gb 37= _:=hf.at 10;have z45:gb 45= _:=hf.at 18;have z46:gb 46= _:=hf.at 19;clear hf;simp only [Be,Ab,Di,Dl,Dk];rw [z29,z37,z45,z46];simp only [Fk,Fl,Cz,Cy]
 have HFA4:=BN (HFA3.out.keeps (BD hb:Keeps [] w3 w4) (λ_ _ hm=>by cases hm))
 have HT4:=BN (HT3.out.keeps (BD hb:Keeps [] w3 w4) (λ_ hm=>by cases hm))
 have HS4:=BN (HS3.out.trans (EH hb));clear hb
 have HJ:=BN (judge_any g g1 g2 f.code f.parted X'.err Y'.err al HFA4.out.row ⟨X'.told,Y'.told,f.code,f.parted⟩ rfl rfl)
 refine Fi (by rfl) (λK hK=>?_)
 refine Each.oper_enter (g:=127) (args:=#[ZV (some ⟨g,2,none⟩),ZZ ZS (X'.err:Int),ZZ ZS (Y'.err:Int),ZW al]) (by go_simp) (HJ.out.mono ?_);rintro r w5 ⟨rfl,hrow5,hk5⟩;refine ⟨_,rfl,hK _ _ trivial (Fj ?_)⟩;clear hK K;have hd5:Dis (K1++K2) [some g]:=λk hk hm=>by
  have e:k=g:=by simpa using hm
  rw [e] at hk;exact (CS.1 hk).elim HFA4.out.n1 HFA4.out.n2
 have e1:(F.judge ⟨X'.told,Y'.told,f.code,f.parted⟩ X'.err Y'.err al).x=X'.told:=by unfold F.judge;split<;> (try split)<;>rfl
 have e2:(F.judge ⟨X'.told,Y'.told,f.code,f.parted⟩ X'.err Y'.err al).y=Y'.told:=by unfold F.judge;split<;> (try split)<;>rfl
 have HFA5:=BN (show FAt w5 B g g1 g2 p b K1 K2 (F.judge ⟨X'.told,Y'.told,f.code,f.parted⟩ X'.err Y'.err al) from
  ⟨hrow5,by rw [e1];exact HFA4.out.x.imp λ_ h1=>h1.keeps (told_out _) hk5 λk hk=>hd5 k (List.mem_append_left _ hk),by rw [e2];exact HFA4.out.y.imp λ_ h1=>h1.keeps (told_out _) hk5 λk hk=>hd5 k (List.mem_append_right _ hk),HFA4.out.dis,HFA4.out.n1,HFA4.out.n2,HGE.out,by rw [e1];exact told_out _,by rw [e2];exact told_out _,by rw [e1];exact HKX.out,by rw [e2];exact HKY.out⟩)
 have HT6:=BN (told_widen (L':=fblks g K1 K2) (HT4.out.keeps hk5 (λk hk=>by
  have e:k=g:=by simpa using hk
  rw [e];simp)) (λk hk=>by
  simp only [CV,CS] at hk ⊢;rcases hk with hk | hk | hk
  ·exact .inr (.inr (.inr (.inl hk)))
  ·exact .inl hk
  ·exact .inr (.inr (.inl hk))))
 have HT7:=BN (HT6.out.rezone (Z:=Z) λk hk=>.inl (by simp [hk]))
 have HS5:=BN (HS4.out.trans (⟨hk5.mono (λk hk=>by
  have e:k=g:=by simpa using hk
  rw [e];simp),DT⟩:Step (fblks g K1 K2) (fblks g K1 K2) w4 w5))
 clear hrow5 hk5 hd5 e1 e2;cases al with
 | true=>
   go_wp2;go_ret;exact ⟨_,rfl,K1,K2,HFA5.out,HT7.out,HS5.out⟩
 | false=>
   go_wp2;go_ret;exact ⟨_,rfl,K1,K2,HFA5.out,told_nil _ _ _,HS5.out⟩
end
end Go.Proofs.YtnabkcglnbdfeaaGreatDoor.Flt
namespace Go.Proofs.YtnabkcglnbdfeaaGreatDoor.Flt
open Go.RowKit Base Txt Mem Par Pg Each
section
variable {w w' w0 w1:World} {B g g1 g2 p:Nat} {b:Bd} {L L' L1 L2 N1 N2 M1 M2 Z:List (Option Nat)} {f f':F} {V U:Value} {out out2:List Eo}
theorem look_len (hx:f.x.out= []) (c:UInt8):(f.look p b c).2.length<=2:=by
 show (if Rec.all (f.x.byte 0 b c).out (f.y.byte p b c).out=true then (f.x.byte 0 b c).out else []).length<=2;split
 ·have:=Q.byte_out (p:=0) (b:=b) f.x c;rw [hx] at this;simpa using this
 ·simp
theorem outs_step {B:Zone} (h:Outs (V.ownBlock::L) B w V out) (hs:Step L L' w w') (ho:∀k,V.ownBlock=some k->some k∉L):Outs (V.ownBlock::L') B w' V out:=by
 obtain ⟨ps,h1,h2,h3⟩:=h;refine ⟨ps,h1,λx hx=>⟨(h2 x hx).1,?_⟩,hs.keeps.own h3 ho⟩;have e1:=(h2 x hx).2
 have e2:=e1.keeps (hs.keeps.mono λk hk=>List.mem_cons_of_mem _ hk);refine ⟨e2.reads,λk hb=>⟨λhm=>?_,(e2.far k hb).2⟩,e1.off⟩;rcases CV.1 hm with e | e
 ·exact (e1.far k hb).1 (by rw [e];exact List.mem_cons_self ..)
 ·rcases hs.of k e with e | e
  ·exact (e1.far k hb).1 (List.mem_cons_of_mem _ e)
  ·have:=(e1.far k hb).2;omega
theorem outs_append {b0 b1:Nat} (h:Outs (V.ownBlock::L) ⟨b0,Z⟩ w V out) (h':Outs (V.ownBlock::L) ⟨b1,Z⟩ w U out2) (hn:out.length+out2.length<=1000000000) (hb:b0<=w.heap.size) :
 ∃V' w',(Builtin.append_ #[39,39] 39 #[V,U]).run Gq w=.ok V' w'/\Outs (V'.ownBlock::L) ⟨b0,Z⟩ w' V' (out++out2)/\Keeps [V.ownBlock] w w'/\(V'.ownBlock=V.ownBlock∨V'.ownBlock=some w.heap.size):=by
 obtain ⟨ps,h1,h2,h3⟩:=h;obtain ⟨qs,g1,g2,g3⟩:=h';obtain ⟨iR,hi,hz0,hz1,hz2⟩:=info_parts record_info;have hlen:(qs.flatMap (·.1.toList)).length=out2.length*7:=by
  rw [←g1,CK];have:∀rs:List (Array Value × Eo),(∀x∈rs,x.1.size=7)->(rs.flatMap (·.1.toList)).length=rs.length*7:=λrs=>by
   induction rs with
   | nil=>intro _;rfl
   | cons x rs ih=>
     intro hx;rw [List.flatMap_cons,CG,ih λy hy=>hx y (by simp [hy]),Array.length_toList,hx x (by simp),List.length_cons];omega
  exact this qs λx hx=>(g2 x hx).1
 obtain ⟨a,c,eU, -⟩:=Dw g3;subst eU;have hone:∀u∈qs.flatMap (·.1.toList),u.oneCell'=true:=by
  intro u hu;obtain ⟨x,hx,hu⟩:=List.mem_flatMap.1 hu;obtain ⟨fa,fc,ba,bc,ta,tc,e, -, -, -⟩:=(g2 x hx).2.reads;have e:x.1= #[ZY x.2.m,ZY x.2.x,ZZ ZS x.2.k,.slice fa x.2.fs.length fc,ZW x.2.ch,.slice ba x.2.body.length bc,.slice ta x.2.ts.length tc]:=by injection e
  rw [e] at hu;simp only [CV,De,or_false] at hu;rcases hu with rfl | rfl | rfl | rfl | rfl | rfl | rfl<;>rfl
 obtain ⟨V',w',hrun,ho,hgr,hor⟩:=App.run_append_list w 39 39 b0 58 iR (.agg #[.string AG,.string AG,.int .i64 0,.slice none 0 0,.bool false,.slice none 0 0,.slice none 0 0]) 7 120 Tryz.underlying39 hi hz0 hz1 hz2 rfl (by decide) V out.length (ps.flatMap (·.1.toList)) h3 a out2.length c (qs.flatMap (·.1.toList)) hlen
  (λh0=>by
    obtain ⟨bk,cf,hform, -,hlt⟩:=g3.form h0;simp only [Value.slice.injEq,true_and] at hform;obtain ⟨rfl,rfl⟩:=hform
    exact ⟨bk,0,rfl,λj u hu=>by
     have hj:j<(qs.flatMap (·.1.toList)).length:=(List.getElem?_eq_some_iff.1 hu).1;rw [DB]
     exact (g3.cellAt j (by rw [hlen] at hj;omega)).trans hu⟩)
  hone (by unfold maxLen;omega) (by omega) hb
 have hk:Keeps [V.ownBlock] w w':=Keeps.grown hgr λk e=>by rw [e];exact Dc.2 rfl
 refine ⟨V',w',hrun,⟨ps++qs,by rw [List.map_append,h1,g1],λx hx=>?_,by rw [CG,List.flatMap_append];exact ho⟩,hk,hor⟩
 have hx2:x.1.size=7/\Far (V.ownBlock::L) Z w (ZU x.1) x.2:=(CS.1 hx).elim (h2 x) (g2 x);refine ⟨hx2.1,?_⟩;have e1:=hx2.2
 have e2:=e1.keeps (hk.mono λk hk=>by rw [Dc.1 hk];exact List.mem_cons_self ..);refine ⟨e2.reads,λk hb=>⟨λhm=>?_,(e2.far k hb).2⟩,e1.off⟩;rcases CV.1 hm with e | e
 ·rcases hor with e3 | e3
  ·exact (e1.far k hb).1 (by rw [e,e3];exact List.mem_cons_self ..)
  ·rw [e3] at e;have:=(e1.far k hb).2;cases e;omega
 ·exact (e1.far k hb).1 (List.mem_cons_of_mem _ e)
structure FS (w0:World) (B g g1 g2 p:Nat) (b:Bd) (Z L1 L2:List (Option Nat)) (f:F) (V:Value) (out:List Eo) (N1 N2:List (Option Nat)) (w:World):Prop where
 fat:FAt w B g g1 g2 p b N1 N2 f
 outs:Outs (V.ownBlock::fblks g N1 N2) ⟨w0.heap.size,Z⟩ w V out
 far:∀k,V.ownBlock=some k->some k∉fblks g N1 N2
 zone:Clear w Z (V.ownBlock::fblks g N1 N2)
 keeps:Keeps (fblks g L1 L2) w0 w
 of:Of w0 (fblks g L1 L2) (fblks g N1 N2)
theorem FS.start (h:FAt w B g g1 g2 p b L1 L2 f) (hz:Clear w Z (fblks g L1 L2)):FS w B g g1 g2 p b Z L1 L2 f (ZX none 0 0) [] L1 L2 w:=
 ⟨h,⟨[],rfl,(by intro x hx;cases hx),Hp _ _ _ _⟩,(λk e=>by cases e),clear_sub hz (λk hk=>by
   rcases CV.1 hk with e | e
   ·cases e
   ·exact e),Keeps.refl,DT⟩
theorem FS.off (h:FS w0 B g g1 g2 p b Z L1 L2 f V out N1 N2 w):Clear w (V.ownBlock::Z) (fblks g N1 N2):=by
 obtain ⟨ps,h1,h2,h3⟩:=h.outs;refine ⟨λk hk=>?_,λk hk hz=>?_⟩
 ·rcases CV.1 hk with e | e
  ·exact (Ho h3 k e.symm).2
  ·exact h.zone.inz k e
 ·rcases CV.1 hz with e | e
  ·exact h.far k e.symm hk
  ·exact h.zone.off k (List.mem_cons_of_mem _ hk) e
theorem FS.next (h:FS w0 B g g1 g2 p b Z L1 L2 f V out N1 N2 w) (hf:FAt w1 B g g1 g2 p b M1 M2 f') (ht:Pg.Told (fblks g M1 M2) ⟨B,V.ownBlock::Z⟩ w1 U out2) (hs:Step (fblks g N1 N2) (fblks g M1 M2) w w1) (hn:out.length+out2.length<=1000000000) :
 ∃V' w2,(Builtin.append_ #[39,39] 39 #[V,U]).run Gq w1=.ok V' w2/\FS w0 B g g1 g2 p b Z L1 L2 f' V' (out++out2) M1 M2 w2:=by
 have o1:=outs_step h.outs hs h.far;obtain ⟨qs,q1,q2,q3⟩:=ht.outs
 have o2:Outs (V.ownBlock::fblks g M1 M2) ⟨B,Z⟩ w1 U out2:=⟨qs,q1,λx hx=>⟨(q2 x hx).1,(q2 x hx).2.reads,λk hb=>⟨λhm=>by
  rcases CV.1 hm with e | e
  ·exact (q2 x hx).2.off k hb (by rw [e];exact List.mem_cons_self ..)
  ·exact ((q2 x hx).2.far k hb).1 e,((q2 x hx).2.far k hb).2⟩,λk hb hz=>(q2 x hx).2.off k hb (List.mem_cons_of_mem _ hz)⟩,q3⟩
 have hsz:=D7 h.keeps.size hs.keeps.size;obtain ⟨V',w2,hrun,o3,hk,hor⟩:=outs_append o1 o2 hn hsz;have hVb:∀k,V.ownBlock=some k->w0.heap.size<=k/\k<w.heap.size:=λk e=>by obtain ⟨ps, -, -,h3⟩:=h.outs;exact Ho h3 k e
 have hVM:∀k,V.ownBlock=some k->some k∉fblks g M1 M2:=λk e hm=>by
  rcases hs.of k hm with e1 | e1
  ·exact h.far k e e1
  ·have:=(hVb k e).2;omega
 have hV'M:∀k,V'.ownBlock=some k->some k∉fblks g M1 M2:=λk e hm=>by
  rcases hor with e1 | e1
  ·exact hVM k (e1 ▸ e) hm
  ·rw [e1] at e;cases e;have:=hf.in _ hm;omega
 have hdis:Dis (fblks g M1 M2) [V.ownBlock]:=λk hk hm=>by
  have e:some k=V.ownBlock:=by simpa using hm
  exact hVM k e.symm hk
 refine ⟨V',w2,hrun,hf.keeps hk hdis,o3,hV'M,⟨λk hz=>D8 (h.zone.inz k hz) (D7 hs.keeps.size hk.size),λk hk' hz=>?_⟩,(h.keeps.trans hs.keeps h.of).trans hk (λk hk=>.inr ?_),h.of.trans hs.of h.keeps.size⟩
 ·rcases CV.1 hk' with e | e
  ·rcases hor with e1 | e1
   ·exact h.zone.off k (by rw [e,e1];exact List.mem_cons_self ..) hz
   ·rw [e1] at e;have:=h.zone.inz k hz;have:=hs.keeps.size;cases e;omega
  ·rcases hs.of k e with e1 | e1
   ·exact h.zone.off k (List.mem_cons_of_mem _ e1) hz
   ·have:=h.zone.inz k hz;omega
 ·have e:some k=V.ownBlock:=by simpa using hk
  exact (hVb k e.symm).1
end
end Go.Proofs.YtnabkcglnbdfeaaGreatDoor.Flt
namespace Go.Proofs.YtnabkcglnbdfeaaGreatDoor.Flt
open Go.RowKit Base Txt Mem Par Pg Each
structure PartsC (L:List (Option Nat)) (w:World) (a:Option Addr) (ls:List (List UInt8)):Prop where
 cells:0<ls.length->∃bk off,a=some ⟨bk,off,none⟩/\bk<w.heap.size/\some bk∉L/\∀k (hk:k<ls.length),∃ak ck,w.cell? ⟨bk,off+k,none⟩=some (.slice ak ls[k].length ck)/\ls[k].length<=ck/\(ls[k]≠ []->Bts L w ak ls[k])
theorem bts_at {L:List (Option Nat)} {w:World} {zb zo:Nat} {l:List UInt8} (h:Bts L w (some ⟨zb,zo,none⟩) l) (i:Nat) (hi:i<l.length):Bts L w (some ⟨zb,zo+i,none⟩) [l[i]]:=by
 obtain ⟨b0,o0,e,hlt,hc⟩:=h.nums.2 (by omega);cases e;refine ⟨⟨rfl,λ_=>⟨zb,zo+i,rfl,hlt,λk hk=>?_⟩⟩,λad e=>?_⟩
 ·obtain rfl:k=0:=by
   have:k<1:=hk;omega
  have:=hc i hi;rw [show zo+i+0=zo+i by omega,this];simp [hi]
 ·have e:ad=⟨zb,zo+i,none⟩:=by simpa using e.symm
  rw [e];exact h.far ⟨zb,zo,none⟩ rfl
section
set_option maxHeartbeats 4000000
set_option maxRecDepth 20000
attribute [local go_sem] An
variable {w:World} {B g g1 g2 p:Nat} {b:Bd} {L1 L2:List (Option Nat)} {f:F}
theorem feed_len (p:Nat) (b:Bd):∀(l:List UInt8) (f:F),f.x.out= []->(Bj p b f l).2.length<=2*l.length/\(Bj p b f l).1.x.out= []
 | [],f,h=>⟨DC _,h⟩
 | c::l,f,h=>by
   have h1:(f.byte p b c).2.length<=2/\(f.byte p b c).1.x.out= []:=by
    unfold F.byte;split
    ·refine ⟨look_len h c,?_⟩;show (F.judge _ _ _ _).x.out= [];unfold F.judge;split
     ·exact told_out _
     ·split<;>exact told_out _
    ·exact ⟨DC _,h⟩
   obtain ⟨h2,h3⟩:=feed_len p b l (f.byte p b c).1 h1.2;refine ⟨?_,h3⟩
   show ((f.byte p b c).2++(Bj p b (f.byte p b c).1 l).2).length<=2*(l.length+1);rw [CG];omega
theorem feed_any (hp:p<4294967296) (h:FAt w B g g1 g2 p b L1 L2 f) (Z:List (Option Nat)) (hZ:Clear w Z (fblks g L1 L2)) (a:Option Addr) (ca:Nat) (ls:List (List UInt8)) (hl:PartsC (fblks g L1 L2) w a ls) (hn:ls.length<=1000000) (hlen:ls.flatten.length<=400000000) :
 Calls Gq 36 #[ptr g,.slice a ls.length ca] w λr w'=>∃V,r=.returned V/\∃M1 M2,FS w B g g1 g2 p b Z L1 L2 (Bj p b f ls.flatten).1 V (Bj p b f ls.flatten).2 M1 M2 w':=by
 have HL:=BN hl;have HOU:=BN hlen;have HXO:=BN h.xo
 have HS0:=BN (FS.start h hZ);obtain ⟨R,hR⟩:∃R,Bj p b f ls.flatten=R:=⟨_,rfl⟩;rw [hR];have HR:=BN hR;obtain ⟨n,hnn⟩:∃n,ls.length=n:=⟨_,rfl⟩;have HN:=BN hnn;have hn1:n<=1000000:=by omega
 rw [hnn];clear h hl hlen hn hnn hZ hR;go_enter Tryz.func36,Tryz.ntmps36;go_upto_region 3 with fail
 go_loopw [5,11] (λV i wr=>∃k:Nat,k<=n/\i=ZZ ZS k/\Hid (∃N1 N2,FS w B g g1 g2 p b Z L1 L2 (Bj p b f (ls.take k).flatten).1 V (Bj p b f (ls.take k).flatten).2 N1 N2 wr)) (λ_ i _=>n-(intOf i).toNat)
 case atStart=>exact ⟨0,DC _,rfl,BN ⟨L1,L2,HS0.out⟩⟩
 case round=>
  obtain ⟨k,hk,rfl,hR⟩:=hrel;rcases D9 k n with hlt | hge
  ·obtain ⟨N1,N2,hA⟩:=hR.out;have hkl:k<ls.length:=by rw [HN.out];exact hlt
   obtain ⟨bk,off,rfl,hbk,hnb,hc⟩:=HL.out.cells (by have:=HN.out;omega);obtain ⟨ak,ck,hcell0,hcap,hB⟩:=hc k hkl;have hcell:=(hA.keeps.cell (p:=⟨bk,off+k,none⟩) hbk hnb).trans hcell0;clear hcell0;have htk:(ls.take (k+1)).flatten=(ls.take k).flatten++ls[k]:=by rw [Dq hkl,List.flatten_append];simp
   have hsum:(ls.take (k+1)).flatten.length<=ls.flatten.length:=by exact XX086
   rw [htk,CG] at hsum;have t1:(k:Int)<(n:Int):=by omega
   have HTK:=BN htk;obtain ⟨pl,hpl⟩:∃pl,ls[k]=pl:=⟨_,rfl⟩;rw [hpl] at hcell hcap hB hsum HTK;have hpb:pl.length<=1000000000:=by have:=HOU.out;omega
   obtain ⟨m,hm⟩:∃m,pl.length=m:=⟨_,rfl⟩;rw [hm] at hcell hcap hpb hsum;have HM:=BN hm;obtain ⟨q,hq⟩:∃q,(ls.take k).flatten=q:=⟨_,rfl⟩;rw [hq] at hA hsum HTK;have hsum2:q.length+m<=400000000:=by have:=HOU.out;omega
   have HSUM:=BN hsum2;have HQ:=BN hq;have HA:=BN hA;have HB:=BN hB;have HCAP:=BN hcap;clear hA hB hcap hq hsum hsum2 htk hpl hm hc hR hnb hbk;go_upto_region 6 with fail
   clear hcell;obtain ⟨wA,hwA⟩:∃x,x=wr:=⟨_,rfl⟩;subst hwA
   go_loopw [5,17] (λV j wq=>∃i:Nat,i<=m/\j=ZZ ZS i/\Hid (∃N1 N2,FS w B g g1 g2 p b Z L1 L2 (Bj p b f (q++pl.take i)).1 V (Bj p b f (q++pl.take i)).2 N1 N2 wq)) (λ_ j _=>m-(intOf j).toNat)
   case atStart=>exact ⟨0,DC _,rfl,BN ⟨N1,N2,by rw [List.take_zero,Cb];exact HA.out⟩⟩
   case round=>
    obtain ⟨i,hi,rfl,hR2⟩:=hrel;obtain ⟨V,hV0⟩:∃x,x=u5:=⟨_,rfl⟩;subst hV0;rcases D9 i m with hilt | hige
    ·obtain ⟨P1,P2,hA2⟩:=hR2.out;have hil:i<pl.length:=by rw [HM.out];exact hilt
     have hti:pl.take (i+1)=pl.take i ++ [pl[i]]:=Dq hil;obtain ⟨f2,hf2⟩:∃f2,(Bj p b f (q++pl.take i)).1=f2:=⟨_,rfl⟩;obtain ⟨o2,ho2⟩:∃o2,(Bj p b f (q++pl.take i)).2=o2:=⟨_,rfl⟩;have hol:=(feed_len p b (q++pl.take i) f HXO.out).1;rw [ho2,CG,CO] at hol;have hol2:o2.length<=800000002:=by have:=HSUM.out;omega
     rw [hf2,ho2] at hA2;obtain ⟨c0,c1,c2,c3⟩:=hA2.fat.c;by_cases hcd:f2.code=0
     ·have hbq:=(HB.out (λe=>by rw [e] at hil;exact absurd hil (Nat.not_lt_zero _))).step ⟨hA2.keeps,hA2.of⟩
      obtain ⟨zb,zo,rfl,hzb,hz⟩:=hbq.nums.2 (by omega);obtain ⟨c,hc⟩:∃c,pl[i]=c:=⟨_,rfl⟩;have hb1:=bts_at hbq i hil;rw [hc] at hb1 hti;have hV:=verdict_any g f2.code c2;rw [if_pos hcd] at hV;have HV:=BN hV
      have HLK:=BN (look_any hp hA2.fat (V.ownBlock::Z) hA2.off (some ⟨zb,zo+i,none⟩) (ck-i) c hb1);have hby:f2.byte p b c=f2.look p b c:=if_pos hcd;have hfs:Bj p b f (q++pl.take (i+1))=((f2.look p b c).1,o2++(f2.look p b c).2):=by rw [hti,←List.append_assoc,F.feed_snoc,hf2,ho2,hby]
      have HFS:=BN hfs;have hl2:(f2.look p b c).2.length<=2:=look_len hA2.fat.xo c
      have HOL:=BN (show o2.length+(f2.look p b c).2.length<=1000000000 by omega);have HA2:=BN hA2;have t2:(i:Int)<(m:Int):=by omega
      have t3:i+1<=ck:=by have:=HCAP.out;omega
      have t4:(i:Int)+1<=(ck:Int):=by omega
      clear hA2 hzb hz hti hf2 ho2 hol hol2 hV hb1 hbq hby hfs hl2 hR2 c0 c1 c3 hc
      go_wp2_with (first
       |(at_builtin;(refine App.wpList_append_run rfl _ _ 39 rfl V U rfl rfl V' w6 hrun ?_))
       |(go_at_call 86;with_reducible refine HLK.out.mono ?_;rintro r w5 ⟨U,M1,M2,rfl,hf5,ht5,hs5⟩
         obtain ⟨V',w6,hrun,hS6⟩:=HA2.out.next hf5 ht5 hs5 HOL.out;have HS6:=BN hS6;have HS5:=BN hs5;clear hf5 ht5 hs5 hS6)
       |(go_at_call 38;with_reducible refine Cm HV.out ?_))
      go_roundw
      case rel=>exact ⟨i+1,by omega,by go_num,BN ⟨M1,M2,by rw [HFS.out];exact HS6.out⟩⟩
      case measure=>simp [intOf];omega
     ·have hV:=verdict_any g f2.code c2;rw [if_neg hcd] at hV;have HV:=BN hV;have hR3:R=(f2,o2):=by
       have e1:ls.flatten=(q++pl.take i)++(pl.drop i++(ls.drop (k+1)).flatten):=by rw [List.append_assoc,←List.append_assoc (pl.take i),Do,←List.append_assoc,←HTK.out,←List.flatten_append,Do]
       rw [←HR.out,e1,F.feed_app,hf2,ho2,F.feed_blocked p b f2 hcd];simp
      have HA2:=BN hA2;have HR3:=BN hR3;clear hA2 hti hf2 ho2 hol hol2 hV hR2 c0 c1 c3 hR3;have t2:(i:Int)<(m:Int):=by omega
      go_wp2_with (go_at_call 38;with_reducible refine Cm HV.out ?_);go_ret;exact ⟨_,rfl,P1,P2,by rw [HR3.out];exact HA2.out⟩
    ·obtain rfl:i=m:=by omega
     have t2:¬(i:Int)<(i:Int):=by omega
     obtain ⟨P1,P2,hA2⟩:=hR2.out
     have e:pl.take i=pl:=Dp (by rw [HM.out];exact D5 _);rw [e,←HTK.out] at hA2;have HA2:=BN hA2;clear hA2 e hR2;go_wp2_with fail;go_roundw
     case rel=>exact ⟨k+1,by omega,by go_num,BN ⟨P1,P2,HA2.out⟩⟩
     case measure=>simp [intOf];omega
  ·obtain rfl:k=n:=by omega
   have t1:¬(k:Int)<(k:Int):=by omega
   obtain ⟨N1,N2,hA⟩:=hR.out
   have e:ls.take k=ls:=Dp (by rw [HN.out];exact D5 _);rw [e,HR.out] at hA;have HA:=BN hA;clear hA hR e;go_wp2_with fail;go_ret;exact ⟨_,rfl,N1,N2,HA.out⟩
end
end Go.Proofs.YtnabkcglnbdfeaaGreatDoor.Flt
namespace Go.Proofs.YtnabkcglnbdfeaaGreatDoor.Flt
open Go.RowKit Base Txt Mem Par Pg Each
section
set_option maxHeartbeats 8000000
set_option maxRecDepth 20000
attribute [local go_sem] An
variable {p:Nat} {b:Bd}
abbrev bdL (b:Bd):List Value:= [ZZ ZS b.x0,ZZ ZS b.x1,ZZ ZS b.x2,ZZ ZS b.x3,ZZ ZS b.x4,ZZ ZS b.x5,ZZ ZS b.x6,ZZ ZS b.x7,ZW b.ch,ZW b.od]
theorem own_lower {w:World} {B B':Nat} {e:TypeId} {size n:Nat} {v:Value} {xs:List Value} (h:w.ownsRow B e size v n xs) (hB:B'<=B):w.ownsRow B' e size v n xs:=by
 refine ⟨h.1,?_⟩;rcases h.2 with h0 | ⟨b,cap,cur,rfl,hb,rest⟩
 ·exact .inl h0
 ·exact .inr ⟨b,cap,cur,rfl,D7 hB hb,rest⟩
theorem at_lower {w:World} {B B' g p:Nat} {b:Bd} {L Z:List (Option Nat)} {x:Q} (h:At w ⟨B,Z⟩ g p b L x) (ho:x.out= []) (hB:B'<=B):At w ⟨B',Z⟩ g p b L x:=by
 cases x with
 | live s=>
   obtain ⟨q,v,f,bd,t,o,rfl,h1,h2⟩:=h;have ho:s.out= []:=ho;rw [ho] at h2;refine ⟨q,v,f,bd,t,o,rfl,h1,?_⟩;rw [ho];exact ⟨⟨h2.R.row,own_lower h2.R.own hB,D7 hB h2.R.ge,h2.R.ne⟩,own_lower h2.F hB,own_lower h2.D hB,own_lower h2.TR hB,outs_of (own_lower (outs_nil (B:=⟨B,Z⟩) h2.O) hB),h2.lone,D7 hB h2.ge,h2.lt,h2.zone⟩
 | dead e out=>
   obtain ⟨o,rfl,h⟩:=h;have ho:out= []:=ho;subst ho;exact ⟨o,rfl,h.row,outs_of (own_lower (outs_nil (B:=⟨B,Z⟩) h.O) hB),h.ne,D7 hB h.ge,h.lt,h.bad,h.zone⟩
structure Pair (w0 w:World) (g1 g2 p:Nat) (b:Bd) (L1 L2:List (Option Nat)):Prop where
 x:At w ⟨w0.heap.size,[]⟩ g1 0 b L1 (Q.new 0 b)
 y:At w ⟨w0.heap.size,[]⟩ g2 p b L2 (Q.new p b)
 dis:Dis L1 L2
 bel:Below w0.heap.size w0 w
theorem Pair.first {w0 w1 w2:World} {g1 g2 p:Nat} {b:Bd} {L1 L2:List (Option Nat)} {B:Nat} (hB:w0.heap.size<=B) (h1:At w1 ⟨B,[]⟩ g1 0 b L1 (Q.new 0 b)) (h2:At w2 ⟨w1.heap.size,[]⟩ g2 p b L2 (Q.new p b)) (o1:(Q.new 0 b).out= []) (o2:(Q.new p b).out= []) (hb1:Below w0.heap.size w0 w1) (hb2:Below w1.heap.size w1 w2):Pair w0 w2 g1 g2 p b L1 L2:=
 ⟨(at_lower h1 o1 hB).below hb2,at_lower h2 o2 hb1.size,λk hk hk'=>by
   have:=h1.in k hk;have:w1.heap.size<=k:=h2.low k hk'
   omega,Al hb1 hb2⟩
theorem Pair.filter {w0 w w':World} {g1 g2 p:Nat} {b:Bd} {L1 L2:List (Option Nat)} (h:Pair w0 w g1 g2 p b L1 L2) (hw:w'=w.alloc (.cells (fcells g1 g2 (Q.new p b).err false).toArray 80)) (B:Nat) (hB:B<=w0.heap.size) (o1:(Q.new 0 b).out= []) (o2:(Q.new p b).out= []):FAt w' B w.heap.size g1 g2 p b L1 L2 (F.new p b):=by subst hw;have hb:Below w.heap.size w (w.alloc (.cells (fcells g1 g2 (Q.new p b).err false).toArray 80)):=(Ao _ _).alloc (D5 _) _;exact ⟨heap_alloc_new w _,⟨[],(at_lower h.x o1 hB).below hb⟩,⟨[],(at_lower h.y o2 hB).below hb⟩,h.dis,λhm=>Nat.lt_irrefl _ (h.x.in _ hm),λhm=>Nat.lt_irrefl _ (h.y.in _ hm),D7 hB h.bel.size,o1,o2,Q.new_ok 0 b,Q.new_ok p b⟩
theorem new_out:(Q.new p b).out= []:=by unfold Q.new;split<;>rfl
theorem new_any (hp:p<4294967296) (w:World):Calls Gq 34 #[ZZ ZQ (p:Int),ZU #[ZZ ZS b.x0,ZZ ZS b.x1,ZZ ZS b.x2,ZZ ZS b.x3,ZZ ZS b.x4,ZZ ZS b.x5,ZZ ZS b.x6,ZZ ZS b.x7,ZW b.ch,ZW b.od]] w λr w'=>
 ∃g g1 g2 L1 L2,r=.returned (ptr g)/\FAt w' w.heap.size g g1 g2 p b L1 L2 (F.new p b)/\Below w.heap.size w w':=by
 have HB0:=BN (((Ao _ _).alloc (D5 _) (.cells #[ZZ ZS b.x0,ZZ ZS b.x1,ZZ ZS b.x2,ZZ ZS b.x3,ZZ ZS b.x4,ZZ ZS b.x5,ZZ ZS b.x6,ZZ ZS b.x7,ZW b.ch,ZW b.od] 29)):Below w.heap.size w _)
 have HZ0:=BN (Em w w.heap.size rfl 29 (bdL b))
 have HSZ:=BN (show w.heap.size<(w.alloc (.cells #[ZZ ZS b.x0,ZZ ZS b.x1,ZZ ZS b.x2,ZZ ZS b.x3,ZZ ZS b.x4,ZZ ZS b.x5,ZZ ZS b.x6,ZZ ZS b.x7,ZW b.ch,ZW b.od] 29)).heap.size by simp)
 have HN0:=BN (show∀w:World,Calls Gq 18 #[ZZ ZQ 0,ZU #[ZZ ZS b.x0,ZZ ZS b.x1,ZZ ZS b.x2,ZZ ZS b.x3,ZZ ZS b.x4,ZZ ZS b.x5,ZZ ZS b.x6,ZZ ZS b.x7,ZW b.ch,ZW b.od]] w λr w'=>∃g L',r=.returned (ptr g)/\w.heap.size<=g/\At w' ⟨w.heap.size,[]⟩ g 0 b L' (Q.new 0 b)/\Below w.heap.size w w' from λw=>Pg.new_any (p:=0) (b:=b) (by decide) w)
 have HN1:=BN (λw=>Pg.new_any (p:=p) (b:=b) hp w);go_enter Tryz.func34,Tryz.ntmps34;go_upto_region 1 with fail
 generalize w.alloc (.cells #[ZZ ZS b.x0,ZZ ZS b.x1,ZZ ZS b.x2,ZZ ZS b.x3,ZZ ZS b.x4,ZZ ZS b.x5,ZZ ZS b.x6,ZZ ZS b.x7,ZW b.ch,ZW b.od] 29)=W0 at *;generalize hgB:w.heap.size=gB at *;have HGB:=BN hgB;clear hgB;have y0:=HZ0.out.c 0 _ rfl;have y1:=HZ0.out.c 1 _ rfl;have y2:=HZ0.out.c 2 _ rfl;have y3:=HZ0.out.c 3 _ rfl;have y4:=HZ0.out.c 4 _ rfl;have y5:=HZ0.out.c 5 _ rfl;have y6:=HZ0.out.c 6 _ rfl;have y7:=HZ0.out.c 7 _ rfl;have y8:=HZ0.out.c 8 _ rfl;have y9:=HZ0.out.c 9 _ rfl
 go_region_with (first
  |(go_at_call 18;with_reducible refine (HN0.out _).mono ?_;rintro r wx ⟨gx,Lx,rfl,hgx,hax,hbx⟩
    have HAX:=BN hax;have HBX:=BN hbx;first
     | have HZX:=BN (HZY.out.below hbx)
     | have HZX:=BN ((HZ0.out.below (Ak (Ao W0.heap.size W0) 1)).below hbx)
    have x0:=HZX.out.c 0 _ rfl;have x1:=HZX.out.c 1 _ rfl;have x2:=HZX.out.c 2 _ rfl;have x3:=HZX.out.c 3 _ rfl;have x4:=HZX.out.c 4 _ rfl;have x5:=HZX.out.c 5 _ rfl;have x6:=HZX.out.c 6 _ rfl;have x7:=HZX.out.c 7 _ rfl;have x8:=HZX.out.c 8 _ rfl;have x9:=HZX.out.c 9 _ rfl;clear hax hbx hgx)
  |(go_at_call 18;with_reducible refine (HN1.out _).mono ?_;rintro r wy ⟨gy,Ly,rfl,hgy,hay,hby⟩
    have HAY:=BN hay;have HBY:=BN hby;first
     | have HZY:=BN (HZX.out.below hby)
     | have HZY:=BN ((HZ0.out.below (Ak (Ao W0.heap.size W0) 1)).below hby)
    have v0:=HZY.out.c 0 _ rfl;have v1:=HZY.out.c 1 _ rfl;have v2:=HZY.out.c 2 _ rfl;have v3:=HZY.out.c 3 _ rfl;have v4:=HZY.out.c 4 _ rfl;have v5:=HZY.out.c 5 _ rfl;have v6:=HZY.out.c 6 _ rfl;have v7:=HZY.out.c 7 _ rfl;have v8:=HZY.out.c 8 _ rfl;have v9:=HZY.out.c 9 _ rfl;clear hay hby hgy))
 all_goals
  first
   | have HPR:=BN (Pair.first (w0:=W0) (D5 W0.heap.size) HAX.out HAY.out new_out new_out ((Ak (Ao W0.heap.size W0) 1).trans HBX.out) HBY.out)
   | have HPR:=BN (Pair.second (w0:=W0) (D5 W0.heap.size) HAY.out HAX.out new_out new_out ((Ak (Ao W0.heap.size W0) 1).trans HBY.out) HBX.out)
  clear y0 y1 y2 y3 y4 y5 y6 y7 y8 y9 x0 x1 x2 x3 x4 x5 x6 x7 x8 x9 v0 v1 v2 v3 v4 v5 v6 v7 v8 v9
  have HER:=BN (errq_any HPR.out.y)
  have HBL:=BN (HB0.out.trans (HPR.out.bel.mono (D4 HSZ.out)));generalize hE:(Q.new p b).err=E at HER;have HE:=BN hE;clear hE
  go_wp2_with (go_at_call 23;with_reducible refine Cm HER.out ?_);go_ret;rw [HGB.out];exact ⟨_,gx,gy,Lx,Ly,rfl,HPR.out.filter (by rw [HE.out]) gB (D4 HSZ.out) new_out new_out,HBL.out.alloc (D7 (D4 HSZ.out) HPR.out.bel.size) _⟩
end
end Go.Proofs.YtnabkcglnbdfeaaGreatDoor.Flt
namespace Go.Proofs.YtnabkcglnbdfeaaGreatDoor.Flt
open Go.RowKit Base Txt Mem Par Pg Each
section
set_option maxHeartbeats 4000000
set_option maxRecDepth 20000
attribute [local go_sem] An
variable {w:World} {B g g1 g2 p:Nat} {b:Bd} {L1 L2:List (Option Nat)} {f:F}
end
end Go.Proofs.YtnabkcglnbdfeaaGreatDoor.Flt
namespace Go.Proofs.YtnabkcglnbdfeaaGreatDoor.Flt
open Go.RowKit Base Txt Mem Par Pg Each
theorem partsC_one {L:List (Option Nat)} {w:World} {a:Option Addr} {c:Nat} {l:List UInt8} (h:Bts L w a l) (hc:l.length<=c) (hin:In w L) (ty:TypeId):PartsC L (w.alloc (.cells #[.slice a l.length c] ty)) (some ⟨w.heap.size,0,none⟩) [l]:=by
 refine ⟨λ_=>⟨w.heap.size,0,rfl,by simp,λhm=>by have:=hin _ hm;omega,λk hk=>?_⟩⟩;obtain rfl:k=0:=by have:k<1:=hk;omega
 exact ⟨a,c,(cell_of_row (w.alloc (.cells #[.slice a l.length c] ty)) w.heap.size 0 _ ty (0,0) (heap_alloc_new w _)).trans rfl,hc,λ_=>h.alloc _⟩
theorem FS.slice {w0 w:World} {B g g1 g2 p:Nat} {b:Bd} {Z L1 L2 N1 N2:List (Option Nat)} {f:F} {V:Value} {out:List Eo} (h:FS w0 B g g1 g2 p b Z L1 L2 f V out N1 N2 w):∃a c,V=.slice a out.length c:=by obtain ⟨ps, -, -,h3⟩:=h.outs;obtain ⟨a,c,e, -⟩:=Dw h3;exact ⟨a,c,e⟩
theorem feed_lit {w:World} {B g g1 g2 p:Nat} {b:Bd} {L1 L2:List (Option Nat)} {f:F} (hp:p<4294967296) (h:FAt w B g g1 g2 p b L1 L2 f) (l:List UInt8) (V:Array Value) (hV:V=bytesV l) (n:Nat) (hn:l.length=n) (hn9:n<=1000) (fr:Nat × Nat) :
 Calls Gq 36 #[ptr g,ZX (some ⟨w.heap.size+1,0,none⟩) 1 1] ((w.alloc (.cells V 5 fr)).alloc (.cells #[ZX (some ⟨w.heap.size,0,none⟩) n n] 22)) λr w'=>∃U,r=.returned U/\∃M1 M2,
  FS ((w.alloc (.cells V 5 fr)).alloc (.cells #[ZX (some ⟨w.heap.size,0,none⟩) n n] 22)) B g g1 g2 p b [] L1 L2 (Bj p b f l).1 U (Bj p b f l).2 M1 M2 w':=by
 subst hn;have hb1:Below w.heap.size w (w.alloc (.cells V 5 fr)):=(Ao _ _).alloc (D5 _) _;have hs:(w.alloc (.cells V 5 fr)).heap.size=w.heap.size+1:=by simp
 have hpc:=partsC_one (c:=l.length) (Bts.lit h.in l V hV 5 fr) (D5 _) (in_alloc h.in _) 22;rw [hs] at hpc;have hb2:Below w.heap.size w ((w.alloc (.cells V 5 fr)).alloc (.cells #[ZX (some ⟨w.heap.size,0,none⟩) l.length l.length] 22)):=hb1.alloc hb1.size _
 have hf:=h.keeps (BD hb2:Keeps [] w _) (λ_ _ hm=>by cases hm)
 have:=feed_any hp hf [] Clear.nil (some ⟨w.heap.size+1,0,none⟩) 1 [l] hpc (by simp) (by simpa using D7 hn9 (by decide));simpa using this
theorem k1:(Bj 2 usual (F.new 2 usual) [71,69,84,32,47,32,72,84,84,80,47,49,46,49,10]).1.code=400/\(Bj 2 usual (F.new 2 usual) [71,69,84,32,47,32,72,84,84,80,47,49,46,49,10]).1.parted=true:=by decide +kernel
theorem k2:(Bj 0 usual (F.new 0 usual) [71,69,84,32,47,32,72,84,84,80,47,49,46,49,13,10,72,111,115,116,58,32,97,13,10,13,10,120,10]).1.code=400/\(Bj 0 usual (F.new 0 usual) [71,69,84,32,47,32,72,84,84,80,47,49,46,49,13,10,72,111,115,116,58,32,97,13,10,13,10,120,10]).1.parted=false/\(Bj 0 usual (F.new 0 usual) [71,69,84,32,47,32,72,84,84,80,47,49,46,49,13,10,72,111,115,116,58,32,97,13,10,13,10,120,10]).2.length=1:=by decide +kernel
section
set_option maxHeartbeats 8000000
set_option maxRecDepth 100000
attribute [local go_sem] An
theorem known_any (w:World):Calls Gq 32 #[] w λe w'=>e=.returned (ZW true)/\Below w.heap.size w w':=by
 have hc1:∀w:World,(convert 22 22 (.slice (some ⟨w.heap.size,0,none⟩) 15 15)).run Gq (w.alloc (.cells #[.int .u8 71,.int .u8 69,.int .u8 84,.int .u8 32,.int .u8 47,.int .u8 32,.int .u8 72,.int .u8 84,.int .u8 84,.int .u8 80,.int .u8 47,.int .u8 49,.int .u8 46,.int .u8 49,.int .u8 10] 5))=.ok (.slice (some ⟨w.heap.size,0,none⟩) 15 15) (w.alloc (.cells #[.int .u8 71,.int .u8 69,.int .u8 84,.int .u8 32,.int .u8 47,.int .u8 32,.int .u8 72,.int .u8 84,.int .u8 84,.int .u8 80,.int .u8 47,.int .u8 49,.int .u8 46,.int .u8 49,.int .u8 10] 5 (15,16))):=λw=>Lib.run_convert_bytes_const w 22 5 #[.int .u8 71,.int .u8 69,.int .u8 84,.int .u8 32,.int .u8 47,.int .u8 32,.int .u8 72,.int .u8 84,.int .u8 84,.int .u8 80,.int .u8 47,.int .u8 49,.int .u8 46,.int .u8 49,.int .u8 10] 15 15 GI GQ
 have hc2:∀w:World,(convert 22 22 (.slice (some ⟨w.heap.size,0,none⟩) 29 29)).run Gq (w.alloc (.cells #[.int .u8 71,.int .u8 69,.int .u8 84,.int .u8 32,.int .u8 47,.int .u8 32,.int .u8 72,.int .u8 84,.int .u8 84,.int .u8 80,.int .u8 47,.int .u8 49,.int .u8 46,.int .u8 49,.int .u8 13,.int .u8 10,.int .u8 72,.int .u8 111,.int .u8 115,.int .u8 116,.int .u8 58,.int .u8 32,.int .u8 97,.int .u8 13,.int .u8 10,.int .u8 13,.int .u8 10,.int .u8 120,.int .u8 10] 5))=.ok (.slice (some ⟨w.heap.size,0,none⟩) 29 29) (w.alloc (.cells #[.int .u8 71,.int .u8 69,.int .u8 84,.int .u8 32,.int .u8 47,.int .u8 32,.int .u8 72,.int .u8 84,.int .u8 84,.int .u8 80,.int .u8 47,.int .u8 49,.int .u8 46,.int .u8 49,.int .u8 13,.int .u8 10,.int .u8 72,.int .u8 111,.int .u8 115,.int .u8 116,.int .u8 58,.int .u8 32,.int .u8 97,.int .u8 13,.int .u8 10,.int .u8 13,.int .u8 10,.int .u8 120,.int .u8 10] 5 (29,30))):=λw=>Lib.run_convert_bytes_const w 22 5 #[.int .u8 71,.int .u8 69,.int .u8 84,.int .u8 32,.int .u8 47,.int .u8 32,.int .u8 72,.int .u8 84,.int .u8 84,.int .u8 80,.int .u8 47,.int .u8 49,.int .u8 46,.int .u8 49,.int .u8 13,.int .u8 10,.int .u8 72,.int .u8 111,.int .u8 115,.int .u8 116,.int .u8 58,.int .u8 32,.int .u8 97,.int .u8 13,.int .u8 10,.int .u8 13,.int .u8 10,.int .u8 120,.int .u8 10] 29 29 GI GQ
 have HN2:=BN (show∀w:World,Calls Gq 34 #[ZZ ZQ 2,ZU #[ZZ ZS 1024,ZZ ZS 32,ZZ ZS 8192,ZZ ZS 65536,ZZ ZS 32,ZZ ZS 8,ZZ ZS 4,ZZ ZS 20,ZW true,ZW true]] w λr w'=>∃g g1 g2 L1 L2,r=.returned (ptr g)/\FAt w' w.heap.size g g1 g2 2 usual L1 L2 (F.new 2 usual)/\Below w.heap.size w w' from λw=>new_any (p:=2) (b:=usual) (by decide) w)
 have HN0:=BN (show∀w:World,Calls Gq 34 #[ZZ ZQ 0,ZU #[ZZ ZS 1024,ZZ ZS 32,ZZ ZS 8192,ZZ ZS 65536,ZZ ZS 32,ZZ ZS 8,ZZ ZS 4,ZZ ZS 20,ZW true,ZW true]] w λr w'=>∃g g1 g2 L1 L2,r=.returned (ptr g)/\FAt w' w.heap.size g g1 g2 0 usual L1 L2 (F.new 0 usual)/\Below w.heap.size w w' from λw=>new_any (p:=0) (b:=usual) (by decide) w);go_enter Tryz.func32,Tryz.ntmps32
 go_upto_region 2 with (go_at_call 45;with_reducible refine (Bnd.rusual_any _).mono ?_;rintro r w1 ⟨rfl,hb⟩;have HB1:=BN hb;clear hb)
 have HZ1:=BN (Em w1 w1.heap.size rfl 29 [ZZ ZS 1024,ZZ ZS 32,ZZ ZS 8192,ZZ ZS 65536,ZZ ZS 32,ZZ ZS 8,ZZ ZS 4,ZZ ZS 20,ZW true,ZW true])
 have HBW1:=BN (HB1.out.alloc HB1.out.size (.cells #[ZZ ZS 1024,ZZ ZS 32,ZZ ZS 8192,ZZ ZS 65536,ZZ ZS 32,ZZ ZS 8,ZZ ZS 4,ZZ ZS 20,ZW true,ZW true] 29));generalize w1.alloc (.cells #[ZZ ZS 1024,ZZ ZS 32,ZZ ZS 8192,ZZ ZS 65536,ZZ ZS 32,ZZ ZS 8,ZZ ZS 4,ZZ ZS 20,ZW true,ZW true] 29)=W1 at *;generalize w1.heap.size=gB at *;have y0:=HZ1.out.c 0 _ rfl;have y1:=HZ1.out.c 1 _ rfl;have y2:=HZ1.out.c 2 _ rfl;have y3:=HZ1.out.c 3 _ rfl;have y4:=HZ1.out.c 4 _ rfl;have y5:=HZ1.out.c 5 _ rfl;have y6:=HZ1.out.c 6 _ rfl;have y7:=HZ1.out.c 7 _ rfl;have y8:=HZ1.out.c 8 _ rfl;have y9:=HZ1.out.c 9 _ rfl;go_upto_region 3 with
  (go_at_call 34;with_reducible refine (HN2.out _).mono ?_;rintro r w2 ⟨g,g1,g2,L1,L2,rfl,hf,hb⟩
   have HF:=BN hf;have HB2:=BN hb;have HZ2:=BN (HZ1.out.below hb);clear hf hb)
 clear y0 y1 y2 y3 y4 y5 y6 y7 y8 y9;have y0:=HZ2.out.c 0 _ rfl;have y1:=HZ2.out.c 1 _ rfl;have y2:=HZ2.out.c 2 _ rfl;have y3:=HZ2.out.c 3 _ rfl;have y4:=HZ2.out.c 4 _ rfl;have y5:=HZ2.out.c 5 _ rfl;have y6:=HZ2.out.c 6 _ rfl;have y7:=HZ2.out.c 7 _ rfl;have y8:=HZ2.out.c 8 _ rfl;have y9:=HZ2.out.c 9 _ rfl;go_upto_region 6 with
  (go_at_call 34;with_reducible refine (HN0.out _).mono ?_;rintro r w3 ⟨h,h1,h2,M1,M2,rfl,hh,hb⟩
   have HH:=BN hh;have HB3:=BN hb;clear hh hb)
 clear y0 y1 y2 y3 y4 y5 y6 y7 y8 y9
 have hf3:=HF.out.keeps (BD HB3.out:Keeps [] w2 w3) (λ_ _ hm=>by cases hm);have hgl:∀k,some k∈fblks g L1 L2->k<w2.heap.size:=HF.out.in;have hhl:∀k,some k∈fblks h M1 M2->w2.heap.size<=k:=HH.out.low;have hgz:¬((ptr g:Value)=ZV none):=by intro e;cases e
 have HFE:=BN (feed_lit (by decide) hf3 [71,69,84,32,47,32,72,84,84,80,47,49,46,49,10] #[ZZ ZR 71,ZZ ZR 69,ZZ ZR 84,ZZ ZR 32,ZZ ZR 47,ZZ ZR 32,ZZ ZR 72,ZZ ZR 84,ZZ ZR 84,ZZ ZR 80,ZZ ZR 47,ZZ ZR 49,ZZ ZR 46,ZZ ZR 49,ZZ ZR 10] rfl 15 rfl (by decide) (15,16))
 have HW3:=BN (And.intro hgl hhl);have hb3:Below w3.heap.size w3 ((w3.alloc (.cells #[ZZ ZR 71,ZZ ZR 69,ZZ ZR 84,ZZ ZR 32,ZZ ZR 47,ZZ ZR 32,ZZ ZR 72,ZZ ZR 84,ZZ ZR 84,ZZ ZR 80,ZZ ZR 47,ZZ ZR 49,ZZ ZR 46,ZZ ZR 49,ZZ ZR 10] 5 (15,16))).alloc (.cells #[ZX (some ⟨w3.heap.size,0,none⟩) 15 15] 22)):=((Ao _ _).alloc (D5 _) _).alloc (by simp) _;have HB4:=BN hb3;clear hf3 hgl hhl hb3;go_upto_region 7 with
  (go_at_call 36;with_reducible refine HFE.out.mono ?_;rintro r w4 ⟨U4,rfl,N1,N2,hs4⟩
   have HS4:=BN hs4;clear hs4)
 have hh4:=(HH.out.keeps (BD HB4.out:Keeps [] w3 _) (λ_ _ hm=>by cases hm)).keeps HS4.out.keeps (λk hk hm=>by have:=HW3.out.1 k hm;have:=HW3.out.2 k hk;omega)
 have HFE2:=BN (feed_lit (by decide) hh4 [71,69,84,32,47,32,72,84,84,80,47,49,46,49,13,10,72,111,115,116,58,32,97,13,10,13,10,120,10] #[ZZ ZR 71,ZZ ZR 69,ZZ ZR 84,ZZ ZR 32,ZZ ZR 47,ZZ ZR 32,ZZ ZR 72,ZZ ZR 84,ZZ ZR 84,ZZ ZR 80,ZZ ZR 47,ZZ ZR 49,ZZ ZR 46,ZZ ZR 49,ZZ ZR 13,ZZ ZR 10,ZZ ZR 72,ZZ ZR 111,ZZ ZR 115,ZZ ZR 116,ZZ ZR 58,ZZ ZR 32,ZZ ZR 97,ZZ ZR 13,ZZ ZR 10,ZZ ZR 13,ZZ ZR 10,ZZ ZR 120,ZZ ZR 10] rfl 29 rfl (by decide) (29,30));have hb5:Below w4.heap.size w4 ((w4.alloc (.cells #[ZZ ZR 71,ZZ ZR 69,ZZ ZR 84,ZZ ZR 32,ZZ ZR 47,ZZ ZR 32,ZZ ZR 72,ZZ ZR 84,ZZ ZR 84,ZZ ZR 80,ZZ ZR 47,ZZ ZR 49,ZZ ZR 46,ZZ ZR 49,ZZ ZR 13,ZZ ZR 10,ZZ ZR 72,ZZ ZR 111,ZZ ZR 115,ZZ ZR 116,ZZ ZR 58,ZZ ZR 32,ZZ ZR 97,ZZ ZR 13,ZZ ZR 10,ZZ ZR 13,ZZ ZR 10,ZZ ZR 120,ZZ ZR 10] 5 (29,30))).alloc (.cells #[ZX (some ⟨w4.heap.size,0,none⟩) 29 29] 22)):=((Ao _ _).alloc (D5 _) _).alloc (by simp) _;have HB5:=BN hb5;have HH4:=BN hh4;have HHI:=BN HH.out.in;clear hh4 hb5;go_upto_region 8 with
  (go_at_call 36;with_reducible refine HFE2.out.mono ?_;rintro r w5 ⟨U5,rfl,P1,P2,hs5⟩
   have HS5:=BN hs5;clear hs5)
 have hf5:=((HS4.out.fat.keeps (BD HB5.out:Keeps [] w4 _) (λ_ _ hm=>by cases hm)).keeps HS5.out.keeps (λk hk hm=>by
  have h1:=HHI.out k hm;have h2:=HW3.out.2 k hm;rcases HS4.out.of k hk with e | e
  ·have:=HW3.out.1 k e;omega
  ·have h3:=HB4.out.size
   exact absurd (D7 h3 e) (by omega)))
 obtain ⟨c0,c1,c2,c3⟩:=hf5.c;obtain ⟨d0,d1,d2,d3⟩:=HS5.out.fat.c;rw [k1.1] at c2;rw [k1.2] at c3;rw [k2.1] at d2;rw [k2.2.1] at d3;obtain ⟨a5,c5,e5⟩:=HS5.out.slice;rw [k2.2.2] at e5;subst e5
 have HV1:=BN (show Calls Gq 38 #[ZV (some ⟨g,2,none⟩)] w5 λr w'=>r=.returned (ZZ ZS 2)/\w'=w5 from verdict_any g 400 c2)
 have HV2:=BN (show Calls Gq 38 #[ZV (some ⟨h,2,none⟩)] w5 λr w'=>r=.returned (ZZ ZS 2)/\w'=w5 from verdict_any h 400 d2)
 have HCO:=BN (show Calls Gq 39 #[ZV (some ⟨g,2,none⟩)] w5 λr w'=>r=.returned (ZZ ZS 400)/\w'=w5 from code_any g 400 c2)
 have HP1:=BN (parted_any g true c3)
 have HP2:=BN (parted_any h false d3)
 have HBE:=BN (show Below w.heap.size w w5 from by
  have b3:=Al (HBW1.out.trans (HB2.out.mono HBW1.out.size)) HB3.out;have b4:=Al b3 HB4.out
  have b5:=b4.trans (HS4.out.keeps.below b4.size (λk hk=>D7 HBW1.out.size (HF.out.low k hk)));have b6:=Al b5 HB5.out
  exact b6.trans (HS5.out.keeps.below b6.size (λk hk=>D7 (HBW1.out.trans (HB2.out.mono HBW1.out.size)).size (HW3.out.2 k hk))))
 clear c0 c1 c2 c3 d0 d1 d2 d3 hf5 HFE HFE2 HS4 HS5 HB4 HB5 HHI HW3 HF HH HH4 HN2 HN0 hc1 hc2
 go_wp2_with (first
  |(go_at_call 38;with_reducible refine Cm HV1.out ?_)
  |(go_at_call 38;with_reducible refine Cm HV2.out ?_)
  |(go_at_call 39;with_reducible refine Cm HCO.out ?_)
  |(go_at_call 40;with_reducible refine Cm HP1.out ?_)
  |(go_at_call 40;with_reducible refine Cm HP2.out ?_))
 go_ret;exact ⟨rfl,HBE.out⟩
end
end Go.Proofs.YtnabkcglnbdfeaaGreatDoor.Flt
namespace Go.Proofs.YtnabkcglnbdfeaaGreatDoor.Pg
open Go.RowKit Base Txt Par
def T.pre (o:List Eo) (t:T):T:={t with out:=o++t.out}
def Q.pre (o:List Eo):Q->Q
 | .live t=>.live (t.pre o)
 | .dead e x=>.dead e (o++x)
section
variable {p:Nat} {b:Bd} {t:T} {o:List Eo} {s:List UInt8} {c:UInt8}
theorem fin_pre:(t.pre o).fin=t.fin.pre o:=by show ({t with out:=(o++t.out) ++ [t.r],r:=zero,hl:=0,bl:=0,size:=0,cnt:=false,left:=0,st:=1}:T)={t with out:=o++(t.out ++ [t.r]),r:=zero,hl:=0,bl:=0,size:=0,cnt:=false,left:=0,st:=1};rw [List.append_assoc]
theorem endData_pre:(t.pre o).endData p=(t.endData p).pre o:=by
 unfold T.endData;show (if t.r.ch=true then _ else _)= _;by_cases h:t.r.ch=true
 ·rw [if_pos h,if_pos h];rfl
 ·rw [if_neg h,if_neg h];exact fin_pre
theorem first_pre:(t.pre o).first p b s=((t.first p b s).1,(t.first p b s).2.pre o):=by
 unfold T.first;by_cases h:s= []
 ·rw [if_pos h,if_pos h]
 ·rw [if_neg h,if_neg h];dsimp only;by_cases h2:(Rq.request (Rq.clOf p) b.od s).2.2.2=0
  ·rw [if_pos h2,if_pos h2];rfl
  ·rw [if_neg h2,if_neg h2]
theorem endHead_pre:(t.pre o).endHead p b=((t.endHead p b).1,(t.endHead p b).2.pre o):=by
 unfold T.endHead;have er:(t.pre o).r=t.r:=rfl;rw [er];generalize Bs (Frm.clOf p) b.ch b.x3 t.r.k t.r.fs=d;dsimp only;by_cases h1:d.2.2≠0
 ·rw [if_pos h1,if_pos h1]
 ·rw [if_neg h1,if_neg h1];by_cases h2:d.1=2
  ·rw [if_pos h2,if_pos h2];rfl
  ·rw [if_neg h2,if_neg h2];by_cases h3:d.2.1=0
   ·rw [if_pos h3,if_pos h3];exact Prod.ext rfl fin_pre
   ·rw [if_neg h3,if_neg h3];rfl
theorem fields_pre:(t.pre o).fields p b s=((t.fields p b s).1,(t.fields p b s).2.pre o):=by
 unfold T.fields;by_cases h:s= []
 ·rw [if_pos h,if_pos h];exact endHead_pre
 ·rw [if_neg h,if_neg h];rfl
theorem trail_pre:(t.pre o).trail p b s=((t.trail p b s).1,(t.trail p b s).2.pre o):=by
 unfold T.trail;by_cases h:s= []
 ·rw [if_pos h,if_pos h];exact Prod.ext rfl fin_pre
 ·rw [if_neg h,if_neg h];rfl
theorem chunk_pre:(t.pre o).chunk p b s=((t.chunk p b s).1,(t.chunk p b s).2.pre o):=by
 unfold T.chunk;generalize AK (Ei p 27) (Ei p 28) b.x4 b.x3 s=z;dsimp only;by_cases h1:z.2≠0
 ·rw [if_pos h1,if_pos h1]
 ·rw [if_neg h1,if_neg h1];by_cases h2:z.1=0
  ·rw [if_pos h2,if_pos h2];rfl
  ·rw [if_neg h2,if_neg h2];show (if b.x3-(t.r.body.length:Int)<z.1 then _ else _)= _;by_cases h3:b.x3-(t.r.body.length:Int)<z.1
   ·rw [if_pos h3,if_pos h3]
   ·rw [if_neg h3,if_neg h3];rfl
theorem line_pre:(t.pre o).line p b s=((t.line p b s).1,(t.line p b s).2.pre o):=by
 unfold T.line;show (if t.st=1 then _ else _)= _;by_cases h1:t.st=1
 ·rw [if_pos h1,if_pos h1];exact first_pre
 ·rw [if_neg h1,if_neg h1];show (if t.st=2 then _ else _)= _;by_cases h2:t.st=2
  ·rw [if_pos h2,if_pos h2];exact fields_pre
  ·rw [if_neg h2,if_neg h2];show (if t.st=4 then _ else _)= _;by_cases h4:t.st=4
   ·rw [if_pos h4,if_pos h4];exact chunk_pre
   ·rw [if_neg h4,if_neg h4];show (if t.st=7 then _ else _)= _;by_cases h7:t.st=7
    ·rw [if_pos h7,if_pos h7];exact trail_pre
    ·rw [if_neg h7,if_neg h7];rfl
theorem ends_pre (x:Nat × T):ends (x.1,x.2.pre o)=(ends x).pre o:=by
 unfold ends;by_cases h:x.1=0
 ·rw [if_pos h,if_pos h];rfl
 ·rw [if_neg h,if_neg h];rfl
theorem inLine_pre:(t.pre o).inLine p b c=((t.inLine p b c).1.pre o,(t.inLine p b c).2):=by
 unfold T.inLine;have er:(t.pre o).rd=t.rd:=rfl;have es:(t.pre o).st=t.st:=rfl;have eo:(t.pre o).out=o++t.out:=rfl;rw [er,es,eo];generalize t.rd.clear.next c=how;dsimp only;by_cases h0:how=0
 ·rw [if_pos h0,if_pos h0];rfl
 ·rw [if_neg h0,if_neg h0];by_cases h3:how=3
  ·rw [if_pos h3,if_pos h3];rfl
  ·rw [if_neg h3,if_neg h3];by_cases h4:how=4
   ·rw [if_pos h4,if_pos h4];by_cases h5:(t.st==6&&Ei p 29)=true
    ·rw [if_pos h5,if_pos h5];rfl
    ·rw [if_neg h5,if_neg h5];rfl
   ·rw [if_neg h4,if_neg h4];refine Prod.ext ?_ rfl;show ends ((({t with rd:=t.rd.byte c}:T).pre o).line p b (t.rd.byte c).line)= _;rw [line_pre,ends_pre]
theorem counted_pre:(t.pre o).counted=t.counted.pre o:=by
 unfold T.counted;show (if t.cnt=true then _ else _)= _;by_cases h:t.cnt=true
 ·rw [if_pos h,if_pos h]
 ·rw [if_neg h,if_neg h];rfl
theorem look_pre:(t.pre o).look p b c=((t.look p b c).1.pre o,(t.look p b c).2):=by
 unfold T.look;show (if bodied t.st=true then _ else _)= _;by_cases h1:bodied t.st=true
 ·rw [if_pos h1,if_pos h1];refine Prod.ext ?_ rfl;show Q.live (if t.left=1 then _ else _)= _;by_cases h2:t.left=1
  ·rw [if_pos h2,if_pos h2];show Q.live (((t.keep c).pre o).endData p)= _;rw [endData_pre];rfl
  ·rw [if_neg h2,if_neg h2];rfl
 ·rw [if_neg h1,if_neg h1];show (if headed t.st=true then _ else _)= _;by_cases h2:headed t.st=true
  ·rw [if_pos h2,if_pos h2,counted_pre];show (if b.x2<(t.counted.size:Int) then _ else _)= _
   by_cases h3:b.x2<(t.counted.size:Int)
   ·rw [if_pos h3,if_pos h3];rfl
   ·rw [if_neg h3,if_neg h3];exact inLine_pre
  ·rw [if_neg h2,if_neg h2];exact inLine_pre
theorem take_pre:(t.pre o).take p b c=(t.take p b c).pre o:=by
 unfold T.take;have e:({(t.pre o) with cnt:=false}:T)=({t with cnt:=false}:T).pre o:=rfl;rw [e,look_pre];rcases ({t with cnt:=false}:T).look p b c with ⟨x,u⟩;cases x with
 | dead e1 o1=>cases u<;>rfl
 | live t1=>
   cases u with
   | true=>rfl
   | false=>
     show ((t1.pre o).look p b c).1=((t1.look p b c).1).pre o;rw [look_pre]
theorem byte_pre (x:Q):(x.pre o).byte p b c=(x.byte p b c).pre o:=by
 cases x with
 | live t=>exact take_pre
 | dead e o1=>rfl
theorem feed_pre (l:List UInt8):∀x:Q,(x.pre o).feed p b l=(x.feed p b l).pre o:=by
 induction l with
 | nil=>intro x;rfl
 | cons c l ih=>
   intro x;show ((x.pre o).byte p b c).feed p b l=((x.byte p b c).feed p b l).pre o;rw [byte_pre,ih]
theorem pre_told (x:Q):x.told.pre x.out=x:=by
 cases x with
 | live t=>
   show Q.live {t with out:=t.out ++ []}= _;rw [Cb]
 | dead e o1=>
   show Q.dead e (o1 ++ [])= _;rw [Cb]
theorem pre_err (x:Q):(x.pre o).err=x.err:=by cases x<;>rfl
theorem pre_out (x:Q):(x.pre o).out=o++x.out:=by cases x<;>rfl
end
end Go.Proofs.YtnabkcglnbdfeaaGreatDoor.Pg
namespace Go.Proofs.YtnabkcglnbdfeaaGreatDoor.Flt
open Go.RowKit Base Txt Par Pg
section
variable {p:Nat} {b:Bd} {t:T} {s:List UInt8} {c:UInt8}
theorem line_bad_out (h:(t.line p b s).1≠0):(t.line p b s).2.out=t.out:=by
 revert h;unfold T.line;split
 ·unfold T.first;split
  ·intro _;rfl
  ·dsimp only;split
   ·intro h;exact absurd rfl h
   ·intro _;rfl
 ·split
  ·unfold T.fields;split
   ·unfold T.endHead;dsimp only;split
    ·intro _;rfl
    ·split
     ·intro _;rfl
     ·split
      ·intro h;exact absurd rfl h
      ·intro _;rfl
   ·intro _;rfl
  ·split
   ·unfold T.chunk;dsimp only;split
    ·intro _;rfl
    ·split
     ·intro _;rfl
     ·split
      ·intro _;rfl
      ·intro _;rfl
   ·split
    ·unfold T.trail;split
     ·intro h;exact absurd rfl h
     ·intro _;rfl
    ·intro _;rfl
theorem inLine_bad_out {e:Nat} {o:List Eo} {u:Bool} (h:t.inLine p b c=(.dead e o,u)):o=t.out:=by
 unfold T.inLine at h;dsimp only at h;split at h
 ·cases h
 ·split at h
  ·cases h;rfl
  ·split at h
   ·split at h
    ·cases h
    ·cases h;rfl
   ·have h1:=congrArg Prod.fst h;unfold ends at h1;dsimp only at h1;split at h1
    ·cases h1
    ·rename_i h0;have:=line_bad_out h0;cases h1;exact this
theorem look_bad_out {e:Nat} {o:List Eo} {u:Bool} (h:t.look p b c=(.dead e o,u)):o=t.out:=by
 unfold T.look at h;split at h
 ·cases h
 ·split at h
  ·split at h
   ·cases h;rfl
   ·have:=inLine_bad_out h
    rwa [counted_out] at this
  ·exact inLine_bad_out h
theorem strict_used (hs:t.Strict):(t.inLine 0 b c).2=true:=by
 have h2:t.rd.clear.next c≠2:=by
  unfold Ln.M.next;have e1:t.rd.clear.cr=false:=hs.cr;rw [e1];simp only [A4,if_false]
  repeat' split
  all_goals decide
 unfold T.inLine;obtain ⟨how,hh⟩:∃how,t.rd.clear.next c=how:=⟨_,rfl⟩;simp only [hh] at h2 ⊢;split
 ·rfl
 ·split
  ·rfl
  ·split
   ·rw [none0 29,Au];rfl
   ·simp only [A7,beq_eq_false_iff_ne];exact h2
theorem strict_look (hs:t.Strict):(t.look 0 b c).2=true:=by
 unfold T.look;split
 ·rfl
 ·split
  ·split
   ·rfl
   ·exact strict_used ⟨by rw [counted_rd];exact hs.lf,by rw [counted_rd];exact hs.cr⟩
  ·exact strict_used hs
theorem strict_bad {e:Nat} {o:List Eo} (hs:t.Strict) (h:t.take 0 b c=.dead e o):o=t.out:=by
 unfold T.take at h;have hs0:({t with cnt:=false}:T).Strict:=⟨hs.lf,hs.cr⟩;have hu:=strict_look (b:=b) (c:=c) hs0;rcases hq:({t with cnt:=false}:T).look 0 b c with ⟨q,u⟩;rw [hq] at h hu;cases q with
 | dead e1 o1=>
   have:=look_bad_out hq
   cases u<;> (cases h;exact this)
 | live t1=>
   have hu:u=true:=hu;subst hu;cases h
theorem pass_feed (l:List UInt8):∀{f:F} {t:T},f.Just p b->f.code=0->f.x=.live t->(Bj p b f l).2=((Q.live t).feed 0 b l).out/\(Bj p b f l).1.code=((Q.live t).feed 0 b l).err:=by
 induction l with
 | nil=>
   intro f t hj h0 hx;rcases hj with ⟨h1,h2,t',h3,h4,h5, -⟩ | ⟨h1, -⟩
   ·have e:t'=t:=by rw [h3] at hx;cases hx;rfl
    subst e;exact ⟨h5.symm,h0⟩
   ·exact absurd h0 h1
 | cons c l ih=>
   intro f t hj h0 hx;have hj2:=just_byte hj c;rcases hj with ⟨h1,h2,t',h3,h4,h5,h6,h7,h8,s,h9⟩ | ⟨h1, -⟩
   ·have e:t'=t:=by rw [h3] at hx;cases hx;rfl
    subst e;have eb:f.byte p b c=f.look p b c:=if_pos h0;have e1:(Q.live t').byte 0 b c=t'.take 0 b c:=rfl;have e2:(Q.live (t'.wide p)).byte p b c=(t'.wide p).take p b c:=rfl;have ef:Bj p b f (c::l)=((Bj p b (f.byte p b c).1 l).1,(f.byte p b c).2++(Bj p b (f.byte p b c).1 l).2):=rfl;have eq:(Q.live t').feed 0 b (c::l)=(t'.take 0 b c).feed 0 b l:=rfl;rw [ef,eq];cases ht:t'.take 0 b c with
    | live t2=>
      obtain ⟨k1,k2⟩:=take_wide (p:=p) ht h4;have hl:f.look p b c=(⟨.live {t2 with out:= []},.live {t2.wide p with out:= []},f.code,f.parted⟩,t2.out):=by unfold F.look;rw [h3,h6];simp only [e1,e2,ht,k1];have e3:Rec.all (Q.live t2).out (Q.live (t2.wide p)).out=true:=all_self _;rw [e3];rfl
      rw [eb,hl] at hj2 ⊢;obtain ⟨i1,i2⟩:=ih (t:={t2 with out:= []}) hj2 h0 rfl;have ep:(Q.live t2).feed 0 b l=((Q.live {t2 with out:= []}).feed 0 b l).pre t2.out:=by
       rw [←feed_pre]
       have:(Q.live {t2 with out:= []}).pre t2.out=Q.live t2:=pre_told (.live t2);rw [this]
      rw [ep,pre_out,pre_err];exact ⟨by rw [i1],i2⟩
    | dead e o=>
      have ho:o= []:=(strict_bad h4 ht).trans h5;subst ho;rw [ht] at e1;have hs:=take_sim h9 h7 h8 c;rw [ht] at hs;obtain ⟨k1,k2,k3,k4⟩:=hs;have hl2:(f.look p b c).2= []:=by unfold F.look;rw [h3,h6];simp only [e1];show (if _ then ([]:List Eo) else [])= [];split<;>rfl
      have hl1:(f.look p b c).1.code=e:=by unfold F.look;rw [h3,h6];simp only [e1];unfold F.judge;rw [if_pos (show (Q.dead e []).err≠0 from k2)];rfl
      rw [eb,hl2,F.feed_blocked p b _ (by rw [hl1];exact k2),feed_dead];exact ⟨rfl,hl1⟩
   ·exact absurd h0 h1
theorem pass_all (hp:p<1073741824) (hb:b.right=true) (l:List UInt8) :
 (Bj p b (F.new p b) l).2=(Q.read 0 b l).out/\(Bj p b (F.new p b) l).1.code=(Q.read 0 b l).err/\((Q.read 0 b l).err=0->(Bj p b (F.new p b) l).1.parted=false):=by
 have hj:=just_new hp hb
 have e0:Q.new 0 b=.live (T.new 0 b):=if_pos (by rw [hb];rfl)
 have e:Q.new p b=.live (T.new p b):=if_pos (by rw [hb,decide_eq_true hp];rfl);have hc:(F.new p b).code=0:=by show (Q.new p b).err=0;rw [e];rfl
 obtain ⟨h1,h2⟩:=pass_feed l hj hc e0;have er:Q.read 0 b l=(Q.live (T.new 0 b)).feed 0 b l:=by unfold Q.read;rw [e0]
 rw [er];refine ⟨h1,h2,λh=>?_⟩;rcases just_feed l hj with ⟨-,h3, -⟩ | ⟨h3, -⟩
 ·exact h3
 ·exact absurd (h2.trans h) h3
end
end Go.Proofs.YtnabkcglnbdfeaaGreatDoor.Flt
namespace Go.Proofs.YtnabkcglnbdfeaaGreatDoor.Par
open Go.RowKit Base Txt Mem
abbrev nil:Value:=ZX none 0 0
structure Cs (w:World) (g:Nat) (p:Nat) (b:Bd) (s:S) (q:Nat) (f bd t o:Value):Prop where
 c0:w.cell? ⟨g,0,none⟩=some (ZZ ZQ (p:Int))
 c1:w.cell? ⟨g,1,none⟩=some (ZZ ZS b.x0)
 c2:w.cell? ⟨g,2,none⟩=some (ZZ ZS b.x1)
 c3:w.cell? ⟨g,3,none⟩=some (ZZ ZS b.x2)
 c4:w.cell? ⟨g,4,none⟩=some (ZZ ZS b.x3)
 c5:w.cell? ⟨g,5,none⟩=some (ZZ ZS b.x4)
 c6:w.cell? ⟨g,6,none⟩=some (ZZ ZS b.x5)
 c7:w.cell? ⟨g,7,none⟩=some (ZZ ZS b.x6)
 c8:w.cell? ⟨g,8,none⟩=some (ZZ ZS b.x7)
 c9:w.cell? ⟨g,9,none⟩=some (ZW b.ch)
 c10:w.cell? ⟨g,10,none⟩=some (ZW b.od)
 c11:w.cell? ⟨g,11,none⟩=some (ZZ ZS (s.st:Int))
 c12:w.cell? ⟨g,12,none⟩=some (ptr q)
 c13:w.cell? ⟨g,13,none⟩=some (ZY s.r.m)
 c14:w.cell? ⟨g,14,none⟩=some (ZY s.r.x)
 c15:w.cell? ⟨g,15,none⟩=some (ZZ ZS s.r.k)
 c16:w.cell? ⟨g,16,none⟩=some (f)
 c17:w.cell? ⟨g,17,none⟩=some (ZW s.r.ch)
 c18:w.cell? ⟨g,18,none⟩=some (bd)
 c19:w.cell? ⟨g,19,none⟩=some (t)
 c20:w.cell? ⟨g,20,none⟩=some (ZZ ZS (s.lines:Int))
 c21:w.cell? ⟨g,21,none⟩=some (ZZ ZS (s.head:Int))
 c22:w.cell? ⟨g,22,none⟩=some (ZZ ZS (s.left:Int))
 c23:w.cell? ⟨g,23,none⟩=some (ZW s.fresh)
 c24:w.cell? ⟨g,24,none⟩=some (ZW s.clean)
 c25:w.cell? ⟨g,25,none⟩=some (ZZ ZS (s.e:Int))
 c26:w.cell? ⟨g,26,none⟩=some (o)
theorem Cs.of {w:World} {g:Nat} {p:Nat} {b:Bd} {s:S} {q:Nat} {f bd t o:Value} (h:w.heap[g]?=some (.cells (pcells p b s q f bd t o).toArray 60 (0,0))):Cs w g p b s q f bd t o:=⟨row_cellL h rfl,row_cellL h rfl,row_cellL h rfl,row_cellL h rfl,row_cellL h rfl,row_cellL h rfl,row_cellL h rfl,row_cellL h rfl,row_cellL h rfl,row_cellL h rfl,row_cellL h rfl,row_cellL h rfl,row_cellL h rfl,row_cellL h rfl,row_cellL h rfl,row_cellL h rfl,row_cellL h rfl,row_cellL h rfl,row_cellL h rfl,row_cellL h rfl,row_cellL h rfl,row_cellL h rfl,row_cellL h rfl,row_cellL h rfl,row_cellL h rfl,row_cellL h rfl,row_cellL h rfl⟩
section
set_option maxHeartbeats 4000000
set_option maxRecDepth 20000
variable {w:World} {B:Zone} {g q:Nat} {v f bd t o:Value} {p:Nat} {b:Bd} {s:S}
theorem PR.cs (h:PR w B g q v f bd t o p b s):Cs w g p b s q f bd t o:=Cs.of h.row
theorem PR.marks (h:PR w B g q v f bd t o p b s) (k:Nat):w.frozen? ⟨g,k,none⟩=false:=Dy h.row k
theorem PR.zero_of {f1 bd1 t1:Value} {fs1 ts1:List Fld} {body1:List UInt8} (hr:w.heap[g]?=some (.cells (pcells p b s q f bd t o).toArray 60 (0,0))) (ho:Own w B g q v f1 bd1 t1 o p s.rd fs1 body1 ts1 s.out) (s':S) (hs:s'={s with r:=zero}) :
 PR (((((((w.setCell ⟨g,13,none⟩ (ZY E0)).setCell ⟨g,14,none⟩ (ZY E0)).setCell ⟨g,15,none⟩ (ZZ ZS 0)).setCell ⟨g,16,none⟩ nil).setCell ⟨g,17,none⟩ (ZW false)).setCell ⟨g,18,none⟩ nil).setCell ⟨g,19,none⟩ nil) B g q v nil nil nil o p b s':=by
 subst hs;refine ⟨?_,(((((((ho.zero).set 13 _).set 14 _).set 15 _).set 16 _).set 17 _).set 18 _).set 19 _⟩;exact row_setL (row_setL (row_setL (row_setL (row_setL (row_setL (row_setL hr 13 _) 14 _) 15 _) 16 _) 17 _) 18 _) 19 _
theorem PR.zero (h:PR w B g q v f bd t o p b s) (s':S) (hs:s'={s with r:=zero}):PR (((((((w.setCell ⟨g,13,none⟩ (ZY E0)).setCell ⟨g,14,none⟩ (ZY E0)).setCell ⟨g,15,none⟩ (ZZ ZS 0)).setCell ⟨g,16,none⟩ nil).setCell ⟨g,17,none⟩ (ZW false)).setCell ⟨g,18,none⟩ nil).setCell ⟨g,19,none⟩ nil) B g q v nil nil nil o p b s':=
 PR.zero_of h.row h.own s' hs
theorem Step.put7 (u13 u14 u15 u16 u17 u18 u19:Value):Step (blks g q v f bd t o) (blks g q v f bd t o) w (((((((w.setCell ⟨g,13,none⟩ u13).setCell ⟨g,14,none⟩ u14).setCell ⟨g,15,none⟩ u15).setCell ⟨g,16,none⟩ u16).setCell ⟨g,17,none⟩ u17).setCell ⟨g,18,none⟩ u18).setCell ⟨g,19,none⟩ u19):=
 ((((((EJ g 13 _ (by simp)).trans (EJ g 14 _ (by simp))).trans (EJ g 15 _ (by simp))).trans (EJ g 16 _ (by simp))).trans (EJ g 17 _ (by simp))).trans (EJ g 18 _ (by simp))).trans (EJ g 19 _ (by simp))
theorem fail_any (h:PR w B g q v f bd t o p b s) (e:Nat):Calls Gq 118 #[ptr g,ZZ ZS (e:Int)] w λr w'=>
 r=.returned (ZT #[])/\PR w' B g q v nil nil nil o p b (s.fail e)/\Step (blks g q v f bd t o) (blks g q v nil nil nil o) w w':=by
 have H:=BN h;have c24:=h.cs.c24;have z24:=h.marks 24;have c25:=h.cs.c25;have z25:=h.marks 25;have c13:=h.cs.c13;have z13:=h.marks 13;have c14:=h.cs.c14;have z14:=h.marks 14;have c15:=h.cs.c15;have z15:=h.marks 15;have c16:=h.cs.c16;have z16:=h.marks 16;have c17:=h.cs.c17;have z17:=h.marks 17;have c18:=h.cs.c18;have z18:=h.marks 18;have c19:=h.cs.c19;have z19:=h.marks 19
 have H1:=BN (h.put 25 (ZZ ZS (e:Int)) {s with e:=e} rfl rfl rfl rfl rfl rfl)
 have H2:=BN (H1.out.put 24 (ZW false) {s with e:=e,clean:=false} rfl rfl rfl rfl rfl rfl);clear h;go_enter Tryz.func118,Tryz.ntmps118;go_wp2;go_end0;exact ⟨rfl,H2.out.zero _ rfl,((EJ g 25 _ (by simp)).trans (EJ g 24 _ (by simp))).trans ((Step.put7 _ _ _ _ _ _ _).trans Step.zero)⟩
theorem rnew_line (B:Nat) (most:Int) (w:World) (hB:B<=w.heap.size):Calls Gq 116 #[ZZ ZQ (p:Int),ZZ ZS most] w λr w'=>∃q1,r=.returned (ptr q1)/\w.heap.size<=q1/\Ln.Rr w' B q1 nil p (nl p most)/\Below w.heap.size w w':=by refine (Ln.rnew_any p most w).mono ?_;exact XX8I9
theorem XXSdZ {P:Prop} (h:P:=by refine AY rfl (λev w1 hR hb hh=>?_);have e0:=hR.old 0 rfl;simp only [Ag,C6,Cy,Cz,DV] at e0;have q0:=(HQ.out.below hb).c 0 _ rfl;have q1:=(HQ.out.below hb).c 1 _ rfl;exact Each.std):P:=h
theorem XXHuz {P:Prop} (h:P:=by
 clear hh;have ef:=hR.func
 refine AP 116 #[ZZ ZQ (p:Int),ZZ ZS (b.x0)] (by go_simp) ((rnew_line B (b.x0) w1 (D7 HBW.out hb.size)).mono ?_);rintro r w2 ⟨q1,rfl,h1,h2,hb2⟩
 exact ⟨_,rfl,hb2,q1,rfl,D7 hb.size h1,h2⟩):P:=h
theorem next_any {f1 bd1 t1:Value} {fs1 ts1:List Fld} {body1:List UInt8} (hrow:w.heap[g]?=some (.cells (pcells p b s q f bd t o).toArray 60 (0,0))) (ho:Own w B g q v f1 bd1 t1 o p s.rd fs1 body1 ts1 s.out):Calls Gq 74 #[ptr g] w λr w'=>
 r=.returned (ZT #[])/\∃q1,PR w' B g q1 nil nil nil nil o p b (s.next p b)/\Step (blks g q v f1 bd1 t1 o) (blks g q1 nil nil nil nil o) w w':=by
 have H1:=BN ((((((PR.zero_of hrow ho {s with r:=zero} rfl).put 11 (ZZ ZS 0) {s with r:=zero,st:=0} rfl rfl rfl rfl rfl rfl).put 20 (ZZ ZS 0) {s with r:=zero,st:=0,lines:=0} rfl rfl rfl rfl rfl rfl).put 21 (ZZ ZS 0) {s with r:=zero,st:=0,lines:=0,head:=0} rfl rfl rfl rfl rfl rfl).put 23 (ZW false) {s with r:=zero,st:=0,lines:=0,head:=0,fresh:=false} rfl rfl rfl rfl rfl rfl).put 24 (ZW true) {s with r:=zero,st:=0,lines:=0,head:=0,fresh:=false,clean:=true} rfl rfl rfl rfl rfl rfl)
 have HS:=BN ((((((Step.put7 (w:=w) (g:=g) (q:=q) (v:=v) (f:=f1) (bd:=bd1) (t:=t1) (o:=o) (ZY E0) (ZY E0) (ZZ ZS 0) nil (ZW false) nil nil).trans (EJ g 11 (ZZ ZS 0) (by simp))).trans (EJ g 20 (ZZ ZS 0) (by simp))).trans (EJ g 21 (ZZ ZS 0) (by simp))).trans (EJ g 23 (ZW false) (by simp))).trans (EJ g 24 (ZW true) (by simp)));have cs:=Cs.of hrow;have c11:=cs.c11;have z11:=Dy hrow 11;have c20:=cs.c20;have z20:=Dy hrow 20;have c21:=cs.c21;have z21:=Dy hrow 21;have c23:=cs.c23;have z23:=Dy hrow 23;have c24:=cs.c24;have z24:=Dy hrow 24;have c13:=cs.c13;have z13:=Dy hrow 13;have c14:=cs.c14;have z14:=Dy hrow 14;have c15:=cs.c15;have z15:=Dy hrow 15;have c16:=cs.c16;have z16:=Dy hrow 16;have c17:=cs.c17;have z17:=Dy hrow 17;have c18:=cs.c18;have z18:=Dy hrow 18;have c19:=cs.c19;have z19:=Dy hrow 19
 have HB:=BN (ho.ge);clear hrow ho cs;go_enter Tryz.func74,Tryz.ntmps74;go_upto_region 1 with fail
 generalize (((((((((((w.setCell ⟨g,13,none⟩ (ZY E0)).setCell ⟨g,14,none⟩ (ZY E0)).setCell ⟨g,15,none⟩ (ZZ ZS 0)).setCell ⟨g,16,none⟩ (nil)).setCell ⟨g,17,none⟩ (ZW false)).setCell ⟨g,18,none⟩ (nil)).setCell ⟨g,19,none⟩ (nil)).setCell ⟨g,11,none⟩ (ZZ ZS 0)).setCell ⟨g,20,none⟩ (ZZ ZS 0)).setCell ⟨g,21,none⟩ (ZZ ZS 0)).setCell ⟨g,23,none⟩ (ZW false)).setCell ⟨g,24,none⟩ (ZW true)=W1 at *;clear c11 c20 c21 c23 c24 c13 c14 c15 c16 c17 c18 c19 z11 z20 z21 z23 z24 z13 z14 z15 z16 z17 z18 z19;obtain ⟨S1,hS1⟩:∃S1:S,{s with r:=zero,st:=0,lines:=0,head:=0,fresh:=false,clean:=true}=S1:=⟨_,rfl⟩;have HS1:=BN hS1;rw [hS1] at H1;clear hS1
 have HQ:=BN ((H1.out.drew 1).bk)
 have HBW:=BN (show B<=(W1.drewN 1).heap.size from D7 HB.out (D4 (H1.out.drew 1).own.lt));refine Each.region 11 [21,22,23,24,25,26,27,28,29,30,31] [eP g 0,eP g 0,eP g 0,eP g 0,eQ (ZZ ZQ (p:Int)),eP g 0,eP g 0,eP g 1,eP g 1,eQ (ZZ ZS b.x0),λv w=>∃q1,v=ptr q1/\W1.heap.size<=q1/\Ln.Rr w B q1 nil p (nl p (b.x0))] (.quiet 11 (.quiet 12 (.act 13 .done))) (by kernel_rfl) (by kernel_rfl) (by kernel_rfl) (by kernel_rfl) (λ_ _ d _ _ h=>by cases d<;>exact h) (by rfl) (by rfl) ⟨AT _,AT _,AT _,AT _,AT _,AT _,AT _,AT _,AT _,AT _,((λ_ _ _ hb h=>by obtain ⟨q1,e1,h1,h2⟩:=h;exact ⟨q1,e1,h1,rr_below h2 hb⟩)),trivial⟩ ?_ ?_
 ·refine ⟨?_,?_,?_,?_,?_,?_,?_,?_,?_,?_,?_,trivial⟩
  ·exact XXSdZ
  ·exact XXSdZ
  ·exact XXSdZ
  ·exact XXSdZ
  ·exact XXSdZ
  ·exact XXSdZ
  ·exact XXSdZ
  ·exact XXSdZ
  ·exact XXSdZ
  ·exact XXSdZ
  ·refine AY rfl (λev w1 hR hb hh=>?_);have e25:ev (.tmp 25)= _:=hh.at 0;have e30:ev (.tmp 30)= _:=hh.at 1;exact XXHuz
 intro g1 w2 hb hf;have z21:g1 21= _:=hf.at 0;have z31:=hf.at 10;clear hf;obtain ⟨q1,e1,hq1,hr1⟩:=z31;simp only [Be,Ab,Di,Dl,Dk];rw [e1,z21];simp only [Fk,Fl,Cz,Cy];refine Fm (by rfl) (ptr g) (λ_ _=>by go_simp) ?_;simp only [Ab,Di,Dl,Dk];refine Fm (by rfl) (ZV (some ⟨g,12,none⟩)) (λ_ _=>by go_simp) ?_;simp only [Ab,Di,Dl,Dk];have c12:=(H1.out.below hb).cs.c12;have z12:=(H1.out.below hb).marks 12
 refine Fi (by rfl) (λK hK=>?_);go_simp;refine hK _ _ trivial ?_;clear hK K;refine Fj ?_;have H2:=H1.out.line hb hr1 hq1
 have HS2:=(HS.out.trans Step.zero).trans ((Step.line hb hq1).trans (EJ g 12 (ptr q1) (by simp)));rw [←HS1.out] at H2;clear H1 HQ HBW HS HS1 hr1 hq1 c12 z12;go_wp2;go_end0;exact ⟨rfl,q1,H2,HS2⟩
theorem record_info:(Gq.info? 58).map (λi=>(i.zero,i.size,i.bytes))=some (some (ZU #[ZY AG,ZY AG,ZZ ZS 0,ZX none 0 0,ZW false,ZX none 0 0,ZX none 0 0]),7,120):=by kernel_rfl
theorem XXVVG {P:Prop} (h:P:=by refine AY rfl (λev w1 hR hb hh=>?_);have e0:=hR.old 0 rfl;simp only [Ag,C6,Cy,Cz,DV] at e0;have q26:=(HQ.out.below hb).c 26 _ rfl;have q13:=(HQ.out.below hb).c 13 _ rfl;have q14:=(HQ.out.below hb).c 14 _ rfl;have q15:=(HQ.out.below hb).c 15 _ rfl;have q16:=(HQ.out.below hb).c 16 _ rfl;have q17:=(HQ.out.below hb).c 17 _ rfl;have q18:=(HQ.out.below hb).c 18 _ rfl;have q19:=(HQ.out.below hb).c 19 _ rfl;exact Each.std):P:=h
theorem XXQtb {P:Prop} (h:P:=by
 have H2:=H.out.below hb;obtain ⟨ps,hps,hfar,hrow⟩:=H2.own.O;obtain ⟨bo,co,eo, -⟩:=Dw hrow;subst eo
 obtain ⟨v',w3,hrun,ho,hgr,hor⟩:=App.run_append_list w2 39 39 B 58 iR (.agg #[.string AG,.string AG,.int .i64 0,.slice none 0 0,.bool false,.slice none 0 0,.slice none 0 0]) 7 120 Tryz.underlying39 I1.out I2.out I3.out I4.out rfl (by decide) (.slice bo s.out.length co) s.out.length (ps.flatMap (·.1.toList)) hrow (some ⟨gl,0,none⟩) 1 1 [.string s.r.m,.string s.r.x,.int .i64 s.r.k,f,.bool s.r.ch,bd,t] rfl (λ_=>⟨gl,0,rfl,λj u hu=>by rw [DB];exact hBl.c j u hu⟩) (by intro u hu;simp only [CV,De,or_false] at hu;rcases hu with rfl | rfl | rfl | rfl | rfl | rfl | rfl<;>first | rfl | exact one_own H2.own.F | exact one_own H2.own.D | exact one_own H2.own.T) (by have:=HN.out;unfold maxLen;omega) (by have:=HN.out;omega) (D7 H2.own.ge (D4 H2.own.lt));obtain ⟨b9,c9,e9, -⟩:=Dw ho;subst e9;have HP:=H2.own.push hgr ps hps hfar ho hor;have hr3:w3.heap[g]?=some (.cells (pcells p b s q f bd t (.slice bo s.out.length co)).toArray 60 (0,0)):=(hgr.block g H2.own.lt (λe=>H2.own.lone.ne (i:=0) (j:=6) rfl (by decide) (by rw [e];rfl))).trans H2.row
 refine Fi (by rfl) (λK hK=>?_);refine Each.oper_append _ _ _ rfl (by rfl) (by rfl) hrun ?_;refine hK _ _ trivial ?_;clear hK K hrun;simp only [Ab,Di,Dl,Dk];refine Fm (by rfl) (ptr g) (λ_ _=>by go_simp) ?_;simp only [Ab,Di,Dl,Dk];refine Fm (by rfl) (ZV (some ⟨g,26,none⟩)) (λ_ _=>by go_simp) ?_;simp only [Ab,Di,Dl,Dk];have c26:=(Cs.of hr3).c26;have z26:=Dy hr3 26
 refine Fi (by rfl) (λK hK=>?_);go_simp;refine hK _ _ trivial ?_;clear hK K;refine Fj ?_
 have hr4:=row_setL hr3 26 (.slice b9 (s.out.length+1) c9)
 have HP4:=HP.set 26 (.slice b9 (s.out.length+1) c9)
 have HS4:=((EH hb (L:=blks g q v f bd t (.slice bo s.out.length co))).trans (Step.push hgr hor)).trans (EJ g 26 (.slice b9 (s.out.length+1) c9) (by simp))
 have HNX:=BN (next_any (s:={s with out:=s.out ++ [s.r]}) hr4 HP4);have HS5:=BN HS4;clear c26 z26 hr3 hr4 HP HP4 HS4 hgr ho hor hrow hfar hps H2 hBl;generalize w3.setCell ⟨g,26,none⟩ (.slice b9 (s.out.length+1) c9)=W4 at *
 go_wp2_with (go_at_call 74;with_reducible refine HNX.out.mono ?_;rintro r w5 ⟨rfl,q1,hp5,hs5⟩);go_end0
 exact ⟨rfl,q1,(.slice b9 (s.out.length+1) c9),hp5,HS5.out.trans hs5⟩):P:=h
theorem whole_any (h:PR w B g q v f bd t o p b s) (hn:s.out.length<=1000000000):Calls Gq 161 #[ptr g] w λr w'=>
 r=.returned (ZT #[])/\∃q1 o1,PR w' B g q1 nil nil nil nil o1 p b (s.whole p b)/\Step (blks g q v f bd t o) (blks g q1 nil nil nil nil o1) w w':=by
 obtain ⟨iR,hi,hz0,hz1,hz2⟩:=info_parts record_info;have I1:=BN hi;have I2:=BN hz0;have I3:=BN hz1;have I4:=BN hz2;clear hi hz0 hz1 hz2;have H:=BN h;have HN:=BN hn
 have HQ:=BN ((h.drew 1).bk);clear h hn;go_enter Tryz.func161,Tryz.ntmps161;go_upto_region 0 with fail
 refine Each.region_float 10 [2,3,4,5,6,7,8,9,10,11] [eP g 0,eP g 0,eP g 0,eP g 26,eQ (o),eP g 0,eP g 0,eP g 13,eQ (ZU #[ZY s.r.m,ZY s.r.x,ZZ ZS s.r.k,f,ZW s.r.ch,bd,t]),λv w=>∃g1,v=ZX (some ⟨g1,0,none⟩) 1 1/\El w g1 [ZY s.r.m,ZY s.r.x,ZZ ZS s.r.k,f,ZW s.r.ch,bd,t]] [] 4 (some 0) (.act 10 (.quiet 11 (.quiet 12 (.act 13 .done)))) (.quiet 0 (.act 10 (.quiet 11 (.quiet 12 (.act 13 .done))))) (by kernel_rfl) (by kernel_rfl) (by kernel_rfl) (by kernel_rfl) (λk0 h=>by cases h;kernel_rfl) (λ_ _ d _ _ h=>by cases d<;>exact h) (by rfl) (by rfl) ⟨AT _,AT _,AT _,AT _,AT _,AT _,AT _,AT _,AT _,((λ_ _ _ hb h=>by obtain ⟨g1,e1,hB⟩:=h;exact ⟨g1,e1,hB.below hb⟩)),trivial⟩ trivial (by rfl) ?_ ?_ ?_
 ·refine ⟨?_,?_,?_,?_,?_,?_,?_,?_,?_,?_,trivial⟩
  ·exact XXVVG
  ·exact XXVVG
  ·exact XXVVG
  ·exact XXVVG
  ·exact XXVVG
  ·exact XXVVG
  ·exact XXVVG
  ·exact XXVVG
  ·exact XXVVG
  ·refine AY rfl (λev w1 hR hb hh=>?_);have e10:ev (.tmp 10)= _:=hh.at 0;exact XX4eD
 ·intro g1 w2 hb hf;have z2:g1 2= _:=hf.at 0;have z6:g1 6= _:=hf.at 4;have z11:=hf.at 9;clear hf;obtain ⟨gl,el,hBl⟩:=z11;simp only [Be,Ab,Di,Dl,Dk];rw [z2,z6,el];simp only [Fk,Fl,Cz,Cy];exact XXQtb
 ·intro k0 hk0 g1 w2 hb hf;cases hk0;have z6:g1 6= _:=hf.at 4;have z11:=hf.at 9;clear hf;obtain ⟨gl,el,hBl⟩:=z11;simp only [Be,Ab,Di,Dl,Dk];rw [z6,el];simp only [Fk,Fl,Cz,Cy];refine Fm (by rfl) (ptr g) (λ_ _=>by go_simp) ?_;simp only [Ab,Di,Dl,Dk];exact XXQtb
end
end Go.Proofs.YtnabkcglnbdfeaaGreatDoor.Par
namespace Go.Proofs.YtnabkcglnbdfeaaGreatDoor.Pg
open Go.RowKit Base Txt Mem Par
structure Acc (L:List (Option Nat)) (B:Nat) (w:World) (v:Value) (out:List Eo):Prop where
 outs:Outs L ⟨B,[v.ownBlock]⟩ w v out
 far:∀k,v.ownBlock=some k->some k∉L/\k<w.heap.size
section
variable {L L':List (Option Nat)} {B:Nat} {w w':World} {v v' o:Value} {out out2:List Eo}
end
theorem bts_range {w:World} {g:Nat} {s:List UInt8} {L:List (Option Nat)} (h:By.Bytes w g s) (hlt:g<w.heap.size) (hn:some g∉L) (k m:Nat) (hk:k+m<=s.length) (k2:Nat) (h2:k2=k∨m=0):Bts L w (some ⟨g,k2,none⟩) ((s.drop k).take m):=by
 have hl:((s.drop k).take m).length=m:=by rw [CO,CI];omega
 refine ⟨⟨by rw [CK],λh0=>⟨g,k2,rfl,hlt,λj hj=>?_⟩⟩,λad e=>?_⟩
 ·rw [hl] at hj
  obtain rfl:k2=k:=h2.resolve_right (by omega);have hj2:k2+j<s.length:=by omega
  rw [(h (k2+j) hj2).1,C3,List.getElem?_take_of_lt hj,List.getElem?_drop,C0 hj2];rfl
 ·have e:ad=⟨g,k2,none⟩:=by simpa using e.symm
  rw [e];exact ⟨hn,hlt⟩
theorem bytes_keeps {w w':World} {g:Nat} {s:List UInt8} {M:List (Option Nat)} (h:By.Bytes w g s) (hlt:g<w.heap.size) (hk:Keeps M w w') (hn:some g∉M):By.Bytes w' g s:=λj hj=>by have hb:=hk.block g hlt hn;exact ⟨(World.cell?_of_block (a:=⟨g,j,none⟩) hb).trans (h j hj).1,(World.frozen?_of_block (a:=⟨g,j,none⟩) hb).trans (h j hj).2⟩
end Go.Proofs.YtnabkcglnbdfeaaGreatDoor.Pg
namespace Go.Proofs.YtnabkcglnbdfeaaGreatDoor.Pg
open Go.RowKit Base Txt Mem Par
section
set_option maxHeartbeats 8000000
set_option maxRecDepth 100000
attribute [local go_sem] An
end
end Go.Proofs.YtnabkcglnbdfeaaGreatDoor.Pg
namespace Go.Proofs.YtnabkcglnbdfeaaGreatDoor.Rq
open Go.RowKit Base Txt
theorem strs_at (w:World) (t:TypeId) (ss:List ByteArray) (k:Nat) (hk:k<ss.length):(w.alloc (.cells ((ss.map Value.string).toArray) t)).cell? ⟨w.heap.size,k,none⟩=some (ZY (ss[k]?.getD AG)):=by rw [cell_of_row (w.alloc _) w.heap.size k _ t (0,0) (heap_alloc_new w _)];simp [C0 hk]
theorem val_at (ss:List ByteArray) (k:Nat) (hk:k<ss.length):(ss.map Value.string)[k]'(by rw [CK];exact hk)=ZY (ss[k]?.getD AG):=by simp [C0 hk]
theorem size_at (ss:List ByteArray) (m:Nat) (h:ss.all (λx=>decide (x.size<=m))=true) (k:Nat) (hk:k<ss.length):(ss[k]?.getD AG).size<=m:=by
 rw [List.all_eq_true] at h;rw [C0 hk,DV]
 simpa using h _ (C8 hk)
theorem tgts_at (k:Nat) (hk:k<12):∃X:ByteArray,X.size<=17/\(∀w:World,(w.alloc (.cells #[ZY ⟨#[47]⟩,ZY ⟨#[47,97]⟩,ZY ⟨#[47,97,47,98,63,120,61,49]⟩,ZY ⟨#[47,97,47,46,46,47,98]⟩,ZY ⟨#[47,37,52,49,47,99]⟩,ZY ⟨#[42]⟩,ZY ⟨#[104,116,116,112,58,47,47,104,46,111,114,103,47,113,63]⟩,ZY ⟨#[47,118,49,47,105,116,101,109,47,55]⟩,ZY ⟨#[47,120,32,121]⟩,ZY ⟨#[47,113,1]⟩,ZY ⟨#[47,115,116,97,116,105,99,47,99,115,115,47,109,46,99,115,115]⟩,ZY ⟨#[104,116,116,112,58,47,47,97]⟩] 9)).cell? ⟨w.heap.size,k,none⟩=some (ZY X))/\∀hh,([ZY ⟨#[47]⟩,ZY ⟨#[47,97]⟩,ZY ⟨#[47,97,47,98,63,120,61,49]⟩,ZY ⟨#[47,97,47,46,46,47,98]⟩,ZY ⟨#[47,37,52,49,47,99]⟩,ZY ⟨#[42]⟩,ZY ⟨#[104,116,116,112,58,47,47,104,46,111,114,103,47,113,63]⟩,ZY ⟨#[47,118,49,47,105,116,101,109,47,55]⟩,ZY ⟨#[47,120,32,121]⟩,ZY ⟨#[47,113,1]⟩,ZY ⟨#[47,115,116,97,116,105,99,47,99,115,115,47,109,46,99,115,115]⟩,ZY ⟨#[104,116,116,112,58,47,47,97]⟩]:List Value)[k]'hh=ZY X:=
 ⟨_,size_at [⟨#[47]⟩,⟨#[47,97]⟩,⟨#[47,97,47,98,63,120,61,49]⟩,⟨#[47,97,47,46,46,47,98]⟩,⟨#[47,37,52,49,47,99]⟩,⟨#[42]⟩,⟨#[104,116,116,112,58,47,47,104,46,111,114,103,47,113,63]⟩,⟨#[47,118,49,47,105,116,101,109,47,55]⟩,⟨#[47,120,32,121]⟩,⟨#[47,113,1]⟩,⟨#[47,115,116,97,116,105,99,47,99,115,115,47,109,46,99,115,115]⟩,⟨#[104,116,116,112,58,47,47,97]⟩] 17 (by decide) k hk,λw=>strs_at w 9 [⟨#[47]⟩,⟨#[47,97]⟩,⟨#[47,97,47,98,63,120,61,49]⟩,⟨#[47,97,47,46,46,47,98]⟩,⟨#[47,37,52,49,47,99]⟩,⟨#[42]⟩,⟨#[104,116,116,112,58,47,47,104,46,111,114,103,47,113,63]⟩,⟨#[47,118,49,47,105,116,101,109,47,55]⟩,⟨#[47,120,32,121]⟩,⟨#[47,113,1]⟩,⟨#[47,115,116,97,116,105,99,47,99,115,115,47,109,46,99,115,115]⟩,⟨#[104,116,116,112,58,47,47,97]⟩] k hk,λhh=>by
   have h2:=val_at [⟨#[47]⟩,⟨#[47,97]⟩,⟨#[47,97,47,98,63,120,61,49]⟩,⟨#[47,97,47,46,46,47,98]⟩,⟨#[47,37,52,49,47,99]⟩,⟨#[42]⟩,⟨#[104,116,116,112,58,47,47,104,46,111,114,103,47,113,63]⟩,⟨#[47,118,49,47,105,116,101,109,47,55]⟩,⟨#[47,120,32,121]⟩,⟨#[47,113,1]⟩,⟨#[47,115,116,97,116,105,99,47,99,115,115,47,109,46,99,115,115]⟩,⟨#[104,116,116,112,58,47,47,97]⟩] k hk
   exact h2⟩
theorem meths_at (k:Nat) (hk:k<8):∃X:ByteArray,X.size<=7/\(∀w:World,(w.alloc (.cells #[ZY ⟨#[71,69,84]⟩,ZY ⟨#[80,79,83,84]⟩,ZY ⟨#[79,80,84,73,79,78,83]⟩,ZY ⟨#[72,69,65,68]⟩,ZY ⟨#[80,85,84]⟩,ZY ⟨#[68,69,76,69,84,69]⟩,ZY ⟨#[71,40,84]⟩,ZY ⟨#[67,79,78,78,69,67,84]⟩] 9)).cell? ⟨w.heap.size,k,none⟩=some (ZY X))/\∀hh,([ZY ⟨#[71,69,84]⟩,ZY ⟨#[80,79,83,84]⟩,ZY ⟨#[79,80,84,73,79,78,83]⟩,ZY ⟨#[72,69,65,68]⟩,ZY ⟨#[80,85,84]⟩,ZY ⟨#[68,69,76,69,84,69]⟩,ZY ⟨#[71,40,84]⟩,ZY ⟨#[67,79,78,78,69,67,84]⟩]:List Value)[k]'hh=ZY X:=
 ⟨_,size_at [⟨#[71,69,84]⟩,⟨#[80,79,83,84]⟩,⟨#[79,80,84,73,79,78,83]⟩,⟨#[72,69,65,68]⟩,⟨#[80,85,84]⟩,⟨#[68,69,76,69,84,69]⟩,⟨#[71,40,84]⟩,⟨#[67,79,78,78,69,67,84]⟩] 7 (by decide) k hk,λw=>strs_at w 9 [⟨#[71,69,84]⟩,⟨#[80,79,83,84]⟩,⟨#[79,80,84,73,79,78,83]⟩,⟨#[72,69,65,68]⟩,⟨#[80,85,84]⟩,⟨#[68,69,76,69,84,69]⟩,⟨#[71,40,84]⟩,⟨#[67,79,78,78,69,67,84]⟩] k hk,λhh=>by
   have h2:=val_at [⟨#[71,69,84]⟩,⟨#[80,79,83,84]⟩,⟨#[79,80,84,73,79,78,83]⟩,⟨#[72,69,65,68]⟩,⟨#[80,85,84]⟩,⟨#[68,69,76,69,84,69]⟩,⟨#[71,40,84]⟩,⟨#[67,79,78,78,69,67,84]⟩] k hk
   exact h2⟩
theorem gaps_at (k:Nat) (hk:k<4):∃X:ByteArray,X.size<=3/\(∀w:World,(w.alloc (.cells #[ZY ⟨#[32]⟩,ZY ⟨#[32,32]⟩,ZY ⟨#[9]⟩,ZY ⟨#[32,9,32]⟩] 9)).cell? ⟨w.heap.size,k,none⟩=some (ZY X))/\∀hh,([ZY ⟨#[32]⟩,ZY ⟨#[32,32]⟩,ZY ⟨#[9]⟩,ZY ⟨#[32,9,32]⟩]:List Value)[k]'hh=ZY X:=
 ⟨_,size_at [⟨#[32]⟩,⟨#[32,32]⟩,⟨#[9]⟩,⟨#[32,9,32]⟩] 3 (by decide) k hk,λw=>strs_at w 9 [⟨#[32]⟩,⟨#[32,32]⟩,⟨#[9]⟩,⟨#[32,9,32]⟩] k hk,λhh=>by
   have h2:=val_at [⟨#[32]⟩,⟨#[32,32]⟩,⟨#[9]⟩,⟨#[32,9,32]⟩] k hk
   exact h2⟩
theorem vers_at (k:Nat) (hk:k<6):∃X:ByteArray,X.size<=8/\(∀w:World,(w.alloc (.cells #[ZY ⟨#[72,84,84,80,47,49,46,49]⟩,ZY ⟨#[72,84,84,80,47,49,46,48]⟩,ZY ⟨#[72,84,84,80,47,49,46,55]⟩,ZY ⟨#[104,116,116,112,47,49,46,49]⟩,ZY ⟨#[72,84,84,80,47,50,46,48]⟩,ZY ⟨#[72,84,84,80,47,49,46,49]⟩] 9)).cell? ⟨w.heap.size,k,none⟩=some (ZY X))/\∀hh,([ZY ⟨#[72,84,84,80,47,49,46,49]⟩,ZY ⟨#[72,84,84,80,47,49,46,48]⟩,ZY ⟨#[72,84,84,80,47,49,46,55]⟩,ZY ⟨#[104,116,116,112,47,49,46,49]⟩,ZY ⟨#[72,84,84,80,47,50,46,48]⟩,ZY ⟨#[72,84,84,80,47,49,46,49]⟩]:List Value)[k]'hh=ZY X:=
 ⟨_,size_at [⟨#[72,84,84,80,47,49,46,49]⟩,⟨#[72,84,84,80,47,49,46,48]⟩,⟨#[72,84,84,80,47,49,46,55]⟩,⟨#[104,116,116,112,47,49,46,49]⟩,⟨#[72,84,84,80,47,50,46,48]⟩,⟨#[72,84,84,80,47,49,46,49]⟩] 8 (by decide) k hk,λw=>strs_at w 9 [⟨#[72,84,84,80,47,49,46,49]⟩,⟨#[72,84,84,80,47,49,46,48]⟩,⟨#[72,84,84,80,47,49,46,55]⟩,⟨#[104,116,116,112,47,49,46,49]⟩,⟨#[72,84,84,80,47,50,46,48]⟩,⟨#[72,84,84,80,47,49,46,49]⟩] k hk,λhh=>by
   have h2:=val_at [⟨#[72,84,84,80,47,49,46,49]⟩,⟨#[72,84,84,80,47,49,46,48]⟩,⟨#[72,84,84,80,47,49,46,55]⟩,⟨#[104,116,116,112,47,49,46,49]⟩,⟨#[72,84,84,80,47,50,46,48]⟩,⟨#[72,84,84,80,47,49,46,49]⟩] k hk
   exact h2⟩
section
set_option maxHeartbeats 1000000
attribute [local go_sem] An
set_option maxHeartbeats 16000000 in
set_option maxRecDepth 10000 in
theorem line_any (a b:Nat) (ha:a<256) (hb:b<256) (w:World):Calls Gq 110 #[ZZ ZR a,ZZ ZR b] w λe w'=>(∃L:ByteArray,e=.returned (ZY L)/\L.size<=60)/\Below w.heap.size w w':=by
 obtain ⟨u,hu⟩:∃u,b%12=u:=⟨_,rfl⟩;obtain ⟨v,hv⟩:∃v,a%8=v:=⟨_,rfl⟩;obtain ⟨z,hz⟩:∃z,b%4=z:=⟨_,rfl⟩;obtain ⟨y,hy⟩:∃y,a%6=y:=⟨_,rfl⟩;have iu:(b:Int)%12=(u:Int):=by omega
 have iv:(a:Int)%8=(v:Int):=by omega
 have iz:(b:Int)%4=(z:Int):=by omega
 have iy:(a:Int)%6=(y:Int):=by omega
 have lu:u<12:=by omega
 have lv:v<8:=by omega
 have lz:z<4:=by omega
 have ly:y<6:=by omega
 clear hu hv hz hy;obtain ⟨X1,z1,c1,d1⟩:=tgts_at u lu;obtain ⟨X2,z2,c2,d2⟩:=meths_at v lv;obtain ⟨X3,z3,c3,d3⟩:=gaps_at z lz;obtain ⟨X4,z4,c4,d4⟩:=vers_at y ly;have hA:200<=a∨(a<200/\5<v/\7<u/\¬u=10)∨(a<200/\5<v/\u=10)∨(a<200/\5<v/\u<=7)∨(a<200/\v<=5/\7<u/\¬u=10/\¬u=5)∨(a<200/\v<=5/\u=10)∨(a<200/\v<=5/\u=5)∨(a<200/\v<=5/\u<=7/\¬u=5):=by omega
 have hB:200<b∨b=199∨(b<=200/\¬b=199):=by omega
 rcases hA with h | ⟨h,h1,h2,h3⟩ | ⟨h,h1,rfl⟩ | ⟨h,h1,h2⟩ | ⟨h,h1,h2,h3,h4⟩ | ⟨h,h1,rfl⟩ | ⟨h,h1,rfl⟩ | ⟨h,h1,h2,h3⟩;all_goals
  rcases hB with k1 | rfl | ⟨k1,k2⟩
  all_goals try (exfalso;omega)
  all_goals
   go_enter Tryz.func110,Tryz.ntmps110;go_wp2_with fail;all_goals
    go_ret;refine ⟨⟨_,rfl,?_⟩,?_⟩
    ·simp only [AH,len_mk,List.length_cons,List.length_nil];omega
    ·repeat (first | exact Ao _ _ | with_reducible refine Below.alloc ?_ ?_ _)
     all_goals (simp;try omega)
end
end Go.Proofs.YtnabkcglnbdfeaaGreatDoor.Rq
namespace Go.Proofs.YtnabkcglnbdfeaaGreatDoor.Rq
open Go.RowKit Base Txt
theorem ends_at (k:Nat) (hk:k<4):∃X:ByteArray,X.size<=3/\(∀w:World,(w.alloc (.cells #[ZY ⟨#[10]⟩,ZY ⟨#[13]⟩,ZY ⟨#[13,13,10]⟩,ZY ⟨#[10,10]⟩] 9)).cell? ⟨w.heap.size,k,none⟩=some (ZY X))/\∀hh,([ZY ⟨#[10]⟩,ZY ⟨#[13]⟩,ZY ⟨#[13,13,10]⟩,ZY ⟨#[10,10]⟩]:List Value)[k]'hh=ZY X:=
 ⟨_,size_at [⟨#[10]⟩,⟨#[13]⟩,⟨#[13,13,10]⟩,⟨#[10,10]⟩] 3 (by decide) k hk,λw=>strs_at w 9 [⟨#[10]⟩,⟨#[13]⟩,⟨#[13,13,10]⟩,⟨#[10,10]⟩] k hk,λhh=>by
   have h2:=val_at [⟨#[10]⟩,⟨#[13]⟩,⟨#[13,13,10]⟩,⟨#[10,10]⟩] k hk
   exact h2⟩
theorem good_at (k:Nat) (hk:k<16):∃X:ByteArray,X.size<=34/\(∀w:World,(w.alloc (.cells #[ZY ⟨#[72,111,115,116,58,32,104,46,111,114,103]⟩,ZY ⟨#[72,111,115,116,58,32,97]⟩,ZY ⟨#[65,58,32,98]⟩,ZY ⟨#[88,45,89,58,32,32,122,32]⟩,ZY ⟨#[65,99,99,101,112,116,58,32,42,47,42]⟩,ZY ⟨#[79,114,105,103,105,110,58,32,104,116,116,112,58,47,47,111,46,111,114,103]⟩,ZY ⟨#[65,117,116,104,111,114,105,122,97,116,105,111,110,58,32,66,97,115,105,99,32,100,84,112,119]⟩,ZY ⟨#[67,111,110,110,101,99,116,105,111,110,58,32,107,101,101,112,45,97,108,105,118,101]⟩,ZY ⟨#[67,111,111,107,105,101,58,32,97,61,49,44,32,98,61,50]⟩,ZY ⟨#[69,120,112,101,99,116,58,32,49,48,48,45,99,111,110,116,105,110,117,101]⟩,ZY ⟨#[85,112,103,114,97,100,101,58,32,120]⟩,ZY ⟨#[88,45,70,111,114,119,97,114,100,101,100,45,70,111,114,58,32,49,46,50,46,51,46,52]⟩,ZY ⟨#[67,111,110,110,101,99,116,105,111,110,58,32,88,45,89]⟩,ZY ⟨#[84,69,58,32,116,114,97,105,108,101,114,115]⟩,ZY ⟨#[86,105,97,58,32,49,46,48,32,113]⟩,ZY ⟨#[65,99,99,101,115,115,45,67,111,110,116,114,111,108,45,82,101,113,117,101,115,116,45,77,101,116,104,111,100,58,32,80,85,84]⟩] 9)).cell? ⟨w.heap.size,k,none⟩=some (ZY X))/\∀hh,([ZY ⟨#[72,111,115,116,58,32,104,46,111,114,103]⟩,ZY ⟨#[72,111,115,116,58,32,97]⟩,ZY ⟨#[65,58,32,98]⟩,ZY ⟨#[88,45,89,58,32,32,122,32]⟩,ZY ⟨#[65,99,99,101,112,116,58,32,42,47,42]⟩,ZY ⟨#[79,114,105,103,105,110,58,32,104,116,116,112,58,47,47,111,46,111,114,103]⟩,ZY ⟨#[65,117,116,104,111,114,105,122,97,116,105,111,110,58,32,66,97,115,105,99,32,100,84,112,119]⟩,ZY ⟨#[67,111,110,110,101,99,116,105,111,110,58,32,107,101,101,112,45,97,108,105,118,101]⟩,ZY ⟨#[67,111,111,107,105,101,58,32,97,61,49,44,32,98,61,50]⟩,ZY ⟨#[69,120,112,101,99,116,58,32,49,48,48,45,99,111,110,116,105,110,117,101]⟩,ZY ⟨#[85,112,103,114,97,100,101,58,32,120]⟩,ZY ⟨#[88,45,70,111,114,119,97,114,100,101,100,45,70,111,114,58,32,49,46,50,46,51,46,52]⟩,ZY ⟨#[67,111,110,110,101,99,116,105,111,110,58,32,88,45,89]⟩,ZY ⟨#[84,69,58,32,116,114,97,105,108,101,114,115]⟩,ZY ⟨#[86,105,97,58,32,49,46,48,32,113]⟩,ZY ⟨#[65,99,99,101,115,115,45,67,111,110,116,114,111,108,45,82,101,113,117,101,115,116,45,77,101,116,104,111,100,58,32,80,85,84]⟩]:List Value)[k]'hh=ZY X:=
 ⟨_,size_at [⟨#[72,111,115,116,58,32,104,46,111,114,103]⟩,⟨#[72,111,115,116,58,32,97]⟩,⟨#[65,58,32,98]⟩,⟨#[88,45,89,58,32,32,122,32]⟩,⟨#[65,99,99,101,112,116,58,32,42,47,42]⟩,⟨#[79,114,105,103,105,110,58,32,104,116,116,112,58,47,47,111,46,111,114,103]⟩,⟨#[65,117,116,104,111,114,105,122,97,116,105,111,110,58,32,66,97,115,105,99,32,100,84,112,119]⟩,⟨#[67,111,110,110,101,99,116,105,111,110,58,32,107,101,101,112,45,97,108,105,118,101]⟩,⟨#[67,111,111,107,105,101,58,32,97,61,49,44,32,98,61,50]⟩,⟨#[69,120,112,101,99,116,58,32,49,48,48,45,99,111,110,116,105,110,117,101]⟩,⟨#[85,112,103,114,97,100,101,58,32,120]⟩,⟨#[88,45,70,111,114,119,97,114,100,101,100,45,70,111,114,58,32,49,46,50,46,51,46,52]⟩,⟨#[67,111,110,110,101,99,116,105,111,110,58,32,88,45,89]⟩,⟨#[84,69,58,32,116,114,97,105,108,101,114,115]⟩,⟨#[86,105,97,58,32,49,46,48,32,113]⟩,⟨#[65,99,99,101,115,115,45,67,111,110,116,114,111,108,45,82,101,113,117,101,115,116,45,77,101,116,104,111,100,58,32,80,85,84]⟩] 34 (by decide) k hk,λw=>strs_at w 9 [⟨#[72,111,115,116,58,32,104,46,111,114,103]⟩,⟨#[72,111,115,116,58,32,97]⟩,⟨#[65,58,32,98]⟩,⟨#[88,45,89,58,32,32,122,32]⟩,⟨#[65,99,99,101,112,116,58,32,42,47,42]⟩,⟨#[79,114,105,103,105,110,58,32,104,116,116,112,58,47,47,111,46,111,114,103]⟩,⟨#[65,117,116,104,111,114,105,122,97,116,105,111,110,58,32,66,97,115,105,99,32,100,84,112,119]⟩,⟨#[67,111,110,110,101,99,116,105,111,110,58,32,107,101,101,112,45,97,108,105,118,101]⟩,⟨#[67,111,111,107,105,101,58,32,97,61,49,44,32,98,61,50]⟩,⟨#[69,120,112,101,99,116,58,32,49,48,48,45,99,111,110,116,105,110,117,101]⟩,⟨#[85,112,103,114,97,100,101,58,32,120]⟩,⟨#[88,45,70,111,114,119,97,114,100,101,100,45,70,111,114,58,32,49,46,50,46,51,46,52]⟩,⟨#[67,111,110,110,101,99,116,105,111,110,58,32,88,45,89]⟩,⟨#[84,69,58,32,116,114,97,105,108,101,114,115]⟩,⟨#[86,105,97,58,32,49,46,48,32,113]⟩,⟨#[65,99,99,101,115,115,45,67,111,110,116,114,111,108,45,82,101,113,117,101,115,116,45,77,101,116,104,111,100,58,32,80,85,84]⟩] k hk,λhh=>by
   have h2:=val_at [⟨#[72,111,115,116,58,32,104,46,111,114,103]⟩,⟨#[72,111,115,116,58,32,97]⟩,⟨#[65,58,32,98]⟩,⟨#[88,45,89,58,32,32,122,32]⟩,⟨#[65,99,99,101,112,116,58,32,42,47,42]⟩,⟨#[79,114,105,103,105,110,58,32,104,116,116,112,58,47,47,111,46,111,114,103]⟩,⟨#[65,117,116,104,111,114,105,122,97,116,105,111,110,58,32,66,97,115,105,99,32,100,84,112,119]⟩,⟨#[67,111,110,110,101,99,116,105,111,110,58,32,107,101,101,112,45,97,108,105,118,101]⟩,⟨#[67,111,111,107,105,101,58,32,97,61,49,44,32,98,61,50]⟩,⟨#[69,120,112,101,99,116,58,32,49,48,48,45,99,111,110,116,105,110,117,101]⟩,⟨#[85,112,103,114,97,100,101,58,32,120]⟩,⟨#[88,45,70,111,114,119,97,114,100,101,100,45,70,111,114,58,32,49,46,50,46,51,46,52]⟩,⟨#[67,111,110,110,101,99,116,105,111,110,58,32,88,45,89]⟩,⟨#[84,69,58,32,116,114,97,105,108,101,114,115]⟩,⟨#[86,105,97,58,32,49,46,48,32,113]⟩,⟨#[65,99,99,101,115,115,45,67,111,110,116,114,111,108,45,82,101,113,117,101,115,116,45,77,101,116,104,111,100,58,32,80,85,84]⟩] k hk
   exact h2⟩
theorem odd_at (k:Nat) (hk:k<22):∃X:ByteArray,X.size<=36/\(∀w:World,(w.alloc (.cells #[ZY ⟨#[72,111,115,116,32,58,32,97]⟩,ZY ⟨#[40,120,58,32,49]⟩,ZY ⟨#[110,111,118,97,108,117,101]⟩,ZY ⟨#[58,32,110,97,109,101,108,101,115,115]⟩,ZY ⟨#[32,102,111,108,100,101,100]⟩,ZY ⟨#[9,102,111,108,100,101,100,58,32,116,111,111]⟩,ZY ⟨#[86,58,32,97,1,98]⟩,ZY ⟨#[84,114,97,110,115,102,101,114,45,69,110,99,111,100,105,110,103,58,32,103,122,105,112]⟩,ZY ⟨#[84,114,97,110,115,102,101,114,45,69,110,99,111,100,105,110,103,58,32,103,122,105,112,44,32,99,104,117,110,107,101,100]⟩,ZY ⟨#[84,114,97,110,115,102,101,114,45,69,110,99,111,100,105,110,103,58,32,11,99,104,117,110,107,101,100]⟩,ZY ⟨#[84,114,97,110,115,102,101,114,45,69,110,99,111,100,105,110,103,58,32,67,104,117,110,107,101,100]⟩,ZY ⟨#[67,111,110,116,101,110,116,45,76,101,110,103,116,104,58,32,43,51]⟩,ZY ⟨#[67,111,110,116,101,110,116,45,76,101,110,103,116,104,58,32,51,44,32,51]⟩,ZY ⟨#[67,111,110,116,101,110,116,45,76,101,110,103,116,104,58,32,51]⟩,ZY ⟨#[67,111,110,116,101,110,116,45,76,101,110,103,116,104,58,32,48]⟩,ZY ⟨#[67,111,110,116,101,110,116,45,76,101,110,103,116,104,58,32,48,51]⟩,ZY ⟨#[72,111,115,116,58,32,98]⟩,ZY ⟨#[72,111,115,116,58,32,97,58,57,57,57,57,57]⟩,ZY ⟨#[67,111,110,110,101,99,116,105,111,110,58,32,99,108,111,115,101]⟩,ZY ⟨#[67,111,110,116,101,110,116,45,76,101,110,103,116,104,58,32,57,57,57,57,57,57,57,57,57,57,57,57,57,57,57,57,57,57,57,57]⟩,ZY ⟨#[86,58,32,255,128]⟩,ZY ⟨#[84,114,97,110,115,102,101,114,45,69,110,99,111,100,105,110,103,58,32,99,104,117,110,107,101,100,44,32,99,104,117,110,107,101,100]⟩] 9)).cell? ⟨w.heap.size,k,none⟩=some (ZY X))/\∀hh,([ZY ⟨#[72,111,115,116,32,58,32,97]⟩,ZY ⟨#[40,120,58,32,49]⟩,ZY ⟨#[110,111,118,97,108,117,101]⟩,ZY ⟨#[58,32,110,97,109,101,108,101,115,115]⟩,ZY ⟨#[32,102,111,108,100,101,100]⟩,ZY ⟨#[9,102,111,108,100,101,100,58,32,116,111,111]⟩,ZY ⟨#[86,58,32,97,1,98]⟩,ZY ⟨#[84,114,97,110,115,102,101,114,45,69,110,99,111,100,105,110,103,58,32,103,122,105,112]⟩,ZY ⟨#[84,114,97,110,115,102,101,114,45,69,110,99,111,100,105,110,103,58,32,103,122,105,112,44,32,99,104,117,110,107,101,100]⟩,ZY ⟨#[84,114,97,110,115,102,101,114,45,69,110,99,111,100,105,110,103,58,32,11,99,104,117,110,107,101,100]⟩,ZY ⟨#[84,114,97,110,115,102,101,114,45,69,110,99,111,100,105,110,103,58,32,67,104,117,110,107,101,100]⟩,ZY ⟨#[67,111,110,116,101,110,116,45,76,101,110,103,116,104,58,32,43,51]⟩,ZY ⟨#[67,111,110,116,101,110,116,45,76,101,110,103,116,104,58,32,51,44,32,51]⟩,ZY ⟨#[67,111,110,116,101,110,116,45,76,101,110,103,116,104,58,32,51]⟩,ZY ⟨#[67,111,110,116,101,110,116,45,76,101,110,103,116,104,58,32,48]⟩,ZY ⟨#[67,111,110,116,101,110,116,45,76,101,110,103,116,104,58,32,48,51]⟩,ZY ⟨#[72,111,115,116,58,32,98]⟩,ZY ⟨#[72,111,115,116,58,32,97,58,57,57,57,57,57]⟩,ZY ⟨#[67,111,110,110,101,99,116,105,111,110,58,32,99,108,111,115,101]⟩,ZY ⟨#[67,111,110,116,101,110,116,45,76,101,110,103,116,104,58,32,57,57,57,57,57,57,57,57,57,57,57,57,57,57,57,57,57,57,57,57]⟩,ZY ⟨#[86,58,32,255,128]⟩,ZY ⟨#[84,114,97,110,115,102,101,114,45,69,110,99,111,100,105,110,103,58,32,99,104,117,110,107,101,100,44,32,99,104,117,110,107,101,100]⟩]:List Value)[k]'hh=ZY X:=
 ⟨_,size_at [⟨#[72,111,115,116,32,58,32,97]⟩,⟨#[40,120,58,32,49]⟩,⟨#[110,111,118,97,108,117,101]⟩,⟨#[58,32,110,97,109,101,108,101,115,115]⟩,⟨#[32,102,111,108,100,101,100]⟩,⟨#[9,102,111,108,100,101,100,58,32,116,111,111]⟩,⟨#[86,58,32,97,1,98]⟩,⟨#[84,114,97,110,115,102,101,114,45,69,110,99,111,100,105,110,103,58,32,103,122,105,112]⟩,⟨#[84,114,97,110,115,102,101,114,45,69,110,99,111,100,105,110,103,58,32,103,122,105,112,44,32,99,104,117,110,107,101,100]⟩,⟨#[84,114,97,110,115,102,101,114,45,69,110,99,111,100,105,110,103,58,32,11,99,104,117,110,107,101,100]⟩,⟨#[84,114,97,110,115,102,101,114,45,69,110,99,111,100,105,110,103,58,32,67,104,117,110,107,101,100]⟩,⟨#[67,111,110,116,101,110,116,45,76,101,110,103,116,104,58,32,43,51]⟩,⟨#[67,111,110,116,101,110,116,45,76,101,110,103,116,104,58,32,51,44,32,51]⟩,⟨#[67,111,110,116,101,110,116,45,76,101,110,103,116,104,58,32,51]⟩,⟨#[67,111,110,116,101,110,116,45,76,101,110,103,116,104,58,32,48]⟩,⟨#[67,111,110,116,101,110,116,45,76,101,110,103,116,104,58,32,48,51]⟩,⟨#[72,111,115,116,58,32,98]⟩,⟨#[72,111,115,116,58,32,97,58,57,57,57,57,57]⟩,⟨#[67,111,110,110,101,99,116,105,111,110,58,32,99,108,111,115,101]⟩,⟨#[67,111,110,116,101,110,116,45,76,101,110,103,116,104,58,32,57,57,57,57,57,57,57,57,57,57,57,57,57,57,57,57,57,57,57,57]⟩,⟨#[86,58,32,255,128]⟩,⟨#[84,114,97,110,115,102,101,114,45,69,110,99,111,100,105,110,103,58,32,99,104,117,110,107,101,100,44,32,99,104,117,110,107,101,100]⟩] 36 (by decide) k hk,λw=>strs_at w 9 [⟨#[72,111,115,116,32,58,32,97]⟩,⟨#[40,120,58,32,49]⟩,⟨#[110,111,118,97,108,117,101]⟩,⟨#[58,32,110,97,109,101,108,101,115,115]⟩,⟨#[32,102,111,108,100,101,100]⟩,⟨#[9,102,111,108,100,101,100,58,32,116,111,111]⟩,⟨#[86,58,32,97,1,98]⟩,⟨#[84,114,97,110,115,102,101,114,45,69,110,99,111,100,105,110,103,58,32,103,122,105,112]⟩,⟨#[84,114,97,110,115,102,101,114,45,69,110,99,111,100,105,110,103,58,32,103,122,105,112,44,32,99,104,117,110,107,101,100]⟩,⟨#[84,114,97,110,115,102,101,114,45,69,110,99,111,100,105,110,103,58,32,11,99,104,117,110,107,101,100]⟩,⟨#[84,114,97,110,115,102,101,114,45,69,110,99,111,100,105,110,103,58,32,67,104,117,110,107,101,100]⟩,⟨#[67,111,110,116,101,110,116,45,76,101,110,103,116,104,58,32,43,51]⟩,⟨#[67,111,110,116,101,110,116,45,76,101,110,103,116,104,58,32,51,44,32,51]⟩,⟨#[67,111,110,116,101,110,116,45,76,101,110,103,116,104,58,32,51]⟩,⟨#[67,111,110,116,101,110,116,45,76,101,110,103,116,104,58,32,48]⟩,⟨#[67,111,110,116,101,110,116,45,76,101,110,103,116,104,58,32,48,51]⟩,⟨#[72,111,115,116,58,32,98]⟩,⟨#[72,111,115,116,58,32,97,58,57,57,57,57,57]⟩,⟨#[67,111,110,110,101,99,116,105,111,110,58,32,99,108,111,115,101]⟩,⟨#[67,111,110,116,101,110,116,45,76,101,110,103,116,104,58,32,57,57,57,57,57,57,57,57,57,57,57,57,57,57,57,57,57,57,57,57]⟩,⟨#[86,58,32,255,128]⟩,⟨#[84,114,97,110,115,102,101,114,45,69,110,99,111,100,105,110,103,58,32,99,104,117,110,107,101,100,44,32,99,104,117,110,107,101,100]⟩] k hk,λhh=>by
   have h2:=val_at [⟨#[72,111,115,116,32,58,32,97]⟩,⟨#[40,120,58,32,49]⟩,⟨#[110,111,118,97,108,117,101]⟩,⟨#[58,32,110,97,109,101,108,101,115,115]⟩,⟨#[32,102,111,108,100,101,100]⟩,⟨#[9,102,111,108,100,101,100,58,32,116,111,111]⟩,⟨#[86,58,32,97,1,98]⟩,⟨#[84,114,97,110,115,102,101,114,45,69,110,99,111,100,105,110,103,58,32,103,122,105,112]⟩,⟨#[84,114,97,110,115,102,101,114,45,69,110,99,111,100,105,110,103,58,32,103,122,105,112,44,32,99,104,117,110,107,101,100]⟩,⟨#[84,114,97,110,115,102,101,114,45,69,110,99,111,100,105,110,103,58,32,11,99,104,117,110,107,101,100]⟩,⟨#[84,114,97,110,115,102,101,114,45,69,110,99,111,100,105,110,103,58,32,67,104,117,110,107,101,100]⟩,⟨#[67,111,110,116,101,110,116,45,76,101,110,103,116,104,58,32,43,51]⟩,⟨#[67,111,110,116,101,110,116,45,76,101,110,103,116,104,58,32,51,44,32,51]⟩,⟨#[67,111,110,116,101,110,116,45,76,101,110,103,116,104,58,32,51]⟩,⟨#[67,111,110,116,101,110,116,45,76,101,110,103,116,104,58,32,48]⟩,⟨#[67,111,110,116,101,110,116,45,76,101,110,103,116,104,58,32,48,51]⟩,⟨#[72,111,115,116,58,32,98]⟩,⟨#[72,111,115,116,58,32,97,58,57,57,57,57,57]⟩,⟨#[67,111,110,110,101,99,116,105,111,110,58,32,99,108,111,115,101]⟩,⟨#[67,111,110,116,101,110,116,45,76,101,110,103,116,104,58,32,57,57,57,57,57,57,57,57,57,57,57,57,57,57,57,57,57,57,57,57]⟩,⟨#[86,58,32,255,128]⟩,⟨#[84,114,97,110,115,102,101,114,45,69,110,99,111,100,105,110,103,58,32,99,104,117,110,107,101,100,44,32,99,104,117,110,107,101,100]⟩] k hk
   exact h2⟩
theorem end3_at (k:Nat) (hk:k<5):∃X:ByteArray,X.size<=2/\(∀w:World,(w.alloc (.cells #[ZY ⟨#[13,10]⟩,ZY ⟨#[13,10]⟩,ZY ⟨#[]⟩,ZY ⟨#[10]⟩,ZY ⟨#[13]⟩] 9)).cell? ⟨w.heap.size,k,none⟩=some (ZY X))/\∀hh,([ZY ⟨#[13,10]⟩,ZY ⟨#[13,10]⟩,ZY ⟨#[]⟩,ZY ⟨#[10]⟩,ZY ⟨#[13]⟩]:List Value)[k]'hh=ZY X:=
 ⟨_,size_at [⟨#[13,10]⟩,⟨#[13,10]⟩,⟨#[]⟩,⟨#[10]⟩,⟨#[13]⟩] 2 (by decide) k hk,λw=>strs_at w 9 [⟨#[13,10]⟩,⟨#[13,10]⟩,⟨#[]⟩,⟨#[10]⟩,⟨#[13]⟩] k hk,λhh=>by
   have h2:=val_at [⟨#[13,10]⟩,⟨#[13,10]⟩,⟨#[]⟩,⟨#[10]⟩,⟨#[13]⟩] k hk
   exact h2⟩
theorem tr_at (k:Nat) (hk:k<4):∃X:ByteArray,X.size<=10/\(∀w:World,(w.alloc (.cells #[ZY ⟨#[]⟩,ZY ⟨#[84,58,32,117,13,10]⟩,ZY ⟨#[98,97,100,13,10]⟩,ZY ⟨#[84,58,32,117,13,10,32,119,13,10]⟩] 9)).cell? ⟨w.heap.size,k,none⟩=some (ZY X))/\∀hh,([ZY ⟨#[]⟩,ZY ⟨#[84,58,32,117,13,10]⟩,ZY ⟨#[98,97,100,13,10]⟩,ZY ⟨#[84,58,32,117,13,10,32,119,13,10]⟩]:List Value)[k]'hh=ZY X:=
 ⟨_,size_at [⟨#[]⟩,⟨#[84,58,32,117,13,10]⟩,⟨#[98,97,100,13,10]⟩,⟨#[84,58,32,117,13,10,32,119,13,10]⟩] 10 (by decide) k hk,λw=>strs_at w 9 [⟨#[]⟩,⟨#[84,58,32,117,13,10]⟩,⟨#[98,97,100,13,10]⟩,⟨#[84,58,32,117,13,10,32,119,13,10]⟩] k hk,λhh=>by
   have h2:=val_at [⟨#[]⟩,⟨#[84,58,32,117,13,10]⟩,⟨#[98,97,100,13,10]⟩,⟨#[84,58,32,117,13,10,32,119,13,10]⟩] k hk
   exact h2⟩
theorem host_at (k:Nat) (hk:k<4):∃X:ByteArray,X.size<=8/\(∀w:World,(w.alloc (.cells #[ZY ⟨#[104,46,111,114,103]⟩,ZY ⟨#[97]⟩,ZY ⟨#[104,46,111,114,103,58,56,48]⟩,ZY ⟨#[120,46,121]⟩] 9)).cell? ⟨w.heap.size,k,none⟩=some (ZY X))/\∀hh,([ZY ⟨#[104,46,111,114,103]⟩,ZY ⟨#[97]⟩,ZY ⟨#[104,46,111,114,103,58,56,48]⟩,ZY ⟨#[120,46,121]⟩]:List Value)[k]'hh=ZY X:=
 ⟨_,size_at [⟨#[104,46,111,114,103]⟩,⟨#[97]⟩,⟨#[104,46,111,114,103,58,56,48]⟩,⟨#[120,46,121]⟩] 8 (by decide) k hk,λw=>strs_at w 9 [⟨#[104,46,111,114,103]⟩,⟨#[97]⟩,⟨#[104,46,111,114,103,58,56,48]⟩,⟨#[120,46,121]⟩] k hk,λhh=>by
   have h2:=val_at [⟨#[104,46,111,114,103]⟩,⟨#[97]⟩,⟨#[104,46,111,114,103,58,56,48]⟩,⟨#[120,46,121]⟩] k hk
   exact h2⟩
section
set_option maxHeartbeats 4000000
set_option maxRecDepth 10000
attribute [local go_sem] An
theorem end_any (a:Nat) (ha:a<256) (w:World):Calls Gq 111 #[ZZ ZR a] w λe w'=>(∃L:ByteArray,e=.returned (ZY L)/\L.size<=3)/\Below w.heap.size w w':=by
 obtain ⟨u,hu⟩:∃u,a%4=u:=⟨_,rfl⟩;have iu:(a:Int)%4=(u:Int):=by omega
 have lu:u<4:=by omega
 clear hu;obtain ⟨X1,z1,c1,d1⟩:=ends_at u lu;rcases D9 a 235 with h | h;all_goals
  go_enter Tryz.func111,Tryz.ntmps111;go_wp2_with fail;all_goals
   go_ret;refine ⟨⟨_,rfl,?_⟩,?_⟩
   ·first | exact z1 | decide
   ·repeat (first | exact Ao _ _ | with_reducible refine Below.alloc ?_ ?_ _)
    all_goals (simp;try omega)
theorem field_any (a b:Nat) (ha:a<256) (hb:b<256) (w:World):Calls Gq 112 #[ZZ ZR a,ZZ ZR b] w λe w'=>(∃L:ByteArray,e=.returned (ZY L)/\L.size<=46)/\Below w.heap.size w w':=by
 obtain ⟨u,hu⟩:∃u,b%16=u:=⟨_,rfl⟩;obtain ⟨v,hv⟩:∃v,b%22=v:=⟨_,rfl⟩;have iu:(b:Int)%16=(u:Int):=by omega
 have iv:(b:Int)%22=(v:Int):=by omega
 have ju:Int.tmod (b:Int) 16=(u:Int):=by rw [Int.tmod_eq_emod_of_nonneg (by omega)];exact iu
 have jv:Int.tmod (b:Int) 22=(v:Int):=by rw [Int.tmod_eq_emod_of_nonneg (by omega)];exact iv
 have lu:u<16:=by omega
 have lv:v<22:=by omega
 clear hu hv;obtain ⟨X1,z1,c1,d1⟩:=good_at u lu;obtain ⟨X2,z2,c2,d2⟩:=odd_at v lv;rcases D9 a 150 with h | h;all_goals
  go_enter Tryz.func112,Tryz.ntmps112;go_wp2_with fail;all_goals
   go_ret;refine ⟨⟨_,rfl,?_⟩,?_⟩
   ·first |(exact D7 z1 (by decide)) |(exact D7 z2 (by decide))
   ·repeat (first | exact Ao _ _ | with_reducible refine Below.alloc ?_ ?_ _)
    all_goals (simp;try omega)
end
end Go.Proofs.YtnabkcglnbdfeaaGreatDoor.Rq
namespace Go.Proofs.YtnabkcglnbdfeaaGreatDoor.Rq
open Go.RowKit Base Txt
section
set_option maxHeartbeats 4000000
set_option maxRecDepth 10000
attribute [local go_sem] An
theorem spell_len:∀k:Fin 20,(Num.str (Num.spell 10 k.val)).size<=2/\(Num.str (Num.spell 16 k.val)).size<=2:=by decide +kernel
theorem below_drew1 {n:Nat} {w w':World} (h:Below n w w'):Below n w w'.drew:=Ak h 1
theorem size9_at (E:ByteArray) (he:E.size<=40) (k:Nat) (hk:k<9):∃X:ByteArray,X.size<=40/\(∀w:World,(w.alloc (.cells #[ZY ⟨#[51]⟩,ZY ⟨#[48,120,51]⟩,ZY ⟨#[32,51]⟩,ZY ⟨#[51,59,97,61,98]⟩,ZY ⟨#[51,32,59,120]⟩,ZY ⟨#[48,51]⟩,ZY ⟨#[51,9]⟩,ZY ⟨#[103]⟩,ZY E] 9)).cell? ⟨w.heap.size,k,none⟩=some (ZY X))/\∀hh,([ZY ⟨#[51]⟩,ZY ⟨#[48,120,51]⟩,ZY ⟨#[32,51]⟩,ZY ⟨#[51,59,97,61,98]⟩,ZY ⟨#[51,32,59,120]⟩,ZY ⟨#[48,51]⟩,ZY ⟨#[51,9]⟩,ZY ⟨#[103]⟩,ZY E]:List Value)[k]'hh=ZY X:=
 ⟨_,size_at [⟨#[51]⟩,⟨#[48,120,51]⟩,⟨#[32,51]⟩,⟨#[51,59,97,61,98]⟩,⟨#[51,32,59,120]⟩,⟨#[48,51]⟩,⟨#[51,9]⟩,⟨#[103]⟩,E] 40 (by simp only [List.all_cons,List.all_nil,Bool.and_true,As,decide_eq_true_eq];exact ⟨by decide,by decide,by decide,by decide,by decide,by decide,by decide,by decide,he⟩) k hk,λw=>strs_at w 9 [⟨#[51]⟩,⟨#[48,120,51]⟩,⟨#[32,51]⟩,⟨#[51,59,97,61,98]⟩,⟨#[51,32,59,120]⟩,⟨#[48,51]⟩,⟨#[51,9]⟩,⟨#[103]⟩,E] k hk,λhh=>by
   have h2:=val_at [⟨#[51]⟩,⟨#[48,120,51]⟩,⟨#[32,51]⟩,⟨#[51,59,97,61,98]⟩,⟨#[51,32,59,120]⟩,⟨#[48,51]⟩,⟨#[51,9]⟩,⟨#[103]⟩,E] k hk
   exact h2⟩
theorem body_any (a n c:Nat) (ha:a<256) (hn:n<256) (hc:c<256) (w:World):Calls Gq 113 #[ZZ ZR a,ZZ ZR n,ZZ ZR c] w λe w'=>(∃L M:ByteArray,e=.returned (ZT #[ZY L,ZY M])/\L.size<=60/\M.size<=100)/\Below w.heap.size w w':=by
 obtain ⟨v,hv⟩:∃v,n%20=v:=⟨_,rfl⟩;obtain ⟨y,hy⟩:∃y,c%9=y:=⟨_,rfl⟩;obtain ⟨z,hz⟩:∃z,n%5=z:=⟨_,rfl⟩;obtain ⟨x,hx⟩:∃x,n/5%4=x:=⟨_,rfl⟩;have iv:(n:Int)%20=(v:Int):=by omega
 have iy:(c:Int)%9=(y:Int):=by omega
 have iz:(n:Int)%5=(z:Int):=by omega
 have ix:(n:Int)/5%4=(x:Int):=by omega
 have lv:v<20:=by omega
 have ly:y<9:=by omega
 have lz:z<5:=by omega
 have lx:x<4:=by omega
 clear hv hy hz hx;have es:(ByteArray.extract ⟨#[48,49,50,51,52,53,54,55,56,57,97,98,99,100,101,102,103,104,105,106,107,108,109,110,111,112]⟩ 0 v).size=v:=by rw [ByteArray.size_extract];show min v 26-0=v;omega
 obtain ⟨S,hS⟩:∃S,ByteArray.extract ⟨#[48,49,50,51,52,53,54,55,56,57,97,98,99,100,101,102,103,104,105,106,107,108,109,110,111,112]⟩ 0 v=S:=⟨_,rfl⟩;rw [hS] at es
 have HP:=BN (λw=>Num.rput_any (v:Int) w (by omega) (by omega))
 have HX:=BN (λw=>Num.rputHex_any (v:Int) w (by omega) (by omega));have l1:=(spell_len ⟨v,lv⟩).1;have l2:=(spell_len ⟨v,lv⟩).2;simp only [Int.toNat_natCast] at HP HX l1 l2;generalize Num.str (Num.spell 10 v)=D1 at *;generalize Num.str (Num.spell 16 v)=D2 at *
 have HE:=BN (λw=>end_any c hc w);obtain ⟨X1,z1,c1,d1⟩:=size9_at (⟨#[51,59]⟩++S++S) (by rw [AH,AH,es];show 2+v+v<=40;omega) y ly;obtain ⟨X2,z2,c2,d2⟩:=end3_at z lz;obtain ⟨X3,z3,c3,d3⟩:=tr_at x lx;have hb6:a%6=0∨a%6=1∨a%6=2∨a%6=3∨a%6=4∨a%6=5:=by omega
 have c1':=λw:World=>c1 (w.drewN 1);rcases hb6 with h | h | h | h | h | h
 rotate_left 3
 ·have ih:(a:Int)%6=3:=by omega
  clear h;go_enter Tryz.func113,Tryz.ntmps113;go_upto_region 13 with fail
  go_region;all_goals
   go_wp2_with fail;go_ret2;refine ⟨⟨_,_,rfl,?_,?_⟩,?_⟩
   ·decide
   ·simp only [AH,len_mk,List.length_cons,List.length_nil];omega
   ·repeat (first | exact Ao _ _ | with_reducible refine Below.alloc ?_ ?_ _ | with_reducible refine below_drew1 ?_)
    all_goals (try simp)
    all_goals (try omega)
 all_goals
  have ih:(a:Int)%6=((a%6:Nat):Int):=by omega
  rw [h] at ih;go_enter Tryz.func113,Tryz.ntmps113;clear h
  go_wp2_with (first
   |(go_at_call 111;with_reducible refine (HE.out _).mono ?_;rintro e w2 ⟨⟨E1,rfl,e1⟩,hb2⟩;have HB2:=BN hb2;clear hb2)
   |(go_at_call 106;with_reducible refine (HP.out _).mono ?_;rintro e w3 ⟨rfl,m3,hw⟩;rw [hw];clear hw)
   |(go_at_call 128;with_reducible refine (HX.out _).mono ?_;rintro e w4 ⟨rfl,m4,hw⟩;rw [hw];clear hw))
  all_goals
   go_ret2;refine ⟨⟨_,_,rfl,?_,?_⟩,?_⟩
   ·first | decide |(simp only [AH,len_mk,List.length_cons,List.length_nil];omega)
   ·first | decide | omega |(simp only [AH,len_mk,List.length_cons,List.length_nil];omega)
   ·first
     | exact Ao _ _
     | exact HB2.out
     | exact Ak HB2.out _
     | exact Al (Ak (Ao _ _) _) HB2.out
     | exact Ak (Al (Ak (Ao _ _) _) HB2.out) _
end
end Go.Proofs.YtnabkcglnbdfeaaGreatDoor.Rq
namespace Go.Proofs.YtnabkcglnbdfeaaGreatDoor.Rq
open Go.RowKit Base Txt Rec
section
set_option maxHeartbeats 8000000
set_option maxRecDepth 20000
attribute [local go_sem] An
theorem byte_lt (x:Int):(x%256).toNat<256:=by omega
theorem byte_cast (x:Int):(((x%256).toNat:Nat):Int)=x%256:=by omega
theorem at_any (a:Option Addr) (n cap:Nat) (zs:List Int) (g:Nat) (hn:n<=1000000):∃G:Int->Nat,(∀i,G i<256)/\∀(w:World) (i:Int),w.cell? ⟨g,0,none⟩=some (.slice a n cap)->Nums .u8 w a n zs->0<=i->i<=1000000->
 Calls Gq 109 #[ZZ ZS i,ZV (some ⟨g,0,none⟩)] w λe w'=>e=.returned (ZZ ZR (G i:Nat))/\∃q,w'=w.drewN q:=by
 rcases D3 n with hz | hp
 ·refine ⟨λi=>(i%256).toNat,λi=>byte_lt _,λw i hc hv h0 h1=>?_⟩;subst hz;have e:(((i%256).toNat:Nat):Int)=i%256:=byte_cast _;rw [e];go_enter Tryz.func109,Tryz.ntmps109;go_wp2;go_ret;exact ⟨rfl,0,rfl⟩
 ·refine ⟨λi=>((zs[i.toNat%n]?.getD 0+wrap64 (wrap64 (Int.tdiv i n)*37)%256)%256).toNat,λi=>byte_lt _,λw i hc hv h0 h1=>?_⟩;have e:((((zs[i.toNat%n]?.getD 0+wrap64 (wrap64 (Int.tdiv i n)*37)%256)%256).toNat:Nat):Int)=(zs[i.toNat%n]?.getD 0+wrap64 (wrap64 (Int.tdiv i n)*37)%256)%256:=byte_cast _;rw [e];clear e h1;obtain ⟨b,off,rfl,hb,hcs⟩:=hv.2 hp;obtain ⟨j,hj,hjm,_⟩:∃j:Nat,j<n/\Int.tmod i (n:Int)=(j:Int)/\i.toNat%n=j:=by
   refine ⟨i.toNat%n,Nat.mod_lt _ hp,?_,rfl⟩;rw [Int.tmod_eq_emod_of_nonneg h0,Int.natCast_emod,Int.toNat_of_nonneg h0]
  rename_i hjn;rw [hjn];obtain ⟨d,hd⟩:∃d:Int,Int.tdiv i (n:Int)=d:=⟨_,rfl⟩;rw [hd];have hck:=hcs j hj;generalize zs[j]?.getD 0=z at *;have t0:((n:Int)==0)=false:=by rw [beq_eq_false_iff_ne];omega
  have t1:¬(n:Int)=0:=by omega
  clear hcs hv hjn h0;go_enter Tryz.func109,Tryz.ntmps109;go_wp2_with fail
  go_quiet (fail);rename_i nq;go_wp2;go_ret;exact ⟨rfl,nq,rfl⟩
theorem request_any (a:Option Addr) (n cap:Nat) (zs:List Int) (w:World) (hv:Nums .u8 w a n zs) (hn:n<=1000000) :
 Calls Gq 69 #[.slice a n cap] w λe w'=>(∃L:ByteArray,e=.returned (ZY L)/\L.size<=500)/\Below w.heap.size w w':=by
 have eg:∀args w,(callFunc 109 args).run Gq w=.ok (.enter 109 args) w:=enters_of Tryz.func109 (by kernel_rfl) rfl;obtain ⟨G,hG,hat⟩:=at_any a n cap zs w.heap.size hn;have HAT:Hid (∀(w1:World) (i:Int),Below w.heap.size w w1/\Bk w1 w.heap.size [.slice a n cap]->0<=i->i<=1000000->Calls Gq 109 #[ZZ ZS i,ZV (some ⟨w.heap.size,0,none⟩)] w1 λe w'=>e=.returned (ZZ ZR (G i:Nat))/\∃q,w'=w1.drewN q):=
  BN (λw1 i hb h0 h1=>hat w1 i (hb.2.c 0 _ rfl) (hv.below hb.1) h0 h1)
 have HG:=BN hG;have hb0:Below w.heap.size w (w.alloc (.cells #[.slice a n cap] 22)):=(Ao _ _).alloc (D5 _) _
 have HC:=BN (show Below w.heap.size w (w.alloc (.cells #[.slice a n cap] 22))/\Bk (w.alloc (.cells #[.slice a n cap] 22)) w.heap.size [.slice a n cap] from ⟨hb0,Bk.new w _ rfl 22 [.slice a n cap]⟩);clear hv hat hb0 hG;obtain ⟨u,hu⟩:∃u,G 4%4=u:=⟨_,rfl⟩;have iu:((G 4:Nat):Int)%4=(u:Int):=by omega
 have lu:u<4:=by omega
 clear hu;obtain ⟨X1,z1,c1,d1⟩:=host_at u lu;obtain ⟨t,ht⟩:∃t,G 5%4=t:=⟨_,rfl⟩;have it:((G 5:Nat):Int)%4=(t:Int):=by omega
 have lt:t<4:=by omega
 clear ht;have h0:250<G 0∨G 0<=250:=by omega
 have h4:G 4<235∨235<=G 4:=by omega
 go_enter Tryz.func69,Tryz.ntmps69;go_upto_if 11 with
  (go_at_fn 109;with_reducible refine (HAT.out _ _ HC.out (by first | decide | omega) (by first | decide | omega)).mono ?_;rintro e wn ⟨rfl,qn,hwn⟩
   replace HC:=BN (show Below w.heap.size w wn/\Bk wn w.heap.size [.slice a n cap] by rw [hwn];exact ⟨Ak HC.out.1 qn,HC.out.2.below (Ak (Ao _ _) qn)⟩)
   clear hwn)
 go_cut [4] from 12 to 13 (λv wx=>∃S:ByteArray,v=ZY S/\S.size<=2/\Hid (Below w.heap.size w wx/\Bk wx w.heap.size [.slice a n cap]))
 case first=>
  rcases h0 with h0 | h0;all_goals
   go_wp2_with fail;go_meet
   case rel=>exact ⟨_,rfl,by decide,HC⟩
 case rest=>
  obtain ⟨S0,rfl,hS0,HC2⟩:=hcut
  replace HC:=HC2
  clear HC2 h0
  go_upto_if 25 with (first
   |(go_at_fn 109;with_reducible refine (HAT.out _ _ HC.out (by first | decide | omega) (by first | decide | omega)).mono ?_;rintro e wn ⟨rfl,qn,hwn⟩
     replace HC:=BN (show Below w.heap.size w wn/\Bk wn w.heap.size [.slice a n cap] by rw [hwn];exact ⟨Ak HC.out.1 qn,HC.out.2.below (Ak (Ao _ _) qn)⟩)
     clear hwn)
   |(go_at_call 110;with_reducible refine (line_any _ _ (HG.out _) (HG.out _) _).mono ?_;rintro e wn ⟨⟨Tn,rfl,tn⟩,hbn⟩
     replace HC:=BN (show Below w.heap.size w wn/\Bk wn w.heap.size [.slice a n cap] from ⟨Al HC.out.1 hbn,HC.out.2.below hbn⟩)
     clear hbn)
   |(go_at_call 111;with_reducible refine (end_any _ (HG.out _) _).mono ?_;rintro e wn ⟨⟨En,rfl,en⟩,hbn⟩
     replace HC:=BN (show Below w.heap.size w wn/\Bk wn w.heap.size [.slice a n cap] from ⟨Al HC.out.1 hbn,HC.out.2.below hbn⟩)
     clear hbn))
  obtain ⟨S1,hS1⟩:∃S,S0++Tn++En=S:=⟨_,rfl⟩;have hz1:S1.size<=65:=by rw [←hS1,AH,AH];omega
  rw [hS1];clear hS1 tn en hS0;obtain ⟨WX,hWX⟩:∃x,x=wn:=⟨_,rfl⟩;subst hWX
  go_cut [4] from 25 to 36 (λv wx=>∃S:ByteArray,v=ZY S/\S.size<=100/\Hid (Below w.heap.size w wx/\Bk wx w.heap.size [.slice a n cap]))
  case first=>
   rcases h4 with h4 | h4
   ·have hb9:Below w.heap.size w (WX.alloc (.cells #[ZY ⟨#[104,46,111,114,103]⟩,ZY ⟨#[97]⟩,ZY ⟨#[104,46,111,114,103,58,56,48]⟩,ZY ⟨#[120,46,121]⟩] 9)):=HC.out.1.alloc HC.out.1.size _
    have hk9:Bk (WX.alloc (.cells #[ZY ⟨#[104,46,111,114,103]⟩,ZY ⟨#[97]⟩,ZY ⟨#[104,46,111,114,103,58,56,48]⟩,ZY ⟨#[120,46,121]⟩] 9)) w.heap.size [.slice a n cap]:=HC.out.2.below ((Ao _ _).alloc (D5 _) _)
    have HAL:=BN (HAT.out _ 4 ⟨hb9,hk9⟩ (by decide) (by decide));have HB9:=BN hb9;have HK9:=BN hk9;have c1w:=c1 WX;clear hb9 hk9 c1;go_wp2_with
     (go_at_fn 109;with_reducible refine HAL.out.mono ?_;rintro e wm ⟨rfl,qn,hwn⟩
      have c1':wm.cell? ⟨WX.heap.size,u,none⟩=some (ZY X1):=by rw [hwn];exact c1w
      replace HC:=BN (show Below w.heap.size w wm/\Bk wm w.heap.size [.slice a n cap] by rw [hwn];exact ⟨Ak HB9.out qn,HK9.out.below (Ak (Ao _ _) qn)⟩)
      clear hwn)
    go_meet
    case rel=>exact ⟨_,rfl,(by simp only [AH,len_mk,List.length_cons,List.length_nil];omega),HC⟩
   ·go_wp2_with fail;go_meet
    case rel=>exact ⟨_,rfl,by omega,HC⟩
  case rest=>
   obtain ⟨S2,rfl,hS2,HC2⟩:=hcut
   replace HC:=HC2
   clear HC2 h4 hz1 c1 d1 z1 iu lu;go_upto_region 9 with fail
   go_loopw [4,5] (λv i wr=>∃(k:Nat) (S:ByteArray),k<=t/\i=ZZ ZS k/\v=ZY S/\S.size<=100+60*k/\Hid (Below w.heap.size w wr/\Bk wr w.heap.size [.slice a n cap])) (λ_ i _=>t-(intOf i).toNat)
   case atStart=>exact ⟨0,_,DC _,rfl,rfl,by omega,HC⟩
   case round=>
    obtain ⟨k,S,hk,rfl,rfl,hS,hR⟩:=hrel
    replace HC:=hR
    clear hR hS2;rcases D9 k t with hlt | hge
    ·have hk4:k<4:=by omega
     have HS:=BN hS;have HLT:=BN hlt;have hs9:S.size<=400:=by omega
     have tlt:(k:Int)<(t:Int):=by omega
     clear hS hlt lt hk
     go_wp2_with (first
      |(go_at_fn 109;with_reducible refine (HAT.out _ _ HC.out (by first | decide | omega) (by first | decide | omega)).mono ?_;rintro e wn ⟨rfl,qn,hwn⟩
        replace HC:=BN (show Below w.heap.size w wn/\Bk wn w.heap.size [.slice a n cap] by rw [hwn];exact ⟨Ak HC.out.1 qn,HC.out.2.below (Ak (Ao _ _) qn)⟩)
        clear hwn)
      |(go_at_call 112;with_reducible refine (field_any _ _ (HG.out _) (HG.out _) _).mono ?_;rintro e wn ⟨⟨Fq,rfl,fq⟩,hbn⟩
        replace HC:=BN (show Below w.heap.size w wn/\Bk wn w.heap.size [.slice a n cap] from ⟨Al HC.out.1 hbn,HC.out.2.below hbn⟩)
        clear hbn)
      |(go_at_call 111;with_reducible refine (end_any _ (HG.out _) _).mono ?_;rintro e wn ⟨⟨En,rfl,en⟩,hbn⟩
        replace HC:=BN (show Below w.heap.size w wn/\Bk wn w.heap.size [.slice a n cap] from ⟨Al HC.out.1 hbn,HC.out.2.below hbn⟩)
        clear hbn))
     go_roundw
     case rel=>exact ⟨k+1,_,(by have:=HLT.out;omega),by go_num,rfl,(by have:=HS.out;simp only [AH];omega),HC⟩
     case measure=>have:=HLT.out;simp [intOf];omega
    ·obtain rfl:k=t:=by omega
     have tlt:¬(k:Int)<(k:Int):=by omega
     have hs9:S.size<=300:=by omega
     clear hS lt hk hge
     go_wp2_with (first
      |(go_at_fn 109;with_reducible refine (HAT.out _ _ HC.out (by first | decide | omega) (by first | decide | omega)).mono ?_;rintro e wn ⟨rfl,qn,hwn⟩
        replace HC:=BN (show Below w.heap.size w wn/\Bk wn w.heap.size [.slice a n cap] by rw [hwn];exact ⟨Ak HC.out.1 qn,HC.out.2.below (Ak (Ao _ _) qn)⟩)
        clear hwn)
      |(go_at_call 111;with_reducible refine (end_any _ (HG.out _) _).mono ?_;rintro e wn ⟨⟨En,rfl,en⟩,hbn⟩
        replace HC:=BN (show Below w.heap.size w wn/\Bk wn w.heap.size [.slice a n cap] from ⟨Al HC.out.1 hbn,HC.out.2.below hbn⟩)
        clear hbn)
      |(go_at_call 113;with_reducible refine (body_any _ _ _ (HG.out _) (HG.out _) (HG.out _) _).mono ?_;rintro e wn ⟨⟨Ln,Mn,rfl,ln,mn⟩,hbn⟩
        replace HC:=BN (show Below w.heap.size w wn/\Bk wn w.heap.size [.slice a n cap] from ⟨Al HC.out.1 hbn,HC.out.2.below hbn⟩)
        clear hbn))
     go_ret;refine ⟨⟨_,rfl,?_⟩,HC.out.1⟩;simp only [AH];omega
end
end Go.Proofs.YtnabkcglnbdfeaaGreatDoor.Rq
namespace Go.Proofs.YtnabkcglnbdfeaaGreatDoor.Rq
open Go.RowKit Base Txt
section
set_option maxHeartbeats 4000000
set_option maxRecDepth 20000
attribute [local go_sem] An
theorem conv_cap (s:ByteArray) (w:World):∃W cap,(convert 9 22 (.string s)).run Gq w=.ok (.slice (some ⟨w.heap.size,0,none⟩) s.size cap) W/\s.size<=cap/\By.Bytes W w.heap.size s.data.toList/\w.heap.size<W.heap.size/\Below w.heap.size w W:=by have hcv:=run_bytes_of_string (P:=Gq) w 9 22 5 s GS GI GQ;obtain ⟨W,cap,h1,h2,h3,h4⟩:=By.conv_bytes s w;have e:=h1.symm.trans hcv;simp only [Result.ok.injEq,Value.slice.injEq,true_and] at e;exact ⟨W,cap,h1,by rw [e.1];exact grownCap_ge _ _ _ _,h2,h3,h4⟩
theorem nums_cut {w:World} {b off n:Nat} {zs:List Int} (h:Nums .u8 w (some ⟨b,off,none⟩) n zs) (i m:Nat) (hm:i+m<=n):Nums .u8 w (some ⟨b,off+i,none⟩) m ((zs.drop i).take m):=by
 refine ⟨by rw [CO,CI,h.1];omega,λh0=>?_⟩
 obtain ⟨b0,o0,e,hlt,hc⟩:=h.2 (by omega);cases e;refine ⟨b,off+i,rfl,hlt,λk hk=>?_⟩
 have:=hc (i+k) (by omega);rw [show off+i+k=off+(i+k) by omega,this];simp [List.getElem?_drop,hk]
theorem stream_any (a:Option Addr) (n cap:Nat) (zs:List Int) (w:World) (hv:Nums .u8 w a n zs) (hn:n<=40) (hc:n<=cap) :
 Calls Gq 16 #[.slice a n cap] w λe w'=>∃(g:Nat) (s:List UInt8) (c:Nat),e=.returned (ZX (some ⟨g,0,none⟩) s.length c)/\s.length<=c/\s.length<=2500/\w.heap.size<=g/\g<w'.heap.size/\By.Bytes w' g s/\Below w.heap.size w w':=by
 have HV:=BN hv;clear hv;go_enter Tryz.func16,Tryz.ntmps16;go_upto_region 3 with fail
 go_loopw [3,4] (λv i wr=>∃(j:Nat) (S:ByteArray),j<=4/\i=ZZ ZS ((10*j:Nat):Int)/\v=ZY S/\S.size<=500*j/\Hid (Below w.heap.size w wr)) (λ_ i _=>50-(intOf i).toNat)
 case atStart=>exact ⟨0,⟨#[]⟩,by omega,rfl,rfl,by decide,BN (Ao _ _)⟩
 case round=>
  obtain ⟨j,S,hj,rfl,rfl,hS,hR⟩:=hrel;obtain ⟨q,hq⟩:∃q,10*j=q:=⟨_,rfl⟩;rw [hq]
  have HS:=BN hS;have HJ:=BN (And.intro hj hq);have hs9:S.size<=2000:=by omega
  have hq4:q<=40:=by omega
  by_cases hlt:q<n
  ·have hq40:q<40:=by omega
   have t1:(q:Int)<(n:Int):=by omega
   have t2:(q:Int)<40:=by omega
   obtain ⟨m,hm⟩:∃m,min (q+10) n=m:=⟨_,rfl⟩;have hm1:q<=m/\m<=n/\m<=q+10:=by omega
   have im:min ((q:Int)+10) (n:Int)=(m:Int):=by omega
   obtain ⟨b,off,rfl,hb, -⟩:=HV.out.2 (by omega)
   have hcu:=nums_cut HV.out q (m-q) (by omega)
   have HRQ:=BN (request_any (some ⟨b,off+q,none⟩) (m-q) (cap-q) _ wr (hcu.below hR.out) (by omega));have c2:q<=m:=hm1.1;have c3:m<=cap:=by omega
   clear hm hcu hS hj hq hb hm1
   go_wp2_with (go_at_call 69;with_reducible refine HRQ.out.mono ?_;rintro e w2 ⟨⟨L,rfl,hl⟩,hb2⟩);go_roundw
   case rel=>obtain ⟨hj,hq⟩:=HJ.out;exact ⟨j+1,_,by omega,by subst hq;go_num,rfl,(by have:=HS.out;simp only [AH];omega),BN (Al hR.out hb2)⟩
   case measure=>simp [intOf];omega
  ·have t1:¬(q:Int)<(n:Int):=by omega
   obtain ⟨W5,cap5,hcv,hcap5,hby,hlt5,hb5⟩:=conv_cap S wr
   have HF:=BN (And.intro hcap5 (And.intro hby (And.intro hlt5 (Al hR.out hb5))));clear hcap5 hby hlt5 hb5 hS hj hq;go_wp2_with fail;go_ret;obtain ⟨f1,f2,f3,f4⟩:=HF.out;exact ⟨wr.heap.size,S.data.toList,cap5,(by rw [Txt.len];rfl),by rw [Txt.len];exact f1,by rw [Txt.len];omega,hR.out.size,f3,f2,f4⟩
end
end Go.Proofs.YtnabkcglnbdfeaaGreatDoor.Rq
namespace Go.Proofs.YtnabkcglnbdfeaaGreatDoor.Flt
open Go.RowKit Base Txt Mem Par Pg Each
theorem seat_bd (k:Nat):∃b:Bd,Seat.seatB k=bdV b/\b.right=true:=by
 refine ⟨⟨if k%6=1 then 64 else if k%6=3 then 80 else 1024,if k%6=1 then 4 else 32,if k%6=1 then 256 else 8192,if k%6=2 then 16 else if k%6=3 then 40 else 65536,if k%6=2 then 0 else 32,if k%6=2 then 0 else 8,((k/32%4:Nat)+1:Int),20,!decide (k%8=7),!decide (12<k%16)⟩,rfl,?_⟩
 have h:k/32%4<4:=Nat.mod_lt _ (by decide);generalize k/32%4=z at *;unfold Bd.right Bnd.right Bnd.inside;simp only [As,decide_eq_true_eq];by_cases h1:k%6=1
 ·simp only [h1];simp;omega
 ·by_cases h2:k%6=2
  ·simp only [h2];simp;omega
  ·by_cases h3:k%6=3
   ·simp only [h3];simp;omega
   ·simp only [if_neg h1,if_neg h2,if_neg h3];omega
structure EX (w0 w:World) (B g1 g2 p:Nat) (b:Bd) (t:T) (L1 L2:List (Option Nat)):Prop where
 x:Has B g1 0 b (.live t) w L1
 y:Has B g2 p b (.live (t.wide p)) w L2
 dis:Dis L1 L2
 strict:t.Strict
 ok:t.Ok
 out:t.out= []
 bel:Below B w0 w
section
set_option maxHeartbeats 8000000
set_option maxRecDepth 20000
attribute [local go_sem] An
end
end Go.Proofs.YtnabkcglnbdfeaaGreatDoor.Flt
namespace Go.Proofs.YtnabkcglnbdfeaaGreatDoor.Bld
open Go.RowKit
abbrev T:TypeId:=183
abbrev E:TypeId:=5
section
set_option maxHeartbeats 2000000
set_option maxRecDepth 100000
end
end Go.Proofs.YtnabkcglnbdfeaaGreatDoor.Bld
namespace Go.Proofs.YtnabkcglnbdfeaaGreatDoor.Fd
open Go.RowKit Base Txt Tgt
abbrev lineB (f:Fld):ByteArray:=((f.1 ++⟨#[58,32]⟩)++f.2) ++⟨#[13,10]⟩
section
set_option maxHeartbeats 4000000
set_option maxRecDepth 100000
attribute [local go_sem] An
end
end Go.Proofs.YtnabkcglnbdfeaaGreatDoor.Fd
namespace Go.Proofs.YtnabkcglnbdfeaaGreatDoor.Fd
open Go.RowKit Base Txt Tgt
theorem rjoined_eq (v s:ByteArray):(v ++⟨#[32]⟩)++trim s=ba (joined v.data.toList s.data.toList):=ba_ext (by simp only [joined,ByteArray.data_append,Array.toList_append,List.append_assoc];rfl)
section
set_option maxHeartbeats 4000000
set_option maxRecDepth 100000
attribute [local go_sem] An
theorem rgoes_any (s:ByteArray) (p:Nat) (hp:p<4294967296) (w:World):Calls Gq 215 #[ZY s,ZZ ZQ (p:Nat)] w λe w'=>e=.returned (ZW (goes p s.data.toList))/\w'=w:=by
 have HH:=BN (λw=>Ek p hp 13 w);unfold goes;generalize Ei p 13=b at *;rcases D3 s.size with h0 | h0
 ·obtain rfl:s=E0:=ba_ext (List.length_eq_zero_iff.1 (by rw [len];exact h0));cases b;all_goals
   go_enter Tryz.func215,Tryz.ntmps215
   go_wp2_with (go_at_call 53;with_reducible refine Cm (HH.out _) ?_);go_ret;exact ⟨by rfl,rfl⟩
 ·have t0:=first_no s h0
  have HB:=BN (λw=>Oct.rblank_any (s[0].toNat:Int) w);rw [blank_is] at HB;have e1:(!s.data.toList.isEmpty&&He (s.data.toList.headD 0))=He s[0]:=by exact XXpKR
  rw [e1];clear e1;cases b;all_goals
   go_enter Tryz.func215,Tryz.ntmps215
   go_wp2_with (first
    |(go_at_call 53;with_reducible refine Cm (HH.out _) ?_)
    |(go_at_call 130;with_reducible refine Cm (HB.out _) ?_))
   go_ret;exact ⟨by rfl,rfl⟩
theorem rjoin_any (n v s:ByteArray) (w:World) (hs:s.size<=1000000000) (hv:v.size<=1000000000):Calls Gq 216 #[fv n v,ZY s] w λe w'=>e=.returned (fv n (ba (joined v.data.toList s.data.toList)))/\Below w.heap.size w w':=by
 have HT:=BN (λw=>rtrim_any s w (by unfold maxLen;omega));have hT:(trim s).size<=s.size:=trim_size _ _;rw [←rjoined_eq];generalize trim s=T at *;have v1:¬9223372036854775807<v.size+1:=by omega
 have v2:¬9223372036854775807<v.size+1+T.size:=by omega
 go_enter Tryz.func216,Tryz.ntmps216;go_wp2_with fail
 go_region_with (go_at_call 129;with_reducible refine Cm (HT.out _) ?_);all_goals
  go_wp2;exact bodyPost_ret (v:=fv n ((v ++⟨#[32]⟩)++T)) (by simp [results,Tryz.results216,go_sem]) rfl ⟨rfl,Ak (((Ao _ _).alloc (D5 _) _).alloc (by simp) _) 1⟩
end
end Go.Proofs.YtnabkcglnbdfeaaGreatDoor.Fd
namespace Go.Proofs.YtnabkcglnbdfeaaGreatDoor.Fd
open Go.RowKit Base Txt Tgt
section
set_option maxHeartbeats 4000000
set_option maxRecDepth 100000
attribute [local go_sem] An
end
end Go.Proofs.YtnabkcglnbdfeaaGreatDoor.Fd
namespace Go.Proofs.YtnabkcglnbdfeaaGreatDoor.Fd
open Go.RowKit Base Txt Tgt
theorem colon_cases (l:List UInt8):((58:UInt8)∉l/\(cutAt 58 l).2.2=false)∨∃j,∃h:j<l.length,l[j]=58/\(58:UInt8)∉l.take j/\(cutAt 58 l).1=l.take j/\(cutAt 58 l).2.1=l.drop (j+1)/\(cutAt 58 l).2.2=true:=by
 rcases cut_cases 58 l with h | ⟨a,r,rfl,h⟩
 ·exact .inl ⟨h,by rw [cutAt_none 58 l h]⟩
 ·refine .inr ⟨a.length,by simp,by simp,by simpa using h,?_,?_,?_⟩
  ·rw [cutAt_app 58 a r h];simp
  ·rw [cutAt_app 58 a r h];simp
  ·rw [cutAt_app 58 a r h]
def nameAt (t:Nat) (w:World):Nat:=match w.cell? ⟨t,0,none⟩ with
 | some (.string b)=>b.size
 | _=>0
theorem nameAt_of {t:Nat} {w:World} {b:ByteArray} (h:w.cell? ⟨t,0,none⟩=some (ZY b)):nameAt t w=b.size:=by unfold nameAt;rw [h]
theorem Two.set0 {w0 w:World} {n v N V:ByteArray} {t:Nat} (h:Two w0 n v t N V w) (N':ByteArray):Two w0 n v t N' V (w.setCell ⟨t,0,none⟩ (ZY N')):=by
 have h1:=h.k.f.other t 0 (ZY N') h.ne
 have hb:=h.k.b.setCell (p:=⟨t,0,none⟩) h.ge (ZY N');obtain ⟨c0,c1,z0,z1⟩:=h.f;exact ⟨⟨h1,by simpa using h.k.g,hb⟩,⟨by go_simp,by go_simp,by go_simp,by go_simp⟩,h.ne,by simpa using h.lt,h.ge⟩
theorem not_colon (s:ByteArray) (k:Nat) (h:k<s.size) (j:Nat) (hj:k<j) (hn:(58:UInt8)∉s.data.toList.take j):((s[k].toNat:Int)==58)=false:=by
 refine beq_eq_false_iff_ne.2 λe=>hn ?_;have hl:k<s.data.toList.length:=by rw [len];exact h
 have e1:s.data.toList[k]=58:=Hg.1 (by show s[k].toNat=58;omega);rw [←e1];rw [List.mem_take_iff_getElem];exact ⟨k,by omega,rfl⟩
theorem last_of (n0:List UInt8) (m:Nat) (h:m<n0.length):∃Nn:ByteArray,ba (n0.take (m+1))=Nn/\Nn.size=m+1/\(∃h2:m<Nn.size,Nn[m]=n0[m])/\Nn.extract 0 m=ba (n0.take m):=by
 have hl:(n0.take (m+1)).length=m+1:=by rw [CO];omega
 refine ⟨_,rfl,by rw [Txt.ba_size];exact hl,⟨by rw [Txt.ba_size];omega,?_⟩,?_⟩
 ·show (n0.take (m+1))[m]'(by omega)=n0[m];rw [List.getElem_take]
 ·exact ba_ext (by
   rw [BK];show ((n0.take (m+1)).drop 0).take (m-0)=n0.take m;rw [List.drop_zero,List.take_take]
   congr 1;omega)
section
set_option maxHeartbeats 4000000
set_option maxRecDepth 100000
attribute [local go_sem] An
theorem rparse_none (s:ByteArray) (p:Nat) (hp:p<4294967296) (w:World) (hs:s.size<=1000000000) (hno:(58:UInt8)∉s.data.toList) :
 Calls Gq 91 #[ZY s,ZZ ZQ (p:Nat)] w λe w'=>e=.returned (rv (out (Ei p 11)))/\Below w.heap.size w w':=by
 have HH:=BN (λw=>Ek p hp 11 w);have HNO:=BN hno;clear hno;obtain ⟨b,hb⟩:∃b,Ei p 11=b:=⟨_,rfl⟩;rw [hb] at HH ⊢;clear hb
 have hW:=BN (show Below w.heap.size w (w.alloc (.cells #[ZY E0,ZY E0] 126)) from (Ao _ _).alloc (D5 _) _);go_enter Tryz.func91,Tryz.ntmps91;go_wp2
 go_loop [7,8] (λc i=>∃k:Nat,k<=s.size/\c=ZZ ZS (-1)/\i=ZZ ZS k) (λ_ i=>s.size-(intOf i).toNat)
 case atStart=>exact ⟨0,DC _,rfl,rfl⟩
 case round=>
  obtain ⟨k,hk,rfl,rfl⟩:=hrel;rcases D9 k s.size with hlt | hge
  ·have t1:=not_colon s k hlt (k+1) (by omega) (λh=>HNO.out (List.mem_of_mem_take h));go_wp2;go_round
   case rel=>exact ⟨k+1,by omega,rfl,by go_num⟩
   case measure=>simp [intOf];omega
  ·cases b
   ·go_wp2_with (go_at_call 53;with_reducible refine Cm (HH.out _) ?_);exact bodyPost_ret (v:=ZT #[fv E0 E0,ZW false,ZZ ZS 400]) (by simp [results,Tryz.results91,go_sem]) rfl ⟨rfl,hW.out⟩
   ·go_wp2_with (go_at_call 53;with_reducible refine Cm (HH.out _) ?_);exact bodyPost_ret (v:=ZT #[fv E0 E0,ZW false,ZZ ZS 0]) (by simp [results,Tryz.results91,go_sem]) rfl ⟨rfl,hW.out⟩
theorem XXfct {P:Prop} (h:P:=by exact bodyPost_ret (v:=ZT #[fv E0 E0,ZW false,ZZ ZS 400]) (by simp [results,Tryz.results91,go_sem,r0,r1]) rfl ⟨by first | rfl |(rw [hRv];rfl),hbW⟩):P:=h
theorem XXqMN {P:Prop} (h:P:=by
 go_wp2_with (go_at_call 53;with_reducible refine Cm (H9.out _) ?_);go_meet
 case rel=>exact HZ):P:=h
theorem rparse_some (s:ByteArray) (p:Nat) (hp:p<4294967296) (w:World) (hs:s.size<=1000000000) (j:Nat) (hj:j<s.size) (hc:s[j]=58) (hno:(58:UInt8)∉s.data.toList.take j) :
 Calls Gq 91 #[ZY s,ZZ ZQ (p:Nat)] w λe w'=>e=.returned (rv (read (clOf p) (nameL (clOf p) (s.data.toList.take j)) (trimL He (s.data.toList.drop (j+1)))))/\Below w.heap.size w w':=by
 have H9:=BN (λw=>Ek p hp 9 w)
 have H10:=BN (λw=>Ek p hp 10 w)
 have H12:=BN (λw=>Ek p hp 12 w)
 have H14:=BN (λw=>Ek p hp 14 w)
 have e1:s.extract 0 j=ba (s.data.toList.take j):=ba_ext (by rw [BK];simp [ba])
 have e2:s.extract (j+1) s.size=ba (s.data.toList.drop (j+1)):=ba_ext (by rw [BK,Dp (by rw [CI,len];omega)];rfl)
 have HT:=BN (λw=>rtrim_any (s.extract (j+1) s.size) w (by unfold maxLen;rw [ByteArray.size_extract];omega));have hT:trim (s.extract (j+1) s.size)=ba (trimL He (s.data.toList.drop (j+1))):=by rw [e2];rfl
 rw [hT] at HT
 have hvl:(trimL He (s.data.toList.drop (j+1))).length<=s.size:=D7 (trimL_length _ _) (by rw [CI,len];omega);have hnl:(s.data.toList.take j).length=j:=by rw [CO,len];omega
 have E1:=BN e1;have t0:((s[j].toNat:Int)==58)=true:=by rw [hc];rfl
 have HNC:=BN (λk (h:k<s.size) (hk:k<j)=>not_colon s k h j hk hno);clear e1 e2 hT hno hc;generalize s.data.toList.take j=n0 at *;generalize trimL He (s.data.toList.drop (j+1))=v1 at *
 have hW:=BN (show Below w.heap.size w (w.alloc (.cells #[ZY E0,ZY E0] 126)) from (Ao _ _).alloc (D5 _) _);obtain ⟨R,hR⟩:∃R,rv (read (clOf p) (nameL (clOf p) n0) v1)=R:=⟨_,rfl⟩;rw [hR];have HR0:=BN hR;clear hR;go_enter Tryz.func91,Tryz.ntmps91;go_upto_block 0 with fail
 go_cut [7,8] from 10 (λc i wx=>c=ZZ ZS (j:Nat)/\wx=w.alloc (.cells #[ZY E0,ZY E0] 126))
 case first=>
  go_wp2_with fail
  go_loop [7,8] (λc i=>(∃k:Nat,k<=j/\c=ZZ ZS (-1)/\i=ZZ ZS k)∨(c=ZZ ZS (j:Nat)/\i=ZZ ZS ((j+1:Nat):Int))) (λ_ i=>s.size-(intOf i).toNat)
  case atStart=>exact .inl ⟨0,DC _,rfl,rfl⟩
  case round=>
   rcases hrel with ⟨k,hk,rfl,rfl⟩ | ⟨rfl,rfl⟩
   ·have hlt:k<s.size:=by omega
    rcases D9 k j with hkj | hkj
    ·have t1:=HNC.out k hlt hkj;clear t0;go_wp2;go_round
     case rel=>exact .inl ⟨k+1,by omega,rfl,by go_num⟩
     case measure=>simp [intOf];omega
    ·obtain rfl:k=j:=by omega
     go_wp2;go_round
     case rel=>exact .inr ⟨rfl,by go_num⟩
     case measure=>simp [intOf];omega
   ·have q0:¬(j:Int)<0:=by omega
    go_wp2;all_goals
     go_meet
     case rel=>exact ⟨rfl,rfl⟩
 case rest=>
  obtain ⟨rfl,hw0⟩:=hcut;rw [hw0];clear hw0;have q0:¬(j:Int)<0:=by omega
  have q1:(0:Int)<=(j:Int):=by omega
  have q2:(j:Int)<=(s.size:Int):=by omega
  have q3:IntKind.i64.wrap ((j:Int)+1)=((j+1:Nat):Int):=by rw [wrap_in _ (by omega) (by omega)];omega
  have q4:((j+1:Nat):Int)<=(s.size:Int):=by omega
  have q5:(0:Int)<=((j+1:Nat):Int):=by omega
  go_upto_region 11 with fail
  go_cut [9] from 31 (λf wx=>f=ZV (some ⟨w.heap.size+1,0,none⟩)/\wx=((w.alloc (.cells #[ZY E0,ZY E0] 126)).alloc (.cells #[ZY (s.extract 0 j),ZY (ba v1)] 126)).drew)
  case first=>
   go_region_with (go_at_call 129;with_reducible refine Cm (HT.out _) ?_);all_goals
    go_wp2_with fail;go_meet
    case rel=>exact ⟨rfl,rfl⟩
  case rest=>
   obtain ⟨rfl,hw0⟩:=hcut;have hts:(w.alloc (.cells #[ZY E0,ZY E0] 126)).heap.size=w.heap.size+1:=by simp
   have HX:=(Two.new (Keep.new w 126 E0 E0) 126 (s.extract 0 j) (ba v1)).drew 1;rw [hts,E1.out] at HX;rw [E1.out] at hw0
   replace HX:=BN (show Two w E0 E0 (w.heap.size+1) (ba n0) (ba v1) wc by rw [hw0];exact HX)
   clear hw0 hts hW HT E1 HNC t0 q0 q1 q2 q3 q4 q5;have htz:w.heap.size+1=w.heap.size+1:=rfl;generalize w.heap.size+1=t at *;clear htz;have hnf:∀x,nameL (clOf p) x=if Ei p 9=true then trimEnd x else x:=λ_=>rfl
   obtain ⟨sp,hsp⟩:∃sp,Ei p 9=sp:=⟨_,rfl⟩;rw [hsp] at H9 hnf;clear hsp;have HNF:=BN hnf;clear hnf;have hn1l:=nameL_le (clOf p) n0;rw [hnl] at hn1l;go_upto_block 2 with fail
   go_cut [] from 40 (λwx=>Hid (Two w E0 E0 t (ba (nameL (clOf p) n0)) (ba v1) wx))
   case first=>
    go_wp2_with fail
    go_loopw [] (λwr=>∃m:Nat,m<=j/\Hid (Two w E0 E0 t (ba (n0.take m)) (ba v1) wr)/\Hid (nameL (clOf p) (n0.take m)=nameL (clOf p) n0)) (λwr=>nameAt t wr)
    case atStart=>exact ⟨j,D5 _,BN (by rw [Dp (by omega)];exact HX.out),BN (by rw [Dp (by omega)])⟩
    case round=>
     obtain ⟨m,hm,HY,HR⟩:=hrel;obtain ⟨⟨⟨c0,c1,z0,z1⟩,hg,hbk⟩,⟨d0,d1,y0,y1⟩,hne,hlt,hge⟩:=HY.out;have hna:=nameAt_of d0;clear c0 c1 z0 z1 hg hbk hlt hge;cases sp with
     | false=>
       have HZ:=BN (show Two w E0 E0 t (ba (nameL (clOf p) n0)) (ba v1) wr by rw [←HR.out,HNF.out,if_neg (by decide)];exact HY.out)
       exact XXqMN
     | true=>
       rcases m with _ | m
       ·have HZ:=BN (show Two w E0 E0 t (ba (nameL (clOf p) n0)) (ba v1) wr by
         rw [←HR.out,HNF.out,if_pos rfl];exact HY.out)
        rw [show ba (n0.take 0)=E0 from rfl] at d0;exact XXqMN
       ·have hml:m<n0.length:=by omega
        have htk:=Dq hml;obtain ⟨Nn,hNn,hsz,⟨z2,hat⟩,hex⟩:=last_of n0 m hml;rw [hNn] at d0 hna
        have hno:=first_no Nn (by omega);have HB:Hid (∀w,Calls Gq 130 #[ZZ ZR (Nn[m].toNat:Int)] w λe w'=>e=.returned (ZW (He n0[m]))/\w'=w):=BN λw=>by
         have:=Oct.rblank_any (Nn[m].toNat:Int) w;rw [blank_is] at this
         rwa [show He Nn[m]=He n0[m] from congrArg _ hat] at this
        have z1:IntKind.i64.wrap ((Nn.size:Int)-1)=(m:Int):=by rw [wrap_in _ (by omega) (by omega)];omega
        have z3:(m:Int)<(Nn.size:Int):=by omega
        have z4:(m:Int)<=(Nn.size:Int):=by omega
        have z5:(0:Int)<=(m:Int):=by omega
        cases hb:He n0[m] with
        | false=>
          rw [hb] at HB
          have HZ:=BN (show Two w E0 E0 t (ba (nameL (clOf p) n0)) (ba v1) wr by rw [←HR.out,HNF.out,if_pos rfl,htk,trimEnd_stop _ _ hb,←htk];exact HY.out)
          clear hb htk HY HR hex hat hNn
          go_wp2_with (first
           |(go_at_call 53;with_reducible refine Cm (H9.out _) ?_)
           |(go_at_call 130;with_reducible refine Cm (HB.out _) ?_))
          go_meet
          case rel=>exact HZ
        | true=>
          rw [hb] at HB
          have HY2:=BN (HY.out.set0 (Nn.extract 0 m))
          have HR2:=BN (show nameL (clOf p) (n0.take m)=nameL (clOf p) n0 by rw [←HR.out,HNF.out,HNF.out,if_pos rfl,if_pos rfl,htk,trimEnd_snoc _ _ hb])
          have HE:=BN hex;clear hb htk HY HR hex hat hNn
          go_wp2_with (first
           |(go_at_call 53;with_reducible refine Cm (H9.out _) ?_)
           |(go_at_call 130;with_reducible refine Cm (HB.out _) ?_))
          have hd:=HY2.out.f.c0;have hs2:(Nn.extract 0 m).size=m:=by rw [ByteArray.size_extract];omega
          rw [HE.out] at HY2;go_roundw
          case rel=>exact ⟨m,by omega,by first | exact HY2 |(rw [HE.out];exact HY2),HR2⟩
          case measure=>rw [nameAt_of hd,hna];omega
   case rest=>
    clear HX;have HX:=hcut;clear hcut H9 HNF;generalize nameL (clOf p) n0=n1 at *;by_cases hn:n1= []
    ·subst hn;have hRv:R=rv (out (Ei p 12)):=by rw [←HR0.out];rfl
     clear HR0;generalize Ei p 12=nn at *;obtain ⟨⟨⟨c0,c1,z0,z1⟩,hg,hbk⟩,⟨d0,d1,y0,y1⟩,hne,hlt,hge⟩:=HX.out;obtain ⟨W9,hW9,⟨r0,r1,_,_⟩,hbW⟩:=Fb.put HX.out.k.f HX.out.k.b (D5 _) E0 E0;rw [show ba []=E0 from rfl] at d0;clear hg hbk hlt hge;cases nn
     ·go_wp2_with (go_at_call 53;with_reducible refine Cm (H12.out _) ?_);try rw [hW9]
      exact XXfct
     ·go_wp2_with (go_at_call 53;with_reducible refine Cm (H12.out _) ?_);try rw [hW9]
      exact bodyPost_ret (v:=ZT #[fv E0 E0,ZW false,ZZ ZS 0]) (by simp [results,Tryz.results91,go_sem,r0,r1]) rfl ⟨by first | rfl |(rw [hRv];rfl),hbW⟩
    ·have t0:=first_no (ba n1) (ba_pos hn)
     have HN:=BN (λw a (hk:Ints w a 1 [1])=>Oct.rall_any (ba n1) a 1 1 [1] w (by rw [Txt.ba_size];unfold maxLen;omega) hk (by decide))
     have HV:=BN (λw a (hk:Ints w a 1 [6])=>Oct.rall_any (ba v1) a 1 1 [6] w (by rw [Txt.ba_size];unfold maxLen;omega) hk (by decide));rw [show (ba n1).data.toList=n1 from rfl] at HN;rw [show (ba v1).data.toList=v1 from rfl] at HV;obtain ⟨G,hG⟩:∃G,(!(goodN (clOf p) n1&&goodV (clOf p) v1))=G:=⟨_,rfl⟩
     have HG:=BN (show G= !((Ei p 10||DG [1] n1)&&(Ei p 14||DG [6] v1)) from hG.symm)
     have HRv:=BN (show R=if G=true then rv none else rv (some (some (n1,v1))) by rw [←HR0.out,←hG];unfold read;rw [if_neg hn];cases (goodN (clOf p) n1&&goodV (clOf p) v1)<;>rfl)
     have HF:Hid (rv (some (some (n1,v1)))=ZT #[fv (ba n1) (ba v1),ZW true,ZZ ZS 0]):=BN rfl;clear hG HR0 hn hnl hvl hn1l H12;generalize ba n1=N1 at *;generalize ba v1=V1 at *;obtain ⟨⟨⟨c0,c1,z0,z1⟩,hg,hbk⟩,⟨d0,d1,y0,y1⟩,hne,hlt,hge⟩:=HX.out;clear hg hbk hlt hge c0 c1 z0 z1;go_upto_region 18 with fail
     go_cut [93] from 72 (λv wx=>v=ZW G/\Hid (Two w E0 E0 t N1 V1 wx))
     case first=>
      clear HRv HF t0;generalize Ei p 10=nb at *;generalize Ei p 14=vb at *;generalize DG [1] n1=tn at *;generalize DG [6] v1=tv at *;have hGG:=HG.out;clear HG;cases nb<;>cases tn<;>cases vb<;>cases tv;all_goals
       obtain rfl:=hGG
       go_wp2_with (first
        |(go_at_call 53;with_reducible refine Cm (H10.out _) ?_)
        |(go_at_call 53;with_reducible refine Cm (H14.out _) ?_)
        |(go_at_call 131;(with_reducible refine (HV.out _ _ (Ints.one _ _ rfl _ _)).mono ?_);rintro e w1 ⟨rfl,m,hw⟩
          replace HX:=BN ((HX.out.step ((Ao _ _).alloc (D5 _) (.cells #[ZZ ZS 6] 3))).drew m)
          rw [←hw] at HX;clear hw)
        |(go_at_call 131;(with_reducible refine (HN.out _ _ (Ints.one _ _ rfl _ _)).mono ?_);rintro e w1 ⟨rfl,m,hw⟩
          replace HX:=BN ((HX.out.step ((Ao _ _).alloc (D5 _) (.cells #[ZZ ZS 1] 3))).drew m)
          rw [←hw] at HX;clear hw d0 d1 y0 y1;obtain ⟨d0,d1,y0,y1⟩:=HX.out.f))
       go_meet
       case rel=>exact ⟨by rfl,HX⟩
     case rest=>
      obtain ⟨rfl,HY⟩:=hcut;clear HX HG d0 d1 y0 y1 t0 HN HV H10 H14;obtain ⟨⟨⟨c0,c1,z0,z1⟩,hg,hbk⟩,⟨d0,d1,y0,y1⟩,hne,hlt,hge⟩:=HY.out;clear hg hbk hlt hge;cases G with
      | true=>
        have hRv:=HRv.out;rw [if_pos rfl] at hRv;obtain ⟨W9,hW9,⟨r0,r1,_,_⟩,hbW⟩:=Fb.put HY.out.k.f HY.out.k.b (D5 _) E0 E0;go_wp2_with fail;try rw [hW9]
        exact XXfct
      | false=>
        have hRv:=HRv.out;rw [if_neg (by decide),HF.out] at hRv;obtain ⟨W9,hW9,⟨r0,r1,_,_⟩,hbW⟩:=Fb.put HY.out.k.f HY.out.k.b (D5 _) N1 V1;go_wp2_with fail;try rw [hW9]
        exact bodyPost_ret (v:=ZT #[fv N1 V1,ZW true,ZZ ZS 0]) (by simp [results,Tryz.results91,go_sem,r0,r1]) rfl ⟨by first | rfl | rw [hRv],hbW⟩
theorem rparse_any (s:ByteArray) (p:Nat) (hp:p<4294967296) (w:World) (hs:s.size<=1000000000):Calls Gq 91 #[ZY s,ZZ ZQ (p:Nat)] w λe w'=>e=.returned (rv (parse (clOf p) s.data.toList))/\Below w.heap.size w w':=by
 rcases colon_cases s.data.toList with ⟨h1,h2⟩ | ⟨j,hj,h1,h2,h3,h4,h5⟩
 ·have:=rparse_none s p hp w hs h1;unfold parse;rw [if_neg (by rw [h2];decide)];exact this
 ·have:=rparse_some s p hp w hs j (by rw [←len];exact hj) h1 h2;unfold parse;rw [if_pos h5,h3,h4];exact this
end
end Go.Proofs.YtnabkcglnbdfeaaGreatDoor.Fd
namespace Go.Proofs.YtnabkcglnbdfeaaGreatDoor.Par
open Go.RowKit Base Txt Mem
section
set_option maxHeartbeats 4000000
set_option maxRecDepth 20000
attribute [local go_sem] An
variable {w:World} {B:Zone} {g q:Nat} {v f bd t o:Value} {p:Nat} {b:Bd} {s:S}
theorem fail_at (h:PR w B g q v f bd t o p b s) (e:Nat) (x:Int) (hx:x=(e:Int)):Calls Gq 118 #[ptr g,ZZ ZS x] w λr w'=>
 r=.returned (ZT #[])/\PR w' B g q v nil nil nil o p b (s.fail e)/\Step (blks g q v f bd t o) (blks g q v nil nil nil o) w w':=by
 subst hx;exact fail_any h e
theorem cells_last (ini:List Fld) (a:Fld):(cells (ini ++ [a]))[ini.length*2]?=some (ZY a.1)/\(cells (ini ++ [a]))[ini.length*2+1]?=some (ZY a.2):=by exact XXWvg
theorem cells_put (ini:List Fld) (a c:Fld):((cells (ini ++ [a])).set (ini.length*2) (ZY c.1)).set (ini.length*2+1) (ZY c.2)=cells (ini ++ [c]):=by exact XXysj
theorem XXmNg {P:Prop} (h:P:=by
 rw [hg] at hgo;have HGo:=BN hgo;clear hgo hg;go_enter Tryz.func192,Tryz.ntmps192;go_upto_region 5 with fail
 generalize w.setCell ⟨g,20,none⟩ (ZZ ZS ((s.lines:Int)+1))=W1 at *;clear c20 z20 a1 a2 t0;have c0:=H1.out.cs.c0
 go_wp2_with (first
  |(at_builtin;refine App.wpList_append_list _ rfl _ _ 46 rfl B 126 iF (.agg #[.string AG,.string AG]) 2 32 Tryz.underlying46 I1.out I2.out I3.out I4.out rfl (by decide) (.slice bo s.r.fs.length co) s.r.fs.length (cells s.r.fs) rfl ((H1.out.below (HB3.out.alloc HB3.out.size (.cells #[.string (ba n),.string (ba vv)] 126))).own.F.alloc (.cells #[.string (ba n),.string (ba vv)] 126)) (some ⟨w3.heap.size+1,0,none⟩) 1 1 [.string (ba n),.string (ba vv)] rfl rfl (λ_=>⟨w3.heap.size+1,0,rfl,λj u hu=>by rw [DB];exact (Em (w3.alloc (.cells #[.string (ba n),.string (ba vv)] 126)) (w3.heap.size+1) (by simp) 126 [.string (ba n),.string (ba vv)]).c j u hu⟩) (by intro u hu;rcases (by simpa using hu:u=.string (ba n)∨u=.string (ba vv)) with rfl | rfl<;>rfl) (by have:=HLEN.out;unfold maxLen;omega) (by have:=HLEN.out;omega) (by have:=(H1.out.below (HB3.out.alloc HB3.out.size (.cells #[.string (ba n),.string (ba vv)] 126))).own.lt;have:=H1.out.own.ge;simp at *;omega) ?_;intro v2 w5 hO5 hgr5 _ hor5;have HO5:=BN hO5;have HG5:=BN hgr5;have HR5:=BN hor5;clear hO5 hgr5 hor5)
  |(go_at_call 91;with_reducible refine (HP.out _).mono ?_;rintro r w3 ⟨rfl,hb3⟩
    have HB3:=BN hb3;clear hb3)
  |(go_at_call 215;with_reducible refine Cm (HGo.out _) ?_))
 go_ret
 have hb4:=(HB3.out.alloc HB3.out.size (.cells #[ZY (ba n),ZY (ba vv)] 126))
 have hb5:=hb4.alloc hb4.size (.cells #[ZY (ba n),ZY (ba vv)] 126);have h4:=H1.out.below hb5;have hl:(s.r.fs ++ [(ba n,ba vv)]).length=s.r.fs.length+1:=by simp
 have hk5:Keeps [(Value.slice bo s.r.fs.length co).ownBlock] ((w3.alloc (.cells #[ZY (ba n),ZY (ba vv)] 126)).alloc (.cells #[ZY (ba n),ZY (ba vv)] 126)) w5:=Keeps.grown HG5.out λk e=>by rw [e];exact Dc.2 rfl
 obtain ⟨ho5,hs5⟩:=h4.own.setF (f':=v2) (fs':=s.r.fs ++ [(ba n,ba vv)]) hk5 (by rw [hl,cells_append];exact HO5.out) (by
  rcases HR5.out with e | e
  ·exact .inl e
  ·exact .inr ⟨_,e,D5 _⟩)
 have hrow:w5.heap[g]?= _:=hk5.row h4.row (λhm=>by
  have e:some g=(Value.slice bo s.r.fs.length co).ownBlock:=by simpa using hm
  exact h4.own.lone.ne (i:=0) (j:=3) rfl (by decide) (by rw [e];rfl))
 exact ⟨_,rfl,hrow,ho5,HS1.out.trans ((EH hb5).trans hs5)⟩):P:=h
theorem XXv0S {P:Prop} (h:P:=by
 rw [hg] at hgo;have HGo:=BN hgo;clear hgo hg;go_enter Tryz.func192,Tryz.ntmps192;go_upto_region 5 with fail
 generalize w.setCell ⟨g,20,none⟩ (ZZ ZS ((s.lines:Int)+1))=W1 at *;clear c20 z20 a1 a2 t0;have c0:=H1.out.cs.c0
 go_wp2_with (first
  |(go_at_call 118;with_reducible refine (HFA.out _ (HB3.out.alloc HB3.out.size (.cells #[.string ⟨#[]⟩,.string ⟨#[]⟩] 126))).mono ?_;rintro r w4 ⟨rfl,hP,hS⟩)
  |(go_at_call 91;with_reducible refine (HP.out _).mono ?_;rintro r w3 ⟨rfl,hb3⟩
    have HB3:=BN hb3;clear hb3)
  |(go_at_call 215;with_reducible refine Cm (HGo.out _) ?_))
 go_ret
 exact ⟨rfl,hP,HS1.out.trans ((EH (HB3.out.alloc HB3.out.size (.cells #[ZY ⟨#[]⟩,ZY ⟨#[]⟩] 126))).trans hS)⟩):P:=h
theorem XXDlw {P:Prop} (h:P:=by
 rw [e];have t0:most<(s.lines:Int)+1:=by omega
 have HFA:=BN (fail_at H1.out 431 431 rfl);clear e hm;go_enter Tryz.func192,Tryz.ntmps192
 go_wp2_with (go_at_call 118;with_reducible refine HFA.out.mono ?_;rintro r w2 ⟨rfl,hP,hS⟩);go_ret
 exact ⟨rfl,hP,HS1.out.trans hS⟩):P:=h
theorem fieldF_any (hp:p<4294967296) (x:ByteArray) (hx:x.size<=5000) (most:Int) (h:PR w B g q v f bd t o p b s) (hl:s.lines<=1000) (hsz:∀y∈s.r.fs,y.1.size<=1000000/\y.2.size<=1000000) (hlen:s.r.fs.length<=500) :
 Calls Gq 192 #[ptr g,f,ZY x,ZZ ZS most] w λr w'=>
  match fieldV p s.lines s.r.fs x.data.toList most with
  | .inl e=>r=.returned nil/\PR w' B g q v nil nil nil o p b (S.fail {s with lines:=s.lines+1} e)/\Step (blks g q v f bd t o) (blks g q v nil nil nil o) w w'
  | .inr l=>∃f',r=.returned f'/\w'.heap[g]?=some (.cells (pcells p b {s with lines:=s.lines+1} q f bd t o).toArray 60 (0,0))/\Own w' B g q v f' bd t o p s.rd l s.r.body s.r.ts s.out/\Step (blks g q v f bd t o) (blks g q v f' bd t o) w w':=by
 obtain ⟨a1,a2⟩:=Et ((s.lines:Int)+1) ⟨by omega,by omega⟩
 have H1:=BN (h.put 20 (ZZ ZS ((s.lines:Int)+1)) {s with lines:=s.lines+1} rfl rfl rfl rfl rfl rfl)
 have HS1:=BN (EJ (w:=w) (L:=blks g q v f bd t o) g 20 (ZZ ZS ((s.lines:Int)+1)) (by simp));have c20:=h.cs.c20;have z20:=h.marks 20;have HSZ:=BN hsz;have HLEN:=BN hlen;clear hsz hlen
 by_cases hm:most<((s.lines+1:Nat):Int)
 ·have e:fieldV p s.lines s.r.fs x.data.toList most=.inl 431:=by unfold fieldV;rw [if_pos hm]
  exact XXDlw
 ·have t0:¬most<(s.lines:Int)+1:=by omega
  obtain ⟨bo,co,eo, -⟩:=Dw h.own.F;have hgo:=λw=>Fd.rgoes_any x p hp w
  have HP:=BN (λw=>Fd.rparse_any x p hp w (by omega));have HSZx:=BN hx;have hnn:(s.r.fs.length:Int)<=500:=by have:=HLEN.out;omega
  subst eo;clear h hl hx;by_cases hj:(Fd.goes p x.data.toList && !s.r.fs.isEmpty)=true
  ·simp only [As,A7,List.isEmpty_eq_false_iff] at hj;obtain ⟨hg,hne⟩:=hj;rw [hg] at hgo;have HGo:=BN hgo;obtain ⟨ini,last,el⟩:∃ini last,s.r.fs=ini ++ [last]:=⟨_,_,(List.dropLast_concat_getLast hne).symm⟩;have hn1:s.r.fs.length=ini.length+1:=by rw [el];simp
   have e:fieldV p s.lines s.r.fs x.data.toList most=.inr (ini ++ [joinF last x.data.toList]):=by exact XX098
   rw [e]
   obtain ⟨gf,cf,hform,hgl,hgf⟩:=H1.out.own.F.form (by show 0<s.r.fs.length;omega);simp only [Value.slice.injEq,true_and] at hform;obtain ⟨rfl,rfl⟩:=hform
   have hq0:=(H1.out.own.F.cellAt (ini.length*2) (by show ini.length*2<s.r.fs.length*2;omega)).trans (show (cells s.r.fs)[ini.length*2]?=some (ZY last.1) by rw [el];exact (cells_last ini last).1)
   have hq1:=(H1.out.own.F.cellAt (ini.length*2+1) (by show ini.length*2+1<s.r.fs.length*2;omega)).trans (show (cells s.r.fs)[ini.length*2+1]?=some (ZY last.2) by rw [el];exact (cells_last ini last).2)
   have hz0:=H1.out.own.F.frozenAt (ini.length*2);have hz1:=H1.out.own.F.frozenAt (ini.length*2+1)
   have HJ:=BN (show∀w,Calls Gq 216 #[ZU #[ZY last.1,ZY last.2],ZY x] w λe w'=>e=.returned (ZU #[ZY last.1,ZY (ba (Fd.joined last.2.data.toList x.data.toList))])/\Below w.heap.size w w' from
    λw=>Fd.rjoin_any last.1 last.2 x w (by have:=HSZx.out;omega) (by have:=(HSZ.out last (by rw [el];simp)).2;omega))
   obtain ⟨k,hk⟩:∃k,ini.length=k:=⟨_,rfl⟩;have HK:=BN hk;rw [hk] at hn1 hq0 hq1 hz0 hz1;have t1:(0:Int)<(s.r.fs.length:Int):=by omega
   have i1:(k:Int)<(s.r.fs.length:Int):=by omega
   obtain ⟨b1,b2⟩:=Et ((s.r.fs.length:Int)-1) ⟨by omega,by omega⟩;have b3:(s.r.fs.length:Int)-1=(k:Int):=by omega
   rw [b3] at b1 b2;have HEL:=BN el;have HN1:=BN hn1;have HGL:=BN hgl;have HQ0:=BN hq0;have HQ1:=BN hq1;have HGF:=BN hgf;have HZ0:=BN hz0;have HZ1:=BN hz1;clear hne e hk hnn el hn1 hg hgo hm hgl;go_enter Tryz.func192,Tryz.ntmps192;go_upto_region 5 with fail
   generalize w.setCell ⟨g,20,none⟩ (ZZ ZS ((s.lines:Int)+1))=W1 at *;clear c20 z20 a1 a2 t0;have c0:=H1.out.cs.c0
   go_wp2_with (first
    |(go_at_call 216;with_reducible refine (HJ.out _).mono ?_;rintro r w3 ⟨rfl,hb3⟩
      have HB3:=BN hb3;have y0:=(hb3.cell (p:=⟨gf,k*2,none⟩) HGF.out).trans HQ0.out;have y1:=(hb3.cell (p:=⟨gf,k*2+1,none⟩) HGF.out).trans HQ1.out;have x0:=(hb3.frozen (p:=⟨gf,k*2,none⟩) HGF.out).trans HZ0.out;have x1:=(hb3.frozen (p:=⟨gf,k*2+1,none⟩) HGF.out).trans HZ1.out;clear hb3)
    |(go_at_call 215;with_reducible refine Cm (HGo.out _) ?_))
   go_ret;have h3:=H1.out.below HB3.out;exact XXaNX
  ·have hgt:Fd.goes p x.data.toList=false∨Fd.goes p x.data.toList=true/\¬(0:Int)<(s.r.fs.length:Int):=by
    cases hg:Fd.goes p x.data.toList with
    | false=>exact .inl rfl
    | true=>
      refine .inr ⟨rfl,?_⟩;rw [hg] at hj;have:s.r.fs= []:=by simpa using hj
      rw [this];simp
   have hp:=λw=>Fd.rparse_any x p hp w (by have:=HSZx.out;omega)
   have HFA:=BN (λw2 (hb:Below (w.setCell ⟨g,20,none⟩ (ZZ ZS ((s.lines:Int)+1))).heap.size (w.setCell ⟨g,20,none⟩ (ZZ ZS ((s.lines:Int)+1))) w2)=>fail_at (H1.out.below hb) 400 400 rfl);obtain ⟨iF,hi,hz0,hz1,hz2⟩:=info_parts field_info;have I1:=BN hi;have I2:=BN hz0;have I3:=BN hz1;have I4:=BN hz2;clear hi hz0 hz1 hz2 HP;rcases hpar:Fd.parse (Fd.clOf p) x.data.toList with _ | _ | ⟨n,vv⟩
   ·have e:fieldV p s.lines s.r.fs x.data.toList most=.inl 400:=by unfold fieldV;rw [if_neg hm,if_neg hj,hpar]
    rw [e];rw [hpar] at hp;simp only [Fd.rv,Fd.fv] at hp;have HP:=BN hp;clear e hpar hp hm hj hnn;rcases hgt with hg | ⟨hg,t1⟩
    ·exact XXv0S
    ·exact XXv0S
   ·have e:fieldV p s.lines s.r.fs x.data.toList most=.inr s.r.fs:=by unfold fieldV;rw [if_neg hm,if_neg hj,hpar]
    rw [e];rw [hpar] at hp;simp only [Fd.rv,Fd.fv] at hp;have HP:=BN hp;clear e hpar hp hm hj hnn;rcases hgt with hg | ⟨hg,t1⟩
    ·rw [hg] at hgo;have HGo:=BN hgo;clear hgo hg;go_enter Tryz.func192,Tryz.ntmps192;go_upto_region 5 with fail
     generalize w.setCell ⟨g,20,none⟩ (ZZ ZS ((s.lines:Int)+1))=W1 at *;clear c20 z20 a1 a2 t0;have c0:=H1.out.cs.c0
     go_wp2_with (first
      |(go_at_call 91;with_reducible refine (HP.out _).mono ?_;rintro r w3 ⟨rfl,hb3⟩
        have HB3:=BN hb3;clear hb3)
      |(go_at_call 215;with_reducible refine Cm (HGo.out _) ?_))
     exact XXvfE
    ·rw [hg] at hgo;have HGo:=BN hgo;clear hgo hg;go_enter Tryz.func192,Tryz.ntmps192;go_upto_region 5 with fail
     generalize w.setCell ⟨g,20,none⟩ (ZZ ZS ((s.lines:Int)+1))=W1 at *;clear c20 z20 a1 a2 t0;have c0:=H1.out.cs.c0
     go_wp2_with (first
      |(go_at_call 91;with_reducible refine (HP.out _).mono ?_;rintro r w3 ⟨rfl,hb3⟩
        have HB3:=BN hb3;clear hb3)
      |(go_at_call 215;with_reducible refine Cm (HGo.out _) ?_))
     exact XXvfE
   ·have e:fieldV p s.lines s.r.fs x.data.toList most=.inr (s.r.fs ++ [(ba n,ba vv)]):=by unfold fieldV;rw [if_neg hm,if_neg hj,hpar]
    rw [e];rw [hpar] at hp;simp only [Fd.rv,Fd.fv] at hp;have HP:=BN hp;clear e hpar hp hm hj hnn;rcases hgt with hg | ⟨hg,t1⟩
    ·exact XXmNg
    ·exact XXmNg
theorem XXkL9 {P:Prop} (h:P:=by
 rw [hg] at hgo;have HGo:=BN hgo;clear hgo hg;go_enter Tryz.func192,Tryz.ntmps192;go_upto_region 5 with fail
 generalize w.setCell ⟨g,20,none⟩ (ZZ ZS ((s.lines:Int)+1))=W1 at *;clear c20 z20 a1 a2 t0;have c0:=H1.out.cs.c0
 go_wp2_with (first
  |(at_builtin;refine App.wpList_append_list _ rfl _ _ 46 rfl B 126 iF (.agg #[.string AG,.string AG]) 2 32 Tryz.underlying46 I1.out I2.out I3.out I4.out rfl (by decide) (.slice bo s.r.ts.length co) s.r.ts.length (cells s.r.ts) rfl ((H1.out.below (HB3.out.alloc HB3.out.size (.cells #[.string (ba n),.string (ba vv)] 126))).own.T.alloc (.cells #[.string (ba n),.string (ba vv)] 126)) (some ⟨w3.heap.size+1,0,none⟩) 1 1 [.string (ba n),.string (ba vv)] rfl rfl (λ_=>⟨w3.heap.size+1,0,rfl,λj u hu=>by rw [DB];exact (Em (w3.alloc (.cells #[.string (ba n),.string (ba vv)] 126)) (w3.heap.size+1) (by simp) 126 [.string (ba n),.string (ba vv)]).c j u hu⟩) (by intro u hu;rcases (by simpa using hu:u=.string (ba n)∨u=.string (ba vv)) with rfl | rfl<;>rfl) (by have:=HLEN.out;unfold maxLen;omega) (by have:=HLEN.out;omega) (by have:=(H1.out.below (HB3.out.alloc HB3.out.size (.cells #[.string (ba n),.string (ba vv)] 126))).own.lt;have:=H1.out.own.ge;simp at *;omega) ?_;intro v2 w5 hO5 hgr5 _ hor5;have HO5:=BN hO5;have HG5:=BN hgr5;have HR5:=BN hor5;clear hO5 hgr5 hor5)
  |(go_at_call 91;with_reducible refine (HP.out _).mono ?_;rintro r w3 ⟨rfl,hb3⟩
    have HB3:=BN hb3;clear hb3)
  |(go_at_call 215;with_reducible refine Cm (HGo.out _) ?_))
 go_ret
 have hb4:=(HB3.out.alloc HB3.out.size (.cells #[ZY (ba n),ZY (ba vv)] 126))
 have hb5:=hb4.alloc hb4.size (.cells #[ZY (ba n),ZY (ba vv)] 126);have h4:=H1.out.below hb5;have hl:(s.r.ts ++ [(ba n,ba vv)]).length=s.r.ts.length+1:=by simp
 have hk5:Keeps [(Value.slice bo s.r.ts.length co).ownBlock] ((w3.alloc (.cells #[ZY (ba n),ZY (ba vv)] 126)).alloc (.cells #[ZY (ba n),ZY (ba vv)] 126)) w5:=Keeps.grown HG5.out λk e=>by rw [e];exact Dc.2 rfl
 obtain ⟨ho5,hs5⟩:=h4.own.setT (t':=v2) (ts':=s.r.ts ++ [(ba n,ba vv)]) hk5 (by rw [hl,cells_append];exact HO5.out) (by
  rcases HR5.out with e | e
  ·exact .inl e
  ·exact .inr ⟨_,e,D5 _⟩)
 have hrow:w5.heap[g]?= _:=hk5.row h4.row (λhm=>by
  have e:some g=(Value.slice bo s.r.ts.length co).ownBlock:=by simpa using hm
  exact h4.own.lone.ne (i:=0) (j:=5) rfl (by decide) (by rw [e];rfl))
 exact ⟨_,rfl,hrow,ho5,HS1.out.trans ((EH hb5).trans hs5)⟩):P:=h
theorem fieldT_any (hp:p<4294967296) (x:ByteArray) (hx:x.size<=5000) (most:Int) (h:PR w B g q v f bd t o p b s) (hl:s.lines<=1000) (hsz:∀y∈s.r.ts,y.1.size<=1000000/\y.2.size<=1000000) (hlen:s.r.ts.length<=500) :
 Calls Gq 192 #[ptr g,t,ZY x,ZZ ZS most] w λr w'=>
  match fieldV p s.lines s.r.ts x.data.toList most with
  | .inl e=>r=.returned nil/\PR w' B g q v nil nil nil o p b (S.fail {s with lines:=s.lines+1} e)/\Step (blks g q v f bd t o) (blks g q v nil nil nil o) w w'
  | .inr l=>∃t',r=.returned t'/\w'.heap[g]?=some (.cells (pcells p b {s with lines:=s.lines+1} q f bd t o).toArray 60 (0,0))/\Own w' B g q v f bd t' o p s.rd s.r.fs s.r.body l s.out/\Step (blks g q v f bd t o) (blks g q v f bd t' o) w w':=by
 obtain ⟨a1,a2⟩:=Et ((s.lines:Int)+1) ⟨by omega,by omega⟩
 have H1:=BN (h.put 20 (ZZ ZS ((s.lines:Int)+1)) {s with lines:=s.lines+1} rfl rfl rfl rfl rfl rfl)
 have HS1:=BN (EJ (w:=w) (L:=blks g q v f bd t o) g 20 (ZZ ZS ((s.lines:Int)+1)) (by simp));have c20:=h.cs.c20;have z20:=h.marks 20;have HSZ:=BN hsz;have HLEN:=BN hlen;clear hsz hlen
 by_cases hm:most<((s.lines+1:Nat):Int)
 ·have e:fieldV p s.lines s.r.ts x.data.toList most=.inl 431:=by unfold fieldV;rw [if_pos hm]
  exact XXDlw
 ·have t0:¬most<(s.lines:Int)+1:=by omega
  obtain ⟨bo,co,eo, -⟩:=Dw h.own.T;have hgo:=λw=>Fd.rgoes_any x p hp w
  have HP:=BN (λw=>Fd.rparse_any x p hp w (by omega));have HSZx:=BN hx;have hnn:(s.r.ts.length:Int)<=500:=by have:=HLEN.out;omega
  subst eo;clear h hl hx;by_cases hj:(Fd.goes p x.data.toList && !s.r.ts.isEmpty)=true
  ·simp only [As,A7,List.isEmpty_eq_false_iff] at hj;obtain ⟨hg,hne⟩:=hj;rw [hg] at hgo;have HGo:=BN hgo;obtain ⟨ini,last,el⟩:∃ini last,s.r.ts=ini ++ [last]:=⟨_,_,(List.dropLast_concat_getLast hne).symm⟩;have hn1:s.r.ts.length=ini.length+1:=by rw [el];simp
   have e:fieldV p s.lines s.r.ts x.data.toList most=.inr (ini ++ [joinF last x.data.toList]):=by exact XXTMq
   rw [e]
   obtain ⟨gf,cf,hform,hgl,hgf⟩:=H1.out.own.T.form (by show 0<s.r.ts.length;omega);simp only [Value.slice.injEq,true_and] at hform;obtain ⟨rfl,rfl⟩:=hform
   have hq0:=(H1.out.own.T.cellAt (ini.length*2) (by show ini.length*2<s.r.ts.length*2;omega)).trans (show (cells s.r.ts)[ini.length*2]?=some (ZY last.1) by rw [el];exact (cells_last ini last).1)
   have hq1:=(H1.out.own.T.cellAt (ini.length*2+1) (by show ini.length*2+1<s.r.ts.length*2;omega)).trans (show (cells s.r.ts)[ini.length*2+1]?=some (ZY last.2) by rw [el];exact (cells_last ini last).2)
   have hz0:=H1.out.own.T.frozenAt (ini.length*2);have hz1:=H1.out.own.T.frozenAt (ini.length*2+1)
   have HJ:=BN (show∀w,Calls Gq 216 #[ZU #[ZY last.1,ZY last.2],ZY x] w λe w'=>e=.returned (ZU #[ZY last.1,ZY (ba (Fd.joined last.2.data.toList x.data.toList))])/\Below w.heap.size w w' from
    λw=>Fd.rjoin_any last.1 last.2 x w (by have:=HSZx.out;omega) (by have:=(HSZ.out last (by rw [el];simp)).2;omega))
   obtain ⟨k,hk⟩:∃k,ini.length=k:=⟨_,rfl⟩;have HK:=BN hk;rw [hk] at hn1 hq0 hq1 hz0 hz1;have t1:(0:Int)<(s.r.ts.length:Int):=by omega
   have i1:(k:Int)<(s.r.ts.length:Int):=by omega
   obtain ⟨b1,b2⟩:=Et ((s.r.ts.length:Int)-1) ⟨by omega,by omega⟩;have b3:(s.r.ts.length:Int)-1=(k:Int):=by omega
   rw [b3] at b1 b2;have HEL:=BN el;have HN1:=BN hn1;have HGL:=BN hgl;have HQ0:=BN hq0;have HQ1:=BN hq1;have HGF:=BN hgf;have HZ0:=BN hz0;have HZ1:=BN hz1;clear hne e hk hnn el hn1 hg hgo hm hgl;go_enter Tryz.func192,Tryz.ntmps192;go_upto_region 5 with fail
   generalize w.setCell ⟨g,20,none⟩ (ZZ ZS ((s.lines:Int)+1))=W1 at *;clear c20 z20 a1 a2 t0;have c0:=H1.out.cs.c0
   go_wp2_with (first
    |(go_at_call 216;with_reducible refine (HJ.out _).mono ?_;rintro r w3 ⟨rfl,hb3⟩
      have HB3:=BN hb3;have y0:=(hb3.cell (p:=⟨gf,k*2,none⟩) HGF.out).trans HQ0.out;have y1:=(hb3.cell (p:=⟨gf,k*2+1,none⟩) HGF.out).trans HQ1.out;have x0:=(hb3.frozen (p:=⟨gf,k*2,none⟩) HGF.out).trans HZ0.out;have x1:=(hb3.frozen (p:=⟨gf,k*2+1,none⟩) HGF.out).trans HZ1.out;clear hb3)
    |(go_at_call 215;with_reducible refine Cm (HGo.out _) ?_))
   go_ret;have h3:=H1.out.below HB3.out;have ho:(Value.slice (some ⟨gf,0,none⟩) s.r.ts.length co).ownBlock=some gf:=by simp [Value.ownBlock]
   have hk3:Keeps [(Value.slice (some ⟨gf,0,none⟩) s.r.ts.length co).ownBlock] w3 ((w3.setCell ⟨gf,k*2,none⟩ (ZY last.1)).setCell ⟨gf,k*2+1,none⟩ (ZY (ba (Fd.joined last.2.data.toList x.data.toList)))):=
    (BF gf (k*2) _ (by rw [ho];simp)).trans (BF gf (k*2+1) _ (by rw [ho];simp)) DT
   have hl3:(ini ++ [joinF last x.data.toList]).length=s.r.ts.length:=by rw [HEL.out];simp
   have hr3:=((h3.own.T.stored (k*2) (ZY last.1)).1.stored (k*2+1) (ZY (ba (Fd.joined last.2.data.toList x.data.toList)))).1;exact XXKim
  ·have hgt:Fd.goes p x.data.toList=false∨Fd.goes p x.data.toList=true/\¬(0:Int)<(s.r.ts.length:Int):=by
    cases hg:Fd.goes p x.data.toList with
    | false=>exact .inl rfl
    | true=>
      refine .inr ⟨rfl,?_⟩;rw [hg] at hj;have:s.r.ts= []:=by simpa using hj
      rw [this];simp
   have hp:=λw=>Fd.rparse_any x p hp w (by have:=HSZx.out;omega)
   have HFA:=BN (λw2 (hb:Below (w.setCell ⟨g,20,none⟩ (ZZ ZS ((s.lines:Int)+1))).heap.size (w.setCell ⟨g,20,none⟩ (ZZ ZS ((s.lines:Int)+1))) w2)=>fail_at (H1.out.below hb) 400 400 rfl);obtain ⟨iF,hi,hz0,hz1,hz2⟩:=info_parts field_info;have I1:=BN hi;have I2:=BN hz0;have I3:=BN hz1;have I4:=BN hz2;clear hi hz0 hz1 hz2 HP;rcases hpar:Fd.parse (Fd.clOf p) x.data.toList with _ | _ | ⟨n,vv⟩
   ·have e:fieldV p s.lines s.r.ts x.data.toList most=.inl 400:=by unfold fieldV;rw [if_neg hm,if_neg hj,hpar]
    rw [e];rw [hpar] at hp;simp only [Fd.rv,Fd.fv] at hp;have HP:=BN hp;clear e hpar hp hm hj hnn;rcases hgt with hg | ⟨hg,t1⟩
    ·exact XXv0S
    ·exact XXv0S
   ·have e:fieldV p s.lines s.r.ts x.data.toList most=.inr s.r.ts:=by unfold fieldV;rw [if_neg hm,if_neg hj,hpar]
    rw [e];rw [hpar] at hp;simp only [Fd.rv,Fd.fv] at hp;have HP:=BN hp;clear e hpar hp hm hj hnn;rcases hgt with hg | ⟨hg,t1⟩
    ·rw [hg] at hgo;have HGo:=BN hgo;clear hgo hg;go_enter Tryz.func192,Tryz.ntmps192;go_upto_region 5 with fail
     generalize w.setCell ⟨g,20,none⟩ (ZZ ZS ((s.lines:Int)+1))=W1 at *;clear c20 z20 a1 a2 t0;have c0:=H1.out.cs.c0
     go_wp2_with (first
      |(go_at_call 91;with_reducible refine (HP.out _).mono ?_;rintro r w3 ⟨rfl,hb3⟩
        have HB3:=BN hb3;clear hb3)
      |(go_at_call 215;with_reducible refine Cm (HGo.out _) ?_))
     exact XXvfE
    ·rw [hg] at hgo;have HGo:=BN hgo;clear hgo hg;go_enter Tryz.func192,Tryz.ntmps192;go_upto_region 5 with fail
     generalize w.setCell ⟨g,20,none⟩ (ZZ ZS ((s.lines:Int)+1))=W1 at *;clear c20 z20 a1 a2 t0;have c0:=H1.out.cs.c0
     go_wp2_with (first
      |(go_at_call 91;with_reducible refine (HP.out _).mono ?_;rintro r w3 ⟨rfl,hb3⟩
        have HB3:=BN hb3;clear hb3)
      |(go_at_call 215;with_reducible refine Cm (HGo.out _) ?_))
     exact XXvfE
   ·have e:fieldV p s.lines s.r.ts x.data.toList most=.inr (s.r.ts ++ [(ba n,ba vv)]):=by unfold fieldV;rw [if_neg hm,if_neg hj,hpar]
    rw [e];rw [hpar] at hp;simp only [Fd.rv,Fd.fv] at hp;have HP:=BN hp;clear e hpar hp hm hj hnn;rcases hgt with hg | ⟨hg,t1⟩
    ·exact XXkL9
    ·exact XXkL9
end
end Go.Proofs.YtnabkcglnbdfeaaGreatDoor.Par
