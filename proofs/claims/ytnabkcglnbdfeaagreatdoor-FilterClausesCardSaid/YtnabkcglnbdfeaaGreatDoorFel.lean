import Derived.Test.YtnabkcglnbdfeaaGreatDoorFek
namespace Go.Proofs.YtnabkcglnbdfeaaGreatDoor.Rec
open Go.RowKit Base Txt
section code
set_option maxHeartbeats 1000000
theorem plainOf_any (V:Value) (r:R) (w:World) (h:Reads w V r):Calls Tryz.prog 180 #[V] w fun e w'=>e=.returned (.agg #[.string r.m,.string r.x,.int .i64 r.k,.bool r.ch])∧Below w.heap.size w w':=by obtain ⟨fa,fc,ba,bc,ta,tc,rfl,h1,h2,h3⟩:=h;clear h1 h2 h3;obtain ⟨m,x,k,fs,ch,body,ts⟩:=r;go_enter Tryz.func180,Tryz.ntmps180;go_wp2;refine bodyPost_ret (v:=.agg #[.string m,.string x,.int .i64 k,.bool ch]) (by simp [results,Tryz.results180,go_sem]) rfl ⟨rfl,?_⟩;exact ((Below.refl _ _).alloc (Nat.le_refl _) _).alloc (by simp) _
end code
def plainEq (a b:R):Bool:=decide (a.m=b.m)&&(decide (a.x=b.x)&&(decide (a.k=b.k)&&decide (a.ch=b.ch)))
theorem ba_list_inj {a b:List UInt8}:ba a=ba b↔a=b:=⟨fun h=>by have:=congrArg (fun x:ByteArray=>x.data.toList) h;simpa [ba] using this,fun h=>by rw [h]⟩
section code
set_option maxHeartbeats 1000000
theorem bytesEq_any (a:Option Addr) (n cap:Nat) (xs:List UInt8) (b:Option Addr) (m cap2:Nat) (ys:List UInt8) (w:World) (hx:Nums .u8 w a n (nums xs)) (hy:Nums .u8 w b m (nums ys)) :
 Calls Tryz.prog 182 #[.slice a n cap,.slice b m cap2] w fun e w'=>e=.returned (.bool (decide (xs=ys)))∧w'=w:=by
 have h1:=conv_str w a n cap xs hx;have h2:=conv_str w b m cap2 ys hy;have e:decide (xs=ys)=((ba xs).toList==(ba ys).toList):=by rw [ba_beq,Bool.eq_iff_iff,decide_eq_true_eq,decide_eq_true_eq,ba_list_inj]
 rw [e];clear e hx hy;go_enter Tryz.func182,Tryz.ntmps182;go_wp2;go_ret;exact ⟨rfl,rfl⟩
theorem same_parts (r r':R):(((plainEq r r'&&decide (r.fs=r'.fs))&&decide (r.body=r'.body))&&decide (r.ts=r'.ts))=same r r':=by unfold plainEq same;cases decide (r.m=r'.m)<;>cases decide (r.x=r'.x)<;>cases decide (r.k=r'.k)<;>cases decide (r.fs=r'.fs)<;>cases decide (r.ch=r'.ch)<;>simp
theorem same_any (V V':Value) (r r':R) (w:World) (h:Reads w V r) (h':Reads w V' r') (hf:Fit r) (hf':Fit r'):Calls Tryz.prog 154 #[V,V'] w fun e w'=>e=.returned (.bool (same r r'))∧Below w.heap.size w w':=by
 rw [←same_parts];have HF:=Lib.hid hf;have HF':=Lib.hid hf';have HV:=Lib.hid h;have HV':=Lib.hid h';obtain ⟨fa,fc,ba,bc,ta,tc,rfl,h1,h2,h3⟩:=h;obtain ⟨fa',fc',ba',bc',ta',tc',rfl,h1',h2',h3'⟩:=h';have H1:=Lib.hid h1;have H2:=Lib.hid h2;have H3:=Lib.hid h3;have H1':=Lib.hid h1';have H2':=Lib.hid h2';have H3':=Lib.hid h3';clear h1 h2 h3 h1' h2' h3';clear hf hf';go_enter Tryz.func154,Tryz.ntmps154;go_wp2_with fail
 have hbw0:=Lib.hid ((((Below.refl _ _).alloc (Nat.le_refl _) (.cells #[.string r.m,.string r.x,.int .i64 r.k,.slice fa r.fs.length fc,.bool r.ch,.slice ba r.body.length bc,.slice ta r.ts.length tc] 58)).alloc (by simp) (.cells #[.string r'.m,.string r'.x,.int .i64 r'.k,.slice fa' r'.fs.length fc',.bool r'.ch,.slice ba' r'.body.length bc',.slice ta' r'.ts.length tc'] 58)):Below w.heap.size w _)
 have hbw:=Lib.hid (Base.below_drewN hbw0.out 1)
 have HA:=Lib.hid (((Bk.new w w.heap.size rfl 58 [.string r.m,.string r.x,.int .i64 r.k,.slice fa r.fs.length fc,.bool r.ch,.slice ba r.body.length bc,.slice ta r.ts.length tc]).alloc (.cells #[.string r'.m,.string r'.x,.int .i64 r'.k,.slice fa' r'.fs.length fc',.bool r'.ch,.slice ba' r'.body.length bc',.slice ta' r'.ts.length tc'] 58)).drew 1)
 have HB:=Lib.hid ((Bk.new (w.alloc (.cells #[.string r.m,.string r.x,.int .i64 r.k,.slice fa r.fs.length fc,.bool r.ch,.slice ba r.body.length bc,.slice ta r.ts.length tc] 58)) (w.heap.size+1) (by simp) 58 [.string r'.m,.string r'.x,.int .i64 r'.k,.slice fa' r'.fs.length fc',.bool r'.ch,.slice ba' r'.body.length bc',.slice ta' r'.ts.length tc']).drew 1)
 have HR:=Lib.hid (HV.out.below hbw.out)
 have HR':=Lib.hid (HV'.out.below hbw.out)
 replace H1:=Lib.hid (H1.out.below hbw.out);replace H2:=Lib.hid (H2.out.below hbw.out);replace H3:=Lib.hid (H3.out.below hbw.out)
 replace H1':=Lib.hid (H1'.out.below hbw.out);replace H2':=Lib.hid (H2'.out.below hbw.out);replace H3':=Lib.hid (H3'.out.below hbw.out)
 clear HV HV';refine Each.region_all 27 [5,6,7,8,9,10,11,12,13,14,15,16,17,18,19,20,21,22,23,24,25,26,27,28,29,30,4]
  [fun v _=>v=.agg #[.string r.m,.string r.x,.int .i64 r.k,.slice fa r.fs.length fc,.bool r.ch,.slice ba r.body.length bc,.slice ta r.ts.length tc],
    fun v _=>v=.agg #[.string r.m,.string r.x,.int .i64 r.k,.bool r.ch],
    fun v _=>v=.agg #[.string r'.m,.string r'.x,.int .i64 r'.k,.slice fa' r'.fs.length fc',.bool r'.ch,.slice ba' r'.body.length bc',.slice ta' r'.ts.length tc'],
    fun v _=>v=.agg #[.string r'.m,.string r'.x,.int .i64 r'.k,.bool r'.ch],
    fun v _=>v=.bool (plainEq r r'),
    fun v _=>v=.bool (plainEq r r'),
    Each.When (plainEq r r') true (fun v _=>v=.pointer (some ⟨w.heap.size,3,none⟩)),
    Each.When (plainEq r r') true (fun v _=>v=.slice fa r.fs.length fc),
    Each.When (plainEq r r') true (fun v _=>v=.pointer (some ⟨w.heap.size+1,3,none⟩)),
    Each.When (plainEq r r') true (fun v _=>v=.slice fa' r'.fs.length fc'),
    Each.When (plainEq r r') true (fun v _=>v=.bool (decide (r.fs=r'.fs))),
    fun v _=>v=.bool ((plainEq r r'&&decide (r.fs=r'.fs))),
    fun v _=>v=.bool ((plainEq r r'&&decide (r.fs=r'.fs))),
    Each.When ((plainEq r r'&&decide (r.fs=r'.fs))) true (fun v _=>v=.pointer (some ⟨w.heap.size,5,none⟩)),
    Each.When ((plainEq r r'&&decide (r.fs=r'.fs))) true (fun v _=>v=.slice ba r.body.length bc),
    Each.When ((plainEq r r'&&decide (r.fs=r'.fs))) true (fun v _=>v=.pointer (some ⟨w.heap.size+1,5,none⟩)),
    Each.When ((plainEq r r'&&decide (r.fs=r'.fs))) true (fun v _=>v=.slice ba' r'.body.length bc'),
    Each.When ((plainEq r r'&&decide (r.fs=r'.fs))) true (fun v _=>v=.bool (decide (r.body=r'.body))),
    fun v _=>v=.bool (((plainEq r r'&&decide (r.fs=r'.fs))&&decide (r.body=r'.body))),
    fun v _=>v=.bool (((plainEq r r'&&decide (r.fs=r'.fs))&&decide (r.body=r'.body))),
    Each.When (((plainEq r r'&&decide (r.fs=r'.fs))&&decide (r.body=r'.body))) true (fun v _=>v=.pointer (some ⟨w.heap.size,6,none⟩)),
    Each.When (((plainEq r r'&&decide (r.fs=r'.fs))&&decide (r.body=r'.body))) true (fun v _=>v=.slice ta r.ts.length tc),
    Each.When (((plainEq r r'&&decide (r.fs=r'.fs))&&decide (r.body=r'.body))) true (fun v _=>v=.pointer (some ⟨w.heap.size+1,6,none⟩)),
    Each.When (((plainEq r r'&&decide (r.fs=r'.fs))&&decide (r.body=r'.body))) true (fun v _=>v=.slice ta' r'.ts.length tc'),
    Each.When (((plainEq r r'&&decide (r.fs=r'.fs))&&decide (r.body=r'.body))) true (fun v _=>v=.bool (decide (r.ts=r'.ts))),
    fun v _=>v=.bool ((((plainEq r r'&&decide (r.fs=r'.fs))&&decide (r.body=r'.body))&&decide (r.ts=r'.ts))),
    fun v _=>v=.bool ((((plainEq r r'&&decide (r.fs=r'.fs))&&decide (r.body=r'.body))&&decide (r.ts=r'.ts)))]
   (by kernel_rfl) (by kernel_rfl) (by kernel_rfl) (by kernel_rfl) (fun _ _ d _ _ h=>by cases d<;>exact h) (by rfl) (by rfl)
  ⟨Each.Lasts.eq _,Each.Lasts.eq _,Each.Lasts.eq _,Each.Lasts.eq _,Each.Lasts.eq _,Each.Lasts.eq _,Each.Lasts.when (Each.Lasts.eq _),Each.Lasts.when (Each.Lasts.eq _),Each.Lasts.when (Each.Lasts.eq _),Each.Lasts.when (Each.Lasts.eq _),Each.Lasts.when (Each.Lasts.eq _),Each.Lasts.eq _,Each.Lasts.eq _,Each.Lasts.when (Each.Lasts.eq _),Each.Lasts.when (Each.Lasts.eq _),Each.Lasts.when (Each.Lasts.eq _),Each.Lasts.when (Each.Lasts.eq _),Each.Lasts.when (Each.Lasts.eq _),Each.Lasts.eq _,Each.Lasts.eq _,Each.Lasts.when (Each.Lasts.eq _),Each.Lasts.when (Each.Lasts.eq _),Each.Lasts.when (Each.Lasts.eq _),Each.Lasts.when (Each.Lasts.eq _),Each.Lasts.when (Each.Lasts.eq _),Each.Lasts.eq _,Each.Lasts.eq _,trivial⟩ ?_ ?_
 ·refine ⟨?_,?_,?_,?_,?_,?_,?_,?_,?_,?_,?_,?_,?_,?_,?_,?_,?_,?_,?_,?_,?_,?_,?_,?_,?_,?_,?_,trivial⟩
  ·refine Each.fine rfl (fun ev w1 hR hb hh=>?_);clear hh;have e2:=hR.old 2 rfl;simp only [Array.getD_eq_getD_getElem?,List.getElem?_toArray,List.getElem?_cons_succ,List.getElem?_cons_zero,Option.getD_some] at e2;have q0:=(HA.out.below hb).c 0 _ rfl;have q1:=(HA.out.below hb).c 1 _ rfl;have q2:=(HA.out.below hb).c 2 _ rfl;have q3:=(HA.out.below hb).c 3 _ rfl;have q4:=(HA.out.below hb).c 4 _ rfl;have q5:=(HA.out.below hb).c 5 _ rfl;have q6:=(HA.out.below hb).c 6 _ rfl;refine Each.Goes.same ?_;go_simp;try with_reducible rfl
  ·refine Each.fine rfl (fun ev w1 hR hb hh=>?_);have e5:(ev (.tmp 5)=.agg #[.string r.m,.string r.x,.int .i64 r.k,.slice fa r.fs.length fc,.bool r.ch,.slice ba r.body.length bc,.slice ta r.ts.length tc]):=hh.at 0;clear hh;have ef:=hR.func
   refine Each.Goes.enter 180 #[.agg #[.string r.m,.string r.x,.int .i64 r.k,.slice fa r.fs.length fc,.bool r.ch,.slice ba r.body.length bc,.slice ta r.ts.length tc]] (by go_simp) (((plainOf_any _ _ w1 (HR.out.below hb))).mono ?_);rintro e w2 ⟨rfl,hb2⟩;exact ⟨_,rfl,hb2,rfl⟩
  ·refine Each.fine rfl (fun ev w1 hR hb hh=>?_);clear hh;have e3:=hR.old 3 rfl;simp only [Array.getD_eq_getD_getElem?,List.getElem?_toArray,List.getElem?_cons_succ,List.getElem?_cons_zero,Option.getD_some] at e3;have q0:=(HB.out.below hb).c 0 _ rfl;have q1:=(HB.out.below hb).c 1 _ rfl;have q2:=(HB.out.below hb).c 2 _ rfl;have q3:=(HB.out.below hb).c 3 _ rfl;have q4:=(HB.out.below hb).c 4 _ rfl;have q5:=(HB.out.below hb).c 5 _ rfl;have q6:=(HB.out.below hb).c 6 _ rfl;refine Each.Goes.same ?_;go_simp;try with_reducible rfl
  ·refine Each.fine rfl (fun ev w1 hR hb hh=>?_);have e7:(ev (.tmp 7)=.agg #[.string r'.m,.string r'.x,.int .i64 r'.k,.slice fa' r'.fs.length fc',.bool r'.ch,.slice ba' r'.body.length bc',.slice ta' r'.ts.length tc']):=hh.at 0;clear hh;have ef:=hR.func
   refine Each.Goes.enter 180 #[.agg #[.string r'.m,.string r'.x,.int .i64 r'.k,.slice fa' r'.fs.length fc',.bool r'.ch,.slice ba' r'.body.length bc',.slice ta' r'.ts.length tc']] (by go_simp) (((plainOf_any _ _ w1 (HR'.out.below hb))).mono ?_);rintro e w2 ⟨rfl,hb2⟩;exact ⟨_,rfl,hb2,rfl⟩
  ·refine Each.fine rfl (fun ev w1 hR hb hh=>?_);have e6:(ev (.tmp 6)=.agg #[.string r.m,.string r.x,.int .i64 r.k,.bool r.ch]):=hh.at 0;have e8:(ev (.tmp 8)=.agg #[.string r'.m,.string r'.x,.int .i64 r'.k,.bool r'.ch]):=hh.at 1;clear hh;refine Each.Goes.same ?_;go_simp;unfold plainEq;by_cases g1:r.m=r'.m<;>by_cases g2:r.x=r'.x<;>by_cases g3:r.k=r'.k<;>by_cases g4:r.ch=r'.ch<;>simp [g1,g2,g3,g4,toList_iff]
  ·refine Each.fine rfl (fun ev w1 hR hb hh=>?_);have e9:(ev (.tmp 9)=.bool (plainEq r r')):=hh.at 0;clear hh;refine Each.Goes.same ?_;go_simp;try with_reducible rfl
  ·refine Each.fine_when 5 10 rfl rfl (fun ev w1 hh=>?_) (fun hg ev w1 hR hb hh=>?_)
   ·exact hh.at 0
   ·clear hh;have e2:=hR.old 2 rfl;simp only [Array.getD_eq_getD_getElem?,List.getElem?_toArray,List.getElem?_cons_succ,List.getElem?_cons_zero,Option.getD_some] at e2;refine Each.Goes.same ?_;go_simp;try with_reducible rfl
  ·refine Each.fine_when 5 10 rfl rfl (fun ev w1 hh=>?_) (fun hg ev w1 hR hb hh=>?_)
   ·exact hh.at 1
   ·have e11:=(show ((plainEq r r')=true→ev (.tmp 11)=.pointer (some ⟨w.heap.size,3,none⟩)) from hh.at 0) hg;clear hh;have q3:=(HA.out.below hb).c 3 _ rfl;refine Each.Goes.same ?_;go_simp;try with_reducible rfl
  ·refine Each.fine_when 5 10 rfl rfl (fun ev w1 hh=>?_) (fun hg ev w1 hR hb hh=>?_)
   ·exact hh.at 0
   ·clear hh;have e3:=hR.old 3 rfl;simp only [Array.getD_eq_getD_getElem?,List.getElem?_toArray,List.getElem?_cons_succ,List.getElem?_cons_zero,Option.getD_some] at e3;refine Each.Goes.same ?_;go_simp;try with_reducible rfl
  ·refine Each.fine_when 5 10 rfl rfl (fun ev w1 hh=>?_) (fun hg ev w1 hR hb hh=>?_)
   ·exact hh.at 1
   ·have e13:=(show ((plainEq r r')=true→ev (.tmp 13)=.pointer (some ⟨w.heap.size+1,3,none⟩)) from hh.at 0) hg;clear hh;have q3:=(HB.out.below hb).c 3 _ rfl;refine Each.Goes.same ?_;go_simp;try with_reducible rfl
  ·refine Each.fine_when 5 10 rfl rfl (fun ev w1 hh=>?_) (fun hg ev w1 hR hb hh=>?_)
   ·exact hh.at 2
   ·have e12:=(show ((plainEq r r')=true→ev (.tmp 12)=.slice fa r.fs.length fc) from hh.at 0) hg;have e14:=(show ((plainEq r r')=true→ev (.tmp 14)=.slice fa' r'.fs.length fc') from hh.at 1) hg;clear hh;have ef:=hR.func
    refine Each.Goes.enter 181 #[.slice fa r.fs.length fc,.slice fa' r'.fs.length fc'] (by go_simp) (((fields_any fa _ fc _ fa' _ fc' _ w1 (H1.out.below hb) (H1'.out.below hb) (by have:=HF.out.fs;omega) (by have:=HF'.out.fs;omega))).mono ?_);rintro e w2 ⟨rfl,q,hb2⟩;exact ⟨_,rfl,(by subst hb2;exact Base.below_drewN (Below.refl _ _) _),rfl⟩
  ·refine Each.fine rfl (fun ev w1 hR hb hh=>?_);have e10:(ev (.tmp 10)=.bool (plainEq r r')):=hh.at 0;have h15:((plainEq r r')=true→ev (.tmp 15)=.bool (decide (r.fs=r'.fs))):=hh.at 1;clear hh;have ec:=hR.const;refine Each.Goes.same ?_;rcases Bool.eq_false_or_eq_true (plainEq r r') with hx | hx
   ·rw [hx] at e10 ⊢;have e15:=h15 hx;go_simp;try with_reducible rfl
   ·rw [hx] at e10 ⊢;go_simp;try with_reducible rfl
  ·refine Each.fine rfl (fun ev w1 hR hb hh=>?_);have e16:(ev (.tmp 16)=.bool ((plainEq r r'&&decide (r.fs=r'.fs)))):=hh.at 0;clear hh;refine Each.Goes.same ?_;go_simp;try with_reducible rfl
  ·refine Each.fine_when 12 17 rfl rfl (fun ev w1 hh=>?_) (fun hg ev w1 hR hb hh=>?_)
   ·exact hh.at 0
   ·clear hh;have e2:=hR.old 2 rfl;simp only [Array.getD_eq_getD_getElem?,List.getElem?_toArray,List.getElem?_cons_succ,List.getElem?_cons_zero,Option.getD_some] at e2;refine Each.Goes.same ?_;go_simp;try with_reducible rfl
  ·refine Each.fine_when 12 17 rfl rfl (fun ev w1 hh=>?_) (fun hg ev w1 hR hb hh=>?_)
   ·exact hh.at 1
   ·have e18:=(show (((plainEq r r'&&decide (r.fs=r'.fs)))=true→ev (.tmp 18)=.pointer (some ⟨w.heap.size,5,none⟩)) from hh.at 0) hg;clear hh;have q5:=(HA.out.below hb).c 5 _ rfl;refine Each.Goes.same ?_;go_simp;try with_reducible rfl
  ·refine Each.fine_when 12 17 rfl rfl (fun ev w1 hh=>?_) (fun hg ev w1 hR hb hh=>?_)
   ·exact hh.at 0
   ·clear hh;have e3:=hR.old 3 rfl;simp only [Array.getD_eq_getD_getElem?,List.getElem?_toArray,List.getElem?_cons_succ,List.getElem?_cons_zero,Option.getD_some] at e3;refine Each.Goes.same ?_;go_simp;try with_reducible rfl
  ·refine Each.fine_when 12 17 rfl rfl (fun ev w1 hh=>?_) (fun hg ev w1 hR hb hh=>?_)
   ·exact hh.at 1
   ·have e20:=(show (((plainEq r r'&&decide (r.fs=r'.fs)))=true→ev (.tmp 20)=.pointer (some ⟨w.heap.size+1,5,none⟩)) from hh.at 0) hg;clear hh;have q5:=(HB.out.below hb).c 5 _ rfl;refine Each.Goes.same ?_;go_simp;try with_reducible rfl
  ·refine Each.fine_when 12 17 rfl rfl (fun ev w1 hh=>?_) (fun hg ev w1 hR hb hh=>?_)
   ·exact hh.at 2
   ·have e19:=(show (((plainEq r r'&&decide (r.fs=r'.fs)))=true→ev (.tmp 19)=.slice ba r.body.length bc) from hh.at 0) hg;have e21:=(show (((plainEq r r'&&decide (r.fs=r'.fs)))=true→ev (.tmp 21)=.slice ba' r'.body.length bc') from hh.at 1) hg;clear hh;have ef:=hR.func
    refine Each.Goes.enter 182 #[.slice ba r.body.length bc,.slice ba' r'.body.length bc'] (by go_simp) (((bytesEq_any ba _ bc _ ba' _ bc' _ w1 (H2.out.below hb) (H2'.out.below hb))).mono ?_);rintro e w2 ⟨rfl,hb2⟩;exact ⟨_,rfl,(by subst hb2;exact Below.refl _ _),rfl⟩
  ·refine Each.fine rfl (fun ev w1 hR hb hh=>?_);have e17:(ev (.tmp 17)=.bool ((plainEq r r'&&decide (r.fs=r'.fs)))):=hh.at 0;have h22:(((plainEq r r'&&decide (r.fs=r'.fs)))=true→ev (.tmp 22)=.bool (decide (r.body=r'.body))):=hh.at 1;clear hh;have ec:=hR.const;refine Each.Goes.same ?_;rcases Bool.eq_false_or_eq_true ((plainEq r r'&&decide (r.fs=r'.fs))) with hx | hx
   ·rw [hx] at e17 ⊢;have e22:=h22 hx;go_simp;try with_reducible rfl
   ·rw [hx] at e17 ⊢;go_simp;try with_reducible rfl
  ·refine Each.fine rfl (fun ev w1 hR hb hh=>?_);have e23:(ev (.tmp 23)=.bool (((plainEq r r'&&decide (r.fs=r'.fs))&&decide (r.body=r'.body)))):=hh.at 0;clear hh;refine Each.Goes.same ?_;go_simp;try with_reducible rfl
  ·refine Each.fine_when 19 24 rfl rfl (fun ev w1 hh=>?_) (fun hg ev w1 hR hb hh=>?_)
   ·exact hh.at 0
   ·clear hh;have e2:=hR.old 2 rfl;simp only [Array.getD_eq_getD_getElem?,List.getElem?_toArray,List.getElem?_cons_succ,List.getElem?_cons_zero,Option.getD_some] at e2;refine Each.Goes.same ?_;go_simp;try with_reducible rfl
  ·refine Each.fine_when 19 24 rfl rfl (fun ev w1 hh=>?_) (fun hg ev w1 hR hb hh=>?_)
   ·exact hh.at 1
   ·have e25:=(show ((((plainEq r r'&&decide (r.fs=r'.fs))&&decide (r.body=r'.body)))=true→ev (.tmp 25)=.pointer (some ⟨w.heap.size,6,none⟩)) from hh.at 0) hg;clear hh;have q6:=(HA.out.below hb).c 6 _ rfl;refine Each.Goes.same ?_;go_simp;try with_reducible rfl
  ·refine Each.fine_when 19 24 rfl rfl (fun ev w1 hh=>?_) (fun hg ev w1 hR hb hh=>?_)
   ·exact hh.at 0
   ·clear hh;have e3:=hR.old 3 rfl;simp only [Array.getD_eq_getD_getElem?,List.getElem?_toArray,List.getElem?_cons_succ,List.getElem?_cons_zero,Option.getD_some] at e3;refine Each.Goes.same ?_;go_simp;try with_reducible rfl
  ·refine Each.fine_when 19 24 rfl rfl (fun ev w1 hh=>?_) (fun hg ev w1 hR hb hh=>?_)
   ·exact hh.at 1
   ·have e27:=(show ((((plainEq r r'&&decide (r.fs=r'.fs))&&decide (r.body=r'.body)))=true→ev (.tmp 27)=.pointer (some ⟨w.heap.size+1,6,none⟩)) from hh.at 0) hg;clear hh;have q6:=(HB.out.below hb).c 6 _ rfl;refine Each.Goes.same ?_;go_simp;try with_reducible rfl
  ·refine Each.fine_when 19 24 rfl rfl (fun ev w1 hh=>?_) (fun hg ev w1 hR hb hh=>?_)
   ·exact hh.at 2
   ·have e26:=(show ((((plainEq r r'&&decide (r.fs=r'.fs))&&decide (r.body=r'.body)))=true→ev (.tmp 26)=.slice ta r.ts.length tc) from hh.at 0) hg;have e28:=(show ((((plainEq r r'&&decide (r.fs=r'.fs))&&decide (r.body=r'.body)))=true→ev (.tmp 28)=.slice ta' r'.ts.length tc') from hh.at 1) hg;clear hh;have ef:=hR.func
    refine Each.Goes.enter 181 #[.slice ta r.ts.length tc,.slice ta' r'.ts.length tc'] (by go_simp) (((fields_any ta _ tc _ ta' _ tc' _ w1 (H3.out.below hb) (H3'.out.below hb) (by have:=HF.out.ts;omega) (by have:=HF'.out.ts;omega))).mono ?_);rintro e w2 ⟨rfl,q,hb2⟩;exact ⟨_,rfl,(by subst hb2;exact Base.below_drewN (Below.refl _ _) _),rfl⟩
  ·refine Each.fine rfl (fun ev w1 hR hb hh=>?_);have e24:(ev (.tmp 24)=.bool (((plainEq r r'&&decide (r.fs=r'.fs))&&decide (r.body=r'.body)))):=hh.at 0;have h29:((((plainEq r r'&&decide (r.fs=r'.fs))&&decide (r.body=r'.body)))=true→ev (.tmp 29)=.bool (decide (r.ts=r'.ts))):=hh.at 1;clear hh;have ec:=hR.const;refine Each.Goes.same ?_;rcases Bool.eq_false_or_eq_true (((plainEq r r'&&decide (r.fs=r'.fs))&&decide (r.body=r'.body))) with hx | hx
   ·rw [hx] at e24 ⊢;have e29:=h29 hx;go_simp;try with_reducible rfl
   ·rw [hx] at e24 ⊢;go_simp;try with_reducible rfl
  ·refine Each.fine rfl (fun ev w1 hR hb hh=>?_);have e30:(ev (.tmp 30)=.bool ((((plainEq r r'&&decide (r.fs=r'.fs))&&decide (r.body=r'.body))&&decide (r.ts=r'.ts)))):=hh.at 0;clear hh;refine Each.Goes.same ?_;go_simp;try with_reducible rfl
 intro g1 w2 hb hf;have z4:(g1 4=.bool ((((plainEq r r'&&decide (r.fs=r'.fs))&&decide (r.body=r'.body))&&decide (r.ts=r'.ts)))):=hf.at 26;clear hf;simp only [Each.putg,Act.put,List.setIfInBounds_toArray,List.set_cons_zero,List.set_cons_succ];rw [z4];go_wp2;go_ret;exact ⟨rfl,Base.below_step hbw0.out hb⟩
end code
end Go.Proofs.YtnabkcglnbdfeaaGreatDoor.Rec
namespace Go.Proofs.YtnabkcglnbdfeaaGreatDoor.Txt
open Go.RowKit Base Oct
theorem stands_isIn (set:ByteArray) (x:UInt8):stands set.data.toList (x.toNat:Int)=isIn set x:=by
 unfold stands isIn;rw [Bool.eq_iff_iff,List.any_eq_true,List.contains_iff_exists_mem_beq];constructor
 ·rintro ⟨b,hb,e⟩;exact ⟨b,hb,by rw [beq_iff_eq] at e ⊢;exact (UInt8.toNat_inj.1 (by omega)).symm⟩
 ·rintro ⟨b,hb,e⟩;rw [beq_iff_eq] at e;subst e;exact ⟨x,hb,by simp⟩
def Bytes (w:World) (g:Nat) (l:List UInt8):Prop:=∀j (h:j<l.length),w.cell? ⟨g,j,none⟩=some (.int .u8 (l[j].toNat:Int))∧w.frozen? ⟨g,j,none⟩=false
theorem Bytes.set {w:World} {g:Nat} {l:List UInt8} (h:Bytes w g l) (k:Nat) (b:UInt8):Bytes (w.setCell ⟨g,k,none⟩ (.int .u8 (b.toNat:Int))) g (l.set k b):=by
 intro j hj;rw [List.length_set] at hj;obtain ⟨c,z⟩:=h j hj;refine ⟨?_,by rw [World.frozen?_setCell];exact z⟩;by_cases e:k=j
 ·subst e;rw [World.cell?_setCell_same _ _ _ c,List.getElem_set_self]
 ·rw [World.cell?_setCell_other _ _ _ _ (by simp<;>omega),List.getElem_set_ne e];exact c
theorem conv_bytes (s:ByteArray) (w:World):∃W cap,(convert 9 22 (.string s)).run Tryz.prog w=.ok (.slice (some ⟨w.heap.size,0,none⟩) s.size cap) W∧Bytes W w.heap.size s.data.toList∧w.heap.size<W.heap.size∧Below w.heap.size w W:=by
 have hcv:=run_bytes_of_string (P:=Tryz.prog) w 9 22 5 s Tryz.underlying9 Tryz.underlying22 Tryz.underlying5;refine ⟨_,_,hcv,fun j hj=>?_,by simp,(Below.refl _ _).drew.alloc (Nat.le_refl _) _⟩;have hj':j<s.data.size:=by simpa using hj
 refine ⟨(World.cell?_alloc_mark w.drew _ _ _ j).trans (bytesRow_at s _ j hj'),(World.frozen?_alloc_mark w.drew _ _ _ _ j).trans ?_⟩;have:¬(bytesRow s (grownCap w s.size 0 5)).size≤j:=by unfold bytesRow;rw [Array.size_append,Array.size_map];omega
 simp [this]
theorem mix_put (l:List UInt8) (k:Nat) (h:k<l.length):(mix l k).set k (lowB l[k])=mix l (k+1):=by
 unfold mix low;rw [List.set_append_right _ _ (by simp;omega),List.take_succ_eq_append_getElem h,List.drop_eq_getElem_cons h];have:k-(List.map lowB (List.take k l)).length=0:=by simp;omega
 rw [this,List.set_cons_zero,List.map_append,List.append_assoc];rfl
theorem mix_get (l:List UInt8) (k:Nat) (h:k<l.length):(mix l k)[k]'(by rw [mix_length];exact h)=l[k]:=by
 unfold mix low;rw [List.getElem_append_right (by simp;omega)];have:k-(List.map lowB (List.take k l)).length=0:=by simp;omega
 simp only [this,List.getElem_drop,Nat.add_zero]
theorem mix_skip (l:List UInt8) (k:Nat) (h:k<l.length) (e:lowB l[k]=l[k]):mix l k=mix l (k+1):=by rw [←mix_put l k h,e,←mix_get l k h,List.set_getElem_self]
def tbytes:Value→Nat
 | .string t=>t.size
 | _=>0
section code
set_option maxHeartbeats 1000000
attribute [local go_sem] Base.some_undef
theorem rlower_any (s:ByteArray) (w:World) (hs:s.size≤1099511627776):Calls Tryz.prog 179 #[.string s] w fun e w'=>e=.returned (.string (lower s))∧Below w.heap.size w w':=by
 obtain ⟨W,cap,hcv,hB,hg,hb⟩:=conv_bytes s w
 have hB0:=Lib.hid (show Bytes W w.heap.size (mix s.data.toList 0) by rw [mix_zero];exact hB);have hb0:=Lib.hid hb;clear hB hb;go_enter Tryz.func179,Tryz.ntmps179;go_wp2;clear hcv;generalize hgw:w.heap.size=g at *;have HG:=Lib.hid hgw;clear hgw
 go_loopw [4] (fun i wr=>∃k:Nat,k≤s.size∧i=.int .i64 k∧Hid (Bytes wr g (mix s.data.toList k))∧Hid (Below g w wr)) (fun i _=>s.size-(intOf i).toNat)
 case atStart=>exact ⟨0,Nat.zero_le _,rfl,hB0,hb0⟩
 case round=>
  obtain ⟨k,hk,rfl,hB,hbr⟩:=hrel;rcases Nat.lt_or_ge k s.size with hlt | hge
  ·have hll:k<s.data.toList.length:=by rw [len];exact hlt
   obtain ⟨hc,hz⟩:=hB.out k (by rw [mix_length];exact hll);rw [mix_get _ _ hll] at hc;have i1:(k:Int)<(s.size:Int):=by omega
   have hb0:0≤(s.data.toList[k].toNat:Int):=by omega
   have hb1:=byte_lt s.data.toList[k];by_cases hx:65≤s.data.toList[k].toNat∧s.data.toList[k].toNat≤90
   ·obtain ⟨x0,x1⟩:=hx;have e0:=lowB_toNat s.data.toList[k];have e1:lowN (s.data.toList[k].toNat:Int)=(s.data.toList[k].toNat:Int)+32:=by unfold lowN;rw [if_pos (by omega)]
    have hset:=(hB.out.set k (lowB s.data.toList[k]));rw [mix_put _ _ hll,e0,e1] at hset;have HS:=Lib.hid hset;have y0:(65:Int)≤(s.data.toList[k].toNat:Int):=by omega
    have y1:(s.data.toList[k].toNat:Int)≤90:=by omega
    clear e0 e1 hset x0 x1;generalize (s.data.toList[k].toNat:Int)=x at *;have e2:IntKind.u8.wrap (x+32)=x+32:=by rw [IntKind.wrap_u8];omega
    go_wp2;go_roundw
    case rel=>exact ⟨k+1,by omega,by go_num,HS,Lib.hid (hbr.out.setCell (Nat.le_refl _) _)⟩
    case measure=>simp [intOf];omega
   ·have e0:lowB s.data.toList[k]=s.data.toList[k]:=by unfold lowB;rw [if_neg hx]
    have hB2:=hB.out;rw [mix_skip _ _ hll e0] at hB2;have HS:=Lib.hid hB2;clear hB2 e0;rcases Nat.lt_or_ge s.data.toList[k].toNat 65 with h | h
    ·have y0:¬(65:Int)≤(s.data.toList[k].toNat:Int):=by omega
     generalize (s.data.toList[k].toNat:Int)=x at *;go_wp2;go_roundw
     case rel=>exact ⟨k+1,by omega,by go_num,HS,hbr⟩
     case measure=>simp [intOf];omega
    ·have y0:(65:Int)≤(s.data.toList[k].toNat:Int):=by omega
     have y1:¬(s.data.toList[k].toNat:Int)≤90:=by omega
     generalize (s.data.toList[k].toNat:Int)=x at *;go_wp2;go_roundw
     case rel=>exact ⟨k+1,by omega,by go_num,HS,hbr⟩
     case measure=>simp [intOf];omega
  ·obtain rfl:k=s.size:=by omega
   have hconv:=run_convert_bytes_back (P:=Tryz.prog) wr 22 9 5 ⟨g,0,none⟩ cap (low s.data.toList) Tryz.underlying22 Tryz.underlying5 Tryz.underlying9 (fun j hj=>by
    have h1:=(hB.out j (by rw [mix_length];simpa [low] using hj)).1;have e:(⟨g,0,none⟩:Addr).add j=⟨g,j,none⟩:=by unfold Addr.add;by_cases h:j=0<;>simp [h]
    rw [e,h1]
    congr 4
    simp only [mix_all s.data.toList s.size (by rw [len];exact Nat.le_refl _)])
   have hl:(low s.data.toList).length=s.size:=by rw [low,List.length_map,len]
   rw [hl] at hconv;go_wp2;go_ret;exact ⟨rfl,by rw [HG.out];exact hbr.out⟩
theorem rsame_any (a b:ByteArray) (w:World) (ha:a.size≤1099511627776) (hb:b.size≤1099511627776):Calls Tryz.prog 151 #[.string a,.string b] w fun e w'=>e=.returned (.bool (same a b))∧Below w.heap.size w w':=by
 have h1:=Lib.hid (fun w=>rlower_any a w ha)
 have h2:=Lib.hid (fun w=>rlower_any b w hb);have hr:((lower a).toList==(lower b).toList)=same a b:=by rw [Lib.toList_data,Lib.toList_data];rfl
 generalize lower a=x at *;generalize lower b=y at *;go_enter Tryz.func151,Tryz.ntmps151
 go_wp2_with (first
  |(go_at_call 179;with_reducible refine (h1.out _).mono ?_;rintro e w1 ⟨rfl,hb1⟩)
  |(go_at_call 179;with_reducible refine (h2.out _).mono ?_;rintro e w2 ⟨rfl,hb2⟩))
 go_ret;exact ⟨by rw [←hr];rfl,Base.below_step hb1 hb2⟩
theorem first_of (t:ByteArray) (h:0<t.size):t.data.toList=t[0]::t.data.toList.drop 1∧(t.extract 1 t.size).data.toList=t.data.toList.drop 1∧t.toList.isEmpty=false:=by
 have hl:0<t.data.toList.length:=by rw [len];exact h
 have e:t.data.toList=t[0]::t.data.toList.drop 1:=by
  conv=>lhs;rw [←List.drop_zero (l:=t.data.toList),List.drop_eq_getElem_cons hl]
  rfl
 refine ⟨e,?_,?_⟩
 ·rw [Lib.extract_data,List.take_of_length_le (by rw [List.length_drop,len];exact Nat.le_refl _)]
 ·rw [Lib.toList_data,e];rfl
theorem last_of (t:ByteArray) (h:0<t.size):t.data.toList=t.data.toList.take (t.size-1) ++ [t[t.size-1]]∧(t.extract 0 (t.size-1)).data.toList=t.data.toList.take (t.size-1)∧t.toList.isEmpty=false:=by
 have e:=take_snoc t (t.size-1) (by omega);rw [show t.size-1+1=t.size by omega,take_all t _ (Nat.le_refl _)] at e;refine ⟨e,?_,?_⟩
 ·rw [Lib.extract_data,List.drop_zero,Nat.sub_zero]
 ·rw [Lib.toList_data];cases hl:t.data.toList with
  | nil=>exfalso;have h2:=len t;rw [hl,List.length_nil] at h2;omega
  | cons _ _=>rfl
theorem in_any (x:UInt8) (r:Bool) (set:ByteArray) (w:World) (ht:set.size≤maxLen) (hq:isIn set x=r):Calls Tryz.prog 197 #[.int .u8 x.toNat,.string set] w fun e w'=>e=.returned (.bool r)∧w'=w:=by have:=Oct.stands_any (x.toNat:Int) set w ht;rw [stands_isIn,hq] at this;exact this
theorem rtrimOf_any (s set:ByteArray) (w:World) (ht:set.size≤maxLen) (hs:s.size≤maxLen):Calls Tryz.prog 170 #[.string s,.string set] w fun e w'=>e=.returned (.string (trimOf s set))∧w'=w:=by
 unfold maxLen at hs;go_enter Tryz.func170,Tryz.ntmps170;go_wp2
 go_loop [0] (fun x=>∃t:ByteArray,x=.string t∧t.size≤s.size∧Hid (t.data.toList.dropWhile (isIn set)=s.data.toList.dropWhile (isIn set))) (fun x=>tbytes x)
 case atStart=>exact ⟨s,rfl,Nat.le_refl _,Lib.hid rfl⟩
 case round=>
  obtain ⟨t,rfl,hts,hdw⟩:=hrel;by_cases hgo:∃h:0<t.size,isIn set t[0]=true
  ·obtain ⟨h0,hq⟩:=hgo
   have HC:=Lib.hid (in_any t[0] true set w ht hq);obtain ⟨e1,e2,e3⟩:=first_of t h0
   have HD:=Lib.hid (show (t.extract 1 t.size).data.toList.dropWhile (isIn set)=s.data.toList.dropWhile (isIn set) by
    rw [←hdw.out,e2]
    conv=>rhs;rw [e1,List.dropWhile_cons,if_pos hq])
   have i0:t.toList.isEmpty=false:=e3;have i1:(1:Int)≤(t.size:Int):=by omega
   have i2:(t.size:Int)≤9223372036854775807:=by omega
   have hsz:(t.extract 1 t.size).size=t.size-1:=by rw [ByteArray.size_extract];omega
   clear e1 e2 e3 hq
   go_wp2_with (go_at_call 197;with_reducible refine HC.out.mono ?_;rintro e w' ⟨rfl,hw⟩;rw [hw];clear hw);go_round
   case rel=>exact ⟨_,rfl,by omega,HD⟩
   case measure=>simp [tbytes];omega
  ·have hst:t.data.toList.dropWhile (isIn set)=t.data.toList:=by
    rcases Nat.eq_zero_or_pos t.size with h0 | h0
    ·have:t.data.toList= []:=List.length_eq_zero_iff.1 (by rw [len];exact h0);rw [this];rfl
    ·obtain ⟨e1,_,_⟩:=first_of t h0;rw [e1];refine dropWhile_stop ?_;cases hq:isIn set t[0] with
     | false=>rfl
     | true=>exact absurd ⟨h0,hq⟩ hgo
   have hfin:=Lib.hid (show trimL (isIn set) s.data.toList=(t.data.toList.reverse.dropWhile (isIn set)).reverse by unfold trimL;rw [←hdw.out,hst])
   have hlast:=Lib.hid (show∀h:0<t.size,isIn set t[0]=false from fun h=>by
    cases hq:isIn set t[0] with
    | false=>rfl
    | true=>exact absurd ⟨h,hq⟩ hgo)
   clear hgo hst;rcases Nat.eq_zero_or_pos t.size with h0 | h0
   all_goals (first
    |(have i0:t.toList.isEmpty=false:=(first_of t h0).2.2
      have HC:=Lib.hid (in_any t[0] false set w ht (hlast.out h0))
      (go_wp2_with (go_at_call 197;with_reducible refine HC.out.mono ?_;rintro e w' ⟨rfl,hw⟩;rw [hw];clear hw)))
    |(have i0:t.toList.isEmpty=true:=by
       rw [Lib.toList_data,List.length_eq_zero_iff.1 (show t.data.toList.length=0 by rw [len];exact h0)];rfl
      go_wp2))
   all_goals
    clear i0
    go_loop [0] (fun x=>∃u:ByteArray,x=.string u∧u.size≤t.size∧Hid (u.data.toList.reverse.dropWhile (isIn set)=t.data.toList.reverse.dropWhile (isIn set))) (fun x=>tbytes x)
    case atStart=>exact ⟨t,rfl,Nat.le_refl _,Lib.hid rfl⟩
    case round=>
     obtain ⟨u,rfl,hus,hrv⟩:=hrel;rcases Nat.eq_zero_or_pos u.size with hu0 | hu0
     ·have e0:u.data.toList= []:=List.length_eq_zero_iff.1 (by rw [len];exact hu0);have i0:u.toList.isEmpty=true:=by rw [Lib.toList_data,e0];rfl
      have HF:=Lib.hid (show u=trimOf s set from ba_ext (by rw [trimOf,trimB_list,hfin.out,←hrv.out,e0];rfl))
      clear e0;go_wp2;go_ret;exact ⟨by rw [←HF.out];rfl,rfl⟩
     ·first
      |(exfalso;omega)
      |(
       obtain ⟨e1,e2,e3⟩:=last_of u hu0;have i0:u.toList.isEmpty=false:=e3;have i1:u.size-1<u.size:=by omega
       have i3:(u.size:Int)-1<(u.size:Int):=by omega
       have i4:0≤(u.size:Int)-1:=by omega
       have i5:IntKind.i64.wrap ((u.size:Int)-1)=(u.size:Int)-1:=wrap_in _ (by omega) (by omega);have i6:((u.size:Int)-1).toNat=u.size-1:=by omega
       have i7:(u.size:Int)-1≤(u.size:Int):=by omega
       cases hq:isIn set u[u.size-1] with
       | true=>
         have HC:=Lib.hid (in_any u[u.size-1] true set w ht hq)
         have HD:=Lib.hid (show (u.extract 0 (u.size-1)).data.toList.reverse.dropWhile (isIn set)=t.data.toList.reverse.dropWhile (isIn set) by
          rw [←hrv.out,e2]
          conv=>rhs;rw [e1,List.reverse_append,List.reverse_singleton,List.singleton_append,List.dropWhile_cons,if_pos hq])
         have hsz:(u.extract 0 (u.size-1)).size=u.size-1:=by rw [ByteArray.size_extract];omega
         clear e1 e2 e3 hq
         go_wp2_with (go_at_call 197;with_reducible refine HC.out.mono ?_;rintro e w' ⟨rfl,hw⟩;rw [hw];clear hw);go_round
         case rel=>exact ⟨_,rfl,by omega,HD⟩
         case measure=>simp [tbytes];omega
       | false=>
         have HC:=Lib.hid (in_any u[u.size-1] false set w ht hq)
         have HF:=Lib.hid (show u=trimOf s set from ba_ext (by rw [trimOf,trimB_list,hfin.out,←hrv.out,e1,List.reverse_append,List.reverse_singleton,List.singleton_append,dropWhile_stop hq];simp))
         clear e1 e2 e3 hq
         go_wp2_with (go_at_call 197;with_reducible refine HC.out.mono ?_;rintro e w' ⟨rfl,hw⟩;rw [hw];clear hw);go_ret;exact ⟨by rw [←HF.out];rfl,rfl⟩)
theorem rtrim_any (s:ByteArray) (w:World) (hs:s.size≤maxLen):Calls Tryz.prog 129 #[.string s] w fun e w'=>e=.returned (.string (trim s))∧w'=w:=by
 have h:=Lib.hid (rtrimOf_any s ⟨#[32,9]⟩ w (by decide) hs);have e:trimOf s ⟨#[32,9]⟩=trim s:=by
  unfold trimOf trim
  congr 1
  funext x
  simp only [isIn,blank,List.contains_cons,List.contains_nil,Bool.or_false]
 rw [e] at h;go_enter Tryz.func129,Tryz.ntmps129
 go_wp2_with (go_at_call 170;with_reducible refine h.out.mono ?_;rintro e w' ⟨rfl,rfl⟩);go_ret;exact ⟨rfl,rfl⟩
end code
end Go.Proofs.YtnabkcglnbdfeaaGreatDoor.Txt
namespace Go.Proofs.YtnabkcglnbdfeaaGreatDoor.Txt
open Go.RowKit Base Oct
def Part (c:UInt8) (l:List UInt8) (f k:Nat) (done:List (List UInt8)):Prop:=
 (k≤l.length∧f≤k∧parts c l=done++parts c (l.drop f)∧c∉(l.drop f).take (k-f))∨(k=l.length+1∧f=l.length+1∧parts c l=done)
section code
set_option maxHeartbeats 1000000
attribute [local go_sem] Base.some_undef
end code
end Go.Proofs.YtnabkcglnbdfeaaGreatDoor.Txt
namespace Go.Proofs.YtnabkcglnbdfeaaGreatDoor.Txt
open Go.RowKit Base Oct
section code
set_option maxHeartbeats 1000000
set_option maxRecDepth 10000
attribute [local go_sem] Base.some_undef
theorem rfind_any (a:Option Addr) (n cap:Nat) (fs:List Fld) (name:ByteArray) (w:World) (hv:Flds w a n fs) (hn:n≤1000000000) (hs:∀f∈fs,f.1.size≤1000000000) (ht:name.size≤1000000000) :
 Calls Tryz.prog 105 #[.slice a n cap,.string name] w fun e w'=>∃b m c,e=.returned (.slice b m c)∧m=(find fs name).length∧Strs w' b m (find fs name)∧Below w.heap.size w w':=by
 have HV:=Lib.hid hv;have HL:=Lib.hid hv.1;have HS:=Lib.hid hs;clear hv hs;obtain ⟨i0,hi,hz0,hz1,hz2⟩:=info_parts text_info;have G1:=Lib.hid hi;have G2:=Lib.hid hz0;have G3:=Lib.hid hz1;have G4:=Lib.hid hz2;clear hi hz0 hz1 hz2;go_enter Tryz.func105,Tryz.ntmps105;go_wp2
 go_loopw [5,6] (fun v i wr=>∃k:Nat,k≤n∧i=.int .i64 k∧Hid (wr.ownsRow w.heap.size 9 1 v (find (fs.take k) name).length ((find (fs.take k) name).map Value.string))∧Hid (Below w.heap.size w wr)) (fun _ i _=>n-(intOf i).toNat)
 case atStart=>exact ⟨0,Nat.zero_le _,rfl,Lib.hid ⟨rfl,.inl ⟨rfl,rfl⟩⟩,Lib.hid (Below.refl _ _)⟩
 case round=>
  obtain ⟨k,hk,rfl,hown,hbr⟩:=hrel;rcases Nat.lt_or_ge k n with hlt | hge
  ·obtain ⟨bl,off,rfl,hbl,hc⟩:=(HV.out.below hbr.out).2 (by omega);obtain ⟨hc0,hc1⟩:=hc k hlt
   have hsn:=Lib.hid (find_snoc fs name k (by rw [HL.out];exact hlt));have hfl:=find_le (fs.take k) name;rw [List.length_take] at hfl;have hsz:(fs[k]?.getD dflt).1.size≤1000000000:=by
    have:k<fs.length:=by rw [HL.out];exact hlt
    rw [List.getElem?_eq_getElem this]
    exact HS.out _ (List.getElem_mem _)
   clear hc;generalize fs[k]?.getD dflt=f at *;generalize hL:find (fs.take k) name=L at *;obtain ⟨f0,f1⟩:=f;simp only at hc0 hc1 hsz hsn
   have HC:=Lib.hid (fun w=>rsame_any f0 name w (by omega) (by omega));clear hsz hL;cases hq:same f0 name with
   | false=>
     rw [hq] at HC hsn;rw [if_neg (by decide),List.append_nil] at hsn;clear hq
     go_wp2_with (go_at_call 151;with_reducible refine (HC.out _).mono ?_;rintro e w2 ⟨rfl,hb2⟩);have hb0:Below wr.heap.size wr w2:=hb2
     have H2:Hid (w2.ownsRow w.heap.size 9 1 u5 (find (fs.take (k+1)) name).length ((find (fs.take (k+1)) name).map Value.string)):=Lib.hid (by rw [hsn.out];exact own_below hown.out hb0)
     have H3:=Lib.hid (Base.below_step hbr.out hb0);clear hown hb2 hb0;go_roundw
     case rel=>exact ⟨k+1,by omega,by go_num,H2,H3⟩
     case measure=>simp [intOf];omega
   | true=>
     rw [hq] at HC hsn;rw [if_pos rfl] at hsn;clear hq
     go_wp2_with (first
      |(go_at_call 151;with_reducible refine (HC.out _).mono ?_;rintro e w2 ⟨rfl,hb2⟩
        have hf1:=(hb2.cell (p:=⟨bl,off+k*2+1,none⟩) hbl).trans hc1
        have hb0:=Lib.hid (show Below wr.heap.size wr w2 from hb2)
        have hown0:=Lib.hid (own_below hown.out hb0.out))
      |(at_builtin;refine wpList_append_own _ rfl _ _ 87 rfl w.heap.size 9 i0 (.string ByteArray.empty) 1 16 Tryz.underlying87 G1.out G2.out G3.out G4.out rfl (by decide) _ _ _ rfl (hown0.out.alloc _) ⟨w2.heap.size,0,none⟩ 1 1 [.string f1] rfl rfl ?c1 ?c2 ?c3 ?c4 ?c5 ?_))
     case c1=>exact news_one w2 _ _
     case c2=>intro u hu;obtain rfl:u=.string f1:=by simpa using hu
              rfl
     case c3=>unfold maxLen;omega
     case c4=>omega
     case c5=>have:=hbr.out.size;have:=hb0.out.size;simp;omega
     intro v' w' hown' hgr _
     have H2:Hid (w'.ownsRow w.heap.size 9 1 v' (find (fs.take (k+1)) name).length ((find (fs.take (k+1)) name).map Value.string)):=Lib.hid (by rw [hsn.out];simpa using hown')
     have H3:=Lib.hid (((Base.below_step hbr.out hb0.out).alloc (by have:=hbr.out.size;have:=hb0.out.size;omega) _).grown hgr (by have:=hbr.out.size;have:=hb0.out.size;simp;omega) (own_base hown.out));clear hown' hgr hown hown0;go_wp2;go_roundw
     case rel=>exact ⟨k+1,by omega,by go_num,H2,H3⟩
     case measure=>simp [intOf];omega
  ·obtain rfl:k=n:=by omega
   have hown1:=hown.out;rw [List.take_of_length_le (by rw [HL.out];omega)] at hown1;obtain ⟨A,c,rfl,hA⟩:=Strs.of_own hown1;have HA:=Lib.hid hA;clear hown1 hA hown;go_wp2;go_ret;exact ⟨A,_,c,rfl,rfl,HA.out,hbr.out⟩
theorem one_snoc (names:List ByteArray) (s:ByteArray) (k:Nat) (h:k<names.length):one (names.take (k+1)) s=(one (names.take k) s||same (names[k]?.getD ByteArray.empty) s):=by rw [strs_snoc names k h];unfold one;simp
theorem one_hit (names:List ByteArray) (s:ByteArray) (k:Nat) (h:k<names.length) (hq:same (names[k]?.getD ByteArray.empty) s=true):one names s=true:=by unfold one;rw [List.any_eq_true];rw [List.getElem?_eq_getElem h] at hq;exact ⟨names[k],List.getElem_mem h,hq⟩
theorem rone_any (a:Option Addr) (n cap:Nat) (names:List ByteArray) (s:ByteArray) (w:World) (hv:Strs w a n names) (hn:n≤1000000000) (hs:∀x∈names,x.size≤1000000000) (ht:s.size≤1000000000) :
 Calls Tryz.prog 121 #[.slice a n cap,.string s] w fun e w'=>e=.returned (.bool (one names s))∧Below w.heap.size w w':=by
 have HV:=Lib.hid hv;have HL:=Lib.hid hv.1;have HS:=Lib.hid hs;clear hv hs;go_enter Tryz.func121,Tryz.ntmps121;go_wp2
 go_loopw [5] (fun i wr=>∃k:Nat,k≤n∧i=.int .i64 k∧Hid (one (names.take k) s=false)∧Hid (Below w.heap.size w wr)) (fun i _=>n-(intOf i).toNat)
 case atStart=>exact ⟨0,Nat.zero_le _,rfl,Lib.hid (by simp [one]),Lib.hid (Below.refl _ _)⟩
 case round=>
  obtain ⟨k,hk,rfl,hno,hbr⟩:=hrel;rcases Nat.lt_or_ge k n with hlt | hge
  ·obtain ⟨bl,off,rfl,hbl,hc⟩:=(HV.out.below hbr.out).2 (by omega);have hck:=hc k hlt;have hkl:k<names.length:=by rw [HL.out];exact hlt
   have hsn:=Lib.hid (one_snoc names s k hkl);have hsz:(names[k]?.getD ByteArray.empty).size≤1000000000:=by
    rw [List.getElem?_eq_getElem hkl]
    exact HS.out _ (List.getElem_mem _)
   have hhit:=Lib.hid (one_hit names s k hkl);clear hc hkl;generalize names[k]?.getD ByteArray.empty=x at *
   have HC:=Lib.hid (fun w=>rsame_any x s w (by omega) (by omega));cases hq:same x s with
   | true=>
     rw [hq] at HC
     have HH:=Lib.hid (hhit.out hq);clear hhit hq
     go_wp2_with (go_at_call 151;with_reducible refine (HC.out _).mono ?_;rintro e w2 ⟨rfl,hb2⟩);go_ret;exact ⟨by rw [HH.out];rfl,Base.below_step hbr.out hb2⟩
   | false=>
     rw [hq] at HC
     have HH:=Lib.hid (show one (names.take (k+1)) s=false by rw [hsn.out,hno.out,hq];rfl);clear hhit hq
     go_wp2_with (go_at_call 151;with_reducible refine (HC.out _).mono ?_;rintro e w2 ⟨rfl,hb2⟩);go_roundw
     case rel=>exact ⟨k+1,by omega,by go_num,HH,Lib.hid (Base.below_step hbr.out hb2)⟩
     case measure=>simp [intOf];omega
  ·obtain rfl:k=n:=by omega
   have hno':=hno.out;rw [List.take_of_length_le (by rw [HL.out];omega)] at hno';have HN:=Lib.hid hno';clear hno';go_wp2;go_ret;exact ⟨by rw [HN.out];rfl,hbr.out⟩
theorem without_snoc (fs:List Fld) (names:List ByteArray) (k:Nat) (h:k<fs.length):without (fs.take (k+1)) names=without (fs.take k) names++(if one names (fs[k]?.getD dflt).1=true then [] else [fs[k]?.getD dflt]):=by
 rw [flds_snoc fs k h];unfold without;rw [List.filter_append]
 congr 1
 generalize fs[k]?.getD dflt=f;by_cases hs:one names f.1=true<;>simp [hs]
theorem rwithout_own (a:Option Addr) (n cap:Nat) (fs:List Fld) (b:Option Addr) (m cap2:Nat) (names:List ByteArray) (w:World) (hv:Flds w a n fs) (hu:Strs w b m names) (hn:n≤1000000000) (hm:m≤1000000000)
 (hs:∀f∈fs,f.1.size≤1000000000) (ht:∀s∈names,s.size≤1000000000) :
 Calls Tryz.prog 104 #[.slice a n cap,.slice b m cap2] w fun e w'=>∃d k c,e=.returned (.slice d k c)∧k=(without fs names).length∧Flds w' d k (without fs names)∧Below w.heap.size w w'∧w'.ownsRow w.heap.size 126 2 (.slice d k c) k (cells (without fs names)):=by
 have HV:=Lib.hid hv;have HL:=Lib.hid hv.1;have HS:=Lib.hid hs;have HU:=Lib.hid hu;have HT:=Lib.hid ht;clear hv hs hu ht;obtain ⟨i0,hi,hz0,hz1,hz2⟩:=info_parts field_info;have G1:=Lib.hid hi;have G2:=Lib.hid hz0;have G3:=Lib.hid hz1;have G4:=Lib.hid hz2;clear hi hz0 hz1 hz2;go_enter Tryz.func104,Tryz.ntmps104;go_wp2
 go_loopw [5,6] (fun v i wr=>∃k:Nat,k≤n∧i=.int .i64 k∧Hid (wr.ownsRow w.heap.size 126 2 v (without (fs.take k) names).length (cells (without (fs.take k) names)))∧Hid (Below w.heap.size w wr)) (fun _ i _=>n-(intOf i).toNat)
 case atStart=>exact ⟨0,Nat.zero_le _,rfl,Lib.hid ⟨rfl,.inl ⟨rfl,rfl⟩⟩,Lib.hid (Below.refl _ _)⟩
 case round=>
  obtain ⟨k,hk,rfl,hown,hbr⟩:=hrel;rcases Nat.lt_or_ge k n with hlt | hge
  ·obtain ⟨bl,off,rfl,hbl,hc⟩:=(HV.out.below hbr.out).2 (by omega);obtain ⟨hc0,hc1⟩:=hc k hlt;have hkl:k<fs.length:=by rw [HL.out];exact hlt
   have hsn:=Lib.hid (without_snoc fs names k hkl);have hsz:(fs[k]?.getD dflt).1.size≤1000000000:=by
    rw [List.getElem?_eq_getElem hkl]
    exact HS.out _ (List.getElem_mem _)
   have hwl:(without (fs.take k) names).length≤k:=by have:=List.length_filter_le (fun f:Fld=>!one names f.1) (fs.take k);rw [List.length_take] at this;unfold without;omega
   clear hc hkl;generalize fs[k]?.getD dflt=f at *;generalize without (fs.take k) names=L at *;obtain ⟨f0,f1⟩:=f;simp only at hc0 hc1 hsz hsn
   have HUr:=Lib.hid (HU.out.below hbr.out)
   have HC:=Lib.hid (rone_any b m cap2 names f0 wr HUr.out hm HT.out hsz);clear hsz;cases hq:one names f0 with
   | true=>
     rw [hq] at HC hsn;rw [if_pos rfl,List.append_nil] at hsn;clear hq
     go_wp2_with (go_at_call 121;with_reducible refine HC.out.mono ?_;rintro e w2 ⟨rfl,hb2⟩)
     have H2:Hid (w2.ownsRow w.heap.size 126 2 u5 (without (fs.take (k+1)) names).length (cells (without (fs.take (k+1)) names))):=Lib.hid (by rw [hsn.out];exact own_below hown.out hb2)
     have H3:=Lib.hid (Base.below_step hbr.out hb2);clear hown hb2;go_roundw
     case rel=>exact ⟨k+1,by omega,by go_num,H2,H3⟩
     case measure=>simp [intOf];omega
   | false=>
     rw [hq] at HC hsn;rw [if_neg (by decide)] at hsn;clear hq
     go_wp2_with (first
      |(go_at_call 121;with_reducible refine HC.out.mono ?_;rintro e w2 ⟨rfl,hb2⟩
        have hf0:=(hb2.cell (p:=⟨bl,off+k*2,none⟩) hbl).trans hc0;have hf1:=(hb2.cell (p:=⟨bl,off+k*2+1,none⟩) hbl).trans hc1;have hb0:=Lib.hid hb2
        have hown0:=Lib.hid (own_below hown.out hb2))
      |(at_builtin;refine wpList_append_own _ rfl _ _ 46 rfl w.heap.size 126 i0 (.agg #[.string ByteArray.empty,.string ByteArray.empty]) 2 32 Tryz.underlying46 G1.out G2.out G3.out G4.out rfl (by decide) _ _ _ rfl (hown0.out.alloc _) ⟨w2.heap.size,0,none⟩ 1 1 [.string f0,.string f1] rfl rfl ?c1 ?c2 ?c3 ?c4 ?c5 ?_))
     case c1=>
      intro j u hu;have hj:j=0∨j=1:=by
       rcases Nat.lt_or_ge j 2 with h | h
       ·omega
       ·rw [List.getElem?_eq_none (by simpa using h)] at hu;cases hu
      have key:=cell_of_row (w2.alloc (.cells #[.string f0,.string f1] 126)) w2.heap.size j #[.string f0,.string f1] 126 (0,0) (heap_alloc_new w2 _);have e2:Addr.add ⟨w2.heap.size,0,none⟩ j=⟨w2.heap.size,j,none⟩:=by unfold Addr.add;rcases hj with rfl | rfl<;>simp
      rw [e2];refine key.trans ?_;rcases hj with rfl | rfl<;>simpa using hu
     case c2=>intro u hu;rcases (by simpa using hu:u=.string f0∨u=.string f1) with rfl | rfl<;>rfl
     case c3=>unfold maxLen;omega
     case c4=>omega
     case c5=>have:=hbr.out.size;have:=hb0.out.size;simp;omega
     intro v' w' hown' hgr _
     have H2:Hid (w'.ownsRow w.heap.size 126 2 v' (without (fs.take (k+1)) names).length (cells (without (fs.take (k+1)) names))):=Lib.hid (by rw [hsn.out,cells_snoc];simpa using hown')
     have H3:=Lib.hid (((Base.below_step hbr.out hb0.out).alloc (by have:=hbr.out.size;have:=hb0.out.size;omega) _).grown hgr (by have:=hbr.out.size;have:=hb0.out.size;simp;omega) (own_base hown.out));clear hown' hgr hown hown0;go_wp2;go_roundw
     case rel=>exact ⟨k+1,by omega,by go_num,H2,H3⟩
     case measure=>simp [intOf];omega
  ·obtain rfl:k=n:=by omega
   have hown1:=hown.out;rw [List.take_of_length_le (by rw [HL.out];omega)] at hown1;obtain ⟨A,c,rfl,hA⟩:=Flds.of_own hown1;have HA:=Lib.hid hA;have HO:=Lib.hid hown1;clear hown1 hA hown;go_wp2;go_ret;exact ⟨A,_,c,rfl,rfl,HA.out,hbr.out,HO.out⟩
end code
end Go.Proofs.YtnabkcglnbdfeaaGreatDoor.Txt
namespace Go.Proofs.YtnabkcglnbdfeaaGreatDoor.Rec
open Go.RowKit Base Txt
section code
set_option maxHeartbeats 1000000
attribute [local go_sem] Base.some_undef
theorem rsame_any (V V':Value) (r r':R) (w:World) (h:Reads w V r) (h':Reads w V' r') (hf:Fit r) (hf':Fit r'):Calls Tryz.prog 48 #[V,V'] w fun e w'=>e=.returned (.bool (same r r'))∧Below w.heap.size w w':=by
 obtain ⟨fa,fc,ba,bc,ta,tc,rfl,h1,h2,h3⟩:=h;obtain ⟨fa',fc',ba',bc',ta',tc',rfl,h1',h2',h3'⟩:=h'
 have HF1:=Lib.hid (fun w2 (hb:Below w.heap.size w w2)=>rfields_any fa _ fc _ fa' _ fc' _ w2 (h1.below hb) (h1'.below hb) (by have:=hf.fs;omega) (by have:=hf'.fs;omega))
 have HF2:=Lib.hid (fun w2 (hb:Below w.heap.size w w2)=>rfields_any ta _ tc _ ta' _ tc' _ w2 (h3.below hb) (h3'.below hb) (by have:=hf.ts;omega) (by have:=hf'.ts;omega));have H2:=Lib.hid h2;have H2':=Lib.hid h2';clear h1 h2 h3 h1' h2' h3' hf hf'
 have HB0:=Lib.hid ((((Below.refl _ _).alloc (Nat.le_refl _) (.cells #[.string r.m,.string r.x,.int .i64 r.k,.slice fa r.fs.length fc,.bool r.ch,.slice ba r.body.length bc,.slice ta r.ts.length tc] 58)).alloc (by simp) (.cells #[.string r'.m,.string r'.x,.int .i64 r'.k,.slice fa' r'.fs.length fc',.bool r'.ch,.slice ba' r'.body.length bc',.slice ta' r'.ts.length tc'] 58)):Below w.heap.size w _)
 have HA:=Lib.hid ((Bk.new w w.heap.size rfl 58 [.string r.m,.string r.x,.int .i64 r.k,.slice fa r.fs.length fc,.bool r.ch,.slice ba r.body.length bc,.slice ta r.ts.length tc]).alloc (.cells #[.string r'.m,.string r'.x,.int .i64 r'.k,.slice fa' r'.fs.length fc',.bool r'.ch,.slice ba' r'.body.length bc',.slice ta' r'.ts.length tc'] 58))
 have HB:=Lib.hid (Bk.new (w.alloc (.cells #[.string r.m,.string r.x,.int .i64 r.k,.slice fa r.fs.length fc,.bool r.ch,.slice ba r.body.length bc,.slice ta r.ts.length tc] 58)) (w.heap.size+1) (by simp) 58 [.string r'.m,.string r'.x,.int .i64 r'.k,.slice fa' r'.fs.length fc',.bool r'.ch,.slice ba' r'.body.length bc',.slice ta' r'.ts.length tc']);by_cases g0:r.m=r'.m
 rotate_left
 ·have e:same r r'=false:=by unfold same;simp [g0]
  rw [e];clear e;have t0:(r.m.toList==r'.m.toList)=false:=by rw [ba_beq];exact decide_eq_false g0
  have s0:¬r.m.toList=r'.m.toList:=fun h=>g0 ((toList_iff _ _).1 h);clear g0;go_enter Tryz.func48,Tryz.ntmps48;go_upto_region 1 with fail
  generalize (w.alloc (.cells #[.string r.m,.string r.x,.int .i64 r.k,.slice fa r.fs.length fc,.bool r.ch,.slice ba r.body.length bc,.slice ta r.ts.length tc] 58)).alloc (.cells #[.string r'.m,.string r'.x,.int .i64 r'.k,.slice fa' r'.fs.length fc',.bool r'.ch,.slice ba' r'.body.length bc',.slice ta' r'.ts.length tc'] 58)=W at *;have hA0:=HA.out;have hB0:=HB.out;have q0:=hA0.c 0 _ rfl;have y0:=hB0.c 0 _ rfl;have q1:=hA0.c 1 _ rfl;have y1:=hB0.c 1 _ rfl;have q2:=hA0.c 2 _ rfl;have y2:=hB0.c 2 _ rfl;have q3:=hA0.c 3 _ rfl;have y3:=hB0.c 3 _ rfl;have q4:=hA0.c 4 _ rfl;have y4:=hB0.c 4 _ rfl;have q5:=hA0.c 5 _ rfl;have y5:=hB0.c 5 _ rfl;have q6:=hA0.c 6 _ rfl;have y6:=hB0.c 6 _ rfl;clear hA0 hB0;go_wp2;go_ret;exact ⟨rfl,HB0.out⟩
 by_cases g1:r.x=r'.x
 rotate_left
 ·have e:same r r'=false:=by unfold same;simp [g0,g1]
  rw [e];clear e;have t0:(r.m.toList==r'.m.toList)=true:=by rw [ba_beq];exact decide_eq_true g0
  have s0:r.m.toList=r'.m.toList:=(toList_iff _ _).2 g0;have t1:(r.x.toList==r'.x.toList)=false:=by rw [ba_beq];exact decide_eq_false g1
  have s1:¬r.x.toList=r'.x.toList:=fun h=>g1 ((toList_iff _ _).1 h);clear g0 g1;go_enter Tryz.func48,Tryz.ntmps48;go_upto_region 1 with fail
  generalize (w.alloc (.cells #[.string r.m,.string r.x,.int .i64 r.k,.slice fa r.fs.length fc,.bool r.ch,.slice ba r.body.length bc,.slice ta r.ts.length tc] 58)).alloc (.cells #[.string r'.m,.string r'.x,.int .i64 r'.k,.slice fa' r'.fs.length fc',.bool r'.ch,.slice ba' r'.body.length bc',.slice ta' r'.ts.length tc'] 58)=W at *;have hA0:=HA.out;have hB0:=HB.out;have q0:=hA0.c 0 _ rfl;have y0:=hB0.c 0 _ rfl;have q1:=hA0.c 1 _ rfl;have y1:=hB0.c 1 _ rfl;have q2:=hA0.c 2 _ rfl;have y2:=hB0.c 2 _ rfl;have q3:=hA0.c 3 _ rfl;have y3:=hB0.c 3 _ rfl;have q4:=hA0.c 4 _ rfl;have y4:=hB0.c 4 _ rfl;have q5:=hA0.c 5 _ rfl;have y5:=hB0.c 5 _ rfl;have q6:=hA0.c 6 _ rfl;have y6:=hB0.c 6 _ rfl;clear hA0 hB0;go_wp2;go_ret;exact ⟨rfl,HB0.out⟩
 by_cases g2:r.k=r'.k
 rotate_left
 ·have e:same r r'=false:=by unfold same;simp [g0,g1,g2]
  rw [e];clear e;have t0:(r.m.toList==r'.m.toList)=true:=by rw [ba_beq];exact decide_eq_true g0
  have s0:r.m.toList=r'.m.toList:=(toList_iff _ _).2 g0;have t1:(r.x.toList==r'.x.toList)=true:=by rw [ba_beq];exact decide_eq_true g1
  have s1:r.x.toList=r'.x.toList:=(toList_iff _ _).2 g1;have t2:(r.k==r'.k)=false:=beq_eq_false_iff_ne.2 g2;clear g0 g1 g2;go_enter Tryz.func48,Tryz.ntmps48;go_upto_region 1 with fail
  generalize (w.alloc (.cells #[.string r.m,.string r.x,.int .i64 r.k,.slice fa r.fs.length fc,.bool r.ch,.slice ba r.body.length bc,.slice ta r.ts.length tc] 58)).alloc (.cells #[.string r'.m,.string r'.x,.int .i64 r'.k,.slice fa' r'.fs.length fc',.bool r'.ch,.slice ba' r'.body.length bc',.slice ta' r'.ts.length tc'] 58)=W at *;have hA0:=HA.out;have hB0:=HB.out;have q0:=hA0.c 0 _ rfl;have y0:=hB0.c 0 _ rfl;have q1:=hA0.c 1 _ rfl;have y1:=hB0.c 1 _ rfl;have q2:=hA0.c 2 _ rfl;have y2:=hB0.c 2 _ rfl;have q3:=hA0.c 3 _ rfl;have y3:=hB0.c 3 _ rfl;have q4:=hA0.c 4 _ rfl;have y4:=hB0.c 4 _ rfl;have q5:=hA0.c 5 _ rfl;have y5:=hB0.c 5 _ rfl;have q6:=hA0.c 6 _ rfl;have y6:=hB0.c 6 _ rfl;clear hA0 hB0;go_wp2;go_ret;exact ⟨rfl,HB0.out⟩
 by_cases g3:r.fs=r'.fs
 rotate_left
 ·have e:same r r'=false:=by unfold same;simp [g0,g1,g2,g3]
  rw [e];clear e;have t0:(r.m.toList==r'.m.toList)=true:=by rw [ba_beq];exact decide_eq_true g0
  have s0:r.m.toList=r'.m.toList:=(toList_iff _ _).2 g0;have t1:(r.x.toList==r'.x.toList)=true:=by rw [ba_beq];exact decide_eq_true g1
  have s1:r.x.toList=r'.x.toList:=(toList_iff _ _).2 g1;have t2:(r.k==r'.k)=true:=beq_iff_eq.2 g2;rw [decide_eq_false g3] at HF1;clear g0 g1 g2 g3;go_enter Tryz.func48,Tryz.ntmps48;go_upto_region 1 with fail
  generalize (w.alloc (.cells #[.string r.m,.string r.x,.int .i64 r.k,.slice fa r.fs.length fc,.bool r.ch,.slice ba r.body.length bc,.slice ta r.ts.length tc] 58)).alloc (.cells #[.string r'.m,.string r'.x,.int .i64 r'.k,.slice fa' r'.fs.length fc',.bool r'.ch,.slice ba' r'.body.length bc',.slice ta' r'.ts.length tc'] 58)=W at *;have hA0:=HA.out;have hB0:=HB.out;have q0:=hA0.c 0 _ rfl;have y0:=hB0.c 0 _ rfl;have q1:=hA0.c 1 _ rfl;have y1:=hB0.c 1 _ rfl;have q2:=hA0.c 2 _ rfl;have y2:=hB0.c 2 _ rfl;have q3:=hA0.c 3 _ rfl;have y3:=hB0.c 3 _ rfl;have q4:=hA0.c 4 _ rfl;have y4:=hB0.c 4 _ rfl;have q5:=hA0.c 5 _ rfl;have y5:=hB0.c 5 _ rfl;have q6:=hA0.c 6 _ rfl;have y6:=hB0.c 6 _ rfl;clear hA0 hB0
  go_wp2_with (go_at_call 61;with_reducible refine (HF1.out _ HB0.out).mono ?_;rintro e w1 ⟨rfl,n1,hw1⟩
               have hb1:Below W.heap.size W w1:=by rw [hw1];exact Base.below_drewN (Below.refl _ _) n1
               have HB1:=Lib.hid (Base.below_step HB0.out hb1);have hA1:=HA.out.below hb1;have hB1:=HB.out.below hb1;have q3:=hA1.c 3 _ rfl;have y3:=hB1.c 3 _ rfl;have q4:=hA1.c 4 _ rfl;have y4:=hB1.c 4 _ rfl;have q5:=hA1.c 5 _ rfl;have y5:=hB1.c 5 _ rfl;have q6:=hA1.c 6 _ rfl;have y6:=hB1.c 6 _ rfl;have cv:=conv_str w1 _ _ bc _ (H2.out.below HB1.out);have cv':=conv_str w1 _ _ bc' _ (H2'.out.below HB1.out);clear hA1 hB1 hb1 hw1)
  go_ret;exact ⟨rfl,HB1.out⟩
 by_cases g4:r.ch=r'.ch
 rotate_left
 ·have e:same r r'=false:=by unfold same;simp [g0,g1,g2,g3,g4]
  rw [e];clear e;have t0:(r.m.toList==r'.m.toList)=true:=by rw [ba_beq];exact decide_eq_true g0
  have s0:r.m.toList=r'.m.toList:=(toList_iff _ _).2 g0;have t1:(r.x.toList==r'.x.toList)=true:=by rw [ba_beq];exact decide_eq_true g1
  have s1:r.x.toList=r'.x.toList:=(toList_iff _ _).2 g1;have t2:(r.k==r'.k)=true:=beq_iff_eq.2 g2;rw [decide_eq_true g3] at HF1;have t4:(r.ch==r'.ch)=false:=beq_eq_false_iff_ne.2 g4;clear g0 g1 g2 g3 g4;go_enter Tryz.func48,Tryz.ntmps48;go_upto_region 1 with fail
  generalize (w.alloc (.cells #[.string r.m,.string r.x,.int .i64 r.k,.slice fa r.fs.length fc,.bool r.ch,.slice ba r.body.length bc,.slice ta r.ts.length tc] 58)).alloc (.cells #[.string r'.m,.string r'.x,.int .i64 r'.k,.slice fa' r'.fs.length fc',.bool r'.ch,.slice ba' r'.body.length bc',.slice ta' r'.ts.length tc'] 58)=W at *;have hA0:=HA.out;have hB0:=HB.out;have q0:=hA0.c 0 _ rfl;have y0:=hB0.c 0 _ rfl;have q1:=hA0.c 1 _ rfl;have y1:=hB0.c 1 _ rfl;have q2:=hA0.c 2 _ rfl;have y2:=hB0.c 2 _ rfl;have q3:=hA0.c 3 _ rfl;have y3:=hB0.c 3 _ rfl;have q4:=hA0.c 4 _ rfl;have y4:=hB0.c 4 _ rfl;have q5:=hA0.c 5 _ rfl;have y5:=hB0.c 5 _ rfl;have q6:=hA0.c 6 _ rfl;have y6:=hB0.c 6 _ rfl;clear hA0 hB0
  go_wp2_with (go_at_call 61;with_reducible refine (HF1.out _ HB0.out).mono ?_;rintro e w1 ⟨rfl,n1,hw1⟩
               have hb1:Below W.heap.size W w1:=by rw [hw1];exact Base.below_drewN (Below.refl _ _) n1
               have HB1:=Lib.hid (Base.below_step HB0.out hb1);have hA1:=HA.out.below hb1;have hB1:=HB.out.below hb1;have q3:=hA1.c 3 _ rfl;have y3:=hB1.c 3 _ rfl;have q4:=hA1.c 4 _ rfl;have y4:=hB1.c 4 _ rfl;have q5:=hA1.c 5 _ rfl;have y5:=hB1.c 5 _ rfl;have q6:=hA1.c 6 _ rfl;have y6:=hB1.c 6 _ rfl;have cv:=conv_str w1 _ _ bc _ (H2.out.below HB1.out);have cv':=conv_str w1 _ _ bc' _ (H2'.out.below HB1.out);clear hA1 hB1 hb1 hw1)
  go_ret;exact ⟨rfl,HB1.out⟩
 by_cases g5:r.body=r'.body
 rotate_left
 ·have e:same r r'=false:=by unfold same;simp [g0,g1,g2,g3,g4,g5]
  rw [e];clear e;have t0:(r.m.toList==r'.m.toList)=true:=by rw [ba_beq];exact decide_eq_true g0
  have s0:r.m.toList=r'.m.toList:=(toList_iff _ _).2 g0;have t1:(r.x.toList==r'.x.toList)=true:=by rw [ba_beq];exact decide_eq_true g1
  have s1:r.x.toList=r'.x.toList:=(toList_iff _ _).2 g1;have t2:(r.k==r'.k)=true:=beq_iff_eq.2 g2;rw [decide_eq_true g3] at HF1;have t4:(r.ch==r'.ch)=true:=beq_iff_eq.2 g4
  have t5:((Txt.ba r.body).toList==(Txt.ba r'.body).toList)=false:=by rw [ba_beq];exact decide_eq_false (fun h=>g5 (ba_list_inj.1 h))
  have s5:¬(Txt.ba r.body).toList=(Txt.ba r'.body).toList:=fun h=>g5 (ba_list_inj.1 ((toList_iff _ _).1 h));clear g0 g1 g2 g3 g4 g5;go_enter Tryz.func48,Tryz.ntmps48;go_upto_region 1 with fail
  generalize (w.alloc (.cells #[.string r.m,.string r.x,.int .i64 r.k,.slice fa r.fs.length fc,.bool r.ch,.slice ba r.body.length bc,.slice ta r.ts.length tc] 58)).alloc (.cells #[.string r'.m,.string r'.x,.int .i64 r'.k,.slice fa' r'.fs.length fc',.bool r'.ch,.slice ba' r'.body.length bc',.slice ta' r'.ts.length tc'] 58)=W at *;have hA0:=HA.out;have hB0:=HB.out;have q0:=hA0.c 0 _ rfl;have y0:=hB0.c 0 _ rfl;have q1:=hA0.c 1 _ rfl;have y1:=hB0.c 1 _ rfl;have q2:=hA0.c 2 _ rfl;have y2:=hB0.c 2 _ rfl;have q3:=hA0.c 3 _ rfl;have y3:=hB0.c 3 _ rfl;have q4:=hA0.c 4 _ rfl;have y4:=hB0.c 4 _ rfl;have q5:=hA0.c 5 _ rfl;have y5:=hB0.c 5 _ rfl;have q6:=hA0.c 6 _ rfl;have y6:=hB0.c 6 _ rfl;clear hA0 hB0
  go_wp2_with (go_at_call 61;with_reducible refine (HF1.out _ HB0.out).mono ?_;rintro e w1 ⟨rfl,n1,hw1⟩
               have hb1:Below W.heap.size W w1:=by rw [hw1];exact Base.below_drewN (Below.refl _ _) n1
               have HB1:=Lib.hid (Base.below_step HB0.out hb1);have hA1:=HA.out.below hb1;have hB1:=HB.out.below hb1;have q3:=hA1.c 3 _ rfl;have y3:=hB1.c 3 _ rfl;have q4:=hA1.c 4 _ rfl;have y4:=hB1.c 4 _ rfl;have q5:=hA1.c 5 _ rfl;have y5:=hB1.c 5 _ rfl;have q6:=hA1.c 6 _ rfl;have y6:=hB1.c 6 _ rfl;have cv:=conv_str w1 _ _ bc _ (H2.out.below HB1.out);have cv':=conv_str w1 _ _ bc' _ (H2'.out.below HB1.out);clear hA1 hB1 hb1 hw1)
  go_ret;exact ⟨rfl,HB1.out⟩
 by_cases g6:r.ts=r'.ts
 rotate_left
 ·have e:same r r'=false:=by unfold same;simp [g0,g1,g2,g3,g4,g5,g6]
  rw [e];clear e;have t0:(r.m.toList==r'.m.toList)=true:=by rw [ba_beq];exact decide_eq_true g0
  have s0:r.m.toList=r'.m.toList:=(toList_iff _ _).2 g0;have t1:(r.x.toList==r'.x.toList)=true:=by rw [ba_beq];exact decide_eq_true g1
  have s1:r.x.toList=r'.x.toList:=(toList_iff _ _).2 g1;have t2:(r.k==r'.k)=true:=beq_iff_eq.2 g2;rw [decide_eq_true g3] at HF1;have t4:(r.ch==r'.ch)=true:=beq_iff_eq.2 g4
  have t5:((Txt.ba r.body).toList==(Txt.ba r'.body).toList)=true:=by rw [ba_beq];exact decide_eq_true (by rw [g5])
  have s5:(Txt.ba r.body).toList=(Txt.ba r'.body).toList:=(toList_iff _ _).2 (by rw [g5]);rw [decide_eq_false g6] at HF2;clear g0 g1 g2 g3 g4 g5 g6;go_enter Tryz.func48,Tryz.ntmps48;go_upto_region 1 with fail
  generalize (w.alloc (.cells #[.string r.m,.string r.x,.int .i64 r.k,.slice fa r.fs.length fc,.bool r.ch,.slice ba r.body.length bc,.slice ta r.ts.length tc] 58)).alloc (.cells #[.string r'.m,.string r'.x,.int .i64 r'.k,.slice fa' r'.fs.length fc',.bool r'.ch,.slice ba' r'.body.length bc',.slice ta' r'.ts.length tc'] 58)=W at *;have hA0:=HA.out;have hB0:=HB.out;have q0:=hA0.c 0 _ rfl;have y0:=hB0.c 0 _ rfl;have q1:=hA0.c 1 _ rfl;have y1:=hB0.c 1 _ rfl;have q2:=hA0.c 2 _ rfl;have y2:=hB0.c 2 _ rfl;have q3:=hA0.c 3 _ rfl;have y3:=hB0.c 3 _ rfl;have q4:=hA0.c 4 _ rfl;have y4:=hB0.c 4 _ rfl;have q5:=hA0.c 5 _ rfl;have y5:=hB0.c 5 _ rfl;have q6:=hA0.c 6 _ rfl;have y6:=hB0.c 6 _ rfl;clear hA0 hB0
  go_wp2_with (first
   |(go_at_call 61;with_reducible refine (HF2.out _ HB1.out).mono ?_;rintro e w2 ⟨rfl,n2,hw2⟩
     have hb2:Below w1.heap.size w1 w2:=by rw [hw2];exact Base.below_drewN (Below.refl _ _) n2
     have HB2:=Lib.hid (Base.below_step HB1.out hb2);clear hb2 hw2)
   |(go_at_call 61;with_reducible refine (HF1.out _ HB0.out).mono ?_;rintro e w1 ⟨rfl,n1,hw1⟩
     have hb1:Below W.heap.size W w1:=by rw [hw1];exact Base.below_drewN (Below.refl _ _) n1
     have HB1:=Lib.hid (Base.below_step HB0.out hb1);have hA1:=HA.out.below hb1;have hB1:=HB.out.below hb1;have q3:=hA1.c 3 _ rfl;have y3:=hB1.c 3 _ rfl;have q4:=hA1.c 4 _ rfl;have y4:=hB1.c 4 _ rfl;have q5:=hA1.c 5 _ rfl;have y5:=hB1.c 5 _ rfl;have q6:=hA1.c 6 _ rfl;have y6:=hB1.c 6 _ rfl;have cv:=conv_str w1 _ _ bc _ (H2.out.below HB1.out);have cv':=conv_str w1 _ _ bc' _ (H2'.out.below HB1.out);clear hA1 hB1 hb1 hw1))
  go_ret;exact ⟨rfl,HB2.out⟩
 have e:same r r'=true:=by unfold same;simp [g0,g1,g2,g3,g4,g5,g6]
 rw [e];clear e;have t0:(r.m.toList==r'.m.toList)=true:=by rw [ba_beq];exact decide_eq_true g0
 have s0:r.m.toList=r'.m.toList:=(toList_iff _ _).2 g0;have t1:(r.x.toList==r'.x.toList)=true:=by rw [ba_beq];exact decide_eq_true g1
 have s1:r.x.toList=r'.x.toList:=(toList_iff _ _).2 g1;have t2:(r.k==r'.k)=true:=beq_iff_eq.2 g2;rw [decide_eq_true g3] at HF1;have t4:(r.ch==r'.ch)=true:=beq_iff_eq.2 g4
 have t5:((Txt.ba r.body).toList==(Txt.ba r'.body).toList)=true:=by rw [ba_beq];exact decide_eq_true (by rw [g5])
 have s5:(Txt.ba r.body).toList=(Txt.ba r'.body).toList:=(toList_iff _ _).2 (by rw [g5]);rw [decide_eq_true g6] at HF2;clear g0 g1 g2 g3 g4 g5 g6;go_enter Tryz.func48,Tryz.ntmps48;go_upto_region 1 with fail
 generalize (w.alloc (.cells #[.string r.m,.string r.x,.int .i64 r.k,.slice fa r.fs.length fc,.bool r.ch,.slice ba r.body.length bc,.slice ta r.ts.length tc] 58)).alloc (.cells #[.string r'.m,.string r'.x,.int .i64 r'.k,.slice fa' r'.fs.length fc',.bool r'.ch,.slice ba' r'.body.length bc',.slice ta' r'.ts.length tc'] 58)=W at *;have hA0:=HA.out;have hB0:=HB.out;have q0:=hA0.c 0 _ rfl;have y0:=hB0.c 0 _ rfl;have q1:=hA0.c 1 _ rfl;have y1:=hB0.c 1 _ rfl;have q2:=hA0.c 2 _ rfl;have y2:=hB0.c 2 _ rfl;have q3:=hA0.c 3 _ rfl;have y3:=hB0.c 3 _ rfl;have q4:=hA0.c 4 _ rfl;have y4:=hB0.c 4 _ rfl;have q5:=hA0.c 5 _ rfl;have y5:=hB0.c 5 _ rfl;have q6:=hA0.c 6 _ rfl;have y6:=hB0.c 6 _ rfl;clear hA0 hB0
 go_wp2_with (first
  |(go_at_call 61;with_reducible refine (HF2.out _ HB1.out).mono ?_;rintro e w2 ⟨rfl,n2,hw2⟩
    have hb2:Below w1.heap.size w1 w2:=by rw [hw2];exact Base.below_drewN (Below.refl _ _) n2
    have HB2:=Lib.hid (Base.below_step HB1.out hb2);clear hb2 hw2)
  |(go_at_call 61;with_reducible refine (HF1.out _ HB0.out).mono ?_;rintro e w1 ⟨rfl,n1,hw1⟩
    have hb1:Below W.heap.size W w1:=by rw [hw1];exact Base.below_drewN (Below.refl _ _) n1
    have HB1:=Lib.hid (Base.below_step HB0.out hb1);have hA1:=HA.out.below hb1;have hB1:=HB.out.below hb1;have q3:=hA1.c 3 _ rfl;have y3:=hB1.c 3 _ rfl;have q4:=hA1.c 4 _ rfl;have y4:=hB1.c 4 _ rfl;have q5:=hA1.c 5 _ rfl;have y5:=hB1.c 5 _ rfl;have q6:=hA1.c 6 _ rfl;have y6:=hB1.c 6 _ rfl;have cv:=conv_str w1 _ _ bc _ (H2.out.below HB1.out);have cv':=conv_str w1 _ _ bc' _ (H2'.out.below HB1.out);clear hA1 hB1 hb1 hw1))
 go_ret;exact ⟨rfl,HB2.out⟩
end code
end Go.Proofs.YtnabkcglnbdfeaaGreatDoor.Rec
namespace Go.Proofs.YtnabkcglnbdfeaaGreatDoor.Rec
open Go.RowKit Base Txt
def RecAt (w:World) (b o:Nat) (r:R):Prop:=
 ∃(fa:Option Addr) (fc:Nat) (ba:Option Addr) (bc:Nat) (ta:Option Addr) (tc:Nat),
  (w.cell? ⟨b,o,none⟩=some (.string r.m)∧w.cell? ⟨b,o+1,none⟩=some (.string r.x)∧w.cell? ⟨b,o+2,none⟩=some (.int .i64 r.k)∧w.cell? ⟨b,o+3,none⟩=some (.slice fa r.fs.length fc)∧
   w.cell? ⟨b,o+4,none⟩=some (.bool r.ch)∧w.cell? ⟨b,o+5,none⟩=some (.slice ba r.body.length bc)∧w.cell? ⟨b,o+6,none⟩=some (.slice ta r.ts.length tc))∧
  Reads w (.agg #[.string r.m,.string r.x,.int .i64 r.k,.slice fa r.fs.length fc,.bool r.ch,.slice ba r.body.length bc,.slice ta r.ts.length tc]) r
theorem RecAt.below {w w':World} {b o:Nat} {r:R} (h:RecAt w b o r) (hlt:b<w.heap.size) (hb:Below w.heap.size w w'):RecAt w' b o r:=by
 obtain ⟨fa,fc,ba,bc,ta,tc,⟨c0,c1,c2,c3,c4,c5,c6⟩,hr⟩:=h
 exact ⟨fa,fc,ba,bc,ta,tc,⟨(hb.cell (p:=⟨b,o,none⟩) hlt).trans c0,(hb.cell (p:=⟨b,o+1,none⟩) hlt).trans c1,(hb.cell (p:=⟨b,o+2,none⟩) hlt).trans c2,(hb.cell (p:=⟨b,o+3,none⟩) hlt).trans c3,
  (hb.cell (p:=⟨b,o+4,none⟩) hlt).trans c4,(hb.cell (p:=⟨b,o+5,none⟩) hlt).trans c5,(hb.cell (p:=⟨b,o+6,none⟩) hlt).trans c6⟩,hr.below hb⟩
def r0:R:=⟨ByteArray.empty,ByteArray.empty,0,[],false,[],[]⟩
def Recs (w:World) (a:Option Addr) (n:Nat) (rs:List R):Prop:=
 rs.length=n∧(0<n→∃b off,a=some ⟨b,off,none⟩∧b<w.heap.size∧∀k,k<n→RecAt w b (off+k*7) (rs[k]?.getD r0))
theorem Recs.below {w w':World} {a:Option Addr} {n:Nat} {rs:List R} (h:Recs w a n rs) (hb:Below w.heap.size w w'):Recs w' a n rs:=by refine ⟨h.1,fun hn=>?_⟩;obtain ⟨b,off,e,hlt,hc⟩:=h.2 hn;exact ⟨b,off,e,Nat.lt_of_lt_of_le hlt hb.size,fun k hk=>(hc k hk).below hlt hb⟩
theorem all_iff:∀a b:List R,all a b=true↔a=b
 | [],[]=>by simp [all]
 | [],_ :: _=>by simp [all]
 | _ :: _,[]=>by simp [all]
 | x::a,y::b=>by rw [all,Bool.and_eq_true,same_iff,all_iff a b,List.cons.injEq]
theorem all_len (a b:List R) (h:¬a.length=b.length):all a b=false:=by
 rw [Bool.eq_false_iff]
 exact fun e=>h (by rw [(all_iff a b).1 e])
theorem take_eq (xs ys:List R) (k:Nat) (hx:k<xs.length) (hy:k<ys.length) (h:xs.take k=ys.take k) (e:xs[k]?.getD r0=ys[k]?.getD r0):xs.take (k+1)=ys.take (k+1):=by
 rw [List.take_succ_eq_append_getElem hx,List.take_succ_eq_append_getElem hy,h];rw [List.getElem?_eq_getElem hx,List.getElem?_eq_getElem hy] at e
 congr 2
theorem fit_at {rs:List R} (h:∀r∈rs,Fit r) (k:Nat) (hk:k<rs.length):Fit (rs[k]?.getD r0):=by rw [List.getElem?_eq_getElem hk];exact h _ (List.getElem_mem hk)
section code
set_option maxHeartbeats 2000000
theorem equalFunc_any (a:Option Addr) (n cap:Nat) (rs:List R) (b:Option Addr) (m cap2:Nat) (qs:List R) (w:World) (hv:Recs w a n rs) (hu:Recs w b m qs) (hn:n≤1000000000) (hm:m≤1000000000) (hf:∀r∈rs,Fit r) (hg:∀r∈qs,Fit r) :
 Calls Tryz.prog 153 #[.slice a n cap,.slice b m cap2,.func (.func 154) #[] #[]] w fun e w'=>e=.returned (.bool (all rs qs))∧Below w.heap.size w w':=by
 have eg:∀args w,(callFunc 154 args).run Tryz.prog w=.ok (.enter 154 args) w:=enters_of Tryz.func154 (by kernel_rfl) rfl;have HV:=Lib.hid hv;have HU:=Lib.hid hu;have HF:=Lib.hid hf;have HG:=Lib.hid hg;have HL:=Lib.hid hv.1;have HM:=Lib.hid hu.1;by_cases hnm:n=m
 ·subst hnm;clear hv hu hf hg;obtain ⟨B,hB⟩:∃B,all rs qs=B:=⟨_,rfl⟩;rw [hB];have HB:=Lib.hid hB;clear hB;go_enter Tryz.func153,Tryz.ntmps153;go_wp2
  go_loopw [17] (fun i wr=>∃k:Nat,k≤n∧i=.int .i64 k∧Hid (rs.take k=qs.take k)∧Hid (Below w.heap.size w wr)) (fun i _=>n-(intOf i).toNat)
  case atStart=>exact ⟨0,Nat.zero_le _,rfl,Lib.hid rfl,Lib.hid (Below.refl _ _)⟩
  case round=>
   obtain ⟨k,hk,rfl,hpre,hbr⟩:=hrel;rcases Nat.lt_or_ge k n with hlt | hge
   ·obtain ⟨bl,off,rfl,hbl,hc⟩:=(HV.out.below hbr.out).2 (by omega)
    obtain ⟨bl',off',rfl,hbl',hc'⟩:=(HU.out.below hbr.out).2 (by omega);have hkr:k<rs.length:=by rw [HL.out];exact hlt
    have hkq:k<qs.length:=by rw [HM.out];exact hlt
    have h1:=hc k hlt;have h2:=hc' k hlt;have f1:=fit_at HF.out k hkr;have f2:=fit_at HG.out k hkq
    have HN:=Lib.hid (take_eq rs qs k hkr hkq hpre.out)
    have HX:=Lib.hid (show rs=qs→rs[k]?.getD r0=qs[k]?.getD r0 from fun e=>by rw [e]);clear hc hc' hkr hkq;generalize rs[k]?.getD r0=x at *;generalize qs[k]?.getD r0=y at *;obtain ⟨fa,fc,ba,bc,ta,tc,⟨c0,c1,c2,c3,c4,c5,c6⟩,hr1⟩:=h1;obtain ⟨fa',fc',ba',bc',ta',tc',⟨d0,d1,d2,d3,d4,d5,d6⟩,hr2⟩:=h2
    have HC:=Lib.hid (fun w2 (hb:Below wr.heap.size wr w2)=>same_any _ _ _ _ w2 (hr1.below hb) (hr2.below hb) f1 f2)
    have hb2:=Lib.hid (((Below.refl _ _).alloc (Nat.le_refl _) (.cells #[.string x.m,.string x.x,.int .i64 x.k,.slice fa x.fs.length fc,.bool x.ch,.slice ba x.body.length bc,.slice ta x.ts.length tc] 58)).alloc (by simp) (.cells #[.string y.m,.string y.x,.int .i64 y.k,.slice fa' y.fs.length fc',.bool y.ch,.slice ba' y.body.length bc',.slice ta' y.ts.length tc'] 58):Below wr.heap.size wr _);have i1:(k:Int)<(n:Int):=by omega
    clear hr1 hr2 f1 f2;cases hq:same x y with
    | true=>
      have HE:=Lib.hid (HN.out ((same_iff _ _).1 hq));rw [hq] at HC;clear HN HX hq
      go_wp2_with (go_at_fn 154;with_reducible refine (HC.out _ hb2.out).mono ?_;rintro e w2 ⟨rfl,hb3⟩)
      have H3:=Lib.hid (Base.below_step hbr.out (Base.below_step hb2.out hb3));clear hb3;go_roundw
      case rel=>exact ⟨k+1,by omega,by go_num,HE,H3⟩
      case measure=>simp [intOf];omega
    | false=>
      have HE:=Lib.hid (show B=false by
       rw [←HB.out,Bool.eq_false_iff];intro e
       have:=(same_iff _ _).2 (HX.out ((all_iff _ _).1 e));rw [hq] at this;cases this)
      rw [hq] at HC;clear HN HX hq
      go_wp2_with (go_at_fn 154;with_reducible refine (HC.out _ hb2.out).mono ?_;rintro e w2 ⟨rfl,hb3⟩);go_ret;exact ⟨by first | rfl |(rw [HE.out];rfl),Base.below_step hbr.out (Base.below_step hb2.out hb3)⟩
   ·obtain rfl:k=n:=by omega
    have HE:=Lib.hid (show B=true by
     rw [←HB.out,all_iff];have:=hpre.out
     rwa [List.take_of_length_le (by rw [HL.out];omega),List.take_of_length_le (by rw [HM.out];omega)] at this)
    clear hpre;go_wp2;go_ret;exact ⟨by first | rfl |(rw [HE.out];rfl),hbr.out⟩
 ·have e:all rs qs=false:=all_len rs qs (by rw [hv.1,hu.1];exact hnm);have t0:((n:Int)==(m:Int))=false:=by rw [beq_eq_false_iff_ne];omega
  have t1:¬(n:Int)=(m:Int):=by omega
  rw [e];clear hv hu hf hg e hnm;go_enter Tryz.func153,Tryz.ntmps153;go_wp2;go_ret;exact ⟨rfl,Below.refl _ _⟩
theorem all_any (a:Option Addr) (n cap:Nat) (rs:List R) (b:Option Addr) (m cap2:Nat) (qs:List R) (w:World) (hv:Recs w a n rs) (hu:Recs w b m qs) (hn:n≤1000000000) (hm:m≤1000000000) (hf:∀r∈rs,Fit r) (hg:∀r∈qs,Fit r) :
 Calls Tryz.prog 107 #[.slice a n cap,.slice b m cap2] w fun e w'=>e=.returned (.bool (all rs qs))∧Below w.heap.size w w':=by
 have H:=Lib.hid (equalFunc_any a n cap rs b m cap2 qs w hv hu hn hm hf hg);clear hv hu hf hg;go_enter Tryz.func107,Tryz.ntmps107
 go_wp2_with (go_at_call 153;with_reducible refine H.out.mono ?_;rintro e w2 ⟨rfl,hb2⟩);go_ret;exact ⟨rfl,hb2⟩
end code
end Go.Proofs.YtnabkcglnbdfeaaGreatDoor.Rec
