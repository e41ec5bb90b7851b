import Derived.Test.YtldhlecknfomjaaGreatDoorCgi
namespace Go.Proofs.YtldhlecknfomjaaGreatDoor.Rec
open Go.RowKit Base Txt
section code
set_option maxHeartbeats 1000000
theorem plainOf_any (V:Value) (r:R) (w:World) (h:Reads w V r):Calls Tryz.prog 165 #[V] w fun e w'=>e=.returned (.agg #[.string r.m,.string r.x,.int .i64 r.k,.bool r.ch])∧Below w.heap.size w w':=by obtain ⟨fa,fc,ba,bc,ta,tc,rfl,h1,h2,h3⟩:=h;clear h1 h2 h3;obtain ⟨m,x,k,fs,ch,body,ts⟩:=r;go_enter Tryz.func165,Tryz.ntmps165;go_wp2;refine bodyPost_ret (v:=.agg #[.string m,.string x,.int .i64 k,.bool ch]) (by simp [results,Tryz.results165,go_sem]) rfl ⟨rfl,?_⟩;exact ((Below.refl _ _).alloc (Nat.le_refl _) _).alloc (by simp) _
end code
def plainEq (a b:R):Bool:=decide (a.m=b.m)&&(decide (a.x=b.x)&&(decide (a.k=b.k)&&decide (a.ch=b.ch)))
theorem ba_list_inj {a b:List UInt8}:ba a=ba b↔a=b:=⟨fun h=>by have:=congrArg (fun x:ByteArray=>x.data.toList) h;simpa [ba] using this,fun h=>by rw [h]⟩
section code
set_option maxHeartbeats 1000000
theorem bytesEq_any (a:Option Addr) (n cap:Nat) (xs:List UInt8) (b:Option Addr) (m cap2:Nat) (ys:List UInt8) (w:World) (hx:Nums .u8 w a n (nums xs)) (hy:Nums .u8 w b m (nums ys)) :
 Calls Tryz.prog 167 #[.slice a n cap,.slice b m cap2] w fun e w'=>e=.returned (.bool (decide (xs=ys)))∧w'=w:=by
 have h1:=conv_str w a n cap xs hx;have h2:=conv_str w b m cap2 ys hy;have e:decide (xs=ys)=((ba xs).toList==(ba ys).toList):=by rw [ba_beq,Bool.eq_iff_iff,decide_eq_true_eq,decide_eq_true_eq,ba_list_inj]
 rw [e];clear e hx hy;go_enter Tryz.func167,Tryz.ntmps167;go_wp2;go_ret;exact ⟨rfl,rfl⟩
theorem same_parts (r r':R):(((plainEq r r'&&decide (r.fs=r'.fs))&&decide (r.body=r'.body))&&decide (r.ts=r'.ts))=same r r':=by unfold plainEq same;cases decide (r.m=r'.m)<;>cases decide (r.x=r'.x)<;>cases decide (r.k=r'.k)<;>cases decide (r.fs=r'.fs)<;>cases decide (r.ch=r'.ch)<;>simp
theorem same_any (V V':Value) (r r':R) (w:World) (h:Reads w V r) (h':Reads w V' r') (hf:Fit r) (hf':Fit r'):Calls Tryz.prog 133 #[V,V'] w fun e w'=>e=.returned (.bool (same r r'))∧Below w.heap.size w w':=by
 rw [←same_parts];have HF:=Lib.hid hf;have HF':=Lib.hid hf';have HV:=Lib.hid h;have HV':=Lib.hid h';obtain ⟨fa,fc,ba,bc,ta,tc,rfl,h1,h2,h3⟩:=h;obtain ⟨fa',fc',ba',bc',ta',tc',rfl,h1',h2',h3'⟩:=h';have H1:=Lib.hid h1;have H2:=Lib.hid h2;have H3:=Lib.hid h3;have H1':=Lib.hid h1';have H2':=Lib.hid h2';have H3':=Lib.hid h3';clear h1 h2 h3 h1' h2' h3';clear hf hf';go_enter Tryz.func133,Tryz.ntmps133;go_wp2_with fail
 have hbw0:=Lib.hid ((((Below.refl _ _).alloc (Nat.le_refl _) (.cells #[.string r.m,.string r.x,.int .i64 r.k,.slice fa r.fs.length fc,.bool r.ch,.slice ba r.body.length bc,.slice ta r.ts.length tc] 25)).alloc (by simp) (.cells #[.string r'.m,.string r'.x,.int .i64 r'.k,.slice fa' r'.fs.length fc',.bool r'.ch,.slice ba' r'.body.length bc',.slice ta' r'.ts.length tc'] 25)):Below w.heap.size w _)
 have hbw:=Lib.hid (Base.below_drewN hbw0.out 1)
 have HA:=Lib.hid (((Bk.new w w.heap.size rfl 25 [.string r.m,.string r.x,.int .i64 r.k,.slice fa r.fs.length fc,.bool r.ch,.slice ba r.body.length bc,.slice ta r.ts.length tc]).alloc (.cells #[.string r'.m,.string r'.x,.int .i64 r'.k,.slice fa' r'.fs.length fc',.bool r'.ch,.slice ba' r'.body.length bc',.slice ta' r'.ts.length tc'] 25)).drew 1)
 have HB:=Lib.hid ((Bk.new (w.alloc (.cells #[.string r.m,.string r.x,.int .i64 r.k,.slice fa r.fs.length fc,.bool r.ch,.slice ba r.body.length bc,.slice ta r.ts.length tc] 25)) (w.heap.size+1) (by simp) 25 [.string r'.m,.string r'.x,.int .i64 r'.k,.slice fa' r'.fs.length fc',.bool r'.ch,.slice ba' r'.body.length bc',.slice ta' r'.ts.length tc']).drew 1)
 have HR:=Lib.hid (HV.out.below hbw.out)
 have HR':=Lib.hid (HV'.out.below hbw.out)
 replace H1:=Lib.hid (H1.out.below hbw.out);replace H2:=Lib.hid (H2.out.below hbw.out);replace H3:=Lib.hid (H3.out.below hbw.out)
 replace H1':=Lib.hid (H1'.out.below hbw.out);replace H2':=Lib.hid (H2'.out.below hbw.out);replace H3':=Lib.hid (H3'.out.below hbw.out)
 clear HV HV';refine Each.region_all 27 [5,6,7,8,9,10,11,12,13,14,15,16,17,18,19,20,21,22,23,24,25,26,27,28,29,30,4]
  [fun v _=>v=.agg #[.string r.m,.string r.x,.int .i64 r.k,.slice fa r.fs.length fc,.bool r.ch,.slice ba r.body.length bc,.slice ta r.ts.length tc],
    fun v _=>v=.agg #[.string r.m,.string r.x,.int .i64 r.k,.bool r.ch],
    fun v _=>v=.agg #[.string r'.m,.string r'.x,.int .i64 r'.k,.slice fa' r'.fs.length fc',.bool r'.ch,.slice ba' r'.body.length bc',.slice ta' r'.ts.length tc'],
    fun v _=>v=.agg #[.string r'.m,.string r'.x,.int .i64 r'.k,.bool r'.ch],
    fun v _=>v=.bool (plainEq r r'),
    fun v _=>v=.bool (plainEq r r'),
    Each.When (plainEq r r') true (fun v _=>v=.pointer (some ⟨w.heap.size,3,none⟩)),
    Each.When (plainEq r r') true (fun v _=>v=.slice fa r.fs.length fc),
    Each.When (plainEq r r') true (fun v _=>v=.pointer (some ⟨w.heap.size+1,3,none⟩)),
    Each.When (plainEq r r') true (fun v _=>v=.slice fa' r'.fs.length fc'),
    Each.When (plainEq r r') true (fun v _=>v=.bool (decide (r.fs=r'.fs))),
    fun v _=>v=.bool ((plainEq r r'&&decide (r.fs=r'.fs))),
    fun v _=>v=.bool ((plainEq r r'&&decide (r.fs=r'.fs))),
    Each.When ((plainEq r r'&&decide (r.fs=r'.fs))) true (fun v _=>v=.pointer (some ⟨w.heap.size,5,none⟩)),
    Each.When ((plainEq r r'&&decide (r.fs=r'.fs))) true (fun v _=>v=.slice ba r.body.length bc),
    Each.When ((plainEq r r'&&decide (r.fs=r'.fs))) true (fun v _=>v=.pointer (some ⟨w.heap.size+1,5,none⟩)),
    Each.When ((plainEq r r'&&decide (r.fs=r'.fs))) true (fun v _=>v=.slice ba' r'.body.length bc'),
    Each.When ((plainEq r r'&&decide (r.fs=r'.fs))) true (fun v _=>v=.bool (decide (r.body=r'.body))),
    fun v _=>v=.bool (((plainEq r r'&&decide (r.fs=r'.fs))&&decide (r.body=r'.body))),
    fun v _=>v=.bool (((plainEq r r'&&decide (r.fs=r'.fs))&&decide (r.body=r'.body))),
    Each.When (((plainEq r r'&&decide (r.fs=r'.fs))&&decide (r.body=r'.body))) true (fun v _=>v=.pointer (some ⟨w.heap.size,6,none⟩)),
    Each.When (((plainEq r r'&&decide (r.fs=r'.fs))&&decide (r.body=r'.body))) true (fun v _=>v=.slice ta r.ts.length tc),
    Each.When (((plainEq r r'&&decide (r.fs=r'.fs))&&decide (r.body=r'.body))) true (fun v _=>v=.pointer (some ⟨w.heap.size+1,6,none⟩)),
    Each.When (((plainEq r r'&&decide (r.fs=r'.fs))&&decide (r.body=r'.body))) true (fun v _=>v=.slice ta' r'.ts.length tc'),
    Each.When (((plainEq r r'&&decide (r.fs=r'.fs))&&decide (r.body=r'.body))) true (fun v _=>v=.bool (decide (r.ts=r'.ts))),
    fun v _=>v=.bool ((((plainEq r r'&&decide (r.fs=r'.fs))&&decide (r.body=r'.body))&&decide (r.ts=r'.ts))),
    fun v _=>v=.bool ((((plainEq r r'&&decide (r.fs=r'.fs))&&decide (r.body=r'.body))&&decide (r.ts=r'.ts)))]
   (by kernel_rfl) (by kernel_rfl) (by kernel_rfl) (by kernel_rfl) (fun _ _ d _ _ h=>by cases d<;>exact h) (by rfl) (by rfl)
  ⟨Each.Lasts.eq _,Each.Lasts.eq _,Each.Lasts.eq _,Each.Lasts.eq _,Each.Lasts.eq _,Each.Lasts.eq _,Each.Lasts.when (Each.Lasts.eq _),Each.Lasts.when (Each.Lasts.eq _),Each.Lasts.when (Each.Lasts.eq _),Each.Lasts.when (Each.Lasts.eq _),Each.Lasts.when (Each.Lasts.eq _),Each.Lasts.eq _,Each.Lasts.eq _,Each.Lasts.when (Each.Lasts.eq _),Each.Lasts.when (Each.Lasts.eq _),Each.Lasts.when (Each.Lasts.eq _),Each.Lasts.when (Each.Lasts.eq _),Each.Lasts.when (Each.Lasts.eq _),Each.Lasts.eq _,Each.Lasts.eq _,Each.Lasts.when (Each.Lasts.eq _),Each.Lasts.when (Each.Lasts.eq _),Each.Lasts.when (Each.Lasts.eq _),Each.Lasts.when (Each.Lasts.eq _),Each.Lasts.when (Each.Lasts.eq _),Each.Lasts.eq _,Each.Lasts.eq _,trivial⟩ ?_ ?_
 ·refine ⟨?_,?_,?_,?_,?_,?_,?_,?_,?_,?_,?_,?_,?_,?_,?_,?_,?_,?_,?_,?_,?_,?_,?_,?_,?_,?_,?_,trivial⟩
  ·refine Each.fine rfl (fun ev w1 hR hb hh=>?_);clear hh;have e2:=hR.old 2 rfl;simp only [Array.getD_eq_getD_getElem?,List.getElem?_toArray,List.getElem?_cons_succ,List.getElem?_cons_zero,Option.getD_some] at e2;have q0:=(HA.out.below hb).c 0 _ rfl;have q1:=(HA.out.below hb).c 1 _ rfl;have q2:=(HA.out.below hb).c 2 _ rfl;have q3:=(HA.out.below hb).c 3 _ rfl;have q4:=(HA.out.below hb).c 4 _ rfl;have q5:=(HA.out.below hb).c 5 _ rfl;have q6:=(HA.out.below hb).c 6 _ rfl;refine Each.Goes.same ?_;go_simp;try with_reducible rfl
  ·refine Each.fine rfl (fun ev w1 hR hb hh=>?_);have e5:(ev (.tmp 5)=.agg #[.string r.m,.string r.x,.int .i64 r.k,.slice fa r.fs.length fc,.bool r.ch,.slice ba r.body.length bc,.slice ta r.ts.length tc]):=hh.at 0;clear hh;have ef:=hR.func
   refine Each.Goes.enter 165 #[.agg #[.string r.m,.string r.x,.int .i64 r.k,.slice fa r.fs.length fc,.bool r.ch,.slice ba r.body.length bc,.slice ta r.ts.length tc]] (by go_simp) (((plainOf_any _ _ w1 (HR.out.below hb))).mono ?_);rintro e w2 ⟨rfl,hb2⟩;exact ⟨_,rfl,hb2,rfl⟩
  ·refine Each.fine rfl (fun ev w1 hR hb hh=>?_);clear hh;have e3:=hR.old 3 rfl;simp only [Array.getD_eq_getD_getElem?,List.getElem?_toArray,List.getElem?_cons_succ,List.getElem?_cons_zero,Option.getD_some] at e3;have q0:=(HB.out.below hb).c 0 _ rfl;have q1:=(HB.out.below hb).c 1 _ rfl;have q2:=(HB.out.below hb).c 2 _ rfl;have q3:=(HB.out.below hb).c 3 _ rfl;have q4:=(HB.out.below hb).c 4 _ rfl;have q5:=(HB.out.below hb).c 5 _ rfl;have q6:=(HB.out.below hb).c 6 _ rfl;refine Each.Goes.same ?_;go_simp;try with_reducible rfl
  ·refine Each.fine rfl (fun ev w1 hR hb hh=>?_);have e7:(ev (.tmp 7)=.agg #[.string r'.m,.string r'.x,.int .i64 r'.k,.slice fa' r'.fs.length fc',.bool r'.ch,.slice ba' r'.body.length bc',.slice ta' r'.ts.length tc']):=hh.at 0;clear hh;have ef:=hR.func
   refine Each.Goes.enter 165 #[.agg #[.string r'.m,.string r'.x,.int .i64 r'.k,.slice fa' r'.fs.length fc',.bool r'.ch,.slice ba' r'.body.length bc',.slice ta' r'.ts.length tc']] (by go_simp) (((plainOf_any _ _ w1 (HR'.out.below hb))).mono ?_);rintro e w2 ⟨rfl,hb2⟩;exact ⟨_,rfl,hb2,rfl⟩
  ·refine Each.fine rfl (fun ev w1 hR hb hh=>?_);have e6:(ev (.tmp 6)=.agg #[.string r.m,.string r.x,.int .i64 r.k,.bool r.ch]):=hh.at 0;have e8:(ev (.tmp 8)=.agg #[.string r'.m,.string r'.x,.int .i64 r'.k,.bool r'.ch]):=hh.at 1;clear hh;refine Each.Goes.same ?_;go_simp;unfold plainEq;by_cases g1:r.m=r'.m<;>by_cases g2:r.x=r'.x<;>by_cases g3:r.k=r'.k<;>by_cases g4:r.ch=r'.ch<;>simp [g1,g2,g3,g4,toList_iff]
  ·refine Each.fine rfl (fun ev w1 hR hb hh=>?_);have e9:(ev (.tmp 9)=.bool (plainEq r r')):=hh.at 0;clear hh;refine Each.Goes.same ?_;go_simp;try with_reducible rfl
  ·refine Each.fine_when 5 10 rfl rfl (fun ev w1 hh=>?_) (fun hg ev w1 hR hb hh=>?_)
   ·exact hh.at 0
   ·clear hh;have e2:=hR.old 2 rfl;simp only [Array.getD_eq_getD_getElem?,List.getElem?_toArray,List.getElem?_cons_succ,List.getElem?_cons_zero,Option.getD_some] at e2;refine Each.Goes.same ?_;go_simp;try with_reducible rfl
  ·refine Each.fine_when 5 10 rfl rfl (fun ev w1 hh=>?_) (fun hg ev w1 hR hb hh=>?_)
   ·exact hh.at 1
   ·have e11:=(show ((plainEq r r')=true→ev (.tmp 11)=.pointer (some ⟨w.heap.size,3,none⟩)) from hh.at 0) hg;clear hh;have q3:=(HA.out.below hb).c 3 _ rfl;refine Each.Goes.same ?_;go_simp;try with_reducible rfl
  ·refine Each.fine_when 5 10 rfl rfl (fun ev w1 hh=>?_) (fun hg ev w1 hR hb hh=>?_)
   ·exact hh.at 0
   ·clear hh;have e3:=hR.old 3 rfl;simp only [Array.getD_eq_getD_getElem?,List.getElem?_toArray,List.getElem?_cons_succ,List.getElem?_cons_zero,Option.getD_some] at e3;refine Each.Goes.same ?_;go_simp;try with_reducible rfl
  ·refine Each.fine_when 5 10 rfl rfl (fun ev w1 hh=>?_) (fun hg ev w1 hR hb hh=>?_)
   ·exact hh.at 1
   ·have e13:=(show ((plainEq r r')=true→ev (.tmp 13)=.pointer (some ⟨w.heap.size+1,3,none⟩)) from hh.at 0) hg;clear hh;have q3:=(HB.out.below hb).c 3 _ rfl;refine Each.Goes.same ?_;go_simp;try with_reducible rfl
  ·refine Each.fine_when 5 10 rfl rfl (fun ev w1 hh=>?_) (fun hg ev w1 hR hb hh=>?_)
   ·exact hh.at 2
   ·have e12:=(show ((plainEq r r')=true→ev (.tmp 12)=.slice fa r.fs.length fc) from hh.at 0) hg;have e14:=(show ((plainEq r r')=true→ev (.tmp 14)=.slice fa' r'.fs.length fc') from hh.at 1) hg;clear hh;have ef:=hR.func
    refine Each.Goes.enter 166 #[.slice fa r.fs.length fc,.slice fa' r'.fs.length fc'] (by go_simp) (((fields_any fa _ fc _ fa' _ fc' _ w1 (H1.out.below hb) (H1'.out.below hb) (by have:=HF.out.fs;omega) (by have:=HF'.out.fs;omega))).mono ?_);rintro e w2 ⟨rfl,q,hb2⟩;exact ⟨_,rfl,(by subst hb2;exact Base.below_drewN (Below.refl _ _) _),rfl⟩
  ·refine Each.fine rfl (fun ev w1 hR hb hh=>?_);have e10:(ev (.tmp 10)=.bool (plainEq r r')):=hh.at 0;have h15:((plainEq r r')=true→ev (.tmp 15)=.bool (decide (r.fs=r'.fs))):=hh.at 1;clear hh;have ec:=hR.const;refine Each.Goes.same ?_;rcases Bool.eq_false_or_eq_true (plainEq r r') with hx | hx
   ·rw [hx] at e10 ⊢;have e15:=h15 hx;go_simp;try with_reducible rfl
   ·rw [hx] at e10 ⊢;go_simp;try with_reducible rfl
  ·refine Each.fine rfl (fun ev w1 hR hb hh=>?_);have e16:(ev (.tmp 16)=.bool ((plainEq r r'&&decide (r.fs=r'.fs)))):=hh.at 0;clear hh;refine Each.Goes.same ?_;go_simp;try with_reducible rfl
  ·refine Each.fine_when 12 17 rfl rfl (fun ev w1 hh=>?_) (fun hg ev w1 hR hb hh=>?_)
   ·exact hh.at 0
   ·clear hh;have e2:=hR.old 2 rfl;simp only [Array.getD_eq_getD_getElem?,List.getElem?_toArray,List.getElem?_cons_succ,List.getElem?_cons_zero,Option.getD_some] at e2;refine Each.Goes.same ?_;go_simp;try with_reducible rfl
  ·refine Each.fine_when 12 17 rfl rfl (fun ev w1 hh=>?_) (fun hg ev w1 hR hb hh=>?_)
   ·exact hh.at 1
   ·have e18:=(show (((plainEq r r'&&decide (r.fs=r'.fs)))=true→ev (.tmp 18)=.pointer (some ⟨w.heap.size,5,none⟩)) from hh.at 0) hg;clear hh;have q5:=(HA.out.below hb).c 5 _ rfl;refine Each.Goes.same ?_;go_simp;try with_reducible rfl
  ·refine Each.fine_when 12 17 rfl rfl (fun ev w1 hh=>?_) (fun hg ev w1 hR hb hh=>?_)
   ·exact hh.at 0
   ·clear hh;have e3:=hR.old 3 rfl;simp only [Array.getD_eq_getD_getElem?,List.getElem?_toArray,List.getElem?_cons_succ,List.getElem?_cons_zero,Option.getD_some] at e3;refine Each.Goes.same ?_;go_simp;try with_reducible rfl
  ·refine Each.fine_when 12 17 rfl rfl (fun ev w1 hh=>?_) (fun hg ev w1 hR hb hh=>?_)
   ·exact hh.at 1
   ·have e20:=(show (((plainEq r r'&&decide (r.fs=r'.fs)))=true→ev (.tmp 20)=.pointer (some ⟨w.heap.size+1,5,none⟩)) from hh.at 0) hg;clear hh;have q5:=(HB.out.below hb).c 5 _ rfl;refine Each.Goes.same ?_;go_simp;try with_reducible rfl
  ·refine Each.fine_when 12 17 rfl rfl (fun ev w1 hh=>?_) (fun hg ev w1 hR hb hh=>?_)
   ·exact hh.at 2
   ·have e19:=(show (((plainEq r r'&&decide (r.fs=r'.fs)))=true→ev (.tmp 19)=.slice ba r.body.length bc) from hh.at 0) hg;have e21:=(show (((plainEq r r'&&decide (r.fs=r'.fs)))=true→ev (.tmp 21)=.slice ba' r'.body.length bc') from hh.at 1) hg;clear hh;have ef:=hR.func
    refine Each.Goes.enter 167 #[.slice ba r.body.length bc,.slice ba' r'.body.length bc'] (by go_simp) (((bytesEq_any ba _ bc _ ba' _ bc' _ w1 (H2.out.below hb) (H2'.out.below hb))).mono ?_);rintro e w2 ⟨rfl,hb2⟩;exact ⟨_,rfl,(by subst hb2;exact Below.refl _ _),rfl⟩
  ·refine Each.fine rfl (fun ev w1 hR hb hh=>?_);have e17:(ev (.tmp 17)=.bool ((plainEq r r'&&decide (r.fs=r'.fs)))):=hh.at 0;have h22:(((plainEq r r'&&decide (r.fs=r'.fs)))=true→ev (.tmp 22)=.bool (decide (r.body=r'.body))):=hh.at 1;clear hh;have ec:=hR.const;refine Each.Goes.same ?_;rcases Bool.eq_false_or_eq_true ((plainEq r r'&&decide (r.fs=r'.fs))) with hx | hx
   ·rw [hx] at e17 ⊢;have e22:=h22 hx;go_simp;try with_reducible rfl
   ·rw [hx] at e17 ⊢;go_simp;try with_reducible rfl
  ·refine Each.fine rfl (fun ev w1 hR hb hh=>?_);have e23:(ev (.tmp 23)=.bool (((plainEq r r'&&decide (r.fs=r'.fs))&&decide (r.body=r'.body)))):=hh.at 0;clear hh;refine Each.Goes.same ?_;go_simp;try with_reducible rfl
  ·refine Each.fine_when 19 24 rfl rfl (fun ev w1 hh=>?_) (fun hg ev w1 hR hb hh=>?_)
   ·exact hh.at 0
   ·clear hh;have e2:=hR.old 2 rfl;simp only [Array.getD_eq_getD_getElem?,List.getElem?_toArray,List.getElem?_cons_succ,List.getElem?_cons_zero,Option.getD_some] at e2;refine Each.Goes.same ?_;go_simp;try with_reducible rfl
  ·refine Each.fine_when 19 24 rfl rfl (fun ev w1 hh=>?_) (fun hg ev w1 hR hb hh=>?_)
   ·exact hh.at 1
   ·have e25:=(show ((((plainEq r r'&&decide (r.fs=r'.fs))&&decide (r.body=r'.body)))=true→ev (.tmp 25)=.pointer (some ⟨w.heap.size,6,none⟩)) from hh.at 0) hg;clear hh;have q6:=(HA.out.below hb).c 6 _ rfl;refine Each.Goes.same ?_;go_simp;try with_reducible rfl
  ·refine Each.fine_when 19 24 rfl rfl (fun ev w1 hh=>?_) (fun hg ev w1 hR hb hh=>?_)
   ·exact hh.at 0
   ·clear hh;have e3:=hR.old 3 rfl;simp only [Array.getD_eq_getD_getElem?,List.getElem?_toArray,List.getElem?_cons_succ,List.getElem?_cons_zero,Option.getD_some] at e3;refine Each.Goes.same ?_;go_simp;try with_reducible rfl
  ·refine Each.fine_when 19 24 rfl rfl (fun ev w1 hh=>?_) (fun hg ev w1 hR hb hh=>?_)
   ·exact hh.at 1
   ·have e27:=(show ((((plainEq r r'&&decide (r.fs=r'.fs))&&decide (r.body=r'.body)))=true→ev (.tmp 27)=.pointer (some ⟨w.heap.size+1,6,none⟩)) from hh.at 0) hg;clear hh;have q6:=(HB.out.below hb).c 6 _ rfl;refine Each.Goes.same ?_;go_simp;try with_reducible rfl
  ·refine Each.fine_when 19 24 rfl rfl (fun ev w1 hh=>?_) (fun hg ev w1 hR hb hh=>?_)
   ·exact hh.at 2
   ·have e26:=(show ((((plainEq r r'&&decide (r.fs=r'.fs))&&decide (r.body=r'.body)))=true→ev (.tmp 26)=.slice ta r.ts.length tc) from hh.at 0) hg;have e28:=(show ((((plainEq r r'&&decide (r.fs=r'.fs))&&decide (r.body=r'.body)))=true→ev (.tmp 28)=.slice ta' r'.ts.length tc') from hh.at 1) hg;clear hh;have ef:=hR.func
    refine Each.Goes.enter 166 #[.slice ta r.ts.length tc,.slice ta' r'.ts.length tc'] (by go_simp) (((fields_any ta _ tc _ ta' _ tc' _ w1 (H3.out.below hb) (H3'.out.below hb) (by have:=HF.out.ts;omega) (by have:=HF'.out.ts;omega))).mono ?_);rintro e w2 ⟨rfl,q,hb2⟩;exact ⟨_,rfl,(by subst hb2;exact Base.below_drewN (Below.refl _ _) _),rfl⟩
  ·refine Each.fine rfl (fun ev w1 hR hb hh=>?_);have e24:(ev (.tmp 24)=.bool (((plainEq r r'&&decide (r.fs=r'.fs))&&decide (r.body=r'.body)))):=hh.at 0;have h29:((((plainEq r r'&&decide (r.fs=r'.fs))&&decide (r.body=r'.body)))=true→ev (.tmp 29)=.bool (decide (r.ts=r'.ts))):=hh.at 1;clear hh;have ec:=hR.const;refine Each.Goes.same ?_;rcases Bool.eq_false_or_eq_true (((plainEq r r'&&decide (r.fs=r'.fs))&&decide (r.body=r'.body))) with hx | hx
   ·rw [hx] at e24 ⊢;have e29:=h29 hx;go_simp;try with_reducible rfl
   ·rw [hx] at e24 ⊢;go_simp;try with_reducible rfl
  ·refine Each.fine rfl (fun ev w1 hR hb hh=>?_);have e30:(ev (.tmp 30)=.bool ((((plainEq r r'&&decide (r.fs=r'.fs))&&decide (r.body=r'.body))&&decide (r.ts=r'.ts)))):=hh.at 0;clear hh;refine Each.Goes.same ?_;go_simp;try with_reducible rfl
 intro g1 w2 hb hf;have z4:(g1 4=.bool ((((plainEq r r'&&decide (r.fs=r'.fs))&&decide (r.body=r'.body))&&decide (r.ts=r'.ts)))):=hf.at 26;clear hf;simp only [Each.putg,Act.put,List.setIfInBounds_toArray,List.set_cons_zero,List.set_cons_succ];rw [z4];go_wp2;go_ret;exact ⟨rfl,Base.below_step hbw0.out hb⟩
end code
end Go.Proofs.YtldhlecknfomjaaGreatDoor.Rec
namespace Go.Proofs.YtldhlecknfomjaaGreatDoor.Txt
open Go.RowKit Base Oct
theorem stands_isIn (set:ByteArray) (x:UInt8):stands set.data.toList (x.toNat:Int)=isIn set x:=by
 unfold stands isIn;rw [Bool.eq_iff_iff,List.any_eq_true,List.contains_iff_exists_mem_beq];constructor
 ·rintro ⟨b,hb,e⟩;exact ⟨b,hb,by rw [beq_iff_eq] at e ⊢;exact (UInt8.toNat_inj.1 (by omega)).symm⟩
 ·rintro ⟨b,hb,e⟩;rw [beq_iff_eq] at e;subst e;exact ⟨x,hb,by simp⟩
def Bytes (w:World) (g:Nat) (l:List UInt8):Prop:=∀j (h:j<l.length),w.cell? ⟨g,j,none⟩=some (.int .u8 (l[j].toNat:Int))∧w.frozen? ⟨g,j,none⟩=false
theorem Bytes.set {w:World} {g:Nat} {l:List UInt8} (h:Bytes w g l) (k:Nat) (b:UInt8):Bytes (w.setCell ⟨g,k,none⟩ (.int .u8 (b.toNat:Int))) g (l.set k b):=by
 intro j hj;rw [List.length_set] at hj;obtain ⟨c,z⟩:=h j hj;refine ⟨?_,by rw [World.frozen?_setCell];exact z⟩;by_cases e:k=j
 ·subst e;rw [World.cell?_setCell_same _ _ _ c,List.getElem_set_self]
 ·rw [World.cell?_setCell_other _ _ _ _ (by simp<;>omega),List.getElem_set_ne e];exact c
theorem conv_bytes (s:ByteArray) (w:World):∃W cap,(convert 9 23 (.string s)).run Tryz.prog w=.ok (.slice (some ⟨w.heap.size,0,none⟩) s.size cap) W∧Bytes W w.heap.size s.data.toList∧w.heap.size<W.heap.size∧Below w.heap.size w W:=by
 have hcv:=run_bytes_of_string (P:=Tryz.prog) w 9 23 5 s Tryz.underlying9 Tryz.underlying23 Tryz.underlying5;refine ⟨_,_,hcv,fun j hj=>?_,by simp,(Below.refl _ _).drew.alloc (Nat.le_refl _) _⟩;have hj':j<s.data.size:=by simpa using hj
 refine ⟨(World.cell?_alloc_mark w.drew _ _ _ j).trans (bytesRow_at s _ j hj'),(World.frozen?_alloc_mark w.drew _ _ _ _ j).trans ?_⟩;have:¬(bytesRow s (grownCap w s.size 0 5)).size≤j:=by unfold bytesRow;rw [Array.size_append,Array.size_map];omega
 simp [this]
theorem mix_put (l:List UInt8) (k:Nat) (h:k<l.length):(mix l k).set k (lowB l[k])=mix l (k+1):=by
 unfold mix low;rw [List.set_append_right _ _ (by simp;omega),List.take_succ_eq_append_getElem h,List.drop_eq_getElem_cons h];have:k-(List.map lowB (List.take k l)).length=0:=by simp;omega
 rw [this,List.set_cons_zero,List.map_append,List.append_assoc];rfl
theorem mix_get (l:List UInt8) (k:Nat) (h:k<l.length):(mix l k)[k]'(by rw [mix_length];exact h)=l[k]:=by
 unfold mix low;rw [List.getElem_append_right (by simp;omega)];have:k-(List.map lowB (List.take k l)).length=0:=by simp;omega
 simp only [this,List.getElem_drop,Nat.add_zero]
theorem mix_skip (l:List UInt8) (k:Nat) (h:k<l.length) (e:lowB l[k]=l[k]):mix l k=mix l (k+1):=by rw [←mix_put l k h,e,←mix_get l k h,List.set_getElem_self]
def tbytes:Value→Nat
 | .string t=>t.size
 | _=>0
section code
set_option maxHeartbeats 1000000
attribute [local go_sem] Base.some_undef
theorem rlower_any (s:ByteArray) (w:World) (hs:s.size≤1099511627776):Calls Tryz.prog 134 #[.string s] w fun e w'=>e=.returned (.string (lower s))∧Below w.heap.size w w':=by
 obtain ⟨W,cap,hcv,hB,hg,hb⟩:=conv_bytes s w
 have hB0:=Lib.hid (show Bytes W w.heap.size (mix s.data.toList 0) by rw [mix_zero];exact hB);have hb0:=Lib.hid hb;clear hB hb;go_enter Tryz.func134,Tryz.ntmps134;go_wp2;clear hcv;generalize hgw:w.heap.size=g at *;have HG:=Lib.hid hgw;clear hgw
 go_loopw [4] (fun i wr=>∃k:Nat,k≤s.size∧i=.int .i64 k∧Hid (Bytes wr g (mix s.data.toList k))∧Hid (Below g w wr)) (fun i _=>s.size-(intOf i).toNat)
 case atStart=>exact ⟨0,Nat.zero_le _,rfl,hB0,hb0⟩
 case round=>
  obtain ⟨k,hk,rfl,hB,hbr⟩:=hrel;rcases Nat.lt_or_ge k s.size with hlt | hge
  ·have hll:k<s.data.toList.length:=by rw [len];exact hlt
   obtain ⟨hc,hz⟩:=hB.out k (by rw [mix_length];exact hll);rw [mix_get _ _ hll] at hc;have i1:(k:Int)<(s.size:Int):=by omega
   have hb0:0≤(s.data.toList[k].toNat:Int):=by omega
   have hb1:=byte_lt s.data.toList[k];by_cases hx:65≤s.data.toList[k].toNat∧s.data.toList[k].toNat≤90
   ·obtain ⟨x0,x1⟩:=hx;have e0:=lowB_toNat s.data.toList[k];have e1:lowN (s.data.toList[k].toNat:Int)=(s.data.toList[k].toNat:Int)+32:=by unfold lowN;rw [if_pos (by omega)]
    have hset:=(hB.out.set k (lowB s.data.toList[k]));rw [mix_put _ _ hll,e0,e1] at hset;have HS:=Lib.hid hset;have y0:(65:Int)≤(s.data.toList[k].toNat:Int):=by omega
    have y1:(s.data.toList[k].toNat:Int)≤90:=by omega
    clear e0 e1 hset x0 x1;generalize (s.data.toList[k].toNat:Int)=x at *;have e2:IntKind.u8.wrap (x+32)=x+32:=by rw [IntKind.wrap_u8];omega
    go_wp2;go_roundw
    case rel=>exact ⟨k+1,by omega,by go_num,HS,Lib.hid (hbr.out.setCell (Nat.le_refl _) _)⟩
    case measure=>simp [intOf];omega
   ·have e0:lowB s.data.toList[k]=s.data.toList[k]:=by unfold lowB;rw [if_neg hx]
    have hB2:=hB.out;rw [mix_skip _ _ hll e0] at hB2;have HS:=Lib.hid hB2;clear hB2 e0;rcases Nat.lt_or_ge s.data.toList[k].toNat 65 with h | h
    ·have y0:¬(65:Int)≤(s.data.toList[k].toNat:Int):=by omega
     generalize (s.data.toList[k].toNat:Int)=x at *;go_wp2;go_roundw
     case rel=>exact ⟨k+1,by omega,by go_num,HS,hbr⟩
     case measure=>simp [intOf];omega
    ·have y0:(65:Int)≤(s.data.toList[k].toNat:Int):=by omega
     have y1:¬(s.data.toList[k].toNat:Int)≤90:=by omega
     generalize (s.data.toList[k].toNat:Int)=x at *;go_wp2;go_roundw
     case rel=>exact ⟨k+1,by omega,by go_num,HS,hbr⟩
     case measure=>simp [intOf];omega
  ·obtain rfl:k=s.size:=by omega
   have hconv:=run_convert_bytes_back (P:=Tryz.prog) wr 23 9 5 ⟨g,0,none⟩ cap (low s.data.toList) Tryz.underlying23 Tryz.underlying5 Tryz.underlying9 (fun j hj=>by
    have h1:=(hB.out j (by rw [mix_length];simpa [low] using hj)).1;have e:(⟨g,0,none⟩:Addr).add j=⟨g,j,none⟩:=by unfold Addr.add;by_cases h:j=0<;>simp [h]
    rw [e,h1]
    congr 4
    simp only [mix_all s.data.toList s.size (by rw [len];exact Nat.le_refl _)])
   have hl:(low s.data.toList).length=s.size:=by rw [low,List.length_map,len]
   rw [hl] at hconv;go_wp2;go_ret;exact ⟨rfl,by rw [HG.out];exact hbr.out⟩
theorem rsame_any (a b:ByteArray) (w:World) (ha:a.size≤1099511627776) (hb:b.size≤1099511627776):Calls Tryz.prog 88 #[.string a,.string b] w fun e w'=>e=.returned (.bool (same a b))∧Below w.heap.size w w':=by
 have h1:=Lib.hid (fun w=>rlower_any a w ha)
 have h2:=Lib.hid (fun w=>rlower_any b w hb);have hr:((lower a).toList==(lower b).toList)=same a b:=by rw [Lib.toList_data,Lib.toList_data];rfl
 generalize lower a=x at *;generalize lower b=y at *;go_enter Tryz.func88,Tryz.ntmps88
 go_wp2_with (first
  |(go_at_call 134;with_reducible refine (h1.out _).mono ?_;rintro e w1 ⟨rfl,hb1⟩)
  |(go_at_call 134;with_reducible refine (h2.out _).mono ?_;rintro e w2 ⟨rfl,hb2⟩))
 go_ret;exact ⟨by rw [←hr];rfl,Base.below_step hb1 hb2⟩
theorem first_of (t:ByteArray) (h:0<t.size):t.data.toList=t[0]::t.data.toList.drop 1∧(t.extract 1 t.size).data.toList=t.data.toList.drop 1∧t.toList.isEmpty=false:=by
 have hl:0<t.data.toList.length:=by rw [len];exact h
 have e:t.data.toList=t[0]::t.data.toList.drop 1:=by
  conv=>lhs;rw [←List.drop_zero (l:=t.data.toList),List.drop_eq_getElem_cons hl]
  rfl
 refine ⟨e,?_,?_⟩
 ·rw [Lib.extract_data,List.take_of_length_le (by rw [List.length_drop,len];exact Nat.le_refl _)]
 ·rw [Lib.toList_data,e];rfl
theorem last_of (t:ByteArray) (h:0<t.size):t.data.toList=t.data.toList.take (t.size-1) ++ [t[t.size-1]]∧(t.extract 0 (t.size-1)).data.toList=t.data.toList.take (t.size-1)∧t.toList.isEmpty=false:=by
 have e:=take_snoc t (t.size-1) (by omega);rw [show t.size-1+1=t.size by omega,take_all t _ (Nat.le_refl _)] at e;refine ⟨e,?_,?_⟩
 ·rw [Lib.extract_data,List.drop_zero,Nat.sub_zero]
 ·rw [Lib.toList_data];cases hl:t.data.toList with
  | nil=>exfalso;have h2:=len t;rw [hl,List.length_nil] at h2;omega
  | cons _ _=>rfl
theorem in_any (x:UInt8) (r:Bool) (set:ByteArray) (w:World) (ht:set.size≤maxLen) (hq:isIn set x=r):Calls Tryz.prog 185 #[.int .u8 x.toNat,.string set] w fun e w'=>e=.returned (.bool r)∧w'=w:=by have:=Oct.stands_any (x.toNat:Int) set w ht;rw [stands_isIn,hq] at this;exact this
theorem rtrimOf_any (s set:ByteArray) (w:World) (ht:set.size≤maxLen) (hs:s.size≤maxLen):Calls Tryz.prog 158 #[.string s,.string set] w fun e w'=>e=.returned (.string (trimOf s set))∧w'=w:=by
 unfold maxLen at hs;go_enter Tryz.func158,Tryz.ntmps158;go_wp2
 go_loop [0] (fun x=>∃t:ByteArray,x=.string t∧t.size≤s.size∧Hid (t.data.toList.dropWhile (isIn set)=s.data.toList.dropWhile (isIn set))) (fun x=>tbytes x)
 case atStart=>exact ⟨s,rfl,Nat.le_refl _,Lib.hid rfl⟩
 case round=>
  obtain ⟨t,rfl,hts,hdw⟩:=hrel;by_cases hgo:∃h:0<t.size,isIn set t[0]=true
  ·obtain ⟨h0,hq⟩:=hgo
   have HC:=Lib.hid (in_any t[0] true set w ht hq);obtain ⟨e1,e2,e3⟩:=first_of t h0
   have HD:=Lib.hid (show (t.extract 1 t.size).data.toList.dropWhile (isIn set)=s.data.toList.dropWhile (isIn set) by
    rw [←hdw.out,e2]
    conv=>rhs;rw [e1,List.dropWhile_cons,if_pos hq])
   have i0:t.toList.isEmpty=false:=e3;have i1:(1:Int)≤(t.size:Int):=by omega
   have i2:(t.size:Int)≤9223372036854775807:=by omega
   have hsz:(t.extract 1 t.size).size=t.size-1:=by rw [ByteArray.size_extract];omega
   clear e1 e2 e3 hq
   go_wp2_with (go_at_call 185;with_reducible refine HC.out.mono ?_;rintro e w' ⟨rfl,hw⟩;rw [hw];clear hw);go_round
   case rel=>exact ⟨_,rfl,by omega,HD⟩
   case measure=>simp [tbytes];omega
  ·have hst:t.data.toList.dropWhile (isIn set)=t.data.toList:=by
    rcases Nat.eq_zero_or_pos t.size with h0 | h0
    ·have:t.data.toList= []:=List.length_eq_zero_iff.1 (by rw [len];exact h0);rw [this];rfl
    ·obtain ⟨e1,_,_⟩:=first_of t h0;rw [e1];refine dropWhile_stop ?_;cases hq:isIn set t[0] with
     | false=>rfl
     | true=>exact absurd ⟨h0,hq⟩ hgo
   have hfin:=Lib.hid (show trimL (isIn set) s.data.toList=(t.data.toList.reverse.dropWhile (isIn set)).reverse by unfold trimL;rw [←hdw.out,hst])
   have hlast:=Lib.hid (show∀h:0<t.size,isIn set t[0]=false from fun h=>by
    cases hq:isIn set t[0] with
    | false=>rfl
    | true=>exact absurd ⟨h,hq⟩ hgo)
   clear hgo hst;rcases Nat.eq_zero_or_pos t.size with h0 | h0
   all_goals (first
    |(have i0:t.toList.isEmpty=false:=(first_of t h0).2.2
      have HC:=Lib.hid (in_any t[0] false set w ht (hlast.out h0))
      (go_wp2_with (go_at_call 185;with_reducible refine HC.out.mono ?_;rintro e w' ⟨rfl,hw⟩;rw [hw];clear hw)))
    |(have i0:t.toList.isEmpty=true:=by
       rw [Lib.toList_data,List.length_eq_zero_iff.1 (show t.data.toList.length=0 by rw [len];exact h0)];rfl
      go_wp2))
   all_goals
    clear i0
    go_loop [0] (fun x=>∃u:ByteArray,x=.string u∧u.size≤t.size∧Hid (u.data.toList.reverse.dropWhile (isIn set)=t.data.toList.reverse.dropWhile (isIn set))) (fun x=>tbytes x)
    case atStart=>exact ⟨t,rfl,Nat.le_refl _,Lib.hid rfl⟩
    case round=>
     obtain ⟨u,rfl,hus,hrv⟩:=hrel;rcases Nat.eq_zero_or_pos u.size with hu0 | hu0
     ·have e0:u.data.toList= []:=List.length_eq_zero_iff.1 (by rw [len];exact hu0);have i0:u.toList.isEmpty=true:=by rw [Lib.toList_data,e0];rfl
      have HF:=Lib.hid (show u=trimOf s set from ba_ext (by rw [trimOf,trimB_list,hfin.out,←hrv.out,e0];rfl))
      clear e0;go_wp2;go_ret;exact ⟨by rw [←HF.out];rfl,rfl⟩
     ·first
      |(exfalso;omega)
      |(
       obtain ⟨e1,e2,e3⟩:=last_of u hu0;have i0:u.toList.isEmpty=false:=e3;have i1:u.size-1<u.size:=by omega
       have i3:(u.size:Int)-1<(u.size:Int):=by omega
       have i4:0≤(u.size:Int)-1:=by omega
       have i5:IntKind.i64.wrap ((u.size:Int)-1)=(u.size:Int)-1:=wrap_in _ (by omega) (by omega);have i6:((u.size:Int)-1).toNat=u.size-1:=by omega
       have i7:(u.size:Int)-1≤(u.size:Int):=by omega
       cases hq:isIn set u[u.size-1] with
       | true=>
         have HC:=Lib.hid (in_any u[u.size-1] true set w ht hq)
         have HD:=Lib.hid (show (u.extract 0 (u.size-1)).data.toList.reverse.dropWhile (isIn set)=t.data.toList.reverse.dropWhile (isIn set) by
          rw [←hrv.out,e2]
          conv=>rhs;rw [e1,List.reverse_append,List.reverse_singleton,List.singleton_append,List.dropWhile_cons,if_pos hq])
         have hsz:(u.extract 0 (u.size-1)).size=u.size-1:=by rw [ByteArray.size_extract];omega
         clear e1 e2 e3 hq
         go_wp2_with (go_at_call 185;with_reducible refine HC.out.mono ?_;rintro e w' ⟨rfl,hw⟩;rw [hw];clear hw);go_round
         case rel=>exact ⟨_,rfl,by omega,HD⟩
         case measure=>simp [tbytes];omega
       | false=>
         have HC:=Lib.hid (in_any u[u.size-1] false set w ht hq)
         have HF:=Lib.hid (show u=trimOf s set from ba_ext (by rw [trimOf,trimB_list,hfin.out,←hrv.out,e1,List.reverse_append,List.reverse_singleton,List.singleton_append,dropWhile_stop hq];simp))
         clear e1 e2 e3 hq
         go_wp2_with (go_at_call 185;with_reducible refine HC.out.mono ?_;rintro e w' ⟨rfl,hw⟩;rw [hw];clear hw);go_ret;exact ⟨by rw [←HF.out];rfl,rfl⟩)
theorem rtrim_any (s:ByteArray) (w:World) (hs:s.size≤maxLen):Calls Tryz.prog 113 #[.string s] w fun e w'=>e=.returned (.string (trim s))∧w'=w:=by
 have h:=Lib.hid (rtrimOf_any s ⟨#[32,9]⟩ w (by decide) hs);have e:trimOf s ⟨#[32,9]⟩=trim s:=by
  unfold trimOf trim
  congr 1
  funext x
  simp only [isIn,blank,List.contains_cons,List.contains_nil,Bool.or_false]
 rw [e] at h;go_enter Tryz.func113,Tryz.ntmps113
 go_wp2_with (go_at_call 158;with_reducible refine h.out.mono ?_;rintro e w' ⟨rfl,rfl⟩);go_ret;exact ⟨rfl,rfl⟩
end code
end Go.Proofs.YtldhlecknfomjaaGreatDoor.Txt
namespace Go.Proofs.YtldhlecknfomjaaGreatDoor.Txt
open Go.RowKit Base Oct
def Part (c:UInt8) (l:List UInt8) (f k:Nat) (done:List (List UInt8)):Prop:=
 (k≤l.length∧f≤k∧parts c l=done++parts c (l.drop f)∧c∉(l.drop f).take (k-f))∨(k=l.length+1∧f=l.length+1∧parts c l=done)
section code
set_option maxHeartbeats 1000000
attribute [local go_sem] Base.some_undef
end code
end Go.Proofs.YtldhlecknfomjaaGreatDoor.Txt
namespace Go.Proofs.YtldhlecknfomjaaGreatDoor.Txt
open Go.RowKit Base Oct
section code
set_option maxHeartbeats 1000000
set_option maxRecDepth 10000
attribute [local go_sem] Base.some_undef
theorem rfind_any (a:Option Addr) (n cap:Nat) (fs:List Fld) (name:ByteArray) (w:World) (hv:Flds w a n fs) (hn:n≤1000000000) (hs:∀f∈fs,f.1.size≤1000000000) (ht:name.size≤1000000000) :
 Calls Tryz.prog 32 #[.slice a n cap,.string name] w fun e w'=>∃b m c,e=.returned (.slice b m c)∧m=(find fs name).length∧Strs w' b m (find fs name)∧Below w.heap.size w w':=by
 have HV:=Lib.hid hv;have HL:=Lib.hid hv.1;have HS:=Lib.hid hs;clear hv hs;obtain ⟨i0,hi,hz0,hz1,hz2⟩:=info_parts text_info;have G1:=Lib.hid hi;have G2:=Lib.hid hz0;have G3:=Lib.hid hz1;have G4:=Lib.hid hz2;clear hi hz0 hz1 hz2;go_enter Tryz.func32,Tryz.ntmps32;go_wp2
 go_loopw [5,6] (fun v i wr=>∃k:Nat,k≤n∧i=.int .i64 k∧Hid (wr.ownsRow w.heap.size 9 1 v (find (fs.take k) name).length ((find (fs.take k) name).map Value.string))∧Hid (Below w.heap.size w wr)) (fun _ i _=>n-(intOf i).toNat)
 case atStart=>exact ⟨0,Nat.zero_le _,rfl,Lib.hid ⟨rfl,.inl ⟨rfl,rfl⟩⟩,Lib.hid (Below.refl _ _)⟩
 case round=>
  obtain ⟨k,hk,rfl,hown,hbr⟩:=hrel;rcases Nat.lt_or_ge k n with hlt | hge
  ·obtain ⟨bl,off,rfl,hbl,hc⟩:=(HV.out.below hbr.out).2 (by omega);obtain ⟨hc0,hc1⟩:=hc k hlt
   have hsn:=Lib.hid (find_snoc fs name k (by rw [HL.out];exact hlt));have hfl:=find_le (fs.take k) name;rw [List.length_take] at hfl;have hsz:(fs[k]?.getD dflt).1.size≤1000000000:=by
    have:k<fs.length:=by rw [HL.out];exact hlt
    rw [List.getElem?_eq_getElem this]
    exact HS.out _ (List.getElem_mem _)
   clear hc;generalize fs[k]?.getD dflt=f at *;generalize hL:find (fs.take k) name=L at *;obtain ⟨f0,f1⟩:=f;simp only at hc0 hc1 hsz hsn
   have HC:=Lib.hid (fun w=>rsame_any f0 name w (by omega) (by omega));clear hsz hL;cases hq:same f0 name with
   | false=>
     rw [hq] at HC hsn;rw [if_neg (by decide),List.append_nil] at hsn;clear hq
     go_wp2_with (go_at_call 88;with_reducible refine (HC.out _).mono ?_;rintro e w2 ⟨rfl,hb2⟩);have hb0:Below wr.heap.size wr w2:=hb2
     have H2:Hid (w2.ownsRow w.heap.size 9 1 u5 (find (fs.take (k+1)) name).length ((find (fs.take (k+1)) name).map Value.string)):=Lib.hid (by rw [hsn.out];exact own_below hown.out hb0)
     have H3:=Lib.hid (Base.below_step hbr.out hb0);clear hown hb2 hb0;go_roundw
     case rel=>exact ⟨k+1,by omega,by go_num,H2,H3⟩
     case measure=>simp [intOf];omega
   | true=>
     rw [hq] at HC hsn;rw [if_pos rfl] at hsn;clear hq
     go_wp2_with (first
      |(go_at_call 88;with_reducible refine (HC.out _).mono ?_;rintro e w2 ⟨rfl,hb2⟩
        have hf1:=(hb2.cell (p:=⟨bl,off+k*2+1,none⟩) hbl).trans hc1
        have hb0:=Lib.hid (show Below wr.heap.size wr w2 from hb2)
        have hown0:=Lib.hid (own_below hown.out hb0.out))
      |(at_builtin;refine wpList_append_own _ rfl _ _ 46 rfl w.heap.size 9 i0 (.string ByteArray.empty) 1 16 Tryz.underlying46 G1.out G2.out G3.out G4.out rfl (by decide) _ _ _ rfl (hown0.out.alloc _) ⟨w2.heap.size,0,none⟩ 1 1 [.string f1] rfl rfl ?c1 ?c2 ?c3 ?c4 ?c5 ?_))
     case c1=>exact news_one w2 _ _
     case c2=>intro u hu;obtain rfl:u=.string f1:=by simpa using hu
              rfl
     case c3=>unfold maxLen;omega
     case c4=>omega
     case c5=>have:=hbr.out.size;have:=hb0.out.size;simp;omega
     intro v' w' hown' hgr _
     have H2:Hid (w'.ownsRow w.heap.size 9 1 v' (find (fs.take (k+1)) name).length ((find (fs.take (k+1)) name).map Value.string)):=Lib.hid (by rw [hsn.out];simpa using hown')
     have H3:=Lib.hid (((Base.below_step hbr.out hb0.out).alloc (by have:=hbr.out.size;have:=hb0.out.size;omega) _).grown hgr (by have:=hbr.out.size;have:=hb0.out.size;simp;omega) (own_base hown.out));clear hown' hgr hown hown0;go_wp2;go_roundw
     case rel=>exact ⟨k+1,by omega,by go_num,H2,H3⟩
     case measure=>simp [intOf];omega
  ·obtain rfl:k=n:=by omega
   have hown1:=hown.out;rw [List.take_of_length_le (by rw [HL.out];omega)] at hown1;obtain ⟨A,c,rfl,hA⟩:=Strs.of_own hown1;have HA:=Lib.hid hA;clear hown1 hA hown;go_wp2;go_ret;exact ⟨A,_,c,rfl,rfl,HA.out,hbr.out⟩
end code
end Go.Proofs.YtldhlecknfomjaaGreatDoor.Txt
namespace Go.Proofs.YtldhlecknfomjaaGreatDoor.Rec
open Go.RowKit Base Txt
section code
set_option maxHeartbeats 1000000
attribute [local go_sem] Base.some_undef
end code
end Go.Proofs.YtldhlecknfomjaaGreatDoor.Rec
namespace Go.Proofs.YtldhlecknfomjaaGreatDoor.Rec
open Go.RowKit Base Txt
def RecAt (w:World) (b o:Nat) (r:R):Prop:=
 ∃(fa:Option Addr) (fc:Nat) (ba:Option Addr) (bc:Nat) (ta:Option Addr) (tc:Nat),
  (w.cell? ⟨b,o,none⟩=some (.string r.m)∧w.cell? ⟨b,o+1,none⟩=some (.string r.x)∧w.cell? ⟨b,o+2,none⟩=some (.int .i64 r.k)∧w.cell? ⟨b,o+3,none⟩=some (.slice fa r.fs.length fc)∧
   w.cell? ⟨b,o+4,none⟩=some (.bool r.ch)∧w.cell? ⟨b,o+5,none⟩=some (.slice ba r.body.length bc)∧w.cell? ⟨b,o+6,none⟩=some (.slice ta r.ts.length tc))∧
  Reads w (.agg #[.string r.m,.string r.x,.int .i64 r.k,.slice fa r.fs.length fc,.bool r.ch,.slice ba r.body.length bc,.slice ta r.ts.length tc]) r
theorem RecAt.below {w w':World} {b o:Nat} {r:R} (h:RecAt w b o r) (hlt:b<w.heap.size) (hb:Below w.heap.size w w'):RecAt w' b o r:=by
 obtain ⟨fa,fc,ba,bc,ta,tc,⟨c0,c1,c2,c3,c4,c5,c6⟩,hr⟩:=h
 exact ⟨fa,fc,ba,bc,ta,tc,⟨(hb.cell (p:=⟨b,o,none⟩) hlt).trans c0,(hb.cell (p:=⟨b,o+1,none⟩) hlt).trans c1,(hb.cell (p:=⟨b,o+2,none⟩) hlt).trans c2,(hb.cell (p:=⟨b,o+3,none⟩) hlt).trans c3,
  (hb.cell (p:=⟨b,o+4,none⟩) hlt).trans c4,(hb.cell (p:=⟨b,o+5,none⟩) hlt).trans c5,(hb.cell (p:=⟨b,o+6,none⟩) hlt).trans c6⟩,hr.below hb⟩
def r0:R:=⟨ByteArray.empty,ByteArray.empty,0,[],false,[],[]⟩
def Recs (w:World) (a:Option Addr) (n:Nat) (rs:List R):Prop:=
 rs.length=n∧(0<n→∃b off,a=some ⟨b,off,none⟩∧b<w.heap.size∧∀k,k<n→RecAt w b (off+k*7) (rs[k]?.getD r0))
theorem Recs.below {w w':World} {a:Option Addr} {n:Nat} {rs:List R} (h:Recs w a n rs) (hb:Below w.heap.size w w'):Recs w' a n rs:=by refine ⟨h.1,fun hn=>?_⟩;obtain ⟨b,off,e,hlt,hc⟩:=h.2 hn;exact ⟨b,off,e,Nat.lt_of_lt_of_le hlt hb.size,fun k hk=>(hc k hk).below hlt hb⟩
theorem all_iff:∀a b:List R,all a b=true↔a=b
 | [],[]=>by simp [all]
 | [],_ :: _=>by simp [all]
 | _ :: _,[]=>by simp [all]
 | x::a,y::b=>by rw [all,Bool.and_eq_true,same_iff,all_iff a b,List.cons.injEq]
theorem all_len (a b:List R) (h:¬a.length=b.length):all a b=false:=by
 rw [Bool.eq_false_iff]
 exact fun e=>h (by rw [(all_iff a b).1 e])
theorem take_eq (xs ys:List R) (k:Nat) (hx:k<xs.length) (hy:k<ys.length) (h:xs.take k=ys.take k) (e:xs[k]?.getD r0=ys[k]?.getD r0):xs.take (k+1)=ys.take (k+1):=by
 rw [List.take_succ_eq_append_getElem hx,List.take_succ_eq_append_getElem hy,h];rw [List.getElem?_eq_getElem hx,List.getElem?_eq_getElem hy] at e
 congr 2
theorem fit_at {rs:List R} (h:∀r∈rs,Fit r) (k:Nat) (hk:k<rs.length):Fit (rs[k]?.getD r0):=by rw [List.getElem?_eq_getElem hk];exact h _ (List.getElem_mem hk)
theorem flat_at {α:Type} (f:α→List Value):∀(ps:List α) (k i:Nat) (hk:k<ps.length),(∀p∈ps,(f p).length=7)→i<7→(ps.flatMap f)[k*7+i]?=(f ps[k])[i]?
 | [],k,_,hk,_,_=>by simp at hk
 | p::ps,0,i,_,h,hi=>by
   rw [List.flatMap_cons,Nat.zero_mul,Nat.zero_add,List.getElem?_append_left (by rw [h p (by simp)];exact hi)];rfl
 | p::ps,k+1,i,hk,h,hi=>by
   have h7:=h p (by simp);rw [List.flatMap_cons,List.getElem?_append_right (by rw [h7];omega),h7,show (k+1)*7+i-7=k*7+i by omega];simpa using flat_at f ps k i (by simpa using hk) (fun q hq=>h q (by simp [hq])) hi
theorem Recs.lit {w:World} {g:Nat} (ps:List (Array Value × R)) (hB:Bk w g (ps.flatMap (·.1.toList))) (hR:∀p∈ps,Reads w (.agg p.1) p.2):Recs w (some ⟨g,0,none⟩) ps.length (ps.map (·.2)):=by
 refine ⟨by simp,fun _=>⟨g,0,rfl,hB.lt,fun k hk=>?_⟩⟩;have hlen:∀p∈ps,p.1.toList.length=7:=fun p hp=>by obtain ⟨fa,fc,ba,bc,ta,tc,e,_⟩:=hR p hp;simp only [Value.agg.injEq] at e;rw [e];rfl
 have h:=hR ps[k] (List.getElem_mem hk);obtain ⟨fa,fc,ba,bc,ta,tc,e,h1,h2,h3⟩:=id h;simp only [Value.agg.injEq] at e;have hv:(ps.map (·.2))[k]?.getD r0=ps[k].2:=by rw [List.getElem?_map,List.getElem?_eq_getElem hk];rfl
 have hc:∀i v,i<7→ps[k].1.toList[i]?=some v→w.cell? ⟨g,k*7+i,none⟩=some v:=fun i v hi hv=>hB.c _ _ ((flat_at _ ps k i hk hlen hi).trans hv);rw [e] at hc;rw [Nat.zero_add,hv];refine ⟨fa,fc,ba,bc,ta,tc,⟨hc 0 _ (by decide) rfl,hc 1 _ (by decide) rfl,hc 2 _ (by decide) rfl,hc 3 _ (by decide) rfl,hc 4 _ (by decide) rfl,hc 5 _ (by decide) rfl,hc 6 _ (by decide) rfl⟩,?_⟩;rw [←e];exact h
section code
set_option maxHeartbeats 2000000
theorem equalFunc_any (a:Option Addr) (n cap:Nat) (rs:List R) (b:Option Addr) (m cap2:Nat) (qs:List R) (w:World) (hv:Recs w a n rs) (hu:Recs w b m qs) (hn:n≤1000000000) (hm:m≤1000000000) (hf:∀r∈rs,Fit r) (hg:∀r∈qs,Fit r) :
 Calls Tryz.prog 132 #[.slice a n cap,.slice b m cap2,.func (.func 133) #[] #[]] w fun e w'=>e=.returned (.bool (all rs qs))∧Below w.heap.size w w':=by
 have eg:∀args w,(callFunc 133 args).run Tryz.prog w=.ok (.enter 133 args) w:=enters_of Tryz.func133 (by kernel_rfl) rfl;have HV:=Lib.hid hv;have HU:=Lib.hid hu;have HF:=Lib.hid hf;have HG:=Lib.hid hg;have HL:=Lib.hid hv.1;have HM:=Lib.hid hu.1;by_cases hnm:n=m
 ·subst hnm;clear hv hu hf hg;obtain ⟨B,hB⟩:∃B,all rs qs=B:=⟨_,rfl⟩;rw [hB];have HB:=Lib.hid hB;clear hB;go_enter Tryz.func132,Tryz.ntmps132;go_wp2
  go_loopw [17] (fun i wr=>∃k:Nat,k≤n∧i=.int .i64 k∧Hid (rs.take k=qs.take k)∧Hid (Below w.heap.size w wr)) (fun i _=>n-(intOf i).toNat)
  case atStart=>exact ⟨0,Nat.zero_le _,rfl,Lib.hid rfl,Lib.hid (Below.refl _ _)⟩
  case round=>
   obtain ⟨k,hk,rfl,hpre,hbr⟩:=hrel;rcases Nat.lt_or_ge k n with hlt | hge
   ·obtain ⟨bl,off,rfl,hbl,hc⟩:=(HV.out.below hbr.out).2 (by omega)
    obtain ⟨bl',off',rfl,hbl',hc'⟩:=(HU.out.below hbr.out).2 (by omega);have hkr:k<rs.length:=by rw [HL.out];exact hlt
    have hkq:k<qs.length:=by rw [HM.out];exact hlt
    have h1:=hc k hlt;have h2:=hc' k hlt;have f1:=fit_at HF.out k hkr;have f2:=fit_at HG.out k hkq
    have HN:=Lib.hid (take_eq rs qs k hkr hkq hpre.out)
    have HX:=Lib.hid (show rs=qs→rs[k]?.getD r0=qs[k]?.getD r0 from fun e=>by rw [e]);clear hc hc' hkr hkq;generalize rs[k]?.getD r0=x at *;generalize qs[k]?.getD r0=y at *;obtain ⟨fa,fc,ba,bc,ta,tc,⟨c0,c1,c2,c3,c4,c5,c6⟩,hr1⟩:=h1;obtain ⟨fa',fc',ba',bc',ta',tc',⟨d0,d1,d2,d3,d4,d5,d6⟩,hr2⟩:=h2
    have HC:=Lib.hid (fun w2 (hb:Below wr.heap.size wr w2)=>same_any _ _ _ _ w2 (hr1.below hb) (hr2.below hb) f1 f2)
    have hb2:=Lib.hid (((Below.refl _ _).alloc (Nat.le_refl _) (.cells #[.string x.m,.string x.x,.int .i64 x.k,.slice fa x.fs.length fc,.bool x.ch,.slice ba x.body.length bc,.slice ta x.ts.length tc] 25)).alloc (by simp) (.cells #[.string y.m,.string y.x,.int .i64 y.k,.slice fa' y.fs.length fc',.bool y.ch,.slice ba' y.body.length bc',.slice ta' y.ts.length tc'] 25):Below wr.heap.size wr _);have i1:(k:Int)<(n:Int):=by omega
    clear hr1 hr2 f1 f2;cases hq:same x y with
    | true=>
      have HE:=Lib.hid (HN.out ((same_iff _ _).1 hq));rw [hq] at HC;clear HN HX hq
      go_wp2_with (go_at_fn 133;with_reducible refine (HC.out _ hb2.out).mono ?_;rintro e w2 ⟨rfl,hb3⟩)
      have H3:=Lib.hid (Base.below_step hbr.out (Base.below_step hb2.out hb3));clear hb3;go_roundw
      case rel=>exact ⟨k+1,by omega,by go_num,HE,H3⟩
      case measure=>simp [intOf];omega
    | false=>
      have HE:=Lib.hid (show B=false by
       rw [←HB.out,Bool.eq_false_iff];intro e
       have:=(same_iff _ _).2 (HX.out ((all_iff _ _).1 e));rw [hq] at this;cases this)
      rw [hq] at HC;clear HN HX hq
      go_wp2_with (go_at_fn 133;with_reducible refine (HC.out _ hb2.out).mono ?_;rintro e w2 ⟨rfl,hb3⟩);go_ret;exact ⟨by first | rfl |(rw [HE.out];rfl),Base.below_step hbr.out (Base.below_step hb2.out hb3)⟩
   ·obtain rfl:k=n:=by omega
    have HE:=Lib.hid (show B=true by
     rw [←HB.out,all_iff];have:=hpre.out
     rwa [List.take_of_length_le (by rw [HL.out];omega),List.take_of_length_le (by rw [HM.out];omega)] at this)
    clear hpre;go_wp2;go_ret;exact ⟨by first | rfl |(rw [HE.out];rfl),hbr.out⟩
 ·have e:all rs qs=false:=all_len rs qs (by rw [hv.1,hu.1];exact hnm);have t0:((n:Int)==(m:Int))=false:=by rw [beq_eq_false_iff_ne];omega
  have t1:¬(n:Int)=(m:Int):=by omega
  rw [e];clear hv hu hf hg e hnm;go_enter Tryz.func132,Tryz.ntmps132;go_wp2;go_ret;exact ⟨rfl,Below.refl _ _⟩
theorem all_any (a:Option Addr) (n cap:Nat) (rs:List R) (b:Option Addr) (m cap2:Nat) (qs:List R) (w:World) (hv:Recs w a n rs) (hu:Recs w b m qs) (hn:n≤1000000000) (hm:m≤1000000000) (hf:∀r∈rs,Fit r) (hg:∀r∈qs,Fit r) :
 Calls Tryz.prog 86 #[.slice a n cap,.slice b m cap2] w fun e w'=>e=.returned (.bool (all rs qs))∧Below w.heap.size w w':=by
 have H:=Lib.hid (equalFunc_any a n cap rs b m cap2 qs w hv hu hn hm hf hg);clear hv hu hf hg;go_enter Tryz.func86,Tryz.ntmps86
 go_wp2_with (go_at_call 132;with_reducible refine H.out.mono ?_;rintro e w2 ⟨rfl,hb2⟩);go_ret;exact ⟨rfl,hb2⟩
end code
end Go.Proofs.YtldhlecknfomjaaGreatDoor.Rec
namespace Go.Proofs.YtldhlecknfomjaaGreatDoor.Flt
open Go.RowKit Base Txt Par Pg
structure F where
 x:Q
 y:Q
 code:Nat
 parted:Bool
def F.judge (f:F) (s l:Nat) (alike:Bool):F:=
 if s≠0 then {f with code:=s,parted:=l==0} else if (!(l==0) || !alike)=true then {f with code:=400,parted:=true} else f
section
variable (p:Nat) (b:Bd)
def F.look (f:F) (c:UInt8):F × List Rec.R:=
 let x:=f.x.byte 0 b c
 let y:=f.y.byte p b c
 (F.judge ⟨x.told,y.told,f.code,f.parted⟩ x.err y.err (Rec.all x.out y.out),if Rec.all x.out y.out=true then x.out else [])
def F.byte (f:F) (c:UInt8):F × List Rec.R:=if f.code=0 then f.look p b c else (f,[])
def F.feed:F→List UInt8→F × List Rec.R
 | f,[]=>(f,[])
 | f,c::l=>((F.feed (f.byte p b c).1 l).1,(f.byte p b c).2++(F.feed (f.byte p b c).1 l).2)
def F.new:F:=⟨Q.new 0 b,Q.new p b,(Q.new p b).err,false⟩
def F.held (f:F):Nat:=max f.x.held f.y.held
end
section
variable {p:Nat} {b:Bd}
def F.Just (p:Nat) (b:Bd) (f:F):Prop:=
 (f.code=0∧f.parted=false∧∃t,f.x=.live t∧t.Strict∧t.out= []∧f.y=.live (t.wide p)∧t.Ok∧b.right=true∧∃s,RR 0 b t s)∨(f.code≠0∧∃o,f.x=.dead f.code o)
theorem Ok.fit {t:T} (h:t.Ok):Rec.Fit t.r:=
 ⟨by have:=h.m;omega,by have:=h.x;omega,by have:=h.fsl;have:=h.hl;omega,fun y hy=>by have:=h.fss y hy;have:=h.hl;omega,by have:=h.body;omega,by have:=h.tsl;have:=h.bl;omega,fun y hy=>by have:=h.tss y hy;have:=h.bl;omega⟩
theorem line_told (t:T) (s:List UInt8):(t.line p b s).2.out=t.out∨(t.line p b s).2.out=t.out ++ [t.r]:=by
 unfold T.line;split
 ·unfold T.first;split
  ·exact .inl rfl
  ·simp only;split<;>exact .inl rfl
 ·split
  ·unfold T.fields;split
   ·unfold T.endHead;simp only;split
    ·exact .inl rfl
    ·split
     ·exact .inl rfl
     ·split
      ·exact .inr rfl
      ·exact .inl rfl
   ·exact .inl rfl
  ·split
   ·unfold T.chunk;simp only;split
    ·exact .inl rfl
    ·split
     ·exact .inl rfl
     ·split<;>exact .inl rfl
   ·split
    ·unfold T.trail;split
     ·exact .inr rfl
     ·exact .inl rfl
    ·exact .inl rfl
theorem ends_out (x:Nat × T):(ends x).out=x.2.out:=by unfold ends;split<;>rfl
def Fits (o:List Rec.R):Prop:=∀r∈o,Rec.Fit r
theorem inLine_fits {t:T} (h:Fits t.out) (ok:t.Ok) (c:UInt8):Fits (t.inLine p b c).1.out:=by
 unfold T.inLine;simp only;split
 ·exact h
 ·split
  ·exact h
  ·split
   ·split
    ·exact h
    ·exact h
   ·show Fits (ends _).out;rw [ends_out];have hf:Rec.Fit t.r:=Ok.fit ok;rcases line_told (p:=p) (b:=b) {t with rd:=t.rd.byte c} (t.rd.byte c).line with e | e
    ·rw [e];exact h
    ·rw [e];intro r hr;rcases List.mem_append.1 hr with hr | hr
     ·exact h r hr
     ·rw [List.mem_singleton.1 hr];exact hf
theorem look_fits {t:T} (h:Fits t.out) (ok:t.Ok) (hb:b.right=true) (c:UInt8):Fits (t.look p b c).1.out:=by
 unfold T.look;split
 ·rename_i hs;have hk:Rec.Fit (t.keep c).r:=by
   have h1:=Ok.fit ok;have h2:=ok.left hs;exact ⟨h1.m,h1.x,h1.fs,h1.f,by have:=ok.body;show (t.r.body ++ [c]).length≤_;rw [List.length_append,List.length_singleton];omega,h1.ts,h1.t⟩
  show Fits (if t.left=1 then (t.keep c).endData p else t.keep c).out;split
  ·unfold T.endData;split
   ·exact h
   ·intro r hr;rcases List.mem_append.1 hr with hr | hr
    ·exact h r hr
    ·rw [List.mem_singleton.1 hr];exact hk
  ·exact h
 ·split
  ·rename_i hh;split
   ·show Fits t.out;exact h
   ·rename_i hx;exact inLine_fits (by rw [counted_out];exact h) (ok.counted hb hx) c
  ·exact inLine_fits h ok c
theorem byte_fits {x:Q} (h:Fits x.out) (ok:x.Fine b) (c:UInt8):Fits (x.byte p b c).out:=by
 cases x with
 | dead e o=>exact h
 | live t=>
   obtain ⟨h1,h2⟩:=ok;show Fits (t.take p b c).out;unfold T.take;have k1:=look_fits (p:=p) (b:=b) (t:={t with cnt:=false}) h h1.cleared h2 c;rcases hq:T.look p b {t with cnt:=false} c with ⟨q,u⟩;rw [hq] at k1;cases q with
   | dead e o=>cases u<;>exact k1
   | live t1=>
     cases u with
     | true=>exact k1
     | false=>exact look_fits k1 (h1.cleared.look h2 c (by rw [hq])) h2 c
end
end Go.Proofs.YtldhlecknfomjaaGreatDoor.Flt
namespace Go.Proofs.YtldhlecknfomjaaGreatDoor.Pg
open Go.RowKit Base Txt Par
def T.pre (o:List Rec.R) (t:T):T:={t with out:=o++t.out}
def Q.pre (o:List Rec.R):Q→Q
 | .live t=>.live (t.pre o)
 | .dead e x=>.dead e (o++x)
section
variable {p:Nat} {b:Bd} {t:T} {o:List Rec.R} {s:List UInt8} {c:UInt8}
end
end Go.Proofs.YtldhlecknfomjaaGreatDoor.Pg
namespace Go.Proofs.YtldhlecknfomjaaGreatDoor.Flt
open Go.RowKit Base Txt Par Pg
section
variable {p:Nat} {b:Bd} {t:T} {s:List UInt8} {c:UInt8}
end
end Go.Proofs.YtldhlecknfomjaaGreatDoor.Flt
namespace Go.Proofs.YtldhlecknfomjaaGreatDoor.Can
open Go.RowKit Base Txt Par Pg Flt
def lineR (r:Rec.R):Prop:=∃(old:Bool) (l:List UInt8) (k:Nat),Rq.request (Rq.clOf 0) old l=(r.m.data.toList,r.x.data.toList,k,0)∧r.k=(k:Int)
def hostR (r:Rec.R):Prop:=Frm.hostsV false false r.k (find r.fs Frm.hostN)=0
structure Good (r:Rec.R):Prop where
 line:lineR r
 host:hostR r
 fields:∀f∈r.fs,okF f
 trailers:∀f∈r.ts,okF f
structure On (t:T):Prop where
 line:t.st≠1→lineR t.r
 host:3≤t.st→hostR t.r
 fields:∀f∈t.r.fs,okF f
 trailers:∀f∈t.r.ts,okF f
 out:∀r∈t.out,Good r
section
variable {b:Bd} {t t2:T} {s:List UInt8} {c:UInt8}
end
end Go.Proofs.YtldhlecknfomjaaGreatDoor.Can
namespace Go.Proofs.YtldhlecknfomjaaGreatDoor.Can
open Go.RowKit Base Txt Par Pg Flt
def chR (r:Rec.R):Prop:=r.ch=decide (find r.fs Frm.teN≠ [])
structure Kn (t:T):Prop where
 no:t.st≤2→t.r.ch=false
 said:3≤t.st→chR t.r
 out:∀r∈t.out,chR r
section
variable {b:Bd} {t t2:T} {s:List UInt8} {c:UInt8}
end
end Go.Proofs.YtldhlecknfomjaaGreatDoor.Can
namespace Go.Proofs.YtldhlecknfomjaaGreatDoor.Can
open Go.RowKit Base Txt Par Pg
section code
set_option maxHeartbeats 4000000
set_option maxRecDepth 100000
attribute [local go_sem] Base.some_undef
theorem chunked_any (V:Value) (r:Rec.R) (w:World) (h:Rec.Reads w V r):Calls Tryz.prog 27 #[V] w fun e w'=>e=.returned (.bool (decide (r.ts≠ [])))∧Below w.heap.size w w':=by
 obtain ⟨fa,fc,ba,bc,ta,tc,rfl,h1,h2,h3⟩:=h;clear h1 h2 h3;have e0:decide (r.ts≠ [])=decide (0<r.ts.length):=by
  rcases r.ts with _ | ⟨a,l⟩
  ·rfl
  ·simp
 rw [e0];clear e0;generalize r.ts.length=n;generalize r.fs.length=n1;generalize r.body.length=n2;go_enter Tryz.func27,Tryz.ntmps27;go_wp2_with fail;go_ret;exact ⟨rfl,(Below.refl _ _).alloc (Nat.le_refl _) _⟩
theorem brings_any (m:ByteArray) (w:World):Calls Tryz.prog 129 #[.string m] w fun e w'=>e=.returned (.bool (decide (m.data.toList∈posts)))∧w'=w:=by
 have hb:∀(l:List UInt8),(m=Txt.ba l)=(m.data.toList=l):=fun l=>by
  apply propext;constructor
  ·rintro rfl;simp [Txt.ba]
  ·intro h;rw [←h];simp [Txt.ba]
 have h1:(m=⟨#[80,79,83,84]⟩)=(m.data.toList= [80,79,83,84]):=hb _;have h2:(m=⟨#[80,85,84]⟩)=(m.data.toList= [80,85,84]):=hb _;have h3:(m=⟨#[80,65,84,67,72]⟩)=(m.data.toList= [80,65,84,67,72]):=hb _;clear hb;obtain ⟨P,hP⟩:∃P,decide (m.data.toList∈posts)=P:=⟨_,rfl⟩;rw [hP];by_cases c1:m=⟨#[80,79,83,84]⟩
 ·have:P=true:=by rw [←hP,decide_eq_true];unfold posts;rw [←h1.mp c1];simp
  subst this;clear h1 h2 h3 hP;go_enter Tryz.func129,Tryz.ntmps129;go_wp2_with fail;go_ret;exact ⟨rfl,rfl⟩
 by_cases c2:m=⟨#[80,85,84]⟩
 ·have:P=true:=by rw [←hP,decide_eq_true];unfold posts;rw [←h2.mp c2];simp
  subst this;clear h1 h2 h3 hP;go_enter Tryz.func129,Tryz.ntmps129;go_wp2_with fail;go_ret;exact ⟨rfl,rfl⟩
 by_cases c3:m=⟨#[80,65,84,67,72]⟩
 ·have:P=true:=by rw [←hP,decide_eq_true];unfold posts;rw [←h3.mp c3];simp
  subst this;clear h1 h2 h3 hP;go_enter Tryz.func129,Tryz.ntmps129;go_wp2_with fail;go_ret;exact ⟨rfl,rfl⟩
 ·have:P=false:=by
   rw [←hP,decide_eq_false];unfold posts;rw [h1] at c1;rw [h2] at c2;rw [h3] at c3;simp [c1,c2,c3]
  have k1:(m.toList == [80,79,83,84])=false:=by rw [Lib.toList_data,beq_eq_false_iff_ne];rwa [h1] at c1
  have k2:(m.toList == [80,85,84])=false:=by rw [Lib.toList_data,beq_eq_false_iff_ne];rwa [h2] at c2
  have k3:(m.toList == [80,65,84,67,72])=false:=by rw [Lib.toList_data,beq_eq_false_iff_ne];rwa [h3] at c3
  subst this;clear h1 h2 h3 hP c1 c2 c3;go_enter Tryz.func129,Tryz.ntmps129;go_wp2_with fail;go_ret;exact ⟨rfl,rfl⟩
def frameV (m:List UInt8) (body:List UInt8) (ts:List Fld):List Fld:=
 if ts≠ [] then [(Frm.teN,Frm.chunked)] else if body≠ []∨m∈posts then [(Frm.clN,lenV body.length)] else []
theorem flds_one (w:World) (t:TypeId) (n v:ByteArray):Flds (w.alloc (.cells #[.string n,.string v] t)) (some ⟨w.heap.size,0,none⟩) 1 [(n,v)]:=by refine Flds.of_cells rfl (by simp) fun j hj=>?_;rw [cell_of_row _ _ j _ t (0,0) (heap_alloc_new w _)];rcases (by omega:j=0∨j=1) with rfl | rfl<;>rfl
theorem framing_any (V:Value) (r:Rec.R) (w:World) (h:Rec.Reads w V r) (hn:r.body.length≤1000000000):Calls Tryz.prog 84 #[V] w fun e w'=>∃a c,e=.returned (.slice a (frameV r.m.data.toList r.body r.ts).length c)∧Flds w' a (frameV r.m.data.toList r.body r.ts).length (frameV r.m.data.toList r.body r.ts)∧Below w.heap.size w w':=by
 have HH:=Lib.hid h;obtain ⟨fa,fc,ba,bc,ta,tc,rfl,h1,h2,h3⟩:=h;clear h1 h2 h3
 have HC:=Lib.hid fun w' hb=>chunked_any _ r w' (HH.out.below (w':=w') hb)
 have HB:=Lib.hid (brings_any r.m)
 have HP:=Lib.hid (fun w'=>Num.put_any (r.body.length:Int) w' (by omega));rw [Int.toNat_natCast] at HP;generalize hX:frameV r.m.data.toList r.body r.ts=X;unfold frameV at hX;by_cases ht:r.ts≠ []
 ·rw [if_pos ht] at hX;rw [decide_eq_true ht] at HC;subst hX;clear ht HB HP;go_enter Tryz.func84,Tryz.ntmps84
  go_wp2_with (first
   |(go_at_call 27;with_reducible refine (HC.out _ ((Below.refl _ _).alloc (Nat.le_refl _) _)).mono ?_;rintro e w1 ⟨rfl,hb1⟩
     have q0:=(hb1.cell (p:=⟨w.heap.size,0,none⟩) (by simp)).trans (show _=some (.string r.m) by simp)
     have q5:=(hb1.cell (p:=⟨w.heap.size,5,none⟩) (by simp)).trans (show _=some (.slice ba r.body.length bc) by simp)
     have HB1:=Lib.hid (Base.below_step ((Below.refl _ _).alloc (Nat.le_refl _) _) hb1);clear hb1))
  go_ret;exact ⟨_,1,rfl,flds_one _ _ _ _,HB1.out.alloc HB1.out.size _⟩
 rw [if_neg ht] at hX;rw [decide_eq_false ht] at HC;clear ht;by_cases hb:r.body≠ []
 ·rw [if_pos (.inl hb)] at hX;have h0:0<r.body.length:=List.length_pos_iff.2 hb;subst hX;clear hb HB;go_enter Tryz.func84,Tryz.ntmps84
  go_wp2_with (first
   |(go_at_call 27;with_reducible refine (HC.out _ ((Below.refl _ _).alloc (Nat.le_refl _) _)).mono ?_;rintro e w1 ⟨rfl,hb1⟩
     have q0:=(hb1.cell (p:=⟨w.heap.size,0,none⟩) (by simp)).trans (show _=some (.string r.m) by simp)
     have q5:=(hb1.cell (p:=⟨w.heap.size,5,none⟩) (by simp)).trans (show _=some (.slice ba r.body.length bc) by simp)
     have HB1:=Lib.hid (Base.below_step ((Below.refl _ _).alloc (Nat.le_refl _) _) hb1);clear hb1)
   |(go_at_call 130;with_reducible refine (HP.out _).mono ?_;rintro e w3 ⟨rfl,m3,hw3⟩;rw [hw3];clear hw3))
  go_ret;exact ⟨_,1,rfl,flds_one _ _ _ _,(Base.below_drewN HB1.out _).alloc HB1.out.size _⟩
 have h0:r.body.length=0:=by rw [Decidable.not_not.1 hb];rfl
 by_cases hm:r.m.data.toList∈posts
 ·rw [if_pos (.inr hm)] at hX;rw [decide_eq_true hm] at HB;rw [h0] at HP hX
  have HP:=Lib.hid (fun w'=>(show Calls Tryz.prog 130 #[.int .i64 0] w' _ from HP.out w'));subst hX;clear hb hm HH;generalize r.body.length=n at *;subst h0;go_enter Tryz.func84,Tryz.ntmps84
  go_wp2_with (first
   |(go_at_call 27;with_reducible refine (HC.out _ ((Below.refl _ _).alloc (Nat.le_refl _) _)).mono ?_;rintro e w1 ⟨rfl,hb1⟩
     have q0:=(hb1.cell (p:=⟨w.heap.size,0,none⟩) (by simp)).trans (show _=some (.string r.m) by simp)
     have q5:=(hb1.cell (p:=⟨w.heap.size,5,none⟩) (by simp)).trans (show _=some (.slice ba 0 bc) by simp)
     have HB1:=Lib.hid (Base.below_step ((Below.refl _ _).alloc (Nat.le_refl _) _) hb1);clear hb1)
   |(go_at_call 130;with_reducible refine (HP.out _).mono ?_;rintro e w3 ⟨rfl,m3,hw3⟩;rw [hw3];clear hw3)
   |(go_at_call 129;with_reducible refine (HB.out _).mono ?_;rintro e w2 ⟨rfl,hw2⟩;rw [hw2];clear hw2))
  go_ret;exact ⟨_,1,rfl,flds_one _ _ _ _,(Base.below_drewN HB1.out _).alloc HB1.out.size _⟩
 ·rw [if_neg (fun x=>x.elim hb hm)] at hX;rw [decide_eq_false hm] at HB;subst hX;clear hb hm HH HP;generalize r.body.length=n at *;subst h0;go_enter Tryz.func84,Tryz.ntmps84
  go_wp2_with (first
   |(go_at_call 27;with_reducible refine (HC.out _ ((Below.refl _ _).alloc (Nat.le_refl _) _)).mono ?_;rintro e w1 ⟨rfl,hb1⟩
     have q0:=(hb1.cell (p:=⟨w.heap.size,0,none⟩) (by simp)).trans (show _=some (.string r.m) by simp)
     have q5:=(hb1.cell (p:=⟨w.heap.size,5,none⟩) (by simp)).trans (show _=some (.slice ba 0 bc) by simp)
     have HB1:=Lib.hid (Base.below_step ((Below.refl _ _).alloc (Nat.le_refl _) _) hb1);clear hb1)
   |(go_at_call 129;with_reducible refine (HB.out _).mono ?_;rintro e w2 ⟨rfl,hw2⟩;rw [hw2];clear hw2))
  go_ret;exact ⟨none,0,rfl,Flds.nil _ _,HB1.out⟩
end code
end Go.Proofs.YtldhlecknfomjaaGreatDoor.Can
namespace Go.Proofs.YtldhlecknfomjaaGreatDoor.Bld
open Go.RowKit
abbrev T:TypeId:=177
abbrev E:TypeId:=5
theorem infoB:(Tryz.prog.info? 5).map (fun i=>(i.zero,i.size,i.bytes))=some (some (.int .u8 0),1,1):=by kernel_rfl
theorem infoT:(Tryz.prog.info? 177).map (·.size)=some 2:=by kernel_rfl
theorem liesT:liesAt Tryz.prog Tryz.prog.depth 177 (2/Tryz.prog.cellsOf 177) 0 177 1=true:=by kernel_rfl
section code
set_option maxHeartbeats 2000000
set_option maxRecDepth 100000
theorem check_any (B b:Nat) (bs:List Value) (w:World) (h:Lib.IsBuilderF T E B b bs w) :
 Calls Tryz.prog 191 #[.pointer (some ⟨b,0,none⟩)] w fun e w'=>e=.returned (.tuple #[])∧(Lib.BuilderAtF T E B b (.pointer (some ⟨b,0,none⟩)) bs w'∧Below B w w'):=by
 obtain ⟨j,hj,hjs⟩:=Option.map_eq_some_iff.1 infoT;rcases h with h | h
 ·have h0:=h.cell0;have hsh:=h.shape;have hfz:=h.frozen0;have HH:=Lib.hid h;go_enter Tryz.func191,Tryz.ntmps191;go_wp2;rw [Lib.run_to_unsafe w ⟨b,0,none⟩ Tryz.underlying175 Tryz.underlying210 hj (by rw [hjs];decide) hsh (Nat.zero_lt_succ 1)];simp only [Result.andThen];rw [Oper.upon_value];go_wp2;rw [run_callFunc_extern Tryz.func208 (by kernel_rfl) (by kernel_rfl) (by kernel_rfl) (e:=Extern.AbiNoEscape.same) (by kernel_rfl)];rw [Lib.run_noEscape];simp only [Result.andThen];rw [Oper.upon_value];go_wp2;rw [Lib.run_from_unsafe w ⟨b,0,none⟩ Tryz.underlying210 Tryz.underlying175 hj hsh liesT];simp only [Result.andThen];rw [Oper.upon_value];go_wp2;go_end0;exact ⟨rfl,HH.out.used _,(Below.refl B w).setCell (p:=⟨b,0,none⟩) HH.out.1 _⟩
 ·have h0:=h.cell0;have HH:=Lib.hid h;go_enter Tryz.func191,Tryz.ntmps191;go_wp2;rw [Lib.run_neq_ptr_same w _ Tryz.underlying175 hj];go_wp2;go_end0;exact ⟨rfl,HH.out,Below.refl B _⟩
theorem write_any (B b:Nat) (bs:List Value) (s:ByteArray) (w:World) (h:Lib.IsBuilderF T E B b bs w) (hlen:bs.length+s.size≤140737488355328) (hBw:B≤w.heap.size) :
 Calls Tryz.prog 160 #[.pointer (some ⟨b,0,none⟩),.string s] w fun e w'=>e=.returned (.tuple #[.int .i64 s.size,.nilIface])∧(Lib.BuilderAtF T E B b (.pointer (some ⟨b,0,none⟩)) (bs++Lib.strCells s) w'∧Below B w w'):=by
 obtain ⟨i0,hi,hz0,hz1,hz2⟩:=info_parts infoB
 have HC:=Lib.hid (check_any B b bs w h);clear h;go_enter Tryz.func160,Tryz.ntmps160
 go_wp2_with (go_at_call 191;with_reducible refine HC.out.mono ?_);rintro e w1 ⟨rfl,h1⟩;obtain ⟨⟨hB,v,hbk,hown,hne⟩,hb1⟩:=h1;have c0:w1.cell? ⟨b,0,none⟩=some (.pointer (some ⟨b,0,none⟩)):=by rw [Lib.cell_of_heap hbk];rfl
 have c1:w1.cell? ⟨b,1,none⟩=some v:=by rw [Lib.cell_of_heap hbk];rfl
 go_wp2_with (at_builtin;refine Lib.wpList_append_own_stringF _ rfl _ _ 23 9 rfl B 5 i0 Tryz.underlying23 Tryz.underlying9 hi hz0 hz1 hz2 _ _ _ rfl hown s rfl ?c3 ?c4 ?c5 ?_)
 case c3=>unfold maxLen;omega
 case c4=>omega
 case c5=>have:=hb1.size;omega
 intro v' w2 hown' hgrow _;have hlt:b<w1.heap.size:=by
  rcases Nat.lt_or_ge b w1.heap.size with h' | h'
  ·exact h'
  ·simp [Array.getElem?_eq_none h'] at hbk
 have hb2:w2.heap[b]?=some (.cells #[.pointer (some ⟨b,0,none⟩),v] T (0,0)):=by rw [hgrow.block b hlt (fun e=>hne e.symm)];exact hbk
 have d0:w2.cell? ⟨b,0,none⟩=some (.pointer (some ⟨b,0,none⟩)):=by rw [Lib.cell_of_heap hb2];rfl
 have d1:w2.cell? ⟨b,1,none⟩=some v:=by rw [Lib.cell_of_heap hb2];rfl
 have f1:w2.frozen? ⟨b,1,none⟩=false:=Lib.frozen_of_heap hb2 1;obtain ⟨ao,n',cap,rfl⟩:∃ao n' cap,v'=.slice ao n' cap:=by
  rcases hown'.2 with ⟨hv,_⟩ | ⟨g,cap,cur,fz,hv,_⟩
  ·exact ⟨_,_,_,hv⟩
  ·exact ⟨_,_,_,hv⟩
 go_wp2;go_ret2;refine ⟨rfl,?_,?_⟩
 ·exact Lib.BuilderAtF.put (T:=T) (e:=E) hB hb2 (bs':=bs++Lib.strCells s) (by simpa [Lib.strCells_length] using hown') (by decide)
 ·exact (hb1.grown hgrow (by have:=hb1.size;omega) (fun k hk=>(hown.lt k hk).1)).setCell (p:=⟨b,1,none⟩) hB _
end code
end Go.Proofs.YtldhlecknfomjaaGreatDoor.Bld
namespace Go.Proofs.YtldhlecknfomjaaGreatDoor.Fd
open Go.RowKit Base Txt Tgt
abbrev lineB (f:Fld):ByteArray:=((f.1 ++⟨#[58,32]⟩)++f.2) ++⟨#[13,10]⟩
theorem lineB_list (f:Fld):(lineB f).data.toList=line f:=by simp [lineB,line,ByteArray.data_append]
theorem lineB_size (f:Fld):(lineB f).size=f.1.size+f.2.size+4:=by rw [←len,lineB_list,line_length]
theorem put_take (fs:List Fld) (k:Nat):(put (fs.take k)).length≤(put fs).length:=by
 conv=>rhs;rw [←List.take_append_drop k fs,put_append,List.length_append]
 omega
theorem put_take_line (fs:List Fld) (k:Nat) (h:k<fs.length):(put (fs.take k)).length+(line (fs[k]?.getD dflt)).length≤(put fs).length:=by
 rw [←List.length_append,←put_snoc fs k h]
 exact put_take fs (k+1)
theorem isB_alloc {T E:TypeId} {B b:Nat} {bs:List Value} {w:World} (h:Lib.IsBuilderF T E B b bs w) (o:Obj):Lib.IsBuilderF T E B b bs (w.alloc o):=
 h.elim (fun x=>.inl (x.alloc o)) (fun x=>.inr (x.alloc o))
theorem isB_fresh (w:World):Lib.IsBuilderF Bld.T Bld.E w.heap.size w.heap.size [] (w.alloc (.cells #[.pointer none,.slice none 0 0] Bld.T)):=
 .inl ⟨Nat.le_refl _,.slice none 0 0,heap_alloc_new w _,World.ownsRowF_nil _ _ _ _,by simp [Value.ownBlock]⟩
section code
set_option maxHeartbeats 4000000
set_option maxRecDepth 100000
attribute [local go_sem] Base.some_undef
theorem put_any (a:Option Addr) (n cap:Nat) (fs:List Fld) (w:World) (hv:Flds w a n fs) (hn:n≤1000000000) (hz:(put fs).length≤1000000000000) :
 Calls Tryz.prog 121 #[.slice a n cap] w fun e w'=>e=.returned (.string (ba (put fs)))∧Below w.heap.size w w':=by
 have HV:=Lib.hid hv;have HL:=Lib.hid hv.1;have HZ:=Lib.hid hz;clear hv hz
 have HW:=Lib.hid (fun (bs:List Value) (s:ByteArray) (wz:World) h hl hw=>Bld.write_any w.heap.size w.heap.size bs s wz h hl hw);obtain ⟨R,hR⟩:∃R,ba (put fs)=R:=⟨_,rfl⟩;rw [hR];have HR:=Lib.hid hR;clear hR;go_enter Tryz.func121,Tryz.ntmps121;go_wp2
 go_loopw [8] (fun i wr=>∃k:Nat,k≤n∧i=.int .i64 k∧Hid (Lib.IsBuilderF Bld.T Bld.E w.heap.size w.heap.size (Lib.byteCells (put (fs.take k))) wr)∧Hid (Below w.heap.size w wr)) (fun i _=>n-(intOf i).toNat)
 case atStart=>exact ⟨0,Nat.zero_le _,rfl,Lib.hid (isB_fresh w),Lib.hid ((Below.refl _ _).alloc (Nat.le_refl _) _)⟩
 case round=>
  obtain ⟨k,hk,rfl,HB,hbr⟩:=hrel;rcases Nat.lt_or_ge k n with hlt | hge
  ·obtain ⟨bl,off,rfl,hbl,hc⟩:=(HV.out.below hbr.out).2 (by omega);obtain ⟨hc0,hc1⟩:=hc k hlt;have hkl:k<fs.length:=by rw [HL.out];exact hlt
   have hsn:=Lib.hid (put_snoc fs k hkl);have hle:=put_take_line fs k hkl;have hz:=HZ.out;clear hc;generalize fs[k]?.getD dflt=f at *;rw [line_length] at hle
   have hlen:=Lib.hid (show (Lib.byteCells (put (fs.take k))).length+(lineB f).size≤140737488355328 by rw [Lib.byteCells_length,lineB_size];omega);have v1:¬9223372036854775807<f.1.size+2:=by omega
   have v2:¬9223372036854775807<f.1.size+2+f.2.size:=by omega
   have v3:¬9223372036854775807<f.1.size+2+f.2.size+2:=by omega
   have hcells:Lib.byteCells (put (fs.take k))++Lib.strCells (lineB f)=Lib.byteCells (put (fs.take (k+1))):=by rw [Lib.strCells_eq,lineB_list,←Lib.byteCells_append,←hsn.out]
   have HCl:=Lib.hid hcells;clear hcells hle hz hsn hkl;obtain ⟨f0,f1⟩:=f;simp only at hc0 hc1 v1 v2 v3;have hBw:w.heap.size≤wr.heap.size:=hbr.out.size
   go_wp2_with (go_at_call 160;with_reducible refine (HW.out _ _ _ (isB_alloc HB.out _) hlen.out ?hbw).mono ?_)
   case hbw=>simp;omega
   rintro e w2 ⟨rfl,hat,hb2⟩
   have H2:Hid (Lib.IsBuilderF Bld.T Bld.E w.heap.size w.heap.size (Lib.byteCells (put (fs.take (k+1)))) w2):=Lib.hid (by rw [←HCl.out];exact .inr hat)
   have H3:Hid (Below w.heap.size w w2):=Lib.hid ((hbr.out.alloc hBw _).trans hb2);clear hat hb2 HB hbr HCl hlen;go_wp2;go_roundw
   case rel=>exact ⟨k+1,by omega,by go_num,H2,H3⟩
   case measure=>simp [intOf];omega
  ·obtain rfl:k=n:=by omega
   have hput:fs.take k=fs:=List.take_of_length_le (by rw [HL.out];exact Nat.le_refl _);rw [hput] at HB
   have HS:=Lib.hid (Tryz.Builder_String_any_f w.heap.size w.heap.size (put fs) wr HB.out hbr.out.size);clear HB hput
   go_wp2_with (go_at_call 161;with_reducible refine HS.out.mono ?_;rintro e w2 ⟨rfl,hx,hb2⟩);go_ret;exact ⟨by rw [←HR.out];rfl,hbr.out.trans hb2⟩
end code
end Go.Proofs.YtldhlecknfomjaaGreatDoor.Fd
