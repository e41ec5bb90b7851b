import Derived.Test.YtimoakmcelocfaaGreatAyi
import Derived.Test.YtimoakmcelocfaaGreatAyl
namespace Go.Proofs.YtimoakmcelocfaaGreat.Frm
open Go.RowKit Base Txt
def Rowf (w:World) (g n:Nat) (f:Nat→ByteArray):Prop:=∀j,j<n→w.cell? ⟨g,j,none⟩=some (.string (f j))∧w.frozen? ⟨g,j,none⟩=false
theorem Rowf.set {w:World} {g n:Nat} {f:Nat→ByteArray} (h:Rowf w g n f) (k:Nat) (x:ByteArray):Rowf (w.setCell ⟨g,k,none⟩ (.string x)) g n (fun j=>if j=k then x else f j):=by
 intro j hj;obtain ⟨c,z⟩:=h j hj;refine ⟨?_,by rw [World.frozen?_setCell];exact z⟩;by_cases e:j=k
 ·subst e;rw [World.cell?_setCell_same _ _ _ c];simp
 ·rw [World.cell?_setCell_other _ _ _ _ (by simp<;>omega)];simp only [if_neg e];exact c
theorem Rowf.below {w w':World} {g n:Nat} {f:Nat→ByteArray} (h:Rowf w g n f) (hg:g<w.heap.size) (hb:Below w.heap.size w w'):Rowf w' g n f:=
 fun j hj=>⟨(hb.cell (p:=⟨g,j,none⟩) hg).trans (h j hj).1,(hb.frozen (p:=⟨g,j,none⟩) hg).trans (h j hj).2⟩
theorem Rowf.congr {w:World} {g n:Nat} {f f':Nat→ByteArray} (h:Rowf w g n f) (e:∀j,j<n→f j=f' j):Rowf w g n f':=
 fun j hj=>by rw [←e j hj];exact h j hj
theorem rowf_of_own {w:World} {base:Nat} {e:TypeId} {v:Value} {n:Nat} {ss:List ByteArray} (h:w.ownsRow base e 1 v n (ss.map Value.string)) :
 ∃A c,v=.slice A n c∧(0<n→∃g,A=some ⟨g,0,none⟩∧base≤g∧g<w.heap.size∧Rowf w g n (fun j=>ss[j]?.getD ByteArray.empty)):=by
 have hl:ss.length=n:=by simpa using h.1
 rcases h.2 with ⟨rfl,rfl⟩ | ⟨g,cap,cur,rfl,hbg,hh,hnc,_,hsz,ht⟩
 ·exact ⟨none,0,rfl,fun h=>absurd h (by omega)⟩
 ·refine ⟨_,_,rfl,fun _=>⟨g,rfl,hbg,?_,fun k hk=>⟨?_,?_⟩⟩⟩
  ·rcases Nat.lt_or_ge g w.heap.size with hlt | hge
   ·exact hlt
   ·rw [Array.getElem?_eq_none hge] at hh;cases hh
  ·rw [cell_of_row w g k cur e (0,0) hh];have h1:(ss.map Value.string)[k]?=some (.string (ss[k]?.getD ByteArray.empty)):=by
    rw [List.getElem?_map,List.getElem?_eq_getElem (by omega)];rfl
   rw [←ht,List.getElem?_take_of_lt (by omega)] at h1;simpa using h1
  ·unfold World.frozen?;simp only [hh];simp
def norm (tb:Bool) (v:ByteArray):ByteArray:=lower (if tb=true then trimOf v blanksOf else v)
theorem norm_is (tb:Bool) (v:ByteArray):decide (norm tb v=chunked)=isC tb v:=lower_chunked _
def mixN (tb:Bool) (ls:List ByteArray) (k:Nat) (j:Nat):ByteArray:=if j<k then norm tb (ls[j]?.getD ByteArray.empty) else ls[j]?.getD ByteArray.empty
theorem count_snoc (bs:List Bool) (k:Nat) (h:k<bs.length):(bs.take (k+1)).countP id=(bs.take k).countP id+(if bs[k]=true then 1 else 0):=by
 rw [List.take_succ_eq_append_getElem h,List.countP_append]
 congr 1
 cases bs[k]<;>rfl
section code
set_option maxHeartbeats 4000000
set_option maxRecDepth 10000
attribute [local go_sem] Base.some_undef
theorem rcoding_any (p:Nat) (hp:p<4294967296) (a:Option Addr) (n cap:Nat) (vs:List ByteArray) (w:World) (hv:Strs w a n vs) (hr:room vs≤1000000000) :
 Calls Tryz.prog 109 #[.int .u32 (p:Nat),.slice a n cap] w fun e w'=>e=.returned (.bool (coding (Qk.has p 17) (Qk.has p 18) vs))∧Below w.heap.size w w':=by
 have HL:=Lib.hid (rlist_own a n cap vs w hv hr)
 have H17:=Lib.hid (fun w=>Qk.rhas_any p hp 17 w)
 have H18:=Lib.hid (fun w=>Qk.rhas_any p hp 18 w)
 have HM:=Lib.hid (fun x hx=>Nat.le_trans (list_mem_size vs x hx) hr);have hlr:=Nat.le_trans (list_le vs) hr;have HX:coding (Qk.has p 17) (Qk.has p 18) vs=((decide (((list vs).map (isC (Qk.has p 17))).countP id=1)&&((list vs).map (isC (Qk.has p 17))).getLastD false)&&(decide ((list vs).length=1)||Qk.has p 18)):=by rw [only_count];rfl
 rw [HX];clear HX hv hr hp;generalize list vs=ls at *;generalize Qk.has p 17=tb at *;generalize Qk.has p 18=tl at *;obtain ⟨m,hm⟩:∃m,ls.length=m:=⟨_,rfl⟩;rw [hm] at HL hlr ⊢
 have HSZ:=Lib.hid (fun k (hk:k<m)=>show (ls[k]?.getD ByteArray.empty).size≤1000000000 by
  rw [List.getElem?_eq_getElem (by omega)]
  exact HM.out _ (List.getElem_mem _))
 obtain ⟨bs,hbs⟩:∃bs,ls.map (isC tb)=bs:=⟨_,rfl⟩;rw [hbs]
 have HBL:=Lib.hid (show bs.length=m by rw [←hbs,List.length_map,hm])
 have HBA:=Lib.hid (fun k (hk:k<m)=>show bs[k]'(by rw [HBL.out];exact hk)=isC tb (ls[k]?.getD ByteArray.empty) by simp only [←hbs,List.getElem_map];rw [List.getElem?_eq_getElem (by omega)];rfl)
 clear HM hbs hm;obtain ⟨R,hR0⟩:∃R,((decide (bs.countP id=1)&&bs.getLastD false)&&(decide (m=1)||tl))=R:=⟨_,rfl⟩;rw [hR0];have HRR:=Lib.hid hR0;clear hR0;rcases Nat.eq_zero_or_pos m with h0 | h0
 ·subst h0;have e0:bs= []:=List.eq_nil_of_length_eq_zero HBL.out;subst e0
  have HRF:=Lib.hid (show R=false from HRR.out.symm);clear HBA HBL HSZ hlr HRR;go_enter Tryz.func109,Tryz.ntmps109
  go_wp2_with (go_at_call 123;with_reducible refine (HL.out).mono ?_;rintro e w1 ⟨v,rfl,ho,hb⟩
               obtain ⟨A1,c1,rfl,_⟩:=rowf_of_own ho;have HB:=Lib.hid hb;clear ho hb)
  go_loopw [6] (fun i wr=>i=.int .i64 0∧wr=w1) (fun i _=>0)
  case atStart=>exact ⟨rfl,rfl⟩
  case round=>
   obtain ⟨rfl,rfl⟩:=hrel;go_wp2_with fail
   go_loopw [7,8] (fun c i wr'=>c=.int .i64 0∧i=.int .i64 0∧wr'=wr) (fun _ i _=>0)
   case atStart=>exact ⟨rfl,rfl,rfl⟩
   case round=>obtain ⟨rfl,rfl,rfl⟩:=hrel;go_wp2_with fail;go_ret;exact ⟨by rw [HRF.out];rfl,HB.out⟩
 have HT:=Lib.hid (fun v (hv:v.size≤1000000000) w=>rtrimOf_any v ⟨#[11,12,32,9]⟩ w (by decide) (Nat.le_trans hv (by decide)))
 have HLo:=Lib.hid (fun v (hv:v.size≤1000000000) w=>rlower_any v w (Nat.le_trans hv (by decide)))
 have HTZ:=Lib.hid (fun v (hv:v.size≤1000000000)=>show (trimOf v ⟨#[11,12,32,9]⟩).size≤1000000000 from Nat.le_trans (trim_size _ _) hv)
 have HC1:=Lib.hid (show IntKind.i64.wrap ((m:Int)-1)=((m-1:Nat):Int) by rw [Base.wrap_in _ (by omega) (by omega)];omega)
 have HC2:=Lib.hid (show wrap64 ((m:Int)-1)=((m-1:Nat):Int) by unfold wrap64;omega);go_enter Tryz.func109,Tryz.ntmps109
 go_wp2_with (go_at_call 123;with_reducible refine (HL.out).mono ?_;rintro e w1 ⟨v,rfl,ho,hb⟩
              obtain ⟨A1,c3,rfl,ho2⟩:=rowf_of_own ho;obtain ⟨g,rfl,hg,hlt,hR⟩:=ho2 h0
              have HR0:=Lib.hid (show Rowf w1 g m (mixN tb ls 0) from hR.congr fun j _=>by simp [mixN]);have HB:=Lib.hid hb;clear ho hb ho2 hR)
 go_loopw [6] (fun i wr=>∃k:Nat,k≤m∧i=.int .i64 k∧Hid (Below w.heap.size w wr)∧Hid (Rowf wr g m (mixN tb ls k))∧g<wr.heap.size) (fun i _=>m-(intOf i).toNat)
 case atStart=>exact ⟨0,Nat.zero_le _,rfl,HB,HR0,hlt⟩
 case round=>
  obtain ⟨k,hk,rfl,hbr,hR,hgl⟩:=hrel;rcases Nat.lt_or_ge k m with hlk | hge
  ·obtain ⟨hck,hzk⟩:=hR.out k hlk;have hsz:=HSZ.out k hlk;rw [show mixN tb ls k k=ls[k]?.getD ByteArray.empty from if_neg (Nat.lt_irrefl k)] at hck
   have HS:=Lib.hid (fun x (hx:x=norm tb (ls[k]?.getD ByteArray.empty)) (w':World) (h:Rowf w' g m (mixN tb ls k))=>show Rowf (w'.setCell ⟨g,k,none⟩ (.string x)) g m (mixN tb ls (k+1)) from (h.set k x).congr fun j hj=>by
    unfold mixN;by_cases e:j=k
    ·rw [if_pos e,if_pos (by omega),hx,e]
    ·rw [if_neg e];by_cases e2:j<k
     ·rw [if_pos e2,if_pos (by omega)]
     ·rw [if_neg e2,if_neg (by omega)])
   have HS2:=Lib.hid (fun T x (hx:x=norm tb (ls[k]?.getD ByteArray.empty)) (w':World) (h:Rowf w' g m (fun j=>if j=k then T else mixN tb ls k j))=>show Rowf (w'.setCell ⟨g,k,none⟩ (.string x)) g m (mixN tb ls (k+1)) from (h.set k x).congr fun j hj=>by
    unfold mixN;by_cases e:j=k
    ·rw [if_pos e,if_pos (by omega),hx,e]
    ·rw [if_neg e,if_neg e];by_cases e2:j<k
     ·rw [if_pos e2,if_pos (by omega)]
     ·rw [if_neg e2,if_neg (by omega)])
   generalize ls[k]?.getD ByteArray.empty=x at *;have i1:(k:Int)<(m:Int):=by omega
   cases tb with
   | false=>
     have HC:=Lib.hid (HLo.out x hsz)
     have HY:=Lib.hid (show lower x=norm false x from rfl);generalize lower x=y at *;clear HT HTZ hsz
     go_wp2_with (first
      |(go_at_call 39;with_reducible refine (H17.out _).mono ?_;rintro e w2 ⟨rfl,hw⟩;rw [hw];clear hw)
      |(go_at_call 120;(with_reducible refine (HC.out _).mono ?_);rintro e w3 ⟨rfl,hb⟩
        have HB3:=Lib.hid (Base.below_step hbr.out hb);have hR3:=hR.out.below hgl hb;have hg3:=Nat.lt_of_lt_of_le hgl hb.size;clear hck hzk;obtain ⟨hck,hzk⟩:=hR3 k hlk;have HR3:=Lib.hid hR3;clear hb hR3))
     go_roundw
     case rel=>exact ⟨k+1,by omega,by go_num,Lib.hid (HB3.out.setCell hg _),Lib.hid (HS.out _ HY.out _ HR3.out),by simpa using hg3⟩
     case measure=>simp [intOf];omega
   | true=>
     have HT2:=Lib.hid (HT.out x hsz);have hsT:=HTZ.out x hsz
     have HY0:=Lib.hid (show lower (trimOf x ⟨#[11,12,32,9]⟩)=norm true x from rfl);generalize trimOf x ⟨#[11,12,32,9]⟩=T at *
     have HC:=Lib.hid (HLo.out T hsT)
     have HRT:=Lib.hid (hR.out.set k T)
     have HBT:Hid (Below w.heap.size w (wr.setCell ⟨g,k,none⟩ (.string T))):=Lib.hid (hbr.out.setCell hg _);have hgT:g<(wr.setCell ⟨g,k,none⟩ (.string T)).heap.size:=by simpa using hgl
     generalize lower T=y at *;clear HT HTZ hsz hsT
     go_wp2_with (first
      |(go_at_call 39;with_reducible refine (H17.out _).mono ?_;rintro e w2 ⟨rfl,hw⟩;rw [hw];clear hw)
      |(go_at_call 124;with_reducible refine (HT2.out _).mono ?_;rintro e w2 ⟨rfl,hw⟩;rw [hw];clear hw)
      |(go_at_call 120;(with_reducible refine (HC.out _).mono ?_);rintro e w3 ⟨rfl,hb⟩
        have HB3:=Lib.hid (Base.below_step HBT.out hb);have hR3:=HRT.out.below hgT hb;have hg3:=Nat.lt_of_lt_of_le hgT hb.size;clear hck hzk;obtain ⟨hck,hzk⟩:=hR3 k hlk;have HR3:=Lib.hid hR3;clear hb hR3))
     go_roundw
     case rel=>exact ⟨k+1,by omega,by go_num,Lib.hid (HB3.out.setCell hg _),Lib.hid (HS2.out _ _ HY0.out _ HR3.out),by simpa using hg3⟩
     case measure=>simp [intOf];omega
  ·obtain rfl:k=m:=by omega
   have HRk:=Lib.hid (hR.out.congr (f':=fun j=>norm tb (ls[j]?.getD ByteArray.empty)) fun j hj=>if_pos hj);have HBk:=hbr;clear hR hbr HR0 HT HLo HTZ HSZ H17 HL;go_wp2_with fail
   go_loop [7,8] (fun c i=>∃j:Nat,j≤k∧i=.int .i64 j∧∃q:Nat,c=.int .i64 q∧q≤j∧Hid (q=(bs.take j).countP id)) (fun _ i=>k-(intOf i).toNat)
   case atStart=>exact ⟨0,Nat.zero_le _,rfl,0,rfl,Nat.le_refl _,Lib.hid rfl⟩
   case round=>
    obtain ⟨j,hj,rfl,q,rfl,hqj,HQ⟩:=hrel;rcases Nat.lt_or_ge j k with hlj | hgj
    ·have hcj:wr.cell? ⟨g,j,none⟩=some (.string (norm tb (ls[j]?.getD ByteArray.empty))):=(HRk.out j hlj).1
     have HN:=Lib.hid (count_snoc bs j (by rw [HBL.out];exact hlj));have hbj:=HBA.out j hlj;rw [←norm_is] at hbj;have HBJ:=Lib.hid hbj;clear hbj;generalize norm tb (ls[j]?.getD ByteArray.empty)=x at *;have i1:(j:Int)<(k:Int):=by omega
     have hq1:q+1≤j+1:=by omega
     have hq2:q≤j+1:=by omega
     have hj1:j+1≤k:=by omega
     have c3:wrap64 ((q:Int)+1)=((q+1:Nat):Int):=by unfold wrap64;omega
     by_cases hx:x=chunked
     ·have H2:=Lib.hid (show q+1=(bs.take (j+1)).countP id by
       rw [HN.out,HBJ.out,decide_eq_true hx,if_pos rfl,←HQ.out])
      obtain ⟨t1,t2⟩:=Tgt.eq_facts x [99,104,117,110,107,101,100] true (decide_eq_true (by rw [hx]));clear HN HBJ hx;go_wp2_with fail;clear c3;go_round
      case rel=>exact ⟨j+1,hj1,by go_num,q+1,rfl,hq1,H2⟩
      case measure=>simp [intOf];omega
     ·have H2:=Lib.hid (show q=(bs.take (j+1)).countP id by
       rw [HN.out,HBJ.out,decide_eq_false hx,if_neg (by decide),←HQ.out];rfl)
      obtain ⟨t1,t2⟩:=Tgt.eq_facts x [99,104,117,110,107,101,100] false (decide_eq_false fun e=>hx (ba_ext e));clear HN HBJ hx c3;go_wp2_with fail;go_round
      case rel=>exact ⟨j+1,hj1,by go_num,q,rfl,hq2,H2⟩
      case measure=>simp [intOf];omega
    ·obtain rfl:j=k:=by omega
     have hcl:wr.cell? ⟨g,j-1,none⟩=some (.string (norm tb (ls[j-1]?.getD ByteArray.empty))):=(HRk.out (j-1) (by omega)).1;have hQ:=HQ.out;rw [List.take_of_length_le (by rw [HBL.out];exact Nat.le_refl _)] at hQ;have hRR:=HRR.out;rw [←hQ] at hRR;have hlast:bs.getLastD false=decide (norm tb (ls[j-1]?.getD ByteArray.empty)=chunked):=by rw [norm_is,←HBA.out (j-1) (by omega),List.getLastD_eq_getLast?,List.getLast?_eq_getElem?,show bs.length-1=j-1 by rw [HBL.out],List.getElem?_eq_getElem (by rw [HBL.out];omega)];rfl
     rw [hlast] at hRR;have HR2:=Lib.hid hRR;have HJ:=Lib.hid hgj;have c1:=HC1.out;have c2:=HC2.out;clear hQ hlast HQ HBA HBL hgj hRR HRR HC1 HC2;generalize norm tb (ls[j-1]?.getD ByteArray.empty)=x at *;have i1:((j-1:Nat):Int)<(j:Int):=by omega
     generalize j-1=j1 at *;by_cases hq:q=1
     ·have t0:((q:Int)==1)=true:=beq_iff_eq.2 (by omega);by_cases hx:x=chunked
      ·obtain ⟨t1,t2⟩:=Tgt.eq_facts x [99,104,117,110,107,101,100] true (decide_eq_true (by rw [hx]));by_cases h1:j=1
       ·have t3:((j:Int)==1)=true:=beq_iff_eq.2 (by omega)
        have HH:=Lib.hid (show R=true by rw [←HR2.out,decide_eq_true hq,decide_eq_true hx,decide_eq_true h1];rfl);clear h1 hq hx HR2;go_wp2_with fail;go_ret;exact ⟨by rw [HH.out];rfl,HBk.out⟩
       ·have t3:((j:Int)==1)=false:=beq_eq_false_iff_ne.2 (by omega)
        have HH:=Lib.hid (show R=tl by rw [←HR2.out,decide_eq_true hq,decide_eq_true hx,decide_eq_false h1];rfl);clear h1 hq hx HR2
        go_wp2_with (go_at_call 39;with_reducible refine (H18.out _).mono ?_;rintro e w2 ⟨rfl,hw⟩;rw [hw];clear hw);go_ret;exact ⟨by rw [HH.out];rfl,HBk.out⟩
      ·obtain ⟨t1,t2⟩:=Tgt.eq_facts x [99,104,117,110,107,101,100] false (decide_eq_false fun e=>hx (ba_ext e))
       have HH:=Lib.hid (show R=false by rw [←HR2.out,decide_eq_true hq,decide_eq_false hx];rfl);clear hq hx HR2;go_wp2_with fail;go_ret;exact ⟨by rw [HH.out];rfl,HBk.out⟩
     ·have t0:((q:Int)==1)=false:=beq_eq_false_iff_ne.2 (by omega)
      have HH:=Lib.hid (show R=false by rw [←HR2.out,decide_eq_false hq];rfl);clear hq HR2;go_wp2_with fail;go_ret;exact ⟨by rw [HH.out];rfl,HBk.out⟩
end code
end Go.Proofs.YtimoakmcelocfaaGreat.Frm
namespace Go.Proofs.YtimoakmcelocfaaGreat.Frm
open Go.RowKit Base Txt
section code
set_option maxHeartbeats 4000000
set_option maxRecDepth 10000
attribute [local go_sem] Base.some_undef
theorem rlength_any (p:Nat) (hp:p<4294967296) (most:Int) (hM:most≤9223372036854775807) (a:Option Addr) (n cap:Nat) (vs:List ByteArray) (w:World) (hv:Strs w a n vs) (hr:room vs≤1000000000) :
 Calls Tryz.prog 110 #[.int .u32 (p:Nat),.int .i64 most,.slice a n cap] w fun e w'=>e=.returned (.tuple #[.int .i64 (lengthV (Qk.has p 23) (Qk.has p 24) (Qk.has p 25) (Qk.has p 26) most vs).1,.int .i64 (lengthV (Qk.has p 23) (Qk.has p 24) (Qk.has p 25) (Qk.has p 26) most vs).2])∧Below w.heap.size w w':=by
 obtain ⟨R,hR⟩:∃R,lengthV (Qk.has p 23) (Qk.has p 24) (Qk.has p 25) (Qk.has p 26) most vs=R:=⟨_,rfl⟩;rw [hR];unfold lengthV at hR;have hl:=hv.1;by_cases hn:n=0
 ·subst hn;obtain rfl:=List.eq_nil_of_length_eq_zero hl;rw [if_pos rfl] at hR;subst hR;go_enter Tryz.func110,Tryz.ntmps110;go_wp2_with fail;go_ret2;exact ⟨rfl,Below.refl _ _⟩
 have hne:vs≠ []:=fun e=>hn (by rw [←hl,e];rfl);rw [if_neg hne] at hR
 have H23:=Lib.hid (fun w=>Qk.rhas_any p hp 23 w)
 have H24:=Lib.hid (fun w=>Qk.rhas_any p hp 24 w)
 have H25:=Lib.hid (fun w=>Qk.rhas_any p hp 25 w)
 have H26:=Lib.hid (fun w=>Qk.rhas_any p hp 26 w)
 have HL:=Lib.hid (rlist_any a n cap vs w hv hr);have hll:=Nat.le_trans (list_le vs) hr;have hlp:=list_ne_nil vs hne;have hnr:=Nat.le_trans (len_room vs) hr;rw [hl] at hnr;have hms:=list_mem_size vs;have hrm:=room_mem vs;generalize Qk.has p 23=lp at *;generalize Qk.has p 24=lc at *;generalize Qk.has p 25=lf at *;generalize Qk.has p 26=ll at *
 have HT:=Lib.hid (fun s (hs:s.size≤1000000000) w=>Num.rdec_any most hM (unplus lp s) w (Nat.le_trans (unplus_size lp s) (Nat.le_trans hs (by decide))))
 have t0:((n:Int)==0)=false:=beq_eq_false_iff_ne.2 (by omega);clear hp hM hl;cases lc with
 | false=>
   rw [if_neg (by decide)] at hR
   have HM:=Lib.hid (fun s (h:s∈vs)=>show s.size≤1000000000 by have:=hrm s h;omega);clear HL hll hlp hms hrm hne;obtain ⟨U,hU⟩:∃U,U=vs:=⟨_,rfl⟩;rw [←hU] at hv HM hR;clear hU;have hm:=hv.1;obtain ⟨m,hnm⟩:∃m,m=n:=⟨_,rfl⟩;have hll:m≤1000000000:=by omega
   have hlp:0<m:=by omega
   subst hnm;obtain ⟨K,rfl⟩:∃K,m=K+1:=⟨m-1,by omega⟩
   have HE:=Lib.hid (fun (a':Option Addr) (w':World) (hS:Strs w' a' (K+1) U)=>strs_ends hS)
   have HMN:=Lib.hid (fun (s:ByteArray) (h:counts false lf ll U=some s)=>HM.out s (counts_mem _ _ _ _ _ h (fun e=>by rw [e] at hm;simp at hm)));obtain ⟨O,hO⟩:∃O,counts false lf ll U=O:=⟨_,rfl⟩;rw [hO] at hR HMN;have HUL:=Lib.hid hm;have hO2:O=if (decide (K=0)|| ((false&&alikeL U)||lf))=true then some (U.headD ByteArray.empty) else if ll=true then some (U.getLastD ByteArray.empty) else none:=by rw [←hO];unfold counts;rw [hm];simp
   have HO:=Lib.hid hO2;clear hO hO2 HM hm
   have HN:=Lib.hid (fun k (hk:k<K+1)=>take_all_snoc (fun v:ByteArray=>decide (v=U.headD ByteArray.empty)) ByteArray.empty U k (by rw [HUL.out];exact hk))
   have HA:=Lib.hid (show (U.take (K+1)).all (fun v=>decide (v=U.headD ByteArray.empty))=alikeL U by rw [List.take_of_length_le (by rw [HUL.out];exact Nat.le_refl _)];rfl)
   have HC1:=Lib.hid (show IntKind.i64.wrap (((K+1:Nat):Int)-1)=(K:Int) by rw [wrap_in _ (by omega) (by omega)];omega)
   have HC2:=Lib.hid (show wrap64 (((K+1:Nat):Int)-1)=(K:Int) by unfold wrap64;omega);have HS:=Lib.hid hv;obtain ⟨w1,hw1⟩:∃x,x=w:=⟨_,rfl⟩
   have HB:Hid (Below w.heap.size w w1):=Lib.hid (hw1 ▸ Below.refl _ _);rw [←hw1] at HS hv ⊢;rw [hw1] at HB;rw [←hw1] at HB;obtain ⟨bl,off,rfl,hd0,hz0⟩:=HE.out _ _ hv;have HD0:=Lib.hid hd0;have HZ0:=Lib.hid hz0;clear hv hd0 hz0 hw1;go_enter Tryz.func110,Tryz.ntmps110
   go_wp2_with (go_at_call 39;with_reducible refine (H24.out _).mono ?_;rintro e w2 ⟨rfl,hw⟩;rw [hw];clear hw)
   go_loopw [9,10] (fun al i wr=>∃k q:Nat,k≤K+1∧i=.int .i64 k∧wr=w1.drewN q∧∃b:Bool,al=.bool b∧Hid (false=b)) (fun _ i _=>K+1-(intOf i).toNat)
   case atStart=>exact ⟨0,0,Nat.zero_le _,rfl,rfl,false,rfl,Lib.hid rfl⟩
   case round=>
    obtain ⟨k,q,hk,rfl,rfl,al,rfl,HAL⟩:=hrel;rcases Nat.lt_or_ge k (K+1) with hlt | hge
    ·have i1:(k:Int)<((K+1:Nat):Int):=by omega
     have i0:(0:Int)<((K+1:Nat):Int):=by omega
     obtain rfl:al=false:=HAL.out.symm;go_wp2_with fail
     go_quiet (fail);rename_i nq;go_wp2;go_roundw
     case rel=>first | exact ⟨k+1,q+nq,by omega,by go_num,(World.drewN_drewN _ _ _).symm ▸ rfl,false,rfl,Lib.hid rfl⟩ | exact ⟨k+1,q+nq,by omega,by go_num,by rw [World.drewN_drewN],false,rfl,Lib.hid rfl⟩ | exact ⟨k+1,q+nq,by omega,by go_num,rfl,false,rfl,Lib.hid rfl⟩
     case measure=>simp [intOf];omega
    ·obtain rfl:k=K+1:=by omega
     have HAL2:=Lib.hid (show (false&&alikeL U)=al by exact HAL.out);have hbd:Below w1.heap.size w1 (w1.drewN q):=Base.below_drewN (Below.refl _ _) q
     obtain ⟨bl2,off2,he2,hd,hz⟩:=HE.out _ _ (HS.out.below hbd);obtain ⟨rfl,rfl⟩:bl=bl2∧off=off2:=by simpa using he2
     have HBq:=Lib.hid (Base.below_step HB.out hbd);have hO3:=HO.out;rw [HAL2.out] at hO3;have c1:=HC1.out;have c2:=HC2.out;have i0:(0:Int)<((K+1:Nat):Int):=by omega
     have iK:(K:Int)<((K+1:Nat):Int):=by omega
     clear he2 hbd HE HN HA HC1 HC2 HO HAL HAL2 HS HB HD0 HZ0;generalize w1.drewN q=wq at *;generalize U.headD ByteArray.empty=y at *;generalize U.getLastD ByteArray.empty=z at *;cases O with
     | none=>
       simp only at hR;have hcase:¬K=0∧al=false∧lf=false∧ll=false:=by
        refine ⟨fun e=>?_,?_,?_,?_⟩
        ·rw [decide_eq_true e] at hO3;simp at hO3
        ·cases al
         ·rfl
         ·simp at hO3
        ·cases lf
         ·rfl
         ·simp at hO3
        ·cases ll
         ·rfl
         ·by_cases hx:(decide (K=0)|| (al||lf))=true
          ·rw [if_pos hx] at hO3;cases hO3
          ·rw [if_neg hx,if_pos rfl] at hO3;cases hO3
       obtain ⟨hK,rfl,rfl,rfl⟩:=hcase;subst hR
       have tK:((((K+1:Nat)):Int)==1)=false:=beq_eq_false_iff_ne.2 (by omega)
       have tK2:((K:Int)+1==1)=false:=beq_eq_false_iff_ne.2 (by omega);have tK3:¬(K:Int)=0:=by omega
       clear hO3
       go_wp2_with (first
        |(go_at_call 39;with_reducible refine (H25.out _).mono ?_;rintro e w2 ⟨rfl,hw⟩;rw [hw];clear hw)
        |(go_at_call 39;with_reducible refine (H26.out _).mono ?_;rintro e w2 ⟨rfl,hw⟩;rw [hw];clear hw))
       go_ret2;exact ⟨rfl,HBq.out⟩
     | some S=>
       simp only at hR;have hs:=HMN.out S rfl;have hways:(K=0∧S=y)∨(¬K=0∧al=true∧S=y)∨(¬K=0∧al=false∧lf=true∧S=y)∨(¬K=0∧al=false∧lf=false∧ll=true∧S=z):=by
        by_cases hK:K=0
        ·rw [decide_eq_true hK] at hO3;exact .inl ⟨hK,by simpa using hO3⟩
        ·rw [decide_eq_false hK] at hO3;cases al
         ·cases lf
          ·cases ll
           ·simp at hO3
           ·exact .inr (.inr (.inr ⟨hK,rfl,rfl,rfl,by simpa using hO3⟩))
          ·exact .inr (.inr (.inl ⟨hK,rfl,rfl,by simpa using hO3⟩))
         ·exact .inr (.inl ⟨hK,rfl,by simpa using hO3⟩)
       have HW:=Lib.hid hways;clear hO3 hways;have hK4:(K=0∧S=y)∨(¬K=0∧al=true∧S=y)∨(¬K=0∧al=false∧lf=true∧S=y)∨(¬K=0∧al=false∧lf=false∧ll=true∧S=z):=HW.out;clear HW;rcases hK4 with ⟨hK,rfl⟩ | ⟨hK,rfl,rfl⟩ | ⟨hK,rfl,rfl,rfl⟩ | ⟨hK,rfl,rfl,rfl,rfl⟩;all_goals
        first
         |(have tK:((((K+1:Nat)):Int)==1)=true:=beq_iff_eq.2 (by omega))
         |(have tK:((((K+1:Nat)):Int)==1)=false:=beq_eq_false_iff_ne.2 (by omega)
           have tK2:((K:Int)+1==1)=false:=beq_eq_false_iff_ne.2 (by omega);have tK3:¬(K:Int)=0:=by omega)
        have HD:=Lib.hid (HT.out S hs);clear HT HMN;generalize hNN:Num.readOf 10 most (unplus lp S).data.toList=N at *;clear hNN;obtain ⟨N1,N2⟩:=N;simp only at HD;unfold numV at hR;simp only at hR;have hcase:(N2=22∧R=(0,400))∨((N2==22)=false∧N2=23∧R=(0,413))∨((N2==22)=false∧(N2==23)=false∧R=(N1,0)):=by
         by_cases h1:N2=22
         ·rw [if_pos h1] at hR;exact .inl ⟨h1,hR.symm⟩
         ·rw [if_neg h1] at hR;by_cases h2:N2=23
          ·rw [if_pos h2] at hR;exact .inr (.inl ⟨beq_eq_false_iff_ne.2 h1,h2,hR.symm⟩)
          ·rw [if_neg h2] at hR;exact .inr (.inr ⟨beq_eq_false_iff_ne.2 h1,beq_eq_false_iff_ne.2 h2,hR.symm⟩)
        clear hR;cases lp with
        | false=>
          rw [show unplus false S=S from rfl] at HD;rcases hcase with ⟨rfl,rfl⟩ | ⟨t1,rfl,rfl⟩ | ⟨t1,t2,rfl⟩;all_goals
           go_wp2_with (first
            |(go_at_call 39;with_reducible refine (H23.out _).mono ?_;rintro e w2 ⟨rfl,hw⟩;rw [hw];clear hw) |(go_at_call 39;with_reducible refine (H25.out _).mono ?_;rintro e w2 ⟨rfl,hw⟩;rw [hw];clear hw) |(go_at_call 39;with_reducible refine (H26.out _).mono ?_;rintro e w2 ⟨rfl,hw⟩;rw [hw];clear hw)
            |(go_at_call 119;with_reducible refine (HD.out _).mono ?_;rintro e w3 ⟨rfl,hw⟩;rw [hw];clear hw))
           go_ret2;exact ⟨rfl,HBq.out⟩
        | true=>
          rcases Nat.eq_zero_or_pos S.size with hz0 | hz0
          ·have e0:S.toList.isEmpty=true:=by
            rw [Lib.toList_data,List.length_eq_zero_iff.1 (show S.data.toList.length=0 by rw [len];exact hz0)];rfl
           rw [show unplus true S=S by unfold unplus;rw [List.length_eq_zero_iff.1 (show S.data.toList.length=0 by rw [len];exact hz0)];rfl] at HD;clear hz0;rcases hcase with ⟨rfl,rfl⟩ | ⟨t1,rfl,rfl⟩ | ⟨t1,t2,rfl⟩;all_goals
            go_wp2_with (first
             |(go_at_call 39;with_reducible refine (H23.out _).mono ?_;rintro e w2 ⟨rfl,hw⟩;rw [hw];clear hw) |(go_at_call 39;with_reducible refine (H25.out _).mono ?_;rintro e w2 ⟨rfl,hw⟩;rw [hw];clear hw) |(go_at_call 39;with_reducible refine (H26.out _).mono ?_;rintro e w2 ⟨rfl,hw⟩;rw [hw];clear hw)
             |(go_at_call 119;with_reducible refine (HD.out _).mono ?_;rintro e w3 ⟨rfl,hw⟩;rw [hw];clear hw))
            go_ret2;exact ⟨rfl,HBq.out⟩
          ·obtain ⟨e1,e2,e0⟩:=first_of S hz0;have i0:(0:Int)<(S.size:Int):=by omega
           have i1:(1:Int)≤(S.size:Int):=by omega
           have i2:(S.size:Int)≤9223372036854775807:=by omega
           by_cases hp:S[0]=43
           ·have t3:(((S[0].toNat:Nat):Int)==43)=true:=by rw [hp];rfl
            rw [show unplus true S=S.extract 1 S.size from by
             unfold unplus;rw [if_pos (by rw [e1,hp];rfl)]
             exact ba_ext e2.symm] at HD
            clear e1 e2 hp;rcases hcase with ⟨rfl,rfl⟩ | ⟨t1,rfl,rfl⟩ | ⟨t1,t2,rfl⟩;all_goals
             go_wp2_with (first
              |(go_at_call 39;with_reducible refine (H23.out _).mono ?_;rintro e w2 ⟨rfl,hw⟩;rw [hw];clear hw) |(go_at_call 39;with_reducible refine (H25.out _).mono ?_;rintro e w2 ⟨rfl,hw⟩;rw [hw];clear hw) |(go_at_call 39;with_reducible refine (H26.out _).mono ?_;rintro e w2 ⟨rfl,hw⟩;rw [hw];clear hw)
              |(go_at_call 119;with_reducible refine (HD.out _).mono ?_;rintro e w3 ⟨rfl,hw⟩;rw [hw];clear hw))
             go_ret2;exact ⟨rfl,HBq.out⟩
           ·have t3:(((S[0].toNat:Nat):Int)==43)=false:=beq_eq_false_iff_ne.2 (fun e=>hp (UInt8.toNat_inj.1 (show S[0].toNat=(43:UInt8).toNat from by have e43:(43:UInt8).toNat=43:=rfl;omega)))
            rw [show unplus true S=S from by
             unfold unplus
             rw [if_neg (by rw [e1,List.head?_cons];simpa using hp)]] at HD
            clear e1 e2 hp;rcases hcase with ⟨rfl,rfl⟩ | ⟨t1,rfl,rfl⟩ | ⟨t1,t2,rfl⟩;all_goals
             go_wp2_with (first
              |(go_at_call 39;with_reducible refine (H23.out _).mono ?_;rintro e w2 ⟨rfl,hw⟩;rw [hw];clear hw) |(go_at_call 39;with_reducible refine (H25.out _).mono ?_;rintro e w2 ⟨rfl,hw⟩;rw [hw];clear hw) |(go_at_call 39;with_reducible refine (H26.out _).mono ?_;rintro e w2 ⟨rfl,hw⟩;rw [hw];clear hw)
              |(go_at_call 119;with_reducible refine (HD.out _).mono ?_;rintro e w3 ⟨rfl,hw⟩;rw [hw];clear hw))
             go_ret2;exact ⟨rfl,HBq.out⟩
 | true=>
   rw [if_pos rfl] at hR
   have HM:=Lib.hid (fun s (h:s∈list vs)=>show s.size≤1000000000 from Nat.le_trans (hms s h) hr);clear hv hms hrm hne;generalize list vs=U at *;obtain ⟨m,hm⟩:∃m,U.length=m:=⟨_,rfl⟩;rw [hm] at HL hll hlp;obtain ⟨K,rfl⟩:∃K,m=K+1:=⟨m-1,by omega⟩
   have HE:=Lib.hid (fun (a':Option Addr) (w':World) (hS:Strs w' a' (K+1) U)=>strs_ends hS)
   have HMN:=Lib.hid (fun (s:ByteArray) (h:counts true lf ll U=some s)=>HM.out s (counts_mem _ _ _ _ _ h (fun e=>by rw [e] at hm;simp at hm)));obtain ⟨O,hO⟩:∃O,counts true lf ll U=O:=⟨_,rfl⟩;rw [hO] at hR HMN;have HUL:=Lib.hid hm;have hO2:O=if (decide (K=0)|| ((true&&alikeL U)||lf))=true then some (U.headD ByteArray.empty) else if ll=true then some (U.getLastD ByteArray.empty) else none:=by rw [←hO];unfold counts;rw [hm];simp
   have HO:=Lib.hid hO2;clear hO hO2 HM hm
   have HN:=Lib.hid (fun k (hk:k<K+1)=>take_all_snoc (fun v:ByteArray=>decide (v=U.headD ByteArray.empty)) ByteArray.empty U k (by rw [HUL.out];exact hk))
   have HA:=Lib.hid (show (U.take (K+1)).all (fun v=>decide (v=U.headD ByteArray.empty))=alikeL U by rw [List.take_of_length_le (by rw [HUL.out];exact Nat.le_refl _)];rfl)
   have HC1:=Lib.hid (show IntKind.i64.wrap (((K+1:Nat):Int)-1)=(K:Int) by rw [wrap_in _ (by omega) (by omega)];omega)
   have HC2:=Lib.hid (show wrap64 (((K+1:Nat):Int)-1)=(K:Int) by unfold wrap64;omega);go_enter Tryz.func110,Tryz.ntmps110
   go_wp2_with (first
    |(go_at_call 39;with_reducible refine (H24.out _).mono ?_;rintro e w1 ⟨rfl,hw⟩;rw [hw];clear hw)
    |(go_at_call 123;with_reducible refine (HL.out).mono ?_;rintro e w1 ⟨b,m2,c,rfl,hm2,hS,hb⟩
      rw [hm2] at hS ⊢;clear hm2;have HS:=Lib.hid hS;have HB:=Lib.hid hb;obtain ⟨bl,off,rfl,hd0,hz0⟩:=HE.out _ _ hS;have HD0:=Lib.hid hd0;have HZ0:=Lib.hid hz0;clear hS hb hd0 hz0))
   go_loopw [9,10] (fun al i wr=>∃k q:Nat,k≤K+1∧i=.int .i64 k∧wr=w1.drewN q∧∃b:Bool,al=.bool b∧Hid ((U.take k).all (fun v=>decide (v=U.headD ByteArray.empty))=b)) (fun _ i _=>K+1-(intOf i).toNat)
   case atStart=>exact ⟨0,0,Nat.zero_le _,rfl,rfl,true,rfl,Lib.hid rfl⟩
   case round=>
    obtain ⟨k,q,hk,rfl,rfl,al,rfl,HAL⟩:=hrel;rcases Nat.lt_or_ge k (K+1) with hlt | hge
    ·have i1:(k:Int)<((K+1:Nat):Int):=by omega
     have i0:(0:Int)<((K+1:Nat):Int):=by omega
     obtain ⟨bl2,off2,he2,_,hc⟩:=HS.out.2 (by omega);obtain ⟨rfl,rfl⟩:bl=bl2∧off=off2:=by simpa using he2
     have hck:=hc k hlt;have hc0:=HD0.out
     have HNk:=Lib.hid (HN.out k hlt);clear hc he2;cases al with
     | false=>
       have H2:=Lib.hid (show (U.take (k+1)).all (fun v=>decide (v=U.headD ByteArray.empty))=false by rw [HNk.out,HAL.out];rfl);clear HNk hck hc0;go_wp2_with fail
       go_quiet (fail);rename_i nq;go_wp2;go_roundw
       case rel=>first | exact ⟨k+1,q+nq,by omega,by go_num,(World.drewN_drewN _ _ _).symm ▸ rfl,false,rfl,H2⟩ | exact ⟨k+1,q+nq,by omega,by go_num,by rw [World.drewN_drewN],false,rfl,H2⟩ | exact ⟨k+1,q+nq,by omega,by go_num,rfl,false,rfl,H2⟩
       case measure=>simp [intOf];omega
     | true=>
       by_cases he:U[k]?.getD ByteArray.empty=U.headD ByteArray.empty
       ·have H2:=Lib.hid (show (U.take (k+1)).all (fun v=>decide (v=U.headD ByteArray.empty))=true by rw [HNk.out,HAL.out,he];simp);rw [he] at hck;clear HNk he;generalize U.headD ByteArray.empty=y at *;go_wp2_with fail
        go_quiet (fail);rename_i nq;go_wp2;go_roundw
        case rel=>first | exact ⟨k+1,q+nq,by omega,by go_num,(World.drewN_drewN _ _ _).symm ▸ rfl,true,rfl,H2⟩ | exact ⟨k+1,q+nq,by omega,by go_num,by rw [World.drewN_drewN],true,rfl,H2⟩ | exact ⟨k+1,q+nq,by omega,by go_num,rfl,true,rfl,H2⟩
        case measure=>simp [intOf];omega
       ·have H2:=Lib.hid (show (U.take (k+1)).all (fun v=>decide (v=U.headD ByteArray.empty))=false by rw [HNk.out,HAL.out,decide_eq_false he];rfl);generalize U[k]?.getD ByteArray.empty=x at *;generalize U.headD ByteArray.empty=y at *
        have he2:¬x.toList=y.toList:=fun h=>he ((toList_iff x y).1 h);have he3:(x.toList==y.toList)=false:=by simpa using he2
        clear HNk he;go_wp2_with fail
        go_quiet (fail);rename_i nq;go_wp2;go_roundw
        case rel=>first | exact ⟨k+1,q+nq,by omega,by go_num,(World.drewN_drewN _ _ _).symm ▸ rfl,false,rfl,H2⟩ | exact ⟨k+1,q+nq,by omega,by go_num,by rw [World.drewN_drewN],false,rfl,H2⟩ | exact ⟨k+1,q+nq,by omega,by go_num,rfl,false,rfl,H2⟩
        case measure=>simp [intOf];omega
    ·obtain rfl:k=K+1:=by omega
     have HAL2:=Lib.hid (show (true&&alikeL U)=al by rw [Bool.true_and,←HA.out];exact HAL.out);have hbd:Below w1.heap.size w1 (w1.drewN q):=Base.below_drewN (Below.refl _ _) q
     obtain ⟨bl2,off2,he2,hd,hz⟩:=HE.out _ _ (HS.out.below hbd);obtain ⟨rfl,rfl⟩:bl=bl2∧off=off2:=by simpa using he2
     have HBq:=Lib.hid (Base.below_step HB.out hbd);have hO3:=HO.out;rw [HAL2.out] at hO3;have c1:=HC1.out;have c2:=HC2.out;have i0:(0:Int)<((K+1:Nat):Int):=by omega
     have iK:(K:Int)<((K+1:Nat):Int):=by omega
     clear he2 hbd HE HN HA HC1 HC2 HO HAL HAL2 HS HB HD0 HZ0;generalize w1.drewN q=wq at *;generalize U.headD ByteArray.empty=y at *;generalize U.getLastD ByteArray.empty=z at *;cases O with
     | none=>
       simp only at hR;have hcase:¬K=0∧al=false∧lf=false∧ll=false:=by
        refine ⟨fun e=>?_,?_,?_,?_⟩
        ·rw [decide_eq_true e] at hO3;simp at hO3
        ·cases al
         ·rfl
         ·simp at hO3
        ·cases lf
         ·rfl
         ·simp at hO3
        ·cases ll
         ·rfl
         ·by_cases hx:(decide (K=0)|| (al||lf))=true
          ·rw [if_pos hx] at hO3;cases hO3
          ·rw [if_neg hx,if_pos rfl] at hO3;cases hO3
       obtain ⟨hK,rfl,rfl,rfl⟩:=hcase;subst hR
       have tK:((((K+1:Nat)):Int)==1)=false:=beq_eq_false_iff_ne.2 (by omega)
       have tK2:((K:Int)+1==1)=false:=beq_eq_false_iff_ne.2 (by omega);have tK3:¬(K:Int)=0:=by omega
       clear hO3
       go_wp2_with (first
        |(go_at_call 39;with_reducible refine (H25.out _).mono ?_;rintro e w2 ⟨rfl,hw⟩;rw [hw];clear hw)
        |(go_at_call 39;with_reducible refine (H26.out _).mono ?_;rintro e w2 ⟨rfl,hw⟩;rw [hw];clear hw))
       go_ret2;exact ⟨rfl,HBq.out⟩
     | some S=>
       simp only at hR;have hs:=HMN.out S rfl;have hways:(K=0∧S=y)∨(¬K=0∧al=true∧S=y)∨(¬K=0∧al=false∧lf=true∧S=y)∨(¬K=0∧al=false∧lf=false∧ll=true∧S=z):=by
        by_cases hK:K=0
        ·rw [decide_eq_true hK] at hO3;exact .inl ⟨hK,by simpa using hO3⟩
        ·rw [decide_eq_false hK] at hO3;cases al
         ·cases lf
          ·cases ll
           ·simp at hO3
           ·exact .inr (.inr (.inr ⟨hK,rfl,rfl,rfl,by simpa using hO3⟩))
          ·exact .inr (.inr (.inl ⟨hK,rfl,rfl,by simpa using hO3⟩))
         ·exact .inr (.inl ⟨hK,rfl,by simpa using hO3⟩)
       have HW:=Lib.hid hways;clear hO3 hways;have hK4:(K=0∧S=y)∨(¬K=0∧al=true∧S=y)∨(¬K=0∧al=false∧lf=true∧S=y)∨(¬K=0∧al=false∧lf=false∧ll=true∧S=z):=HW.out;clear HW;rcases hK4 with ⟨hK,rfl⟩ | ⟨hK,rfl,rfl⟩ | ⟨hK,rfl,rfl,rfl⟩ | ⟨hK,rfl,rfl,rfl,rfl⟩;all_goals
        first
         |(have tK:((((K+1:Nat)):Int)==1)=true:=beq_iff_eq.2 (by omega))
         |(have tK:((((K+1:Nat)):Int)==1)=false:=beq_eq_false_iff_ne.2 (by omega)
           have tK2:((K:Int)+1==1)=false:=beq_eq_false_iff_ne.2 (by omega);have tK3:¬(K:Int)=0:=by omega)
        have HD:=Lib.hid (HT.out S hs);clear HT HMN;generalize hNN:Num.readOf 10 most (unplus lp S).data.toList=N at *;clear hNN;obtain ⟨N1,N2⟩:=N;simp only at HD;unfold numV at hR;simp only at hR;have hcase:(N2=22∧R=(0,400))∨((N2==22)=false∧N2=23∧R=(0,413))∨((N2==22)=false∧(N2==23)=false∧R=(N1,0)):=by
         by_cases h1:N2=22
         ·rw [if_pos h1] at hR;exact .inl ⟨h1,hR.symm⟩
         ·rw [if_neg h1] at hR;by_cases h2:N2=23
          ·rw [if_pos h2] at hR;exact .inr (.inl ⟨beq_eq_false_iff_ne.2 h1,h2,hR.symm⟩)
          ·rw [if_neg h2] at hR;exact .inr (.inr ⟨beq_eq_false_iff_ne.2 h1,beq_eq_false_iff_ne.2 h2,hR.symm⟩)
        clear hR;cases lp with
        | false=>
          rw [show unplus false S=S from rfl] at HD;rcases hcase with ⟨rfl,rfl⟩ | ⟨t1,rfl,rfl⟩ | ⟨t1,t2,rfl⟩;all_goals
           go_wp2_with (first
            |(go_at_call 39;with_reducible refine (H23.out _).mono ?_;rintro e w2 ⟨rfl,hw⟩;rw [hw];clear hw) |(go_at_call 39;with_reducible refine (H25.out _).mono ?_;rintro e w2 ⟨rfl,hw⟩;rw [hw];clear hw) |(go_at_call 39;with_reducible refine (H26.out _).mono ?_;rintro e w2 ⟨rfl,hw⟩;rw [hw];clear hw)
            |(go_at_call 119;with_reducible refine (HD.out _).mono ?_;rintro e w3 ⟨rfl,hw⟩;rw [hw];clear hw))
           go_ret2;exact ⟨rfl,HBq.out⟩
        | true=>
          rcases Nat.eq_zero_or_pos S.size with hz0 | hz0
          ·have e0:S.toList.isEmpty=true:=by
            rw [Lib.toList_data,List.length_eq_zero_iff.1 (show S.data.toList.length=0 by rw [len];exact hz0)];rfl
           rw [show unplus true S=S by unfold unplus;rw [List.length_eq_zero_iff.1 (show S.data.toList.length=0 by rw [len];exact hz0)];rfl] at HD;clear hz0;rcases hcase with ⟨rfl,rfl⟩ | ⟨t1,rfl,rfl⟩ | ⟨t1,t2,rfl⟩;all_goals
            go_wp2_with (first
             |(go_at_call 39;with_reducible refine (H23.out _).mono ?_;rintro e w2 ⟨rfl,hw⟩;rw [hw];clear hw) |(go_at_call 39;with_reducible refine (H25.out _).mono ?_;rintro e w2 ⟨rfl,hw⟩;rw [hw];clear hw) |(go_at_call 39;with_reducible refine (H26.out _).mono ?_;rintro e w2 ⟨rfl,hw⟩;rw [hw];clear hw)
             |(go_at_call 119;with_reducible refine (HD.out _).mono ?_;rintro e w3 ⟨rfl,hw⟩;rw [hw];clear hw))
            go_ret2;exact ⟨rfl,HBq.out⟩
          ·obtain ⟨e1,e2,e0⟩:=first_of S hz0;have i0:(0:Int)<(S.size:Int):=by omega
           have i1:(1:Int)≤(S.size:Int):=by omega
           have i2:(S.size:Int)≤9223372036854775807:=by omega
           by_cases hp:S[0]=43
           ·have t3:(((S[0].toNat:Nat):Int)==43)=true:=by rw [hp];rfl
            rw [show unplus true S=S.extract 1 S.size from by
             unfold unplus;rw [if_pos (by rw [e1,hp];rfl)]
             exact ba_ext e2.symm] at HD
            clear e1 e2 hp;rcases hcase with ⟨rfl,rfl⟩ | ⟨t1,rfl,rfl⟩ | ⟨t1,t2,rfl⟩;all_goals
             go_wp2_with (first
              |(go_at_call 39;with_reducible refine (H23.out _).mono ?_;rintro e w2 ⟨rfl,hw⟩;rw [hw];clear hw) |(go_at_call 39;with_reducible refine (H25.out _).mono ?_;rintro e w2 ⟨rfl,hw⟩;rw [hw];clear hw) |(go_at_call 39;with_reducible refine (H26.out _).mono ?_;rintro e w2 ⟨rfl,hw⟩;rw [hw];clear hw)
              |(go_at_call 119;with_reducible refine (HD.out _).mono ?_;rintro e w3 ⟨rfl,hw⟩;rw [hw];clear hw))
             go_ret2;exact ⟨rfl,HBq.out⟩
           ·have t3:(((S[0].toNat:Nat):Int)==43)=false:=beq_eq_false_iff_ne.2 (fun e=>hp (UInt8.toNat_inj.1 (show S[0].toNat=(43:UInt8).toNat from by have e43:(43:UInt8).toNat=43:=rfl;omega)))
            rw [show unplus true S=S from by
             unfold unplus
             rw [if_neg (by rw [e1,List.head?_cons];simpa using hp)]] at HD
            clear e1 e2 hp;rcases hcase with ⟨rfl,rfl⟩ | ⟨t1,rfl,rfl⟩ | ⟨t1,t2,rfl⟩;all_goals
             go_wp2_with (first
              |(go_at_call 39;with_reducible refine (H23.out _).mono ?_;rintro e w2 ⟨rfl,hw⟩;rw [hw];clear hw) |(go_at_call 39;with_reducible refine (H25.out _).mono ?_;rintro e w2 ⟨rfl,hw⟩;rw [hw];clear hw) |(go_at_call 39;with_reducible refine (H26.out _).mono ?_;rintro e w2 ⟨rfl,hw⟩;rw [hw];clear hw)
              |(go_at_call 119;with_reducible refine (HD.out _).mono ?_;rintro e w3 ⟨rfl,hw⟩;rw [hw];clear hw))
             go_ret2;exact ⟨rfl,HBq.out⟩
end code
end Go.Proofs.YtimoakmcelocfaaGreat.Frm
namespace Go.Proofs.YtimoakmcelocfaaGreat.Frm
open Go.RowKit Base Txt
theorem rfind_at (a:Option Addr) (n cap:Nat) (fs:List Fld) (name:ByteArray) (w:World) (hv:Flds w a n fs) (hn:n≤1000000000) (hs:∀f∈fs,f.1.size≤1000000000) (ht:name.size≤1000000000) :
 Calls Tryz.prog 108 #[.slice a n cap,.string name] w fun e w'=>∃b c,e=.returned (.slice b (find fs name).length c)∧Strs w' b (find fs name).length (find fs name)∧Below w.heap.size w w':=
 (rfind_any a n cap fs name w hv hn hs ht).mono (by rintro e w' ⟨b,m,c,rfl,rfl,hS,hb⟩;exact ⟨b,c,rfl,hS,hb⟩)
theorem hosts_old (nh mh:Bool) (h:List ByteArray) (h0:h.length=0) (hn:nh=true):hostsV nh mh 1 h=0:=by obtain rfl:=List.eq_nil_of_length_eq_zero h0;rw [hosts_none,hn];rfl
section code
set_option maxHeartbeats 4000000
set_option maxRecDepth 10000
attribute [local go_sem] Base.some_undef
theorem rhosts_any (p:Nat) (hp:p<4294967296) (minor:Int) (a:Option Addr) (n cap:Nat) (fs:List Fld) (w:World) (hv:Flds w a n fs) (hn:n≤1000000000) (hs:∀f∈fs,f.1.size≤1000000000∧f.2.size≤1000000000) :
 Calls Tryz.prog 107 #[.int .u32 (p:Nat),.int .i64 minor,.slice a n cap] w fun e w'=>e=.returned (.int .i64 (hostsV (Qk.has p 15) (Qk.has p 16) minor (find fs hostN)))∧Below w.heap.size w w':=by
 have HF:=Lib.hid (rfind_at a n cap fs ⟨#[72,111,115,116]⟩ w hv hn (fun f hf=>(hs f hf).1) (by decide))
 have H15:=Lib.hid (fun w=>Qk.rhas_any p hp 15 w)
 have H16:=Lib.hid (fun w=>Qk.rhas_any p hp 16 w)
 have hsz:=find_sizes fs ⟨#[72,111,115,116]⟩ 1000000000 (fun f hf=>(hs f hf).2);have hle:=find_le fs ⟨#[72,111,115,116]⟩;rw [hv.1] at hle
 have HT:=Lib.hid (fun v (hv:v.size≤1000000000) w=>Tgt.rhost_any v w hv);obtain ⟨R,hR⟩:∃R,hostsV (Qk.has p 15) (Qk.has p 16) minor (find fs ⟨#[72,111,115,116]⟩)=R:=⟨_,rfl⟩;rw [show hostsV (Qk.has p 15) (Qk.has p 16) minor (find fs hostN)=R from hR];clear hv hs hp;generalize find fs ⟨#[72,111,115,116]⟩=H at *;obtain ⟨nh,hnh⟩:∃nh,Qk.has p 15=nh:=⟨_,rfl⟩;rw [hnh] at H15 hR;obtain ⟨mh,hmh⟩:∃mh,Qk.has p 16=mh:=⟨_,rfl⟩;rw [hmh] at H16 hR;clear hmh hnh;obtain ⟨m,hm⟩:∃m,H.length=m:=⟨_,rfl⟩;rw [hm] at HF hle
 have HSZ:=Lib.hid (fun k (hk:k<m)=>show (H[k]?.getD ByteArray.empty).size≤1000000000 by
  rw [List.getElem?_eq_getElem (by omega)]
  exact hsz _ (List.getElem_mem _))
 have HM:=Lib.hid hm;clear hsz;by_cases hA:minor=1∧m=0∧nh=false
 ·obtain ⟨rfl,rfl,rfl⟩:=hA;obtain rfl:=List.eq_nil_of_length_eq_zero hm;rw [hosts_none] at hR
  replace hR:R=400:=hR.symm
  subst hR;clear hm HSZ HM HT;go_enter Tryz.func107,Tryz.ntmps107
  go_wp2_with (first
   |(go_at_call 108;with_reducible refine (HF.out).mono ?_;rintro e w1 ⟨b,c,rfl,hS,hb⟩;clear hS)
   |(go_at_call 39;with_reducible refine (H15.out _).mono ?_;rintro e w2 ⟨rfl,hw⟩;rw [hw];clear hw))
  go_ret;exact ⟨rfl,hb⟩
 by_cases hB:1<m∧mh=false
 ·obtain ⟨h1,rfl⟩:=hB;rw [hosts_many nh minor H (by omega)] at hR;subst hR
  have t0:((m:Int)==0)=false:=beq_eq_false_iff_ne.2 (by omega);have t1:(1:Int)<(m:Int):=by omega
  clear hm hA HSZ HM HT;rcases (by omega:minor=1∨¬minor=1) with rfl | h2;all_goals
   try (have t2:(minor==1)=false:=beq_eq_false_iff_ne.2 h2)
   go_enter Tryz.func107,Tryz.ntmps107
   go_wp2_with (first
    |(go_at_call 108;with_reducible refine (HF.out).mono ?_;rintro e w1 ⟨b,c,rfl,hS,hb⟩;clear hS)
    |(go_at_call 39;with_reducible refine (H16.out _).mono ?_;rintro e w2 ⟨rfl,hw⟩;rw [hw];clear hw))
   go_ret;exact ⟨rfl,hb⟩
 have hR2:R=if (H.all fun v=>Tgt.hostB v.data.toList)=true then 0 else 400:=by
  by_cases h10:minor=1∧m=0
  ·obtain ⟨rfl,rfl⟩:=h10;cases nh
   ·exact absurd ⟨rfl,rfl,rfl⟩ hA
   ·rw [←hR,hosts_old true mh H hm rfl,List.eq_nil_of_length_eq_zero hm];rfl
  ·rw [←hR]
   exact hosts_loop nh mh minor H (by rw [hm];exact h10) (by
    rcases (by omega:m≤1∨1<m) with h | h
    ·exact .inl (by omega)
    ·right;cases mh
     ·exact absurd ⟨h,rfl⟩ hB
     ·rfl)
 have HR:=Lib.hid hR2;clear hR hR2 hm;have hcase:(m=0∧(¬minor=1∨(minor=1∧nh=true)))∨(m=1∧(¬minor=1∨minor=1))∨((1<m∧mh=true)∧(¬minor=1∨minor=1)):=by
  rcases (by omega:m=0∨m=1∨1<m) with h | h | h
  ·refine .inl ⟨h,?_⟩;by_cases h2:minor=1
   ·right;cases nh
    ·exact absurd ⟨h2,h,rfl⟩ hA
    ·exact ⟨h2,rfl⟩
   ·exact .inl h2
  ·exact .inr (.inl ⟨h,by omega⟩)
  ·refine .inr (.inr ⟨⟨h,?_⟩,by omega⟩);cases mh
   ·exact absurd ⟨h,rfl⟩ hB
   ·rfl
 clear hA hB;rcases hcase with ⟨h0,hmi⟩ | ⟨h0,hmi⟩ | ⟨⟨h0,rfl⟩,hmi⟩
 ·obtain rfl:=h0
  have H3:=Lib.hid (show R=0 from by rw [HR.out,List.eq_nil_of_length_eq_zero HM.out];rfl);rcases hmi with h2 | ⟨rfl,rfl⟩;all_goals
   try (have t2:(minor==1)=false:=beq_eq_false_iff_ne.2 h2)
   go_enter Tryz.func107,Tryz.ntmps107
   go_wp2_with (first
    |(go_at_call 108;with_reducible refine (HF.out).mono ?_;rintro e w1 ⟨b,c,rfl,hS,hb⟩;clear hS
      have HB:=Lib.hid hb;clear hb)
    |(go_at_call 39;with_reducible refine (H15.out _).mono ?_;rintro e w2 ⟨rfl,hw⟩;rw [hw];clear hw))
   go_loopw [8] (fun i wr=>i=.int .i64 0∧wr=w1) (fun i _=>0)
   case atStart=>exact ⟨rfl,rfl⟩
   case round=>obtain ⟨rfl,rfl⟩:=hrel;go_wp2_with fail;go_ret;exact ⟨by rw [H3.out];rfl,HB.out⟩
 all_goals
  have t0:((m:Int)==0)=false:=beq_eq_false_iff_ne.2 (by omega);first
   |(have t1:(1:Int)<(m:Int):=by omega)
   |(have t1:¬(1:Int)<(m:Int):=by omega)
  clear h0;rcases hmi with h2 | rfl;all_goals
   try (have t2:(minor==1)=false:=beq_eq_false_iff_ne.2 h2)
   go_enter Tryz.func107,Tryz.ntmps107
   go_wp2_with (first
    |(go_at_call 108;with_reducible refine (HF.out).mono ?_;rintro e w1 ⟨b,c,rfl,hS,hb⟩
      have HS:=Lib.hid hS;have HB:=Lib.hid hb;clear hS hb)
    |(go_at_call 39;with_reducible refine (H16.out _).mono ?_;rintro e w2 ⟨rfl,hw⟩;rw [hw];clear hw))
   go_loopw [8] (fun i wr=>∃k:Nat,k≤m∧i=.int .i64 k∧Hid (Below w1.heap.size w1 wr)∧Hid ((H.take k).all (fun v=>Tgt.hostB v.data.toList)=true)) (fun i _=>m-(intOf i).toNat)
   case atStart=>exact ⟨0,Nat.zero_le _,rfl,Lib.hid (Below.refl _ _),Lib.hid rfl⟩
   case round=>
    obtain ⟨k,hk,rfl,hbr,H1⟩:=hrel;rcases Nat.lt_or_ge k m with hlt | hge
    ·obtain ⟨bl,off,rfl,hbl,hc⟩:=(HS.out.below hbr.out).2 (by omega);have hck:=hc k hlt
     have HN:=Lib.hid (take_all_snoc (fun v:ByteArray=>Tgt.hostB v.data.toList) ByteArray.empty H k (by rw [HM.out];exact hlt))
     have HZ:=Lib.hid (all_of_miss (fun v:ByteArray=>Tgt.hostB v.data.toList) ByteArray.empty H k (by rw [HM.out];exact hlt))
     have HC:=Lib.hid (HT.out _ (HSZ.out k hlt));clear hc;generalize H[k]?.getD ByteArray.empty=x at *;have i1:(k:Int)<(m:Int):=by omega
     generalize Tgt.hostB x.data.toList=q at *;cases q with
     | true=>
       have H2:=Lib.hid (show (H.take (k+1)).all (fun v=>Tgt.hostB v.data.toList)=true by rw [HN.out,H1.out];rfl);clear HN HZ
       go_wp2_with (go_at_call 102;with_reducible refine (HC.out _).mono ?_;rintro e w2 ⟨rfl,hb⟩)
       have HB2:=Lib.hid (Base.below_step hbr.out hb);clear hb;go_roundw
       case rel=>exact ⟨k+1,by omega,by go_num,HB2,H2⟩
       case measure=>simp [intOf];omega
     | false=>
       have H2:=Lib.hid (show R=400 by rw [HR.out,HZ.out rfl];rfl);clear HN HZ
       go_wp2_with (go_at_call 102;with_reducible refine (HC.out _).mono ?_;rintro e w2 ⟨rfl,hb⟩)
       have HB2:=Lib.hid (Base.below_step (Base.below_step HB.out hbr.out) hb);clear hb;go_ret;exact ⟨by rw [H2.out];rfl,HB2.out⟩
    ·obtain rfl:k=m:=by omega
     have H2:=Lib.hid (show R=0 by have:=H1.out;rw [List.take_of_length_le (by rw [HM.out];exact Nat.le_refl _)] at this;rw [HR.out,this];rfl)
     have HB2:=Lib.hid (Base.below_step HB.out hbr.out);go_wp2_with fail;go_ret;exact ⟨by rw [H2.out];rfl,HB2.out⟩
end code
end Go.Proofs.YtimoakmcelocfaaGreat.Frm
namespace Go.Proofs.YtimoakmcelocfaaGreat.Frm
open Go.RowKit Base Txt
section code
set_option maxHeartbeats 8000000
set_option maxRecDepth 10000
attribute [local go_sem] Base.some_undef
theorem rdecide_any (p:Nat) (hp:p<4294967296) (x0 x1 x2 x3 x4 x5 x6 x7:Int) (ch od:Bool) (hx:x3≤9223372036854775807) (minor:Int) (a:Option Addr) (n cap:Nat) (fs:List Fld) (w:World) (hv:Flds w a n fs) (hn:n≤500) (hs:∀f∈fs,f.1.size≤1000000∧f.2.size≤1000000) :
 Calls Tryz.prog 91 #[.int .u32 (p:Nat),Bnd.bnd x0 x1 x2 x3 x4 x5 x6 x7 ch od,.int .i64 minor,.slice a n cap] w fun e w'=>e=.returned (.tuple #[fr (decideV (clOf p) ch x3 minor fs).1 (decideV (clOf p) ch x3 minor fs).2.1,.int .i64 (decideV (clOf p) ch x3 minor fs).2.2])∧Below w.heap.size w w':=by
 have HH:=Lib.hid (fun w' hb=>rhosts_any p hp minor a n cap fs w' (hv.below (w':=w') hb) (by omega) (fun f hf=>by have:=hs f hf;omega))
 have HF1:=Lib.hid (fun w' hb=>rfind_at a n cap fs ⟨#[84,114,97,110,115,102,101,114,45,69,110,99,111,100,105,110,103]⟩ w' (hv.below (w':=w') hb) (by omega) (fun f hf=>by have:=hs f hf;omega) (by decide))
 have HF2:=Lib.hid (fun w' hb=>rfind_at a n cap fs ⟨#[67,111,110,116,101,110,116,45,76,101,110,103,116,104]⟩ w' (hv.below (w':=w') hb) (by omega) (fun f hf=>by have:=hs f hf;omega) (by decide));have hrm:∀name,room (find fs name)≤1000000000:=fun name=>by
  have h1:=room_le (find fs name) 1000000 (find_sizes fs name 1000000 fun f hf=>(hs f hf).2);have h2:=find_le fs name;rw [hv.1] at h2
  have h3:(find fs name).length*(1000000+1)≤500*1000001:=Nat.mul_le_mul (by omega) (by omega);omega
 have hrm1:=hrm ⟨#[84,114,97,110,115,102,101,114,45,69,110,99,111,100,105,110,103]⟩;have hrm2:=hrm ⟨#[67,111,110,116,101,110,116,45,76,101,110,103,116,104]⟩
 have H19:=Lib.hid (fun w=>Qk.rhas_any p hp 19 w)
 have H20:=Lib.hid (fun w=>Qk.rhas_any p hp 20 w)
 have H21:=Lib.hid (fun w=>Qk.rhas_any p hp 21 w)
 have H22:=Lib.hid (fun w=>Qk.rhas_any p hp 22 w);obtain ⟨R,hR⟩:∃R,decideV (clOf p) ch x3 minor fs=R:=⟨_,rfl⟩;rw [hR]
 replace hR:bodyV (hostsV (Qk.has p 15) (Qk.has p 16) minor (find fs ⟨#[72,111,115,116]⟩)) ch
  (winsV (Qk.has p 20) (Qk.has p 19) (Qk.has p 21) (Qk.has p 22) minor (find fs ⟨#[84,114,97,110,115,102,101,114,45,69,110,99,111,100,105,110,103]⟩).length (find fs ⟨#[67,111,110,116,101,110,116,45,76,101,110,103,116,104]⟩).length (coding (Qk.has p 17) (Qk.has p 18) (find fs ⟨#[84,114,97,110,115,102,101,114,45,69,110,99,111,100,105,110,103]⟩)))
  (lengthV (Qk.has p 23) (Qk.has p 24) (Qk.has p 25) (Qk.has p 26) x3 (find fs ⟨#[67,111,110,116,101,110,116,45,76,101,110,103,116,104]⟩))=R:=hR
 rw [show find fs hostN=find fs ⟨#[72,111,115,116]⟩ from rfl] at HH;generalize find fs ⟨#[72,111,115,116]⟩=LH at *;generalize find fs ⟨#[84,114,97,110,115,102,101,114,45,69,110,99,111,100,105,110,103]⟩=LT at *;generalize find fs ⟨#[67,111,110,116,101,110,116,45,76,101,110,103,116,104]⟩=LC at *
 have HW:=Lib.hid (fun a' c' w' hS=>rcoding_any p hp a' LT.length c' LT w' hS hrm1)
 have HL:=Lib.hid (fun a' c' w' hS=>rlength_any p hp x3 hx a' LC.length c' LC w' hS hrm2);generalize hostsV (Qk.has p 15) (Qk.has p 16) minor LH=Z at *;generalize lengthV (Qk.has p 23) (Qk.has p 24) (Qk.has p 25) (Qk.has p 26) x3 LC=LV at *;generalize coding (Qk.has p 17) (Qk.has p 18) LT=cod at *;generalize LT.length=nT at *;generalize LC.length=nC at *;generalize Qk.has p 19=ti at *;generalize Qk.has p 20=td at *;generalize Qk.has p 21=tw at *;generalize Qk.has p 22=lw at *;obtain ⟨ln,le⟩:=LV;unfold bodyV fixedV winsV at hR;simp only at hR HL;clear hrm hrm1 hrm2 hv hs hp hx hn
 have HK0:=Lib.hid (Kp.new w 24 133 x0 x1 x2 x3 x4 x5 x6 x7 ch od);by_cases hZ:Z≠0
 ·rw [if_pos hZ] at hR;subst hR;have tz:(Z==0)=false:=beq_eq_false_iff_ne.2 hZ;clear hZ;go_enter Tryz.func91,Tryz.ntmps91
  go_wp2_with (first
   |(go_at_call 39;with_reducible refine (H19.out _).mono ?_;rintro e w8 ⟨rfl,hw⟩;rw [hw];clear hw)
   |(go_at_call 39;with_reducible refine (H20.out _).mono ?_;rintro e w8 ⟨rfl,hw⟩;rw [hw];clear hw)
   |(go_at_call 39;with_reducible refine (H21.out _).mono ?_;rintro e w8 ⟨rfl,hw⟩;rw [hw];clear hw)
   |(go_at_call 39;with_reducible refine (H22.out _).mono ?_;rintro e w8 ⟨rfl,hw⟩;rw [hw];clear hw)
   |(go_at_call 110;(with_reducible refine (HL.out _ _ _ HS2.out).mono ?_);rintro e w5 ⟨rfl,hb⟩
     replace HK:=Lib.hid (HK.out.step hb)
     (try clear q3 q8 c0 c1 z0 z1)
     obtain ⟨q3,q8,⟨c0,c1,z0,z1⟩,hlt,hbk⟩:=HK.out;clear hlt hbk hb)
   |(go_at_call 109;(with_reducible refine (HW.out _ _ _ HS1.out).mono ?_);rintro e w4 ⟨rfl,hb⟩
     replace HK:=Lib.hid (HK.out.step hb)
     replace HS1:=Lib.hid (HS1.out.below hb)
     replace HS2:=Lib.hid (HS2.out.below hb)
     (try clear q3 q8 c0 c1 z0 z1)
     obtain ⟨q3,q8,⟨c0,c1,z0,z1⟩,hlt,hbk⟩:=HK.out;clear hlt hbk hb)
   |(go_at_call 108;(with_reducible refine (HF2.out _ HK.out.b).mono ?_);rintro e w3 ⟨b3,k3,rfl,hS,hb⟩
     replace HK:=Lib.hid (HK.out.step hb)
     replace HS1:=Lib.hid (HS1.out.below hb)
     have HS2:=Lib.hid hS;clear hS
     (try clear q3 q8 c0 c1 z0 z1)
     obtain ⟨q3,q8,⟨c0,c1,z0,z1⟩,hlt,hbk⟩:=HK.out;clear hlt hbk hb)
   |(go_at_call 108;(with_reducible refine (HF1.out _ HK.out.b).mono ?_);rintro e w2 ⟨b2,k2,rfl,hS,hb⟩
     replace HK:=Lib.hid (HK.out.step hb)
     have HS1:=Lib.hid hS;clear hS
     (try clear q3 q8 c0 c1 z0 z1)
     obtain ⟨q3,q8,⟨c0,c1,z0,z1⟩,hlt,hbk⟩:=HK.out;clear hlt hbk hb)
   |(go_at_call 107;(with_reducible refine (HH.out _ HK0.out.b).mono ?_);rintro e w1 ⟨rfl,hb⟩
     have HK:=Lib.hid (HK0.out.step hb)
     (try clear q3 q8 c0 c1 z0 z1)
     obtain ⟨q3,q8,⟨c0,c1,z0,z1⟩,hlt,hbk⟩:=HK.out;clear hlt hbk hb))
  obtain ⟨W,hW,⟨d0,d1,_,_⟩,hbW⟩:=Gb.put HK.out.f HK.out.b (Nat.le_succ _) 0 0;rw [hW];exact bodyPost_ret (v:=.tuple #[fr 0 0,.int .i64 Z]) (by simp [results,Tryz.results91,go_sem,d0,d1]) rfl ⟨rfl,hbW⟩
 rw [if_neg hZ] at hR;obtain rfl:Z=0:=Decidable.not_not.1 hZ;clear hZ;by_cases hT:nT=0
 ·subst hT;rw [if_pos rfl] at hR;rw [if_neg (by decide),if_neg (by decide)] at hR;have hcase:(le=0∧R=(1,ln,0))∨((le==0)=false∧R=(0,0,le)):=by
   by_cases h:le=0
   ·rw [if_pos h] at hR;exact .inl ⟨h,hR.symm⟩
   ·rw [if_neg h] at hR;exact .inr ⟨beq_eq_false_iff_ne.2 h,hR.symm⟩
  clear hR;rcases hcase with ⟨rfl,rfl⟩ | ⟨tz,rfl⟩
  ·go_enter Tryz.func91,Tryz.ntmps91
   go_wp2_with (first
    |(go_at_call 39;with_reducible refine (H19.out _).mono ?_;rintro e w8 ⟨rfl,hw⟩;rw [hw];clear hw)
    |(go_at_call 39;with_reducible refine (H20.out _).mono ?_;rintro e w8 ⟨rfl,hw⟩;rw [hw];clear hw)
    |(go_at_call 39;with_reducible refine (H21.out _).mono ?_;rintro e w8 ⟨rfl,hw⟩;rw [hw];clear hw)
    |(go_at_call 39;with_reducible refine (H22.out _).mono ?_;rintro e w8 ⟨rfl,hw⟩;rw [hw];clear hw)
    |(go_at_call 110;(with_reducible refine (HL.out _ _ _ HS2.out).mono ?_);rintro e w5 ⟨rfl,hb⟩
      replace HK:=Lib.hid (HK.out.step hb)
      (try clear q3 q8 c0 c1 z0 z1)
      obtain ⟨q3,q8,⟨c0,c1,z0,z1⟩,hlt,hbk⟩:=HK.out;clear hlt hbk hb)
    |(go_at_call 109;(with_reducible refine (HW.out _ _ _ HS1.out).mono ?_);rintro e w4 ⟨rfl,hb⟩
      replace HK:=Lib.hid (HK.out.step hb)
      replace HS1:=Lib.hid (HS1.out.below hb)
      replace HS2:=Lib.hid (HS2.out.below hb)
      (try clear q3 q8 c0 c1 z0 z1)
      obtain ⟨q3,q8,⟨c0,c1,z0,z1⟩,hlt,hbk⟩:=HK.out;clear hlt hbk hb)
    |(go_at_call 108;(with_reducible refine (HF2.out _ HK.out.b).mono ?_);rintro e w3 ⟨b3,k3,rfl,hS,hb⟩
      replace HK:=Lib.hid (HK.out.step hb)
      replace HS1:=Lib.hid (HS1.out.below hb)
      have HS2:=Lib.hid hS;clear hS
      (try clear q3 q8 c0 c1 z0 z1)
      obtain ⟨q3,q8,⟨c0,c1,z0,z1⟩,hlt,hbk⟩:=HK.out;clear hlt hbk hb)
    |(go_at_call 108;(with_reducible refine (HF1.out _ HK.out.b).mono ?_);rintro e w2 ⟨b2,k2,rfl,hS,hb⟩
      replace HK:=Lib.hid (HK.out.step hb)
      have HS1:=Lib.hid hS;clear hS
      (try clear q3 q8 c0 c1 z0 z1)
      obtain ⟨q3,q8,⟨c0,c1,z0,z1⟩,hlt,hbk⟩:=HK.out;clear hlt hbk hb)
    |(go_at_call 107;(with_reducible refine (HH.out _ HK0.out.b).mono ?_);rintro e w1 ⟨rfl,hb⟩
      have HK:=Lib.hid (HK0.out.step hb)
      (try clear q3 q8 c0 c1 z0 z1)
      obtain ⟨q3,q8,⟨c0,c1,z0,z1⟩,hlt,hbk⟩:=HK.out;clear hlt hbk hb))
   obtain ⟨W,hW,⟨d0,d1,_,_⟩,hbW⟩:=Gb.put HK.out.f HK.out.b (Nat.le_succ _) 1 ln;rw [hW];exact bodyPost_ret (v:=.tuple #[fr 1 ln,.int .i64 0]) (by simp [results,Tryz.results91,go_sem,d0,d1]) rfl ⟨rfl,hbW⟩
  ·go_enter Tryz.func91,Tryz.ntmps91
   go_wp2_with (first
    |(go_at_call 39;with_reducible refine (H19.out _).mono ?_;rintro e w8 ⟨rfl,hw⟩;rw [hw];clear hw)
    |(go_at_call 39;with_reducible refine (H20.out _).mono ?_;rintro e w8 ⟨rfl,hw⟩;rw [hw];clear hw)
    |(go_at_call 39;with_reducible refine (H21.out _).mono ?_;rintro e w8 ⟨rfl,hw⟩;rw [hw];clear hw)
    |(go_at_call 39;with_reducible refine (H22.out _).mono ?_;rintro e w8 ⟨rfl,hw⟩;rw [hw];clear hw)
    |(go_at_call 110;(with_reducible refine (HL.out _ _ _ HS2.out).mono ?_);rintro e w5 ⟨rfl,hb⟩
      replace HK:=Lib.hid (HK.out.step hb)
      (try clear q3 q8 c0 c1 z0 z1)
      obtain ⟨q3,q8,⟨c0,c1,z0,z1⟩,hlt,hbk⟩:=HK.out;clear hlt hbk hb)
    |(go_at_call 109;(with_reducible refine (HW.out _ _ _ HS1.out).mono ?_);rintro e w4 ⟨rfl,hb⟩
      replace HK:=Lib.hid (HK.out.step hb)
      replace HS1:=Lib.hid (HS1.out.below hb)
      replace HS2:=Lib.hid (HS2.out.below hb)
      (try clear q3 q8 c0 c1 z0 z1)
      obtain ⟨q3,q8,⟨c0,c1,z0,z1⟩,hlt,hbk⟩:=HK.out;clear hlt hbk hb)
    |(go_at_call 108;(with_reducible refine (HF2.out _ HK.out.b).mono ?_);rintro e w3 ⟨b3,k3,rfl,hS,hb⟩
      replace HK:=Lib.hid (HK.out.step hb)
      replace HS1:=Lib.hid (HS1.out.below hb)
      have HS2:=Lib.hid hS;clear hS
      (try clear q3 q8 c0 c1 z0 z1)
      obtain ⟨q3,q8,⟨c0,c1,z0,z1⟩,hlt,hbk⟩:=HK.out;clear hlt hbk hb)
    |(go_at_call 108;(with_reducible refine (HF1.out _ HK.out.b).mono ?_);rintro e w2 ⟨b2,k2,rfl,hS,hb⟩
      replace HK:=Lib.hid (HK.out.step hb)
      have HS1:=Lib.hid hS;clear hS
      (try clear q3 q8 c0 c1 z0 z1)
      obtain ⟨q3,q8,⟨c0,c1,z0,z1⟩,hlt,hbk⟩:=HK.out;clear hlt hbk hb)
    |(go_at_call 107;(with_reducible refine (HH.out _ HK0.out.b).mono ?_);rintro e w1 ⟨rfl,hb⟩
      have HK:=Lib.hid (HK0.out.step hb)
      (try clear q3 q8 c0 c1 z0 z1)
      obtain ⟨q3,q8,⟨c0,c1,z0,z1⟩,hlt,hbk⟩:=HK.out;clear hlt hbk hb))
   obtain ⟨W,hW,⟨d0,d1,_,_⟩,hbW⟩:=Gb.put HK.out.f HK.out.b (Nat.le_succ _) 0 0;rw [hW];exact bodyPost_ret (v:=.tuple #[fr 0 0,.int .i64 le]) (by simp [results,Tryz.results91,go_sem,d0,d1]) rfl ⟨rfl,hbW⟩
 rw [if_neg hT] at hR;have tT:(0:Int)<(nT:Int):=by omega
 clear hT;by_cases hO:minor=0∧td=false
 ·obtain ⟨rfl,rfl⟩:=hO;rw [if_pos (show (decide ((0:Int)=0) && !false)=true from rfl),if_pos (by decide)] at hR;subst hR;go_enter Tryz.func91,Tryz.ntmps91
  go_wp2_with (first
   |(go_at_call 39;with_reducible refine (H19.out _).mono ?_;rintro e w8 ⟨rfl,hw⟩;rw [hw];clear hw)
   |(go_at_call 39;with_reducible refine (H20.out _).mono ?_;rintro e w8 ⟨rfl,hw⟩;rw [hw];clear hw)
   |(go_at_call 39;with_reducible refine (H21.out _).mono ?_;rintro e w8 ⟨rfl,hw⟩;rw [hw];clear hw)
   |(go_at_call 39;with_reducible refine (H22.out _).mono ?_;rintro e w8 ⟨rfl,hw⟩;rw [hw];clear hw)
   |(go_at_call 110;(with_reducible refine (HL.out _ _ _ HS2.out).mono ?_);rintro e w5 ⟨rfl,hb⟩
     replace HK:=Lib.hid (HK.out.step hb)
     (try clear q3 q8 c0 c1 z0 z1)
     obtain ⟨q3,q8,⟨c0,c1,z0,z1⟩,hlt,hbk⟩:=HK.out;clear hlt hbk hb)
   |(go_at_call 109;(with_reducible refine (HW.out _ _ _ HS1.out).mono ?_);rintro e w4 ⟨rfl,hb⟩
     replace HK:=Lib.hid (HK.out.step hb)
     replace HS1:=Lib.hid (HS1.out.below hb)
     replace HS2:=Lib.hid (HS2.out.below hb)
     (try clear q3 q8 c0 c1 z0 z1)
     obtain ⟨q3,q8,⟨c0,c1,z0,z1⟩,hlt,hbk⟩:=HK.out;clear hlt hbk hb)
   |(go_at_call 108;(with_reducible refine (HF2.out _ HK.out.b).mono ?_);rintro e w3 ⟨b3,k3,rfl,hS,hb⟩
     replace HK:=Lib.hid (HK.out.step hb)
     replace HS1:=Lib.hid (HS1.out.below hb)
     have HS2:=Lib.hid hS;clear hS
     (try clear q3 q8 c0 c1 z0 z1)
     obtain ⟨q3,q8,⟨c0,c1,z0,z1⟩,hlt,hbk⟩:=HK.out;clear hlt hbk hb)
   |(go_at_call 108;(with_reducible refine (HF1.out _ HK.out.b).mono ?_);rintro e w2 ⟨b2,k2,rfl,hS,hb⟩
     replace HK:=Lib.hid (HK.out.step hb)
     have HS1:=Lib.hid hS;clear hS
     (try clear q3 q8 c0 c1 z0 z1)
     obtain ⟨q3,q8,⟨c0,c1,z0,z1⟩,hlt,hbk⟩:=HK.out;clear hlt hbk hb)
   |(go_at_call 107;(with_reducible refine (HH.out _ HK0.out.b).mono ?_);rintro e w1 ⟨rfl,hb⟩
     have HK:=Lib.hid (HK0.out.step hb)
     (try clear q3 q8 c0 c1 z0 z1)
     obtain ⟨q3,q8,⟨c0,c1,z0,z1⟩,hlt,hbk⟩:=HK.out;clear hlt hbk hb))
  obtain ⟨W,hW,⟨d0,d1,_,_⟩,hbW⟩:=Gb.put HK.out.f HK.out.b (Nat.le_succ _) 0 0;rw [hW];exact bodyPost_ret (v:=.tuple #[fr 0 0,.int .i64 400]) (by simp [results,Tryz.results91,go_sem,d0,d1]) rfl ⟨rfl,hbW⟩
 have hO2:(minor=0∧td=true)∨(minor==0)=false:=by
  by_cases h:minor=0
  ·cases td
   ·exact absurd ⟨h,rfl⟩ hO
   ·exact .inl ⟨h,rfl⟩
  ·exact .inr (beq_eq_false_iff_ne.2 h)
 rw [if_neg (show¬(decide (minor=0) && !td)=true by
  rintro h;rw [Bool.and_eq_true,decide_eq_true_eq,Bool.not_eq_true'] at h
  exact hO h)] at hR
 clear hO;cases cod with
 | false=>
   rw [if_pos (show false=false from rfl)] at hR;cases ti with
   | false=>
     rw [if_neg (show¬false=true by decide)] at hR;rw [if_pos (by decide)] at hR;subst hR;rcases hO2 with ⟨rfl,rfl⟩ | t1;all_goals
      go_enter Tryz.func91,Tryz.ntmps91
      go_wp2_with (first
       |(go_at_call 39;with_reducible refine (H19.out _).mono ?_;rintro e w8 ⟨rfl,hw⟩;rw [hw];clear hw)
       |(go_at_call 39;with_reducible refine (H20.out _).mono ?_;rintro e w8 ⟨rfl,hw⟩;rw [hw];clear hw)
       |(go_at_call 39;with_reducible refine (H21.out _).mono ?_;rintro e w8 ⟨rfl,hw⟩;rw [hw];clear hw)
       |(go_at_call 39;with_reducible refine (H22.out _).mono ?_;rintro e w8 ⟨rfl,hw⟩;rw [hw];clear hw)
       |(go_at_call 110;(with_reducible refine (HL.out _ _ _ HS2.out).mono ?_);rintro e w5 ⟨rfl,hb⟩
         replace HK:=Lib.hid (HK.out.step hb)
         (try clear q3 q8 c0 c1 z0 z1)
         obtain ⟨q3,q8,⟨c0,c1,z0,z1⟩,hlt,hbk⟩:=HK.out;clear hlt hbk hb)
       |(go_at_call 109;(with_reducible refine (HW.out _ _ _ HS1.out).mono ?_);rintro e w4 ⟨rfl,hb⟩
         replace HK:=Lib.hid (HK.out.step hb)
         replace HS1:=Lib.hid (HS1.out.below hb)
         replace HS2:=Lib.hid (HS2.out.below hb)
         (try clear q3 q8 c0 c1 z0 z1)
         obtain ⟨q3,q8,⟨c0,c1,z0,z1⟩,hlt,hbk⟩:=HK.out;clear hlt hbk hb)
       |(go_at_call 108;(with_reducible refine (HF2.out _ HK.out.b).mono ?_);rintro e w3 ⟨b3,k3,rfl,hS,hb⟩
         replace HK:=Lib.hid (HK.out.step hb)
         replace HS1:=Lib.hid (HS1.out.below hb)
         have HS2:=Lib.hid hS;clear hS
         (try clear q3 q8 c0 c1 z0 z1)
         obtain ⟨q3,q8,⟨c0,c1,z0,z1⟩,hlt,hbk⟩:=HK.out;clear hlt hbk hb)
       |(go_at_call 108;(with_reducible refine (HF1.out _ HK.out.b).mono ?_);rintro e w2 ⟨b2,k2,rfl,hS,hb⟩
         replace HK:=Lib.hid (HK.out.step hb)
         have HS1:=Lib.hid hS;clear hS
         (try clear q3 q8 c0 c1 z0 z1)
         obtain ⟨q3,q8,⟨c0,c1,z0,z1⟩,hlt,hbk⟩:=HK.out;clear hlt hbk hb)
       |(go_at_call 107;(with_reducible refine (HH.out _ HK0.out.b).mono ?_);rintro e w1 ⟨rfl,hb⟩
         have HK:=Lib.hid (HK0.out.step hb)
         (try clear q3 q8 c0 c1 z0 z1)
         obtain ⟨q3,q8,⟨c0,c1,z0,z1⟩,hlt,hbk⟩:=HK.out;clear hlt hbk hb))
      obtain ⟨W,hW,⟨d0,d1,_,_⟩,hbW⟩:=Gb.put HK.out.f HK.out.b (Nat.le_succ _) 0 0;rw [hW];exact bodyPost_ret (v:=.tuple #[fr 0 0,.int .i64 501]) (by simp [results,Tryz.results91,go_sem,d0,d1]) rfl ⟨rfl,hbW⟩
   | true=>
     rw [if_pos (show true=true from rfl),if_neg (by decide),if_neg (by decide)] at hR;rcases hO2 with ⟨rfl,rfl⟩ | t1;all_goals
      have hcase:(le=0∧R=(1,ln,0))∨((le==0)=false∧R=(0,0,le)):=by
       by_cases h:le=0
       ·rw [if_pos h] at hR;exact .inl ⟨h,hR.symm⟩
       ·rw [if_neg h] at hR;exact .inr ⟨beq_eq_false_iff_ne.2 h,hR.symm⟩
      clear hR;rcases hcase with ⟨rfl,rfl⟩ | ⟨tz,rfl⟩
      ·go_enter Tryz.func91,Tryz.ntmps91
       go_wp2_with (first
        |(go_at_call 39;with_reducible refine (H19.out _).mono ?_;rintro e w8 ⟨rfl,hw⟩;rw [hw];clear hw)
        |(go_at_call 39;with_reducible refine (H20.out _).mono ?_;rintro e w8 ⟨rfl,hw⟩;rw [hw];clear hw)
        |(go_at_call 39;with_reducible refine (H21.out _).mono ?_;rintro e w8 ⟨rfl,hw⟩;rw [hw];clear hw)
        |(go_at_call 39;with_reducible refine (H22.out _).mono ?_;rintro e w8 ⟨rfl,hw⟩;rw [hw];clear hw)
        |(go_at_call 110;(with_reducible refine (HL.out _ _ _ HS2.out).mono ?_);rintro e w5 ⟨rfl,hb⟩
          replace HK:=Lib.hid (HK.out.step hb)
          (try clear q3 q8 c0 c1 z0 z1)
          obtain ⟨q3,q8,⟨c0,c1,z0,z1⟩,hlt,hbk⟩:=HK.out;clear hlt hbk hb)
        |(go_at_call 109;(with_reducible refine (HW.out _ _ _ HS1.out).mono ?_);rintro e w4 ⟨rfl,hb⟩
          replace HK:=Lib.hid (HK.out.step hb)
          replace HS1:=Lib.hid (HS1.out.below hb)
          replace HS2:=Lib.hid (HS2.out.below hb)
          (try clear q3 q8 c0 c1 z0 z1)
          obtain ⟨q3,q8,⟨c0,c1,z0,z1⟩,hlt,hbk⟩:=HK.out;clear hlt hbk hb)
        |(go_at_call 108;(with_reducible refine (HF2.out _ HK.out.b).mono ?_);rintro e w3 ⟨b3,k3,rfl,hS,hb⟩
          replace HK:=Lib.hid (HK.out.step hb)
          replace HS1:=Lib.hid (HS1.out.below hb)
          have HS2:=Lib.hid hS;clear hS
          (try clear q3 q8 c0 c1 z0 z1)
          obtain ⟨q3,q8,⟨c0,c1,z0,z1⟩,hlt,hbk⟩:=HK.out;clear hlt hbk hb)
        |(go_at_call 108;(with_reducible refine (HF1.out _ HK.out.b).mono ?_);rintro e w2 ⟨b2,k2,rfl,hS,hb⟩
          replace HK:=Lib.hid (HK.out.step hb)
          have HS1:=Lib.hid hS;clear hS
          (try clear q3 q8 c0 c1 z0 z1)
          obtain ⟨q3,q8,⟨c0,c1,z0,z1⟩,hlt,hbk⟩:=HK.out;clear hlt hbk hb)
        |(go_at_call 107;(with_reducible refine (HH.out _ HK0.out.b).mono ?_);rintro e w1 ⟨rfl,hb⟩
          have HK:=Lib.hid (HK0.out.step hb)
          (try clear q3 q8 c0 c1 z0 z1)
          obtain ⟨q3,q8,⟨c0,c1,z0,z1⟩,hlt,hbk⟩:=HK.out;clear hlt hbk hb))
       obtain ⟨W,hW,⟨d0,d1,_,_⟩,hbW⟩:=Gb.put HK.out.f HK.out.b (Nat.le_succ _) 1 ln;rw [hW];exact bodyPost_ret (v:=.tuple #[fr 1 ln,.int .i64 0]) (by simp [results,Tryz.results91,go_sem,d0,d1]) rfl ⟨rfl,hbW⟩
      ·go_enter Tryz.func91,Tryz.ntmps91
       go_wp2_with (first
        |(go_at_call 39;with_reducible refine (H19.out _).mono ?_;rintro e w8 ⟨rfl,hw⟩;rw [hw];clear hw)
        |(go_at_call 39;with_reducible refine (H20.out _).mono ?_;rintro e w8 ⟨rfl,hw⟩;rw [hw];clear hw)
        |(go_at_call 39;with_reducible refine (H21.out _).mono ?_;rintro e w8 ⟨rfl,hw⟩;rw [hw];clear hw)
        |(go_at_call 39;with_reducible refine (H22.out _).mono ?_;rintro e w8 ⟨rfl,hw⟩;rw [hw];clear hw)
        |(go_at_call 110;(with_reducible refine (HL.out _ _ _ HS2.out).mono ?_);rintro e w5 ⟨rfl,hb⟩
          replace HK:=Lib.hid (HK.out.step hb)
          (try clear q3 q8 c0 c1 z0 z1)
          obtain ⟨q3,q8,⟨c0,c1,z0,z1⟩,hlt,hbk⟩:=HK.out;clear hlt hbk hb)
        |(go_at_call 109;(with_reducible refine (HW.out _ _ _ HS1.out).mono ?_);rintro e w4 ⟨rfl,hb⟩
          replace HK:=Lib.hid (HK.out.step hb)
          replace HS1:=Lib.hid (HS1.out.below hb)
          replace HS2:=Lib.hid (HS2.out.below hb)
          (try clear q3 q8 c0 c1 z0 z1)
          obtain ⟨q3,q8,⟨c0,c1,z0,z1⟩,hlt,hbk⟩:=HK.out;clear hlt hbk hb)
        |(go_at_call 108;(with_reducible refine (HF2.out _ HK.out.b).mono ?_);rintro e w3 ⟨b3,k3,rfl,hS,hb⟩
          replace HK:=Lib.hid (HK.out.step hb)
          replace HS1:=Lib.hid (HS1.out.below hb)
          have HS2:=Lib.hid hS;clear hS
          (try clear q3 q8 c0 c1 z0 z1)
          obtain ⟨q3,q8,⟨c0,c1,z0,z1⟩,hlt,hbk⟩:=HK.out;clear hlt hbk hb)
        |(go_at_call 108;(with_reducible refine (HF1.out _ HK.out.b).mono ?_);rintro e w2 ⟨b2,k2,rfl,hS,hb⟩
          replace HK:=Lib.hid (HK.out.step hb)
          have HS1:=Lib.hid hS;clear hS
          (try clear q3 q8 c0 c1 z0 z1)
          obtain ⟨q3,q8,⟨c0,c1,z0,z1⟩,hlt,hbk⟩:=HK.out;clear hlt hbk hb)
        |(go_at_call 107;(with_reducible refine (HH.out _ HK0.out.b).mono ?_);rintro e w1 ⟨rfl,hb⟩
          have HK:=Lib.hid (HK0.out.step hb)
          (try clear q3 q8 c0 c1 z0 z1)
          obtain ⟨q3,q8,⟨c0,c1,z0,z1⟩,hlt,hbk⟩:=HK.out;clear hlt hbk hb))
       obtain ⟨W,hW,⟨d0,d1,_,_⟩,hbW⟩:=Gb.put HK.out.f HK.out.b (Nat.le_succ _) 0 0;rw [hW];exact bodyPost_ret (v:=.tuple #[fr 0 0,.int .i64 le]) (by simp [results,Tryz.results91,go_sem,d0,d1]) rfl ⟨rfl,hbW⟩
 | true=>
   rw [if_neg (show¬true=false by decide)] at hR;by_cases hB:0<nC∧tw=false
   ·obtain ⟨h0,rfl⟩:=hB;rw [if_pos (show (decide (0<nC) && !false)=true by rw [decide_eq_true h0];rfl)] at hR
    have t2:((nC:Int)==0)=false:=beq_eq_false_iff_ne.2 (by omega);clear h0;cases lw with
    | false=>
      rw [if_neg (show¬false=true by decide)] at hR;rw [if_pos (by decide)] at hR;subst hR;rcases hO2 with ⟨rfl,rfl⟩ | t1;all_goals
       go_enter Tryz.func91,Tryz.ntmps91
       go_wp2_with (first
        |(go_at_call 39;with_reducible refine (H19.out _).mono ?_;rintro e w8 ⟨rfl,hw⟩;rw [hw];clear hw)
        |(go_at_call 39;with_reducible refine (H20.out _).mono ?_;rintro e w8 ⟨rfl,hw⟩;rw [hw];clear hw)
        |(go_at_call 39;with_reducible refine (H21.out _).mono ?_;rintro e w8 ⟨rfl,hw⟩;rw [hw];clear hw)
        |(go_at_call 39;with_reducible refine (H22.out _).mono ?_;rintro e w8 ⟨rfl,hw⟩;rw [hw];clear hw)
        |(go_at_call 110;(with_reducible refine (HL.out _ _ _ HS2.out).mono ?_);rintro e w5 ⟨rfl,hb⟩
          replace HK:=Lib.hid (HK.out.step hb)
          (try clear q3 q8 c0 c1 z0 z1)
          obtain ⟨q3,q8,⟨c0,c1,z0,z1⟩,hlt,hbk⟩:=HK.out;clear hlt hbk hb)
        |(go_at_call 109;(with_reducible refine (HW.out _ _ _ HS1.out).mono ?_);rintro e w4 ⟨rfl,hb⟩
          replace HK:=Lib.hid (HK.out.step hb)
          replace HS1:=Lib.hid (HS1.out.below hb)
          replace HS2:=Lib.hid (HS2.out.below hb)
          (try clear q3 q8 c0 c1 z0 z1)
          obtain ⟨q3,q8,⟨c0,c1,z0,z1⟩,hlt,hbk⟩:=HK.out;clear hlt hbk hb)
        |(go_at_call 108;(with_reducible refine (HF2.out _ HK.out.b).mono ?_);rintro e w3 ⟨b3,k3,rfl,hS,hb⟩
          replace HK:=Lib.hid (HK.out.step hb)
          replace HS1:=Lib.hid (HS1.out.below hb)
          have HS2:=Lib.hid hS;clear hS
          (try clear q3 q8 c0 c1 z0 z1)
          obtain ⟨q3,q8,⟨c0,c1,z0,z1⟩,hlt,hbk⟩:=HK.out;clear hlt hbk hb)
        |(go_at_call 108;(with_reducible refine (HF1.out _ HK.out.b).mono ?_);rintro e w2 ⟨b2,k2,rfl,hS,hb⟩
          replace HK:=Lib.hid (HK.out.step hb)
          have HS1:=Lib.hid hS;clear hS
          (try clear q3 q8 c0 c1 z0 z1)
          obtain ⟨q3,q8,⟨c0,c1,z0,z1⟩,hlt,hbk⟩:=HK.out;clear hlt hbk hb)
        |(go_at_call 107;(with_reducible refine (HH.out _ HK0.out.b).mono ?_);rintro e w1 ⟨rfl,hb⟩
          have HK:=Lib.hid (HK0.out.step hb)
          (try clear q3 q8 c0 c1 z0 z1)
          obtain ⟨q3,q8,⟨c0,c1,z0,z1⟩,hlt,hbk⟩:=HK.out;clear hlt hbk hb))
       obtain ⟨W,hW,⟨d0,d1,_,_⟩,hbW⟩:=Gb.put HK.out.f HK.out.b (Nat.le_succ _) 0 0;rw [hW];exact bodyPost_ret (v:=.tuple #[fr 0 0,.int .i64 400]) (by simp [results,Tryz.results91,go_sem,d0,d1]) rfl ⟨rfl,hbW⟩
    | true=>
      rw [if_pos (show true=true from rfl),if_neg (by decide),if_neg (by decide)] at hR;rcases hO2 with ⟨rfl,rfl⟩ | t1;all_goals
       have hcase:(le=0∧R=(1,ln,0))∨((le==0)=false∧R=(0,0,le)):=by
        by_cases h:le=0
        ·rw [if_pos h] at hR;exact .inl ⟨h,hR.symm⟩
        ·rw [if_neg h] at hR;exact .inr ⟨beq_eq_false_iff_ne.2 h,hR.symm⟩
       clear hR;rcases hcase with ⟨rfl,rfl⟩ | ⟨tz,rfl⟩
       ·go_enter Tryz.func91,Tryz.ntmps91
        go_wp2_with (first
         |(go_at_call 39;with_reducible refine (H19.out _).mono ?_;rintro e w8 ⟨rfl,hw⟩;rw [hw];clear hw)
         |(go_at_call 39;with_reducible refine (H20.out _).mono ?_;rintro e w8 ⟨rfl,hw⟩;rw [hw];clear hw)
         |(go_at_call 39;with_reducible refine (H21.out _).mono ?_;rintro e w8 ⟨rfl,hw⟩;rw [hw];clear hw)
         |(go_at_call 39;with_reducible refine (H22.out _).mono ?_;rintro e w8 ⟨rfl,hw⟩;rw [hw];clear hw)
         |(go_at_call 110;(with_reducible refine (HL.out _ _ _ HS2.out).mono ?_);rintro e w5 ⟨rfl,hb⟩
           replace HK:=Lib.hid (HK.out.step hb)
           (try clear q3 q8 c0 c1 z0 z1)
           obtain ⟨q3,q8,⟨c0,c1,z0,z1⟩,hlt,hbk⟩:=HK.out;clear hlt hbk hb)
         |(go_at_call 109;(with_reducible refine (HW.out _ _ _ HS1.out).mono ?_);rintro e w4 ⟨rfl,hb⟩
           replace HK:=Lib.hid (HK.out.step hb)
           replace HS1:=Lib.hid (HS1.out.below hb)
           replace HS2:=Lib.hid (HS2.out.below hb)
           (try clear q3 q8 c0 c1 z0 z1)
           obtain ⟨q3,q8,⟨c0,c1,z0,z1⟩,hlt,hbk⟩:=HK.out;clear hlt hbk hb)
         |(go_at_call 108;(with_reducible refine (HF2.out _ HK.out.b).mono ?_);rintro e w3 ⟨b3,k3,rfl,hS,hb⟩
           replace HK:=Lib.hid (HK.out.step hb)
           replace HS1:=Lib.hid (HS1.out.below hb)
           have HS2:=Lib.hid hS;clear hS
           (try clear q3 q8 c0 c1 z0 z1)
           obtain ⟨q3,q8,⟨c0,c1,z0,z1⟩,hlt,hbk⟩:=HK.out;clear hlt hbk hb)
         |(go_at_call 108;(with_reducible refine (HF1.out _ HK.out.b).mono ?_);rintro e w2 ⟨b2,k2,rfl,hS,hb⟩
           replace HK:=Lib.hid (HK.out.step hb)
           have HS1:=Lib.hid hS;clear hS
           (try clear q3 q8 c0 c1 z0 z1)
           obtain ⟨q3,q8,⟨c0,c1,z0,z1⟩,hlt,hbk⟩:=HK.out;clear hlt hbk hb)
         |(go_at_call 107;(with_reducible refine (HH.out _ HK0.out.b).mono ?_);rintro e w1 ⟨rfl,hb⟩
           have HK:=Lib.hid (HK0.out.step hb)
           (try clear q3 q8 c0 c1 z0 z1)
           obtain ⟨q3,q8,⟨c0,c1,z0,z1⟩,hlt,hbk⟩:=HK.out;clear hlt hbk hb))
        obtain ⟨W,hW,⟨d0,d1,_,_⟩,hbW⟩:=Gb.put HK.out.f HK.out.b (Nat.le_succ _) 1 ln;rw [hW];exact bodyPost_ret (v:=.tuple #[fr 1 ln,.int .i64 0]) (by simp [results,Tryz.results91,go_sem,d0,d1]) rfl ⟨rfl,hbW⟩
       ·go_enter Tryz.func91,Tryz.ntmps91
        go_wp2_with (first
         |(go_at_call 39;with_reducible refine (H19.out _).mono ?_;rintro e w8 ⟨rfl,hw⟩;rw [hw];clear hw)
         |(go_at_call 39;with_reducible refine (H20.out _).mono ?_;rintro e w8 ⟨rfl,hw⟩;rw [hw];clear hw)
         |(go_at_call 39;with_reducible refine (H21.out _).mono ?_;rintro e w8 ⟨rfl,hw⟩;rw [hw];clear hw)
         |(go_at_call 39;with_reducible refine (H22.out _).mono ?_;rintro e w8 ⟨rfl,hw⟩;rw [hw];clear hw)
         |(go_at_call 110;(with_reducible refine (HL.out _ _ _ HS2.out).mono ?_);rintro e w5 ⟨rfl,hb⟩
           replace HK:=Lib.hid (HK.out.step hb)
           (try clear q3 q8 c0 c1 z0 z1)
           obtain ⟨q3,q8,⟨c0,c1,z0,z1⟩,hlt,hbk⟩:=HK.out;clear hlt hbk hb)
         |(go_at_call 109;(with_reducible refine (HW.out _ _ _ HS1.out).mono ?_);rintro e w4 ⟨rfl,hb⟩
           replace HK:=Lib.hid (HK.out.step hb)
           replace HS1:=Lib.hid (HS1.out.below hb)
           replace HS2:=Lib.hid (HS2.out.below hb)
           (try clear q3 q8 c0 c1 z0 z1)
           obtain ⟨q3,q8,⟨c0,c1,z0,z1⟩,hlt,hbk⟩:=HK.out;clear hlt hbk hb)
         |(go_at_call 108;(with_reducible refine (HF2.out _ HK.out.b).mono ?_);rintro e w3 ⟨b3,k3,rfl,hS,hb⟩
           replace HK:=Lib.hid (HK.out.step hb)
           replace HS1:=Lib.hid (HS1.out.below hb)
           have HS2:=Lib.hid hS;clear hS
           (try clear q3 q8 c0 c1 z0 z1)
           obtain ⟨q3,q8,⟨c0,c1,z0,z1⟩,hlt,hbk⟩:=HK.out;clear hlt hbk hb)
         |(go_at_call 108;(with_reducible refine (HF1.out _ HK.out.b).mono ?_);rintro e w2 ⟨b2,k2,rfl,hS,hb⟩
           replace HK:=Lib.hid (HK.out.step hb)
           have HS1:=Lib.hid hS;clear hS
           (try clear q3 q8 c0 c1 z0 z1)
           obtain ⟨q3,q8,⟨c0,c1,z0,z1⟩,hlt,hbk⟩:=HK.out;clear hlt hbk hb)
         |(go_at_call 107;(with_reducible refine (HH.out _ HK0.out.b).mono ?_);rintro e w1 ⟨rfl,hb⟩
           have HK:=Lib.hid (HK0.out.step hb)
           (try clear q3 q8 c0 c1 z0 z1)
           obtain ⟨q3,q8,⟨c0,c1,z0,z1⟩,hlt,hbk⟩:=HK.out;clear hlt hbk hb))
        obtain ⟨W,hW,⟨d0,d1,_,_⟩,hbW⟩:=Gb.put HK.out.f HK.out.b (Nat.le_succ _) 0 0;rw [hW];exact bodyPost_ret (v:=.tuple #[fr 0 0,.int .i64 le]) (by simp [results,Tryz.results91,go_sem,d0,d1]) rfl ⟨rfl,hbW⟩
   ·rw [if_neg (show¬(decide (0<nC) && !tw)=true by
     rintro h;rw [Bool.and_eq_true,decide_eq_true_eq,Bool.not_eq_true'] at h
     exact hB h),if_neg (by decide),if_pos (show true=true from rfl)] at hR
    have hB2:(nC=0)∨(0<nC∧tw=true):=by
     rcases Nat.eq_zero_or_pos nC with h | h
     ·exact .inl h
     ·right;cases tw
      ·exact absurd ⟨h,rfl⟩ hB
      ·exact ⟨h,rfl⟩
    clear hB;cases ch with
    | false=>
      rw [if_neg (by decide)] at hR;subst hR;rcases hO2 with ⟨rfl,rfl⟩ | t1<;>rcases hB2 with rfl | ⟨h0,rfl⟩;all_goals
       try (have t2:((nC:Int)==0)=false:=beq_eq_false_iff_ne.2 (by omega))
       go_enter Tryz.func91,Tryz.ntmps91
       go_wp2_with (first
        |(go_at_call 39;with_reducible refine (H19.out _).mono ?_;rintro e w8 ⟨rfl,hw⟩;rw [hw];clear hw)
        |(go_at_call 39;with_reducible refine (H20.out _).mono ?_;rintro e w8 ⟨rfl,hw⟩;rw [hw];clear hw)
        |(go_at_call 39;with_reducible refine (H21.out _).mono ?_;rintro e w8 ⟨rfl,hw⟩;rw [hw];clear hw)
        |(go_at_call 39;with_reducible refine (H22.out _).mono ?_;rintro e w8 ⟨rfl,hw⟩;rw [hw];clear hw)
        |(go_at_call 110;(with_reducible refine (HL.out _ _ _ HS2.out).mono ?_);rintro e w5 ⟨rfl,hb⟩
          replace HK:=Lib.hid (HK.out.step hb)
          (try clear q3 q8 c0 c1 z0 z1)
          obtain ⟨q3,q8,⟨c0,c1,z0,z1⟩,hlt,hbk⟩:=HK.out;clear hlt hbk hb)
        |(go_at_call 109;(with_reducible refine (HW.out _ _ _ HS1.out).mono ?_);rintro e w4 ⟨rfl,hb⟩
          replace HK:=Lib.hid (HK.out.step hb)
          replace HS1:=Lib.hid (HS1.out.below hb)
          replace HS2:=Lib.hid (HS2.out.below hb)
          (try clear q3 q8 c0 c1 z0 z1)
          obtain ⟨q3,q8,⟨c0,c1,z0,z1⟩,hlt,hbk⟩:=HK.out;clear hlt hbk hb)
        |(go_at_call 108;(with_reducible refine (HF2.out _ HK.out.b).mono ?_);rintro e w3 ⟨b3,k3,rfl,hS,hb⟩
          replace HK:=Lib.hid (HK.out.step hb)
          replace HS1:=Lib.hid (HS1.out.below hb)
          have HS2:=Lib.hid hS;clear hS
          (try clear q3 q8 c0 c1 z0 z1)
          obtain ⟨q3,q8,⟨c0,c1,z0,z1⟩,hlt,hbk⟩:=HK.out;clear hlt hbk hb)
        |(go_at_call 108;(with_reducible refine (HF1.out _ HK.out.b).mono ?_);rintro e w2 ⟨b2,k2,rfl,hS,hb⟩
          replace HK:=Lib.hid (HK.out.step hb)
          have HS1:=Lib.hid hS;clear hS
          (try clear q3 q8 c0 c1 z0 z1)
          obtain ⟨q3,q8,⟨c0,c1,z0,z1⟩,hlt,hbk⟩:=HK.out;clear hlt hbk hb)
        |(go_at_call 107;(with_reducible refine (HH.out _ HK0.out.b).mono ?_);rintro e w1 ⟨rfl,hb⟩
          have HK:=Lib.hid (HK0.out.step hb)
          (try clear q3 q8 c0 c1 z0 z1)
          obtain ⟨q3,q8,⟨c0,c1,z0,z1⟩,hlt,hbk⟩:=HK.out;clear hlt hbk hb))
       obtain ⟨W,hW,⟨d0,d1,_,_⟩,hbW⟩:=Gb.put HK.out.f HK.out.b (Nat.le_succ _) 0 0;rw [hW];exact bodyPost_ret (v:=.tuple #[fr 0 0,.int .i64 501]) (by simp [results,Tryz.results91,go_sem,d0,d1]) rfl ⟨rfl,hbW⟩
    | true=>
      rw [if_pos rfl] at hR;subst hR;rcases hO2 with ⟨rfl,rfl⟩ | t1<;>rcases hB2 with rfl | ⟨h0,rfl⟩;all_goals
       try (have t2:((nC:Int)==0)=false:=beq_eq_false_iff_ne.2 (by omega))
       go_enter Tryz.func91,Tryz.ntmps91
       go_wp2_with (first
        |(go_at_call 39;with_reducible refine (H19.out _).mono ?_;rintro e w8 ⟨rfl,hw⟩;rw [hw];clear hw)
        |(go_at_call 39;with_reducible refine (H20.out _).mono ?_;rintro e w8 ⟨rfl,hw⟩;rw [hw];clear hw)
        |(go_at_call 39;with_reducible refine (H21.out _).mono ?_;rintro e w8 ⟨rfl,hw⟩;rw [hw];clear hw)
        |(go_at_call 39;with_reducible refine (H22.out _).mono ?_;rintro e w8 ⟨rfl,hw⟩;rw [hw];clear hw)
        |(go_at_call 110;(with_reducible refine (HL.out _ _ _ HS2.out).mono ?_);rintro e w5 ⟨rfl,hb⟩
          replace HK:=Lib.hid (HK.out.step hb)
          (try clear q3 q8 c0 c1 z0 z1)
          obtain ⟨q3,q8,⟨c0,c1,z0,z1⟩,hlt,hbk⟩:=HK.out;clear hlt hbk hb)
        |(go_at_call 109;(with_reducible refine (HW.out _ _ _ HS1.out).mono ?_);rintro e w4 ⟨rfl,hb⟩
          replace HK:=Lib.hid (HK.out.step hb)
          replace HS1:=Lib.hid (HS1.out.below hb)
          replace HS2:=Lib.hid (HS2.out.below hb)
          (try clear q3 q8 c0 c1 z0 z1)
          obtain ⟨q3,q8,⟨c0,c1,z0,z1⟩,hlt,hbk⟩:=HK.out;clear hlt hbk hb)
        |(go_at_call 108;(with_reducible refine (HF2.out _ HK.out.b).mono ?_);rintro e w3 ⟨b3,k3,rfl,hS,hb⟩
          replace HK:=Lib.hid (HK.out.step hb)
          replace HS1:=Lib.hid (HS1.out.below hb)
          have HS2:=Lib.hid hS;clear hS
          (try clear q3 q8 c0 c1 z0 z1)
          obtain ⟨q3,q8,⟨c0,c1,z0,z1⟩,hlt,hbk⟩:=HK.out;clear hlt hbk hb)
        |(go_at_call 108;(with_reducible refine (HF1.out _ HK.out.b).mono ?_);rintro e w2 ⟨b2,k2,rfl,hS,hb⟩
          replace HK:=Lib.hid (HK.out.step hb)
          have HS1:=Lib.hid hS;clear hS
          (try clear q3 q8 c0 c1 z0 z1)
          obtain ⟨q3,q8,⟨c0,c1,z0,z1⟩,hlt,hbk⟩:=HK.out;clear hlt hbk hb)
        |(go_at_call 107;(with_reducible refine (HH.out _ HK0.out.b).mono ?_);rintro e w1 ⟨rfl,hb⟩
          have HK:=Lib.hid (HK0.out.step hb)
          (try clear q3 q8 c0 c1 z0 z1)
          obtain ⟨q3,q8,⟨c0,c1,z0,z1⟩,hlt,hbk⟩:=HK.out;clear hlt hbk hb))
       obtain ⟨W,hW,⟨d0,d1,_,_⟩,hbW⟩:=Gb.put HK.out.f HK.out.b (Nat.le_succ _) 2 0;rw [hW];exact bodyPost_ret (v:=.tuple #[fr 2 0,.int .i64 0]) (by simp [results,Tryz.results91,go_sem,d0,d1]) rfl ⟨rfl,hbW⟩
end code
end Go.Proofs.YtimoakmcelocfaaGreat.Frm
