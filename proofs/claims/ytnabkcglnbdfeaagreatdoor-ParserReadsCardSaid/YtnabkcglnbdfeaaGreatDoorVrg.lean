import Derived.Test.YtnabkcglnbdfeaaGreatDoorVrf
set_option linter.unusedSimpArgs false
open Array renaming getD_eq_getD_getElem?→Af
open Bool renaming and_eq_true→An,false_and→As,not_eq_true'→Aw,true_and→Az
open ByteArray renaming empty→A6
open Go.Act renaming put→Ab
open Go.ByteArray renaming toList_eq→AW
open Go.Lib renaming extract_data→Bl,hid→Bo,toList_data→Bv
open Go.Proofs.Tryz renaming prog→EL
open Go.Proofs.YtnabkcglnbdfeaaGreatDoor.Base renaming below_drewN→Aj,below_step→Ak,some_undef→Al
open Go.Proofs.YtnabkcglnbdfeaaGreatDoor.Each renaming Goes→AD,fine→AJ,putg→AM,region_all→AO
open Go.Proofs.YtnabkcglnbdfeaaGreatDoor.Each.Goes renaming enter→AE
open Go.Proofs.YtnabkcglnbdfeaaGreatDoor.Each.Lasts renaming eq→AI
open Go.Proofs.YtnabkcglnbdfeaaGreatDoor.Ln renaming own_slice→CJ
open Go.Proofs.YtnabkcglnbdfeaaGreatDoor.Oct renaming allOf→Db
open Go.Proofs.YtnabkcglnbdfeaaGreatDoor.Par.Step renaming of_below→DD,set→DF
open Go.Proofs.YtnabkcglnbdfeaaGreatDoor.Qk renaming has→Ds,rhas_any→Du
open Go.Proofs.YtnabkcglnbdfeaaGreatDoor.Rec renaming Bk→Dv
open Go.Proofs.YtnabkcglnbdfeaaGreatDoor.Rec.Bk renaming new→Dw
open Go.Proofs.YtnabkcglnbdfeaaGreatDoor.Tree renaming change→DS,done→DT,grow→DU,put1→DV,quiet→DW
open Go.RowKit.Below renaming refl→Am
open List renaming eq_nil_of_length_eq_zero→BK,getElem?_cons_succ→BQ,getElem?_cons_zero→BR,getElem?_eq_getElem→BS,getElem?_map→BV,getElem?_toArray→BY,getElem_mem→Ca,length_drop→Cj,length_map→Cn,length_take→Cr,setIfInBounds_toArray→C7,set_cons_succ→C9,set_cons_zero→CA,take_of_length_le→CD,take_succ_eq_append_getElem→CE
open Nat renaming eq_zero_or_pos→CO,le_of_lt→CP,le_refl→CQ,le_succ→CS,le_trans→CT,lt_of_lt_of_le→CV,lt_or_ge→CW,zero_le→CY
open Option renaming getD_some→Di,some→Dk
open UInt8 renaming toNat_inj→FD
namespace Go.Proofs.YtnabkcglnbdfeaaGreatDoor.Frm
open Go.RowKit Base Txt
def Rowf (w:World) (g n:Nat) (f:Nat→ByteArray):Prop:=∀j,j<n→w.cell? ⟨g,j,none⟩=some (.string (f j))∧w.frozen? ⟨g,j,none⟩=false
theorem Rowf.set {w:World} {g n:Nat} {f:Nat→ByteArray} (h:Rowf w g n f) (k:Nat) (x:ByteArray):Rowf (w.setCell ⟨g,k,none⟩ (.string x)) g n (fun j=>if j=k then x else f j):=by
 intro j hj;obtain ⟨c,z⟩:=h j hj;refine ⟨?_,by rw [World.frozen?_setCell];exact z⟩;by_cases e:j=k
 ·subst e;rw [World.cell?_setCell_same _ _ _ c];simp
 ·rw [World.cell?_setCell_other _ _ _ _ (by simp<;>omega)];simp only [if_neg e];exact c
theorem Rowf.below {w w':World} {g n:Nat} {f:Nat→ByteArray} (h:Rowf w g n f) (hg:g<w.heap.size) (hb:Below w.heap.size w w'):Rowf w' g n f:=
 fun j hj=>⟨(hb.cell (p:=⟨g,j,none⟩) hg).trans (h j hj).1,(hb.frozen (p:=⟨g,j,none⟩) hg).trans (h j hj).2⟩
theorem Rowf.congr {w:World} {g n:Nat} {f f':Nat→ByteArray} (h:Rowf w g n f) (e:∀j,j<n→f j=f' j):Rowf w g n f':=
 fun j hj=>by rw [←e j hj];exact h j hj
theorem rowf_of_own {w:World} {base:Nat} {e:TypeId} {v:Value} {n:Nat} {ss:List ByteArray} (h:w.ownsRow base e 1 v n (ss.map Value.string)) :
 ∃A c,v=.slice A n c∧(0<n→∃g,A=some ⟨g,0,none⟩∧base≤g∧g<w.heap.size∧Rowf w g n (fun j=>ss[j]?.getD A6)):=by
 have hl:ss.length=n:=by simpa using h.1
 rcases h.2 with ⟨rfl,rfl⟩ | ⟨g,cap,cur,rfl,hbg,hh,hnc,_,hsz,ht⟩
 ·exact ⟨none,0,rfl,fun h=>absurd h (by omega)⟩
 ·refine ⟨_,_,rfl,fun _=>⟨g,rfl,hbg,?_,fun k hk=>⟨?_,?_⟩⟩⟩
  ·exact XXPZ2
  ·rw [cell_of_row w g k cur e (0,0) hh];exact XX100
  ·unfold World.frozen?;simp only [hh];simp
def norm (tb:Bool) (v:ByteArray):ByteArray:=lower (if tb=true then trimOf v blanksOf else v)
theorem norm_is (tb:Bool) (v:ByteArray):decide (norm tb v=chunked)=isC tb v:=lower_chunked _
def mixN (tb:Bool) (ls:List ByteArray) (k:Nat) (j:Nat):ByteArray:=if j<k then norm tb (ls[j]?.getD A6) else ls[j]?.getD A6
theorem count_snoc (bs:List Bool) (k:Nat) (h:k<bs.length):(bs.take (k+1)).countP id=(bs.take k).countP id+(if bs[k]=true then 1 else 0):=by
 rw [CE h,List.countP_append]
 congr 1
 cases bs[k]<;>rfl
section code
set_option maxHeartbeats 4000000
set_option maxRecDepth 10000
attribute [local go_sem] Al
theorem rcoding_any (p:Nat) (hp:p<4294967296) (a:Option Addr) (n cap:Nat) (vs:List ByteArray) (w:World) (hv:Strs w a n vs) (hr:room vs≤1000000000) :
 Calls EL 237 #[.int .u32 (p:Nat),.slice a n cap] w fun e w'=>e=.returned (.bool (coding (Ds p 17) (Ds p 18) vs))∧Below w.heap.size w w':=by
 have HL:=Bo (rlist_own a n cap vs w hv hr)
 have H17:=Bo (fun w=>Du p hp 17 w)
 have H18:=Bo (fun w=>Du p hp 18 w)
 have HM:=Bo (fun x hx=>CT (list_mem_size vs x hx) hr);have hlr:=CT (list_le vs) hr;have HX:coding (Ds p 17) (Ds p 18) vs=((decide (((list vs).map (isC (Ds p 17))).countP id=1)&&((list vs).map (isC (Ds p 17))).getLastD false)&&(decide ((list vs).length=1)||Ds p 18)):=by rw [only_count];rfl
 rw [HX];clear HX hv hr hp;generalize list vs=ls at *;generalize Ds p 17=tb at *;generalize Ds p 18=tl at *;obtain ⟨m,hm⟩:∃m,ls.length=m:=⟨_,rfl⟩;rw [hm] at HL hlr ⊢
 have HSZ:=Bo (fun k (hk:k<m)=>show (ls[k]?.getD A6).size≤1000000000 by
  rw [BS (by omega)]
  exact HM.out _ (Ca _))
 obtain ⟨bs,hbs⟩:∃bs,ls.map (isC tb)=bs:=⟨_,rfl⟩;rw [hbs]
 have HBL:=Bo (show bs.length=m by rw [←hbs,Cn,hm])
 have HBA:=Bo (fun k (hk:k<m)=>show bs[k]'(by rw [HBL.out];exact hk)=isC tb (ls[k]?.getD A6) by simp only [←hbs,List.getElem_map];rw [BS (by omega)];rfl)
 clear HM hbs hm;obtain ⟨R,hR0⟩:∃R,((decide (bs.countP id=1)&&bs.getLastD false)&&(decide (m=1)||tl))=R:=⟨_,rfl⟩;rw [hR0];have HRR:=Bo hR0;clear hR0;rcases CO m with h0 | h0
 ·subst h0;have e0:bs= []:=BK HBL.out;subst e0
  have HRF:=Bo (show R=false from HRR.out.symm);clear HBA HBL HSZ hlr HRR;go_enter Tryz.func237,Tryz.ntmps237
  go_wp2_with (go_at_call 122;with_reducible refine (HL.out).mono ?_;rintro e w1 ⟨v,rfl,ho,hb⟩
               obtain ⟨A1,c1,rfl,_⟩:=rowf_of_own ho;have HB:=Bo hb;clear ho hb)
  go_loopw [6] (fun i wr=>i=.int .i64 0∧wr=w1) (fun i _=>0)
  case atStart=>exact ⟨rfl,rfl⟩
  case round=>
   obtain ⟨rfl,rfl⟩:=hrel;go_wp2_with fail
   go_loopw [7,8] (fun c i wr'=>c=.int .i64 0∧i=.int .i64 0∧wr'=wr) (fun _ i _=>0)
   case atStart=>exact ⟨rfl,rfl,rfl⟩
   case round=>obtain ⟨rfl,rfl,rfl⟩:=hrel;go_wp2_with fail;go_ret;exact ⟨by rw [HRF.out];rfl,HB.out⟩
 have HT:=Bo (fun v (hv:v.size≤1000000000) w=>rtrimOf_any v ⟨#[11,12,32,9]⟩ w (by decide) (CT hv (by decide)))
 have HLo:=Bo (fun v (hv:v.size≤1000000000) w=>rlower_any v w (CT hv (by decide)))
 have HTZ:=Bo (fun v (hv:v.size≤1000000000)=>show (trimOf v ⟨#[11,12,32,9]⟩).size≤1000000000 from CT (trim_size _ _) hv)
 have HC1:=Bo (show IntKind.i64.wrap ((m:Int)-1)=((m-1:Nat):Int) by rw [Base.wrap_in _ (by omega) (by omega)];omega)
 have HC2:=Bo (show wrap64 ((m:Int)-1)=((m-1:Nat):Int) by unfold wrap64;omega);go_enter Tryz.func237,Tryz.ntmps237
 go_wp2_with (go_at_call 122;with_reducible refine (HL.out).mono ?_;rintro e w1 ⟨v,rfl,ho,hb⟩
              obtain ⟨A1,c3,rfl,ho2⟩:=rowf_of_own ho;obtain ⟨g,rfl,hg,hlt,hR⟩:=ho2 h0
              have HR0:=Bo (show Rowf w1 g m (mixN tb ls 0) from hR.congr fun j _=>by simp [mixN]);have HB:=Bo hb;clear ho hb ho2 hR)
 go_loopw [6] (fun i wr=>∃k:Nat,k≤m∧i=.int .i64 k∧Hid (Below w.heap.size w wr)∧Hid (Rowf wr g m (mixN tb ls k))∧g<wr.heap.size) (fun i _=>m-(intOf i).toNat)
 case atStart=>exact ⟨0,CY _,rfl,HB,HR0,hlt⟩
 case round=>
  obtain ⟨k,hk,rfl,hbr,hR,hgl⟩:=hrel;rcases CW k m with hlk | hge
  ·obtain ⟨hck,hzk⟩:=hR.out k hlk;have hsz:=HSZ.out k hlk;rw [show mixN tb ls k k=ls[k]?.getD A6 from if_neg (Nat.lt_irrefl k)] at hck
   have HS:=Bo (fun x (hx:x=norm tb (ls[k]?.getD A6)) (w':World) (h:Rowf w' g m (mixN tb ls k))=>show Rowf (w'.setCell ⟨g,k,none⟩ (.string x)) g m (mixN tb ls (k+1)) from (h.set k x).congr fun j hj=>by
    unfold mixN;by_cases e:j=k
    ·rw [if_pos e,if_pos (by omega),hx,e]
    ·rw [if_neg e];by_cases e2:j<k
     ·rw [if_pos e2,if_pos (by omega)]
     ·rw [if_neg e2,if_neg (by omega)])
   have HS2:=Bo (fun T x (hx:x=norm tb (ls[k]?.getD A6)) (w':World) (h:Rowf w' g m (fun j=>if j=k then T else mixN tb ls k j))=>show Rowf (w'.setCell ⟨g,k,none⟩ (.string x)) g m (mixN tb ls (k+1)) from (h.set k x).congr fun j hj=>by
    unfold mixN;by_cases e:j=k
    ·rw [if_pos e,if_pos (by omega),hx,e]
    ·rw [if_neg e,if_neg e];by_cases e2:j<k
     ·rw [if_pos e2,if_pos (by omega)]
     ·rw [if_neg e2,if_neg (by omega)])
   generalize ls[k]?.getD A6=x at *;have i1:(k:Int)<(m:Int):=by omega
   cases tb with
   | false=>
     have HC:=Bo (HLo.out x hsz)
     have HY:=Bo (show lower x=norm false x from rfl);generalize lower x=y at *;clear HT HTZ hsz
     go_wp2_with (first
      |(go_at_call 53;with_reducible refine Cm (H17.out _) ?_)
      |(go_at_call 179;(with_reducible refine (HC.out _).mono ?_);rintro e w3 ⟨rfl,hb⟩
        have HB3:=Bo (Ak hbr.out hb);have hR3:=hR.out.below hgl hb;have hg3:=CV hgl hb.size;clear hck hzk;obtain ⟨hck,hzk⟩:=hR3 k hlk;have HR3:=Bo hR3;clear hb hR3))
     go_roundw
     case rel=>exact ⟨k+1,by omega,by go_num,Bo (HB3.out.setCell hg _),Bo (HS.out _ HY.out _ HR3.out),by simpa using hg3⟩
     case measure=>simp [intOf];omega
   | true=>
     have HT2:=Bo (HT.out x hsz);have hsT:=HTZ.out x hsz
     have HY0:=Bo (show lower (trimOf x ⟨#[11,12,32,9]⟩)=norm true x from rfl);generalize trimOf x ⟨#[11,12,32,9]⟩=T at *
     have HC:=Bo (HLo.out T hsT)
     have HRT:=Bo (hR.out.set k T)
     have HBT:Hid (Below w.heap.size w (wr.setCell ⟨g,k,none⟩ (.string T))):=Bo (hbr.out.setCell hg _);have hgT:g<(wr.setCell ⟨g,k,none⟩ (.string T)).heap.size:=by simpa using hgl
     generalize lower T=y at *;clear HT HTZ hsz hsT
     go_wp2_with (first
      |(go_at_call 53;with_reducible refine Cm (H17.out _) ?_)
      |(go_at_call 170;with_reducible refine Cm (HT2.out _) ?_)
      |(go_at_call 179;(with_reducible refine (HC.out _).mono ?_);rintro e w3 ⟨rfl,hb⟩
        have HB3:=Bo (Ak HBT.out hb);have hR3:=HRT.out.below hgT hb;have hg3:=CV hgT hb.size;clear hck hzk;obtain ⟨hck,hzk⟩:=hR3 k hlk;have HR3:=Bo hR3;clear hb hR3))
     go_roundw
     case rel=>exact ⟨k+1,by omega,by go_num,Bo (HB3.out.setCell hg _),Bo (HS2.out _ _ HY0.out _ HR3.out),by simpa using hg3⟩
     case measure=>simp [intOf];omega
  ·obtain rfl:k=m:=by omega
   have HRk:=Bo (hR.out.congr (f':=fun j=>norm tb (ls[j]?.getD A6)) fun j hj=>if_pos hj);have HBk:=hbr;clear hR hbr HR0 HT HLo HTZ HSZ H17 HL;go_wp2_with fail
   go_loop [7,8] (fun c i=>∃j:Nat,j≤k∧i=.int .i64 j∧∃q:Nat,c=.int .i64 q∧q≤j∧Hid (q=(bs.take j).countP id)) (fun _ i=>k-(intOf i).toNat)
   case atStart=>exact ⟨0,CY _,rfl,0,rfl,CQ _,Bo rfl⟩
   case round=>
    obtain ⟨j,hj,rfl,q,rfl,hqj,HQ⟩:=hrel;rcases CW j k with hlj | hgj
    ·have hcj:wr.cell? ⟨g,j,none⟩=some (.string (norm tb (ls[j]?.getD A6))):=(HRk.out j hlj).1
     have HN:=Bo (count_snoc bs j (by rw [HBL.out];exact hlj));have hbj:=HBA.out j hlj;rw [←norm_is] at hbj;have HBJ:=Bo hbj;clear hbj;generalize norm tb (ls[j]?.getD A6)=x at *;have i1:(j:Int)<(k:Int):=by omega
     have hq1:q+1≤j+1:=by omega
     have hq2:q≤j+1:=by omega
     have hj1:j+1≤k:=by omega
     have c3:wrap64 ((q:Int)+1)=((q+1:Nat):Int):=by unfold wrap64;omega
     by_cases hx:x=chunked
     ·have H2:=Bo (show q+1=(bs.take (j+1)).countP id by
       rw [HN.out,HBJ.out,decide_eq_true hx,if_pos rfl,←HQ.out])
      obtain ⟨t1,t2⟩:=Tgt.eq_facts x [99,104,117,110,107,101,100] true (decide_eq_true (by rw [hx]));clear HN HBJ hx;go_wp2_with fail;clear c3;go_round
      case rel=>exact ⟨j+1,hj1,by go_num,q+1,rfl,hq1,H2⟩
      case measure=>simp [intOf];omega
     ·have H2:=Bo (show q=(bs.take (j+1)).countP id by
       rw [HN.out,HBJ.out,decide_eq_false hx,if_neg (by decide),←HQ.out];rfl)
      obtain ⟨t1,t2⟩:=Tgt.eq_facts x [99,104,117,110,107,101,100] false (decide_eq_false fun e=>hx (ba_ext e));clear HN HBJ hx c3;go_wp2_with fail;go_round
      case rel=>exact ⟨j+1,hj1,by go_num,q,rfl,hq2,H2⟩
      case measure=>simp [intOf];omega
    ·obtain rfl:j=k:=by omega
     have hcl:wr.cell? ⟨g,j-1,none⟩=some (.string (norm tb (ls[j-1]?.getD A6))):=(HRk.out (j-1) (by omega)).1;have hQ:=HQ.out;rw [CD (by rw [HBL.out];exact CQ _)] at hQ;have hRR:=HRR.out;rw [←hQ] at hRR;have hlast:bs.getLastD false=decide (norm tb (ls[j-1]?.getD A6)=chunked):=by rw [norm_is,←HBA.out (j-1) (by omega),List.getLastD_eq_getLast?,List.getLast?_eq_getElem?,show bs.length-1=j-1 by rw [HBL.out],BS (by rw [HBL.out];omega)];rfl
     rw [hlast] at hRR;have HR2:=Bo hRR;have HJ:=Bo hgj;have c1:=HC1.out;have c2:=HC2.out;clear hQ hlast HQ HBA HBL hgj hRR HRR HC1 HC2;generalize norm tb (ls[j-1]?.getD A6)=x at *;have i1:((j-1:Nat):Int)<(j:Int):=by omega
     generalize j-1=j1 at *;by_cases hq:q=1
     ·have t0:((q:Int)==1)=true:=beq_iff_eq.2 (by omega);by_cases hx:x=chunked
      ·obtain ⟨t1,t2⟩:=Tgt.eq_facts x [99,104,117,110,107,101,100] true (decide_eq_true (by rw [hx]));by_cases h1:j=1
       ·have t3:((j:Int)==1)=true:=beq_iff_eq.2 (by omega)
        have HH:=Bo (show R=true by rw [←HR2.out,decide_eq_true hq,decide_eq_true hx,decide_eq_true h1];rfl);clear h1 hq hx HR2;go_wp2_with fail;go_ret;exact ⟨by rw [HH.out];rfl,HBk.out⟩
       ·have t3:((j:Int)==1)=false:=beq_eq_false_iff_ne.2 (by omega)
        have HH:=Bo (show R=tl by rw [←HR2.out,decide_eq_true hq,decide_eq_true hx,decide_eq_false h1];rfl);clear h1 hq hx HR2
        go_wp2_with (go_at_call 53;with_reducible refine Cm (H18.out _) ?_);go_ret;exact ⟨by rw [HH.out];rfl,HBk.out⟩
      ·obtain ⟨t1,t2⟩:=Tgt.eq_facts x [99,104,117,110,107,101,100] false (decide_eq_false fun e=>hx (ba_ext e))
       have HH:=Bo (show R=false by rw [←HR2.out,decide_eq_true hq,decide_eq_false hx];rfl);clear hq hx HR2;go_wp2_with fail;go_ret;exact ⟨by rw [HH.out];rfl,HBk.out⟩
     ·have t0:((q:Int)==1)=false:=beq_eq_false_iff_ne.2 (by omega)
      have HH:=Bo (show R=false by rw [←HR2.out,decide_eq_false hq];rfl);clear hq HR2;go_wp2_with fail;go_ret;exact ⟨by rw [HH.out];rfl,HBk.out⟩
end code
end Go.Proofs.YtnabkcglnbdfeaaGreatDoor.Frm
namespace Go.Proofs.YtnabkcglnbdfeaaGreatDoor.Frm
open Go.RowKit Base Txt
section code
set_option maxHeartbeats 4000000
set_option maxRecDepth 10000
attribute [local go_sem] Al
theorem XXJcS {P:Prop} (h:P:=by
 simp only at hR;have hs:=HMN.out S rfl;have hways:(K=0∧S=y)∨(¬K=0∧al=true∧S=y)∨(¬K=0∧al=false∧lf=true∧S=y)∨(¬K=0∧al=false∧lf=false∧ll=true∧S=z):=by
  by_cases hK:K=0
  ·rw [decide_eq_true hK] at hO3;exact .inl ⟨hK,by simpa using hO3⟩
  ·rw [decide_eq_false hK] at hO3;cases al
   ·cases lf
    ·cases ll
     ·simp at hO3
     ·exact .inr (.inr (.inr ⟨hK,rfl,rfl,rfl,by simpa using hO3⟩))
    ·exact .inr (.inr (.inl ⟨hK,rfl,rfl,by simpa using hO3⟩))
   ·exact .inr (.inl ⟨hK,rfl,by simpa using hO3⟩)
 have HW:=Bo hways;clear hO3 hways;have hK4:(K=0∧S=y)∨(¬K=0∧al=true∧S=y)∨(¬K=0∧al=false∧lf=true∧S=y)∨(¬K=0∧al=false∧lf=false∧ll=true∧S=z):=HW.out;clear HW;rcases hK4 with ⟨hK,rfl⟩ | ⟨hK,rfl,rfl⟩ | ⟨hK,rfl,rfl,rfl⟩ | ⟨hK,rfl,rfl,rfl,rfl⟩;all_goals
  first
   |(have tK:((((K+1:Nat)):Int)==1)=true:=beq_iff_eq.2 (by omega))
   |(have tK:((((K+1:Nat)):Int)==1)=false:=beq_eq_false_iff_ne.2 (by omega)
     have tK2:((K:Int)+1==1)=false:=beq_eq_false_iff_ne.2 (by omega);have tK3:¬(K:Int)=0:=by omega)
  have HD:=Bo (HT.out S hs);clear HT HMN;generalize hNN:Num.readOf 10 most (unplus lp S).data.toList=N at *;clear hNN;obtain ⟨N1,N2⟩:=N;simp only at HD;unfold numV at hR;simp only at hR;have hcase:(N2=22∧R=(0,400))∨((N2==22)=false∧N2=23∧R=(0,413))∨((N2==22)=false∧(N2==23)=false∧R=(N1,0)):=by
   by_cases h1:N2=22
   ·rw [if_pos h1] at hR;exact .inl ⟨h1,hR.symm⟩
   ·rw [if_neg h1] at hR;by_cases h2:N2=23
    ·rw [if_pos h2] at hR;exact .inr (.inl ⟨beq_eq_false_iff_ne.2 h1,h2,hR.symm⟩)
    ·rw [if_neg h2] at hR;exact .inr (.inr ⟨beq_eq_false_iff_ne.2 h1,beq_eq_false_iff_ne.2 h2,hR.symm⟩)
  clear hR;cases lp with
  | false=>
    rw [show unplus false S=S from rfl] at HD;rcases hcase with ⟨rfl,rfl⟩ | ⟨t1,rfl,rfl⟩ | ⟨t1,t2,rfl⟩;all_goals
     go_wp2_with (first
      |(go_at_call 53;with_reducible refine Cm (H23.out _) ?_) |(go_at_call 53;with_reducible refine Cm (H25.out _) ?_) |(go_at_call 53;with_reducible refine Cm (H26.out _) ?_)
      |(go_at_call 255;with_reducible refine Cm (HD.out _) ?_))
     go_ret2;exact ⟨rfl,HBq.out⟩
  | true=>
    rcases CO S.size with hz0 | hz0
    ·have e0:S.toList.isEmpty=true:=by
      rw [Bv,List.length_eq_zero_iff.1 (show S.data.toList.length=0 by rw [len];exact hz0)];rfl
     rw [show unplus true S=S by unfold unplus;rw [List.length_eq_zero_iff.1 (show S.data.toList.length=0 by rw [len];exact hz0)];rfl] at HD;clear hz0;rcases hcase with ⟨rfl,rfl⟩ | ⟨t1,rfl,rfl⟩ | ⟨t1,t2,rfl⟩;all_goals
      go_wp2_with (first
       |(go_at_call 53;with_reducible refine Cm (H23.out _) ?_) |(go_at_call 53;with_reducible refine Cm (H25.out _) ?_) |(go_at_call 53;with_reducible refine Cm (H26.out _) ?_)
       |(go_at_call 255;with_reducible refine Cm (HD.out _) ?_))
      go_ret2;exact ⟨rfl,HBq.out⟩
    ·obtain ⟨e1,e2,e0⟩:=first_of S hz0;have i0:(0:Int)<(S.size:Int):=by omega
     have i1:(1:Int)≤(S.size:Int):=by omega
     have i2:(S.size:Int)≤9223372036854775807:=by omega
     by_cases hp:S[0]=43
     ·have t3:(((S[0].toNat:Nat):Int)==43)=true:=by rw [hp];rfl
      rw [show unplus true S=S.extract 1 S.size from by
       unfold unplus;rw [if_pos (by rw [e1,hp];rfl)]
       exact ba_ext e2.symm] at HD
      clear e1 e2 hp;rcases hcase with ⟨rfl,rfl⟩ | ⟨t1,rfl,rfl⟩ | ⟨t1,t2,rfl⟩;all_goals
       go_wp2_with (first
        |(go_at_call 53;with_reducible refine Cm (H23.out _) ?_) |(go_at_call 53;with_reducible refine Cm (H25.out _) ?_) |(go_at_call 53;with_reducible refine Cm (H26.out _) ?_)
        |(go_at_call 255;with_reducible refine Cm (HD.out _) ?_))
       go_ret2;exact ⟨rfl,HBq.out⟩
     ·have t3:(((S[0].toNat:Nat):Int)==43)=false:=beq_eq_false_iff_ne.2 (fun e=>hp (FD.1 (show S[0].toNat=(43:UInt8).toNat from by have e43:(43:UInt8).toNat=43:=rfl;omega)))
      rw [show unplus true S=S from by
       unfold unplus
       rw [if_neg (by rw [e1,List.head?_cons];simpa using hp)]] at HD
      clear e1 e2 hp;rcases hcase with ⟨rfl,rfl⟩ | ⟨t1,rfl,rfl⟩ | ⟨t1,t2,rfl⟩;all_goals
       go_wp2_with (first
        |(go_at_call 53;with_reducible refine Cm (H23.out _) ?_) |(go_at_call 53;with_reducible refine Cm (H25.out _) ?_) |(go_at_call 53;with_reducible refine Cm (H26.out _) ?_)
        |(go_at_call 255;with_reducible refine Cm (HD.out _) ?_))
       go_ret2
       exact ⟨rfl,HBq.out⟩):P:=h
theorem XXpld {P:Prop} (h:P:=by
 simp only at hR;have hcase:¬K=0∧al=false∧lf=false∧ll=false:=by
  refine ⟨fun e=>?_,?_,?_,?_⟩
  ·rw [decide_eq_true e] at hO3;simp at hO3
  ·cases al
   ·rfl
   ·simp at hO3
  ·cases lf
   ·rfl
   ·simp at hO3
  ·cases ll
   ·rfl
   ·by_cases hx:(decide (K=0)|| (al||lf))=true
    ·rw [if_pos hx] at hO3;cases hO3
    ·rw [if_neg hx,if_pos rfl] at hO3;cases hO3
 obtain ⟨hK,rfl,rfl,rfl⟩:=hcase;subst hR
 have tK:((((K+1:Nat)):Int)==1)=false:=beq_eq_false_iff_ne.2 (by omega)
 have tK2:((K:Int)+1==1)=false:=beq_eq_false_iff_ne.2 (by omega);have tK3:¬(K:Int)=0:=by omega
 clear hO3
 go_wp2_with (first
  |(go_at_call 53;with_reducible refine Cm (H25.out _) ?_)
  |(go_at_call 53;with_reducible refine Cm (H26.out _) ?_))
 go_ret2
 exact ⟨rfl,HBq.out⟩):P:=h
theorem XXbpH {P:Prop} (h:P:=by
 go_wp2_with fail
 go_quiet (fail);rename_i nq;go_wp2;go_roundw
 case rel=>first | exact ⟨k+1,q+nq,by omega,by go_num,(World.drewN_drewN _ _ _).symm ▸ rfl,false,rfl,H2⟩ | exact ⟨k+1,q+nq,by omega,by go_num,by rw [World.drewN_drewN],false,rfl,H2⟩ | exact ⟨k+1,q+nq,by omega,by go_num,rfl,false,rfl,H2⟩
 case measure=>simp [intOf];omega):P:=h
theorem rlength_any (p:Nat) (hp:p<4294967296) (most:Int) (hM:most≤9223372036854775807) (a:Option Addr) (n cap:Nat) (vs:List ByteArray) (w:World) (hv:Strs w a n vs) (hr:room vs≤1000000000) :
 Calls EL 238 #[.int .u32 (p:Nat),.int .i64 most,.slice a n cap] w fun e w'=>e=.returned (.tuple #[.int .i64 (lengthV (Ds p 23) (Ds p 24) (Ds p 25) (Ds p 26) most vs).1,.int .i64 (lengthV (Ds p 23) (Ds p 24) (Ds p 25) (Ds p 26) most vs).2])∧Below w.heap.size w w':=by
 obtain ⟨R,hR⟩:∃R,lengthV (Ds p 23) (Ds p 24) (Ds p 25) (Ds p 26) most vs=R:=⟨_,rfl⟩;rw [hR];unfold lengthV at hR;have hl:=hv.1;by_cases hn:n=0
 ·subst hn;obtain rfl:=BK hl;rw [if_pos rfl] at hR;subst hR;go_enter Tryz.func238,Tryz.ntmps238;exact XXdKB
 have hne:vs≠ []:=fun e=>hn (by rw [←hl,e];rfl);rw [if_neg hne] at hR
 have H23:=Bo (fun w=>Du p hp 23 w)
 have H24:=Bo (fun w=>Du p hp 24 w)
 have H25:=Bo (fun w=>Du p hp 25 w)
 have H26:=Bo (fun w=>Du p hp 26 w)
 have HL:=Bo (rlist_any a n cap vs w hv hr);have hll:=CT (list_le vs) hr;have hlp:=list_ne_nil vs hne;have hnr:=CT (len_room vs) hr;rw [hl] at hnr;have hms:=list_mem_size vs;have hrm:=room_mem vs;generalize Ds p 23=lp at *;generalize Ds p 24=lc at *;generalize Ds p 25=lf at *;generalize Ds p 26=ll at *
 have HT:=Bo (fun s (hs:s.size≤1000000000) w=>Num.rdec_any most hM (unplus lp s) w (CT (unplus_size lp s) (CT hs (by decide))))
 have t0:((n:Int)==0)=false:=beq_eq_false_iff_ne.2 (by omega);clear hp hM hl;cases lc with
 | false=>
   rw [if_neg (by decide)] at hR
   have HM:=Bo (fun s (h:s∈vs)=>show s.size≤1000000000 by have:=hrm s h;omega);clear HL hll hlp hms hrm hne;obtain ⟨U,hU⟩:∃U,U=vs:=⟨_,rfl⟩;rw [←hU] at hv HM hR;clear hU;have hm:=hv.1;obtain ⟨m,hnm⟩:∃m,m=n:=⟨_,rfl⟩;have hll:m≤1000000000:=by omega
   have hlp:0<m:=by omega
   subst hnm;obtain ⟨K,rfl⟩:∃K,m=K+1:=⟨m-1,by omega⟩
   have HE:=Bo (fun (a':Option Addr) (w':World) (hS:Strs w' a' (K+1) U)=>strs_ends hS)
   have HMN:=Bo (fun (s:ByteArray) (h:counts false lf ll U=some s)=>HM.out s (counts_mem _ _ _ _ _ h (fun e=>by rw [e] at hm;simp at hm)));obtain ⟨O,hO⟩:∃O,counts false lf ll U=O:=⟨_,rfl⟩;rw [hO] at hR HMN;have HUL:=Bo hm;have hO2:O=if (decide (K=0)|| ((false&&alikeL U)||lf))=true then some (U.headD A6) else if ll=true then some (U.getLastD A6) else none:=by rw [←hO];unfold counts;rw [hm];simp
   have HO:=Bo hO2;clear hO hO2 HM hm
   have HN:=Bo (fun k (hk:k<K+1)=>take_all_snoc (fun v:ByteArray=>decide (v=U.headD A6)) A6 U k (by rw [HUL.out];exact hk))
   have HA:=Bo (show (U.take (K+1)).all (fun v=>decide (v=U.headD A6))=alikeL U by rw [CD (by rw [HUL.out];exact CQ _)];rfl)
   have HC1:=Bo (show IntKind.i64.wrap (((K+1:Nat):Int)-1)=(K:Int) by rw [wrap_in _ (by omega) (by omega)];omega)
   have HC2:=Bo (show wrap64 (((K+1:Nat):Int)-1)=(K:Int) by unfold wrap64;omega);have HS:=Bo hv;obtain ⟨w1,hw1⟩:∃x,x=w:=⟨_,rfl⟩
   have HB:Hid (Below w.heap.size w w1):=Bo (hw1 ▸ Am _ _);rw [←hw1] at HS hv ⊢;rw [hw1] at HB;rw [←hw1] at HB;obtain ⟨bl,off,rfl,hd0,hz0⟩:=HE.out _ _ hv;have HD0:=Bo hd0;have HZ0:=Bo hz0;clear hv hd0 hz0 hw1;go_enter Tryz.func238,Tryz.ntmps238
   go_wp2_with (go_at_call 53;with_reducible refine Cm (H24.out _) ?_)
   go_loopw [9,10] (fun al i wr=>∃k q:Nat,k≤K+1∧i=.int .i64 k∧wr=w1.drewN q∧∃b:Bool,al=.bool b∧Hid (false=b)) (fun _ i _=>K+1-(intOf i).toNat)
   case atStart=>exact ⟨0,0,CY _,rfl,rfl,false,rfl,Bo rfl⟩
   case round=>
    obtain ⟨k,q,hk,rfl,rfl,al,rfl,HAL⟩:=hrel;rcases CW k (K+1) with hlt | hge
    ·have i1:(k:Int)<((K+1:Nat):Int):=by omega
     have i0:(0:Int)<((K+1:Nat):Int):=by omega
     obtain rfl:al=false:=HAL.out.symm;go_wp2_with fail
     go_quiet (fail);rename_i nq;go_wp2;go_roundw
     case rel=>first | exact ⟨k+1,q+nq,by omega,by go_num,(World.drewN_drewN _ _ _).symm ▸ rfl,false,rfl,Bo rfl⟩ | exact ⟨k+1,q+nq,by omega,by go_num,by rw [World.drewN_drewN],false,rfl,Bo rfl⟩ | exact ⟨k+1,q+nq,by omega,by go_num,rfl,false,rfl,Bo rfl⟩
     case measure=>simp [intOf];omega
    ·obtain rfl:k=K+1:=by omega
     have HAL2:=Bo (show (false&&alikeL U)=al by exact HAL.out);have hbd:Below w1.heap.size w1 (w1.drewN q):=Aj (Am _ _) q
     obtain ⟨bl2,off2,he2,hd,hz⟩:=HE.out _ _ (HS.out.below hbd);obtain ⟨rfl,rfl⟩:bl=bl2∧off=off2:=by simpa using he2
     have HBq:=Bo (Ak HB.out hbd);have hO3:=HO.out;rw [HAL2.out] at hO3;have c1:=HC1.out;have c2:=HC2.out;have i0:(0:Int)<((K+1:Nat):Int):=by omega
     have iK:(K:Int)<((K+1:Nat):Int):=by omega
     clear he2 hbd HE HN HA HC1 HC2 HO HAL HAL2 HS HB HD0 HZ0;generalize w1.drewN q=wq at *;generalize U.headD A6=y at *;generalize U.getLastD A6=z at *;cases O with
     | none=>
       exact XXpld
     | some S=>
       exact XXJcS
 | true=>
   rw [if_pos rfl] at hR
   have HM:=Bo (fun s (h:s∈list vs)=>show s.size≤1000000000 from CT (hms s h) hr);clear hv hms hrm hne;generalize list vs=U at *;obtain ⟨m,hm⟩:∃m,U.length=m:=⟨_,rfl⟩;rw [hm] at HL hll hlp;obtain ⟨K,rfl⟩:∃K,m=K+1:=⟨m-1,by omega⟩
   have HE:=Bo (fun (a':Option Addr) (w':World) (hS:Strs w' a' (K+1) U)=>strs_ends hS)
   have HMN:=Bo (fun (s:ByteArray) (h:counts true lf ll U=some s)=>HM.out s (counts_mem _ _ _ _ _ h (fun e=>by rw [e] at hm;simp at hm)));obtain ⟨O,hO⟩:∃O,counts true lf ll U=O:=⟨_,rfl⟩;rw [hO] at hR HMN;have HUL:=Bo hm;have hO2:O=if (decide (K=0)|| ((true&&alikeL U)||lf))=true then some (U.headD A6) else if ll=true then some (U.getLastD A6) else none:=by rw [←hO];unfold counts;rw [hm];simp
   have HO:=Bo hO2;clear hO hO2 HM hm
   have HN:=Bo (fun k (hk:k<K+1)=>take_all_snoc (fun v:ByteArray=>decide (v=U.headD A6)) A6 U k (by rw [HUL.out];exact hk))
   have HA:=Bo (show (U.take (K+1)).all (fun v=>decide (v=U.headD A6))=alikeL U by rw [CD (by rw [HUL.out];exact CQ _)];rfl)
   have HC1:=Bo (show IntKind.i64.wrap (((K+1:Nat):Int)-1)=(K:Int) by rw [wrap_in _ (by omega) (by omega)];omega)
   have HC2:=Bo (show wrap64 (((K+1:Nat):Int)-1)=(K:Int) by unfold wrap64;omega);go_enter Tryz.func238,Tryz.ntmps238
   go_wp2_with (first
    |(go_at_call 53;with_reducible refine Cm (H24.out _) ?_)
    |(go_at_call 122;with_reducible refine (HL.out).mono ?_;rintro e w1 ⟨b,m2,c,rfl,hm2,hS,hb⟩
      rw [hm2] at hS ⊢;clear hm2;have HS:=Bo hS;have HB:=Bo hb;obtain ⟨bl,off,rfl,hd0,hz0⟩:=HE.out _ _ hS;have HD0:=Bo hd0;have HZ0:=Bo hz0;clear hS hb hd0 hz0))
   go_loopw [9,10] (fun al i wr=>∃k q:Nat,k≤K+1∧i=.int .i64 k∧wr=w1.drewN q∧∃b:Bool,al=.bool b∧Hid ((U.take k).all (fun v=>decide (v=U.headD A6))=b)) (fun _ i _=>K+1-(intOf i).toNat)
   case atStart=>exact ⟨0,0,CY _,rfl,rfl,true,rfl,Bo rfl⟩
   case round=>
    obtain ⟨k,q,hk,rfl,rfl,al,rfl,HAL⟩:=hrel;rcases CW k (K+1) with hlt | hge
    ·have i1:(k:Int)<((K+1:Nat):Int):=by omega
     have i0:(0:Int)<((K+1:Nat):Int):=by omega
     obtain ⟨bl2,off2,he2,_,hc⟩:=HS.out.2 (by omega);obtain ⟨rfl,rfl⟩:bl=bl2∧off=off2:=by simpa using he2
     have hck:=hc k hlt;have hc0:=HD0.out
     have HNk:=Bo (HN.out k hlt);clear hc he2;cases al with
     | false=>
       have H2:=Bo (show (U.take (k+1)).all (fun v=>decide (v=U.headD A6))=false by rw [HNk.out,HAL.out];rfl);clear HNk hck hc0;exact XXbpH
     | true=>
       by_cases he:U[k]?.getD A6=U.headD A6
       ·have H2:=Bo (show (U.take (k+1)).all (fun v=>decide (v=U.headD A6))=true by rw [HNk.out,HAL.out,he];simp);rw [he] at hck;clear HNk he;generalize U.headD A6=y at *;go_wp2_with fail
        go_quiet (fail);rename_i nq;go_wp2;go_roundw
        case rel=>first | exact ⟨k+1,q+nq,by omega,by go_num,(World.drewN_drewN _ _ _).symm ▸ rfl,true,rfl,H2⟩ | exact ⟨k+1,q+nq,by omega,by go_num,by rw [World.drewN_drewN],true,rfl,H2⟩ | exact ⟨k+1,q+nq,by omega,by go_num,rfl,true,rfl,H2⟩
        case measure=>simp [intOf];omega
       ·have H2:=Bo (show (U.take (k+1)).all (fun v=>decide (v=U.headD A6))=false by rw [HNk.out,HAL.out,decide_eq_false he];rfl);generalize U[k]?.getD A6=x at *;generalize U.headD A6=y at *
        have he2:¬x.toList=y.toList:=fun h=>he ((toList_iff x y).1 h);have he3:(x.toList==y.toList)=false:=by simpa using he2
        clear HNk he;exact XXbpH
    ·obtain rfl:k=K+1:=by omega
     have HAL2:=Bo (show (true&&alikeL U)=al by rw [Az,←HA.out];exact HAL.out);have hbd:Below w1.heap.size w1 (w1.drewN q):=Aj (Am _ _) q
     obtain ⟨bl2,off2,he2,hd,hz⟩:=HE.out _ _ (HS.out.below hbd);obtain ⟨rfl,rfl⟩:bl=bl2∧off=off2:=by simpa using he2
     have HBq:=Bo (Ak HB.out hbd);have hO3:=HO.out;rw [HAL2.out] at hO3;have c1:=HC1.out;have c2:=HC2.out;have i0:(0:Int)<((K+1:Nat):Int):=by omega
     have iK:(K:Int)<((K+1:Nat):Int):=by omega
     clear he2 hbd HE HN HA HC1 HC2 HO HAL HAL2 HS HB HD0 HZ0;generalize w1.drewN q=wq at *;generalize U.headD A6=y at *;generalize U.getLastD A6=z at *;cases O with
     | none=>
       exact XXpld
     | some S=>
       exact XXJcS
end code
end Go.Proofs.YtnabkcglnbdfeaaGreatDoor.Frm
namespace Go.Proofs.YtnabkcglnbdfeaaGreatDoor.Frm
open Go.RowKit Base Txt
theorem rfind_at (a:Option Addr) (n cap:Nat) (fs:List Fld) (name:ByteArray) (w:World) (hv:Flds w a n fs) (hn:n≤1000000000) (hs:∀f∈fs,f.1.size≤1000000000) (ht:name.size≤1000000000) :
 Calls EL 105 #[.slice a n cap,.string name] w fun e w'=>∃b c,e=.returned (.slice b (find fs name).length c)∧Strs w' b (find fs name).length (find fs name)∧Below w.heap.size w w':=
 (rfind_any a n cap fs name w hv hn hs ht).mono (by rintro e w' ⟨b,m,c,rfl,rfl,hS,hb⟩;exact ⟨b,c,rfl,hS,hb⟩)
theorem hosts_old (nh mh:Bool) (h:List ByteArray) (h0:h.length=0) (hn:nh=true):hostsV nh mh 1 h=0:=by obtain rfl:=BK h0;rw [hosts_none,hn];rfl
section code
set_option maxHeartbeats 4000000
set_option maxRecDepth 10000
attribute [local go_sem] Al
theorem rhosts_any (p:Nat) (hp:p<4294967296) (minor:Int) (a:Option Addr) (n cap:Nat) (fs:List Fld) (w:World) (hv:Flds w a n fs) (hn:n≤1000000000) (hs:∀f∈fs,f.1.size≤1000000000∧f.2.size≤1000000000) :
 Calls EL 236 #[.int .u32 (p:Nat),.int .i64 minor,.slice a n cap] w fun e w'=>e=.returned (.int .i64 (hostsV (Ds p 15) (Ds p 16) minor (find fs hostN)))∧Below w.heap.size w w':=by
 have HF:=Bo (rfind_at a n cap fs ⟨#[72,111,115,116]⟩ w hv hn (fun f hf=>(hs f hf).1) (by decide))
 have H15:=Bo (fun w=>Du p hp 15 w)
 have H16:=Bo (fun w=>Du p hp 16 w)
 have hsz:=find_sizes fs ⟨#[72,111,115,116]⟩ 1000000000 (fun f hf=>(hs f hf).2);have hle:=find_le fs ⟨#[72,111,115,116]⟩;rw [hv.1] at hle
 have HT:=Bo (fun v (hv:v.size≤1000000000) w=>Tgt.rhost_any v w hv);obtain ⟨R,hR⟩:∃R,hostsV (Ds p 15) (Ds p 16) minor (find fs ⟨#[72,111,115,116]⟩)=R:=⟨_,rfl⟩;rw [show hostsV (Ds p 15) (Ds p 16) minor (find fs hostN)=R from hR];clear hv hs hp;generalize find fs ⟨#[72,111,115,116]⟩=H at *;obtain ⟨nh,hnh⟩:∃nh,Ds p 15=nh:=⟨_,rfl⟩;rw [hnh] at H15 hR;obtain ⟨mh,hmh⟩:∃mh,Ds p 16=mh:=⟨_,rfl⟩;rw [hmh] at H16 hR;clear hmh hnh;obtain ⟨m,hm⟩:∃m,H.length=m:=⟨_,rfl⟩;rw [hm] at HF hle
 have HSZ:=Bo (fun k (hk:k<m)=>show (H[k]?.getD A6).size≤1000000000 by
  rw [BS (by omega)]
  exact hsz _ (Ca _))
 have HM:=Bo hm;clear hsz;by_cases hA:minor=1∧m=0∧nh=false
 ·obtain ⟨rfl,rfl,rfl⟩:=hA;obtain rfl:=BK hm;rw [hosts_none] at hR
  replace hR:R=400:=hR.symm
  subst hR;clear hm HSZ HM HT;go_enter Tryz.func236,Tryz.ntmps236
  go_wp2_with (first
   |(go_at_call 105;with_reducible refine (HF.out).mono ?_;rintro e w1 ⟨b,c,rfl,hS,hb⟩;clear hS)
   |(go_at_call 53;with_reducible refine Cm (H15.out _) ?_))
  go_ret;exact ⟨rfl,hb⟩
 by_cases hB:1<m∧mh=false
 ·obtain ⟨h1,rfl⟩:=hB;rw [hosts_many nh minor H (by omega)] at hR;subst hR
  have t0:((m:Int)==0)=false:=beq_eq_false_iff_ne.2 (by omega);have t1:(1:Int)<(m:Int):=by omega
  clear hm hA HSZ HM HT;rcases (by omega:minor=1∨¬minor=1) with rfl | h2;all_goals
   try (have t2:(minor==1)=false:=beq_eq_false_iff_ne.2 h2)
   go_enter Tryz.func236,Tryz.ntmps236
   go_wp2_with (first
    |(go_at_call 105;with_reducible refine (HF.out).mono ?_;rintro e w1 ⟨b,c,rfl,hS,hb⟩;clear hS)
    |(go_at_call 53;with_reducible refine Cm (H16.out _) ?_))
   go_ret;exact ⟨rfl,hb⟩
 have hR2:R=if (H.all fun v=>Tgt.hostB v.data.toList)=true then 0 else 400:=by
  by_cases h10:minor=1∧m=0
  ·obtain ⟨rfl,rfl⟩:=h10;cases nh
   ·exact absurd ⟨rfl,rfl,rfl⟩ hA
   ·rw [←hR,hosts_old true mh H hm rfl,BK hm];rfl
  ·rw [←hR]
   exact hosts_loop nh mh minor H (by rw [hm];exact h10) (by
    rcases (by omega:m≤1∨1<m) with h | h
    ·exact .inl (by omega)
    ·right;cases mh
     ·exact absurd ⟨h,rfl⟩ hB
     ·rfl)
 have HR:=Bo hR2;clear hR hR2 hm;have hcase:(m=0∧(¬minor=1∨(minor=1∧nh=true)))∨(m=1∧(¬minor=1∨minor=1))∨((1<m∧mh=true)∧(¬minor=1∨minor=1)):=by
  rcases (by omega:m=0∨m=1∨1<m) with h | h | h
  ·refine .inl ⟨h,?_⟩;by_cases h2:minor=1
   ·right;cases nh
    ·exact absurd ⟨h2,h,rfl⟩ hA
    ·exact ⟨h2,rfl⟩
   ·exact .inl h2
  ·exact .inr (.inl ⟨h,by omega⟩)
  ·refine .inr (.inr ⟨⟨h,?_⟩,by omega⟩);cases mh
   ·exact absurd ⟨h,rfl⟩ hB
   ·rfl
 clear hA hB;rcases hcase with ⟨h0,hmi⟩ | ⟨h0,hmi⟩ | ⟨⟨h0,rfl⟩,hmi⟩
 ·obtain rfl:=h0
  have H3:=Bo (show R=0 from by rw [HR.out,BK HM.out];rfl);rcases hmi with h2 | ⟨rfl,rfl⟩;all_goals
   try (have t2:(minor==1)=false:=beq_eq_false_iff_ne.2 h2)
   go_enter Tryz.func236,Tryz.ntmps236
   go_wp2_with (first
    |(go_at_call 105;with_reducible refine (HF.out).mono ?_;rintro e w1 ⟨b,c,rfl,hS,hb⟩;clear hS
      have HB:=Bo hb;clear hb)
    |(go_at_call 53;with_reducible refine Cm (H15.out _) ?_))
   go_loopw [8] (fun i wr=>i=.int .i64 0∧wr=w1) (fun i _=>0)
   case atStart=>exact ⟨rfl,rfl⟩
   case round=>obtain ⟨rfl,rfl⟩:=hrel;go_wp2_with fail;go_ret;exact ⟨by rw [H3.out];rfl,HB.out⟩
 all_goals
  have t0:((m:Int)==0)=false:=beq_eq_false_iff_ne.2 (by omega);first
   |(have t1:(1:Int)<(m:Int):=by omega)
   |(have t1:¬(1:Int)<(m:Int):=by omega)
  clear h0;rcases hmi with h2 | rfl;all_goals
   try (have t2:(minor==1)=false:=beq_eq_false_iff_ne.2 h2)
   go_enter Tryz.func236,Tryz.ntmps236
   go_wp2_with (first
    |(go_at_call 105;with_reducible refine (HF.out).mono ?_;rintro e w1 ⟨b,c,rfl,hS,hb⟩
      have HS:=Bo hS;have HB:=Bo hb;clear hS hb)
    |(go_at_call 53;with_reducible refine Cm (H16.out _) ?_))
   go_loopw [8] (fun i wr=>∃k:Nat,k≤m∧i=.int .i64 k∧Hid (Below w1.heap.size w1 wr)∧Hid ((H.take k).all (fun v=>Tgt.hostB v.data.toList)=true)) (fun i _=>m-(intOf i).toNat)
   case atStart=>exact ⟨0,CY _,rfl,Bo (Am _ _),Bo rfl⟩
   case round=>
    obtain ⟨k,hk,rfl,hbr,H1⟩:=hrel;rcases CW k m with hlt | hge
    ·obtain ⟨bl,off,rfl,hbl,hc⟩:=(HS.out.below hbr.out).2 (by omega);have hck:=hc k hlt
     have HN:=Bo (take_all_snoc (fun v:ByteArray=>Tgt.hostB v.data.toList) A6 H k (by rw [HM.out];exact hlt))
     have HZ:=Bo (all_of_miss (fun v:ByteArray=>Tgt.hostB v.data.toList) A6 H k (by rw [HM.out];exact hlt))
     have HC:=Bo (HT.out _ (HSZ.out k hlt));clear hc;generalize H[k]?.getD A6=x at *;have i1:(k:Int)<(m:Int):=by omega
     generalize Tgt.hostB x.data.toList=q at *;cases q with
     | true=>
       have H2:=Bo (show (H.take (k+1)).all (fun v=>Tgt.hostB v.data.toList)=true by rw [HN.out,H1.out];rfl);clear HN HZ
       go_wp2_with (go_at_call 233;with_reducible refine (HC.out _).mono ?_;rintro e w2 ⟨rfl,hb⟩);exact XXfTh
     | false=>
       have H2:=Bo (show R=400 by rw [HR.out,HZ.out rfl];rfl);clear HN HZ
       go_wp2_with (go_at_call 233;with_reducible refine (HC.out _).mono ?_;rintro e w2 ⟨rfl,hb⟩);exact XXteq
    ·exact XXCdJ
end code
end Go.Proofs.YtnabkcglnbdfeaaGreatDoor.Frm
namespace Go.Proofs.YtnabkcglnbdfeaaGreatDoor.Frm
open Go.RowKit Base Txt
section code
set_option maxHeartbeats 8000000
set_option maxRecDepth 10000
attribute [local go_sem] Al
theorem XXu35 {P:Prop} (h:P:=by
 go_enter Tryz.func214,Tryz.ntmps214
 go_wp2_with (first
  |(go_at_call 53;with_reducible refine Cm (H19.out _) ?_)
  |(go_at_call 53;with_reducible refine Cm (H20.out _) ?_)
  |(go_at_call 53;with_reducible refine Cm (H21.out _) ?_)
  |(go_at_call 53;with_reducible refine Cm (H22.out _) ?_)
  |(go_at_call 238;(with_reducible refine (HL.out _ _ _ HS2.out).mono ?_);rintro e w5 ⟨rfl,hb⟩
    replace HK:=Bo (HK.out.step hb)
    (try clear q3 q8 c0 c1 z0 z1)
    obtain ⟨q3,q8,⟨c0,c1,z0,z1⟩,hlt,hbk⟩:=HK.out;clear hlt hbk hb)
  |(go_at_call 237;(with_reducible refine (HW.out _ _ _ HS1.out).mono ?_);rintro e w4 ⟨rfl,hb⟩
    replace HK:=Bo (HK.out.step hb)
    replace HS1:=Bo (HS1.out.below hb)
    replace HS2:=Bo (HS2.out.below hb)
    (try clear q3 q8 c0 c1 z0 z1)
    obtain ⟨q3,q8,⟨c0,c1,z0,z1⟩,hlt,hbk⟩:=HK.out;clear hlt hbk hb)
  |(go_at_call 105;(with_reducible refine (HF2.out _ HK.out.b).mono ?_);rintro e w3 ⟨b3,k3,rfl,hS,hb⟩
    replace HK:=Bo (HK.out.step hb)
    replace HS1:=Bo (HS1.out.below hb)
    have HS2:=Bo hS;clear hS
    (try clear q3 q8 c0 c1 z0 z1)
    obtain ⟨q3,q8,⟨c0,c1,z0,z1⟩,hlt,hbk⟩:=HK.out;clear hlt hbk hb)
  |(go_at_call 105;(with_reducible refine (HF1.out _ HK.out.b).mono ?_);rintro e w2 ⟨b2,k2,rfl,hS,hb⟩
    replace HK:=Bo (HK.out.step hb)
    have HS1:=Bo hS;clear hS
    (try clear q3 q8 c0 c1 z0 z1)
    obtain ⟨q3,q8,⟨c0,c1,z0,z1⟩,hlt,hbk⟩:=HK.out;clear hlt hbk hb)
  |(go_at_call 236;(with_reducible refine (HH.out _ HK0.out.b).mono ?_);rintro e w1 ⟨rfl,hb⟩
    have HK:=Bo (HK0.out.step hb)
    (try clear q3 q8 c0 c1 z0 z1)
    obtain ⟨q3,q8,⟨c0,c1,z0,z1⟩,hlt,hbk⟩:=HK.out;clear hlt hbk hb))
 obtain ⟨W,hW,⟨d0,d1,_,_⟩,hbW⟩:=Gb.put HK.out.f HK.out.b (CS _) 0 0;rw [hW];first
  |exact bodyPost_ret (v:=.tuple #[fr 0 0,.int .i64 Z]) (by (simp [results,Tryz.results214,go_sem,d0,d1]);first|done|fail) rfl ⟨rfl,hbW⟩
  |exact bodyPost_ret (v:=.tuple #[fr 0 0,.int .i64 le]) (by (simp [results,Tryz.results214,go_sem,d0,d1]);first|done|fail) rfl ⟨rfl,hbW⟩
  |exact bodyPost_ret (v:=.tuple #[fr 0 0,.int .i64 400]) (by (simp [results,Tryz.results214,go_sem,d0,d1]);first|done|fail) rfl ⟨rfl,hbW⟩):P:=h
theorem XXtsO {P:Prop} (h:P:=by
 go_enter Tryz.func214,Tryz.ntmps214
 go_wp2_with (first
  |(go_at_call 53;with_reducible refine Cm (H19.out _) ?_)
  |(go_at_call 53;with_reducible refine Cm (H20.out _) ?_)
  |(go_at_call 53;with_reducible refine Cm (H21.out _) ?_)
  |(go_at_call 53;with_reducible refine Cm (H22.out _) ?_)
  |(go_at_call 238;(with_reducible refine (HL.out _ _ _ HS2.out).mono ?_);rintro e w5 ⟨rfl,hb⟩
    replace HK:=Bo (HK.out.step hb)
    (try clear q3 q8 c0 c1 z0 z1)
    obtain ⟨q3,q8,⟨c0,c1,z0,z1⟩,hlt,hbk⟩:=HK.out;clear hlt hbk hb)
  |(go_at_call 237;(with_reducible refine (HW.out _ _ _ HS1.out).mono ?_);rintro e w4 ⟨rfl,hb⟩
    replace HK:=Bo (HK.out.step hb)
    replace HS1:=Bo (HS1.out.below hb)
    replace HS2:=Bo (HS2.out.below hb)
    (try clear q3 q8 c0 c1 z0 z1)
    obtain ⟨q3,q8,⟨c0,c1,z0,z1⟩,hlt,hbk⟩:=HK.out;clear hlt hbk hb)
  |(go_at_call 105;(with_reducible refine (HF2.out _ HK.out.b).mono ?_);rintro e w3 ⟨b3,k3,rfl,hS,hb⟩
    replace HK:=Bo (HK.out.step hb)
    replace HS1:=Bo (HS1.out.below hb)
    have HS2:=Bo hS;clear hS
    (try clear q3 q8 c0 c1 z0 z1)
    obtain ⟨q3,q8,⟨c0,c1,z0,z1⟩,hlt,hbk⟩:=HK.out;clear hlt hbk hb)
  |(go_at_call 105;(with_reducible refine (HF1.out _ HK.out.b).mono ?_);rintro e w2 ⟨b2,k2,rfl,hS,hb⟩
    replace HK:=Bo (HK.out.step hb)
    have HS1:=Bo hS;clear hS
    (try clear q3 q8 c0 c1 z0 z1)
    obtain ⟨q3,q8,⟨c0,c1,z0,z1⟩,hlt,hbk⟩:=HK.out;clear hlt hbk hb)
  |(go_at_call 236;(with_reducible refine (HH.out _ HK0.out.b).mono ?_);rintro e w1 ⟨rfl,hb⟩
    have HK:=Bo (HK0.out.step hb)
    (try clear q3 q8 c0 c1 z0 z1)
    obtain ⟨q3,q8,⟨c0,c1,z0,z1⟩,hlt,hbk⟩:=HK.out;clear hlt hbk hb))
 obtain ⟨W,hW,⟨d0,d1,_,_⟩,hbW⟩:=Gb.put HK.out.f HK.out.b (CS _) 1 ln;rw [hW]
 exact bodyPost_ret (v:=.tuple #[fr 1 ln,.int .i64 0]) (by simp [results,Tryz.results214,go_sem,d0,d1]) rfl ⟨rfl,hbW⟩):P:=h
theorem rdecide_any (p:Nat) (hp:p<4294967296) (x0 x1 x2 x3 x4 x5 x6 x7:Int) (ch od:Bool) (hx:x3≤9223372036854775807) (minor:Int) (a:Option Addr) (n cap:Nat) (fs:List Fld) (w:World) (hv:Flds w a n fs) (hn:n≤500) (hs:∀f∈fs,f.1.size≤1000000∧f.2.size≤1000000) :
 Calls EL 214 #[.int .u32 (p:Nat),Bnd.bnd x0 x1 x2 x3 x4 x5 x6 x7 ch od,.int .i64 minor,.slice a n cap] w fun e w'=>e=.returned (.tuple #[fr (decideV (clOf p) ch x3 minor fs).1 (decideV (clOf p) ch x3 minor fs).2.1,.int .i64 (decideV (clOf p) ch x3 minor fs).2.2])∧Below w.heap.size w w':=by
 have HH:=Bo (fun w' hb=>rhosts_any p hp minor a n cap fs w' (hv.below (w':=w') hb) (by omega) (fun f hf=>by have:=hs f hf;omega))
 have HF1:=Bo (fun w' hb=>rfind_at a n cap fs ⟨#[84,114,97,110,115,102,101,114,45,69,110,99,111,100,105,110,103]⟩ w' (hv.below (w':=w') hb) (by omega) (fun f hf=>by have:=hs f hf;omega) (by decide))
 have HF2:=Bo (fun w' hb=>rfind_at a n cap fs ⟨#[67,111,110,116,101,110,116,45,76,101,110,103,116,104]⟩ w' (hv.below (w':=w') hb) (by omega) (fun f hf=>by have:=hs f hf;omega) (by decide));have hrm:∀name,room (find fs name)≤1000000000:=fun name=>by exact XXocm
 have hrm1:=hrm ⟨#[84,114,97,110,115,102,101,114,45,69,110,99,111,100,105,110,103]⟩;have hrm2:=hrm ⟨#[67,111,110,116,101,110,116,45,76,101,110,103,116,104]⟩
 have H19:=Bo (fun w=>Du p hp 19 w)
 have H20:=Bo (fun w=>Du p hp 20 w)
 have H21:=Bo (fun w=>Du p hp 21 w)
 have H22:=Bo (fun w=>Du p hp 22 w);obtain ⟨R,hR⟩:∃R,decideV (clOf p) ch x3 minor fs=R:=⟨_,rfl⟩;rw [hR]
 replace hR:bodyV (hostsV (Ds p 15) (Ds p 16) minor (find fs ⟨#[72,111,115,116]⟩)) ch
  (winsV (Ds p 20) (Ds p 19) (Ds p 21) (Ds p 22) minor (find fs ⟨#[84,114,97,110,115,102,101,114,45,69,110,99,111,100,105,110,103]⟩).length (find fs ⟨#[67,111,110,116,101,110,116,45,76,101,110,103,116,104]⟩).length (coding (Ds p 17) (Ds p 18) (find fs ⟨#[84,114,97,110,115,102,101,114,45,69,110,99,111,100,105,110,103]⟩)))
  (lengthV (Ds p 23) (Ds p 24) (Ds p 25) (Ds p 26) x3 (find fs ⟨#[67,111,110,116,101,110,116,45,76,101,110,103,116,104]⟩))=R:=hR
 rw [show find fs hostN=find fs ⟨#[72,111,115,116]⟩ from rfl] at HH;generalize find fs ⟨#[72,111,115,116]⟩=LH at *;generalize find fs ⟨#[84,114,97,110,115,102,101,114,45,69,110,99,111,100,105,110,103]⟩=LT at *;generalize find fs ⟨#[67,111,110,116,101,110,116,45,76,101,110,103,116,104]⟩=LC at *
 have HW:=Bo (fun a' c' w' hS=>rcoding_any p hp a' LT.length c' LT w' hS hrm1)
 have HL:=Bo (fun a' c' w' hS=>rlength_any p hp x3 hx a' LC.length c' LC w' hS hrm2);generalize hostsV (Ds p 15) (Ds p 16) minor LH=Z at *;generalize lengthV (Ds p 23) (Ds p 24) (Ds p 25) (Ds p 26) x3 LC=LV at *;generalize coding (Ds p 17) (Ds p 18) LT=cod at *;generalize LT.length=nT at *;generalize LC.length=nC at *;generalize Ds p 19=ti at *;generalize Ds p 20=td at *;generalize Ds p 21=tw at *;generalize Ds p 22=lw at *;obtain ⟨ln,le⟩:=LV;unfold bodyV fixedV winsV at hR;simp only at hR HL;clear hrm hrm1 hrm2 hv hs hp hx hn
 have HK0:=Bo (Kp.new w 29 217 x0 x1 x2 x3 x4 x5 x6 x7 ch od);by_cases hZ:Z≠0
 ·rw [if_pos hZ] at hR;subst hR;have tz:(Z==0)=false:=beq_eq_false_iff_ne.2 hZ;clear hZ;exact XXu35
 rw [if_neg hZ] at hR;obtain rfl:Z=0:=Decidable.not_not.1 hZ;clear hZ;by_cases hT:nT=0
 ·subst hT;rw [if_pos rfl] at hR;rw [if_neg (by decide),if_neg (by decide)] at hR;have hcase:(le=0∧R=(1,ln,0))∨((le==0)=false∧R=(0,0,le)):=by
   exact XXELR
  clear hR;rcases hcase with ⟨rfl,rfl⟩ | ⟨tz,rfl⟩
  ·exact XXtsO
  ·exact XXu35
 rw [if_neg hT] at hR;have tT:(0:Int)<(nT:Int):=by omega
 clear hT;by_cases hO:minor=0∧td=false
 ·obtain ⟨rfl,rfl⟩:=hO;rw [if_pos (show (decide ((0:Int)=0) && !false)=true from rfl),if_pos (by decide)] at hR;subst hR;exact XXu35
 have hO2:(minor=0∧td=true)∨(minor==0)=false:=by exact XX2eG
 rw [if_neg (show¬(decide (minor=0) && !td)=true by
  rintro h;rw [An,decide_eq_true_eq,Aw] at h
  exact hO h)] at hR
 clear hO;cases cod with
 | false=>
   rw [if_pos (show false=false from rfl)] at hR;cases ti with
   | false=>
     rw [if_neg (show¬false=true by decide)] at hR;rw [if_pos (by decide)] at hR;subst hR;rcases hO2 with ⟨rfl,rfl⟩ | t1;all_goals
      go_enter Tryz.func214,Tryz.ntmps214
      go_wp2_with (first
       |(go_at_call 53;with_reducible refine Cm (H19.out _) ?_)
       |(go_at_call 53;with_reducible refine Cm (H20.out _) ?_)
       |(go_at_call 53;with_reducible refine Cm (H21.out _) ?_)
       |(go_at_call 53;with_reducible refine Cm (H22.out _) ?_)
       |(go_at_call 238;(with_reducible refine (HL.out _ _ _ HS2.out).mono ?_);rintro e w5 ⟨rfl,hb⟩
         replace HK:=Bo (HK.out.step hb)
         (try clear q3 q8 c0 c1 z0 z1)
         obtain ⟨q3,q8,⟨c0,c1,z0,z1⟩,hlt,hbk⟩:=HK.out;clear hlt hbk hb)
       |(go_at_call 237;(with_reducible refine (HW.out _ _ _ HS1.out).mono ?_);rintro e w4 ⟨rfl,hb⟩
         replace HK:=Bo (HK.out.step hb)
         replace HS1:=Bo (HS1.out.below hb)
         replace HS2:=Bo (HS2.out.below hb)
         (try clear q3 q8 c0 c1 z0 z1)
         obtain ⟨q3,q8,⟨c0,c1,z0,z1⟩,hlt,hbk⟩:=HK.out;clear hlt hbk hb)
       |(go_at_call 105;(with_reducible refine (HF2.out _ HK.out.b).mono ?_);rintro e w3 ⟨b3,k3,rfl,hS,hb⟩
         replace HK:=Bo (HK.out.step hb)
         replace HS1:=Bo (HS1.out.below hb)
         have HS2:=Bo hS;clear hS
         (try clear q3 q8 c0 c1 z0 z1)
         obtain ⟨q3,q8,⟨c0,c1,z0,z1⟩,hlt,hbk⟩:=HK.out;clear hlt hbk hb)
       |(go_at_call 105;(with_reducible refine (HF1.out _ HK.out.b).mono ?_);rintro e w2 ⟨b2,k2,rfl,hS,hb⟩
         replace HK:=Bo (HK.out.step hb)
         have HS1:=Bo hS;clear hS
         (try clear q3 q8 c0 c1 z0 z1)
         obtain ⟨q3,q8,⟨c0,c1,z0,z1⟩,hlt,hbk⟩:=HK.out;clear hlt hbk hb)
       |(go_at_call 236;(with_reducible refine (HH.out _ HK0.out.b).mono ?_);rintro e w1 ⟨rfl,hb⟩
         have HK:=Bo (HK0.out.step hb)
         (try clear q3 q8 c0 c1 z0 z1)
         obtain ⟨q3,q8,⟨c0,c1,z0,z1⟩,hlt,hbk⟩:=HK.out;clear hlt hbk hb))
      obtain ⟨W,hW,⟨d0,d1,_,_⟩,hbW⟩:=Gb.put HK.out.f HK.out.b (CS _) 0 0;rw [hW];exact bodyPost_ret (v:=.tuple #[fr 0 0,.int .i64 501]) (by simp [results,Tryz.results214,go_sem,d0,d1]) rfl ⟨rfl,hbW⟩
   | true=>
     rw [if_pos (show true=true from rfl),if_neg (by decide),if_neg (by decide)] at hR;rcases hO2 with ⟨rfl,rfl⟩ | t1;all_goals
      have hcase:(le=0∧R=(1,ln,0))∨((le==0)=false∧R=(0,0,le)):=by exact XXELR
      clear hR;rcases hcase with ⟨rfl,rfl⟩ | ⟨tz,rfl⟩
      ·exact XXtsO
      ·exact XXu35
 | true=>
   rw [if_neg (show¬true=false by decide)] at hR;by_cases hB:0<nC∧tw=false
   ·obtain ⟨h0,rfl⟩:=hB;rw [if_pos (show (decide (0<nC) && !false)=true by rw [decide_eq_true h0];rfl)] at hR
    have t2:((nC:Int)==0)=false:=beq_eq_false_iff_ne.2 (by omega);clear h0;cases lw with
    | false=>
      rw [if_neg (show¬false=true by decide)] at hR;rw [if_pos (by decide)] at hR;subst hR;rcases hO2 with ⟨rfl,rfl⟩ | t1;all_goals
       go_enter Tryz.func214,Tryz.ntmps214
       go_wp2_with (first
        |(go_at_call 53;with_reducible refine Cm (H19.out _) ?_)
        |(go_at_call 53;with_reducible refine Cm (H20.out _) ?_)
        |(go_at_call 53;with_reducible refine Cm (H21.out _) ?_)
        |(go_at_call 53;with_reducible refine Cm (H22.out _) ?_)
        |(go_at_call 238;(with_reducible refine (HL.out _ _ _ HS2.out).mono ?_);rintro e w5 ⟨rfl,hb⟩
          replace HK:=Bo (HK.out.step hb)
          (try clear q3 q8 c0 c1 z0 z1)
          obtain ⟨q3,q8,⟨c0,c1,z0,z1⟩,hlt,hbk⟩:=HK.out;clear hlt hbk hb)
        |(go_at_call 237;(with_reducible refine (HW.out _ _ _ HS1.out).mono ?_);rintro e w4 ⟨rfl,hb⟩
          replace HK:=Bo (HK.out.step hb)
          replace HS1:=Bo (HS1.out.below hb)
          replace HS2:=Bo (HS2.out.below hb)
          (try clear q3 q8 c0 c1 z0 z1)
          obtain ⟨q3,q8,⟨c0,c1,z0,z1⟩,hlt,hbk⟩:=HK.out;clear hlt hbk hb)
        |(go_at_call 105;(with_reducible refine (HF2.out _ HK.out.b).mono ?_);rintro e w3 ⟨b3,k3,rfl,hS,hb⟩
          replace HK:=Bo (HK.out.step hb)
          replace HS1:=Bo (HS1.out.below hb)
          have HS2:=Bo hS;clear hS
          (try clear q3 q8 c0 c1 z0 z1)
          obtain ⟨q3,q8,⟨c0,c1,z0,z1⟩,hlt,hbk⟩:=HK.out;clear hlt hbk hb)
        |(go_at_call 105;(with_reducible refine (HF1.out _ HK.out.b).mono ?_);rintro e w2 ⟨b2,k2,rfl,hS,hb⟩
          replace HK:=Bo (HK.out.step hb)
          have HS1:=Bo hS;clear hS
          (try clear q3 q8 c0 c1 z0 z1)
          obtain ⟨q3,q8,⟨c0,c1,z0,z1⟩,hlt,hbk⟩:=HK.out;clear hlt hbk hb)
        |(go_at_call 236;(with_reducible refine (HH.out _ HK0.out.b).mono ?_);rintro e w1 ⟨rfl,hb⟩
          have HK:=Bo (HK0.out.step hb)
          (try clear q3 q8 c0 c1 z0 z1)
          obtain ⟨q3,q8,⟨c0,c1,z0,z1⟩,hlt,hbk⟩:=HK.out;clear hlt hbk hb))
       obtain ⟨W,hW,⟨d0,d1,_,_⟩,hbW⟩:=Gb.put HK.out.f HK.out.b (CS _) 0 0;rw [hW];exact bodyPost_ret (v:=.tuple #[fr 0 0,.int .i64 400]) (by simp [results,Tryz.results214,go_sem,d0,d1]) rfl ⟨rfl,hbW⟩
    | true=>
      rw [if_pos (show true=true from rfl),if_neg (by decide),if_neg (by decide)] at hR;rcases hO2 with ⟨rfl,rfl⟩ | t1;all_goals
       have hcase:(le=0∧R=(1,ln,0))∨((le==0)=false∧R=(0,0,le)):=by exact XXELR
       clear hR;rcases hcase with ⟨rfl,rfl⟩ | ⟨tz,rfl⟩
       ·exact XXtsO
       ·exact XXu35
   ·rw [if_neg (show¬(decide (0<nC) && !tw)=true by
     rintro h;rw [An,decide_eq_true_eq,Aw] at h
     exact hB h),if_neg (by decide),if_pos (show true=true from rfl)] at hR
    have hB2:(nC=0)∨(0<nC∧tw=true):=by
     rcases CO nC with h | h
     ·exact .inl h
     ·right;cases tw
      ·exact absurd ⟨h,rfl⟩ hB
      ·exact ⟨h,rfl⟩
    clear hB;cases ch with
    | false=>
      rw [if_neg (by decide)] at hR;subst hR;rcases hO2 with ⟨rfl,rfl⟩ | t1<;>rcases hB2 with rfl | ⟨h0,rfl⟩;all_goals
       try (have t2:((nC:Int)==0)=false:=beq_eq_false_iff_ne.2 (by omega))
       go_enter Tryz.func214,Tryz.ntmps214
       go_wp2_with (first
        |(go_at_call 53;with_reducible refine Cm (H19.out _) ?_)
        |(go_at_call 53;with_reducible refine Cm (H20.out _) ?_)
        |(go_at_call 53;with_reducible refine Cm (H21.out _) ?_)
        |(go_at_call 53;with_reducible refine Cm (H22.out _) ?_)
        |(go_at_call 238;(with_reducible refine (HL.out _ _ _ HS2.out).mono ?_);rintro e w5 ⟨rfl,hb⟩
          replace HK:=Bo (HK.out.step hb)
          (try clear q3 q8 c0 c1 z0 z1)
          obtain ⟨q3,q8,⟨c0,c1,z0,z1⟩,hlt,hbk⟩:=HK.out;clear hlt hbk hb)
        |(go_at_call 237;(with_reducible refine (HW.out _ _ _ HS1.out).mono ?_);rintro e w4 ⟨rfl,hb⟩
          replace HK:=Bo (HK.out.step hb)
          replace HS1:=Bo (HS1.out.below hb)
          replace HS2:=Bo (HS2.out.below hb)
          (try clear q3 q8 c0 c1 z0 z1)
          obtain ⟨q3,q8,⟨c0,c1,z0,z1⟩,hlt,hbk⟩:=HK.out;clear hlt hbk hb)
        |(go_at_call 105;(with_reducible refine (HF2.out _ HK.out.b).mono ?_);rintro e w3 ⟨b3,k3,rfl,hS,hb⟩
          replace HK:=Bo (HK.out.step hb)
          replace HS1:=Bo (HS1.out.below hb)
          have HS2:=Bo hS;clear hS
          (try clear q3 q8 c0 c1 z0 z1)
          obtain ⟨q3,q8,⟨c0,c1,z0,z1⟩,hlt,hbk⟩:=HK.out;clear hlt hbk hb)
        |(go_at_call 105;(with_reducible refine (HF1.out _ HK.out.b).mono ?_);rintro e w2 ⟨b2,k2,rfl,hS,hb⟩
          replace HK:=Bo (HK.out.step hb)
          have HS1:=Bo hS;clear hS
          (try clear q3 q8 c0 c1 z0 z1)
          obtain ⟨q3,q8,⟨c0,c1,z0,z1⟩,hlt,hbk⟩:=HK.out;clear hlt hbk hb)
        |(go_at_call 236;(with_reducible refine (HH.out _ HK0.out.b).mono ?_);rintro e w1 ⟨rfl,hb⟩
          have HK:=Bo (HK0.out.step hb)
          (try clear q3 q8 c0 c1 z0 z1)
          obtain ⟨q3,q8,⟨c0,c1,z0,z1⟩,hlt,hbk⟩:=HK.out;clear hlt hbk hb))
       obtain ⟨W,hW,⟨d0,d1,_,_⟩,hbW⟩:=Gb.put HK.out.f HK.out.b (CS _) 0 0;rw [hW];exact bodyPost_ret (v:=.tuple #[fr 0 0,.int .i64 501]) (by simp [results,Tryz.results214,go_sem,d0,d1]) rfl ⟨rfl,hbW⟩
    | true=>
      rw [if_pos rfl] at hR;subst hR;rcases hO2 with ⟨rfl,rfl⟩ | t1<;>rcases hB2 with rfl | ⟨h0,rfl⟩;all_goals
       try (have t2:((nC:Int)==0)=false:=beq_eq_false_iff_ne.2 (by omega))
       go_enter Tryz.func214,Tryz.ntmps214
       go_wp2_with (first
        |(go_at_call 53;with_reducible refine Cm (H19.out _) ?_)
        |(go_at_call 53;with_reducible refine Cm (H20.out _) ?_)
        |(go_at_call 53;with_reducible refine Cm (H21.out _) ?_)
        |(go_at_call 53;with_reducible refine Cm (H22.out _) ?_)
        |(go_at_call 238;(with_reducible refine (HL.out _ _ _ HS2.out).mono ?_);rintro e w5 ⟨rfl,hb⟩
          replace HK:=Bo (HK.out.step hb)
          (try clear q3 q8 c0 c1 z0 z1)
          obtain ⟨q3,q8,⟨c0,c1,z0,z1⟩,hlt,hbk⟩:=HK.out;clear hlt hbk hb)
        |(go_at_call 237;(with_reducible refine (HW.out _ _ _ HS1.out).mono ?_);rintro e w4 ⟨rfl,hb⟩
          replace HK:=Bo (HK.out.step hb)
          replace HS1:=Bo (HS1.out.below hb)
          replace HS2:=Bo (HS2.out.below hb)
          (try clear q3 q8 c0 c1 z0 z1)
          obtain ⟨q3,q8,⟨c0,c1,z0,z1⟩,hlt,hbk⟩:=HK.out;clear hlt hbk hb)
        |(go_at_call 105;(with_reducible refine (HF2.out _ HK.out.b).mono ?_);rintro e w3 ⟨b3,k3,rfl,hS,hb⟩
          replace HK:=Bo (HK.out.step hb)
          replace HS1:=Bo (HS1.out.below hb)
          have HS2:=Bo hS;clear hS
          (try clear q3 q8 c0 c1 z0 z1)
          obtain ⟨q3,q8,⟨c0,c1,z0,z1⟩,hlt,hbk⟩:=HK.out;clear hlt hbk hb)
        |(go_at_call 105;(with_reducible refine (HF1.out _ HK.out.b).mono ?_);rintro e w2 ⟨b2,k2,rfl,hS,hb⟩
          replace HK:=Bo (HK.out.step hb)
          have HS1:=Bo hS;clear hS
          (try clear q3 q8 c0 c1 z0 z1)
          obtain ⟨q3,q8,⟨c0,c1,z0,z1⟩,hlt,hbk⟩:=HK.out;clear hlt hbk hb)
        |(go_at_call 236;(with_reducible refine (HH.out _ HK0.out.b).mono ?_);rintro e w1 ⟨rfl,hb⟩
          have HK:=Bo (HK0.out.step hb)
          (try clear q3 q8 c0 c1 z0 z1)
          obtain ⟨q3,q8,⟨c0,c1,z0,z1⟩,hlt,hbk⟩:=HK.out;clear hlt hbk hb))
       obtain ⟨W,hW,⟨d0,d1,_,_⟩,hbW⟩:=Gb.put HK.out.f HK.out.b (CS _) 2 0;rw [hW];exact bodyPost_ret (v:=.tuple #[fr 2 0,.int .i64 0]) (by simp [results,Tryz.results214,go_sem,d0,d1]) rfl ⟨rfl,hbW⟩
end code
end Go.Proofs.YtnabkcglnbdfeaaGreatDoor.Frm
namespace Go.Proofs.YtnabkcglnbdfeaaGreatDoor.Par
open Go.RowKit Base Txt Mem
section code
set_option maxHeartbeats 4000000
set_option maxRecDepth 20000
attribute [local go_sem] Al
variable {w:World} {B:Zone} {g q:Nat} {v f bd t o:Value} {p:Nat} {b:Bd} {s:S}
theorem XXAxS {P:Prop} (h:P:=by refine AJ rfl (fun ev w1 hR hb hh=>?_);have e0:=hR.old 0 rfl;simp only [Af,BY,BQ,BR,Di] at e0;have q0:=(HQ.out.below hb).c 0 _ rfl;have q1:=(HQ.out.below hb).c 1 _ rfl;have q2:=(HQ.out.below hb).c 2 _ rfl;have q3:=(HQ.out.below hb).c 3 _ rfl;have q4:=(HQ.out.below hb).c 4 _ rfl;have q5:=(HQ.out.below hb).c 5 _ rfl;have q6:=(HQ.out.below hb).c 6 _ rfl;have q7:=(HQ.out.below hb).c 7 _ rfl;have q8:=(HQ.out.below hb).c 8 _ rfl;have q9:=(HQ.out.below hb).c 9 _ rfl;have q10:=(HQ.out.below hb).c 10 _ rfl;have q15:=(HQ.out.below hb).c 15 _ rfl;have q16:=(HQ.out.below hb).c 16 _ rfl;exact Each.std):P:=h
theorem XX4gx {P:Prop} (h:P:=by
 refine AJ rfl (fun ev w1 hR hb hh=>?_);have e8:ev (.tmp 8)= _:=hh.at 0;have e12:ev (.tmp 12)= _:=hh.at 1;have e17:ev (.tmp 17)= _:=hh.at 2;have e22:ev (.tmp 22)= _:=hh.at 3;clear hh;have ef:=hR.func
 refine AE 214 #[.int .u32 (p:Int),.agg #[.int .i64 b.x0,.int .i64 b.x1,.int .i64 b.x2,.int .i64 b.x3,.int .i64 b.x4,.int .i64 b.x5,.int .i64 b.x6,.int .i64 b.x7,.bool b.ch,.bool b.od],.int .i64 s.r.k,.slice bf s.r.fs.length cf] (by go_simp) ((HZ.out w1 hb).mono ?_);rintro r w2 ⟨rfl,hb2⟩
 exact ⟨_,rfl,hb2,rfl⟩):P:=h
theorem XXiwQ {P:Prop} (h:P:=by
 go_wp2_with (go_at_call 118;with_reducible refine HFA.out.mono ?_;rintro r w3 ⟨rfl,hP,hS⟩);go_end0;first
  |exact ⟨rfl,_,_,_,_,_,_,hP,(DD HB.out).trans hS⟩
  |exact ⟨rfl,_,_,_,_,_,hP,(DD HB.out).trans hS⟩):P:=h
theorem over_any (hp:p<4294967296) (h3:16≤b.x3∧b.x3≤1048576) (h:PR w B g q v f bd t o p b s) (hn:s.r.fs.length≤500) (hs:∀y∈s.r.fs,y.1.size≤1000000∧y.2.size≤1000000) (hout:s.out.length≤1000000000):Calls EL 191 #[ptr g] w fun r w'=>
 r=.returned (.tuple #[])∧∃q1 v1 f1 bd1 t1 o1,PR w' B g q1 v1 f1 bd1 t1 o1 p b (s.over p b)∧Step (blks g q v f bd t o) (blks g q1 v1 f1 bd1 t1 o1) w w':=by
 obtain ⟨A,c,e,hv⟩:=Flds.of_own h.own.F;obtain ⟨bf,cf,eb, -⟩:=CJ h.own.F;subst eb;simp only [Value.slice.injEq,true_and] at e;obtain ⟨rfl,rfl⟩:=e;have H:=Bo h
 have HQ:=Bo ((h.drew 1).bk)
 have hvd:=hv.below (Aj (Am w.heap.size w) 1);have hz:=fun w2 (hb:Below (w.drewN 1).heap.size (w.drewN 1) w2)=>Frm.rdecide_any p hp b.x0 b.x1 b.x2 b.x3 b.x4 b.x5 b.x6 b.x7 b.ch b.od (by omega) s.r.k _ _ cf s.r.fs w2 (hvd.below hb) hn hs;have HO:=Bo hout;clear h hn hs hout hv;rcases decide_facts (Frm.clOf p) b.ch b.x3 s.r.k s.r.fs with hD | ⟨n,hle,hD⟩ | ⟨e,he,hD⟩
 ·have HZ:=Bo (show∀w2,Below (w.drewN 1).heap.size (w.drewN 1) w2→Calls EL 214 #[.int .u32 (p:Int),.agg #[.int .i64 b.x0,.int .i64 b.x1,.int .i64 b.x2,.int .i64 b.x3,.int .i64 b.x4,.int .i64 b.x5,.int .i64 b.x6,.int .i64 b.x7,.bool b.ch,.bool b.od],.int .i64 s.r.k,.slice bf s.r.fs.length cf] w2 fun r w'=>r=.returned (.tuple #[.agg #[.int .i64 2,.int .i64 0],.int .i64 0])∧Below w2.heap.size w2 w' from fun w2 hb=>by have:=hz w2 hb;rw [hD] at this;exact this);have e:s.over p b={s with r:={s.r with ch:=true},st:=3,fresh:=true,rd:=nl p b.x0}:=by unfold S.over;rw [hD];rfl
  rw [e];clear hz hD e hvd;go_enter Tryz.func191,Tryz.ntmps191;go_upto_region 0 with fail
  go_cut [2,3] from 4 to 25 (fun u c wx=>∃g2,u=ptr g2∧c=.int .i64 0∧Hid (Below w.heap.size w wx)∧Hid (Dv wx g2 [.int .i64 2,.int .i64 0])∧Hid (w.heap.size≤g2))
  case first=>
   refine Each.region_float 23 [5,6,7,8,9,10,11,12,13,14,15,16,17,18,19,20,21,22,23,4,24,25,2] [eP g 0,eP g 0,eP g 0,eQ (.int .u32 (p:Int)),eP g 0,eP g 0,eP g 1,eQ (.agg #[.int .i64 b.x0,.int .i64 b.x1,.int .i64 b.x2,.int .i64 b.x3,.int .i64 b.x4,.int .i64 b.x5,.int .i64 b.x6,.int .i64 b.x7,.bool b.ch,.bool b.od]),eP g 0,eP g 0,eP g 13,eP g 15,eQ (.int .i64 s.r.k),eP g 0,eP g 0,eP g 13,eP g 16,eQ (.slice bf s.r.fs.length cf),eQ (.tuple #[.agg #[.int .i64 2,.int .i64 0],.int .i64 0]),eQ (.tuple #[.agg #[.int .i64 2,.int .i64 0],.int .i64 0]),eQ (.agg #[.int .i64 2,.int .i64 0]),eQ (.int .i64 0),fun v u=>∃g2,v=ptr g2∧w.heap.size≤g2∧Dv u g2 [.int .i64 0,.int .i64 0]] [] 2 (some 21) (.act 23 (.quiet 24 .done)) (.quiet 21 (.act 23 (.quiet 24 .done))) (by kernel_rfl) (by kernel_rfl) (by kernel_rfl) (by kernel_rfl) (fun k0 h=>by cases h;kernel_rfl) (fun _ _ d _ _ h=>by cases d<;>exact h) (by rfl) (by rfl) ⟨AI _,AI _,AI _,AI _,AI _,AI _,AI _,AI _,AI _,AI _,AI _,AI _,AI _,AI _,AI _,AI _,AI _,AI _,AI _,AI _,AI _,AI _,((fun _ _ _ hb h=>by obtain ⟨g2,e1,h1,hB⟩:=h;exact ⟨g2,e1,h1,hB.below hb⟩)),trivial⟩ trivial (by rfl) ?_ ?_ ?_
   ·refine ⟨?_,?_,?_,?_,?_,?_,?_,?_,?_,?_,?_,?_,?_,?_,?_,?_,?_,?_,?_,?_,?_,?_,?_,trivial⟩
    ·exact XXAxS
    ·exact XXAxS
    ·exact XXAxS
    ·exact XXAxS
    ·exact XXAxS
    ·exact XXAxS
    ·exact XXAxS
    ·exact XXAxS
    ·exact XXAxS
    ·exact XXAxS
    ·exact XXAxS
    ·exact XXAxS
    ·exact XXAxS
    ·exact XXAxS
    ·exact XXAxS
    ·exact XXAxS
    ·exact XXAxS
    ·exact XXAxS
    ·exact XX4gx
    ·exact XXAxS
    ·exact XXAxS
    ·exact XXAxS
    ·exact XXdQp
   ·intro g1 w2 hb hf;have z4:g1 4= _:=hf.at 19;have z24:g1 24= _:=hf.at 20;have z25:g1 25= _:=hf.at 21;have z2:=hf.at 22;clear hf;obtain ⟨g2,e2,hg2,hB2⟩:=z2;simp only [AM,Ab,C7,CA,C9];rw [z4,z24,z25,e2];simp only [DU,DV,BR,BQ];exact XXZHN
   ·intro k0 hk0 g1 w2 hb hf;cases hk0;have z4:g1 4= _:=hf.at 19;have z24:g1 24= _:=hf.at 20;have z2:=hf.at 22;clear hf;obtain ⟨g2,e2,hg2,hB2⟩:=z2;simp only [AM,Ab,C7,CA,C9];rw [z4,z24,e2];simp only [DU,DV,BR,BQ];refine DW (by rfl) (.int .i64 0) (fun _ _=>by go_simp) ?_;simp only [Ab,C7,CA,C9];exact XXZHN
  case rest=>
  obtain ⟨g2,rfl,rfl,HB,HG,HG2⟩:=hcut
  have H1:=Bo (H.out.below HB.out);clear HQ;obtain ⟨W0,hW0⟩:∃x,x=wc:=⟨_,rfl⟩;subst hW0;have y0:=HG.out.c 0 _ rfl;have y1:=HG.out.c 1 _ rfl
  have H2:=Bo (((H1.out.put 17 (.bool true) {s with r:={s.r with ch:=true}} rfl rfl rfl rfl rfl rfl).put 11 (.int .i64 3) {s with r:={s.r with ch:=true},st:=3} rfl rfl rfl rfl rfl rfl).put 23 (.bool true) {s with r:={s.r with ch:=true},st:=3,fresh:=true} rfl rfl rfl rfl rfl rfl)
  have HS2:=Bo ((DD HB.out (L:=blks g q v (.slice bf s.r.fs.length cf) bd t o)).trans (((DF g 17 (.bool true) (by simp)).trans (DF g 11 (.int .i64 3) (by simp))).trans (DF g 23 (.bool true) (by simp))));have c11:=H1.out.cs.c11;have c17:=H1.out.cs.c17;have c23:=H1.out.cs.c23;have z11:=H1.out.marks 11;have z17:=H1.out.marks 17;have z23:=H1.out.marks 23;go_upto_region 6 with fail
  generalize ((W0.setCell ⟨g,17,none⟩ (.bool true)).setCell ⟨g,11,none⟩ (.int .i64 3)).setCell ⟨g,23,none⟩ (.bool true)=W1 at *;clear c11 c17 c23 z11 z17 z23 H1 HB HG y0 y1;obtain ⟨S1,hS1⟩:∃S1:S,{s with r:={s.r with ch:=true},st:=3,fresh:=true}=S1:=⟨_,rfl⟩;have HS1:=Bo hS1;rw [hS1] at H2;clear hS1
  have HQ:=Bo ((H2.out.drew 1).bk)
  have HBW:=Bo (show B≤(W1.drewN 1).heap.size from CT H2.out.own.ge (CP (H2.out.drew 1).own.lt));refine Each.region 11 [57,58,59,60,61,62,63,64,65,66,67] [eP g 0,eP g 0,eP g 0,eP g 0,eQ (.int .u32 (p:Int)),eP g 0,eP g 0,eP g 1,eP g 1,eQ (.int .i64 b.x0),fun v w=>∃q1,v=ptr q1∧W1.heap.size≤q1∧Ln.Rr w B q1 nil p (nl p (b.x0))] (.quiet 11 (.quiet 12 (.act 13 .done))) (by kernel_rfl) (by kernel_rfl) (by kernel_rfl) (by kernel_rfl) (fun _ _ d _ _ h=>by cases d<;>exact h) (by rfl) (by rfl) ⟨AI _,AI _,AI _,AI _,AI _,AI _,AI _,AI _,AI _,AI _,((fun _ _ _ hb h=>by obtain ⟨q1,e1,h1,h2⟩:=h;exact ⟨q1,e1,h1,rr_below h2 hb⟩)),trivial⟩ ?_ ?_
  ·refine ⟨?_,?_,?_,?_,?_,?_,?_,?_,?_,?_,?_,trivial⟩
   ·exact XXSdZ
   ·exact XXSdZ
   ·exact XXSdZ
   ·exact XXSdZ
   ·exact XXSdZ
   ·exact XXSdZ
   ·exact XXSdZ
   ·exact XXSdZ
   ·exact XXSdZ
   ·exact XXSdZ
   ·refine AJ rfl (fun ev w1 hR hb hh=>?_);have e61:ev (.tmp 61)= _:=hh.at 0;have e66:ev (.tmp 66)= _:=hh.at 1;exact XXHuz
  intro g1 w2 hb hf;have z57:g1 57= _:=hf.at 0;have z67:=hf.at 10;clear hf;obtain ⟨q1,e1,hq1,hr1⟩:=z67;simp only [AM,Ab,C7,CA,C9];rw [e1,z57];simp only [DU,DV,BR,BQ];refine DW (by rfl) (ptr g) (fun _ _=>by go_simp) ?_;simp only [Ab,C7,CA,C9];refine DW (by rfl) (.pointer (some ⟨g,12,none⟩)) (fun _ _=>by go_simp) ?_;simp only [Ab,C7,CA,C9];have c12:=(H2.out.below hb).cs.c12;have z12:=(H2.out.below hb).marks 12
  refine DS (by rfl) (fun K hK=>?_);go_simp;refine hK _ _ trivial ?_;clear hK K;refine DT ?_;have HL:=H2.out.line hb hr1 hq1
  have SL:=(Step.line (g:=g) (q:=q) (v:=v) (f:=(.slice bf s.r.fs.length cf)) (bd:=bd) (t:=t) (o:=o) hb hq1).trans (DF g 12 (ptr q1) (by simp));clear HQ HBW hr1 hq1 c12 z12;rw [←HS1.out] at HL;go_wp2;go_end0;exact ⟨rfl,q1,_,_,_,_,_,HL,HS2.out.trans SL⟩
 ·have HZ:=Bo (show∀w2,Below (w.drewN 1).heap.size (w.drewN 1) w2→Calls EL 214 #[.int .u32 (p:Int),.agg #[.int .i64 b.x0,.int .i64 b.x1,.int .i64 b.x2,.int .i64 b.x3,.int .i64 b.x4,.int .i64 b.x5,.int .i64 b.x6,.int .i64 b.x7,.bool b.ch,.bool b.od],.int .i64 s.r.k,.slice bf s.r.fs.length cf] w2 fun r w'=>r=.returned (.tuple #[.agg #[.int .i64 1,.int .i64 (n:Int)],.int .i64 0])∧Below w2.heap.size w2 w' from fun w2 hb=>by have:=hz w2 hb;rw [hD] at this;exact this);rcases CO n with hn | hn
  ·subst hn
   have HZ:=Bo (show∀w2,Below (w.drewN 1).heap.size (w.drewN 1) w2→Calls EL 214 #[.int .u32 (p:Int),.agg #[.int .i64 b.x0,.int .i64 b.x1,.int .i64 b.x2,.int .i64 b.x3,.int .i64 b.x4,.int .i64 b.x5,.int .i64 b.x6,.int .i64 b.x7,.bool b.ch,.bool b.od],.int .i64 s.r.k,.slice bf s.r.fs.length cf] w2 fun e w'=>e=.returned (.tuple #[.agg #[.int .i64 1,.int .i64 0],.int .i64 0])∧Below w2.heap.size w2 w' from fun w2 hb=>HZ.out w2 hb);have e:s.over p b=s.whole p b:=by unfold S.over;rw [hD];rfl
   rw [e];clear hz hD e hvd hle;go_enter Tryz.func191,Tryz.ntmps191;go_upto_region 0 with fail
   go_cut [2,3] from 4 to 25 (fun u c wx=>∃g2,u=ptr g2∧c=.int .i64 0∧Hid (Below w.heap.size w wx)∧Hid (Dv wx g2 [.int .i64 1,.int .i64 0])∧Hid (w.heap.size≤g2))
   case first=>
    refine Each.region_float 23 [5,6,7,8,9,10,11,12,13,14,15,16,17,18,19,20,21,22,23,4,24,25,2] [eP g 0,eP g 0,eP g 0,eQ (.int .u32 (p:Int)),eP g 0,eP g 0,eP g 1,eQ (.agg #[.int .i64 b.x0,.int .i64 b.x1,.int .i64 b.x2,.int .i64 b.x3,.int .i64 b.x4,.int .i64 b.x5,.int .i64 b.x6,.int .i64 b.x7,.bool b.ch,.bool b.od]),eP g 0,eP g 0,eP g 13,eP g 15,eQ (.int .i64 s.r.k),eP g 0,eP g 0,eP g 13,eP g 16,eQ (.slice bf s.r.fs.length cf),eQ (.tuple #[.agg #[.int .i64 1,.int .i64 0],.int .i64 0]),eQ (.tuple #[.agg #[.int .i64 1,.int .i64 0],.int .i64 0]),eQ (.agg #[.int .i64 1,.int .i64 0]),eQ (.int .i64 0),fun v u=>∃g2,v=ptr g2∧w.heap.size≤g2∧Dv u g2 [.int .i64 0,.int .i64 0]] [] 2 (some 21) (.act 23 (.quiet 24 .done)) (.quiet 21 (.act 23 (.quiet 24 .done))) (by kernel_rfl) (by kernel_rfl) (by kernel_rfl) (by kernel_rfl) (fun k0 h=>by cases h;kernel_rfl) (fun _ _ d _ _ h=>by cases d<;>exact h) (by rfl) (by rfl) ⟨AI _,AI _,AI _,AI _,AI _,AI _,AI _,AI _,AI _,AI _,AI _,AI _,AI _,AI _,AI _,AI _,AI _,AI _,AI _,AI _,AI _,AI _,((fun _ _ _ hb h=>by obtain ⟨g2,e1,h1,hB⟩:=h;exact ⟨g2,e1,h1,hB.below hb⟩)),trivial⟩ trivial (by rfl) ?_ ?_ ?_
    ·refine ⟨?_,?_,?_,?_,?_,?_,?_,?_,?_,?_,?_,?_,?_,?_,?_,?_,?_,?_,?_,?_,?_,?_,?_,trivial⟩
     ·exact XXAxS
     ·exact XXAxS
     ·exact XXAxS
     ·exact XXAxS
     ·exact XXAxS
     ·exact XXAxS
     ·exact XXAxS
     ·exact XXAxS
     ·exact XXAxS
     ·exact XXAxS
     ·exact XXAxS
     ·exact XXAxS
     ·exact XXAxS
     ·exact XXAxS
     ·exact XXAxS
     ·exact XXAxS
     ·exact XXAxS
     ·exact XXAxS
     ·exact XX4gx
     ·exact XXAxS
     ·exact XXAxS
     ·exact XXAxS
     ·exact XXdQp
    ·intro g1 w2 hb hf;have z4:g1 4= _:=hf.at 19;have z24:g1 24= _:=hf.at 20;have z25:g1 25= _:=hf.at 21;have z2:=hf.at 22;clear hf;obtain ⟨g2,e2,hg2,hB2⟩:=z2;simp only [AM,Ab,C7,CA,C9];rw [z4,z24,z25,e2];simp only [DU,DV,BR,BQ];exact XX4U6
    ·intro k0 hk0 g1 w2 hb hf;cases hk0;have z4:g1 4= _:=hf.at 19;have z24:g1 24= _:=hf.at 20;have z2:=hf.at 22;clear hf;obtain ⟨g2,e2,hg2,hB2⟩:=z2;simp only [AM,Ab,C7,CA,C9];rw [z4,z24,e2];simp only [DU,DV,BR,BQ];refine DW (by rfl) (.int .i64 0) (fun _ _=>by go_simp) ?_;simp only [Ab,C7,CA,C9];exact XX4U6
   case rest=>
   obtain ⟨g2,rfl,rfl,HB,HG,HG2⟩:=hcut
   have H1:=Bo (H.out.below HB.out);clear HQ;obtain ⟨W0,hW0⟩:∃x,x=wc:=⟨_,rfl⟩;subst hW0;have y0:=HG.out.c 0 _ rfl;have y1:=HG.out.c 1 _ rfl
   have HW:=Bo (whole_any H1.out HO.out)
   go_wp2_with (go_at_call 161;with_reducible refine HW.out.mono ?_;rintro r w3 ⟨rfl,q1,o1,hP,hS⟩);go_end0;exact ⟨rfl,q1,_,_,_,_,o1,hP,(DD HB.out).trans hS⟩
  ·have tz:¬(n:Int)=0:=by omega
   have tz':((n:Int)==0)=false:=beq_eq_false_iff_ne.2 tz;have e:s.over p b={s with st:=2,left:=n,fresh:=true}:=by unfold S.over;rw [hD];show (if (0:Int)≠0 then _ else if (1:Int)=2 then _ else if (n:Int)=0 then _ else ({s with st:=2,left:=(n:Int).toNat,fresh:=true}:S))= _;rw [if_neg (by decide),if_neg (by decide),if_neg tz,Int.toNat_natCast]
   rw [e];clear hz hD e hvd hle hn;go_enter Tryz.func191,Tryz.ntmps191;go_upto_region 0 with fail
   go_cut [2,3] from 4 to 25 (fun u c wx=>∃g2,u=ptr g2∧c=.int .i64 0∧Hid (Below w.heap.size w wx)∧Hid (Dv wx g2 [.int .i64 1,.int .i64 (n:Int)])∧Hid (w.heap.size≤g2))
   case first=>
    refine Each.region_float 23 [5,6,7,8,9,10,11,12,13,14,15,16,17,18,19,20,21,22,23,4,24,25,2] [eP g 0,eP g 0,eP g 0,eQ (.int .u32 (p:Int)),eP g 0,eP g 0,eP g 1,eQ (.agg #[.int .i64 b.x0,.int .i64 b.x1,.int .i64 b.x2,.int .i64 b.x3,.int .i64 b.x4,.int .i64 b.x5,.int .i64 b.x6,.int .i64 b.x7,.bool b.ch,.bool b.od]),eP g 0,eP g 0,eP g 13,eP g 15,eQ (.int .i64 s.r.k),eP g 0,eP g 0,eP g 13,eP g 16,eQ (.slice bf s.r.fs.length cf),eQ (.tuple #[.agg #[.int .i64 1,.int .i64 (n:Int)],.int .i64 0]),eQ (.tuple #[.agg #[.int .i64 1,.int .i64 (n:Int)],.int .i64 0]),eQ (.agg #[.int .i64 1,.int .i64 (n:Int)]),eQ (.int .i64 0),fun v u=>∃g2,v=ptr g2∧w.heap.size≤g2∧Dv u g2 [.int .i64 0,.int .i64 0]] [] 2 (some 21) (.act 23 (.quiet 24 .done)) (.quiet 21 (.act 23 (.quiet 24 .done))) (by kernel_rfl) (by kernel_rfl) (by kernel_rfl) (by kernel_rfl) (fun k0 h=>by cases h;kernel_rfl) (fun _ _ d _ _ h=>by cases d<;>exact h) (by rfl) (by rfl) ⟨AI _,AI _,AI _,AI _,AI _,AI _,AI _,AI _,AI _,AI _,AI _,AI _,AI _,AI _,AI _,AI _,AI _,AI _,AI _,AI _,AI _,AI _,((fun _ _ _ hb h=>by obtain ⟨g2,e1,h1,hB⟩:=h;exact ⟨g2,e1,h1,hB.below hb⟩)),trivial⟩ trivial (by rfl) ?_ ?_ ?_
    ·refine ⟨?_,?_,?_,?_,?_,?_,?_,?_,?_,?_,?_,?_,?_,?_,?_,?_,?_,?_,?_,?_,?_,?_,?_,trivial⟩
     ·exact XXAxS
     ·exact XXAxS
     ·exact XXAxS
     ·exact XXAxS
     ·exact XXAxS
     ·exact XXAxS
     ·exact XXAxS
     ·exact XXAxS
     ·exact XXAxS
     ·exact XXAxS
     ·exact XXAxS
     ·exact XXAxS
     ·exact XXAxS
     ·exact XXAxS
     ·exact XXAxS
     ·exact XXAxS
     ·exact XXAxS
     ·exact XXAxS
     ·exact XX4gx
     ·exact XXAxS
     ·exact XXAxS
     ·exact XXAxS
     ·exact XXdQp
    ·intro g1 w2 hb hf;have z4:g1 4= _:=hf.at 19;have z24:g1 24= _:=hf.at 20;have z25:g1 25= _:=hf.at 21;have z2:=hf.at 22;clear hf;obtain ⟨g2,e2,hg2,hB2⟩:=z2;simp only [AM,Ab,C7,CA,C9];rw [z4,z24,z25,e2];simp only [DU,DV,BR,BQ];exact XXsvP
    ·intro k0 hk0 g1 w2 hb hf;cases hk0;have z4:g1 4= _:=hf.at 19;have z24:g1 24= _:=hf.at 20;have z2:=hf.at 22;clear hf;obtain ⟨g2,e2,hg2,hB2⟩:=z2;simp only [AM,Ab,C7,CA,C9];rw [z4,z24,e2];simp only [DU,DV,BR,BQ];refine DW (by rfl) (.int .i64 0) (fun _ _=>by go_simp) ?_;simp only [Ab,C7,CA,C9];exact XXsvP
   case rest=>
   obtain ⟨g2,rfl,rfl,HB,HG,HG2⟩:=hcut
   have H1:=Bo (H.out.below HB.out);clear HQ;obtain ⟨W0,hW0⟩:∃x,x=wc:=⟨_,rfl⟩;subst hW0;have y0:=HG.out.c 0 _ rfl;have y1:=HG.out.c 1 _ rfl
   have H2:=Bo (((H1.out.put 11 (.int .i64 2) {s with st:=2} rfl rfl rfl rfl rfl rfl).put 22 (.int .i64 (n:Int)) {s with st:=2,left:=n} rfl rfl rfl rfl rfl rfl).put 23 (.bool true) {s with st:=2,left:=n,fresh:=true} rfl rfl rfl rfl rfl rfl);have c11:=H1.out.cs.c11;have c22:=H1.out.cs.c22;have c23:=H1.out.cs.c23;have z11:=H1.out.marks 11;have z22:=H1.out.marks 22;have z23:=H1.out.marks 23
   have HS2:=Bo ((DD HB.out (L:=blks g q v (.slice bf s.r.fs.length cf) bd t o)).trans (((DF g 11 (.int .i64 2) (by simp)).trans (DF g 22 (.int .i64 (n:Int)) (by simp))).trans (DF g 23 (.bool true) (by simp))));have hne:¬g2=g:=by have h1:=H.out.own.lt;have h2:=HG2.out;omega
   have hne':¬g=g2:=fun e=>hne e.symm;clear H1;go_upto_region 1 with fail
   go_region
   have H3:=Bo (H2.out.drew 1);have HS3:=Bo (HS2.out.trans (DD (Aj (Am _ _) 1)));clear c11 c22 c23 z11 z22 z23 H2 HS2;go_wp2;go_end0;exact ⟨rfl,_,_,_,_,_,_,H3.out,HS3.out⟩
 ·have HZ:=Bo (show∀w2,Below (w.drewN 1).heap.size (w.drewN 1) w2→Calls EL 214 #[.int .u32 (p:Int),.agg #[.int .i64 b.x0,.int .i64 b.x1,.int .i64 b.x2,.int .i64 b.x3,.int .i64 b.x4,.int .i64 b.x5,.int .i64 b.x6,.int .i64 b.x7,.bool b.ch,.bool b.od],.int .i64 s.r.k,.slice bf s.r.fs.length cf] w2 fun r w'=>r=.returned (.tuple #[.agg #[.int .i64 0,.int .i64 0],.int .i64 (e:Int)])∧Below w2.heap.size w2 w' from fun w2 hb=>by have:=hz w2 hb;rw [hD] at this;exact this);have tz:¬(e:Int)=0:=by omega
  have tz':((e:Int)==0)=false:=beq_eq_false_iff_ne.2 tz;have e1:s.over p b=s.fail e:=by unfold S.over;rw [hD];show (if (e:Int)≠0 then s.fail (e:Int).toNat else _)= _;rw [if_pos tz,Int.toNat_natCast]
  rw [e1];clear hz hD e1 hvd he;go_enter Tryz.func191,Tryz.ntmps191;go_upto_region 0 with fail
  go_cut [2,3] from 4 to 25 (fun u c wx=>∃g2,u=ptr g2∧c=.int .i64 (e:Int)∧Hid (Below w.heap.size w wx)∧Hid (Dv wx g2 [.int .i64 0,.int .i64 0])∧Hid (w.heap.size≤g2))
  case first=>
   refine Each.region_float 23 [5,6,7,8,9,10,11,12,13,14,15,16,17,18,19,20,21,22,23,4,24,25,2] [eP g 0,eP g 0,eP g 0,eQ (.int .u32 (p:Int)),eP g 0,eP g 0,eP g 1,eQ (.agg #[.int .i64 b.x0,.int .i64 b.x1,.int .i64 b.x2,.int .i64 b.x3,.int .i64 b.x4,.int .i64 b.x5,.int .i64 b.x6,.int .i64 b.x7,.bool b.ch,.bool b.od]),eP g 0,eP g 0,eP g 13,eP g 15,eQ (.int .i64 s.r.k),eP g 0,eP g 0,eP g 13,eP g 16,eQ (.slice bf s.r.fs.length cf),eQ (.tuple #[.agg #[.int .i64 0,.int .i64 0],.int .i64 (e:Int)]),eQ (.tuple #[.agg #[.int .i64 0,.int .i64 0],.int .i64 (e:Int)]),eQ (.agg #[.int .i64 0,.int .i64 0]),eQ (.int .i64 (e:Int)),fun v u=>∃g2,v=ptr g2∧w.heap.size≤g2∧Dv u g2 [.int .i64 0,.int .i64 0]] [] 2 (some 21) (.act 23 (.quiet 24 .done)) (.quiet 21 (.act 23 (.quiet 24 .done))) (by kernel_rfl) (by kernel_rfl) (by kernel_rfl) (by kernel_rfl) (fun k0 h=>by cases h;kernel_rfl) (fun _ _ d _ _ h=>by cases d<;>exact h) (by rfl) (by rfl) ⟨AI _,AI _,AI _,AI _,AI _,AI _,AI _,AI _,AI _,AI _,AI _,AI _,AI _,AI _,AI _,AI _,AI _,AI _,AI _,AI _,AI _,AI _,((fun _ _ _ hb h=>by obtain ⟨g2,e1,h1,hB⟩:=h;exact ⟨g2,e1,h1,hB.below hb⟩)),trivial⟩ trivial (by rfl) ?_ ?_ ?_
   ·refine ⟨?_,?_,?_,?_,?_,?_,?_,?_,?_,?_,?_,?_,?_,?_,?_,?_,?_,?_,?_,?_,?_,?_,?_,trivial⟩
    ·exact XXAxS
    ·exact XXAxS
    ·exact XXAxS
    ·exact XXAxS
    ·exact XXAxS
    ·exact XXAxS
    ·exact XXAxS
    ·exact XXAxS
    ·exact XXAxS
    ·exact XXAxS
    ·exact XXAxS
    ·exact XXAxS
    ·exact XXAxS
    ·exact XXAxS
    ·exact XXAxS
    ·exact XXAxS
    ·exact XXAxS
    ·exact XXAxS
    ·exact XX4gx
    ·exact XXAxS
    ·exact XXAxS
    ·exact XXAxS
    ·exact XXdQp
   ·intro g1 w2 hb hf;have z4:g1 4= _:=hf.at 19;have z24:g1 24= _:=hf.at 20;have z25:g1 25= _:=hf.at 21;have z2:=hf.at 22;clear hf;obtain ⟨g2,e2,hg2,hB2⟩:=z2;simp only [AM,Ab,C7,CA,C9];rw [z4,z24,z25,e2];simp only [DU,DV,BR,BQ];exact XX0H4
   ·intro k0 hk0 g1 w2 hb hf;cases hk0;have z4:g1 4= _:=hf.at 19;have z24:g1 24= _:=hf.at 20;have z2:=hf.at 22;clear hf;obtain ⟨g2,e2,hg2,hB2⟩:=z2;simp only [AM,Ab,C7,CA,C9];rw [z4,z24,e2];simp only [DU,DV,BR,BQ];refine DW (by rfl) (.int .i64 (e:Int)) (fun _ _=>by go_simp) ?_;simp only [Ab,C7,CA,C9];exact XX0H4
  case rest=>
  obtain ⟨g2,rfl,rfl,HB,HG,HG2⟩:=hcut
  have H1:=Bo (H.out.below HB.out);clear HQ;obtain ⟨W0,hW0⟩:∃x,x=wc:=⟨_,rfl⟩;subst hW0;have y0:=HG.out.c 0 _ rfl;have y1:=HG.out.c 1 _ rfl
  have HFA:=Bo (fail_any H1.out e);exact XXiwQ
end code
end Go.Proofs.YtnabkcglnbdfeaaGreatDoor.Par
namespace Go.Proofs.YtnabkcglnbdfeaaGreatDoor.Chk
open Go.RowKit Base Txt
theorem marks_tab:∀k:Fin 256,(lowB (UInt8.ofNat k.val)=48↔UInt8.ofNat k.val=48)∧(lowB (UInt8.ofNat k.val)=120↔(UInt8.ofNat k.val=120∨UInt8.ofNat k.val=88)):=by decide +kernel
theorem low_mark (b:UInt8):(lowB b=48↔b=48)∧(lowB b=120↔(b=120∨b=88)):=by have h:=marks_tab ⟨b.toNat,b.toNat_lt⟩;simpa using h
theorem same_two (X:ByteArray) (h:X.size=2):same X ⟨#[48,120]⟩=true↔(X=⟨#[48,120]⟩∨X=⟨#[48,88]⟩):=by
 obtain ⟨a,b,hab⟩:∃a b,X.data.toList= [a,b]:=by
  rw [←len] at h
  match hx:X.data.toList,h with
  | [a,b],_=>exact ⟨a,b,rfl⟩
 have e:∀c d:UInt8,X=⟨#[c,d]⟩↔(a=c∧b=d):=fun c d=>by
  constructor
  ·intro hX;subst hX;simpa using hab.symm
  ·rintro ⟨rfl,rfl⟩;exact ba_ext (by rw [hab])
 rw [e,e];unfold same;rw [beq_iff_eq,hab];have h1:=low_mark a;have h2:=low_mark b;show [lowB a,lowB b]= [lowB 48,lowB 120]↔_;rw [show lowB 48=48 from by decide +kernel,show lowB 120=120 from by decide +kernel];simp only [List.cons.injEq,and_true];rw [h1.1,h2.2];constructor
 ·rintro ⟨x,y | y⟩
  ·exact .inl ⟨x,y⟩
  ·exact .inr ⟨x,y⟩
 ·rintro (⟨x,y⟩ | ⟨x,y⟩)
  ·exact ⟨x,.inl y⟩
  ·exact ⟨x,.inr y⟩
section code
set_option maxHeartbeats 8000000
set_option maxRecDepth 100000
attribute [local go_sem] Al
theorem XXfC0 {P:Prop} (h:P:=by
 have HT:=Bo (fun w=>rtrim_any C w (by unfold maxLen;omega));have ht:(trim C).size≤C.size:=trim_size _ _
 have HZ:Hid (ba SL=(if b7=true then ba (bare (if b8=true then trim C else C).data.toList) else (if b8=true then trim C else C))):=Bo (by rw [HCS.out];cases b8<;>cases b7<;>rfl)
 generalize ba SL=Z at *;clear HCS;obtain ⟨T,hTz,HC⟩:∃T:ByteArray,T.size≤1000000000∧Hid (T=if b8=true then trim C else C):=by
  cases b8 with
  | true=>exact ⟨trim C,by omega,Bo rfl⟩
  | false=>exact ⟨C,HC0,Bo rfl⟩
 rw [←HC.out] at HZ;have hT8:(b8=true∧trim C=T)∨(b8=false∧C=T):=by
  cases b8 with
  | true=>exact .inl ⟨rfl,HC.out.symm⟩
  | false=>exact .inr ⟨rfl,HC.out.symm⟩
 have HT8:=Bo hT8;clear hT8 HC ht HC0
 go_upto_if 42 with (go_at_call 53;with_reducible refine Cm (H8.out _) ?_)
 go_cut [8] from 43 to 44 (fun v wx=>v=.string T∧wx=w1)
 case first=>
  clear HN hcase' HBX HZ H7 hTz;rcases HT8.out with ⟨rfl,ht⟩ | ⟨rfl,rfl⟩
  ·rw [ht] at HT;clear ht HT8
   go_wp2_with (go_at_call 129;with_reducible refine Cm (HT.out _) ?_);go_meet
   case rel=>exact ⟨rfl,rfl⟩
  ·clear HT8 HT;go_wp2_with fail;go_meet
   case rel=>exact ⟨rfl,rfl⟩
 case rest=>
  obtain ⟨rfl,hw0⟩:=hcut;rw [hw0];clear hw0 HT HT8 H8;have hway:∃bm:Bool,(bm=true→2≤T.size)∧Z=(if bm=true then T.extract 2 T.size else T)∧((b7=false∧bm=false)∨(b7=true∧T.size<2∧bm=false)∨(b7=true∧2≤T.size∧T.extract 0 2=⟨#[48,120]⟩∧bm=true)∨(b7=true∧2≤T.size∧T.extract 0 2=⟨#[48,88]⟩∧bm=true)∨(b7=true∧2≤T.size∧¬T.extract 0 2=⟨#[48,120]⟩∧¬T.extract 0 2=⟨#[48,88]⟩∧bm=false)):=by
   have hz:=HZ.out;have e0:ba T.data.toList=T:=ba_ext rfl;cases b7 with
   | false=>exact ⟨false,by simp,hz,.inl ⟨rfl,rfl⟩⟩
   | true=>
     rw [if_pos rfl] at hz;rcases CW T.size 2 with h2 | h2
     ·refine ⟨false,by simp,?_,.inr (.inl ⟨rfl,h2,rfl⟩)⟩;rw [hz,if_neg (by decide)];unfold bare marked;rw [len,decide_eq_false (by omega),As,if_neg (by decide),e0]
     ·have hx:T.extract 0 2=ba (T.data.toList.take 2):=ba_ext (by rw [Bl];simp [ba])
      have hx2:T.extract 2 T.size=ba (T.data.toList.drop 2):=ba_ext (by rw [Bl,CD (by rw [Cj,len];omega)];rfl);have hsz:(T.extract 0 2).size=2:=by rw [hx,←len];show (T.data.toList.take 2).length=2;rw [Cr,len];omega
      have em:bare T.data.toList=if same (T.extract 0 2) ⟨#[48,120]⟩=true then T.data.toList.drop 2 else T.data.toList:=by unfold bare marked;rw [len,decide_eq_true h2,Az,hx]
      rw [em] at hz;by_cases q1:T.extract 0 2=⟨#[48,120]⟩
      ·rw [if_pos ((same_two _ hsz).2 (.inl q1)),←hx2] at hz;exact ⟨true,fun _=>h2,hz,.inr (.inr (.inl ⟨rfl,h2,q1,rfl⟩))⟩
      ·by_cases q2:T.extract 0 2=⟨#[48,88]⟩
       ·rw [if_pos ((same_two _ hsz).2 (.inr q2)),←hx2] at hz;exact ⟨true,fun _=>h2,hz,.inr (.inr (.inr (.inl ⟨rfl,h2,q2,rfl⟩)))⟩
       ·have hnn:¬same (T.extract 0 2) ⟨#[48,120]⟩=true:=fun h=>((same_two _ hsz).1 h).elim q1 q2;rw [if_neg hnn,e0] at hz;exact ⟨false,by simp,hz,.inr (.inr (.inr (.inr ⟨rfl,h2,q1,q2,rfl⟩)))⟩
  obtain ⟨bm,hbm,hZ,hway⟩:=hway;have HW:=Bo hway;have HBM:=Bo hbm;have HZZ:=Bo hZ;clear hway hbm hZ HZ hTz;go_upto_region 11 with fail
  go_cut [61] from 45 to 61 (fun v wx=>v=.bool bm∧wx=w1)
  case first=>
   clear HN hcase' HBX HZZ HBM;rcases HW.out with ⟨rfl,rfl⟩ | ⟨rfl,h2,rfl⟩ | ⟨rfl,h2,q1,rfl⟩ | ⟨rfl,h2,q1,rfl⟩ | ⟨rfl,h2,q1,q2,rfl⟩
   ·clear HW
    go_wp2_with (go_at_call 53;with_reducible refine Cm (H7.out _) ?_);go_meet
    case rel=>exact ⟨rfl,rfl⟩
   ·clear HW
    have d1:decide ((1:Int)<(T.size:Int))=false:=decide_eq_false (by omega)
    go_wp2_with (go_at_call 53;with_reducible refine Cm (H7.out _) ?_);go_meet
    case rel=>exact ⟨rfl,rfl⟩
   ·clear HW
    have d1:decide ((1:Int)<(T.size:Int))=true:=decide_eq_true (by omega);have d2:(2:Int)≤(T.size:Int):=by omega
    go_wp2_with (go_at_call 53;with_reducible refine Cm (H7.out _) ?_);go_meet
    case rel=>exact ⟨rfl,rfl⟩
   ·clear HW
    have d1:decide ((1:Int)<(T.size:Int))=true:=decide_eq_true (by omega);have d2:(2:Int)≤(T.size:Int):=by omega
    go_wp2_with (go_at_call 53;with_reducible refine Cm (H7.out _) ?_);go_meet
    case rel=>exact ⟨rfl,rfl⟩
   ·clear HW
    have d1:decide ((1:Int)<(T.size:Int))=true:=decide_eq_true (by omega);have d2:(2:Int)≤(T.size:Int):=by omega
    have f3:¬(T.extract 0 2).toList= [48,120]:=fun h=>q1 (ba_ext (by rw [←AW,h]));have f1:((T.extract 0 2).toList == [48,120])=false:=beq_eq_false_iff_ne.2 f3
    have f4:¬(T.extract 0 2).toList= [48,88]:=fun h=>q2 (ba_ext (by rw [←AW,h]))
    go_wp2_with (go_at_call 53;with_reducible refine Cm (H7.out _) ?_);go_meet
    case rel=>first | exact ⟨rfl,rfl⟩ | exact ⟨by rw [beq_eq_false_iff_ne.2 f4],rfl⟩ | exact ⟨by rw [f1,beq_eq_false_iff_ne.2 f4];rfl,rfl⟩
  case rest=>
   obtain ⟨rfl,hw0⟩:=hcut;rw [hw0];clear hw0 HW H7;obtain ⟨⟨q0,q1,q2,q3,q4,q5,q6,q7,q8,q9⟩,hlt,hbk⟩:=HBX.out;clear q0 q1 q2 q4 q5 q6 q7 q8 q9 hlt;have hz:=HZZ.out;cases bm with
   | false=>
     rw [if_neg (by decide)] at hz;rw [hz] at HN;clear hz HZZ HBM;rcases hcase'.out with ⟨rfl,rfl⟩ | ⟨t1,rfl,rfl⟩ | ⟨t1,t2,rfl⟩;all_goals
      go_wp2_with (go_at_call 239;with_reducible refine Cm (HN.out _) ?_);go_ret2;exact ⟨rfl,hbk⟩
   | true=>
     rw [if_pos rfl] at hz;rw [hz] at HN;have h2:=HBM.out rfl;have d2:(2:Int)≤(T.size:Int):=by omega
     clear hz HZZ HBM;rcases hcase'.out with ⟨rfl,rfl⟩ | ⟨t1,rfl,rfl⟩ | ⟨t1,t2,rfl⟩;all_goals
      go_wp2_with (go_at_call 239;with_reducible refine Cm (HN.out _) ?_);go_ret2
      exact ⟨rfl,hbk⟩):P:=h
theorem XXMk8 {P:Prop} (h:P:=by
 go_wp2_with fail;go_roundw
 case rel=>first | exact ⟨k+1,by omega,rfl,rfl,by go_num,rfl⟩ | exact ⟨k+1,by omega,rfl,rfl,by go_num,trivial⟩
 case measure=>simp [intOf];omega):P:=h
theorem rsize_any (s:ByteArray) (p:Nat) (hp:p<4294967296) (x0 x1 x2 x3 x4 x5 x6 x7:Int) (ch od:Bool) (h3:x3≤9223372036854775807) (h4:0≤x4) (w:World) (hs:s.size≤1000000000) :
 Calls EL 217 #[.string s,.int .u32 (p:Nat),Bnd.bnd x0 x1 x2 x3 x4 x5 x6 x7 ch od] w fun e w'=>e=.returned (.tuple #[.int .i64 (sizeV (Ds p 27) (Ds p 28) x4 x3 s.data.toList).1,.int .i64 (sizeV (Ds p 27) (Ds p 28) x4 x3 s.data.toList).2])∧Below w.heap.size w w':=by
 have HBB:=Bo (BB.new (Am w.heap.size w) 29 x0 x1 x2 x3 x4 x5 x6 x7 ch od)
 have H7:=Bo (fun w=>Du p hp 27 w)
 have H8:=Bo (fun w=>Du p hp 28 w)
 have HCUT:=Bo (show∀C:ByteArray,C.size≤1000000000→ba (Tgt.cutAt 59 s.data.toList).1=C→sizeL (Ds p 27) (Ds p 28) s.data.toList=pieceL (Ds p 27) (Ds p 28) C.data.toList from fun C hC e=>by rw [←e];rfl)
 have HEX:=Bo (show∀E:ByteArray,ba (extL s.data.toList)=E→isx x4 (extL s.data.toList)= !(decide (x4<(E.size:Int)) || !Oct.allOf [6] E.data.toList) from fun E e=>by rw [isx_eq _ h4,←e,←len];rfl);have hSL:(ba (sizeL (Ds p 27) (Ds p 28) s.data.toList)).size≤maxLen:=by have h1:=piece_le (Ds p 27) (Ds p 28) (Tgt.cutAt 59 s.data.toList).1;have h2:=(ext_le s.data.toList).2;rw [len] at h2;rw [←len];show (pieceL _ _ _).length≤_;unfold maxLen;omega
 have HN:=Bo (fun w=>Num.rhexN_any x3 h3 (ba (sizeL (Ds p 27) (Ds p 28) s.data.toList)) w hSL);have e1:(ba (sizeL (Ds p 27) (Ds p 28) s.data.toList)).data.toList=sizeL (Ds p 27) (Ds p 28) s.data.toList:=rfl;rw [e1] at HN;clear e1 hSL;unfold sizeV;generalize Num.readOf 16 x3 (sizeL (Ds p 27) (Ds p 28) s.data.toList)=R at *;generalize sizeL (Ds p 27) (Ds p 28) s.data.toList=SL at *;generalize Ds p 27=b7 at *;generalize Ds p 28=b8 at *;obtain ⟨r1,r2⟩:=R;dsimp only at HN;have hcase:(r2=22∧numV (r1,r2)=(0,400))∨((r2==22)=false∧r2=23∧numV (r1,r2)=(0,413))∨((r2==22)=false∧(r2==23)=false∧numV (r1,r2)=(r1,0)):=by exact XXmTI
 generalize numV (r1,r2)=V at *;have hcase':=Bo hcase;clear hcase;obtain ⟨VV,hVV⟩:∃VV,(if isx x4 (extL s.data.toList)=true then V else (0,400))=VV:=⟨_,rfl⟩;rw [hVV];rcases Tgt.cut_cases 59 s.data.toList with hno | ⟨a,r,hl,hna⟩
 ·have hE:=HEX.out ⟨#[]⟩ (by unfold extL;rw [Tgt.cutAt_none 59 _ hno];rfl)
  have HCS:=Bo (HCUT.out s hs (by rw [Tgt.cutAt_none 59 _ hno];exact ba_ext rfl));have hx:isx x4 (extL s.data.toList)=true:=by
   rw [hE]
   have:decide (x4<((⟨#[]⟩:ByteArray).size:Int))=false:=decide_eq_false (by show¬x4<0;omega);rw [this];rfl
  rw [hx,if_pos rfl] at hVV;subst hVV
  have HA:Hid (∀w a,Ints w a 1 [6]→Calls EL 131 #[.string ⟨#[]⟩,.slice a 1 1] w fun e w'=>e=.returned (.bool true)∧∃m,w'=w.drewN m):=Bo fun w a hk=>Oct.rall_any ⟨#[]⟩ a 1 1 [6] w (by decide) hk (by decide);have hb59:Hid (∀k (h:k<s.size),(((s[k]'h).toNat:Int)==59)=false):=Bo fun k h=>by
   have hm:=byte_mem s k h;rw [beq_eq_false_iff_ne];intro e9
   exact hno (by have:s[k]=59:=FD.1 (by have:(s[k].toNat:Int)=59:=e9;show s[k].toNat=59;omega);rw [←this];exact hm)
  have d0:decide (x4<0)=false:=decide_eq_false (by omega);clear hE hx HCUT HEX hno;obtain ⟨C,hC⟩:∃C,C=s:=⟨s,rfl⟩;rw [←hC] at HCS;have HC0:C.size≤1000000000:=by rw [hC];exact hs
  go_enter Tryz.func217,Tryz.ntmps217;go_upto_region 3 with fail
  generalize w.alloc (.cells #[.int .i64 x0,.int .i64 x1,.int .i64 x2,.int .i64 x3,.int .i64 x4,.int .i64 x5,.int .i64 x6,.int .i64 x7,.bool ch,.bool od] 29)=W at *;generalize w.heap.size=g at *
  go_loopw [8,9,10] (fun a b i wr=>∃k:Nat,k≤s.size∧a=.string s∧b=.string ⟨#[]⟩∧i=.int .i64 k∧wr=W) (fun _ _ i _=>s.size-(intOf i).toNat)
  case atStart=>first | exact ⟨0,CY _,rfl,rfl,rfl,rfl⟩ | exact ⟨0,CY _,rfl,trivial,rfl,rfl⟩ |(refine ⟨0,CY _,?_⟩;simp)
  case round=>
   obtain ⟨k,hk,rfl,rfl,rfl,rfl⟩:=hrel;rcases CW k s.size with hlt | hge
   ·have t0:=hb59.out k hlt;have i1:(k:Int)<(s.size:Int):=by omega
    exact XXMk8
   ·obtain rfl:k=s.size:=by omega
    subst hC;obtain ⟨⟨q0,q1,q2,q3,q4,q5,q6,q7,q8,q9⟩,hlt,hbk⟩:=HBB.out;clear q0 q1 q2 q3 q5 q6 q7 q8 q9 hlt hbk
    go_upto_region 9 with (go_at_call 131;(with_reducible refine (HA.out _ _ (Ints.one _ _ rfl _ _)).mono ?_);rintro e w1 ⟨rfl,m,hw⟩
                           have HBX:=Bo ((HBB.out.alloc (.cells #[.int .i64 6] 3)).drew m);rw [←hw] at HBX;clear hw)
    clear HBB q4;exact XXfC0
 ·have hin:∃i:Nat,i<s.size∧a=s.data.toList.take i∧s.data.toList.drop i=59::r:=⟨a.length,by rw [←len,hl];simp,by rw [hl];simp,by rw [hl];simp⟩;obtain ⟨i,hi,ha,hr⟩:=hin
  have hC1:s.extract 0 i=ba a:=ba_ext (by rw [Bl];simp [ba,ha])
  have hE1:s.extract i s.size=ba (59::r):=ba_ext (by rw [Bl,CD (by rw [Cj,len];omega),hr];rfl)
  have hE:=HEX.out (s.extract i s.size) (by unfold extL;rw [hl,Tgt.cutAt_app 59 _ _ hna,hE1];rfl);have hCs:(s.extract 0 i).size≤1000000000:=by rw [hC1,←len];show a.length≤_;rw [ha,Cr];omega
  have HCS:=Bo (HCUT.out (s.extract 0 i) hCs (by rw [hl,Tgt.cutAt_app 59 _ _ hna,hC1]));have hEs:(s.extract i s.size).size≤1000000000:=by rw [hE1,←len];show (59::r).length≤_;rw [←hr,Cj,len];omega
  have hb59:Hid (∀k (h:k<i),(((s[k]'(by omega)).toNat:Int)==59)=false):=Bo fun k h=>by
   rw [beq_eq_false_iff_ne];intro e9;refine hna ?_
   have e8:s[k]'(by omega)=59:=FD.1 (by have:(((s[k]'(by omega)).toNat:Nat):Int)=59:=e9;show (s[k]'(by omega)).toNat=59;omega);rw [ha,←e8];have hk2:k<(s.data.toList.take i).length:=by rw [Cr,len];omega
   have:=Ca hk2;rw [List.getElem_take] at this;exact this
  have hb60:(((s[i]'hi).toNat:Int)==59)=true:=by
   have h9:s.data.toList[i]?=some 59:=by have:=congrArg (fun l=>l[0]?) hr;simpa using this
   have h8:s[i]'hi=59:=by
    have h7:s.data.toList[i]?=some (s[i]'hi):=by rw [BS (by rw [len];exact hi)];rfl
    rw [h7] at h9;exact Dk.inj h9
   rw [h8];rfl
  have c1:(i:Int)≤(s.size:Int):=by omega
  have c2:(0:Int)≤(i:Int):=by omega
  have HA:Hid (∀w a,Ints w a 1 [6]→Calls EL 131 #[.string (s.extract i s.size),.slice a 1 1] w fun e w'=>e=.returned (.bool (Db [6] (s.extract i s.size).data.toList))∧∃m,w'=w.drewN m):=Bo fun w a hk=>Oct.rall_any _ a 1 1 [6] w (by unfold maxLen;omega) hk (by decide);generalize isx x4 (extL s.data.toList)=q at *;clear HCUT HEX hC1 hE1 ha hr hl hna;generalize hCC:s.extract 0 i=C at *;have HC0:=hCs;clear hCs;generalize hEE:s.extract i s.size=E at *;generalize Db [6] E.data.toList=al at *
  have HQ:Hid ((decide (x4<(E.size:Int))=true∧q=false)∨(decide (x4<(E.size:Int))=false∧al=false∧q=false)∨(decide (x4<(E.size:Int))=false∧al=true∧q=true)):=Bo (by rw [hE];cases decide (x4<(E.size:Int))<;>cases al<;>simp)
  have HVV:Hid ((q=false→VV=(0,400))∧(q=true→V=VV)):=Bo ⟨fun h=>by rw [←hVV,h,if_neg (by decide)],fun h=>by rw [←hVV,h,if_pos rfl]⟩;clear hVV;have HCC:=Bo hCC;have HEE:=Bo hEE;clear hE hCC hEE hEs;go_enter Tryz.func217,Tryz.ntmps217;go_upto_region 3 with fail
  generalize w.alloc (.cells #[.int .i64 x0,.int .i64 x1,.int .i64 x2,.int .i64 x3,.int .i64 x4,.int .i64 x5,.int .i64 x6,.int .i64 x7,.bool ch,.bool od] 29)=W at *;generalize w.heap.size=g at *
  go_loopw [8,9,10] (fun a b j wr=>∃k:Nat,k≤i∧a=.string s∧b=.string ⟨#[]⟩∧j=.int .i64 k∧wr=W) (fun _ _ j _=>s.size-(intOf j).toNat)
  case atStart=>first | exact ⟨0,CY _,rfl,rfl,rfl,rfl⟩ | exact ⟨0,CY _,rfl,trivial,rfl,rfl⟩ |(refine ⟨0,CY _,?_⟩;simp)
  case round=>
   obtain ⟨k,hk,rfl,rfl,rfl,rfl⟩:=hrel;rcases CW k i with hlt | hge
   ·have t0:=hb59.out k hlt;have i1:(k:Int)<(s.size:Int):=by omega
    clear hb60;exact XXMk8
   ·obtain rfl:k=i:=by omega
    have i1:(k:Int)<(s.size:Int):=by omega
    go_upto_region 6 with fail
    go_quiet (fail);rename_i nq
    replace HBB:=Bo (HBB.out.drew nq)
    go_upto_region 7 with fail
    rw [HCC.out,HEE.out];generalize wr.drewN nq=W1 at *;obtain ⟨⟨q0,q1,q2,q3,q4,q5,q6,q7,q8,q9⟩,hlt,hbk⟩:=HBB.out;clear q0 q1 q2 q3 q5 q6 q7 q8 q9 hlt hb60 hb59 HCC HEE;rcases HQ.out with ⟨d0,rfl⟩ | ⟨d0,rfl,rfl⟩ | ⟨d0,rfl,rfl⟩
    ·obtain rfl:=HVV.out.1 rfl;clear HVV;go_wp2_with fail;go_ret2;exact ⟨rfl,hbk⟩
    ·obtain rfl:=HVV.out.1 rfl;clear HVV
     go_wp2_with (go_at_call 131;(with_reducible refine (HA.out _ _ (Ints.one _ _ rfl _ _)).mono ?_);rintro e w1 ⟨rfl,m,hw⟩
                  have HBX:=Bo ((HBB.out.alloc (.cells #[.int .i64 6] 3)).drew m);rw [←hw] at HBX;clear hw)
     go_ret2;exact ⟨rfl,HBX.out.b⟩
    ·obtain rfl:=HVV.out.2 rfl;clear HVV
     go_upto_region 9 with (go_at_call 131;(with_reducible refine (HA.out _ _ (Ints.one _ _ rfl _ _)).mono ?_);rintro e w1 ⟨rfl,m,hw⟩
                            have HBX:=Bo ((HBB.out.alloc (.cells #[.int .i64 6] 3)).drew m);rw [←hw] at HBX;clear hw)
     clear HBB q4 HQ hbk;exact XXfC0
end code
end Go.Proofs.YtnabkcglnbdfeaaGreatDoor.Chk
namespace Go.Proofs.YtnabkcglnbdfeaaGreatDoor.Par
open Go.RowKit Base Txt Mem
section code
set_option maxHeartbeats 4000000
set_option maxRecDepth 20000
attribute [local go_sem] Al
variable {w:World} {B:Zone} {g q:Nat} {v f bd t o:Value} {p:Nat} {b:Bd} {s:S}
theorem XXoMs {P:Prop} (h:P:=by refine AJ rfl (fun ev w1 hR hb hh=>?_);have e1:=hR.old 1 rfl;have e0:=hR.old 0 rfl;simp only [Af,BY,BQ,BR,Di] at e1 e0;have q0:=(HQ.out.below hb).c 0 _ rfl;have q1:=(HQ.out.below hb).c 1 _ rfl;have q2:=(HQ.out.below hb).c 2 _ rfl;have q3:=(HQ.out.below hb).c 3 _ rfl;have q4:=(HQ.out.below hb).c 4 _ rfl;have q5:=(HQ.out.below hb).c 5 _ rfl;have q6:=(HQ.out.below hb).c 6 _ rfl;have q7:=(HQ.out.below hb).c 7 _ rfl;have q8:=(HQ.out.below hb).c 8 _ rfl;have q9:=(HQ.out.below hb).c 9 _ rfl;have q10:=(HQ.out.below hb).c 10 _ rfl;exact Each.std):P:=h
theorem XXS3w {P:Prop} (h:P:=by
 refine AJ rfl (fun ev w1 hR hb hh=>?_);have e7:ev (.tmp 7)= _:=hh.at 0;have e11:ev (.tmp 11)= _:=hh.at 1;have e15:ev (.tmp 15)= _:=hh.at 2;clear hh;have ef:=hR.func
 refine AE 217 #[.string x,.int .u32 (p:Int),.agg #[.int .i64 b.x0,.int .i64 b.x1,.int .i64 b.x2,.int .i64 b.x3,.int .i64 b.x4,.int .i64 b.x5,.int .i64 b.x6,.int .i64 b.x7,.bool b.ch,.bool b.od]] (by go_simp) ((HZ.out w1).mono ?_);rintro r w2 ⟨rfl,hb2⟩
 exact ⟨_,rfl,hb2,rfl⟩):P:=h
theorem XX7Qy {P:Prop} (h:P:=by
 refine ⟨?_,?_,?_,?_,?_,?_,?_,?_,?_,?_,?_,?_,?_,?_,?_,trivial⟩
 all_goals (refine AJ rfl (fun ev w1 hR hb hh=>?_);have e4:=hR.old 4 rfl;have e0:=hR.old 0 rfl;simp only [Af,BY,BQ,BR,Di] at e4 e0;have q4:=(HQ.out.below hb).c 4 _ rfl;have q18:=(HQ.out.below hb).c 18 _ rfl;have d1:=HD.out;have d2:=HT.out;exact Each.std)):P:=h
theorem chunk_any (hp:p<4294967296) (h3:16≤b.x3∧b.x3≤1048576) (h4:0≤b.x4) (x:ByteArray) (hx:x.size≤5000) (h:PR w B g q v f bd t o p b s) (hbl:s.r.body.length≤2000000):Calls EL 193 #[ptr g,.string x] w fun r w'=>
 r=.returned (.tuple #[])∧∃q1 v1 f1 bd1 t1,PR w' B g q1 v1 f1 bd1 t1 o p b (s.chunk p b x.data.toList)∧Step (blks g q v f bd t o) (blks g q1 v1 f1 bd1 t1 o) w w':=by
 have H:=Bo h
 have HQ:=Bo ((h.drew 1).bk)
 have hz:=fun w=>Chk.rsize_any x p hp b.x0 b.x1 b.x2 b.x3 b.x4 b.x5 b.x6 b.x7 b.ch b.od (by omega) h4 w (by omega);have HF:=chunk_facts (Ds p 27) (Ds p 28) b.x4 b.x3 x.data.toList;obtain ⟨⟨z1,z2⟩,hZ⟩:∃Z,Chk.sizeV (Ds p 27) (Ds p 28) b.x4 b.x3 x.data.toList=Z:=⟨_,rfl⟩;rw [hZ] at HF;clear h hx;rcases HF with ⟨e2,h0,h1⟩ | e2 | e2
 ·have e2:z2=0:=e2;subst e2;obtain ⟨n,rfl⟩:∃n:Nat,z1=(n:Int):=⟨z1.toNat,by have:0≤z1:=h0;omega⟩;have h1:(n:Int)≤max b.x3 0:=h1
  have HZ:=Bo (show∀w,Calls EL 217 #[.string x,.int .u32 (p:Int),.agg #[.int .i64 b.x0,.int .i64 b.x1,.int .i64 b.x2,.int .i64 b.x3,.int .i64 b.x4,.int .i64 b.x5,.int .i64 b.x6,.int .i64 b.x7,.bool b.ch,.bool b.od]] w fun e w'=>e=.returned (.tuple #[.int .i64 (n:Int),.int .i64 0])∧Below w.heap.size w w' from fun w=>by have:=hz w;rw [hZ] at this;exact this);clear hz;rcases CO n with hn | hn
  ·subst hn;have e:s.chunk p b x.data.toList={s with st:=6,lines:=0,rd:=nl p b.x0}:=by unfold S.chunk;rw [hZ];rfl
   rw [e]
   have HZ:=Bo (show∀w,Calls EL 217 #[.string x,.int .u32 (p:Int),.agg #[.int .i64 b.x0,.int .i64 b.x1,.int .i64 b.x2,.int .i64 b.x3,.int .i64 b.x4,.int .i64 b.x5,.int .i64 b.x6,.int .i64 b.x7,.bool b.ch,.bool b.od]] w fun e w'=>e=.returned (.tuple #[.int .i64 0,.int .i64 0])∧Below w.heap.size w w' from fun w=>HZ.out w);clear e hZ h0 h1;go_enter Tryz.func193,Tryz.ntmps193;go_upto_region 0 with fail
   refine AO 15 [7,8,9,10,11,12,13,14,15,16,6,17,18,4,5] [eQ (.string x),eP g 0,eP g 0,eP g 0,eQ (.int .u32 (p:Int)),eP g 0,eP g 0,eP g 1,eQ (.agg #[.int .i64 b.x0,.int .i64 b.x1,.int .i64 b.x2,.int .i64 b.x3,.int .i64 b.x4,.int .i64 b.x5,.int .i64 b.x6,.int .i64 b.x7,.bool b.ch,.bool b.od]),eQ (.tuple #[.int .i64 0,.int .i64 0]),eQ (.tuple #[.int .i64 0,.int .i64 0]),eQ (.int .i64 0),eQ (.int .i64 0),eQ (.int .i64 0),eQ (.int .i64 0)] (by kernel_rfl) (by kernel_rfl) (by kernel_rfl) (by kernel_rfl) (fun _ _ d _ _ h=>by cases d<;>exact h) (by rfl) (by rfl) (by repeat first | exact trivial | refine ⟨AI _,?_⟩) ?_ ?_
   ·refine ⟨?_,?_,?_,?_,?_,?_,?_,?_,?_,?_,?_,?_,?_,?_,?_,trivial⟩
    ·exact XXoMs
    ·exact XXoMs
    ·exact XXoMs
    ·exact XXoMs
    ·exact XXoMs
    ·exact XXoMs
    ·exact XXoMs
    ·exact XXoMs
    ·exact XXoMs
    ·exact XXS3w
    ·exact XXoMs
    ·exact XXoMs
    ·exact XXoMs
    ·exact XXoMs
    ·exact XXoMs
   intro g1 w2 hb hf;have z4:g1 4= _:=hf.at 13;have z5:g1 5= _:=hf.at 14;clear hf;simp only [AM,Ab,C7,CA,C9];rw [z4];rw [z5];have H1:=Bo (H.out.below hb);have HB:=Bo hb;clear HQ hb
   have H2:=Bo ((H1.out.put 11 (.int .i64 6) {s with st:=6} rfl rfl rfl rfl rfl rfl).put 20 (.int .i64 0) {s with st:=6,lines:=0} rfl rfl rfl rfl rfl rfl)
   have HS2:=Bo ((DD HB.out (L:=blks g q v f bd t o)).trans ((DF g 11 (.int .i64 6) (by simp)).trans (DF g 20 (.int .i64 0) (by simp))));have c11:=H1.out.cs.c11;have c20:=H1.out.cs.c20;have z11:=H1.out.marks 11;have z20:=H1.out.marks 20;go_upto_region 6 with fail
   generalize (w2.setCell ⟨g,11,none⟩ (.int .i64 6)).setCell ⟨g,20,none⟩ (.int .i64 0)=W1 at *;clear c11 c20 z11 z20 H1 HB;obtain ⟨S1,hS1⟩:∃S1:S,{s with st:=6,lines:=0}=S1:=⟨_,rfl⟩;have HS1:=Bo hS1;rw [hS1] at H2;clear hS1
   have HQ:=Bo ((H2.out.drew 1).bk)
   have HBW:=Bo (show B≤(W1.drewN 1).heap.size from CT H2.out.own.ge (CP (H2.out.drew 1).own.lt));refine Each.region 11 [41,42,43,44,45,46,47,48,49,50,51] [eP g 0,eP g 0,eP g 0,eP g 0,eQ (.int .u32 (p:Int)),eP g 0,eP g 0,eP g 1,eP g 1,eQ (.int .i64 b.x0),fun v w=>∃q1,v=ptr q1∧W1.heap.size≤q1∧Ln.Rr w B q1 nil p (nl p (b.x0))] (.quiet 11 (.quiet 12 (.act 13 .done))) (by kernel_rfl) (by kernel_rfl) (by kernel_rfl) (by kernel_rfl) (fun _ _ d _ _ h=>by cases d<;>exact h) (by rfl) (by rfl) ⟨AI _,AI _,AI _,AI _,AI _,AI _,AI _,AI _,AI _,AI _,((fun _ _ _ hb h=>by obtain ⟨q1,e1,h1,h2⟩:=h;exact ⟨q1,e1,h1,rr_below h2 hb⟩)),trivial⟩ ?_ ?_
   ·refine ⟨?_,?_,?_,?_,?_,?_,?_,?_,?_,?_,?_,trivial⟩
    ·exact XXSdZ
    ·exact XXSdZ
    ·exact XXSdZ
    ·exact XXSdZ
    ·exact XXSdZ
    ·exact XXSdZ
    ·exact XXSdZ
    ·exact XXSdZ
    ·exact XXSdZ
    ·exact XXSdZ
    ·refine AJ rfl (fun ev w1 hR hb hh=>?_);have e45:ev (.tmp 45)= _:=hh.at 0;have e50:ev (.tmp 50)= _:=hh.at 1;exact XXHuz
   intro g1 w2 hb hf;have z41:g1 41= _:=hf.at 0;have z51:=hf.at 10;clear hf;obtain ⟨q1,e1,hq1,hr1⟩:=z51;simp only [AM,Ab,C7,CA,C9];rw [e1,z41];simp only [DU,DV,BR,BQ];refine DW (by rfl) (ptr g) (fun _ _=>by go_simp) ?_;simp only [Ab,C7,CA,C9];refine DW (by rfl) (.pointer (some ⟨g,12,none⟩)) (fun _ _=>by go_simp) ?_;simp only [Ab,C7,CA,C9];have c12:=(H2.out.below hb).cs.c12;have z12:=(H2.out.below hb).marks 12
   refine DS (by rfl) (fun K hK=>?_);go_simp;refine hK _ _ trivial ?_;clear hK K;refine DT ?_;have HL:=H2.out.line hb hr1 hq1
   have SL:=(Step.line (g:=g) (q:=q) (v:=v) (f:=f) (bd:=bd) (t:=t) (o:=o) hb hq1).trans (DF g 12 (ptr q1) (by simp));clear HQ HBW hr1 hq1 c12 z12;rw [←HS1.out] at HL;go_wp2;go_end0;exact ⟨rfl,q1,_,_,_,_,HL,HS2.out.trans SL⟩
  ·obtain ⟨bb,cb,eb, -⟩:=CJ H.out.own.D;subst eb
   have HD:=Bo (Base.wrap_in (b.x3-(s.r.body.length:Int)) (by omega) (by omega));have tz:¬(n:Int)=0:=by omega
   have tz':((n:Int)==0)=false:=beq_eq_false_iff_ne.2 tz
   by_cases hov:b.x3-(s.r.body.length:Int)<(n:Int)
   ·have e:s.chunk p b x.data.toList=s.fail 413:=by
     unfold S.chunk;exact XX7js
    rw [e];have HT:=Bo hov;clear e hZ h0 h1 hn;go_enter Tryz.func193,Tryz.ntmps193;go_upto_region 0 with fail
    refine AO 15 [7,8,9,10,11,12,13,14,15,16,6,17,18,4,5] [eQ (.string x),eP g 0,eP g 0,eP g 0,eQ (.int .u32 (p:Int)),eP g 0,eP g 0,eP g 1,eQ (.agg #[.int .i64 b.x0,.int .i64 b.x1,.int .i64 b.x2,.int .i64 b.x3,.int .i64 b.x4,.int .i64 b.x5,.int .i64 b.x6,.int .i64 b.x7,.bool b.ch,.bool b.od]),eQ (.tuple #[.int .i64 (n:Int),.int .i64 0]),eQ (.tuple #[.int .i64 (n:Int),.int .i64 0]),eQ (.int .i64 (n:Int)),eQ (.int .i64 0),eQ (.int .i64 (n:Int)),eQ (.int .i64 0)] (by kernel_rfl) (by kernel_rfl) (by kernel_rfl) (by kernel_rfl) (fun _ _ d _ _ h=>by cases d<;>exact h) (by rfl) (by rfl) (by repeat first | exact trivial | refine ⟨AI _,?_⟩) ?_ ?_
    ·refine ⟨?_,?_,?_,?_,?_,?_,?_,?_,?_,?_,?_,?_,?_,?_,?_,trivial⟩
     ·exact XXoMs
     ·exact XXoMs
     ·exact XXoMs
     ·exact XXoMs
     ·exact XXoMs
     ·exact XXoMs
     ·exact XXoMs
     ·exact XXoMs
     ·exact XXoMs
     ·exact XXS3w
     ·exact XXoMs
     ·exact XXoMs
     ·exact XXoMs
     ·exact XXoMs
     ·exact XXoMs
    intro g1 w2 hb hf;have z4:g1 4= _:=hf.at 13;have z5:g1 5= _:=hf.at 14;clear hf;simp only [AM,Ab,C7,CA,C9];rw [z4];rw [z5];have H1:=Bo (H.out.below hb);have HB:=Bo hb;clear HQ hb;go_upto_region 7 with fail
    have HQ:=Bo ((H1.out.drew 1).bk);refine AO 15 [55,56,57,58,59,60,61,62,63,64,65,66,67,68,54] [eQ (.int .i64 ((n:Nat):Int)),eP g 0,eP g 0,eP g 1,eP g 4,eQ (.int .i64 b.x3),eP g 0,eP g 0,eP g 13,eP g 18,eQ (.slice bb s.r.body.length cb),eQ (.int .i64 ((s.r.body.length:Nat):Int)),eQ (.int .i64 (b.x3-(s.r.body.length:Int))),eQ (.bool true),eQ (.bool true)] (by kernel_rfl) (by kernel_rfl) (by kernel_rfl) (by kernel_rfl) (fun _ _ d _ _ h=>by cases d<;>exact h) (by rfl) (by rfl) (by repeat first | exact trivial | refine ⟨AI _,?_⟩) ?_ ?_
    ·exact XX7Qy
    intro g1 w3 hb hf;have z54:g1 54= _:=hf.at 14;clear hf;simp only [AM,Ab,C7,CA,C9];rw [z54]
    have H2:=Bo (H1.out.below hb);have HS2:=Bo ((DD HB.out (L:=blks g q v f (.slice bb s.r.body.length cb) t o)).trans (DD hb));clear H1 HB hb HQ
    have HFA:=Bo (fail_at H2.out 413 413 rfl)
    go_wp2_with (go_at_call 118;with_reducible refine HFA.out.mono ?_;rintro r w4 ⟨rfl,hP,hS⟩);go_end0;exact ⟨rfl,_,_,_,_,_,hP,HS2.out.trans hS⟩
   ·have e:s.chunk p b x.data.toList={s with st:=4,left:=n}:=by
     unfold S.chunk;rw [hZ];show (if (0:Int)≠0 then _ else if (n:Int)=0 then _ else if b.x3-(s.r.body.length:Int)<(n:Int) then _ else ({s with st:=4,left:=(n:Int).toNat}:S))= _;rw [if_neg (by decide),if_neg tz,if_neg hov,Int.toNat_natCast]
    rw [e];have HT:=Bo hov;clear e hZ h0 h1 hn;go_enter Tryz.func193,Tryz.ntmps193;go_upto_region 0 with fail
    refine AO 15 [7,8,9,10,11,12,13,14,15,16,6,17,18,4,5] [eQ (.string x),eP g 0,eP g 0,eP g 0,eQ (.int .u32 (p:Int)),eP g 0,eP g 0,eP g 1,eQ (.agg #[.int .i64 b.x0,.int .i64 b.x1,.int .i64 b.x2,.int .i64 b.x3,.int .i64 b.x4,.int .i64 b.x5,.int .i64 b.x6,.int .i64 b.x7,.bool b.ch,.bool b.od]),eQ (.tuple #[.int .i64 (n:Int),.int .i64 0]),eQ (.tuple #[.int .i64 (n:Int),.int .i64 0]),eQ (.int .i64 (n:Int)),eQ (.int .i64 0),eQ (.int .i64 (n:Int)),eQ (.int .i64 0)] (by kernel_rfl) (by kernel_rfl) (by kernel_rfl) (by kernel_rfl) (fun _ _ d _ _ h=>by cases d<;>exact h) (by rfl) (by rfl) (by repeat first | exact trivial | refine ⟨AI _,?_⟩) ?_ ?_
    ·refine ⟨?_,?_,?_,?_,?_,?_,?_,?_,?_,?_,?_,?_,?_,?_,?_,trivial⟩
     ·exact XXoMs
     ·exact XXoMs
     ·exact XXoMs
     ·exact XXoMs
     ·exact XXoMs
     ·exact XXoMs
     ·exact XXoMs
     ·exact XXoMs
     ·exact XXoMs
     ·exact XXS3w
     ·exact XXoMs
     ·exact XXoMs
     ·exact XXoMs
     ·exact XXoMs
     ·exact XXoMs
    intro g1 w2 hb hf;have z4:g1 4= _:=hf.at 13;have z5:g1 5= _:=hf.at 14;clear hf;simp only [AM,Ab,C7,CA,C9];rw [z4];rw [z5];have H1:=Bo (H.out.below hb);have HB:=Bo hb;clear HQ hb;go_upto_region 7 with fail
    have HQ:=Bo ((H1.out.drew 1).bk);refine AO 15 [55,56,57,58,59,60,61,62,63,64,65,66,67,68,54] [eQ (.int .i64 ((n:Nat):Int)),eP g 0,eP g 0,eP g 1,eP g 4,eQ (.int .i64 b.x3),eP g 0,eP g 0,eP g 13,eP g 18,eQ (.slice bb s.r.body.length cb),eQ (.int .i64 ((s.r.body.length:Nat):Int)),eQ (.int .i64 (b.x3-(s.r.body.length:Int))),eQ (.bool false),eQ (.bool false)] (by kernel_rfl) (by kernel_rfl) (by kernel_rfl) (by kernel_rfl) (fun _ _ d _ _ h=>by cases d<;>exact h) (by rfl) (by rfl) (by repeat first | exact trivial | refine ⟨AI _,?_⟩) ?_ ?_
    ·exact XX7Qy
    intro g1 w3 hb hf;have z54:g1 54= _:=hf.at 14;clear hf;simp only [AM,Ab,C7,CA,C9];rw [z54]
    have H2:=Bo (H1.out.below hb);have HS2:=Bo ((DD HB.out (L:=blks g q v f (.slice bb s.r.body.length cb) t o)).trans (DD hb));clear H1 HB hb HQ
    have H3:=Bo ((H2.out.put 11 (.int .i64 4) {s with st:=4} rfl rfl rfl rfl rfl rfl).put 22 (.int .i64 (n:Int)) {s with st:=4,left:=n} rfl rfl rfl rfl rfl rfl)
    have HS3:=Bo (HS2.out.trans ((DF g 11 (.int .i64 4) (by simp)).trans (DF g 22 (.int .i64 (n:Int)) (by simp))));have c11:=H2.out.cs.c11;have c22:=H2.out.cs.c22;have z11:=H2.out.marks 11;have z22:=H2.out.marks 22;go_wp2;go_end0;exact ⟨rfl,_,_,_,_,_,H3.out,HS3.out⟩
 ·have e2:z2=400:=e2;subst e2
  have HZ:=Bo (show∀w,Calls EL 217 #[.string x,.int .u32 (p:Int),.agg #[.int .i64 b.x0,.int .i64 b.x1,.int .i64 b.x2,.int .i64 b.x3,.int .i64 b.x4,.int .i64 b.x5,.int .i64 b.x6,.int .i64 b.x7,.bool b.ch,.bool b.od]] w fun e w'=>e=.returned (.tuple #[.int .i64 z1,.int .i64 400])∧Below w.heap.size w w' from fun w=>by have:=hz w;rw [hZ] at this;exact this);have e:s.chunk p b x.data.toList=s.fail 400:=by unfold S.chunk;rw [hZ];rfl
  rw [e];clear hz hZ e;go_enter Tryz.func193,Tryz.ntmps193;go_upto_region 0 with fail
  refine AO 15 [7,8,9,10,11,12,13,14,15,16,6,17,18,4,5] [eQ (.string x),eP g 0,eP g 0,eP g 0,eQ (.int .u32 (p:Int)),eP g 0,eP g 0,eP g 1,eQ (.agg #[.int .i64 b.x0,.int .i64 b.x1,.int .i64 b.x2,.int .i64 b.x3,.int .i64 b.x4,.int .i64 b.x5,.int .i64 b.x6,.int .i64 b.x7,.bool b.ch,.bool b.od]),eQ (.tuple #[.int .i64 z1,.int .i64 400]),eQ (.tuple #[.int .i64 z1,.int .i64 400]),eQ (.int .i64 z1),eQ (.int .i64 400),eQ (.int .i64 z1),eQ (.int .i64 400)] (by kernel_rfl) (by kernel_rfl) (by kernel_rfl) (by kernel_rfl) (fun _ _ d _ _ h=>by cases d<;>exact h) (by rfl) (by rfl) (by repeat first | exact trivial | refine ⟨AI _,?_⟩) ?_ ?_
  ·refine ⟨?_,?_,?_,?_,?_,?_,?_,?_,?_,?_,?_,?_,?_,?_,?_,trivial⟩
   ·exact XXoMs
   ·exact XXoMs
   ·exact XXoMs
   ·exact XXoMs
   ·exact XXoMs
   ·exact XXoMs
   ·exact XXoMs
   ·exact XXoMs
   ·exact XXoMs
   ·exact XXS3w
   ·exact XXoMs
   ·exact XXoMs
   ·exact XXoMs
   ·exact XXoMs
   ·exact XXoMs
  intro g1 w2 hb hf;have z4:g1 4= _:=hf.at 13;have z5:g1 5= _:=hf.at 14;clear hf;simp only [AM,Ab,C7,CA,C9];rw [z4];rw [z5];have H1:=Bo (H.out.below hb);have HB:=Bo hb;clear HQ hb
  have HFA:=Bo (fail_at H1.out 400 400 rfl);exact XXiwQ
 ·have e2:z2=413:=e2;subst e2
  have HZ:=Bo (show∀w,Calls EL 217 #[.string x,.int .u32 (p:Int),.agg #[.int .i64 b.x0,.int .i64 b.x1,.int .i64 b.x2,.int .i64 b.x3,.int .i64 b.x4,.int .i64 b.x5,.int .i64 b.x6,.int .i64 b.x7,.bool b.ch,.bool b.od]] w fun e w'=>e=.returned (.tuple #[.int .i64 z1,.int .i64 413])∧Below w.heap.size w w' from fun w=>by have:=hz w;rw [hZ] at this;exact this);have e:s.chunk p b x.data.toList=s.fail 413:=by unfold S.chunk;rw [hZ];rfl
  rw [e];clear hz hZ e;go_enter Tryz.func193,Tryz.ntmps193;go_upto_region 0 with fail
  refine AO 15 [7,8,9,10,11,12,13,14,15,16,6,17,18,4,5] [eQ (.string x),eP g 0,eP g 0,eP g 0,eQ (.int .u32 (p:Int)),eP g 0,eP g 0,eP g 1,eQ (.agg #[.int .i64 b.x0,.int .i64 b.x1,.int .i64 b.x2,.int .i64 b.x3,.int .i64 b.x4,.int .i64 b.x5,.int .i64 b.x6,.int .i64 b.x7,.bool b.ch,.bool b.od]),eQ (.tuple #[.int .i64 z1,.int .i64 413]),eQ (.tuple #[.int .i64 z1,.int .i64 413]),eQ (.int .i64 z1),eQ (.int .i64 413),eQ (.int .i64 z1),eQ (.int .i64 413)] (by kernel_rfl) (by kernel_rfl) (by kernel_rfl) (by kernel_rfl) (fun _ _ d _ _ h=>by cases d<;>exact h) (by rfl) (by rfl) (by repeat first | exact trivial | refine ⟨AI _,?_⟩) ?_ ?_
  ·refine ⟨?_,?_,?_,?_,?_,?_,?_,?_,?_,?_,?_,?_,?_,?_,?_,trivial⟩
   ·exact XXoMs
   ·exact XXoMs
   ·exact XXoMs
   ·exact XXoMs
   ·exact XXoMs
   ·exact XXoMs
   ·exact XXoMs
   ·exact XXoMs
   ·exact XXoMs
   ·exact XXS3w
   ·exact XXoMs
   ·exact XXoMs
   ·exact XXoMs
   ·exact XXoMs
   ·exact XXoMs
  intro g1 w2 hb hf;have z4:g1 4= _:=hf.at 13;have z5:g1 5= _:=hf.at 14;clear hf;simp only [AM,Ab,C7,CA,C9];rw [z4];rw [z5];have H1:=Bo (H.out.below hb);have HB:=Bo hb;clear HQ hb
  have HFA:=Bo (fail_at H1.out 413 413 rfl);exact XXiwQ
end code
end Go.Proofs.YtnabkcglnbdfeaaGreatDoor.Par
