import Derived.Test.YtnabkcglnbdfeaaGreatDoorVrg
set_option linter.unusedSimpArgs false
open Array renaming getD_eq_getD_getElem?→Af
open Bool renaming and_eq_true→An,eq_iff_iff→Ar,false_and→As,or_eq_true→Ax,true_and→Az
open Go.Act renaming put→Ab
open Go.Lib renaming hid→Bo
open Go.Proofs.Tryz renaming prog→EL,underlying22→Fm
open Go.Proofs.YtnabkcglnbdfeaaGreatDoor.Base renaming below_drewN→Aj,below_step→Ak,some_undef→Al
open Go.Proofs.YtnabkcglnbdfeaaGreatDoor.Each renaming fine→AJ,putg→AM,region_all→AO
open Go.Proofs.YtnabkcglnbdfeaaGreatDoor.Each.Goes renaming enter→AE
open Go.Proofs.YtnabkcglnbdfeaaGreatDoor.Each.Lasts renaming eq→AI
open Go.Proofs.YtnabkcglnbdfeaaGreatDoor.Ln renaming own_slice→CJ,row_frozen→CL
open Go.Proofs.YtnabkcglnbdfeaaGreatDoor.Mem.Keeps renaming grown→Bc
open Go.Proofs.YtnabkcglnbdfeaaGreatDoor.Oct renaming allOf→Db
open Go.Proofs.YtnabkcglnbdfeaaGreatDoor.Par.Step renaming of_below→DD,set→DF
open Go.Proofs.YtnabkcglnbdfeaaGreatDoor.Qk renaming has→Ds,rhas_any→Du
open Go.Proofs.YtnabkcglnbdfeaaGreatDoor.Rec renaming R→Dx,byteV→Dy,wraps→Dz
open Go.Proofs.YtnabkcglnbdfeaaGreatDoor.Rec.Bk renaming new→Dw
open Go.Proofs.YtnabkcglnbdfeaaGreatDoor.Tgt renaming parse→DP
open Go.Proofs.YtnabkcglnbdfeaaGreatDoor.Tree renaming change→DS,done→DT,grow→DU,put1→DV,quiet→DW
open Go.RowKit.Below renaming refl→Am
open List renaming drop_eq_getElem_cons→BH,getElem?_cons_succ→BQ,getElem?_cons_zero→BR,getElem?_eq_getElem→BS,getElem?_toArray→BY,length_append→Ch,length_take→Cr,mem_singleton→C1,setIfInBounds_toArray→C7,set_cons_succ→C9,set_cons_zero→CA
open Nat renaming eq_zero_or_pos→CO,le_of_lt→CP,le_refl→CQ,le_trans→CT,lt_of_lt_of_le→CV,lt_or_ge→CW,zero_add→CX,zero_le→CY
open Option renaming getD_some→Di
open UInt8 renaming toNat_inj→FD
namespace Go.Proofs.YtnabkcglnbdfeaaGreatDoor.Rq
open Go.RowKit Base Txt
theorem pair_info:(EL.info? 235).map (fun i=>(i.zero,i.size,i.bytes))=some (some (.agg #[.int .i64 0,.int .i64 0]),2,16):=by kernel_rfl
section code
set_option maxHeartbeats 1000000
attribute [local go_sem] Al
set_option maxRecDepth 10000 in
theorem rbytes_any (t:ByteArray) (p:Nat) (hp:p<4294967296) (w:World) (h0:0<t.size) (ht:t.size≤900000000):Calls EL 211 #[.string t,.int .u32 (p:Nat)] w fun e w'=>
 e=.returned (.bool (tgtB (clOf p) t.data.toList))∧w'=w:=by
 have H7:=Bo (fun w=>Du p hp 7 w)
 have H8:=Bo (fun w=>Du p hp 8 w);have hlets:∀x,letsT (clOf p) x=(Oct.visible (x.toNat:Int)|| (Ds p 7&&Oct.blank (x.toNat:Int)||Ds p 8&&Oct.control (x.toNat:Int))):=fun _=>rfl;have hok:tgtB (clOf p) t.data.toList=t.data.toList.all (letsT (clOf p)):=rfl;have t0:=first_no t h0;rw [hok];clear hok;generalize hq:letsT (clOf p)=q at *;clear hq;have HL:=Bo hlets;clear hlets;generalize Ds p 7=sp at *;generalize Ds p 8=co at *;cases sp<;>cases co;all_goals
  go_enter Tryz.func211,Tryz.ntmps211;go_upto_region 2 with fail
  go_loopw [5] (fun i wr=>∃k:Nat,k≤t.size∧i=.int .i64 k∧wr=w∧Hid ((t.data.toList.take k).all q=true)) (fun i _=>t.size-(intOf i).toNat)
  case atStart=>exact ⟨0,CY _,rfl,rfl,Bo rfl⟩
  case round=>
   obtain ⟨k,hk,rfl,hwr,hpre⟩:=hrel;subst hwr;rcases CW k t.size with hlt | hge
   ·have i1:(k:Int)<(t.size:Int):=by omega
    have HQ:=Bo (HL.out (t[k]))
    have HS:=Bo (all_take q t.data.toList k (by rw [len];exact hlt) hpre.out)
    have HN:=Bo (all_not q t.data.toList k (by rw [len];exact hlt));have hgt:t.data.toList[k]'(by rw [len];exact hlt)=t[k]:=rfl;rw [hgt] at HS HN;clear hgt;obtain ⟨b,hb⟩:∃b,t[k]=b:=⟨_,rfl⟩;have hn:∀hh,t[k]'hh=b:=fun _=>hb;rw [hb] at HQ HS HN;clear hb
    have HV:=Bo (fun w=>Oct.rvisible_any (b.toNat:Int) w)
    have HB:=Bo (fun w=>Oct.rblank_any (b.toNat:Int) w)
    have HC:=Bo (fun w=>Oct.rcontrol_any (b.toNat:Int) w);generalize Oct.visible (b.toNat:Int)=v at *;generalize Oct.blank (b.toNat:Int)=bk at *;generalize Oct.control (b.toNat:Int)=ct at *;cases v
    ·cases bk<;>cases ct;all_goals
      go_wp2_with (first
       |(go_at_call 200;with_reducible refine Cm (HV.out _) ?_)
       |(go_at_call 130;with_reducible refine Cm (HB.out _) ?_)
       |(go_at_call 232;with_reducible refine Cm (HC.out _) ?_)
       |(go_at_call 53;with_reducible refine Cm (H7.out _) ?_)
       |(go_at_call 53;with_reducible refine Cm (H8.out _) ?_))
      first
       |(go_ret;exact ⟨by rw [HN.out (by rw [HQ.out];rfl)];rfl,rfl⟩)
       |(go_roundw
         case rel=>exact ⟨k+1,by omega,by go_num,by first | rfl | trivial,Bo (HS.out (by rw [HQ.out];rfl))⟩
         case measure=>simp [intOf];omega)
    ·go_wp2_with (go_at_call 200;with_reducible refine Cm (HV.out _) ?_);exact XXqnM
   ·obtain rfl:k=t.size:=by omega
    have hall:=hpre.out;rw [take_all t _ (CQ _)] at hall;have HALL:=Bo hall;clear hpre hall HL;go_wp2_with fail;go_ret;rw [HALL.out];exact ⟨by first | rfl | simp,rfl⟩
theorem rversion_any (s:ByteArray) (p:Nat) (hp:p<4294967296) (w:World) (h0:0<s.size):Calls EL 213 #[.string s,.int .u32 (p:Nat)] w fun e w'=>
 (∃k:Nat,e=.returned (.tuple #[.int .i64 (k:Int),.bool (verL (clOf p) s.data.toList).isSome])∧∀j,verL (clOf p) s.data.toList=some j→k=j)∧Below w.heap.size w w':=by
 have hne:s.data.toList≠ []:=fun h=>by
  have:s.size=0:=by rw [←len,h];rfl
  omega
 have ev:verL (clOf p) s.data.toList=if knownV (clOf p) s.data.toList=true then (if s.data.toList.getD 7 0=48 then some 0 else if (s.data.toList.getD 7 0==49||Ds p 4)=true then some 1 else none) else none:=by rw [verL,if_neg hne];rfl
 clear hne;by_cases h8:s.size=8
 ·obtain ⟨e1,e2⟩:=len8 s h8;have hx:(s.extract 0 7).size=7:=by rw [←len,e2,Cr,len];omega
  have H5:=Bo (fun w=>Du p hp 5 w)
  have H4:=Bo (fun w=>Du p hp 4 w)
  have HS:=Bo (fun w=>rsame_any (s.extract 0 7) ⟨#[72,84,84,80,47,49,46]⟩ w (by rw [hx];decide) (by decide))
  have HD:=Bo (fun w=>Oct.rdigit_any ((s[7]'(by omega)).toNat:Int) w);have ek:knownV (clOf p) s.data.toList=(Oct.digit ((s[7]'(by omega)).toNat:Int)&&(((s.extract 0 7).data.toList==http1)|| (Ds p 5&&same (s.extract 0 7) ⟨#[72,84,84,80,47,49,46]⟩))):=by exact XXwj4
  obtain ⟨t1,t2⟩:=eq_facts (s.extract 0 7) [72,84,84,80,47,49,46] (decide ((s.extract 0 7).data.toList=http1)) rfl;have e3:((s.extract 0 7).data.toList==http1)=decide ((s.extract 0 7).data.toList=http1):=by rw [Ar,beq_iff_eq,decide_eq_true_eq]
  rw [ek,e1,e3] at ev;clear e1 e2 ek e3 hx;have hsz:(s.size:Int)=8:=by omega
  obtain ⟨d,hd⟩:∃d,s[7]'(by omega)=d:=⟨_,rfl⟩;have hn:∀hh,s[7]'hh=d:=fun _=>hd;rw [hd] at HD ev;clear hd;generalize decide ((s.extract 0 7).data.toList=http1)=r1 at *;generalize same (s.extract 0 7) ⟨#[72,84,84,80,47,49,46]⟩=r2 at *;generalize Ds p 5=r3 at *;generalize Ds p 4=r5 at *;generalize Oct.digit (d.toNat:Int)=r4 at *;generalize verL (clOf p) s.data.toList=V at *;obtain ⟨x,hx⟩:∃x,s.extract 0 7=x:=⟨_,rfl⟩;rw [hx] at HS t1 t2;cases r4 with
  | false=>
    rw [As,if_neg (by decide)] at ev;subst ev;go_enter Tryz.func213,Tryz.ntmps213
    go_wp2_with (go_at_call 201;with_reducible refine Cm (HD.out _) ?_);go_ret2;exact ⟨⟨0,rfl,fun j h=>by cases h⟩,Am _ _⟩
  | true=>
    have hb:(r1=false∧r3=false)∨(r1=false∧r3=true∧r2=false)∨(r1|| (r3&&r2))=true:=by cases r1<;>cases r2<;>cases r3<;>simp
    by_cases h1:(r1|| (r3&&r2))=true
    ·rw [h1,Bool.and_true,if_pos rfl] at ev;by_cases h48:d=48
     ·rw [if_pos h48] at ev;subst ev h48
      replace HD:Hid (∀w,Calls EL 201 #[.int .u8 48] w fun e w'=>e=.returned (.bool true)∧w'=w):=HD
      cases r1<;>cases r3<;>cases r2<;>simp at h1;all_goals
       go_enter Tryz.func213,Tryz.ntmps213
       go_wp2_with (first
        |(go_at_call 201;with_reducible refine Cm (HD.out _) ?_)
        |(go_at_call 53;with_reducible refine Cm (H5.out _) ?_)
        |(go_at_call 151;with_reducible refine (HS.out _).mono ?_;rintro e w2 ⟨rfl,hb2⟩))
       go_ret2;first
        | exact ⟨⟨0,rfl,fun j h=>by cases h;rfl⟩,hb2⟩
        | exact ⟨⟨0,rfl,fun j h=>by cases h;rfl⟩,Am _ _⟩
     ·rw [if_neg h48] at ev
      have n48:¬(d.toNat:Int)=48:=fun h=>h48 (FD.1 (by show d.toNat=48;omega));clear h48;by_cases h49:d=49
      ·subst h49;rw [if_pos (by rfl)] at ev;subst ev
       replace HD:Hid (∀w,Calls EL 201 #[.int .u8 49] w fun e w'=>e=.returned (.bool true)∧w'=w):=HD
       cases r1<;>cases r3<;>cases r2<;>simp at h1;all_goals
        go_enter Tryz.func213,Tryz.ntmps213
        go_wp2_with (first
         |(go_at_call 201;with_reducible refine Cm (HD.out _) ?_)
         |(go_at_call 53;with_reducible refine Cm (H5.out _) ?_)
         |(go_at_call 151;with_reducible refine (HS.out _).mono ?_;rintro e w2 ⟨rfl,hb2⟩))
        go_ret2;first
         | exact ⟨⟨1,rfl,fun j h=>by cases h;rfl⟩,hb2⟩
         | exact ⟨⟨1,rfl,fun j h=>by cases h;rfl⟩,Am _ _⟩
      ·have n49:¬(d.toNat:Int)=49:=fun h=>h49 (FD.1 (by show d.toNat=49;omega));have e49:(d==49)=false:=by simpa using h49
       rw [e49,Bool.false_or] at ev;clear h49 e49;have hV:V.isSome=r5∧∀j,V=some j→1=j:=by
        cases r5 with
        | true=>rw [if_pos rfl] at ev;subst ev;exact ⟨rfl,fun j h=>by cases h;rfl⟩
        | false=>rw [if_neg (by decide)] at ev;subst ev;exact ⟨rfl,fun j h=>by cases h⟩
       rw [hV.1];have HVV:=Bo hV.2;clear hV ev;cases r1<;>cases r3<;>cases r2<;>simp at h1;all_goals
        go_enter Tryz.func213,Tryz.ntmps213
        go_wp2_with (first
         |(go_at_call 201;with_reducible refine Cm (HD.out _) ?_)
         |(go_at_call 53;with_reducible refine Cm (H5.out _) ?_)
         |(go_at_call 53;with_reducible refine Cm (H4.out _) ?_)
         |(go_at_call 151;with_reducible refine (HS.out _).mono ?_;rintro e w2 ⟨rfl,hb2⟩))
        go_ret2;first
         | exact ⟨⟨1,rfl,HVV.out⟩,hb2⟩
         | exact ⟨⟨1,rfl,HVV.out⟩,Am _ _⟩
    ·have h1f:(r1|| (r3&&r2))=false:=by simpa using h1
     rw [h1f,Bool.and_false,if_neg (by decide)] at ev;subst ev;cases r1<;>cases r3<;>cases r2<;>simp at h1f;all_goals
      go_enter Tryz.func213,Tryz.ntmps213
      go_wp2_with (first
       |(go_at_call 201;with_reducible refine Cm (HD.out _) ?_)
       |(go_at_call 53;with_reducible refine Cm (H5.out _) ?_)
       |(go_at_call 151;with_reducible refine (HS.out _).mono ?_;rintro e w2 ⟨rfl,hb2⟩))
      go_ret2;first
       | exact ⟨⟨0,rfl,fun j h=>by cases h⟩,hb2⟩
       | exact ⟨⟨0,rfl,fun j h=>by cases h⟩,Am _ _⟩
 ·have e:knownV (clOf p) s.data.toList=false:=by unfold knownV;rw [len,decide_eq_false h8];rfl
  rw [e,if_neg (by decide)] at ev;rw [ev];clear e ev;have h1:¬(s.size:Int)=8:=by omega
  go_enter Tryz.func213,Tryz.ntmps213;go_wp2_with fail;go_ret2;exact ⟨⟨0,rfl,fun j h=>by cases h⟩,Am _ _⟩
end code
end Go.Proofs.YtnabkcglnbdfeaaGreatDoor.Rq
namespace Go.Proofs.YtnabkcglnbdfeaaGreatDoor.Rq
open Go.RowKit Base Txt
def Spn (w:World) (a:Option Addr) (n:Nat) (sp:List (Nat × Nat)):Prop:=
 sp.length=n∧(0<n→∃b,a=some ⟨b,0,none⟩∧b<w.heap.size∧∀k,(hk:k<sp.length)→w.cell? ⟨b,k*2,none⟩=some (.int .i64 (sp[k].1:Nat))∧w.cell? ⟨b,k*2+1,none⟩=some (.int .i64 (sp[k].2:Nat)))
theorem Spn.of_own {w:World} {base:Nat} {e:TypeId} {v:Value} {sp:List (Nat × Nat)} (h:w.ownsRow base e 2 v sp.length (Lib.spanCells sp)):∃A c,v=.slice A sp.length c∧Spn w A sp.length sp:=by
 rcases h.2 with ⟨rfl,hx⟩ | ⟨g,cap,cur,rfl,hb,hh,hcap,hcs,h9,ht⟩
 ·have h0:sp.length=0:=hx;rw [h0];exact ⟨none,0,rfl,h0,fun q=>absurd q (by omega)⟩
 ·have hlt:g<w.heap.size:=by
   rcases CW g w.heap.size with h | h
   ·exact h
   ·rw [Array.getElem?_eq_none h] at hh;cases hh
  refine ⟨_,_,rfl,rfl,fun _=>⟨g,rfl,hlt,fun k hk=>?_⟩⟩
  have h1:=h.cellAt (k*2) (by omega)
  have h2:=h.cellAt (k*2+1) (by omega)
  have h3:=Lib.spanCells_at sp k sp[k] (BS hk);exact ⟨h1.trans h3.1,h2.trans h3.2⟩
def Done (bl:Bool) (l:List UInt8) (k f:Nat) (done:List (Nat × Nat)):Prop:=
 (k≤l.length∧f≤k∧spans bl l=(pcs (sepB bl) (!bl) (l.drop k) k f).map (done ++ ·))∨(k=l.length+1∧spans bl l=some done)
theorem Done.start (bl:Bool) (l:List UInt8):Done bl l 0 0 []:=.inl ⟨CY _,CQ _,by rw [List.drop_zero];show _=(spans bl l).map _;cases spans bl l<;>simp⟩
theorem Done.miss {bl:Bool} {l:List UInt8} {k f:Nat} {done:List (Nat × Nat)} (h:Done bl l k f done) (hk:k<l.length) (hp:sepB bl l[k]=false):f≤k∧Done bl l (k+1) f done:=by
 rcases h with ⟨_,h1,h2⟩ | ⟨h,_⟩
 ·refine ⟨h1,.inl ⟨by omega,by omega,?_⟩⟩;rw [h2,BH hk,pcs,if_neg (by rw [hp];decide)]
 ·omega
theorem Done.empty {bl:Bool} {l:List UInt8} {k:Nat} {done:List (Nat × Nat)} (h:Done bl l k k done) (hk:k<l.length) (hp:sepB bl l[k]=true):if bl=true then Done bl l (k+1) (k+1) done else spans bl l=none:=by
 rcases h with ⟨_,_,h2⟩ | ⟨h,_⟩
 ·rw [BH hk,pcs,if_pos hp,if_pos rfl] at h2;cases bl with
  | true=>exact .inl ⟨by omega,CQ _,h2⟩
  | false=>exact h2
 ·omega
theorem Done.empty' {bl:Bool} {l:List UInt8} {k f:Nat} {done:List (Nat × Nat)} (h:Done bl l k f done) (e:f=k) (hk:k<l.length) (hp:sepB bl l[k]=true):if bl=true then Done bl l (k+1) (k+1) done else spans bl l=none:=by subst e;exact h.empty hk hp
theorem Done.end_empty' {bl:Bool} {l:List UInt8} {f:Nat} {done:List (Nat × Nat)} (n:Nat) (hn:l.length=n) (h:Done bl l n f done) (e:f=n):if bl=true then Done bl l (n+1) (n+1) done else spans bl l=none:=by
 subst e;subst hn;rcases h with ⟨_,_,h2⟩ | ⟨h,_⟩
 ·rw [List.drop_length,pcs,if_pos rfl] at h2;cases bl with
  | true=>exact .inr ⟨rfl,by rw [h2];simp⟩
  | false=>exact h2
 ·omega
theorem Done.end_hit' {bl:Bool} {l:List UInt8} {f:Nat} {done:List (Nat × Nat)} (n:Nat) (hn:l.length=n) (h:Done bl l n f done) (hf:f<n):Done bl l (n+1) (n+1) (done ++ [(f,n)]):=by
 subst hn;rcases h with ⟨_,_,h2⟩ | ⟨h,_⟩
 ·refine .inr ⟨rfl,?_⟩;rw [h2,List.drop_length,pcs,if_neg (by omega)];rfl
 ·omega
theorem Done.full {bl:Bool} {l:List UInt8} {k f:Nat} {done:List (Nat × Nat)} (h:Done bl l k f done) (hk:l.length<k):spans bl l=some done:=by
 rcases h with ⟨h,_⟩ | ⟨_,h⟩
 ·omega
 ·exact h
theorem Done.hit {bl:Bool} {l:List UInt8} {k f:Nat} {done:List (Nat × Nat)} (h:Done bl l k f done) (hf:f<k) (hk:k<l.length) (hp:sepB bl l[k]=true):Done bl l (k+1) (k+1) (done ++ [(f,k)]):=by
 rcases h with ⟨_,h1,h2⟩ | ⟨h,_⟩
 ·refine .inl ⟨by omega,CQ _,?_⟩;rw [h2,BH hk,pcs,if_pos hp,if_neg (by omega),Option.map_map]
  congr 1
  funext x
  simp
 ·omega
theorem Done.le {bl:Bool} {l:List UInt8} {k f:Nat} {done:List (Nat × Nat)} (h:Done bl l k f done) (hk:k≤l.length):f≤k:=by
 rcases h with ⟨_,h1,_⟩ | ⟨h,_⟩
 ·exact h1
 ·omega
theorem news_two (w:World) (x y:Value) (t:TypeId):∀(j:Nat) (u:Value),[x,y][j]?=some u→(w.alloc (.cells #[x,y] t)).cell? (Addr.add ⟨w.heap.size,0,none⟩ j)=some u:=by
 intro j u hu;have hj:j=0∨j=1:=by
  rcases CW j 2 with h | h
  ·omega
  ·rw [List.getElem?_eq_none (by simpa using h)] at hu;cases hu
 have key:=cell_of_row (w.alloc (.cells #[x,y] t)) w.heap.size j #[x,y] t (0,0) (heap_alloc_new w _);have e2:Addr.add ⟨w.heap.size,0,none⟩ j=⟨w.heap.size,j,none⟩:=by unfold Addr.add;rcases hj with rfl | rfl<;>simp
 rw [e2];refine key.trans ?_;rcases hj with rfl | rfl<;>simpa using hu
section code
set_option maxHeartbeats 2000000
attribute [local go_sem] Al
theorem XX8JM {P:Prop} (h:P:=by
 intro v' w' hown' hgr _
 have H2:Hid (w'.ownsRow w.heap.size 235 2 v' (done ++ [(f,k)]).length (Lib.spanCells (done ++ [(f,k)]))):=Bo (by rw [Lib.spanCells_snoc];simpa using hown')
 have H3:=Bo ((hbr.out.alloc hbr.out.size _).grown hgr (by have:=hbr.out.size;simp;omega) (own_base hown.out));clear hown' hgr hown hbr;go_wp2;go_roundw
 case rel=>exact ⟨k+1,k+1,done ++ [(f,k)],by omega,by omega,by rw [Ch,List.length_singleton];omega,by go_num,by go_num,HD,H2,H3⟩
 case measure=>simp [intOf];omega):P:=h
theorem XX4X8 {P:Prop} (h:P:=by
 intro v' w' hown' hgr _
 have H2:Hid (w'.ownsRow w.heap.size 235 2 v' (done ++ [(f,s.size)]).length (Lib.spanCells (done ++ [(f,s.size)]))):=Bo (by rw [Lib.spanCells_snoc];simpa using hown')
 have H3:=Bo ((hbr.out.alloc hbr.out.size _).grown hgr (by have:=hbr.out.size;simp;omega) (own_base hown.out));clear hown' hgr hown hbr;go_wp2;go_roundw
 case rel=>exact ⟨s.size+1,s.size+1,done ++ [(f,s.size)],by omega,by omega,by rw [Ch,List.length_singleton];omega,by go_num,by go_num,HD,H2,H3⟩
 case measure=>simp [intOf]):P:=h
theorem XX5Vo {P:Prop} (h:P:=by
 clear hbb
 go_wp2_with (go_at_call 130;with_reducible refine Cm (HB.out _) ?_);go_roundw
 case rel=>exact ⟨k+1,f,done,by omega,by omega,by omega,by first | rfl | go_num,by go_num,HD,hown,hbr⟩
 case measure=>simp [intOf];omega):P:=h
theorem XXMF2 {P:Prop} (h:P:=by
 go_wp2_with (go_at_call 130;with_reducible refine Cm (HB.out _) ?_);go_roundw
 case rel=>exact ⟨f+1,f+1,done,by omega,by omega,by omega,by first | rfl | go_num,by go_num,HD,hown,hbr⟩
 case measure=>simp [intOf];omega):P:=h
theorem XXOmU {P:Prop} (h:P:=by
 have hno:PS=none:=HPS.out.symm.trans (by simpa using HD);subst hno;clear HD;go_wp2_with fail;go_ret2
 exact ⟨rfl,hbr.out⟩):P:=h
set_option maxRecDepth 10000 in
theorem rpieces_any (s:ByteArray) (bl:Bool) (w:World) (hs:s.size≤900000000):Calls EL 231 #[.string s,.bool bl] w fun e w'=>
 (match spans bl s.data.toList with
   | none=>e=.returned (.tuple #[.slice none 0 0,.bool false])
   | some sp=>∃a c,e=.returned (.tuple #[.slice a sp.length c,.bool true])∧Spn w' a sp.length sp)∧Below w.heap.size w w':=by
 obtain ⟨i0,hi,hz0,hz1,hz2⟩:=info_parts pair_info;have G1:=Bo hi;have G2:=Bo hz0;have G3:=Bo hz1;have G4:=Bo hz2;clear hi hz0 hz1 hz2;obtain ⟨PS,hPS⟩:∃PS,spans bl s.data.toList=PS:=⟨_,rfl⟩;rw [hPS];have HPS:=Bo hPS;clear hPS;go_enter Tryz.func231,Tryz.ntmps231;go_wp2
 go_loopw [6,7,8] (fun v fr i wr=>∃(k f:Nat) (done:List (Nat × Nat)),k≤s.size+1∧f≤s.size+1∧done.length≤k∧fr=.int .i64 f∧i=.int .i64 k∧Hid (Done bl s.data.toList k f done)∧Hid (wr.ownsRow w.heap.size 235 2 v done.length (Lib.spanCells done))∧Hid (Below w.heap.size w wr)) (fun _ _ i _=>s.size+1-(intOf i).toNat)
 case atStart=>exact ⟨0,0,[],by omega,by omega,CQ _,rfl,rfl,Bo (Done.start _ _),Bo ⟨rfl,.inl ⟨rfl,rfl⟩⟩,Bo (Am _ _)⟩
 case round=>
  obtain ⟨k,f,done,hk,hf,hdn,rfl,rfl,hpt,hown,hbr⟩:=hrel;rcases CW k s.size with hlt | hge
  ·have t0:(k:Int)≤(s.size:Int):=by omega
   have i1:(k:Int)<(s.size:Int):=by omega
   have hkl:k<s.data.toList.length:=by rw [len];exact hlt
   have hfk:=hpt.out.le (by omega);obtain ⟨b,hb⟩:∃b,s[k]=b:=⟨_,rfl⟩;have hn:∀hh,s[k]'hh=b:=fun _=>hb;have hbl:s.data.toList[k]=b:=hb
   have HM:=Bo (fun hp=>(hpt.out.miss hkl hp).2)
   have HE:=Bo (fun (e:f=k) hp=>hpt.out.empty' e hkl hp)
   have HH:=Bo (fun e hp=>hpt.out.hit e hkl hp);rw [hbl] at HM HE HH;clear hb hbl hkl hpt
   have HB:=Bo (fun w=>Oct.rblank_any (b.toNat:Int) w);have m1:IntKind.i64.wrap ((k:Int)+1)=((k+1:Nat):Int):=by rw [wrap_in _ (by omega) (by omega)];omega
   have hsep:sepB bl b=(b==32|| (bl&&Oct.blank (b.toNat:Int))):=by
    unfold sepB Oct.blank;have e9:(b==9)=decide ((b.toNat:Int)=9):=by rw [Ar,beq_iff_eq,decide_eq_true_eq];exact ⟨fun h=>by rw [h];rfl,fun h=>FD.1 (by show b.toNat=9;omega)⟩
    have e32:(b==32)=decide ((b.toNat:Int)=32):=by rw [Ar,beq_iff_eq,decide_eq_true_eq];exact ⟨fun h=>by rw [h];rfl,fun h=>FD.1 (by show b.toNat=32;omega)⟩
    rw [e9,e32];cases bl<;>cases decide ((b.toNat:Int)=32)<;>cases decide ((b.toNat:Int)=9)<;>rfl
   have n32:(b==32)=false→¬(b.toNat:Int)=32:=fun h e=>by have:b=32:=FD.1 (by show b.toNat=32;omega);rw [this] at h;cases h
   have y32:(b==32)=true→(b.toNat:Int)=32:=fun h=>by rw [beq_iff_eq.1 h];rfl
   generalize (b==32)=q at *;generalize Oct.blank (b.toNat:Int)=bk at *;have hcase:(q=true)∨(q=false∧bl=true∧bk=true)∨(q=false∧(bl&&bk)=false):=by cases q<;>cases bl<;>cases bk<;>simp
   have hmiss:(q=false∧(bl&&bk)=false)→sepB bl b=false:=fun h=>by rw [hsep,h.1,h.2];rfl
   have hhit:(q=true)∨(q=false∧bl=true∧bk=true)→sepB bl b=true:=fun h=>by
    rcases h with h | ⟨h1,h2,h3⟩
    ·rw [hsep,h];rfl
    ·rw [hsep,h1,h2,h3];rfl
   clear hsep;have HX:=Bo hmiss;have HY:=Bo hhit;clear hmiss hhit;rcases hcase with hq | ⟨hq,hbl,hbk⟩ | ⟨hq,hbb⟩
   ·have hsp:=HY.out (.inl hq);have e32:=y32 hq;clear n32 y32 hq
    replace HH:=Bo (fun e=>HH.out e hsp)
    replace HE:=Bo (fun e=>HE.out e hsp)
    clear HX HY HM hsp;rcases CW f k with hfl | hfg
    ·have g1:¬(k:Int)=(f:Int):=by omega
     have g2:(f:Int)<(k:Int):=by omega
     have HD:=Bo (HH.out hfl);clear HH HE;cases bl
     ·go_wp2_with (first
       |(go_at_call 130;with_reducible refine Cm (HB.out _) ?_)
       |(at_builtin;refine wpList_append_own _ rfl _ _ 232 rfl w.heap.size 235 i0 (.agg #[.int .i64 0,.int .i64 0]) 2 16 Tryz.underlying232 G1.out G2.out G3.out G4.out rfl (by decide) _ _ _ rfl (hown.out.alloc _) ⟨wr.heap.size,0,none⟩ 1 1 [.int .i64 (f:Nat),.int .i64 (k:Nat)] rfl rfl ?ca1 ?cb1 ?cc1 ?cd1 ?ce1 ?_))
      case ca1=>exact news_two wr _ _ _
      case cb1=>intro u hu;rcases (by simpa using hu:u=.int .i64 (f:Nat)∨u=.int .i64 (k:Nat)) with rfl | rfl<;>rfl
      case cc1=>unfold maxLen;omega
      case cd1=>omega
      case ce1=>have:=hbr.out.size;simp;omega
      exact XX8JM
     ·go_wp2_with (first
       |(go_at_call 130;with_reducible refine Cm (HB.out _) ?_)
       |(at_builtin;refine wpList_append_own _ rfl _ _ 232 rfl w.heap.size 235 i0 (.agg #[.int .i64 0,.int .i64 0]) 2 16 Tryz.underlying232 G1.out G2.out G3.out G4.out rfl (by decide) _ _ _ rfl (hown.out.alloc _) ⟨wr.heap.size,0,none⟩ 1 1 [.int .i64 (f:Nat),.int .i64 (k:Nat)] rfl rfl ?ca2 ?cb2 ?cc2 ?cd2 ?ce2 ?_))
      case ca2=>exact news_two wr _ _ _
      case cb2=>intro u hu;rcases (by simpa using hu:u=.int .i64 (f:Nat)∨u=.int .i64 (k:Nat)) with rfl | rfl<;>rfl
      case cc2=>unfold maxLen;omega
      case cd2=>omega
      case ce2=>have:=hbr.out.size;simp;omega
      exact XX8JM
    ·obtain rfl:f=k:=by omega
     have HD:=HE.out rfl;clear HH HE;cases bl
     ·exact XXOmU
     ·replace HD:=Bo (show Done true s.data.toList (f+1) (f+1) done by simpa using HD)
      exact XXMF2
   ·have hsp:=HY.out (.inr ⟨hq,hbl,hbk⟩);have e32:=n32 hq;clear n32 y32 hq
    replace HH:=Bo (fun e=>HH.out e hsp)
    replace HE:=Bo (fun e=>HE.out e hsp)
    clear HX HY HM hsp;subst hbl hbk;rcases CW f k with hfl | hfg
    ·have g1:¬(k:Int)=(f:Int):=by omega
     have g2:(f:Int)<(k:Int):=by omega
     have HD:=Bo (HH.out hfl);clear HH HE
     go_wp2_with (first
      |(go_at_call 130;with_reducible refine Cm (HB.out _) ?_)
      |(at_builtin;refine wpList_append_own _ rfl _ _ 232 rfl w.heap.size 235 i0 (.agg #[.int .i64 0,.int .i64 0]) 2 16 Tryz.underlying232 G1.out G2.out G3.out G4.out rfl (by decide) _ _ _ rfl (hown.out.alloc _) ⟨wr.heap.size,0,none⟩ 1 1 [.int .i64 (f:Nat),.int .i64 (k:Nat)] rfl rfl ?ca3 ?cb3 ?cc3 ?cd3 ?ce3 ?_))
     case ca3=>exact news_two wr _ _ _
     case cb3=>intro u hu;rcases (by simpa using hu:u=.int .i64 (f:Nat)∨u=.int .i64 (k:Nat)) with rfl | rfl<;>rfl
     case cc3=>unfold maxLen;omega
     case cd3=>omega
     case ce3=>have:=hbr.out.size;simp;omega
     exact XX8JM
    ·obtain rfl:f=k:=by omega
     have HD:=Bo (show Done true s.data.toList (f+1) (f+1) done by simpa using HE.out rfl);clear HH HE;exact XXMF2
   ·have HD:=Bo (HM.out (HX.out ⟨hq,hbb⟩));have e32:=n32 hq;clear n32 y32 hq HX HY HM HH HE;cases bl
    ·exact XX5Vo
    ·have hbk:bk=false:=by simpa using hbb
     subst hbk;exact XX5Vo
  ·rcases CW s.size k with hgt | hle
   ·obtain rfl:k=s.size+1:=by omega
    have t0:¬((s.size+1:Nat):Int)≤(s.size:Int):=by omega
    have hfin:PS=some done:=HPS.out.symm.trans (hpt.out.full (by rw [len];omega));subst hfin;obtain ⟨A,cp,rfl,hA⟩:=Spn.of_own hown.out;have HA:=Bo hA;clear hA hown hpt;go_wp2;go_ret2;first | exact ⟨⟨A,cp,rfl,HA.out⟩,hbr.out⟩ | exact ⟨⟨A,⟨cp,rfl⟩,HA.out⟩,hbr.out⟩
   ·obtain rfl:k=s.size:=by omega
    have hfk:=hpt.out.le (by rw [len];exact CQ _)
    have HE:=Bo (fun e=>hpt.out.end_empty' s.size (len s) e)
    have HH:=Bo (fun e=>hpt.out.end_hit' s.size (len s) e);clear hpt;have t0:(s.size:Int)≤(s.size:Int):=by omega
    have m1:IntKind.i64.wrap ((s.size:Int)+1)=((s.size+1:Nat):Int):=by rw [wrap_in _ (by omega) (by omega)];omega
    have HB:=Bo (fun w=>Oct.rblank_any (0:Int) w);rcases CW f s.size with hfl | hfg
    ·have g1:¬(s.size:Int)=(f:Int):=by omega
     have g2:(f:Int)<(s.size:Int):=by omega
     have HD:=Bo (HH.out hfl);clear HH HE;cases bl
     ·go_wp2_with (first
       |(go_at_call 130;with_reducible refine Cm (HB.out _) ?_)
       |(at_builtin;refine wpList_append_own _ rfl _ _ 232 rfl w.heap.size 235 i0 (.agg #[.int .i64 0,.int .i64 0]) 2 16 Tryz.underlying232 G1.out G2.out G3.out G4.out rfl (by decide) _ _ _ rfl (hown.out.alloc _) ⟨wr.heap.size,0,none⟩ 1 1 [.int .i64 (f:Nat),.int .i64 (s.size:Nat)] rfl rfl ?ca4 ?cb4 ?cc4 ?cd4 ?ce4 ?_))
      case ca4=>exact news_two wr _ _ _
      case cb4=>intro u hu;rcases (by simpa using hu:u=.int .i64 (f:Nat)∨u=.int .i64 (s.size:Nat)) with rfl | rfl<;>rfl
      case cc4=>unfold maxLen;omega
      case cd4=>omega
      case ce4=>have:=hbr.out.size;simp;omega
      exact XX4X8
     ·go_wp2_with (first
       |(go_at_call 130;with_reducible refine Cm (HB.out _) ?_)
       |(at_builtin;refine wpList_append_own _ rfl _ _ 232 rfl w.heap.size 235 i0 (.agg #[.int .i64 0,.int .i64 0]) 2 16 Tryz.underlying232 G1.out G2.out G3.out G4.out rfl (by decide) _ _ _ rfl (hown.out.alloc _) ⟨wr.heap.size,0,none⟩ 1 1 [.int .i64 (f:Nat),.int .i64 (s.size:Nat)] rfl rfl ?ca5 ?cb5 ?cc5 ?cd5 ?ce5 ?_))
      case ca5=>exact news_two wr _ _ _
      case cb5=>intro u hu;rcases (by simpa using hu:u=.int .i64 (f:Nat)∨u=.int .i64 (s.size:Nat)) with rfl | rfl<;>rfl
      case cc5=>unfold maxLen;omega
      case cd5=>omega
      case ce5=>have:=hbr.out.size;simp;omega
      exact XX4X8
    ·obtain rfl:f=s.size:=by omega
     have HD:=HE.out rfl;clear HH HE;cases bl
     ·exact XXOmU
     ·replace HD:=Bo (show Done true s.data.toList (s.size+1) (s.size+1) done by simpa using HD)
      go_wp2_with (go_at_call 130;with_reducible refine Cm (HB.out _) ?_);go_roundw
      case rel=>exact ⟨s.size+1,s.size+1,done,by omega,by omega,by omega,by first | rfl | go_num,by go_num,HD,hown,hbr⟩
      case measure=>simp [intOf]
end code
end Go.Proofs.YtnabkcglnbdfeaaGreatDoor.Rq
namespace Go.Proofs.YtnabkcglnbdfeaaGreatDoor.Rq
open Go.RowKit Base Txt
def rpv (bl:Bool) (l:List UInt8):Value:=
 match spans bl l with
 | none=>.tuple #[.string ⟨#[]⟩,.string ⟨#[]⟩,.string ⟨#[]⟩,.int .i64 0,.bool false]
 | some sp=>if sp.length<2 then .tuple #[.string ⟨#[]⟩,.string ⟨#[]⟩,.string ⟨#[]⟩,.int .i64 (sp.length:Nat),.bool false]
   else .tuple #[.string (ba (ext l (sp.getD 0 (0,0)))),.string (ba (if 2<sp.length then ext l ((sp.getD 1 (0,0)).1,(sp.getD (sp.length-2) (0,0)).2) else [])),.string (ba (ext l (sp.getD (sp.length-1) (0,0)))),.int .i64 (sp.length:Nat),.bool true]
section code
set_option maxHeartbeats 2000000
attribute [local go_sem] Al
theorem XXM4O {P:Prop} (h:P:=by
 clear hq hW hWs h0 h1 h2' h3;generalize W.heap.size=g at *;rcases CW 2 n with h3n | h3n
 ·obtain ⟨r1,r2⟩:=h4 h3n;obtain ⟨U1,U2⟩:=hms h3n;have r1':=(hWF.cell (p:=⟨b,2,none⟩) hbl).trans r1;have r2':=(hWF.cell (p:=⟨b,(n-2)*2+1,none⟩) hbl).trans r2;obtain ⟨j,hj⟩:∃j,n-2=j:=⟨_,rfl⟩;rw [hj] at r2';have l1:(u1:Int)≤(u2:Int):=by omega
  have l2:(u2:Int)≤(s.size:Int):=by omega
  have l3:(2:Int)<(n:Int):=by omega
  have l4:IntKind.i64.wrap ((n:Int)-2)=(j:Int):=by rw [wrap_in _ (by omega) (by omega)];omega
  have l5:(j:Int)<(n:Int):=by omega
  have l6:j<n:=by omega
  have l7:1<n:=by omega
  have l8:(1:Int)<(n:Int):=by omega
  have hMM:=HM.out;rw [if_pos h3n,ext_ba] at hMM
  replace HM:=Bo hMM
  clear hMM;clear r1 r2 h4 hms hj;go_wp2_with fail
  go_quiet (fail);rename_i nq;go_wp2_with fail
  go_quiet (fail);rename_i nq2;go_wp2;exact bodyPost_ret (v:=.tuple #[.string (s.extract a1 a2),.string (s.extract u1 u2),.string (s.extract d1 d2),.int .i64 (n:Nat),.bool true]) (by simp [results,Tryz.results210,go_sem]) rfl ⟨by rw [←HM.out],by first | exact Aj (Ak hb hWF) _ | exact Aj (Aj (Ak hb hWF) _) _⟩
 ·have l3:¬(2:Int)<(n:Int):=by omega
  have hMM:=HM.out;rw [if_neg (by omega)] at hMM
  replace HM:=Bo hMM
  clear hMM;clear h4 hms;go_wp2_with fail
  go_quiet (fail);rename_i nq2;go_wp2
  exact bodyPost_ret (v:=.tuple #[.string (s.extract a1 a2),.string ⟨#[]⟩,.string (s.extract d1 d2),.int .i64 (n:Nat),.bool true]) (by simp [results,Tryz.results210,go_sem]) rfl ⟨by rw [←HM.out];rfl,Aj (Ak hb hWF) _⟩):P:=h
set_option maxRecDepth 10000 in
theorem rparts_any (s:ByteArray) (bl:Bool) (w:World) (hs:s.size≤900000000):Calls EL 210 #[.string s,.bool bl] w fun e w'=>e=.returned (rpv bl s.data.toList)∧Below w.heap.size w w':=by
 have HP:=Bo (fun w=>rpieces_any s bl w hs);unfold rpv;cases hsp:spans bl s.data.toList with
 | none=>
   rw [hsp] at HP;dsimp only at HP ⊢;clear hsp;go_enter Tryz.func210,Tryz.ntmps210
   go_wp2_with (go_at_call 231;with_reducible refine (HP.out _).mono ?_;rintro e w1 ⟨rfl,hb⟩);exact bodyPost_ret (v:=.tuple #[.string ⟨#[]⟩,.string ⟨#[]⟩,.string ⟨#[]⟩,.int .i64 0,.bool false]) (by simp [results,Tryz.results210,go_sem]) rfl ⟨rfl,hb⟩
 | some sp=>
   rw [hsp] at HP;dsimp only at HP ⊢;have hcov:=(spans_cov hsp).1;have hle:sp.length≤s.size+1:=by
    have:=pcs_le _ _ _ _ (show pcs (sepB bl) (!bl) s.data.toList 0 0=some sp from hsp)
    rwa [len] at this
   clear hsp;rcases CW sp.length 2 with h2 | h2
   ·rw [if_pos h2];obtain ⟨n,hn⟩:∃n,sp.length=n:=⟨_,rfl⟩;rw [hn] at HP h2 ⊢;have c2:(n:Int)<2:=by omega
    clear hcov hn hle;go_enter Tryz.func210,Tryz.ntmps210
    go_wp2_with (go_at_call 231;with_reducible refine (HP.out _).mono ?_;rintro e w1 ⟨⟨a,c,rfl,hS⟩,hb⟩);exact bodyPost_ret (v:=.tuple #[.string ⟨#[]⟩,.string ⟨#[]⟩,.string ⟨#[]⟩,.int .i64 (n:Nat),.bool false]) (by simp [results,Tryz.results210,go_sem]) rfl ⟨rfl,hb⟩
   ·rw [if_neg (by omega)];have A0:(sp[0]'(by omega)).1<(sp[0]'(by omega)).2∧(sp[0]'(by omega)).2≤s.size:=by
     have h:=hcov.at 0 (by omega);rw [←len];exact ⟨h.2.1,h.2.2.1⟩
    have A3:(sp[sp.length-1]'(by omega)).1<(sp[sp.length-1]'(by omega)).2∧(sp[sp.length-1]'(by omega)).2≤s.size:=by have h:=hcov.at (sp.length-1) (by omega);rw [←len];exact ⟨h.2.1,h.2.2.1⟩
    have HX:=Bo (fun w a (hS:Spn w a sp.length sp)=>hS.2 (by omega));rw [getD_at sp 0 (by omega),getD_at sp (sp.length-1) (by omega)];have hmid:2<sp.length→((sp.getD 1 (0,0)).1≤(sp.getD (sp.length-2) (0,0)).2∧(sp.getD (sp.length-2) (0,0)).2≤s.size)∧∃(h1:1<sp.length) (h2:sp.length-2<sp.length),sp.getD 1 (0,0)=sp[1]∧sp.getD (sp.length-2) (0,0)=sp[sp.length-2]:=fun h=>by
     refine ⟨?_,by omega,by omega,getD_at sp 1 (by omega),getD_at sp _ (by omega)⟩;rw [getD_at sp 1 (by omega),getD_at sp _ (by omega)]
     have B1:=hcov.at 1 (by omega)
     have B2:=hcov.at (sp.length-2) (by omega)
     have B3:=hcov.mono 1 (sp.length-3) (by omega);have e:∀hh,sp[1+(sp.length-3)]'hh=sp[sp.length-2]:=fun _=>by congr 1;omega
     rw [e] at B3;rw [←len];omega
    have HC:Hid (∀w a,Spn w a sp.length sp→∃b,a=some ⟨b,0,none⟩∧b<w.heap.size∧(w.cell? ⟨b,0,none⟩=some (.int .i64 (sp[0].1:Nat))∧w.cell? ⟨b,1,none⟩=some (.int .i64 (sp[0].2:Nat)))∧
     (w.cell? ⟨b,(sp.length-1)*2,none⟩=some (.int .i64 (sp[sp.length-1].1:Nat))∧w.cell? ⟨b,(sp.length-1)*2+1,none⟩=some (.int .i64 (sp[sp.length-1].2:Nat)))∧
     (2<sp.length→w.cell? ⟨b,2,none⟩=some (.int .i64 ((sp.getD 1 (0,0)).1:Nat))∧w.cell? ⟨b,(sp.length-2)*2+1,none⟩=some (.int .i64 ((sp.getD (sp.length-2) (0,0)).2:Nat)))):=Bo fun w a hS=>by
     obtain ⟨b,e,hlt,hc⟩:=hS.2 (by omega);refine ⟨b,e,hlt,hc 0 (by omega),hc (sp.length-1) (by omega),fun h=>?_⟩;obtain ⟨_,_,_,e1,e2⟩:=hmid h;rw [e1,e2];exact ⟨(hc 1 (by omega)).1,(hc (sp.length-2) (by omega)).2⟩
    have hms:2<sp.length→(sp.getD 1 (0,0)).1≤(sp.getD (sp.length-2) (0,0)).2∧(sp.getD (sp.length-2) (0,0)).2≤s.size:=fun h=>(hmid h).1;clear HX hmid hcov;obtain ⟨x0,hx0⟩:∃x,sp[0]=x:=⟨_,rfl⟩;obtain ⟨x3,hx3⟩:∃x,sp[sp.length-1]=x:=⟨_,rfl⟩;obtain ⟨u1,hu1⟩:∃x,(sp.getD 1 (0,0)).1=x:=⟨_,rfl⟩;obtain ⟨u2,hu2⟩:∃x,(sp.getD (sp.length-2) (0,0)).2=x:=⟨_,rfl⟩;rw [hx0] at A0 HC ⊢;rw [hx3] at A3 HC ⊢;rw [hu1,hu2] at hms HC ⊢;clear hx0 hx3 hu1 hu2;obtain ⟨a1,a2⟩:=x0;obtain ⟨d1,d2⟩:=x3;obtain ⟨A1,A2⟩:=A0;obtain ⟨D1,D2⟩:=A3;dsimp only at A1 A2 D1 D2 HC;obtain ⟨n,hn⟩:∃n,sp.length=n:=⟨_,rfl⟩
    have HP':Hid (∀w,Calls EL 231 #[.string s,.bool bl] w fun e w'=>∃b c,e=.returned (.tuple #[.slice (some ⟨b,0,none⟩) n c,.bool true])∧b<w'.heap.size∧(w'.cell? ⟨b,0,none⟩=some (.int .i64 (a1:Nat))∧w'.cell? ⟨b,1,none⟩=some (.int .i64 (a2:Nat)))∧
     (w'.cell? ⟨b,(n-1)*2,none⟩=some (.int .i64 (d1:Nat))∧w'.cell? ⟨b,(n-1)*2+1,none⟩=some (.int .i64 (d2:Nat)))∧
     (2<n→w'.cell? ⟨b,2,none⟩=some (.int .i64 (u1:Nat))∧w'.cell? ⟨b,(n-2)*2+1,none⟩=some (.int .i64 (u2:Nat)))∧Below w.heap.size w w'):=Bo fun w=>(HP.out w).mono (by
     rintro e w' ⟨⟨a,c,rfl,hS⟩,hb⟩;obtain ⟨b,rfl,hlt,h0,h1,h2⟩:=HC.out w' a hS;rw [hn] at h1 h2 ⊢;exact ⟨b,c,rfl,hlt,h0,h1,h2,hb⟩)
    rw [hn] at h2 hms hle ⊢;clear HC HP hn;have hn2:¬(n:Int)<2:=by omega
    obtain ⟨k,hk⟩:∃k,n=k+1:=⟨n-1,by omega⟩;have e1:n-1=k:=by omega
    rw [e1] at HP';have i1:IntKind.i64.wrap ((n:Int)-1)=(k:Int):=by rw [wrap_in _ (by omega) (by omega)];omega
    have i2:(k:Int)<(n:Int):=by omega
    have i3:k<n:=by omega
    have i4:0<n:=by omega
    have HKN:=Bo hk;clear hk e1;obtain ⟨M,hM⟩:∃M,ba (if 2<n then ext s.data.toList (u1,u2) else [])=M:=⟨_,rfl⟩;rw [ext_ba,ext_ba,hM];have HM:=Bo hM;clear hM;have j1:(a1:Int)≤(a2:Int):=by omega
    have j2:(a2:Int)≤(s.size:Int):=by omega
    have j3:(d1:Int)≤(d2:Int):=by omega
    have j4:(d2:Int)≤(s.size:Int):=by omega
    have J1:a1≤a2:=by omega
    have J3:d1≤d2:=by omega
    go_enter Tryz.func210,Tryz.ntmps210
    go_wp2_with (go_at_call 231;with_reducible refine (HP'.out _).mono ?_;rintro e w1 ⟨b,c,rfl,hbl,⟨h0,h1⟩,⟨h2',h3⟩,h4,hb⟩);clear HP';refine Tree.region (.quiet 0 (.quiet 1 (.quiet 2 (.quiet 3 (.quiet 4 (.quiet 5 (.quiet 6 (.quiet 7 (.two 8 (.act 9 (.act 10 (.act 11 .done))) 9 (.act 8 (.act 10 (.act 11 .done)))))))))))) (fun w'=>Below w1.heap.size w1 w') (by kernel_rfl) (by kernel_rfl) (fun _ _ d _ _ h=>by cases d<;>exact h) (Aj (Am _ _) 1) ?_;simp only [DU,DV,BR,BQ];have hq:∀w',Below w1.heap.size w1 w'→w'.cell? ⟨b,0,none⟩=some (.int .i64 (a1:Nat))∧w'.cell? ⟨b,1,none⟩=some (.int .i64 (a2:Nat))∧w'.cell? ⟨b,k*2,none⟩=some (.int .i64 (d1:Nat))∧w'.cell? ⟨b,k*2+1,none⟩=some (.int .i64 (d2:Nat)):=fun w' hS=>⟨(hS.cell (p:=⟨b,0,none⟩) hbl).trans h0,(hS.cell (p:=⟨b,1,none⟩) hbl).trans h1,(hS.cell (p:=⟨b,k*2,none⟩) hbl).trans h2',(hS.cell (p:=⟨b,k*2+1,none⟩) hbl).trans h3⟩
    iterate 8
     refine DW (by rfl) ?_ ?_ ?_
     rotate_left 1
     ·intro w' hS;obtain ⟨q0,q1,q2,q3⟩:=hq w' hS;go_simp;with_reducible rfl
     simp only [Ab,C7,CA,C9]
    have hW:Below w1.heap.size w1 (World.drewN w1 1):=Aj (Am _ _) 1;generalize World.drewN w1 1=W at *;have hWs:=hW.size;refine Tree.both ?_ ?_
    ·iterate 4
      refine DS (by rfl) (fun K hK=>?_);go_simp;refine hK _ _ ?_ ?_
      ·first
        | exact hW.alloc hW.size _
        | exact (hW.alloc hW.size _).alloc (by simp;omega) _
        | exact (((hW.alloc hW.size _).alloc (by simp;omega) _).setCell (by first | exact hWs | omega) _).setCell (by first | exact hWs | omega) _
        | exact (((((hW.alloc hW.size _).alloc (by simp;omega) _).setCell (by first | exact hWs | omega) _).setCell (by first | exact hWs | omega) _).setCell (by first | exact hWs | omega) _).setCell (by first | exact hWs | omega) _
        | trace_state
      clear hK K
     refine DT ?_;have hWF:Below w1.heap.size w1 ((W.alloc (.cells #[.int .i64 (a1:Nat),.int .i64 (a2:Nat)] 235)).alloc (.cells #[.int .i64 (d1:Nat),.int .i64 (d2:Nat)] 235)):=(hW.alloc hW.size _).alloc (by simp;omega) _;have p0:((W.alloc (.cells #[.int .i64 (a1:Nat),.int .i64 (a2:Nat)] 235)).alloc (.cells #[.int .i64 (d1:Nat),.int .i64 (d2:Nat)] 235)).cell? ⟨W.heap.size,0,none⟩=some (.int .i64 (a1:Nat)):=by go_simp
     have p1:((W.alloc (.cells #[.int .i64 (a1:Nat),.int .i64 (a2:Nat)] 235)).alloc (.cells #[.int .i64 (d1:Nat),.int .i64 (d2:Nat)] 235)).cell? ⟨W.heap.size,1,none⟩=some (.int .i64 (a2:Nat)):=by go_simp
     have p2:((W.alloc (.cells #[.int .i64 (a1:Nat),.int .i64 (a2:Nat)] 235)).alloc (.cells #[.int .i64 (d1:Nat),.int .i64 (d2:Nat)] 235)).cell? ⟨W.heap.size+1,0,none⟩=some (.int .i64 (d1:Nat)):=by go_simp
     have p3:((W.alloc (.cells #[.int .i64 (a1:Nat),.int .i64 (a2:Nat)] 235)).alloc (.cells #[.int .i64 (d1:Nat),.int .i64 (d2:Nat)] 235)).cell? ⟨W.heap.size+1,1,none⟩=some (.int .i64 (d2:Nat)):=by go_simp
     generalize (W.alloc (.cells #[.int .i64 (a1:Nat),.int .i64 (a2:Nat)] 235)).alloc (.cells #[.int .i64 (d1:Nat),.int .i64 (d2:Nat)] 235)=WF at *;exact XXM4O
    ·iterate 4
      refine DS (by rfl) (fun K hK=>?_);go_simp;refine hK _ _ ?_ ?_
      ·first
        | exact hW.alloc hW.size _
        | exact (hW.alloc hW.size _).alloc (by simp;omega) _
        | exact (((hW.alloc hW.size _).alloc (by simp;omega) _).setCell (by first | exact hWs | omega) _).setCell (by first | exact hWs | omega) _
        | exact (((((hW.alloc hW.size _).alloc (by simp;omega) _).setCell (by first | exact hWs | omega) _).setCell (by first | exact hWs | omega) _).setCell (by first | exact hWs | omega) _).setCell (by first | exact hWs | omega) _
        | trace_state
      clear hK K
     refine DT ?_;have hWF:Below w1.heap.size w1 ((W.alloc (.cells #[.int .i64 (d1:Nat),.int .i64 (d2:Nat)] 235)).alloc (.cells #[.int .i64 (a1:Nat),.int .i64 (a2:Nat)] 235)):=(hW.alloc hW.size _).alloc (by simp;omega) _;have p0:((W.alloc (.cells #[.int .i64 (d1:Nat),.int .i64 (d2:Nat)] 235)).alloc (.cells #[.int .i64 (a1:Nat),.int .i64 (a2:Nat)] 235)).cell? ⟨W.heap.size,0,none⟩=some (.int .i64 (d1:Nat)):=by go_simp
     have p1:((W.alloc (.cells #[.int .i64 (d1:Nat),.int .i64 (d2:Nat)] 235)).alloc (.cells #[.int .i64 (a1:Nat),.int .i64 (a2:Nat)] 235)).cell? ⟨W.heap.size,1,none⟩=some (.int .i64 (d2:Nat)):=by go_simp
     have p2:((W.alloc (.cells #[.int .i64 (d1:Nat),.int .i64 (d2:Nat)] 235)).alloc (.cells #[.int .i64 (a1:Nat),.int .i64 (a2:Nat)] 235)).cell? ⟨W.heap.size+1,0,none⟩=some (.int .i64 (a1:Nat)):=by go_simp
     have p3:((W.alloc (.cells #[.int .i64 (d1:Nat),.int .i64 (d2:Nat)] 235)).alloc (.cells #[.int .i64 (a1:Nat),.int .i64 (a2:Nat)] 235)).cell? ⟨W.heap.size+1,1,none⟩=some (.int .i64 (a2:Nat)):=by go_simp
     generalize (W.alloc (.cells #[.int .i64 (d1:Nat),.int .i64 (d2:Nat)] 235)).alloc (.cells #[.int .i64 (a1:Nat),.int .i64 (a2:Nat)] 235)=WF at *;exact XXM4O
end code
end Go.Proofs.YtnabkcglnbdfeaaGreatDoor.Rq
namespace Go.Proofs.YtnabkcglnbdfeaaGreatDoor.Rq
open Go.RowKit Base Txt
theorem rpv_cases (c:Cl) (l:List UInt8) :
 (pick c l=none∧∃(M T V:ByteArray) (n:Nat) (ok:Bool),n≤l.length+1∧rpv c.bl l=.tuple #[.string M,.string T,.string V,.int .i64 (n:Nat),.bool ok]∧(ok=false∨(ok=true∧n=2∧c.nv=false)∨(ok=true∧3<n∧c.sp=false)))∨
 (∃m t,pick c l=some (m,t,[])∧c.nv=true∧rpv c.bl l=.tuple #[.string (ba m),.string ⟨#[]⟩,.string (ba t),.int .i64 2,.bool true])∨
 (∃m t v n,pick c l=some (m,t,v)∧v≠ []∧n≤l.length+1∧(n=3∨(3<n∧c.sp=true))∧rpv c.bl l=.tuple #[.string (ba m),.string (ba t),.string (ba v),.int .i64 (n:Nat),.bool true]):=by
 unfold pick rpv;cases hs:spans c.bl l with
 | none=>exact .inl ⟨rfl,_,_,_,0,false,by omega,rfl,.inl rfl⟩
 | some sp=>
   have hle:sp.length≤l.length+1:=pcs_le _ _ _ _ hs;dsimp only;rcases CW sp.length 2 with h2 | h2
   ·rw [if_pos h2,if_neg (by simp;omega),if_neg (by simp;omega)];exact .inl ⟨rfl,_,_,_,_,false,hle,rfl,.inl rfl⟩
   ·rw [if_neg (by omega:¬sp.length<2)];by_cases h3:(sp.length==3|| (decide (3<sp.length)&&c.sp))=true
    ·rw [if_pos h3];have hn:sp.length=3∨(3<sp.length∧c.sp=true):=by simpa using h3
     rw [if_pos (by omega:2<sp.length)]
     refine .inr (.inr ⟨_,_,_,sp.length,rfl,?_,hle,hn,rfl⟩);intro e
     have:=spans_pos hs (sp.length-1) (by omega);rw [getD_at sp _ (by omega)] at e;rw [e] at this;simp at this
    ·rw [if_neg h3];by_cases hv:(sp.length==2&&c.nv)=true
     ·rw [if_pos hv];simp only [An,beq_iff_eq] at hv;obtain ⟨e2,hnv⟩:=hv;rw [e2,if_neg (by decide)]
      exact .inr (.inl ⟨_,_,rfl,hnv,rfl⟩)
     ·rw [if_neg hv];refine .inl ⟨rfl,_,_,_,sp.length,true,hle,rfl,.inr ?_⟩;simp only [Ax,beq_iff_eq,An,decide_eq_true_eq,not_or,not_and,Bool.not_eq_true] at h3 hv;rcases (by omega:sp.length=2∨3<sp.length) with h | h
      ·exact .inl ⟨rfl,h,hv h⟩
      ·exact .inr ⟨rfl,h,h3.2 h⟩
section code
set_option maxHeartbeats 16000000
attribute [local go_sem] Al
theorem XXEuj {P:Prop} (h:P:=by exact bodyPost_ret (v:=.tuple #[.string ⟨#[]⟩,.string ⟨#[]⟩,.int .i64 0,.int .i64 400]) (by simp [results,Tryz.results190,go_sem]) rfl ⟨rfl,Ak HW.out hb⟩):P:=h
set_option maxRecDepth 10000 in
theorem rrequest_parts (s:ByteArray) (p:Nat) (hp:p<4294967296) (x0 x1 x2 x3 x4 x5 x6 x7:Int) (ch old:Bool) (w:World) (hs:s.size≤900000000) (M T V:ByteArray) (n:Nat) (ok:Bool) (hle:n≤s.size+1) (hpv:rpv (Ds p 3) s.data.toList=.tuple #[.string M,.string T,.string V,.int .i64 (n:Nat),.bool ok])
 (hc:ok=false∨(ok=true∧n=2∧Ds p 6=false)∨(ok=true∧3<n∧Ds p 7=false)) (R:List UInt8 × List UInt8 × Nat × Nat) (hR:R=badR) :
 Calls EL 190 #[.string s,.int .u32 (p:Nat),Bnd.bnd x0 x1 x2 x3 x4 x5 x6 x7 ch old] w fun e w'=>e=.returned (rv R)∧Below w.heap.size w w':=by
 have HA0:=Bo (Bnd.At.new w 29 x0 x1 x2 x3 x4 x5 x6 x7 ch old)
 have HG0:=Bo (show w.heap.size<(w.alloc (.cells #[.int .i64 x0,.int .i64 x1,.int .i64 x2,.int .i64 x3,.int .i64 x4,.int .i64 x5,.int .i64 x6,.int .i64 x7,.bool ch,.bool old] 29)).heap.size by simp)
 have HW:=Bo (show Below w.heap.size w (w.alloc (.cells #[.int .i64 x0,.int .i64 x1,.int .i64 x2,.int .i64 x3,.int .i64 x4,.int .i64 x5,.int .i64 x6,.int .i64 x7,.bool ch,.bool old] 29)) from (Am _ _).alloc (CQ _) _)
 have H3:=Bo (fun w=>Du p hp 3 w)
 have H6:=Bo (fun w=>Du p hp 6 w)
 have H7:=Bo (fun w=>Du p hp 7 w)
 have HP:=Bo (fun w=>rparts_any s (Ds p 3) w hs);rw [hpv] at HP;subst hR;clear hpv;generalize Ds p 3=b3 at *;generalize Ds p 6=b6 at *;generalize Ds p 7=b7 at *;rcases hc with rfl | ⟨rfl,rfl,rfl⟩ | ⟨rfl,h3,rfl⟩
 ·go_enter Tryz.func190,Tryz.ntmps190
  go_wp2_with (first
   |(go_at_call 210;with_reducible refine (HP.out _).mono ?_;rintro e w1 ⟨rfl,hb⟩)
   |(go_at_call 53;with_reducible refine Cm (H3.out _) ?_))
  exact XXEuj
 ·go_enter Tryz.func190,Tryz.ntmps190
  go_wp2_with (first
   |(go_at_call 210;with_reducible refine (HP.out _).mono ?_;rintro e w1 ⟨rfl,hb⟩)
   |(go_at_call 53;with_reducible refine Cm (H3.out _) ?_)
   |(go_at_call 53;with_reducible refine Cm (H6.out _) ?_))
  exact XXEuj
 ·have c1:¬(n:Int)<2:=by omega
  have c2:¬(n:Int)=2:=by omega
  have c3:(3:Int)<(n:Int):=by omega
  go_enter Tryz.func190,Tryz.ntmps190
  go_wp2_with (first
   |(go_at_call 210;with_reducible refine (HP.out _).mono ?_;rintro e w1 ⟨rfl,hb⟩)
   |(go_at_call 53;with_reducible refine Cm (H3.out _) ?_)
   |(go_at_call 53;with_reducible refine Cm (H7.out _) ?_))
  exact XXEuj
theorem XXeNQ {P:Prop} (h:P:=by
 go_enter Tryz.func190,Tryz.ntmps190
 go_wp2_with (first
  |(go_at_call 210;with_reducible refine (HP.out _).mono ?_;rintro e w1 ⟨rfl,hb⟩
    have q9:=(HA0.out.below HG0.out hb).q9)
  |(go_at_call 53;with_reducible refine Cm (H3.out _) ?_)
  |(go_at_call 53;with_reducible refine Cm (H6.out _) ?_)
  |(go_at_call 53;with_reducible refine Cm (H7.out _) ?_)
  |(go_at_call 53;with_reducible refine Cm (H8.out _) ?_)
  |(go_at_call 131;with_reducible refine (HA.out _ _ (Ints.one _ _ rfl _ _)).mono ?_;rintro e w2 ⟨rfl,hb2⟩
    replace hb:=Ak (hb.alloc hb.size (.cells #[.int .i64 1] 3)) hb2
    clear hb2 q9;have q9:=(HA0.out.below HG0.out hb).q9)
  |(go_at_call 211;with_reducible refine Cm (HT.out _) ?_)
  |(go_at_call 212;with_reducible refine (HG.out _).mono ?_;rintro e w3 ⟨rfl,hb3⟩
    replace hb:=(Ak hb hb3).alloc (Ak hb hb3).size (.cells #[.int .i64 f,.string h1,.string p1,.string q1,.bool ta] 212)
    clear hb3 q9;have q9:=(HA0.out.below HG0.out hb).q9)
  |(go_at_call 213;with_reducible refine (HV.out _).mono ?_;rintro e w4 ⟨rfl,hb4⟩
    replace hb:=Ak hb hb4
    clear hb4 q9;have q9:=(HA0.out.below HG0.out hb).q9))
 first
  |exact bodyPost_ret (v:=.tuple #[.string ⟨#[]⟩,.string ⟨#[]⟩,.int .i64 0,.int .i64 400]) (by (simp [results,Tryz.results190,go_sem]);first|done|fail) rfl ⟨rfl,Ak HW.out hb⟩
  |exact bodyPost_ret (v:=.tuple #[.string ⟨#[]⟩,.string ⟨#[]⟩,.int .i64 0,.int .i64 505]) (by (simp [results,Tryz.results190,go_sem]);first|done|fail) rfl ⟨rfl,Ak HW.out hb⟩
  |exact bodyPost_ret (v:=.tuple #[.string (ba m),.string (ba t),.int .i64 0,.int .i64 0]) (by (simp [results,Tryz.results190,go_sem]);first|done|fail) rfl ⟨rfl,Ak HW.out hb⟩
  |exact bodyPost_ret (v:=.tuple #[.string (ba m),.string (ba t),.int .i64 1,.int .i64 0]) (by (simp [results,Tryz.results190,go_sem]);first|done|fail) rfl ⟨rfl,Ak HW.out hb⟩):P:=h
set_option maxRecDepth 10000 in
theorem rrequest_two (s:ByteArray) (p:Nat) (hp:p<4294967296) (x0 x1 x2 x3 x4 x5 x6 x7:Int) (ch old:Bool) (w:World) (hs:s.size≤900000000) (m t:List UInt8) (hm0:0<m.length) (hms:m.length≤s.size) (ht0:0<t.length) (hts:t.length≤s.size) (h6:Ds p 6=true)
 (hpv:rpv (Ds p 3) s.data.toList=.tuple #[.string (ba m),.string ⟨#[]⟩,.string (ba t),.int .i64 2,.bool true])
 (R:List UInt8 × List UInt8 × Nat × Nat) (hR:(if (methOk m&&tgtOk (clOf p) m t)=true then (match verL (clOf p) [] with | none=>verR | some k=>if (k==0 && !old)=true then verR else (m,t,k,0)) else badR)=R) :
 Calls EL 190 #[.string s,.int .u32 (p:Nat),Bnd.bnd x0 x1 x2 x3 x4 x5 x6 x7 ch old] w fun e w'=>e=.returned (rv R)∧Below w.heap.size w w':=by
 have HA0:=Bo (Bnd.At.new w 29 x0 x1 x2 x3 x4 x5 x6 x7 ch old)
 have HG0:=Bo (show w.heap.size<(w.alloc (.cells #[.int .i64 x0,.int .i64 x1,.int .i64 x2,.int .i64 x3,.int .i64 x4,.int .i64 x5,.int .i64 x6,.int .i64 x7,.bool ch,.bool old] 29)).heap.size by simp)
 have HW:=Bo (show Below w.heap.size w (w.alloc (.cells #[.int .i64 x0,.int .i64 x1,.int .i64 x2,.int .i64 x3,.int .i64 x4,.int .i64 x5,.int .i64 x6,.int .i64 x7,.bool ch,.bool old] 29)) from (Am _ _).alloc (CQ _) _)
 have H3:=Bo (fun w=>Du p hp 3 w)
 have H6:=Bo (fun w=>Du p hp 6 w)
 have H7:=Bo (fun w=>Du p hp 7 w)
 have HP:=Bo (fun w=>rparts_any s (Ds p 3) w hs)
 have H8:=Bo (fun w=>Du p hp 8 w);rw [hpv] at HP;clear hpv
 have HT:=Bo (fun w=>rbytes_any (ba t) p hp w (by rw [ba_size];omega) (by rw [ba_size];omega))
 have HA:Hid (∀w a,Ints w a 1 [1]→Calls EL 131 #[.string (ba m),.slice a 1 1] w fun e w'=>e=.returned (.bool (Db [1] m))∧Below w.heap.size w w'):=Bo fun w a hk=>(Oct.rall_any (ba m) a 1 1 [1] w (by rw [ba_size];unfold maxLen;omega) hk (by decide)).mono (by rintro e w' ⟨rfl,q,rfl⟩;exact ⟨rfl,Aj (Am _ _) q⟩)
 have HG:=Bo (fun w=>Tgt.rtarget_any (ba m) (ba t) w (by rw [ba_size];omega));have b1:(ba m).data.toList=m:=rfl;have b2:(ba t).data.toList=t:=rfl;rw [b1,b2] at HG;rw [b2] at HT;have hsm:(ba m).size=m.length:=ba_size m;clear b1 b2;have htk:tgtOk (clOf p) m t=(tgtB (clOf p) t&&(Ds p 7||Ds p 8|| (DP m t).isSome)):=rfl;have hmk:methOk m=(decide (m.length≤32)&&Db [1] m):=rfl;rw [htk,hmk] at hR;clear htk hmk;generalize Db [1] m=al at *;generalize tgtB (clOf p) t=tb at *;have hv2:verL (clOf p) []=some 0:=by unfold verL;rw [if_pos rfl]
 rw [hv2] at hR;dsimp only at hR;clear hv2;have hans:∃(f:Int) (h1 p1 q1:ByteArray) (a:Bool) (en:Int),Tgt.ans (DP m t)=.tuple #[Tgt.tv f h1 p1 q1 a,.int .i64 en]∧(en=0∧(DP m t).isSome=true∨en=400∧(DP m t).isSome=false):=by
  cases DP m t with
  | none=>exact ⟨0,Tgt.E0,Tgt.E0,Tgt.E0,false,400,rfl,.inr ⟨rfl,rfl⟩⟩
  | some g=>exact ⟨_,_,_,_,_,0,rfl,.inl ⟨rfl,rfl⟩⟩
 obtain ⟨f,h1,p1,q1,ta,en,hE,hen⟩:=hans;rw [hE] at HG;clear hE;generalize (DP m t).isSome=okp at *;have c0:¬((ba m).size:Int)<1:=by omega
 rw [h6] at H6;clear h6;generalize Ds p 7=b7 at *;generalize Ds p 8=b8 at *;generalize Ds p 3=b3 at *;rcases CW 32 m.length with hl | hl
 ·have c1:(32:Int)<((ba m).size:Int):=by omega
  rw [decide_eq_false (by omega),As,As,if_neg (by decide)] at hR;subst hR;clear HG HT HA hen;exact XXeNQ
 have c1:¬(32:Int)<((ba m).size:Int):=by omega
 rw [decide_eq_true hl,Az] at hR;clear hl hsm;cases al with
 | false=>
   rw [As,if_neg (by decide)] at hR;subst hR;clear HG HT hen;exact XXeNQ
 | true=>
 rw [Az] at hR;cases tb with
 | false=>
   rw [As,if_neg (by decide)] at hR;subst hR;clear HG hen;exact XXeNQ
 | true=>
 rw [Az] at hR;cases b7 with
 | true=>
   rw [Bool.true_or,Bool.true_or,if_pos rfl] at hR;clear HG hen;cases old with
   | false=>
     rw [if_pos (by decide)] at hR;subst hR;exact XXeNQ
   | true=>
     rw [if_neg (by decide)] at hR;subst hR;exact XXeNQ
 | false=>
 cases b8 with
 | true=>
   rw [Bool.or_true,Bool.true_or,if_pos rfl] at hR;clear HG hen;cases old with
   | false=>
     rw [if_pos (by decide)] at hR;subst hR;exact XXeNQ
   | true=>
     rw [if_neg (by decide)] at hR;subst hR;exact XXeNQ
 | false=>
 rw [Bool.or_false,Bool.false_or] at hR;rcases hen with ⟨rfl,rfl⟩ | ⟨rfl,rfl⟩
 ·rw [if_pos rfl] at hR;cases old with
  | false=>
    rw [if_pos (by decide)] at hR;subst hR;exact XXeNQ
  | true=>
    rw [if_neg (by decide)] at hR;subst hR;exact XXeNQ
 ·rw [if_neg (by decide)] at hR;subst hR;exact XXeNQ
theorem XXDJX {P:Prop} (h:P:=by
 rw [hvl] at hR HV0;dsimp only at hR;subst hR;clear hvl
 have HV:Hid (∀w,Calls EL 213 #[.string (ba v),.int .u32 (p:Nat)] w fun e w'=>(∃k:Nat,e=.returned (.tuple #[.int .i64 (k:Int),.bool false]))∧Below w.heap.size w w'):=Bo fun w=>(HV0.out w).mono (by rintro e w' ⟨⟨k,rfl,_⟩,hb⟩;exact ⟨⟨k,rfl⟩,hb⟩);clear HV0;go_enter Tryz.func190,Tryz.ntmps190
 go_wp2_with (first
  |(go_at_call 210;with_reducible refine (HP.out _).mono ?_;rintro e w1 ⟨rfl,hb⟩
    have q9:=(HA0.out.below HG0.out hb).q9)
  |(go_at_call 53;with_reducible refine Cm (H3.out _) ?_)
  |(go_at_call 53;with_reducible refine Cm (H6.out _) ?_)
  |(go_at_call 53;with_reducible refine Cm (H7.out _) ?_)
  |(go_at_call 53;with_reducible refine Cm (H8.out _) ?_)
  |(go_at_call 131;with_reducible refine (HA.out _ _ (Ints.one _ _ rfl _ _)).mono ?_;rintro e w2 ⟨rfl,hb2⟩
    replace hb:=Ak (hb.alloc hb.size (.cells #[.int .i64 1] 3)) hb2
    clear hb2 q9;have q9:=(HA0.out.below HG0.out hb).q9)
  |(go_at_call 211;with_reducible refine Cm (HT.out _) ?_)
  |(go_at_call 212;with_reducible refine (HG.out _).mono ?_;rintro e w3 ⟨rfl,hb3⟩
    replace hb:=(Ak hb hb3).alloc (Ak hb hb3).size (.cells #[.int .i64 f,.string h1,.string p1,.string q1,.bool ta] 212)
    clear hb3 q9;have q9:=(HA0.out.below HG0.out hb).q9)
  |(go_at_call 213;with_reducible refine (HV.out _).mono ?_;rintro e w4 ⟨⟨kk,rfl⟩,hb4⟩
    replace hb:=Ak hb hb4
    clear hb4 q9;have q9:=(HA0.out.below HG0.out hb).q9))
 exact bodyPost_ret (v:=.tuple #[.string ⟨#[]⟩,.string ⟨#[]⟩,.int .i64 0,.int .i64 505]) (by simp [results,Tryz.results190,go_sem]) rfl ⟨rfl,Ak HW.out hb⟩):P:=h
set_option maxRecDepth 10000 in
theorem rrequest_three (s:ByteArray) (p:Nat) (hp:p<4294967296) (x0 x1 x2 x3 x4 x5 x6 x7:Int) (ch old:Bool) (w:World) (hs:s.size≤900000000) (m t:List UInt8) (v:List UInt8) (hm0:0<m.length) (hms:m.length≤s.size) (ht0:0<t.length) (hts:t.length≤s.size) (hv0:0<v.length)
 (hpv:rpv (Ds p 3) s.data.toList=.tuple #[.string (ba m),.string (ba t),.string (ba v),.int .i64 3,.bool true])
 (R:List UInt8 × List UInt8 × Nat × Nat) (hR:(if (methOk m&&tgtOk (clOf p) m t)=true then (match verL (clOf p) v with | none=>verR | some k=>if (k==0 && !old)=true then verR else (m,t,k,0)) else badR)=R) :
 Calls EL 190 #[.string s,.int .u32 (p:Nat),Bnd.bnd x0 x1 x2 x3 x4 x5 x6 x7 ch old] w fun e w'=>e=.returned (rv R)∧Below w.heap.size w w':=by
 have HA0:=Bo (Bnd.At.new w 29 x0 x1 x2 x3 x4 x5 x6 x7 ch old)
 have HG0:=Bo (show w.heap.size<(w.alloc (.cells #[.int .i64 x0,.int .i64 x1,.int .i64 x2,.int .i64 x3,.int .i64 x4,.int .i64 x5,.int .i64 x6,.int .i64 x7,.bool ch,.bool old] 29)).heap.size by simp)
 have HW:=Bo (show Below w.heap.size w (w.alloc (.cells #[.int .i64 x0,.int .i64 x1,.int .i64 x2,.int .i64 x3,.int .i64 x4,.int .i64 x5,.int .i64 x6,.int .i64 x7,.bool ch,.bool old] 29)) from (Am _ _).alloc (CQ _) _)
 have H3:=Bo (fun w=>Du p hp 3 w)
 have H6:=Bo (fun w=>Du p hp 6 w)
 have H7:=Bo (fun w=>Du p hp 7 w)
 have HP:=Bo (fun w=>rparts_any s (Ds p 3) w hs)
 have H8:=Bo (fun w=>Du p hp 8 w);rw [hpv] at HP;clear hpv
 have HT:=Bo (fun w=>rbytes_any (ba t) p hp w (by rw [ba_size];omega) (by rw [ba_size];omega))
 have HA:Hid (∀w a,Ints w a 1 [1]→Calls EL 131 #[.string (ba m),.slice a 1 1] w fun e w'=>e=.returned (.bool (Db [1] m))∧Below w.heap.size w w'):=Bo fun w a hk=>(Oct.rall_any (ba m) a 1 1 [1] w (by rw [ba_size];unfold maxLen;omega) hk (by decide)).mono (by rintro e w' ⟨rfl,q,rfl⟩;exact ⟨rfl,Aj (Am _ _) q⟩)
 have HG:=Bo (fun w=>Tgt.rtarget_any (ba m) (ba t) w (by rw [ba_size];omega));have b1:(ba m).data.toList=m:=rfl;have b2:(ba t).data.toList=t:=rfl;rw [b1,b2] at HG;rw [b2] at HT;have hsm:(ba m).size=m.length:=ba_size m;clear b1 b2;have htk:tgtOk (clOf p) m t=(tgtB (clOf p) t&&(Ds p 7||Ds p 8|| (DP m t).isSome)):=rfl;have hmk:methOk m=(decide (m.length≤32)&&Db [1] m):=rfl;rw [htk,hmk] at hR;clear htk hmk
 have HV0:=Bo (fun w=>rversion_any (ba v) p hp w (by rw [ba_size];exact hv0));have b3:(ba v).data.toList=v:=rfl;rw [b3] at HV0;clear b3;generalize Db [1] m=al at *;generalize tgtB (clOf p) t=tb at *;have hans:∃(f:Int) (h1 p1 q1:ByteArray) (a:Bool) (en:Int),Tgt.ans (DP m t)=.tuple #[Tgt.tv f h1 p1 q1 a,.int .i64 en]∧(en=0∧(DP m t).isSome=true∨en=400∧(DP m t).isSome=false):=by
  cases DP m t with
  | none=>exact ⟨0,Tgt.E0,Tgt.E0,Tgt.E0,false,400,rfl,.inr ⟨rfl,rfl⟩⟩
  | some g=>exact ⟨_,_,_,_,_,0,rfl,.inl ⟨rfl,rfl⟩⟩
 obtain ⟨f,h1,p1,q1,ta,en,hE,hen⟩:=hans;rw [hE] at HG;clear hE;generalize (DP m t).isSome=okp at *;have c0:¬((ba m).size:Int)<1:=by omega
 generalize Ds p 7=b7 at *;generalize Ds p 8=b8 at *;generalize Ds p 6=b6 at *;generalize Ds p 3=b3 at *;rcases CW 32 m.length with hl | hl
 ·have c1:(32:Int)<((ba m).size:Int):=by omega
  rw [decide_eq_false (by omega),As,As,if_neg (by decide)] at hR;subst hR;clear HG HT HA hen;exact XXeNQ
 have c1:¬(32:Int)<((ba m).size:Int):=by omega
 rw [decide_eq_true hl,Az] at hR;clear hl hsm;cases al with
 | false=>
   rw [As,if_neg (by decide)] at hR;subst hR;clear HG HT hen;exact XXeNQ
 | true=>
 rw [Az] at hR;cases tb with
 | false=>
   rw [As,if_neg (by decide)] at hR;subst hR;clear HG hen;exact XXeNQ
 | true=>
 rw [Az] at hR;cases b7 with
 | true=>
   rw [Bool.true_or,Bool.true_or,if_pos rfl] at hR;clear HG hen;cases hvl:verL (clOf p) v with
   | none=>
     exact XXDJX
   | some k=>
     have h01:=verL_01 hvl;rw [hvl] at hR HV0;dsimp only at hR;clear hvl
     have HV:Hid (∀w,Calls EL 213 #[.string (ba v),.int .u32 (p:Nat)] w fun e w'=>e=.returned (.tuple #[.int .i64 (k:Int),.bool true])∧Below w.heap.size w w'):=Bo fun w=>(HV0.out w).mono (by rintro e w' ⟨⟨j,rfl,hj⟩,hb⟩;rw [hj k rfl];exact ⟨rfl,hb⟩);clear HV0;rcases h01 with rfl | rfl
     ·cases old with
      | false=>
        rw [if_pos (by decide)] at hR;subst hR;exact XXeNQ
      | true=>
        rw [if_neg (by decide)] at hR;subst hR;exact XXeNQ
     ·rw [if_neg (by simp)] at hR;subst hR;exact XXeNQ
 | false=>
 cases b8 with
 | true=>
   rw [Bool.or_true,Bool.true_or,if_pos rfl] at hR;clear HG hen;cases hvl:verL (clOf p) v with
   | none=>
     exact XXDJX
   | some k=>
     have h01:=verL_01 hvl;rw [hvl] at hR HV0;dsimp only at hR;clear hvl
     have HV:Hid (∀w,Calls EL 213 #[.string (ba v),.int .u32 (p:Nat)] w fun e w'=>e=.returned (.tuple #[.int .i64 (k:Int),.bool true])∧Below w.heap.size w w'):=Bo fun w=>(HV0.out w).mono (by rintro e w' ⟨⟨j,rfl,hj⟩,hb⟩;rw [hj k rfl];exact ⟨rfl,hb⟩);clear HV0;rcases h01 with rfl | rfl
     ·cases old with
      | false=>
        rw [if_pos (by decide)] at hR;subst hR;exact XXeNQ
      | true=>
        rw [if_neg (by decide)] at hR;subst hR;exact XXeNQ
     ·rw [if_neg (by simp)] at hR;subst hR;exact XXeNQ
 | false=>
 rw [Bool.or_false,Bool.false_or] at hR;rcases hen with ⟨rfl,rfl⟩ | ⟨rfl,rfl⟩
 ·rw [if_pos rfl] at hR;cases hvl:verL (clOf p) v with
  | none=>
    exact XXDJX
  | some k=>
    have h01:=verL_01 hvl;rw [hvl] at hR HV0;dsimp only at hR;clear hvl
    have HV:Hid (∀w,Calls EL 213 #[.string (ba v),.int .u32 (p:Nat)] w fun e w'=>e=.returned (.tuple #[.int .i64 (k:Int),.bool true])∧Below w.heap.size w w'):=Bo fun w=>(HV0.out w).mono (by rintro e w' ⟨⟨j,rfl,hj⟩,hb⟩;rw [hj k rfl];exact ⟨rfl,hb⟩);clear HV0;rcases h01 with rfl | rfl
    ·cases old with
     | false=>
       rw [if_pos (by decide)] at hR;subst hR;exact XXeNQ
     | true=>
       rw [if_neg (by decide)] at hR;subst hR;exact XXeNQ
    ·rw [if_neg (by simp)] at hR;subst hR;exact XXeNQ
 ·rw [if_neg (by decide)] at hR;subst hR;exact XXeNQ
set_option maxRecDepth 10000 in
theorem rrequest_more (s:ByteArray) (p:Nat) (hp:p<4294967296) (x0 x1 x2 x3 x4 x5 x6 x7:Int) (ch old:Bool) (w:World) (hs:s.size≤900000000) (m t:List UInt8) (v:List UInt8) (n:Nat) (hm0:0<m.length) (hms:m.length≤s.size) (ht0:0<t.length) (hts:t.length≤s.size) (hv0:0<v.length) (h3n:3<n) (h7:Ds p 7=true)
 (hpv:rpv (Ds p 3) s.data.toList=.tuple #[.string (ba m),.string (ba t),.string (ba v),.int .i64 (n:Nat),.bool true])
 (R:List UInt8 × List UInt8 × Nat × Nat) (hR:(if (methOk m&&tgtOk (clOf p) m t)=true then (match verL (clOf p) v with | none=>verR | some k=>if (k==0 && !old)=true then verR else (m,t,k,0)) else badR)=R) :
 Calls EL 190 #[.string s,.int .u32 (p:Nat),Bnd.bnd x0 x1 x2 x3 x4 x5 x6 x7 ch old] w fun e w'=>e=.returned (rv R)∧Below w.heap.size w w':=by
 have HA0:=Bo (Bnd.At.new w 29 x0 x1 x2 x3 x4 x5 x6 x7 ch old)
 have HG0:=Bo (show w.heap.size<(w.alloc (.cells #[.int .i64 x0,.int .i64 x1,.int .i64 x2,.int .i64 x3,.int .i64 x4,.int .i64 x5,.int .i64 x6,.int .i64 x7,.bool ch,.bool old] 29)).heap.size by simp)
 have HW:=Bo (show Below w.heap.size w (w.alloc (.cells #[.int .i64 x0,.int .i64 x1,.int .i64 x2,.int .i64 x3,.int .i64 x4,.int .i64 x5,.int .i64 x6,.int .i64 x7,.bool ch,.bool old] 29)) from (Am _ _).alloc (CQ _) _)
 have H3:=Bo (fun w=>Du p hp 3 w)
 have H6:=Bo (fun w=>Du p hp 6 w)
 have H7:=Bo (fun w=>Du p hp 7 w)
 have HP:=Bo (fun w=>rparts_any s (Ds p 3) w hs)
 have H8:=Bo (fun w=>Du p hp 8 w);rw [hpv] at HP;clear hpv
 have HT:=Bo (fun w=>rbytes_any (ba t) p hp w (by rw [ba_size];omega) (by rw [ba_size];omega))
 have HA:Hid (∀w a,Ints w a 1 [1]→Calls EL 131 #[.string (ba m),.slice a 1 1] w fun e w'=>e=.returned (.bool (Db [1] m))∧Below w.heap.size w w'):=Bo fun w a hk=>(Oct.rall_any (ba m) a 1 1 [1] w (by rw [ba_size];unfold maxLen;omega) hk (by decide)).mono (by rintro e w' ⟨rfl,q,rfl⟩;exact ⟨rfl,Aj (Am _ _) q⟩)
 have HG:=Bo (fun w=>Tgt.rtarget_any (ba m) (ba t) w (by rw [ba_size];omega));have b1:(ba m).data.toList=m:=rfl;have b2:(ba t).data.toList=t:=rfl;rw [b1,b2] at HG;rw [b2] at HT;have hsm:(ba m).size=m.length:=ba_size m;clear b1 b2;have htk:tgtOk (clOf p) m t=(tgtB (clOf p) t&&(Ds p 7||Ds p 8|| (DP m t).isSome)):=rfl;have hmk:methOk m=(decide (m.length≤32)&&Db [1] m):=rfl;rw [htk,hmk] at hR;clear htk hmk
 have HV0:=Bo (fun w=>rversion_any (ba v) p hp w (by rw [ba_size];exact hv0));have b3:(ba v).data.toList=v:=rfl;rw [b3] at HV0;clear b3;generalize Db [1] m=al at *;generalize tgtB (clOf p) t=tb at *;have hans:∃(f:Int) (h1 p1 q1:ByteArray) (a:Bool) (en:Int),Tgt.ans (DP m t)=.tuple #[Tgt.tv f h1 p1 q1 a,.int .i64 en]∧(en=0∧(DP m t).isSome=true∨en=400∧(DP m t).isSome=false):=by
  cases DP m t with
  | none=>exact ⟨0,Tgt.E0,Tgt.E0,Tgt.E0,false,400,rfl,.inr ⟨rfl,rfl⟩⟩
  | some g=>exact ⟨_,_,_,_,_,0,rfl,.inl ⟨rfl,rfl⟩⟩
 obtain ⟨f,h1,p1,q1,ta,en,hE,hen⟩:=hans;rw [hE] at HG;clear hE;generalize (DP m t).isSome=okp at *;have c0:¬((ba m).size:Int)<1:=by omega
 have n1:¬(n:Int)<2:=by omega
 have n2:¬(n:Int)=2:=by omega
 have n3:(3:Int)<(n:Int):=by omega
 rw [h7] at H7 hR;clear h7 h3n;generalize Ds p 8=b8 at *;generalize Ds p 6=b6 at *;generalize Ds p 3=b3 at *;rcases CW 32 m.length with hl | hl
 ·have c1:(32:Int)<((ba m).size:Int):=by omega
  rw [decide_eq_false (by omega),As,As,if_neg (by decide)] at hR;subst hR;clear HG HT HA hen;exact XXeNQ
 have c1:¬(32:Int)<((ba m).size:Int):=by omega
 rw [decide_eq_true hl,Az] at hR;clear hl hsm;cases al with
 | false=>
   rw [As,if_neg (by decide)] at hR;subst hR;clear HG HT hen;exact XXeNQ
 | true=>
 rw [Az] at hR;cases tb with
 | false=>
   rw [As,if_neg (by decide)] at hR;subst hR;clear HG hen;exact XXeNQ
 | true=>
 rw [Az] at hR;rw [Bool.true_or,Bool.true_or,if_pos rfl] at hR;clear HG hen;cases hvl:verL (clOf p) v with
 | none=>
   exact XXDJX
 | some k=>
   have h01:=verL_01 hvl;rw [hvl] at hR HV0;dsimp only at hR;clear hvl
   have HV:Hid (∀w,Calls EL 213 #[.string (ba v),.int .u32 (p:Nat)] w fun e w'=>e=.returned (.tuple #[.int .i64 (k:Int),.bool true])∧Below w.heap.size w w'):=Bo fun w=>(HV0.out w).mono (by rintro e w' ⟨⟨j,rfl,hj⟩,hb⟩;rw [hj k rfl];exact ⟨rfl,hb⟩);clear HV0;rcases h01 with rfl | rfl
   ·cases old with
    | false=>
      rw [if_pos (by decide)] at hR;subst hR;exact XXeNQ
    | true=>
      rw [if_neg (by decide)] at hR;subst hR;exact XXeNQ
   ·rw [if_neg (by simp)] at hR;subst hR;exact XXeNQ
theorem rrequest_any (s:ByteArray) (p:Nat) (hp:p<4294967296) (x0 x1 x2 x3 x4 x5 x6 x7:Int) (ch old:Bool) (w:World) (hs:s.size≤900000000) :
 Calls EL 190 #[.string s,.int .u32 (p:Nat),Bnd.bnd x0 x1 x2 x3 x4 x5 x6 x7 ch old] w fun e w'=>e=.returned (rv (request (clOf p) old s.data.toList))∧Below w.heap.size w w':=by
 rcases rpv_cases (clOf p) s.data.toList with ⟨hp1,M,T,V,n,ok,hle,hpv,hc⟩ | ⟨m,t,hp1,hnv,hpv⟩ | ⟨m,t,v,n,hp1,hv,hle,hn,hpv⟩
 ·rw [len] at hle
  exact rrequest_parts s p hp x0 x1 x2 x3 x4 x5 x6 x7 ch old w hs M T V n ok hle hpv hc _ (by unfold request;rw [hp1]<;>rfl)
 ·obtain ⟨z1,z2,z3,z4,_⟩:=pick_some hp1;rw [len] at z2 z4
  exact rrequest_two s p hp x0 x1 x2 x3 x4 x5 x6 x7 ch old w hs m t z1 z2 z3 z4 hnv hpv _ (by unfold request;rw [hp1]<;>rfl)
 ·obtain ⟨z1,z2,z3,z4,_⟩:=pick_some hp1;rw [len] at z2 z4 hle;have hv0:0<v.length:=List.length_pos_iff.2 hv;rcases hn with rfl | ⟨h3,hsp⟩
  ·exact rrequest_three s p hp x0 x1 x2 x3 x4 x5 x6 x7 ch old w hs m t v z1 z2 z3 z4 hv0 hpv _ (by unfold request;rw [hp1]<;>rfl)
  ·exact rrequest_more s p hp x0 x1 x2 x3 x4 x5 x6 x7 ch old w hs m t v n z1 z2 z3 z4 hv0 h3 hsp hpv _ (by unfold request;rw [hp1]<;>rfl)
end code
end Go.Proofs.YtnabkcglnbdfeaaGreatDoor.Rq
namespace Go.Proofs.YtnabkcglnbdfeaaGreatDoor.Par
open Go.RowKit Base Txt Mem
structure Fits (s:S):Prop where
 lines:s.st=1∨s.st=6→s.lines≤1000
 fss:∀y∈s.r.fs,y.1.size≤1000000∧y.2.size≤1000000
 fsl:s.r.fs.length≤500
 tss:∀y∈s.r.ts,y.1.size≤1000000∧y.2.size≤1000000
 tsl:s.r.ts.length≤500
 body:s.r.body.length≤2000000
 out:s.out.length≤1000000000
theorem empty_of {x:ByteArray} (h:x.size=0):x=⟨#[]⟩:=by
 have:x.data.size=0:=h;cases x with
 | mk d=>
   have e:d= #[]:=Array.eq_empty_of_size_eq_zero this;rw [e]
theorem list_ne {x:ByteArray} (h:0<x.size):x.data.toList≠ []:=fun e=>by
 have:x.size=0:=by rw [←len,e];rfl
 omega
section code
set_option maxHeartbeats 4000000
set_option maxRecDepth 20000
attribute [local go_sem] Al
variable {w:World} {B:Zone} {g q:Nat} {v f bd t o:Value} {p:Nat} {b:Bd} {s:S}
theorem ended_size (hp:p<4294967296) (h3:16≤b.x3∧b.x3≤1048576) (h4:0≤b.x4) (x:ByteArray) (hx:x.size≤5000) (h:PR w B g q v f bd t o p b s) (hst:s.st=3) (ok:Fits s):Calls EL 164 #[ptr g,.string x] w fun r w'=>
 r=.returned (.tuple #[])∧∃q1 v1 f1 bd1 t1 o1,PR w' B g q1 v1 f1 bd1 t1 o1 p b (s.ended p b x.data.toList)∧Step (blks g q v f bd t o) (blks g q1 v1 f1 bd1 t1 o1) w w':=by
 have es:s.ended p b x.data.toList=s.chunk p b x.data.toList:=by unfold S.ended;rw [hst];rfl
 rw [es];have c11:=h.cs.c11;rw [hst] at c11;have H:=Bo h;clear es
 have HC:=Bo (chunk_any hp h3 h4 x hx h ok.body);clear h hst;go_enter Tryz.func164,Tryz.ntmps164
 go_wp2_with (go_at_call 193;with_reducible refine HC.out.mono ?_;rintro r w2 ⟨rfl,q1,v1,f1,bd1,t1,hP,hS⟩);go_end0;exact ⟨rfl,q1,v1,f1,bd1,t1,o,hP,hS⟩
theorem XX2R2 {P:Prop} (h:P:=by
 refine ⟨?_,?_,?_,?_,?_,?_,?_,?_,?_,?_,?_,?_,trivial⟩
 all_goals (refine AJ rfl (fun ev w1 hR hb hh=>?_);have e0:=hR.old 0 rfl;have e1:=hR.old 1 rfl;simp only [Af,BY,BQ,BR,Di] at e0 e1;have q16:=(HQ.out.below hb).c 16 _ rfl;have q2:=(HQ.out.below hb).c 2 _ rfl;exact Each.std)):P:=h
theorem ended_fields (hp:p<4294967296) (h3:16≤b.x3∧b.x3≤1048576) (x:ByteArray) (hx:x.size≤5000) (h:PR w B g q v f bd t o p b s) (hst:s.st=1) (ok:Fits s):Calls EL 164 #[ptr g,.string x] w fun r w'=>
 r=.returned (.tuple #[])∧∃q1 v1 f1 bd1 t1 o1,PR w' B g q1 v1 f1 bd1 t1 o1 p b (s.ended p b x.data.toList)∧Step (blks g q v f bd t o) (blks g q1 v1 f1 bd1 t1 o1) w w':=by
 have es:s.ended p b x.data.toList=s.fields p b x.data.toList:=by unfold S.ended;rw [hst];rfl
 rw [es];have c11:=h.cs.c11;rw [hst] at c11;have H:=Bo h;clear es;rcases CO x.size with h0 | h0
 ·obtain rfl:=empty_of h0;have e:s.fields p b (⟨#[]⟩:ByteArray).data.toList=s.over p b:=by unfold S.fields;rfl
  rw [e]
  have HC:=Bo (over_any hp h3 h ok.fsl ok.fss ok.out);clear h hst e;go_enter Tryz.func164,Tryz.ntmps164
  go_wp2_with (go_at_call 191;with_reducible refine HC.out.mono ?_;rintro r w2 ⟨rfl,q1,v1,f1,bd1,t1,o1,hP,hS⟩);refine bodyPost_ret (results_none rfl _ _ _) rfl ?_;exact ⟨rfl,_,_,_,_,_,_,hP,hS⟩
 ·have hne:=list_ne h0;obtain ⟨bf,cbf,eb, -⟩:=CJ h.own.F;subst eb;have te:=Fd.first_no x h0
  have HQ:=Bo ((H.out.drew 1).bk);unfold S.fields;rw [if_neg hne];have hfi:=fun w1 (hb:Below w.heap.size w w1)=>fieldF_any hp x hx b.x1 (h.below hb) (ok.lines (.inl hst)) ok.fss ok.fsl;have hlt:=h.own.lt;cases hfv:fieldV p s.lines s.r.fs x.data.toList b.x1 with
  | inl e=>
    rw [hfv] at hfi;have HFI0:=Bo hfi;clear h hst hne h0 hfv hfi hlt;go_enter Tryz.func164,Tryz.ntmps164;go_upto_region 13 with fail
    refine Each.region 12 [78,79,80,81,82,83,84,85,86,87,88,89] [eP g 0,eP g 0,eP g 0,eP g 13,eP g 16,eQ (.slice bf s.r.fs.length cbf),eQ (.string x),eP g 0,eP g 0,eP g 1,eP g 2,eQ (.int .i64 b.x1)] (.act 12 (.quiet 13 .done)) (by kernel_rfl) (by kernel_rfl) (by kernel_rfl) (by kernel_rfl) (fun _ _ d _ _ h=>by cases d<;>exact h) (by rfl) (by rfl) (by repeat first | exact trivial | refine ⟨AI _,?_⟩) ?_ ?_
    ·exact XX2R2
    intro g1 w2 hb hf;have z78:g1 78= _:=hf.at 0;have z83:g1 83= _:=hf.at 5;have z84:g1 84= _:=hf.at 6;have z89:g1 89= _:=hf.at 11;clear hf;simp only [AM,Ab,C7,CA,C9];rw [z78,z83,z84,z89];simp only [DU,DV,BR,BQ]
    have H1:=Bo (H.out.below hb)
    have HS1:=Bo (DD hb (L:=blks g q v (.slice bf s.r.fs.length cbf) bd t o))
    have HFI:=Bo (HFI0.out _ hb);clear hb HQ
    refine DS (by rfl) (fun K hK=>?_)
    refine Each.oper_enter (g:=192) (args:=#[ptr g,.slice bf s.r.fs.length cbf,.string x,.int .i64 b.x1]) (by go_simp) (HFI.out.mono ?_);rintro r w3 ⟨rfl,hP,hS⟩;refine ⟨_,rfl,?_⟩;refine hK _ _ trivial ?_;clear hK K;simp only [Ab,C7,CA,C9];refine Tree.assign _ (by rfl) (by rfl) ?_;simp only [Ab,Act.eval,Af,BY,BR,BQ,Di,C7,CA,C9];refine DT ?_;have c16:=hP.cs.c16;have z16:=hP.marks 16
    have HP2:=Bo (hP.put 16 nil (S.fail {s with lines:=s.lines+1} e) rfl rfl rfl rfl rfl rfl)
    have HS2:=Bo ((HS1.out.trans hS).trans (DF g 16 nil (by simp)));clear hP hS HFI H1 HS1;go_wp2;go_end0;exact ⟨rfl,_,_,_,_,_,_,HP2.out,HS2.out⟩
  | inr l=>
    rw [hfv] at hfi;have HFI0:=Bo hfi;clear h hst hne h0 hfv hfi hlt;go_enter Tryz.func164,Tryz.ntmps164;go_upto_region 13 with fail
    refine Each.region 12 [78,79,80,81,82,83,84,85,86,87,88,89] [eP g 0,eP g 0,eP g 0,eP g 13,eP g 16,eQ (.slice bf s.r.fs.length cbf),eQ (.string x),eP g 0,eP g 0,eP g 1,eP g 2,eQ (.int .i64 b.x1)] (.act 12 (.quiet 13 .done)) (by kernel_rfl) (by kernel_rfl) (by kernel_rfl) (by kernel_rfl) (fun _ _ d _ _ h=>by cases d<;>exact h) (by rfl) (by rfl) (by repeat first | exact trivial | refine ⟨AI _,?_⟩) ?_ ?_
    ·exact XX2R2
    intro g1 w2 hb hf;have z78:g1 78= _:=hf.at 0;have z83:g1 83= _:=hf.at 5;have z84:g1 84= _:=hf.at 6;have z89:g1 89= _:=hf.at 11;clear hf;simp only [AM,Ab,C7,CA,C9];rw [z78,z83,z84,z89];simp only [DU,DV,BR,BQ]
    have H1:=Bo (H.out.below hb)
    have HS1:=Bo (DD hb (L:=blks g q v (.slice bf s.r.fs.length cbf) bd t o))
    have HFI:=Bo (HFI0.out _ hb);clear hb HQ
    refine DS (by rfl) (fun K hK=>?_)
    refine Each.oper_enter (g:=192) (args:=#[ptr g,.slice bf s.r.fs.length cbf,.string x,.int .i64 b.x1]) (by go_simp) (HFI.out.mono ?_);rintro r w3 ⟨u',rfl,hrow,how,hS⟩;obtain ⟨b9,c9,e9, -⟩:=CJ how.F;subst e9;refine ⟨_,rfl,?_⟩;refine hK _ _ trivial ?_;clear hK K;simp only [Ab,C7,CA,C9];refine Tree.assign _ (by rfl) (by rfl) ?_;simp only [Ab,Act.eval,Af,BY,BR,BQ,Di,C7,CA,C9];refine DT ?_;have c16:=(Cs.of hrow).c16;have z16:=CL hrow 16
    have HR2:=Bo (row_setL hrow 16 (.slice b9 l.length c9))
    have HO2:=Bo (how.set 16 (.slice b9 l.length c9))
    have HS2:=Bo ((HS1.out.trans hS).trans (DF g 16 (.slice b9 l.length c9) (by simp)));clear hrow how hS HFI H1 HS1;go_wp2;go_end0;exact ⟨rfl,_,_,_,_,_,_,⟨HR2.out,HO2.out⟩,HS2.out⟩
theorem XX2Cw {P:Prop} (h:P:=by
 refine ⟨?_,?_,?_,?_,?_,?_,?_,?_,?_,?_,?_,?_,trivial⟩
 all_goals (refine AJ rfl (fun ev w1 hR hb hh=>?_);have e0:=hR.old 0 rfl;have e1:=hR.old 1 rfl;simp only [Af,BY,BQ,BR,Di] at e0 e1;have q19:=(HQ.out.below hb).c 19 _ rfl;have q6:=(HQ.out.below hb).c 6 _ rfl;exact Each.std)):P:=h
theorem ended_trail (hp:p<4294967296) (x:ByteArray) (hx:x.size≤5000) (h:PR w B g q v f bd t o p b s) (hst:s.st=6) (ok:Fits s):Calls EL 164 #[ptr g,.string x] w fun r w'=>
 r=.returned (.tuple #[])∧∃q1 v1 f1 bd1 t1 o1,PR w' B g q1 v1 f1 bd1 t1 o1 p b (s.ended p b x.data.toList)∧Step (blks g q v f bd t o) (blks g q1 v1 f1 bd1 t1 o1) w w':=by
 have es:s.ended p b x.data.toList=s.trail p b x.data.toList:=by unfold S.ended;rw [hst];rfl
 rw [es];have c11:=h.cs.c11;rw [hst] at c11;have H:=Bo h;clear es;rcases CO x.size with h0 | h0
 ·obtain rfl:=empty_of h0;have e:s.trail p b (⟨#[]⟩:ByteArray).data.toList=s.whole p b:=by unfold S.trail;rfl
  rw [e]
  have HC:=Bo (whole_any h ok.out);clear h hst e;go_enter Tryz.func164,Tryz.ntmps164
  go_wp2_with (go_at_call 161;with_reducible refine HC.out.mono ?_;rintro r w2 ⟨rfl,q1,o1,hP,hS⟩);refine bodyPost_ret (results_none rfl _ _ _) rfl ?_;exact ⟨rfl,_,_,_,_,_,_,hP,hS⟩
 ·have hne:=list_ne h0;obtain ⟨bt,cbt,eb, -⟩:=CJ h.own.T;subst eb;have te:=Fd.first_no x h0
  have HQ:=Bo ((H.out.drew 1).bk);unfold S.trail;rw [if_neg hne];have hfi:=fun w1 (hb:Below w.heap.size w w1)=>fieldT_any hp x hx b.x5 (h.below hb) (ok.lines (.inr hst)) ok.tss ok.tsl;have hlt:=h.own.lt;cases hfv:fieldV p s.lines s.r.ts x.data.toList b.x5 with
  | inl e=>
    rw [hfv] at hfi;have HFI0:=Bo hfi;clear h hst hne h0 hfv hfi hlt;go_enter Tryz.func164,Tryz.ntmps164;go_upto_region 18 with fail
    refine Each.region 12 [102,103,104,105,106,107,108,109,110,111,112,113] [eP g 0,eP g 0,eP g 0,eP g 13,eP g 19,eQ (.slice bt s.r.ts.length cbt),eQ (.string x),eP g 0,eP g 0,eP g 1,eP g 6,eQ (.int .i64 b.x5)] (.act 12 (.quiet 13 .done)) (by kernel_rfl) (by kernel_rfl) (by kernel_rfl) (by kernel_rfl) (fun _ _ d _ _ h=>by cases d<;>exact h) (by rfl) (by rfl) (by repeat first | exact trivial | refine ⟨AI _,?_⟩) ?_ ?_
    ·exact XX2Cw
    intro g1 w2 hb hf;have z102:g1 102= _:=hf.at 0;have z107:g1 107= _:=hf.at 5;have z108:g1 108= _:=hf.at 6;have z113:g1 113= _:=hf.at 11;clear hf;simp only [AM,Ab,C7,CA,C9];rw [z102,z107,z108,z113];simp only [DU,DV,BR,BQ]
    have H1:=Bo (H.out.below hb)
    have HS1:=Bo (DD hb (L:=blks g q v f bd (.slice bt s.r.ts.length cbt) o))
    have HFI:=Bo (HFI0.out _ hb);clear hb HQ
    refine DS (by rfl) (fun K hK=>?_)
    refine Each.oper_enter (g:=192) (args:=#[ptr g,.slice bt s.r.ts.length cbt,.string x,.int .i64 b.x5]) (by go_simp) (HFI.out.mono ?_);rintro r w3 ⟨rfl,hP,hS⟩;refine ⟨_,rfl,?_⟩;refine hK _ _ trivial ?_;clear hK K;simp only [Ab,C7,CA,C9];refine Tree.assign _ (by rfl) (by rfl) ?_;simp only [Ab,Act.eval,Af,BY,BR,BQ,Di,C7,CA,C9];refine DT ?_;have c19:=hP.cs.c19;have z19:=hP.marks 19
    have HP2:=Bo (hP.put 19 nil (S.fail {s with lines:=s.lines+1} e) rfl rfl rfl rfl rfl rfl)
    have HS2:=Bo ((HS1.out.trans hS).trans (DF g 19 nil (by simp)));clear hP hS HFI H1 HS1;go_wp2;go_end0;exact ⟨rfl,_,_,_,_,_,_,HP2.out,HS2.out⟩
  | inr l=>
    rw [hfv] at hfi;have HFI0:=Bo hfi;clear h hst hne h0 hfv hfi hlt;go_enter Tryz.func164,Tryz.ntmps164;go_upto_region 18 with fail
    refine Each.region 12 [102,103,104,105,106,107,108,109,110,111,112,113] [eP g 0,eP g 0,eP g 0,eP g 13,eP g 19,eQ (.slice bt s.r.ts.length cbt),eQ (.string x),eP g 0,eP g 0,eP g 1,eP g 6,eQ (.int .i64 b.x5)] (.act 12 (.quiet 13 .done)) (by kernel_rfl) (by kernel_rfl) (by kernel_rfl) (by kernel_rfl) (fun _ _ d _ _ h=>by cases d<;>exact h) (by rfl) (by rfl) (by repeat first | exact trivial | refine ⟨AI _,?_⟩) ?_ ?_
    ·exact XX2Cw
    intro g1 w2 hb hf;have z102:g1 102= _:=hf.at 0;have z107:g1 107= _:=hf.at 5;have z108:g1 108= _:=hf.at 6;have z113:g1 113= _:=hf.at 11;clear hf;simp only [AM,Ab,C7,CA,C9];rw [z102,z107,z108,z113];simp only [DU,DV,BR,BQ]
    have H1:=Bo (H.out.below hb)
    have HS1:=Bo (DD hb (L:=blks g q v f bd (.slice bt s.r.ts.length cbt) o))
    have HFI:=Bo (HFI0.out _ hb);clear hb HQ
    refine DS (by rfl) (fun K hK=>?_)
    refine Each.oper_enter (g:=192) (args:=#[ptr g,.slice bt s.r.ts.length cbt,.string x,.int .i64 b.x5]) (by go_simp) (HFI.out.mono ?_);rintro r w3 ⟨u',rfl,hrow,how,hS⟩;obtain ⟨b9,c9,e9, -⟩:=CJ how.T;subst e9;refine ⟨_,rfl,?_⟩;refine hK _ _ trivial ?_;clear hK K;simp only [Ab,C7,CA,C9];refine Tree.assign _ (by rfl) (by rfl) ?_;simp only [Ab,Act.eval,Af,BY,BR,BQ,Di,C7,CA,C9];refine DT ?_;have c19:=(Cs.of hrow).c19;have z19:=CL hrow 19
    have HR2:=Bo (row_setL hrow 19 (.slice b9 l.length c9))
    have HO2:=Bo (how.set 19 (.slice b9 l.length c9))
    have HS2:=Bo ((HS1.out.trans hS).trans (DF g 19 (.slice b9 l.length c9) (by simp)));clear hrow how hS HFI H1 HS1;go_wp2;go_end0;exact ⟨rfl,_,_,_,_,_,_,⟨HR2.out,HO2.out⟩,HS2.out⟩
theorem XX5kR {P:Prop} (h:P:=by
 go_wp2;first | go_end0 | refine bodyPost_ret (results_none rfl _ _ _) rfl ?_
 first
  |exact ⟨rfl,_,_,_,_,_,_,H2.out,HS.out⟩
  |exact ⟨rfl,_,_,_,_,_,_,H2.out,HS2.out⟩
  |exact ⟨rfl,_,_,_,_,_,_,H7.out,HS7.out⟩):P:=h
theorem ended_first (hp:p<4294967296) (x:ByteArray) (hx:x.size≤5000) (h:PR w B g q v f bd t o p b s) (hst:s.st=0) (he:s.e=0):Calls EL 164 #[ptr g,.string x] w fun r w'=>
 r=.returned (.tuple #[])∧∃q1 v1 f1 bd1 t1 o1,PR w' B g q1 v1 f1 bd1 t1 o1 p b (s.ended p b x.data.toList)∧Step (blks g q v f bd t o) (blks g q1 v1 f1 bd1 t1 o1) w w':=by
 have es:s.ended p b x.data.toList=s.first p b x.data.toList:=by unfold S.ended;rw [hst];rfl
 rw [es];have c11:=h.cs.c11;rw [hst] at c11;have H:=Bo h;clear es;have c25:=h.cs.c25;rw [he] at c25;rcases CO x.size with h0 | h0
 ·obtain rfl:=empty_of h0;have c0:=h.cs.c0
  have HH:=Bo (fun w=>Du p hp 0 w);have c24:=h.cs.c24;have z24:=h.marks 24;cases hb:Ds p 0 with
  | true=>
    have e:s.first p b (⟨#[]⟩:ByteArray).data.toList={s with clean:=true}:=by show (if Ds p 0=true then ({s with clean:=true}:S) else s.fail 400)= _;rw [hb];rfl
    rw [e]
    have H2:=Bo (h.put 24 (.bool true) {s with clean:=true} rfl rfl rfl rfl rfl rfl);rw [hb] at HH;clear h hst e hx h0;go_enter Tryz.func164,Tryz.ntmps164
    go_wp2_with (go_at_call 53;with_reducible refine Cm (HH.out _) ?_);first | go_end0 | refine bodyPost_ret (results_none rfl _ _ _) rfl ?_
    exact ⟨rfl,_,_,_,_,_,_,H2.out,DF g 24 (.bool true) (by simp)⟩
  | false=>
    have e:s.first p b (⟨#[]⟩:ByteArray).data.toList=s.fail 400:=by show (if Ds p 0=true then ({s with clean:=true}:S) else s.fail 400)= _;rw [hb];rfl
    rw [e]
    have HFA:=Bo (fail_at h 400 400 rfl);rw [hb] at HH;clear h hst e hx h0 c24 z24;go_enter Tryz.func164,Tryz.ntmps164
    go_upto_region 5 with (first
     |(go_at_call 118;with_reducible refine HFA.out.mono ?_;rintro r w2 ⟨rfl,hP,hS⟩)
     |(go_at_call 53;with_reducible refine Cm (HH.out _) ?_))
    clear c0 c11 c25;have c25:=hP.cs.c25;have c24:=hP.cs.c24;have z24:=hP.marks 24;have c25':w2.cell? ⟨g,25,none⟩=some (.int .i64 400):=c25;clear c25
    have H2:=Bo (hP.put 24 (.bool false) (s.fail 400) rfl rfl rfl rfl rfl rfl)
    have HS:=Bo (hS.trans (DF g 24 (.bool false) (by simp)));clear hP hS HFA;exact XX5kR
 ·have hne:=list_ne h0;have te:=Fd.first_no x h0
  have HQ:=Bo ((h.drew 1).bk)
  have hz:=fun w=>Rq.rrequest_any x p hp b.x0 b.x1 b.x2 b.x3 b.x4 b.x5 b.x6 b.x7 b.ch b.od w (by omega);unfold S.first;rw [if_neg hne];obtain ⟨⟨m1,t1,qk,qe⟩,hq⟩:∃Q,Rq.request (Rq.clOf p) b.od x.data.toList=Q:=⟨_,rfl⟩;rw [hq] at hz;simp only [Rq.rv] at hz;rw [hq];obtain ⟨qm,hqm⟩:∃qm,ba m1=qm:=⟨_,rfl⟩;obtain ⟨qt,hqt⟩:∃qt,ba t1=qt:=⟨_,rfl⟩;rw [hqm,hqt] at hz;have HZ:=Bo hz;simp only [hqm,hqt];clear hz hq hqm hqt hne h0 hx c25 he hst h;by_cases hqe:qe=0
  ·subst hqe;rw [if_neg (by decide)]
   have HZ:=Bo (show∀w,Calls EL 190 #[.string x,.int .u32 (p:Int),.agg #[.int .i64 b.x0,.int .i64 b.x1,.int .i64 b.x2,.int .i64 b.x3,.int .i64 b.x4,.int .i64 b.x5,.int .i64 b.x6,.int .i64 b.x7,.bool b.ch,.bool b.od]] w fun e w'=>e=.returned (.tuple #[.string qm,.string qt,.int .i64 (qk:Int),.int .i64 0])∧Below w.heap.size w w' from fun w=>HZ.out w);go_enter Tryz.func164,Tryz.ntmps164;go_upto_region 6 with fail
   refine AO 19 [35,36,37,38,39,40,41,42,43,44,34,45,46,47,48,4,5,6,7] [eQ (.string x),eP g 0,eP g 0,eP g 0,eQ (.int .u32 (p:Int)),eP g 0,eP g 0,eP g 1,eQ (.agg #[.int .i64 b.x0,.int .i64 b.x1,.int .i64 b.x2,.int .i64 b.x3,.int .i64 b.x4,.int .i64 b.x5,.int .i64 b.x6,.int .i64 b.x7,.bool b.ch,.bool b.od]),eQ (.tuple #[.string qm,.string qt,.int .i64 (qk:Int),.int .i64 0]),eQ (.tuple #[.string qm,.string qt,.int .i64 (qk:Int),.int .i64 0]),eQ (.string qm),eQ (.string qt),eQ (.int .i64 (qk:Int)),eQ (.int .i64 0),eQ (.string qm),eQ (.string qt),eQ (.int .i64 (qk:Int)),eQ (.int .i64 0)] (by kernel_rfl) (by kernel_rfl) (by kernel_rfl) (by kernel_rfl) (fun _ _ d _ _ h=>by cases d<;>exact h) (by rfl) (by rfl) (by repeat first | exact trivial | refine ⟨AI _,?_⟩) ?_ ?_
   ·refine ⟨?_,?_,?_,?_,?_,?_,?_,?_,?_,?_,?_,?_,?_,?_,?_,?_,?_,?_,?_,trivial⟩
    ·exact XXoMs
    ·exact XXoMs
    ·exact XXoMs
    ·exact XXoMs
    ·exact XXoMs
    ·exact XXoMs
    ·exact XXoMs
    ·exact XXoMs
    ·exact XXoMs
    ·refine AJ rfl (fun ev w1 hR hb hh=>?_);have e35:ev (.tmp 35)= _:=hh.at 0;have e39:ev (.tmp 39)= _:=hh.at 1;have e43:ev (.tmp 43)= _:=hh.at 2;clear hh;have ef:=hR.func
     refine AE 190 #[.string x,.int .u32 (p:Int),.agg #[.int .i64 b.x0,.int .i64 b.x1,.int .i64 b.x2,.int .i64 b.x3,.int .i64 b.x4,.int .i64 b.x5,.int .i64 b.x6,.int .i64 b.x7,.bool b.ch,.bool b.od]] (by go_simp) ((HZ.out w1).mono ?_);exact XXUgj
    ·exact XXoMs
    ·exact XXoMs
    ·exact XXoMs
    ·exact XXoMs
    ·exact XXoMs
    ·exact XXoMs
    ·exact XXoMs
    ·exact XXoMs
    ·exact XXoMs
   intro g1 w2 hb hf;have z4:g1 4= _:=hf.at 15;have z5:g1 5= _:=hf.at 16;have z6:g1 6= _:=hf.at 17;have z7:g1 7= _:=hf.at 18;clear hf;simp only [AM,Ab,C7,CA,C9];rw [z4];rw [z5];rw [z6];rw [z7]
   have H1:=Bo (H.out.below hb);have HS1:=Bo (DD hb (L:=blks g q v f bd t o));clear hb HQ
   have H2:=Bo ((((H1.out.put 13 (.string qm) {s with r:={s.r with m:=qm}} rfl rfl rfl rfl rfl rfl).put 14 (.string qt) {s with r:={s.r with m:=qm,x:=qt}} rfl rfl rfl rfl rfl rfl).put 15 (.int .i64 (qk:Int)) {s with r:={s.r with m:=qm,x:=qt,k:=(qk:Int)}} rfl rfl rfl rfl rfl rfl).put 11 (.int .i64 1) {s with r:={s.r with m:=qm,x:=qt,k:=(qk:Int)},st:=1} rfl rfl rfl rfl rfl rfl)
   have HS2:=Bo (HS1.out.trans ((((DF g 13 (.string qm) (by simp)).trans (DF g 14 (.string qt) (by simp))).trans (DF g 15 (.int .i64 (qk:Int)) (by simp))).trans (DF g 11 (.int .i64 1) (by simp))));clear c11;have c11:=H1.out.cs.c11;have c13:=H1.out.cs.c13;have c14:=H1.out.cs.c14;have c15:=H1.out.cs.c15;have z11:=H1.out.marks 11;have z13:=H1.out.marks 13;have z14:=H1.out.marks 14;have z15:=H1.out.marks 15;exact XX5kR
  ·rw [if_pos hqe];have tz:¬(qe:Int)=0:=by omega
   have tz':((qe:Int)==0)=false:=beq_eq_false_iff_ne.2 tz;clear hqe;go_enter Tryz.func164,Tryz.ntmps164;go_upto_region 6 with fail
   refine AO 19 [35,36,37,38,39,40,41,42,43,44,34,45,46,47,48,4,5,6,7] [eQ (.string x),eP g 0,eP g 0,eP g 0,eQ (.int .u32 (p:Int)),eP g 0,eP g 0,eP g 1,eQ (.agg #[.int .i64 b.x0,.int .i64 b.x1,.int .i64 b.x2,.int .i64 b.x3,.int .i64 b.x4,.int .i64 b.x5,.int .i64 b.x6,.int .i64 b.x7,.bool b.ch,.bool b.od]),eQ (.tuple #[.string qm,.string qt,.int .i64 (qk:Int),.int .i64 (qe:Int)]),eQ (.tuple #[.string qm,.string qt,.int .i64 (qk:Int),.int .i64 (qe:Int)]),eQ (.string qm),eQ (.string qt),eQ (.int .i64 (qk:Int)),eQ (.int .i64 (qe:Int)),eQ (.string qm),eQ (.string qt),eQ (.int .i64 (qk:Int)),eQ (.int .i64 (qe:Int))] (by kernel_rfl) (by kernel_rfl) (by kernel_rfl) (by kernel_rfl) (fun _ _ d _ _ h=>by cases d<;>exact h) (by rfl) (by rfl) (by repeat first | exact trivial | refine ⟨AI _,?_⟩) ?_ ?_
   ·refine ⟨?_,?_,?_,?_,?_,?_,?_,?_,?_,?_,?_,?_,?_,?_,?_,?_,?_,?_,?_,trivial⟩
    ·exact XXoMs
    ·exact XXoMs
    ·exact XXoMs
    ·exact XXoMs
    ·exact XXoMs
    ·exact XXoMs
    ·exact XXoMs
    ·exact XXoMs
    ·exact XXoMs
    ·refine AJ rfl (fun ev w1 hR hb hh=>?_);have e35:ev (.tmp 35)= _:=hh.at 0;have e39:ev (.tmp 39)= _:=hh.at 1;have e43:ev (.tmp 43)= _:=hh.at 2;clear hh;have ef:=hR.func
     refine AE 190 #[.string x,.int .u32 (p:Int),.agg #[.int .i64 b.x0,.int .i64 b.x1,.int .i64 b.x2,.int .i64 b.x3,.int .i64 b.x4,.int .i64 b.x5,.int .i64 b.x6,.int .i64 b.x7,.bool b.ch,.bool b.od]] (by go_simp) ((HZ.out w1).mono ?_);exact XXUgj
    ·exact XXoMs
    ·exact XXoMs
    ·exact XXoMs
    ·exact XXoMs
    ·exact XXoMs
    ·exact XXoMs
    ·exact XXoMs
    ·exact XXoMs
    ·exact XXoMs
   intro g1 w2 hb hf;have z4:g1 4= _:=hf.at 15;have z5:g1 5= _:=hf.at 16;have z6:g1 6= _:=hf.at 17;have z7:g1 7= _:=hf.at 18;clear hf;simp only [AM,Ab,C7,CA,C9];rw [z4];rw [z5];rw [z6];rw [z7]
   have HFA:=Bo (fail_any (H.out.below hb) qe);have HS1:=Bo (DD hb (L:=blks g q v f bd t o));clear hb HQ
   go_wp2_with (go_at_call 118;with_reducible refine HFA.out.mono ?_;rintro r w4 ⟨rfl,hP,hS⟩);first | go_end0 | refine bodyPost_ret (results_none rfl _ _ _) rfl ?_
   exact ⟨rfl,_,_,_,_,_,_,hP,HS1.out.trans hS⟩
theorem XXwO9 {P:Prop} (h:P:=by
 refine DW (by rfl) (ptr g) (fun _ _=>by go_simp) ?_;simp only [Ab,C7,CA,C9];refine DW (by rfl) (.pointer (some ⟨g,11,none⟩)) (fun _ _=>by go_simp) ?_;simp only [Ab,C7,CA,C9];have h1:=H.out.below hb;have ho:=H.out.own.line hb hr1 hq1;have d11:=h1.cs.c11;have z11:=h1.marks 11
 refine DS (by rfl) (fun K hK=>?_);go_simp;refine hK _ _ trivial ?_;clear hK K;refine DW (by rfl) (ptr g) (fun _ _=>by go_simp) ?_;simp only [Ab,C7,CA,C9];refine DW (by rfl) (.pointer (some ⟨g,12,none⟩)) (fun _ _=>by go_simp) ?_;simp only [Ab,C7,CA,C9];have c12:=h1.cs.c12;have z12:=h1.marks 12
 refine DS (by rfl) (fun K hK=>?_);go_simp;refine hK _ _ trivial ?_;clear hK K;refine DT ?_
 have HR:=Bo (row_setL (row_setL h1.row 11 (.int .i64 3)) 12 (ptr q1))
 have HO:=Bo ((ho.set 11 (.int .i64 3)).set 12 (ptr q1))
 have HS:=Bo ((Step.line (g:=g) (q:=q) (v:=v) (f:=f) (bd:=bd) (t:=t) (o:=o) hb hq1).trans ((DF g 11 (.int .i64 3) (by simp)).trans (DF g 12 (ptr q1) (by simp))));clear HQ HBW hr1 hq1 c12 z12 d11 z11 h1 ho hb;go_wp2;first | go_end0 | refine bodyPost_ret (results_none rfl _ _ _) rfl ?_
 exact ⟨rfl,_,_,_,_,_,_,⟨HR.out,HO.out⟩,HS.out⟩):P:=h
theorem ended_behind (x:ByteArray) (h:PR w B g q v f bd t o p b s) (hst:s.st=5):Calls EL 164 #[ptr g,.string x] w fun r w'=>
 r=.returned (.tuple #[])∧∃q1 v1 f1 bd1 t1 o1,PR w' B g q1 v1 f1 bd1 t1 o1 p b (s.ended p b x.data.toList)∧Step (blks g q v f bd t o) (blks g q1 v1 f1 bd1 t1 o1) w w':=by
 have es:s.ended p b x.data.toList={s with st:=3,rd:=nl p b.x0}:=by unfold S.ended;rw [hst];rfl
 rw [es];have c11:=h.cs.c11;rw [hst] at c11;have H:=Bo h;clear es
 have HQ:=Bo ((h.drew 1).bk)
 have HBW:=Bo (show B≤(w.drewN 1).heap.size from CT h.own.ge (CP (h.drew 1).own.lt));clear h hst;go_enter Tryz.func164,Tryz.ntmps164;go_upto_region 21 with fail
 clear c11;refine Each.region_float 12 [122,123,124,125,126,127,128,129,130,131,132,133] [eP g 0,eP g 0,eP g 0,eP g 0,eP g 0,eQ (.int .u32 (p:Int)),eP g 0,eP g 0,eP g 1,eP g 1,eQ (.int .i64 b.x0),fun v u=>∃q1,v=ptr q1∧w.heap.size≤q1∧Ln.Rr u B q1 nil p (nl p (b.x0))] [] 6 (some 1) (.quiet 12 (.quiet 13 (.act 14 (.quiet 15 (.quiet 16 (.act 17 .done)))))) (.quiet 1 (.quiet 12 (.quiet 13 (.act 14 (.quiet 15 (.quiet 16 (.act 17 .done))))))) (by kernel_rfl) (by kernel_rfl) (by kernel_rfl) (by kernel_rfl) (fun k0 h=>by cases h;kernel_rfl) (fun _ _ d _ _ h=>by cases d<;>exact h) (by rfl) (by rfl) ⟨AI _,AI _,AI _,AI _,AI _,AI _,AI _,AI _,AI _,AI _,AI _,((fun _ _ _ hb h=>by obtain ⟨q1,e1,h1,h2⟩:=h;exact ⟨q1,e1,h1,rr_below h2 hb⟩)),trivial⟩ trivial (by rfl) ?_ ?_ ?_
 ·refine ⟨?_,?_,?_,?_,?_,?_,?_,?_,?_,?_,?_,?_,trivial⟩
  ·exact XXSdZ
  ·exact XXSdZ
  ·exact XXSdZ
  ·exact XXSdZ
  ·exact XXSdZ
  ·exact XXSdZ
  ·exact XXSdZ
  ·exact XXSdZ
  ·exact XXSdZ
  ·exact XXSdZ
  ·exact XXSdZ
  ·refine AJ rfl (fun ev w1 hR hb hh=>?_);have e127:ev (.tmp 127)= _:=hh.at 0;have e132:ev (.tmp 132)= _:=hh.at 1;exact XXHuz
 ·intro g1 w2 hb hf;have z122:g1 122= _:=hf.at 0;have z123:g1 123= _:=hf.at 1;have z133:=hf.at 11;clear hf;obtain ⟨q1,e1,hq1,hr1⟩:=z133;simp only [AM,Ab,C7,CA,C9];rw [e1,z122,z123];simp only [DU,DV,BR,BQ];exact XXwO9
 ·intro k0 hk0 g1 w2 hb hf;cases hk0;have z122:g1 122= _:=hf.at 0;have z133:=hf.at 11;clear hf;obtain ⟨q1,e1,hq1,hr1⟩:=z133;simp only [AM,Ab,C7,CA,C9];rw [e1,z122];simp only [DU,DV,BR,BQ];refine DW (by rfl) (ptr g) (fun _ _=>by go_simp) ?_;simp only [Ab,C7,CA,C9];exact XXwO9
end code
end Go.Proofs.YtnabkcglnbdfeaaGreatDoor.Par
namespace Go.Proofs.YtnabkcglnbdfeaaGreatDoor.Par
open Go.RowKit Base Txt Mem
section code
set_option maxHeartbeats 4000000
set_option maxRecDepth 20000
attribute [local go_sem] Al
variable {w:World} {B:Zone} {g q:Nat} {v f bd t o:Value} {p:Nat} {b:Bd} {s:S}
theorem body_any (c:UInt8) (h:PR w B g q v f bd t o p b s) (hst0:s.st=2∨s.st=4) (hl:1≤s.left∧s.left≤2000000) (hbl:s.r.body.length≤2000000) (hout:s.out.length≤1000000000):Calls EL 119 #[ptr g,.int .u8 (c.toNat:Int)] w fun r w'=>
 r=.returned (.tuple #[])∧∃q1 v1 f1 bd1 t1 o1,PR w' B g q1 v1 f1 bd1 t1 o1 p b (S.bodyB p b {s with fresh:=false} c)∧Step (blks g q v f bd t o) (blks g q1 v1 f1 bd1 t1 o1) w w':=by
 obtain ⟨iB,hi,hz0,hz1,hz2⟩:=info_parts byte_info;have I1:=Bo hi;have I2:=Bo hz0;have I3:=Bo hz1;have I4:=Bo hz2;obtain ⟨bb,cb,eb, -⟩:=CJ h.own.D;subst eb;have H:=Bo h;have HBL:=Bo hbl;have HOU:=Bo hout
 have H1:=Bo (h.put 23 (.bool false) {s with fresh:=false} rfl rfl rfl rfl rfl rfl)
 have HS1:=Bo (DF (w:=w) (L:=blks g q v f (.slice bb s.r.body.length cb) t o) g 23 (.bool false) (by simp));have c23:=h.cs.c23;have z23:=h.marks 23;clear hi hz0 hz1 hz2 hbl hout h;by_cases hmore:1<s.left
 ·obtain ⟨k,hleft⟩:∃k,s.left=k+1:=⟨s.left-1,by omega⟩;have e:S.bodyB p b {s with fresh:=false} c={s with fresh:=false,r:={s.r with body:=s.r.body ++ [c]},left:=k}:=by
   unfold S.bodyB;show (if 1<s.left then ({s with fresh:=false,r:={s.r with body:=s.r.body ++ [c]},left:=s.left-1}:S) else _)= _;rw [if_pos hmore,hleft];rfl
  rw [e];obtain ⟨a1,a2⟩:=Dz (k:Int) ⟨by omega,by omega⟩;have a3:(k:Int)+1-1=(k:Int):=by omega
  have t1:(0:Int)<(k:Int):=by omega
  have t1n:0<k:=by omega
  clear e hmore;rcases hst0 with hst | hst
  ·clear hl;have HST:=Bo hst;have HLE:=Bo hleft;clear hst hleft;have c11:w.cell? ⟨g,11,none⟩=some (.int .i64 2):=by have:=H.out.cs.c11;rw [HST.out] at this;exact this
   go_enter Tryz.func119,Tryz.ntmps119;go_upto_region 2 with fail
   generalize w.setCell ⟨g,23,none⟩ (.bool false)=W1 at *;clear c11 c23 z23;have c18:=H1.out.cs.c18;have z18:=H1.out.marks 18;go_upto_region 3 with
    (at_builtin;refine App.wpList_append_list _ rfl _ _ 22 rfl B 5 iB (.int .u8 0) 1 1 Fm I1.out I2.out I3.out I4.out rfl (by decide) (.slice bb s.r.body.length cb) s.r.body.length (Rec.vals s.r.body) rfl (H1.out.own.D.alloc (.cells #[Dy c] 5)) (some ⟨W1.heap.size,0,none⟩) 1 1 [Dy c] rfl rfl (fun _=>⟨W1.heap.size,0,rfl,fun j u hu=>by rw [CX];exact (Dw W1 _ rfl 5 [Dy c]).c j u hu⟩) (fun u hu=>by rw [C1.1 hu];rfl) (by have:=HBL.out;unfold maxLen;omega) (by have:=HBL.out;omega) (by have:=H1.out.own.lt;have:=H1.out.own.ge;simp;omega) ?_;intro v2 w5 hO5 hgr5 _ hor5;obtain ⟨b9,c9,e9, -⟩:=CJ hO5;subst e9;have hk5:Keeps [(.slice bb s.r.body.length cb:Value).ownBlock] (W1.alloc (.cells #[Dy c] 5)) w5:=Bc hgr5 fun k e=>by rw [e];exact C1.2 rfl
     have h4:=H1.out.below ((Am _ _).alloc (CQ _) (.cells #[Dy c] 5));have hl:(s.r.body ++ [c]).length=s.r.body.length+1:=by simp
     obtain ⟨ho5,hs5⟩:=h4.own.setD (bd':=.slice b9 (s.r.body.length+1) c9) (body':=s.r.body ++ [c]) hk5 (by rw [hl,Rec.vals_app];exact hO5) (by
      rcases hor5 with e | e
      ·exact .inl e
      ·exact .inr ⟨_,e,CQ _⟩)
     have hrow:w5.heap[g]?= _:=hk5.row h4.row (fun hm=>by
      have e:some g=(.slice bb s.r.body.length cb:Value).ownBlock:=by simpa using hm
      exact h4.own.lone.ne (i:=0) (j:=4) rfl (by decide) (by rw [e];rfl))
     have HR5:=Bo hrow;have HO5:=Bo ho5;have HS5:=Bo ((DD ((Am W1.heap.size W1).alloc (CQ _) (.cells #[Dy c] 5))).trans hs5);have d18:=row_cellL hrow (k:=18) rfl;have y18:=CL hrow 18;clear hO5 hgr5 hor5 hk5 h4 hl ho5 hs5 hrow c18 z18)
   have H6:=Bo (show PR (w5.setCell ⟨g,18,none⟩ (.slice b9 (s.r.body.length+1) c9)) B g q v f (.slice b9 (s.r.body.length+1) c9) t o p b {s with fresh:=false,r:={s.r with body:=s.r.body ++ [c]}} from ⟨row_setL HR5.out 18 (.slice b9 (s.r.body.length+1) c9),HO5.out.set 18 (.slice b9 (s.r.body.length+1) c9)⟩)
   have HS6:=Bo ((HS1.out.trans HS5.out).trans (DF g 18 (.slice b9 (s.r.body.length+1) c9) (by simp)));clear HR5 HO5 HS5 d18 y18 HS1;generalize w5.setCell ⟨g,18,none⟩ (.slice b9 (s.r.body.length+1) c9)=W6 at *;have c22:W6.cell? ⟨g,22,none⟩=some (.int .i64 ((k:Int)+1)):=by have:=H6.out.cs.c22;rw [HLE.out] at this;exact this
   have z22:=H6.out.marks 22;have c11:W6.cell? ⟨g,11,none⟩=some (.int .i64 2):=by have:=H6.out.cs.c11;rw [HST.out] at this;exact this
   have H7:=Bo (H6.out.put 22 (.int .i64 (k:Int)) {s with fresh:=false,r:={s.r with body:=s.r.body ++ [c]},left:=k} rfl rfl rfl rfl rfl rfl)
   have HS7:=Bo (HS6.out.trans (DF g 22 (.int .i64 (k:Int)) (by simp)));clear HS6 H1;clear H6;exact XX5kR
  ·clear hl;have HST:=Bo hst;have HLE:=Bo hleft;clear hst hleft;have c11:w.cell? ⟨g,11,none⟩=some (.int .i64 4):=by have:=H.out.cs.c11;rw [HST.out] at this;exact this
   go_enter Tryz.func119,Tryz.ntmps119;go_upto_region 2 with fail
   generalize w.setCell ⟨g,23,none⟩ (.bool false)=W1 at *;clear c11 c23 z23;have c18:=H1.out.cs.c18;have z18:=H1.out.marks 18;go_upto_region 3 with
    (at_builtin;refine App.wpList_append_list _ rfl _ _ 22 rfl B 5 iB (.int .u8 0) 1 1 Fm I1.out I2.out I3.out I4.out rfl (by decide) (.slice bb s.r.body.length cb) s.r.body.length (Rec.vals s.r.body) rfl (H1.out.own.D.alloc (.cells #[Dy c] 5)) (some ⟨W1.heap.size,0,none⟩) 1 1 [Dy c] rfl rfl (fun _=>⟨W1.heap.size,0,rfl,fun j u hu=>by rw [CX];exact (Dw W1 _ rfl 5 [Dy c]).c j u hu⟩) (fun u hu=>by rw [C1.1 hu];rfl) (by have:=HBL.out;unfold maxLen;omega) (by have:=HBL.out;omega) (by have:=H1.out.own.lt;have:=H1.out.own.ge;simp;omega) ?_;intro v2 w5 hO5 hgr5 _ hor5;obtain ⟨b9,c9,e9, -⟩:=CJ hO5;subst e9;have hk5:Keeps [(.slice bb s.r.body.length cb:Value).ownBlock] (W1.alloc (.cells #[Dy c] 5)) w5:=Bc hgr5 fun k e=>by rw [e];exact C1.2 rfl
     have h4:=H1.out.below ((Am _ _).alloc (CQ _) (.cells #[Dy c] 5));have hl:(s.r.body ++ [c]).length=s.r.body.length+1:=by simp
     obtain ⟨ho5,hs5⟩:=h4.own.setD (bd':=.slice b9 (s.r.body.length+1) c9) (body':=s.r.body ++ [c]) hk5 (by rw [hl,Rec.vals_app];exact hO5) (by
      rcases hor5 with e | e
      ·exact .inl e
      ·exact .inr ⟨_,e,CQ _⟩)
     have hrow:w5.heap[g]?= _:=hk5.row h4.row (fun hm=>by
      have e:some g=(.slice bb s.r.body.length cb:Value).ownBlock:=by simpa using hm
      exact h4.own.lone.ne (i:=0) (j:=4) rfl (by decide) (by rw [e];rfl))
     have HR5:=Bo hrow;have HO5:=Bo ho5;have HS5:=Bo ((DD ((Am W1.heap.size W1).alloc (CQ _) (.cells #[Dy c] 5))).trans hs5);have d18:=row_cellL hrow (k:=18) rfl;have y18:=CL hrow 18;clear hO5 hgr5 hor5 hk5 h4 hl ho5 hs5 hrow c18 z18)
   have H6:=Bo (show PR (w5.setCell ⟨g,18,none⟩ (.slice b9 (s.r.body.length+1) c9)) B g q v f (.slice b9 (s.r.body.length+1) c9) t o p b {s with fresh:=false,r:={s.r with body:=s.r.body ++ [c]}} from ⟨row_setL HR5.out 18 (.slice b9 (s.r.body.length+1) c9),HO5.out.set 18 (.slice b9 (s.r.body.length+1) c9)⟩)
   have HS6:=Bo ((HS1.out.trans HS5.out).trans (DF g 18 (.slice b9 (s.r.body.length+1) c9) (by simp)));clear HR5 HO5 HS5 d18 y18 HS1;generalize w5.setCell ⟨g,18,none⟩ (.slice b9 (s.r.body.length+1) c9)=W6 at *;have c22:W6.cell? ⟨g,22,none⟩=some (.int .i64 ((k:Int)+1)):=by have:=H6.out.cs.c22;rw [HLE.out] at this;exact this
   have z22:=H6.out.marks 22;have c11:W6.cell? ⟨g,11,none⟩=some (.int .i64 4):=by have:=H6.out.cs.c11;rw [HST.out] at this;exact this
   have H7:=Bo (H6.out.put 22 (.int .i64 (k:Int)) {s with fresh:=false,r:={s.r with body:=s.r.body ++ [c]},left:=k} rfl rfl rfl rfl rfl rfl)
   have HS7:=Bo (HS6.out.trans (DF g 22 (.int .i64 (k:Int)) (by simp)));clear HS6 H1;clear H6;exact XX5kR
 ·have hleft:s.left=1:=by omega
  rcases hst0 with hst | hst
  ·have e:S.bodyB p b {s with fresh:=false} c=S.whole p b {s with fresh:=false,r:={s.r with body:=s.r.body ++ [c]},left:=0}:=by
    unfold S.bodyB;show (if 1<s.left then _ else if s.st=2 then S.whole p b {s with fresh:=false,r:={s.r with body:=s.r.body ++ [c]},left:=s.left-1} else _)= _;rw [if_neg hmore,if_pos hst,hleft]
   rw [e];clear e hmore hl;have HST:=Bo hst;have HLE:=Bo hleft;clear hst hleft;have c11:w.cell? ⟨g,11,none⟩=some (.int .i64 2):=by have:=H.out.cs.c11;rw [HST.out] at this;exact this
   go_enter Tryz.func119,Tryz.ntmps119;go_upto_region 2 with fail
   generalize w.setCell ⟨g,23,none⟩ (.bool false)=W1 at *;clear c11 c23 z23;have c18:=H1.out.cs.c18;have z18:=H1.out.marks 18;go_upto_region 3 with
    (at_builtin;refine App.wpList_append_list _ rfl _ _ 22 rfl B 5 iB (.int .u8 0) 1 1 Fm I1.out I2.out I3.out I4.out rfl (by decide) (.slice bb s.r.body.length cb) s.r.body.length (Rec.vals s.r.body) rfl (H1.out.own.D.alloc (.cells #[Dy c] 5)) (some ⟨W1.heap.size,0,none⟩) 1 1 [Dy c] rfl rfl (fun _=>⟨W1.heap.size,0,rfl,fun j u hu=>by rw [CX];exact (Dw W1 _ rfl 5 [Dy c]).c j u hu⟩) (fun u hu=>by rw [C1.1 hu];rfl) (by have:=HBL.out;unfold maxLen;omega) (by have:=HBL.out;omega) (by have:=H1.out.own.lt;have:=H1.out.own.ge;simp;omega) ?_;intro v2 w5 hO5 hgr5 _ hor5;obtain ⟨b9,c9,e9, -⟩:=CJ hO5;subst e9;have hk5:Keeps [(.slice bb s.r.body.length cb:Value).ownBlock] (W1.alloc (.cells #[Dy c] 5)) w5:=Bc hgr5 fun k e=>by rw [e];exact C1.2 rfl
     have h4:=H1.out.below ((Am _ _).alloc (CQ _) (.cells #[Dy c] 5));have hl:(s.r.body ++ [c]).length=s.r.body.length+1:=by simp
     obtain ⟨ho5,hs5⟩:=h4.own.setD (bd':=.slice b9 (s.r.body.length+1) c9) (body':=s.r.body ++ [c]) hk5 (by rw [hl,Rec.vals_app];exact hO5) (by
      rcases hor5 with e | e
      ·exact .inl e
      ·exact .inr ⟨_,e,CQ _⟩)
     have hrow:w5.heap[g]?= _:=hk5.row h4.row (fun hm=>by
      have e:some g=(.slice bb s.r.body.length cb:Value).ownBlock:=by simpa using hm
      exact h4.own.lone.ne (i:=0) (j:=4) rfl (by decide) (by rw [e];rfl))
     have HR5:=Bo hrow;have HO5:=Bo ho5;have HS5:=Bo ((DD ((Am W1.heap.size W1).alloc (CQ _) (.cells #[Dy c] 5))).trans hs5);have d18:=row_cellL hrow (k:=18) rfl;have y18:=CL hrow 18;clear hO5 hgr5 hor5 hk5 h4 hl ho5 hs5 hrow c18 z18)
   have H6:=Bo (show PR (w5.setCell ⟨g,18,none⟩ (.slice b9 (s.r.body.length+1) c9)) B g q v f (.slice b9 (s.r.body.length+1) c9) t o p b {s with fresh:=false,r:={s.r with body:=s.r.body ++ [c]}} from ⟨row_setL HR5.out 18 (.slice b9 (s.r.body.length+1) c9),HO5.out.set 18 (.slice b9 (s.r.body.length+1) c9)⟩)
   have HS6:=Bo ((HS1.out.trans HS5.out).trans (DF g 18 (.slice b9 (s.r.body.length+1) c9) (by simp)));clear HR5 HO5 HS5 d18 y18 HS1;generalize w5.setCell ⟨g,18,none⟩ (.slice b9 (s.r.body.length+1) c9)=W6 at *;have c22:W6.cell? ⟨g,22,none⟩=some (.int .i64 1):=by have:=H6.out.cs.c22;rw [HLE.out] at this;exact this
   have z22:=H6.out.marks 22;have c11:W6.cell? ⟨g,11,none⟩=some (.int .i64 2):=by have:=H6.out.cs.c11;rw [HST.out] at this;exact this
   have H7:=Bo (H6.out.put 22 (.int .i64 0) {s with fresh:=false,r:={s.r with body:=s.r.body ++ [c]},left:=0} rfl rfl rfl rfl rfl rfl)
   have HS7:=Bo (HS6.out.trans (DF g 22 (.int .i64 0) (by simp)));clear HS6 H1;clear H6
   have HW:=Bo (whole_any H7.out HOU.out)
   go_wp2_with (go_at_call 161;with_reducible refine HW.out.mono ?_;rintro r w7 ⟨rfl,q1,o1,hP,hS⟩);first | go_end0 | refine bodyPost_ret (results_none rfl _ _ _) rfl ?_
   exact ⟨rfl,_,_,_,_,_,_,hP,HS7.out.trans hS⟩
  ·have e:S.bodyB p b {s with fresh:=false} c={s with fresh:=false,r:={s.r with body:=s.r.body ++ [c]},left:=0,st:=5,rd:=nl p 0}:=by
    unfold S.bodyB;show (if 1<s.left then _ else if s.st=2 then _ else ({s with fresh:=false,r:={s.r with body:=s.r.body ++ [c]},left:=s.left-1,st:=5,rd:=nl p 0}:S))= _;rw [if_neg hmore,if_neg (by omega),hleft]
   rw [e];clear e hmore hl;have HST:=Bo hst;have HLE:=Bo hleft;clear hst hleft;have c11:w.cell? ⟨g,11,none⟩=some (.int .i64 4):=by have:=H.out.cs.c11;rw [HST.out] at this;exact this
   go_enter Tryz.func119,Tryz.ntmps119;go_upto_region 2 with fail
   generalize w.setCell ⟨g,23,none⟩ (.bool false)=W1 at *;clear c11 c23 z23;have c18:=H1.out.cs.c18;have z18:=H1.out.marks 18;go_upto_region 3 with
    (at_builtin;refine App.wpList_append_list _ rfl _ _ 22 rfl B 5 iB (.int .u8 0) 1 1 Fm I1.out I2.out I3.out I4.out rfl (by decide) (.slice bb s.r.body.length cb) s.r.body.length (Rec.vals s.r.body) rfl (H1.out.own.D.alloc (.cells #[Dy c] 5)) (some ⟨W1.heap.size,0,none⟩) 1 1 [Dy c] rfl rfl (fun _=>⟨W1.heap.size,0,rfl,fun j u hu=>by rw [CX];exact (Dw W1 _ rfl 5 [Dy c]).c j u hu⟩) (fun u hu=>by rw [C1.1 hu];rfl) (by have:=HBL.out;unfold maxLen;omega) (by have:=HBL.out;omega) (by have:=H1.out.own.lt;have:=H1.out.own.ge;simp;omega) ?_;intro v2 w5 hO5 hgr5 _ hor5;obtain ⟨b9,c9,e9, -⟩:=CJ hO5;subst e9;have hk5:Keeps [(.slice bb s.r.body.length cb:Value).ownBlock] (W1.alloc (.cells #[Dy c] 5)) w5:=Bc hgr5 fun k e=>by rw [e];exact C1.2 rfl
     have h4:=H1.out.below ((Am _ _).alloc (CQ _) (.cells #[Dy c] 5));have hl:(s.r.body ++ [c]).length=s.r.body.length+1:=by simp
     obtain ⟨ho5,hs5⟩:=h4.own.setD (bd':=.slice b9 (s.r.body.length+1) c9) (body':=s.r.body ++ [c]) hk5 (by rw [hl,Rec.vals_app];exact hO5) (by
      rcases hor5 with e | e
      ·exact .inl e
      ·exact .inr ⟨_,e,CQ _⟩)
     have hrow:w5.heap[g]?= _:=hk5.row h4.row (fun hm=>by
      have e:some g=(.slice bb s.r.body.length cb:Value).ownBlock:=by simpa using hm
      exact h4.own.lone.ne (i:=0) (j:=4) rfl (by decide) (by rw [e];rfl))
     have HR5:=Bo hrow;have HO5:=Bo ho5;have HS5:=Bo ((DD ((Am W1.heap.size W1).alloc (CQ _) (.cells #[Dy c] 5))).trans hs5);have d18:=row_cellL hrow (k:=18) rfl;have y18:=CL hrow 18;clear hO5 hgr5 hor5 hk5 h4 hl ho5 hs5 hrow c18 z18)
   have H6:=Bo (show PR (w5.setCell ⟨g,18,none⟩ (.slice b9 (s.r.body.length+1) c9)) B g q v f (.slice b9 (s.r.body.length+1) c9) t o p b {s with fresh:=false,r:={s.r with body:=s.r.body ++ [c]}} from ⟨row_setL HR5.out 18 (.slice b9 (s.r.body.length+1) c9),HO5.out.set 18 (.slice b9 (s.r.body.length+1) c9)⟩)
   have HS6:=Bo ((HS1.out.trans HS5.out).trans (DF g 18 (.slice b9 (s.r.body.length+1) c9) (by simp)));clear HR5 HO5 HS5 d18 y18 HS1;generalize w5.setCell ⟨g,18,none⟩ (.slice b9 (s.r.body.length+1) c9)=W6 at *;have c22:W6.cell? ⟨g,22,none⟩=some (.int .i64 1):=by have:=H6.out.cs.c22;rw [HLE.out] at this;exact this
   have z22:=H6.out.marks 22;have c11:W6.cell? ⟨g,11,none⟩=some (.int .i64 4):=by have:=H6.out.cs.c11;rw [HST.out] at this;exact this
   have H7:=Bo (H6.out.put 22 (.int .i64 0) {s with fresh:=false,r:={s.r with body:=s.r.body ++ [c]},left:=0} rfl rfl rfl rfl rfl rfl)
   have HS7:=Bo (HS6.out.trans (DF g 22 (.int .i64 0) (by simp)));clear HS6 H1;clear H6;go_upto_region 4 with fail
   generalize W6.setCell ⟨g,22,none⟩ (.int .i64 0)=W7 at *;clear c22 z22 c11;have c0:=H7.out.cs.c0;have e11:=H7.out.cs.c11;have e12:=H7.out.cs.c12;have z11:=H7.out.marks 11;have z12:=H7.out.marks 12
   have HNL:=Bo (rnew_line (p:=p) B 0 W7 (CT H7.out.own.ge (CP H7.out.own.lt)));go_wp2_with
    (go_at_call 116;with_reducible refine HNL.out.mono ?_;rintro r w8 ⟨q1,rfl,hq1,hr1,hb8⟩
     have d11:=(hb8.cell (p:=⟨g,11,none⟩) H7.out.own.lt).trans e11;have d12:=(hb8.cell (p:=⟨g,12,none⟩) H7.out.own.lt).trans e12;have y11:=(hb8.frozen (p:=⟨g,11,none⟩) H7.out.own.lt).trans z11;have y12:=(hb8.frozen (p:=⟨g,12,none⟩) H7.out.own.lt).trans z12
     have HR8:=Bo ((H7.out.below hb8).row);have HO8:=Bo (H7.out.own.line hb8 hr1 hq1);have HS8:=Bo (HS7.out.trans (Step.line hb8 hq1));clear hb8 hr1 hq1 e11 e12 z11 z12)
   first | go_end0 | refine bodyPost_ret (results_none rfl _ _ _) rfl ?_
   exact ⟨rfl,_,_,_,_,_,_,⟨row_setL (row_setL HR8.out 11 (.int .i64 5)) 12 (ptr q1),(HO8.out.set 11 (.int .i64 5)).set 12 (ptr q1)⟩,HS8.out.trans ((DF g 11 (.int .i64 5) (by simp)).trans (DF g 12 (ptr q1) (by simp)))⟩
end code
end Go.Proofs.YtnabkcglnbdfeaaGreatDoor.Par
namespace Go.Proofs.YtnabkcglnbdfeaaGreatDoor.Par
open Go.RowKit Base Txt Mem
section
variable {w w':World} {B:Zone} {g q:Nat} {v f bd t o:Value} {p:Nat} {rd:Ln.R} {fs ts:List Fld} {body:List UInt8} {out:List Dx}
theorem Own.reader (h:Own w B g q v f bd t o p rd fs body ts out) {v':Value} {rd':Ln.R} (hk:Ln.Kept q v.ownBlock w w') (hm:Ln.Moved w v.ownBlock v'.ownBlock) (hr:Ln.Rr w' B q v' p rd') :
 Own w' B g q v' f bd t o p rd' fs body ts out∧Step (blks g q v f bd t o) (blks g q v' f bd t o) w w'∧Keeps [some q,v.ownBlock] w w':=by
 have hk2:Keeps [some q,v.ownBlock] w w':=Keeps.of_kept hk (by simp) fun k e=>by simp [e]
 have hn:∀i j,i≠1→i≠2→(blks g q v f bd t o)[i]?=some (some j)→some j∉ [some q,v.ownBlock]:=fun i j h1 h2 hj hm=>by exact XXVqF
 have e:blks g q v' f bd t o=(blks g q v f bd t o).set 2 v'.ownBlock:=rfl;have ho:v'.ownBlock=none∨(blks g q v f bd t o)[2]?=some v'.ownBlock∨∃k,v'.ownBlock=some k∧w.heap.size≤k:=by
  rcases hm with e | e | e
  ·exact .inr (.inl (by rw [e];rfl))
  ·exact .inl e
  ·exact .inr (.inr e)
 have hof:Of w (blks g q v f bd t o) (blks g q v' f bd t o):=by rw [e];exact Of.set 2 _ ho
 have hkL:Keeps (blks g q v f bd t o) w w':=hk2.mono fun k hk=>by
  rcases (by simpa using hk:k=q∨some k=v.ownBlock) with e | e
  ·simp [e]
  ·simp [e]
 obtain ⟨ps,h1,h2,h3⟩:=h.O
 refine ⟨⟨hr,hk2.own h.F fun j e=>hn 3 j (by decide) (by decide) (by rw [←e];rfl),hk2.own h.D fun j e=>hn 4 j (by decide) (by decide) (by rw [←e];rfl),hk2.own h.T fun j e=>hn 5 j (by decide) (by decide) (by rw [←e];rfl),
  ⟨ps,h1,fun x hx=>⟨(h2 x hx).1,by
    have hx2:=(h2 x hx).2.keeps hkL
    exact ⟨hx2.reads,fun k hb=>⟨fun hm=>by
     rcases hof k hm with e | e
     ·exact (hx2.far k hb).1 e
     ·exact absurd ((h2 x hx).2.far k hb).2 (by omega),(hx2.far k hb).2⟩,hx2.off⟩⟩,hk2.own h3 fun j e=>hn 6 j (by decide) (by decide) (by rw [←e];rfl)⟩,?_,h.ge,CV h.lt hk2.size,h.zone.of hk2.size hof⟩,⟨hkL,hof⟩,hk2⟩
 rw [e];exact h.lone.set h.in 2 _ ho
theorem PR.reader {b:Bd} {s:S} (h:PR w B g q v f bd t o p b s) {v':Value} {rd':Ln.R} (hk:Ln.Kept q v.ownBlock w w') (hm:Ln.Moved w v.ownBlock v'.ownBlock) (hr:Ln.Rr w' B q v' p rd') :
 PR w' B g q v' f bd t o p b {s with rd:=rd'}∧Step (blks g q v f bd t o) (blks g q v' f bd t o) w w':=by
 obtain ⟨h1,h2,h3⟩:=h.own.reader hk hm hr;refine ⟨⟨h3.row h.row fun hm=>?_,h1⟩,h2⟩;rcases (by simpa using hm:g=q∨some g=v.ownBlock) with e | e
 ·exact absurd (h.own.lone 0 1 g rfl (by rw [e];rfl)) (by decide)
 ·exact absurd (h.own.lone 0 2 g rfl (by rw [e];rfl)) (by decide)
end
section code
set_option maxHeartbeats 4000000
set_option maxRecDepth 20000
attribute [local go_sem] Al
variable {w:World} {B:Zone} {g q:Nat} {v f bd t o:Value} {p:Nat} {b:Bd} {s:S}
theorem XXk4O {P:Prop} (h:P:=by
 clear h hst;go_enter Tryz.func163,Tryz.ntmps163
 go_wp2_with (first
  |(go_at_call 118;with_reducible refine HFA.out.mono ?_;rintro r w2 ⟨rfl,hP,hS⟩)
  |(go_at_call 53;with_reducible refine Cm (HH.out _) ?_))
 first | go_end0 | refine bodyPost_ret (results_none rfl _ _ _) rfl ?_
 exact ⟨rfl,hP,hS⟩):P:=h
theorem long_any (hp:p<4294967296) (c:UInt8) (h:PR w B g q v f bd t o p b s) (hs:s.st=0∨s.st=1∨s.st=3∨s.st=5∨s.st=6) (hb:s.st=5→Ds p 29=false):Calls EL 163 #[ptr g,.int .u8 (c.toNat:Int)] w fun r w'=>
 r=.returned (.tuple #[])∧PR w' B g q v nil nil nil o p b (s.fail (longE s.st))∧Step (blks g q v f bd t o) (blks g q v nil nil nil o) w w':=by
 have HH:=Bo (fun w=>Du p hp 29 w);rcases hs with hst | hst | hst | hst | hst
 ·have e:longE s.st=414:=by rw [hst];rfl
  rw [e];clear hb e;have c11:w.cell? ⟨g,11,none⟩=some (.int .i64 0):=by have:=h.cs.c11;rw [hst] at this;exact this
  have HFA:=Bo (fail_at h 414 414 rfl);exact XXk4O
 ·have e:longE s.st=431:=by rw [hst];rfl
  rw [e];clear hb e;have c11:w.cell? ⟨g,11,none⟩=some (.int .i64 1):=by have:=h.cs.c11;rw [hst] at this;exact this
  have HFA:=Bo (fail_at h 431 431 rfl);exact XXk4O
 ·have e:longE s.st=400:=by rw [hst];rfl
  rw [e];clear hb e;have c11:w.cell? ⟨g,11,none⟩=some (.int .i64 3):=by have:=h.cs.c11;rw [hst] at this;exact this
  have HFA:=Bo (fail_at h 400 400 rfl);exact XXk4O
 ·have e:longE s.st=400:=by rw [hst];rfl
  rw [e];rw [hb hst] at HH;clear hb e;have c11:w.cell? ⟨g,11,none⟩=some (.int .i64 5):=by have:=h.cs.c11;rw [hst] at this;exact this
  have HFA:=Bo (fail_at h 400 400 rfl);have c0:=h.cs.c0;exact XXk4O
 ·have e:longE s.st=431:=by rw [hst];rfl
  rw [e];clear hb e;have c11:w.cell? ⟨g,11,none⟩=some (.int .i64 6):=by have:=h.cs.c11;rw [hst] at this;exact this
  have HFA:=Bo (fail_at h 431 431 rfl);exact XXk4O
end code
end Go.Proofs.YtnabkcglnbdfeaaGreatDoor.Par
namespace Go.Proofs.YtnabkcglnbdfeaaGreatDoor.Par
open Go.RowKit Base Txt Mem
def lined (st:Nat):Prop:=st=0∨st=1∨st=3∨st=5∨st=6
structure LineOk (p:Nat) (q:Ln.R):Prop where
 lf:q.lf=Ds p 1
 cr:q.cr=Ds p 2
 most:q.most≤4096
 len:q.B.length≤q.most
theorem how_plain (q:Ln.R) (c:UInt8) (h:q.CR=false):q.how c=0∨q.how c=1∨q.how c=3∨q.how c=4:=by
 unfold Ln.R.how;rw [h]
 repeat' split
 all_goals simp_all
theorem byte_L (q:Ln.R) (c:UInt8) (h:q.how c=1∨q.how c=2):(q.byte c).L=q.B:=by
 unfold Ln.R.how at h;unfold Ln.R.byte
 repeat' split
 all_goals first | rfl |(exfalso;simp_all)
section code
set_option maxHeartbeats 4000000
set_option maxRecDepth 20000
attribute [local go_sem] Al
variable {w:World} {B:Zone} {g q:Nat} {v f bd t o:Value} {p:Nat} {b:Bd} {s:S}
theorem ended_any (hp:p<4294967296) (h3:16≤b.x3∧b.x3≤1048576) (h4:0≤b.x4) (x:ByteArray) (hx:x.size≤5000) (h:PR w B g q v f bd t o p b s) (hs:lined s.st) (he:s.e=0) (ok:Fits s):Calls EL 164 #[ptr g,.string x] w fun r w'=>
 r=.returned (.tuple #[])∧∃q1 v1 f1 bd1 t1 o1,PR w' B g q1 v1 f1 bd1 t1 o1 p b (s.ended p b x.data.toList)∧Step (blks g q v f bd t o) (blks g q1 v1 f1 bd1 t1 o1) w w':=by
 rcases hs with hst | hst | hst | hst | hst
 ·exact ended_first hp x hx h hst he
 ·exact ended_fields hp h3 x hx h hst ok
 ·exact ended_size hp h3 h4 x hx h hst ok
 ·exact ended_behind x h hst
 ·exact ended_trail hp x hx h hst ok
theorem XXTyB {P:Prop} (h:P:=by
 go_enter Tryz.func119,Tryz.ntmps119;go_upto_region 8 with fail
 generalize w.setCell ⟨g,23,none⟩ (.bool false)=W1 at *;clear c23 z23 c11;have c12:=H1.out.cs.c12
 go_wp2_with (first
  |(go_at_call 164;with_reducible refine (HEN.out _ _ _ HP2.out).mono ?_;rintro r w3 ⟨rfl,q1,v1,f1,bd1,t1,o1,hP3,hS3⟩)
  |(go_at_call 162;with_reducible refine HRB.out.mono ?_;rintro r w2 ⟨v2,rfl,hr2,hk2,hm2⟩
    obtain ⟨hP2,hS2⟩:=H1.out.reader hk2 hm2 hr2
    have HP2:=Bo hP2;have HS2:=Bo (HS1.out.trans hS2);have c11:=hP2.cs.c11;have c12:=hP2.cs.c12;have y4:w2.cell? ⟨q,4,none⟩=some (.string x):=by rw [←HX.out];exact Ln.row_cell hr2.row (k:=4) rfl
    clear hr2 hk2 hm2 hP2 hS2))
 first | go_end0 | refine bodyPost_ret (results_none rfl _ _ _) rfl ?_
 exact ⟨rfl,_,_,_,_,_,_,hP3,HS2.out.trans hS3⟩):P:=h
theorem XXHvt {P:Prop} (h:P:=by
 go_enter Tryz.func119,Tryz.ntmps119;go_upto_region 8 with fail
 generalize w.setCell ⟨g,23,none⟩ (.bool false)=W1 at *;clear c23 z23 c11;have c12:=H1.out.cs.c12;go_wp2_with
  (go_at_call 162;with_reducible refine HRB.out.mono ?_;rintro r w2 ⟨v2,rfl,hr2,hk2,hm2⟩
   obtain ⟨hP2,hS2⟩:=H1.out.reader hk2 hm2 hr2
   have HP2:=Bo hP2;have HS2:=Bo (HS1.out.trans hS2);clear hr2 hk2 hm2 hP2 hS2)
 first | go_end0 | refine bodyPost_ret (results_none rfl _ _ _) rfl ?_
 exact ⟨rfl,_,_,_,_,_,_,HP2.out,HS2.out⟩):P:=h
theorem XXtPE {P:Prop} (h:P:=by exact ⟨rfl,_,_,_,_,_,_,hP3,HS2.out.trans hS3⟩):P:=h
theorem plain_any (hp:p<4294967296) (h3:16≤b.x3∧b.x3≤1048576) (h4:0≤b.x4) (c:UInt8) (h:PR w B g q v f bd t o p b s) (hs:lined s.st) (he:s.e=0) (ok:Fits s) (hl:LineOk p s.rd) (hcr:s.rd.CR=false) (h5:s.st=5→s.rd.how c=4→Ds p 29=false) :
 Calls EL 119 #[ptr g,.int .u8 (c.toNat:Int)] w fun r w'=>r=.returned (.tuple #[])∧∃q1 v1 f1 bd1 t1 o1,PR w' B g q1 v1 f1 bd1 t1 o1 p b (s.plain p b c)∧Step (blks g q v f bd t o) (blks g q1 v1 f1 bd1 t1 o1) w w':=by
 have hbod:bodied s.st=false:=by rcases hs with e | e | e | e | e<;>rw [e]<;>rfl
 have t2:((s.st:Int)==2)=false:=beq_eq_false_iff_ne.2 (by rcases hs with e | e | e | e | e<;>omega)
 have t4:((s.st:Int)==4)=false:=beq_eq_false_iff_ne.2 (by rcases hs with e | e | e | e | e<;>omega);have n2:¬(s.st:Int)=2:=beq_eq_false_iff_ne.1 t2;have n4:¬(s.st:Int)=4:=beq_eq_false_iff_ne.1 t4;have m2:¬s.st=2:=by omega
 have m4:¬s.st=4:=by omega
 have H1:=Bo (h.put 23 (.bool false) {s with fresh:=false} rfl rfl rfl rfl rfl rfl)
 have HS1:=Bo (DF (w:=w) (L:=blks g q v f bd t o) g 23 (.bool false) (by simp));have c23:=h.cs.c23;have z23:=h.marks 23;have c11:=h.cs.c11;have hrb:=Ln.rbyte_any c s.rd hl.most p hp hl.lf hl.cr (w.setCell ⟨g,23,none⟩ (.bool false)) B q v H1.out.own.R;clear h;have hL:s.rd.how c=1→(s.rd.byte c).L.length≤5000:=fun e=>by rw [byte_L s.rd c (.inl e)];have:=hl.len;have:=hl.most;omega
 rcases how_plain s.rd c hcr with hw | hw | hw | hw
 ·have e:s.plain p b c={s with fresh:=false,rd:=s.rd.byte c}:=by unfold S.plain;simp [hbod,hw]
  rw [e];rw [hw] at hrb;have HRB:=Bo hrb;clear e hw hL hrb h5 hbod hs he hl hcr ok;exact XXHvt
 ·have e:s.plain p b c=S.ended p b {s with fresh:=false,rd:=s.rd.byte c} (s.rd.byte c).L:=by unfold S.plain;simp [hbod,hw]
  rw [e];rw [hw] at hrb;have HRB:=Bo hrb;obtain ⟨x,hx⟩:∃x:ByteArray,ba (s.rd.byte c).L=x:=⟨_,rfl⟩;have hxl:(s.rd.byte c).L=x.data.toList:=by rw [←hx];simp [ba]
  have hxs:x.size≤5000:=by rw [←hx,ba_size];exact hL hw
  rw [hxl]
  have HEN:=Bo (fun w2 q1 v1 (h:PR w2 B g q1 v1 f bd t o p b {s with fresh:=false,rd:=s.rd.byte c})=>ended_any hp h3 h4 x hxs h hs he ⟨ok.lines,ok.fss,ok.fsl,ok.tss,ok.tsl,ok.body,ok.out⟩);have HX:=Bo hx;clear e hw hL hrb h5 hbod hs he hl hcr ok hx hxl hxs;exact XXTyB
 ·have e:s.plain p b c=S.fail {s with fresh:=false,rd:=s.rd.byte c} 400:=by unfold S.plain;simp [hbod,hw]
  rw [e];rw [hw] at hrb;have HRB:=Bo hrb
  have HFA:=Bo (fun w2 q1 v1 (h:PR w2 B g q1 v1 f bd t o p b {s with fresh:=false,rd:=s.rd.byte c})=>fail_at h 400 400 rfl);clear e hw hL hrb h5 hbod hs he hl hcr ok;go_enter Tryz.func119,Tryz.ntmps119;go_upto_region 8 with fail
  generalize w.setCell ⟨g,23,none⟩ (.bool false)=W1 at *;clear c23 z23 c11;have c12:=H1.out.cs.c12
  go_wp2_with (first
   |(go_at_call 118;with_reducible refine (HFA.out _ _ _ HP2.out).mono ?_;rintro r w3 ⟨rfl,hP3,hS3⟩)
   |(go_at_call 162;with_reducible refine HRB.out.mono ?_;rintro r w2 ⟨v2,rfl,hr2,hk2,hm2⟩
     obtain ⟨hP2,hS2⟩:=H1.out.reader hk2 hm2 hr2
     have HP2:=Bo hP2;have HS2:=Bo (HS1.out.trans hS2);have c11:=hP2.cs.c11;have c12:=hP2.cs.c12;have y4:=Ln.row_cell hr2.row (k:=4) rfl;clear hr2 hk2 hm2 hP2 hS2))
  first | go_end0 | refine bodyPost_ret (results_none rfl _ _ _) rfl ?_
  exact XXtPE
 ·have e:s.plain p b c=S.fail {s with fresh:=false,rd:=s.rd.byte c} (longE s.st):=by unfold S.plain;simp [hbod,hw]
  rw [e];have h6:=fun e=>h5 e hw;rw [hw] at hrb;have HRB:=Bo hrb
  have HLO:=Bo (fun w2 q1 v1 (h:PR w2 B g q1 v1 f bd t o p b {s with fresh:=false,rd:=s.rd.byte c})=>long_any hp c h hs h6);clear e hw hL hrb h5 h6 hbod hs he hl hcr ok;go_enter Tryz.func119,Tryz.ntmps119;go_upto_region 8 with fail
  generalize w.setCell ⟨g,23,none⟩ (.bool false)=W1 at *;clear c23 z23 c11;have c12:=H1.out.cs.c12
  go_wp2_with (first
   |(go_at_call 163;with_reducible refine (HLO.out _ _ _ HP2.out).mono ?_;rintro r w3 ⟨rfl,hP3,hS3⟩)
   |(go_at_call 162;with_reducible refine HRB.out.mono ?_;rintro r w2 ⟨v2,rfl,hr2,hk2,hm2⟩
     obtain ⟨hP2,hS2⟩:=H1.out.reader hk2 hm2 hr2
     have HP2:=Bo hP2;have HS2:=Bo (HS1.out.trans hS2);have c11:=hP2.cs.c11;have c12:=hP2.cs.c12;have y4:=Ln.row_cell hr2.row (k:=4) rfl;clear hr2 hk2 hm2 hP2 hS2))
  first | go_end0 | refine bodyPost_ret (results_none rfl _ _ _) rfl ?_
  exact XXtPE
end code
end Go.Proofs.YtnabkcglnbdfeaaGreatDoor.Par
namespace Go.Proofs.YtnabkcglnbdfeaaGreatDoor.Par
open Go.RowKit Base Txt Mem
section code
set_option maxHeartbeats 4000000
set_option maxRecDepth 20000
attribute [local go_sem] Al
variable {w:World} {B:Zone} {g q:Nat} {v f bd t o:Value} {p:Nat} {b:Bd} {s:S}
theorem XXJOm {P:Prop} (h:P:=by
 have c25:w.cell? ⟨g,25,none⟩=some (.int .i64 0):=by have:=H.out.cs.c25;rw [he] at this;exact this
 clear hst he;go_enter Tryz.func76,Tryz.ntmps76;go_upto_region 3 with fail
 generalize w.setCell ⟨g,21,none⟩ (.int .i64 ((s.head:Int)+1))=W1 at *;clear c11 c25 c21 z21 a1 a2
 have HQ:=Bo ((H1.out.drew 1).bk);refine AO 10 [35,36,37,38,39,40,41,42,43,44] [eP g 0,eP g 0,eP g 21,eQ (.int .i64 (S1.head:Int)),eP g 0,eP g 0,eP g 1,eP g 3,eQ (.int .i64 b.x2),eQ (.bool false)] (by kernel_rfl) (by kernel_rfl) (by kernel_rfl) (by kernel_rfl) (fun _ _ d _ _ h=>by cases d<;>exact h) (by rfl) (by rfl) (by repeat first | exact trivial | refine ⟨AI _,?_⟩) ?_ ?_
 ·refine ⟨?_,?_,?_,?_,?_,?_,?_,?_,?_,?_,trivial⟩
  all_goals (refine AJ rfl (fun ev w1 hR hb hh=>?_);have e0:=hR.old 0 rfl;simp only [Af,BY,BQ,BR,Di] at e0;have q21:=(HQ.out.below hb).c 21 _ rfl;have q3:=(HQ.out.below hb).c 3 _ rfl;have d1:=HT.out;exact Each.std)
 intro g1 w2 hb hf;have z44:g1 44= _:=hf.at 9;clear hf;simp only [AM,Ab,C7,CA,C9];rw [z44]
 have H2:=Bo (H1.out.below hb);have HS2:=Bo (HS1.out.trans (DD hb));clear hb HQ;have c24:=H2.out.cs.c24;have z24:=H2.out.marks 24
 have H3:=Bo (H2.out.put 24 (.bool false) {S1 with clean:=false} rfl rfl rfl rfl rfl rfl)
 have HS3:=Bo (HS2.out.trans (DF g 24 (.bool false) (by simp)))
 have HB3:=Bo (HB.out _ {S1 with clean:=false} (.inl ⟨HD.out,by rw [←HSS.out],HT.out⟩) H3.out)
 go_wp2_with (go_at_call 119;with_reducible refine HB3.out.mono ?_;rintro r w3 ⟨rfl,q1,v1,f1,bd1,t1,o1,hP,hS⟩);first | go_end0 | refine bodyPost_ret (results_none rfl _ _ _) rfl ?_
 exact ⟨rfl,_,_,_,_,_,_,hP,HS3.out.trans hS⟩):P:=h
theorem XXrum {P:Prop} (h:P:=by
 have c25:w.cell? ⟨g,25,none⟩=some (.int .i64 0):=by have:=H.out.cs.c25;rw [he] at this;exact this
 clear hst he;go_enter Tryz.func76,Tryz.ntmps76;go_upto_region 3 with fail
 generalize w.setCell ⟨g,21,none⟩ (.int .i64 ((s.head:Int)+1))=W1 at *;clear c11 c25 c21 z21 a1 a2
 have HQ:=Bo ((H1.out.drew 1).bk);refine AO 10 [35,36,37,38,39,40,41,42,43,44] [eP g 0,eP g 0,eP g 21,eQ (.int .i64 (S1.head:Int)),eP g 0,eP g 0,eP g 1,eP g 3,eQ (.int .i64 b.x2),eQ (.bool true)] (by kernel_rfl) (by kernel_rfl) (by kernel_rfl) (by kernel_rfl) (fun _ _ d _ _ h=>by cases d<;>exact h) (by rfl) (by rfl) (by repeat first | exact trivial | refine ⟨AI _,?_⟩) ?_ ?_
 ·refine ⟨?_,?_,?_,?_,?_,?_,?_,?_,?_,?_,trivial⟩
  all_goals (refine AJ rfl (fun ev w1 hR hb hh=>?_);have e0:=hR.old 0 rfl;simp only [Af,BY,BQ,BR,Di] at e0;have q21:=(HQ.out.below hb).c 21 _ rfl;have q3:=(HQ.out.below hb).c 3 _ rfl;have d1:=HT.out;exact Each.std)
 intro g1 w2 hb hf;have z44:g1 44= _:=hf.at 9;clear hf;simp only [AM,Ab,C7,CA,C9];rw [z44]
 have HFA:=Bo (fail_at (H1.out.below hb) 431 431 rfl);have HS2:=Bo (HS1.out.trans (DD hb));clear hb HQ
 go_wp2_with (go_at_call 118;with_reducible refine HFA.out.mono ?_;rintro r w3 ⟨rfl,hP,hS⟩);first | go_end0 | refine bodyPost_ret (results_none rfl _ _ _) rfl ?_
 exact ⟨rfl,_,_,_,_,_,_,hP,HS2.out.trans hS⟩):P:=h
theorem count_any (c:UInt8) (G:S→S) (h:PR w B g q v f bd t o p b s) (he:s.e=0) (hh:s.head≤1000000)
 (HB0:∀(w2:World) (s2:S),(headed s.st=true∧s2={s with head:=s.head+1,clean:=false}∧¬b.x2<(s2.head:Int))∨(headed s.st=false∧s2={s with clean:=false})→PR w2 B g q v f bd t o p b s2→Calls EL 119 #[ptr g,.int .u8 (c.toNat:Int)] w2 fun r w'=>
   r=.returned (.tuple #[])∧∃q1 v1 f1 bd1 t1 o1,PR w' B g q1 v1 f1 bd1 t1 o1 p b (G s2)∧Step (blks g q v f bd t o) (blks g q1 v1 f1 bd1 t1 o1) w2 w') :
 Calls EL 76 #[ptr g,.int .u8 (c.toNat:Int)] w fun r w'=>r=.returned (.tuple #[])∧∃q1 v1 f1 bd1 t1 o1,PR w' B g q1 v1 f1 bd1 t1 o1 p b (s.count b G)∧Step (blks g q v f bd t o) (blks g q1 v1 f1 bd1 t1 o1) w w':=by
 have HB:=Bo HB0;have H:=Bo h;unfold S.count;rw [if_neg (by rw [he];decide)];by_cases hd:headed s.st=true
 ·rw [if_pos hd];have hst0:s.st=0∨s.st=1∨s.st=6:=by
   unfold headed at hd;simp only [Ax,beq_iff_eq] at hd;rcases hd with (e | e) | e
   ·exact .inl e
   ·exact .inr (.inl e)
   ·exact .inr (.inr e)
  obtain ⟨a1,a2⟩:=Dz ((s.head:Int)+1) ⟨by omega,by omega⟩;obtain ⟨S1,hS1⟩:∃S1:S,{s with head:=s.head+1}=S1:=⟨_,rfl⟩
  have H1:=Bo (h.put 21 (.int .i64 ((s.head:Int)+1)) {s with head:=s.head+1} rfl rfl rfl rfl rfl rfl)
  have HS1:=Bo (DF (w:=w) (L:=blks g q v f bd t o) g 21 (.int .i64 ((s.head:Int)+1)) (by simp));have c21:=h.cs.c21;have z21:=h.marks 21;have HSS:=Bo hS1;have hd1:((s.head+1:Nat):Int)=(S1.head:Int):=by rw [←hS1]
  have e2:({s with head:=s.head+1,clean:=false}:S)={S1 with clean:=false}:=by rw [←hS1]
  have HD:=Bo hd;rw [hS1] at H1;rw [hd1,hS1,e2];clear h HB0 hS1 hd hh e2 hd1
  by_cases hov:b.x2<(S1.head:Int)
  ·rw [if_pos hov];have HT:=Bo hov;clear hov;rcases hst0 with hst | hst | hst
   ·have c11:w.cell? ⟨g,11,none⟩=some (.int .i64 0):=by have:=H.out.cs.c11;rw [hst] at this;exact this
    exact XXrum
   ·have c11:w.cell? ⟨g,11,none⟩=some (.int .i64 1):=by have:=H.out.cs.c11;rw [hst] at this;exact this
    exact XXrum
   ·have c11:w.cell? ⟨g,11,none⟩=some (.int .i64 6):=by have:=H.out.cs.c11;rw [hst] at this;exact this
    exact XXrum
  ·rw [if_neg hov];have HT:=Bo hov;clear hov;rcases hst0 with hst | hst | hst
   ·have c11:w.cell? ⟨g,11,none⟩=some (.int .i64 0):=by have:=H.out.cs.c11;rw [hst] at this;exact this
    exact XXJOm
   ·have c11:w.cell? ⟨g,11,none⟩=some (.int .i64 1):=by have:=H.out.cs.c11;rw [hst] at this;exact this
    exact XXJOm
   ·have c11:w.cell? ⟨g,11,none⟩=some (.int .i64 6):=by have:=H.out.cs.c11;rw [hst] at this;exact this
    exact XXJOm
 ·rw [if_neg hd];have hn:¬s.st=0∧¬s.st=1∧¬s.st=6:=by
   unfold headed at hd;simp only [Ax,beq_iff_eq,not_or] at hd;exact ⟨hd.1.1,hd.1.2,hd.2⟩
  obtain ⟨n0,n1,n6⟩:=hn
  have t0:((s.st:Int)==0)=false:=beq_eq_false_iff_ne.2 (by omega)
  have t1:((s.st:Int)==1)=false:=beq_eq_false_iff_ne.2 (by omega)
  have t6:((s.st:Int)==6)=false:=beq_eq_false_iff_ne.2 (by omega);have m0:¬(s.st:Int)=0:=by omega
  have m1:¬(s.st:Int)=1:=by omega
  have m6:¬(s.st:Int)=6:=by omega
  have c11:=h.cs.c11;have c25:w.cell? ⟨g,25,none⟩=some (.int .i64 0):=by have:=h.cs.c25;rw [he] at this;exact this
  have c24:=h.cs.c24;have z24:=h.marks 24
  have H3:=Bo (h.put 24 (.bool false) {s with clean:=false} rfl rfl rfl rfl rfl rfl)
  have HS3:=Bo (DF (w:=w) (L:=blks g q v f bd t o) g 24 (.bool false) (by simp))
  have HB3:=Bo (HB.out _ _ (.inr ⟨by simpa using hd,rfl⟩) H3.out);clear h HB0 hd hh he;go_enter Tryz.func76,Tryz.ntmps76
  go_wp2_with (go_at_call 119;with_reducible refine HB3.out.mono ?_;rintro r w3 ⟨rfl,q1,v1,f1,bd1,t1,o1,hP,hS⟩);first | go_end0 | refine bodyPost_ret (results_none rfl _ _ _) rfl ?_
  exact ⟨rfl,_,_,_,_,_,_,hP,HS3.out.trans hS⟩
end code
end Go.Proofs.YtnabkcglnbdfeaaGreatDoor.Par
