import Derived.Test.YtimoakmcelocfaaGreatAub
namespace Go.Proofs.YtimoakmcelocfaaGreat.Txt
open Go.RowKit Base Oct
theorem stands_isIn (set:ByteArray) (x:UInt8):stands set.data.toList (x.toNat:Int)=isIn set x:=by
 unfold stands isIn;rw [Bool.eq_iff_iff,List.any_eq_true,List.contains_iff_exists_mem_beq];constructor
 ·rintro ⟨b,hb,e⟩;exact ⟨b,hb,by rw [beq_iff_eq] at e ⊢;exact (UInt8.toNat_inj.1 (by omega)).symm⟩
 ·rintro ⟨b,hb,e⟩;rw [beq_iff_eq] at e;subst e;exact ⟨x,hb,by simp⟩
def Bytes (w:World) (g:Nat) (l:List UInt8):Prop:=∀j (h:j<l.length),w.cell? ⟨g,j,none⟩=some (.int .u8 (l[j].toNat:Int))∧w.frozen? ⟨g,j,none⟩=false
theorem Bytes.set {w:World} {g:Nat} {l:List UInt8} (h:Bytes w g l) (k:Nat) (b:UInt8):Bytes (w.setCell ⟨g,k,none⟩ (.int .u8 (b.toNat:Int))) g (l.set k b):=by
 intro j hj;rw [List.length_set] at hj;obtain ⟨c,z⟩:=h j hj;refine ⟨?_,by rw [World.frozen?_setCell];exact z⟩;by_cases e:k=j
 ·subst e;rw [World.cell?_setCell_same _ _ _ c,List.getElem_set_self]
 ·rw [World.cell?_setCell_other _ _ _ _ (by simp<;>omega),List.getElem_set_ne e];exact c
theorem conv_bytes (s:ByteArray) (w:World):∃W cap,(convert 9 34 (.string s)).run Tryz.prog w=.ok (.slice (some ⟨w.heap.size,0,none⟩) s.size cap) W∧Bytes W w.heap.size s.data.toList∧w.heap.size<W.heap.size∧Below w.heap.size w W:=by
 have hcv:=run_bytes_of_string (P:=Tryz.prog) w 9 34 5 s Tryz.underlying9 Tryz.underlying34 Tryz.underlying5;refine ⟨_,_,hcv,fun j hj=>?_,by simp,(Below.refl _ _).drew.alloc (Nat.le_refl _) _⟩;have hj':j<s.data.size:=by simpa using hj
 refine ⟨(World.cell?_alloc_mark w.drew _ _ _ j).trans (bytesRow_at s _ j hj'),(World.frozen?_alloc_mark w.drew _ _ _ _ j).trans ?_⟩;have:¬(bytesRow s (grownCap w s.size 0 5)).size≤j:=by unfold bytesRow;rw [Array.size_append,Array.size_map];omega
 simp [this]
theorem mix_put (l:List UInt8) (k:Nat) (h:k<l.length):(mix l k).set k (lowB l[k])=mix l (k+1):=by
 unfold mix low;rw [List.set_append_right _ _ (by simp;omega),List.take_succ_eq_append_getElem h,List.drop_eq_getElem_cons h];have:k-(List.map lowB (List.take k l)).length=0:=by simp;omega
 rw [this,List.set_cons_zero,List.map_append,List.append_assoc];rfl
theorem mix_get (l:List UInt8) (k:Nat) (h:k<l.length):(mix l k)[k]'(by rw [mix_length];exact h)=l[k]:=by
 unfold mix low;rw [List.getElem_append_right (by simp;omega)];have:k-(List.map lowB (List.take k l)).length=0:=by simp;omega
 simp only [this,List.getElem_drop,Nat.add_zero]
theorem mix_skip (l:List UInt8) (k:Nat) (h:k<l.length) (e:lowB l[k]=l[k]):mix l k=mix l (k+1):=by rw [←mix_put l k h,e,←mix_get l k h,List.set_getElem_self]
def tbytes:Value→Nat
 | .string t=>t.size
 | _=>0
section code
set_option maxHeartbeats 1000000
attribute [local go_sem] Base.some_undef
theorem rlower_any (s:ByteArray) (w:World) (hs:s.size≤1099511627776):Calls Tryz.prog 120 #[.string s] w fun e w'=>e=.returned (.string (lower s))∧Below w.heap.size w w':=by
 obtain ⟨W,cap,hcv,hB,hg,hb⟩:=conv_bytes s w
 have hB0:=Lib.hid (show Bytes W w.heap.size (mix s.data.toList 0) by rw [mix_zero];exact hB);have hb0:=Lib.hid hb;clear hB hb;go_enter Tryz.func120,Tryz.ntmps120;go_wp2;clear hcv;generalize hgw:w.heap.size=g at *;have HG:=Lib.hid hgw;clear hgw
 go_loopw [4] (fun i wr=>∃k:Nat,k≤s.size∧i=.int .i64 k∧Hid (Bytes wr g (mix s.data.toList k))∧Hid (Below g w wr)) (fun i _=>s.size-(intOf i).toNat)
 case atStart=>exact ⟨0,Nat.zero_le _,rfl,hB0,hb0⟩
 case round=>
  obtain ⟨k,hk,rfl,hB,hbr⟩:=hrel;rcases Nat.lt_or_ge k s.size with hlt | hge
  ·have hll:k<s.data.toList.length:=by rw [len];exact hlt
   obtain ⟨hc,hz⟩:=hB.out k (by rw [mix_length];exact hll);rw [mix_get _ _ hll] at hc;have i1:(k:Int)<(s.size:Int):=by omega
   have hb0:0≤(s.data.toList[k].toNat:Int):=by omega
   have hb1:=byte_lt s.data.toList[k];by_cases hx:65≤s.data.toList[k].toNat∧s.data.toList[k].toNat≤90
   ·obtain ⟨x0,x1⟩:=hx;have e0:=lowB_toNat s.data.toList[k];have e1:lowN (s.data.toList[k].toNat:Int)=(s.data.toList[k].toNat:Int)+32:=by unfold lowN;rw [if_pos (by omega)]
    have hset:=(hB.out.set k (lowB s.data.toList[k]));rw [mix_put _ _ hll,e0,e1] at hset;have HS:=Lib.hid hset;have y0:(65:Int)≤(s.data.toList[k].toNat:Int):=by omega
    have y1:(s.data.toList[k].toNat:Int)≤90:=by omega
    clear e0 e1 hset x0 x1;generalize (s.data.toList[k].toNat:Int)=x at *;have e2:IntKind.u8.wrap (x+32)=x+32:=by rw [IntKind.wrap_u8];omega
    go_wp2;go_roundw
    case rel=>exact ⟨k+1,by omega,by go_num,HS,Lib.hid (hbr.out.setCell (Nat.le_refl _) _)⟩
    case measure=>simp [intOf];omega
   ·have e0:lowB s.data.toList[k]=s.data.toList[k]:=by unfold lowB;rw [if_neg hx]
    have hB2:=hB.out;rw [mix_skip _ _ hll e0] at hB2;have HS:=Lib.hid hB2;clear hB2 e0;rcases Nat.lt_or_ge s.data.toList[k].toNat 65 with h | h
    ·have y0:¬(65:Int)≤(s.data.toList[k].toNat:Int):=by omega
     generalize (s.data.toList[k].toNat:Int)=x at *;go_wp2;go_roundw
     case rel=>exact ⟨k+1,by omega,by go_num,HS,hbr⟩
     case measure=>simp [intOf];omega
    ·have y0:(65:Int)≤(s.data.toList[k].toNat:Int):=by omega
     have y1:¬(s.data.toList[k].toNat:Int)≤90:=by omega
     generalize (s.data.toList[k].toNat:Int)=x at *;go_wp2;go_roundw
     case rel=>exact ⟨k+1,by omega,by go_num,HS,hbr⟩
     case measure=>simp [intOf];omega
  ·obtain rfl:k=s.size:=by omega
   have hconv:=run_convert_bytes_back (P:=Tryz.prog) wr 34 9 5 ⟨g,0,none⟩ cap (low s.data.toList) Tryz.underlying34 Tryz.underlying5 Tryz.underlying9 (fun j hj=>by
    have h1:=(hB.out j (by rw [mix_length];simpa [low] using hj)).1;have e:(⟨g,0,none⟩:Addr).add j=⟨g,j,none⟩:=by unfold Addr.add;by_cases h:j=0<;>simp [h]
    rw [e,h1]
    congr 4
    simp only [mix_all s.data.toList s.size (by rw [len];exact Nat.le_refl _)])
   have hl:(low s.data.toList).length=s.size:=by rw [low,List.length_map,len]
   rw [hl] at hconv;go_wp2;go_ret;exact ⟨rfl,by rw [HG.out];exact hbr.out⟩
theorem rsame_any (a b:ByteArray) (w:World) (ha:a.size≤1099511627776) (hb:b.size≤1099511627776):Calls Tryz.prog 104 #[.string a,.string b] w fun e w'=>e=.returned (.bool (same a b))∧Below w.heap.size w w':=by
 have h1:=Lib.hid (fun w=>rlower_any a w ha)
 have h2:=Lib.hid (fun w=>rlower_any b w hb);have hr:((lower a).toList==(lower b).toList)=same a b:=by rw [Lib.toList_data,Lib.toList_data];rfl
 generalize lower a=x at *;generalize lower b=y at *;go_enter Tryz.func104,Tryz.ntmps104
 go_wp2_with (first
  |(go_at_call 120;with_reducible refine (h1.out _).mono ?_;rintro e w1 ⟨rfl,hb1⟩)
  |(go_at_call 120;with_reducible refine (h2.out _).mono ?_;rintro e w2 ⟨rfl,hb2⟩))
 go_ret;exact ⟨by rw [←hr];rfl,Base.below_step hb1 hb2⟩
theorem first_of (t:ByteArray) (h:0<t.size):t.data.toList=t[0]::t.data.toList.drop 1∧(t.extract 1 t.size).data.toList=t.data.toList.drop 1∧t.toList.isEmpty=false:=by
 have hl:0<t.data.toList.length:=by rw [len];exact h
 have e:t.data.toList=t[0]::t.data.toList.drop 1:=by
  conv=>lhs;rw [←List.drop_zero (l:=t.data.toList),List.drop_eq_getElem_cons hl]
  rfl
 refine ⟨e,?_,?_⟩
 ·rw [Lib.extract_data,List.take_of_length_le (by rw [List.length_drop,len];exact Nat.le_refl _)]
 ·rw [Lib.toList_data,e];rfl
theorem last_of (t:ByteArray) (h:0<t.size):t.data.toList=t.data.toList.take (t.size-1) ++ [t[t.size-1]]∧(t.extract 0 (t.size-1)).data.toList=t.data.toList.take (t.size-1)∧t.toList.isEmpty=false:=by
 have e:=take_snoc t (t.size-1) (by omega);rw [show t.size-1+1=t.size by omega,take_all t _ (Nat.le_refl _)] at e;refine ⟨e,?_,?_⟩
 ·rw [Lib.extract_data,List.drop_zero,Nat.sub_zero]
 ·rw [Lib.toList_data];cases hl:t.data.toList with
  | nil=>exfalso;have h2:=len t;rw [hl,List.length_nil] at h2;omega
  | cons _ _=>rfl
theorem in_any (x:UInt8) (r:Bool) (set:ByteArray) (w:World) (ht:set.size≤maxLen) (hq:isIn set x=r):Calls Tryz.prog 126 #[.int .u8 x.toNat,.string set] w fun e w'=>e=.returned (.bool r)∧w'=w:=by have:=Oct.stands_any (x.toNat:Int) set w ht;rw [stands_isIn,hq] at this;exact this
theorem rtrimOf_any (s set:ByteArray) (w:World) (ht:set.size≤maxLen) (hs:s.size≤maxLen):Calls Tryz.prog 124 #[.string s,.string set] w fun e w'=>e=.returned (.string (trimOf s set))∧w'=w:=by
 unfold maxLen at hs;go_enter Tryz.func124,Tryz.ntmps124;go_wp2
 go_loop [0] (fun x=>∃t:ByteArray,x=.string t∧t.size≤s.size∧Hid (t.data.toList.dropWhile (isIn set)=s.data.toList.dropWhile (isIn set))) (fun x=>tbytes x)
 case atStart=>exact ⟨s,rfl,Nat.le_refl _,Lib.hid rfl⟩
 case round=>
  obtain ⟨t,rfl,hts,hdw⟩:=hrel;by_cases hgo:∃h:0<t.size,isIn set t[0]=true
  ·obtain ⟨h0,hq⟩:=hgo
   have HC:=Lib.hid (in_any t[0] true set w ht hq);obtain ⟨e1,e2,e3⟩:=first_of t h0
   have HD:=Lib.hid (show (t.extract 1 t.size).data.toList.dropWhile (isIn set)=s.data.toList.dropWhile (isIn set) by
    rw [←hdw.out,e2]
    conv=>rhs;rw [e1,List.dropWhile_cons,if_pos hq])
   have i0:t.toList.isEmpty=false:=e3;have i1:(1:Int)≤(t.size:Int):=by omega
   have i2:(t.size:Int)≤9223372036854775807:=by omega
   have hsz:(t.extract 1 t.size).size=t.size-1:=by rw [ByteArray.size_extract];omega
   clear e1 e2 e3 hq
   go_wp2_with (go_at_call 126;with_reducible refine HC.out.mono ?_;rintro e w' ⟨rfl,hw⟩;rw [hw];clear hw);go_round
   case rel=>exact ⟨_,rfl,by omega,HD⟩
   case measure=>simp [tbytes];omega
  ·have hst:t.data.toList.dropWhile (isIn set)=t.data.toList:=by
    rcases Nat.eq_zero_or_pos t.size with h0 | h0
    ·have:t.data.toList= []:=List.length_eq_zero_iff.1 (by rw [len];exact h0);rw [this];rfl
    ·obtain ⟨e1,_,_⟩:=first_of t h0;rw [e1];refine dropWhile_stop ?_;cases hq:isIn set t[0] with
     | false=>rfl
     | true=>exact absurd ⟨h0,hq⟩ hgo
   have hfin:=Lib.hid (show trimL (isIn set) s.data.toList=(t.data.toList.reverse.dropWhile (isIn set)).reverse by unfold trimL;rw [←hdw.out,hst])
   have hlast:=Lib.hid (show∀h:0<t.size,isIn set t[0]=false from fun h=>by
    cases hq:isIn set t[0] with
    | false=>rfl
    | true=>exact absurd ⟨h,hq⟩ hgo)
   clear hgo hst;rcases Nat.eq_zero_or_pos t.size with h0 | h0
   all_goals (first
    |(have i0:t.toList.isEmpty=false:=(first_of t h0).2.2
      have HC:=Lib.hid (in_any t[0] false set w ht (hlast.out h0))
      (go_wp2_with (go_at_call 126;with_reducible refine HC.out.mono ?_;rintro e w' ⟨rfl,hw⟩;rw [hw];clear hw)))
    |(have i0:t.toList.isEmpty=true:=by
       rw [Lib.toList_data,List.length_eq_zero_iff.1 (show t.data.toList.length=0 by rw [len];exact h0)];rfl
      go_wp2))
   all_goals
    clear i0
    go_loop [0] (fun x=>∃u:ByteArray,x=.string u∧u.size≤t.size∧Hid (u.data.toList.reverse.dropWhile (isIn set)=t.data.toList.reverse.dropWhile (isIn set))) (fun x=>tbytes x)
    case atStart=>exact ⟨t,rfl,Nat.le_refl _,Lib.hid rfl⟩
    case round=>
     obtain ⟨u,rfl,hus,hrv⟩:=hrel;rcases Nat.eq_zero_or_pos u.size with hu0 | hu0
     ·have e0:u.data.toList= []:=List.length_eq_zero_iff.1 (by rw [len];exact hu0);have i0:u.toList.isEmpty=true:=by rw [Lib.toList_data,e0];rfl
      have HF:=Lib.hid (show u=trimOf s set from ba_ext (by rw [trimOf,trimB_list,hfin.out,←hrv.out,e0];rfl))
      clear e0;go_wp2;go_ret;exact ⟨by rw [←HF.out];rfl,rfl⟩
     ·first
      |(exfalso;omega)
      |(
       obtain ⟨e1,e2,e3⟩:=last_of u hu0;have i0:u.toList.isEmpty=false:=e3;have i1:u.size-1<u.size:=by omega
       have i3:(u.size:Int)-1<(u.size:Int):=by omega
       have i4:0≤(u.size:Int)-1:=by omega
       have i5:IntKind.i64.wrap ((u.size:Int)-1)=(u.size:Int)-1:=wrap_in _ (by omega) (by omega);have i6:((u.size:Int)-1).toNat=u.size-1:=by omega
       have i7:(u.size:Int)-1≤(u.size:Int):=by omega
       cases hq:isIn set u[u.size-1] with
       | true=>
         have HC:=Lib.hid (in_any u[u.size-1] true set w ht hq)
         have HD:=Lib.hid (show (u.extract 0 (u.size-1)).data.toList.reverse.dropWhile (isIn set)=t.data.toList.reverse.dropWhile (isIn set) by
          rw [←hrv.out,e2]
          conv=>rhs;rw [e1,List.reverse_append,List.reverse_singleton,List.singleton_append,List.dropWhile_cons,if_pos hq])
         have hsz:(u.extract 0 (u.size-1)).size=u.size-1:=by rw [ByteArray.size_extract];omega
         clear e1 e2 e3 hq
         go_wp2_with (go_at_call 126;with_reducible refine HC.out.mono ?_;rintro e w' ⟨rfl,hw⟩;rw [hw];clear hw);go_round
         case rel=>exact ⟨_,rfl,by omega,HD⟩
         case measure=>simp [tbytes];omega
       | false=>
         have HC:=Lib.hid (in_any u[u.size-1] false set w ht hq)
         have HF:=Lib.hid (show u=trimOf s set from ba_ext (by rw [trimOf,trimB_list,hfin.out,←hrv.out,e1,List.reverse_append,List.reverse_singleton,List.singleton_append,dropWhile_stop hq];simp))
         clear e1 e2 e3 hq
         go_wp2_with (go_at_call 126;with_reducible refine HC.out.mono ?_;rintro e w' ⟨rfl,hw⟩;rw [hw];clear hw);go_ret;exact ⟨by rw [←HF.out];rfl,rfl⟩)
theorem rtrim_any (s:ByteArray) (w:World) (hs:s.size≤maxLen):Calls Tryz.prog 111 #[.string s] w fun e w'=>e=.returned (.string (trim s))∧w'=w:=by
 have h:=Lib.hid (rtrimOf_any s ⟨#[32,9]⟩ w (by decide) hs);have e:trimOf s ⟨#[32,9]⟩=trim s:=by
  unfold trimOf trim
  congr 1
  funext x
  simp only [isIn,blank,List.contains_cons,List.contains_nil,Bool.or_false]
 rw [e] at h;go_enter Tryz.func111,Tryz.ntmps111
 go_wp2_with (go_at_call 124;with_reducible refine h.out.mono ?_;rintro e w' ⟨rfl,rfl⟩);go_ret;exact ⟨rfl,rfl⟩
end code
end Go.Proofs.YtimoakmcelocfaaGreat.Txt
namespace Go.Proofs.YtimoakmcelocfaaGreat.Txt
open Go.RowKit Base Oct
def Part (c:UInt8) (l:List UInt8) (f k:Nat) (done:List (List UInt8)):Prop:=
 (k≤l.length∧f≤k∧parts c l=done++parts c (l.drop f)∧c∉(l.drop f).take (k-f))∨(k=l.length+1∧f=l.length+1∧parts c l=done)
theorem Part.start (c:UInt8) (l:List UInt8):Part c l 0 0 []:=.inl ⟨Nat.zero_le _,Nat.le_refl _,rfl,by simp⟩
theorem Part.last {c:UInt8} {l:List UInt8} {f:Nat} {done:List (List UInt8)} (h:Part c l f l.length done):f≤l.length∧Part c l (l.length+1) (l.length+1) (done ++ [l.drop f]):=by
 rcases h with ⟨_,h1,h2,h3⟩ | ⟨h,_⟩
 ·refine ⟨h1,.inr ⟨rfl,rfl,?_⟩⟩;rw [List.take_of_length_le (by rw [List.length_drop];omega)] at h3;rw [h2,parts_none c _ h3]
 ·omega
theorem Part.hit {c:UInt8} {l:List UInt8} {f k:Nat} {done:List (List UInt8)} (h:Part c l f k done) (hk:k<l.length) (hc:l[k]=c):f≤k∧Part c l (k+1) (k+1) (done ++ [(l.drop f).take (k-f)]):=by
 rcases h with ⟨_,h1,h2,h3⟩ | ⟨h,_⟩
 ·refine ⟨h1,.inl ⟨by omega,Nat.le_refl _,?_,by simp⟩⟩;have e:l.drop f=(l.drop f).take (k-f)++c::l.drop (k+1):=by
   conv=>lhs;rw [←List.take_append_drop (k-f) (l.drop f)]
   rw [List.drop_drop,show f+(k-f)=k by omega,List.drop_eq_getElem_cons hk,hc]
  rw [h2]
  conv=>lhs;rw [e]
  rw [parts_cut c _ _ h3,List.append_assoc];rfl
 ·omega
theorem Part.miss {c:UInt8} {l:List UInt8} {f k:Nat} {done:List (List UInt8)} (h:Part c l f k done) (hk:k<l.length) (hc:l[k]≠c):Part c l f (k+1) done:=by
 rcases h with ⟨_,h1,h2,h3⟩ | ⟨h,_⟩
 ·refine .inl ⟨by omega,by omega,h2,?_⟩;have hlt:k-f<(l.drop f).length:=by rw [List.length_drop];omega
  rw [show k+1-f=(k-f)+1 by omega,List.take_succ_eq_append_getElem hlt,List.mem_append,not_or];refine ⟨h3,?_⟩;rw [List.getElem_drop,List.mem_singleton];simp only [show f+(k-f)=k by omega];exact fun e=>hc e.symm
 ·omega
section code
set_option maxHeartbeats 1000000
attribute [local go_sem] Base.some_undef
set_option maxRecDepth 10000 in
theorem rsplit_any (s:ByteArray) (c:UInt8) (w:World) (hs:s.size≤1000000000) :
 Calls Tryz.prog 117 #[.string s,.int .u8 c.toNat] w fun e w'=>∃b m cp,e=.returned (.slice b m cp)∧m=(parts c s.data.toList).length∧Strs w' b m ((parts c s.data.toList).map ba)∧Below w.heap.size w w':=by
 obtain ⟨i0,hi,hz0,hz1,hz2⟩:=info_parts text_info;have G1:=Lib.hid hi;have G2:=Lib.hid hz0;have G3:=Lib.hid hz1;have G4:=Lib.hid hz2;clear hi hz0 hz1 hz2;obtain ⟨PS,hPS⟩:∃PS,parts c s.data.toList=PS:=⟨_,rfl⟩;rw [hPS];have HPS:=Lib.hid hPS;clear hPS;go_enter Tryz.func117,Tryz.ntmps117;go_wp2
 go_loopw [5,6,7] (fun v fr i wr=>∃(k f:Nat) (done:List (List UInt8)),k≤s.size+1∧f≤s.size+1∧done.length≤k∧fr=.int .i64 f∧i=.int .i64 k∧Hid (Part c s.data.toList f k done)∧Hid (wr.ownsRow w.heap.size 9 1 v done.length ((done.map ba).map Value.string))∧Hid (Below w.heap.size w wr)) (fun _ _ i _=>s.size+1-(intOf i).toNat)
 case atStart=>exact ⟨0,0,[],by omega,by omega,Nat.le_refl _,rfl,rfl,Lib.hid (Part.start _ _),Lib.hid ⟨rfl,.inl ⟨rfl,rfl⟩⟩,Lib.hid (Below.refl _ _)⟩
 case round=>
  obtain ⟨k,f,done,hk,hf,hdn,rfl,rfl,hpt,hown,hbr⟩:=hrel;rcases Nat.lt_or_ge k s.size with hlt | hge
  ·have t0:(k:Int)≤(s.size:Int):=by omega
   have t1:((k:Int)==(s.size:Int))=false:=beq_eq_false_iff_ne.2 (by omega);have i1:(k:Int)<(s.size:Int):=by omega
   have hkl:k<s.data.toList.length:=by rw [len];exact hlt
   have e0:s[k]=s.data.toList[k]:=rfl;by_cases hc:s.data.toList[k]=c
   ·have t2:((s[k].toNat:Int)==(c.toNat:Int))=true:=by rw [e0,hc];exact beq_self_eq_true _
    obtain ⟨hfk,hP⟩:=hpt.out.hit hkl hc;have HP:=Lib.hid hP
    have ex:s.extract f k=ba ((s.data.toList.drop f).take (k-f)):=ba_ext (by rw [Lib.extract_data];rfl);have c1:(f:Int)≤(k:Int):=by omega
    have m1:IntKind.i64.wrap ((k:Int)+1)=((k+1:Nat):Int):=by rw [wrap_in _ (by omega) (by omega)];omega
    clear hP hpt hc e0;generalize (s.data.toList.drop f).take (k-f)=p at *;have HX:=Lib.hid ex;clear ex
    go_wp2_with (at_builtin;refine wpList_append_own _ rfl _ _ 89 rfl w.heap.size 9 i0 (.string ByteArray.empty) 1 16 Tryz.underlying89 G1.out G2.out G3.out G4.out rfl (by decide) _ _ _ rfl (hown.out.alloc _) ⟨wr.heap.size,0,none⟩ 1 1 [.string (s.extract f k)] rfl rfl ?c1 ?c2 ?c3 ?c4 ?c5 ?_)
    case c1=>exact news_one wr _ _
    case c2=>intro u hu;obtain rfl:u=.string (s.extract f k):=by simpa using hu
             rfl
    case c3=>unfold maxLen;omega
    case c4=>omega
    case c5=>have:=hbr.out.size;simp;omega
    intro v' w' hown' hgr _
    have H2:Hid (w'.ownsRow w.heap.size 9 1 v' (done ++ [p]).length (((done ++ [p]).map ba).map Value.string)):=Lib.hid (by rw [HX.out] at hown';simpa using hown')
    have H3:=Lib.hid ((hbr.out.alloc hbr.out.size _).grown hgr (by have:=hbr.out.size;simp;omega) (own_base hown.out));clear hown' hgr hown hbr;go_wp2;go_roundw
    case rel=>exact ⟨k+1,k+1,done ++ [p],by omega,by omega,by rw [List.length_append,List.length_singleton];omega,by go_num,by go_num,HP,H2,H3⟩
    case measure=>simp [intOf];omega
   ·have t2:((s[k].toNat:Int)==(c.toNat:Int))=false:=beq_eq_false_iff_ne.2 fun e=>hc (UInt8.toNat_inj.1 (by rw [e0] at e;omega))
    have HP:=Lib.hid (hpt.out.miss hkl hc);clear hpt hc e0;go_wp2;go_roundw
    case rel=>exact ⟨k+1,f,done,by omega,hf,by omega,rfl,by go_num,HP,hown,hbr⟩
    case measure=>simp [intOf];omega
  ·rcases Nat.lt_or_ge s.size k with hgt | hle
   ·obtain rfl:k=s.size+1:=by omega
    have t0:¬((s.size+1:Nat):Int)≤(s.size:Int):=by omega
    have hfin:done=PS:=by
     rcases hpt.out with ⟨h,_⟩ | ⟨_,_,h⟩
     ·rw [len] at h;omega
     ·rw [←h,HPS.out]
    subst hfin;obtain ⟨A,cp,rfl,hA⟩:=Strs.of_own hown.out;have HA:=Lib.hid hA;clear hA hown hpt;go_wp2;go_ret;first | exact ⟨A,⟨cp,rfl⟩,HA.out,hbr.out⟩ | exact ⟨A,_,⟨cp,rfl⟩,rfl,HA.out,hbr.out⟩ | exact ⟨A,_,⟨cp,rfl⟩,HA.out,hbr.out⟩
   ·obtain rfl:k=s.size:=by omega
    have hpt':=hpt.out;rw [←len s] at hpt';obtain ⟨hfk,hP⟩:=hpt'.last;rw [len] at hfk hP;have HP:=Lib.hid hP
    have ex:s.extract f s.size=ba (s.data.toList.drop f):=ba_ext (by rw [Lib.extract_data,List.take_of_length_le (by rw [List.length_drop,len];omega)];rfl);have c1:(f:Int)≤(s.size:Int):=by omega
    have t0:(s.size:Int)≤(s.size:Int):=by omega
    have t1:((s.size:Int)==(s.size:Int))=true:=beq_self_eq_true _;have m1:IntKind.i64.wrap ((s.size:Int)+1)=((s.size+1:Nat):Int):=by rw [wrap_in _ (by omega) (by omega)];omega
    clear hP hpt hpt';generalize s.data.toList.drop f=p at *;have HX:=Lib.hid ex;clear ex
    go_wp2_with (at_builtin;refine wpList_append_own _ rfl _ _ 89 rfl w.heap.size 9 i0 (.string ByteArray.empty) 1 16 Tryz.underlying89 G1.out G2.out G3.out G4.out rfl (by decide) _ _ _ rfl (hown.out.alloc _) ⟨wr.heap.size,0,none⟩ 1 1 [.string (s.extract f s.size)] rfl rfl ?c1 ?c2 ?c3 ?c4 ?c5 ?_)
    case c1=>exact news_one wr _ _
    case c2=>intro u hu;obtain rfl:u=.string (s.extract f s.size):=by simpa using hu
             rfl
    case c3=>unfold maxLen;omega
    case c4=>omega
    case c5=>have:=hbr.out.size;simp;omega
    intro v' w' hown' hgr _
    have H2:Hid (w'.ownsRow w.heap.size 9 1 v' (done ++ [p]).length (((done ++ [p]).map ba).map Value.string)):=Lib.hid (by rw [HX.out] at hown';simpa using hown')
    have H3:=Lib.hid ((hbr.out.alloc hbr.out.size _).grown hgr (by have:=hbr.out.size;simp;omega) (own_base hown.out));clear hown' hgr hown hbr;go_wp2;go_roundw
    case rel=>exact ⟨s.size+1,s.size+1,done ++ [p],by omega,by omega,by rw [List.length_append,List.length_singleton];omega,by go_num,by go_num,HP,H2,H3⟩
    case measure=>simp [intOf]
end code
end Go.Proofs.YtimoakmcelocfaaGreat.Txt
namespace Go.Proofs.YtimoakmcelocfaaGreat.Txt
open Go.RowKit Base Oct
theorem drop_at (l:List UInt8) (f k:Nat) (hfk:f≤k) (hk:k<l.length):l.drop f=(l.take k).drop f++l[k]::l.drop (k+1):=by conv=>lhs;rw [←List.take_append_drop k l,List.drop_append_of_le_length (by rw [List.length_take];omega),List.drop_eq_getElem_cons hk]
theorem mid_snoc (l:List UInt8) (f k:Nat) (hfk:f≤k) (hk:k<l.length):(l.take (k+1)).drop f=(l.take k).drop f ++ [l[k]]:=by rw [List.take_succ_eq_append_getElem hk,List.drop_append_of_le_length (by rw [List.length_take];omega)]
section code
set_option maxHeartbeats 1000000
set_option maxRecDepth 10000
attribute [local go_sem] Base.some_undef
theorem rsplit_own (s:ByteArray) (c:UInt8) (w:World) (hs:s.size≤1000000000) :
 Calls Tryz.prog 117 #[.string s,.int .u8 c.toNat] w fun e w'=>∃g n k,e=.returned (.slice (some ⟨g,0,none⟩) n k)∧w.heap.size≤g∧n=(parts c s.data.toList).length∧Strs w' (some ⟨g,0,none⟩) n ((parts c s.data.toList).map ba)∧w.heap.size<w'.heap.size∧Below w.heap.size w w':=by
 obtain ⟨i0,hi,hz0,hz1,hz2⟩:=info_parts text_info;have G1:=Lib.hid hi;have G2:=Lib.hid hz0;have G3:=Lib.hid hz1;have G4:=Lib.hid hz2;clear hi hz0 hz1 hz2;have hpl:=parts_le c s.data.toList;rw [len] at hpl;have hp1:0<(parts c s.data.toList).length:=by rw [parts_length];omega
 go_enter Tryz.func117,Tryz.ntmps117;go_wp2
 go_loopw [5,6,7] (fun v f i wr=>∃(k fr:Nat) (done:List (List UInt8)),f=.int .i64 fr∧i=.int .i64 k∧done.length≤k∧Hid (wr.ownsRow w.heap.size 9 1 v done.length ((done.map ba).map Value.string))∧Hid (Below w.heap.size w wr)∧
  ((fr≤k∧k≤s.size∧Hid (done++parts c (s.data.toList.drop fr)=parts c s.data.toList)∧Hid (c∉(s.data.toList.take k).drop fr))∨(k=s.size+1∧Hid (done=parts c s.data.toList)))) (fun _ _ i _=>s.size+1-(intOf i).toNat)
 case atStart=>exact ⟨0,0,[],rfl,rfl,Nat.le_refl _,Lib.hid ⟨rfl,.inl ⟨rfl,rfl⟩⟩,Lib.hid (Below.refl _ _),.inl ⟨Nat.le_refl _,Nat.zero_le _,Lib.hid rfl,Lib.hid (by simp)⟩⟩
 case round=>
  obtain ⟨k,fr,done,rfl,rfl,hdl,hown,hbr,hcase⟩:=hrel;rcases hcase with ⟨hfk,hks,hdone,hno⟩ | ⟨rfl,hdone⟩
  ·have t0:(k:Int)≤(s.size:Int):=by omega
   have t1:(fr:Int)≤(k:Int):=by omega
   have t9:wrap64 ((k:Int)+1)=(k:Int)+1:=by unfold wrap64;omega
   rcases Nat.lt_or_ge k s.size with hlt | hge
   ·have hll:k<s.data.toList.length:=by rw [len];exact hlt
    have t2:(k:Int)<(s.size:Int):=by omega
    have t3:((k:Int)==(s.size:Int))=false:=beq_eq_false_iff_ne.2 (by omega);by_cases hc:s.data.toList[k]=c
    ·have t4:((s[k].toNat:Int)==(c.toNat:Int))=true:=by rw [show s[k]=c from hc];exact beq_self_eq_true _
     have hcut:=parts_cut c ((s.data.toList.take k).drop fr) (s.data.toList.drop (k+1)) hno.out;rw [←hc,←drop_at _ _ _ hfk hll,hc] at hcut
     have hx:(s.extract fr k)=ba ((s.data.toList.take k).drop fr):=ba_ext (by rw [Lib.extract_data];show _=(s.data.toList.take k).drop fr;rw [List.drop_take]);have HX:=Lib.hid hx
     have HD:=Lib.hid (show (done ++ [(s.data.toList.take k).drop fr])++parts c (s.data.toList.drop (k+1))=parts c s.data.toList by rw [←hdone.out,hcut,List.append_assoc];rfl);clear hcut hx hc hno;generalize (s.data.toList.take k).drop fr=p at *
     go_wp2_with (at_builtin;refine wpList_append_own _ rfl _ _ 89 rfl w.heap.size 9 i0 (.string ByteArray.empty) 1 16 Tryz.underlying89 G1.out G2.out G3.out G4.out rfl (by decide) _ _ _ rfl (hown.out.alloc _) ⟨wr.heap.size,0,none⟩ 1 1 [.string (s.extract fr k)] rfl rfl ?c1 ?c2 ?c3 ?c4 ?c5 ?_)
     case c1=>exact news_one wr _ _
     case c2=>intro u hu;obtain rfl:u=.string (s.extract fr k):=by simpa using hu
              rfl
     case c3=>unfold maxLen;omega
     case c4=>omega
     case c5=>have:=hbr.out.size;simp;omega
     intro v' w' hown' hgr _
     have H1:Hid (w'.ownsRow w.heap.size 9 1 v' (done ++ [p]).length (((done ++ [p]).map ba).map Value.string)):=Lib.hid (by rw [HX.out] at hown';simpa using hown')
     have H2:=Lib.hid ((hbr.out.alloc hbr.out.size _).grown hgr (by have:=hbr.out.size;simp;omega) (own_base hown.out));have hdl2:(done ++ [p]).length≤k+1:=by rw [List.length_append];simp;omega
     clear hown' hgr;go_wp2;go_roundw
     case rel=>exact ⟨k+1,k+1,done ++ [p],by go_num,by go_num,hdl2,H1,H2,.inl ⟨Nat.le_refl _,by omega,HD,Lib.hid (by rw [List.drop_eq_nil_of_le (by rw [List.length_take];omega)];simp)⟩⟩
     case measure=>simp [intOf];omega
    ·have t4:((s[k].toNat:Int)==(c.toNat:Int))=false:=beq_eq_false_iff_ne.2 (fun e=>hc (show s[k]=c from UInt8.toNat_inj.1 (by omega)))
     have HN:=Lib.hid (show c∉(s.data.toList.take (k+1)).drop fr by
      rw [mid_snoc _ _ _ hfk hll,List.mem_append]
      rintro (h | h)
      ·exact hno.out h
      ·exact hc (List.mem_singleton.1 h).symm)
     clear hno;go_wp2;go_roundw
     case rel=>exact ⟨k+1,fr,done,rfl,by go_num,by omega,hown,hbr,.inl ⟨by omega,by omega,hdone,HN⟩⟩
     case measure=>simp [intOf];omega
   ·obtain rfl:k=s.size:=by omega
    ·have t3:((s.size:Int)==(s.size:Int))=true:=beq_self_eq_true _;have hno':=hno.out;rw [take_all s _ (Nat.le_refl _)] at hno';have hcut:=parts_none c (s.data.toList.drop fr) hno'
     have hx:(s.extract fr s.size)=ba (s.data.toList.drop fr):=ba_ext (by rw [Lib.extract_data,List.take_of_length_le (by rw [List.length_drop,len];exact Nat.le_refl _)];rfl);have HX:=Lib.hid hx
     have HD:=Lib.hid (show done ++ [s.data.toList.drop fr]=parts c s.data.toList by rw [←hdone.out,hcut]);clear hcut hx hno hno';generalize s.data.toList.drop fr=p at *;generalize hk:s.size=k at *
     go_wp2_with (at_builtin;refine wpList_append_own _ rfl _ _ 89 rfl w.heap.size 9 i0 (.string ByteArray.empty) 1 16 Tryz.underlying89 G1.out G2.out G3.out G4.out rfl (by decide) _ _ _ rfl (hown.out.alloc _) ⟨wr.heap.size,0,none⟩ 1 1 [.string (s.extract fr k)] rfl rfl ?c1 ?c2 ?c3 ?c4 ?c5 ?_)
     case c1=>exact news_one wr _ _
     case c2=>intro u hu;obtain rfl:u=.string (s.extract fr k):=by simpa using hu
              rfl
     case c3=>unfold maxLen;omega
     case c4=>omega
     case c5=>have:=hbr.out.size;simp;omega
     intro v' w' hown' hgr _
     have H1:Hid (w'.ownsRow w.heap.size 9 1 v' (done ++ [p]).length (((done ++ [p]).map ba).map Value.string)):=Lib.hid (by rw [HX.out] at hown';simpa using hown')
     have H2:=Lib.hid ((hbr.out.alloc hbr.out.size _).grown hgr (by have:=hbr.out.size;simp;omega) (own_base hown.out));have hdl2:(done ++ [p]).length≤k+1:=by rw [List.length_append];simp;omega
     clear hown' hgr;go_wp2;go_roundw
     case rel=>exact ⟨k+1,k+1,done ++ [p],by go_num,by go_num,hdl2,H1,H2,.inr ⟨rfl,HD⟩⟩
     case measure=>(simp [intOf]<;>omega)
  ·have t0:¬((s.size:Int)+1≤(s.size:Int)):=by omega
   have hdn:=hdone.out;subst hdn;obtain ⟨g,cap,rfl,hg0,hg1⟩:=hown.out.form hp1
   have HS:=Lib.hid (show Strs wr (some ⟨g,0,none⟩) (parts c s.data.toList).length ((parts c s.data.toList).map ba) by
    obtain ⟨A,cc,e,hS⟩:=Strs.of_own (ss:=(parts c s.data.toList).map ba) hown.out;obtain ⟨rfl,rfl⟩:some ⟨g,0,none⟩=A∧cap=cc:=by simpa using e
    exact hS)
   clear hown hdone;go_wp2;go_ret;exact ⟨g,_,⟨cap,rfl⟩,hg0,rfl,HS.out,by omega,hbr.out⟩
theorem rsplit44 (s:ByteArray) (w:World) (hs:s.size≤1000000000) :
 Calls Tryz.prog 117 #[.string s,.int .u8 44] w fun e w'=>∃g n k,e=.returned (.slice (some ⟨g,0,none⟩) n k)∧w.heap.size≤g∧n=(parts 44 s.data.toList).length∧Strs w' (some ⟨g,0,none⟩) n ((parts 44 s.data.toList).map ba)∧w.heap.size<w'.heap.size∧Below w.heap.size w w':=
 rsplit_own s 44 w hs
theorem rlist_own (a:Option Addr) (n cap:Nat) (vs:List ByteArray) (w:World) (hv:Strs w a n vs) (hr:room vs≤1000000000) :
 Calls Tryz.prog 123 #[.slice a n cap] w fun e w'=>∃v,e=.returned v∧w'.ownsRow w.heap.size 9 1 v (list vs).length ((list vs).map Value.string)∧Below w.heap.size w w':=by
 have hle:=list_le vs;have hnr:=len_room vs;rw [hv.1] at hnr;have HV:=Lib.hid hv;have HL:=Lib.hid hv.1;clear hv;obtain ⟨i0,hi,hz0,hz1,hz2⟩:=info_parts text_info;have G1:=Lib.hid hi;have G2:=Lib.hid hz0;have G3:=Lib.hid hz1;have G4:=Lib.hid hz2;clear hi hz0 hz1 hz2;go_enter Tryz.func123,Tryz.ntmps123;go_wp2
 go_loopw [3,4] (fun v i wr=>∃k:Nat,k≤n∧i=.int .i64 k∧Hid (wr.ownsRow w.heap.size 9 1 v (list (vs.take k)).length ((list (vs.take k)).map Value.string))∧Hid (Below w.heap.size w wr)) (fun _ i _=>n-(intOf i).toNat)
 case atStart=>exact ⟨0,Nat.zero_le _,rfl,Lib.hid ⟨rfl,.inl ⟨rfl,rfl⟩⟩,Lib.hid (Below.refl _ _)⟩
 case round=>
  obtain ⟨k,hk,rfl,hown,hbr⟩:=hrel;rcases Nat.lt_or_ge k n with hlt | hge
  ·obtain ⟨bl,off,rfl,_,hc⟩:=(HV.out.below hbr.out).2 (by omega);have hck:=hc k hlt
   have hsn:=Lib.hid (list_snoc vs k (by rw [HL.out];exact hlt))
   have hle1:=list_take_le vs (k+1);rw [hsn.out,List.length_append] at hle1;have hsz:(vs[k]?.getD ByteArray.empty).size≤1000000000:=by
    have:k<vs.length:=by rw [HL.out];exact hlt
    rw [List.getElem?_eq_getElem this];have h2:(vs[k].size+1)≤room vs:=by exact room_mem vs _ (List.getElem_mem _)
    show vs[k].size≤_;omega
   clear hc;generalize vs[k]?.getD ByteArray.empty=x at *
   have HP:=Lib.hid (rsplit44 x wr hsz)
   have hpm:=Lib.hid (partsOf_map x);have hpl:(partsOf x).length=((parts 44 x.data.toList).map ba).length:=by rw [hpm.out,List.length_map]
   have hp0:((parts 44 x.data.toList).map ba).length=(parts 44 x.data.toList).length:=List.length_map _;rw [←hp0] at HP
   have hps:=Lib.hid (show∀y∈(parts 44 x.data.toList).map ba,y.size<4294967281 from fun y hy=>by obtain ⟨l,hl,rfl⟩:=List.mem_map.1 hy;have:=parts_size 44 _ l hl;rw [len] at this;rw [ba_size];omega)
   generalize (parts 44 x.data.toList).map ba=P at *;clear hp0;generalize list (vs.take k)=L at *
   go_wp2_with (go_at_call 117;with_reducible refine HP.out.mono ?_;rintro e w1 ⟨B,n1,c1,rfl,hgB,hn1,hS,hg1,hb1⟩)
   have hB1:=Lib.hid (Base.below_step hbr.out hb1)
   have hown1:=Lib.hid (own_below hown.out hb1);have hS':=Lib.hid hS
   have hne:=Lib.hid (show∀g,u3.ownBlock=some g→g≠B from fun g hg=>by have:=(hown.out.lt g hg).2;omega);clear hgB;clear hS hb1 HP hown hbr
   go_loopw [3,6] (fun v i wq=>∃j:Nat,j≤n1∧i=.int .i64 j∧w1.heap.size≤wq.heap.size∧Hid (wq.ownsRow w.heap.size 9 1 v (L.length+j) ((L++(P.map trim).take j).map Value.string))∧Hid (Below w.heap.size w wq)∧Hid (∀g,v.ownBlock=some g→g≠B)∧Hid (Strs wq (some ⟨B,0,none⟩) n1 P)) (fun _ i _=>n1-(intOf i).toNat)
   case atStart=>exact ⟨0,Nat.zero_le _,rfl,Nat.le_refl _,by rw [List.take_zero,List.append_nil];exact hown1,hB1,hne,hS'⟩
   case round=>
    obtain ⟨j,hj,rfl,hsz,hown,hbq,hne,hSq⟩:=hrel;rcases Nat.lt_or_ge j n1 with hlj | hgj
    ·obtain ⟨bs,os,e,hbs,hc⟩:=hSq.out.2 (by omega);obtain ⟨rfl,rfl⟩:B=bs∧0=os:=by simpa using e
     have hcj:=hc j hlj;rw [Nat.zero_add] at hcj
     have HS1:=Lib.hid (map_snoc trim ByteArray.empty P j (by omega));clear hc e;have hys:(P[j]?.getD ByteArray.empty).size≤maxLen:=by
      have:j<P.length:=by omega
      rw [List.getElem?_eq_getElem this]
      have:=hps.out _ (List.getElem_mem this);show P[j].size≤_;unfold maxLen;omega
     generalize P[j]?.getD ByteArray.empty=y at *
     have HT:=Lib.hid (fun w=>rtrim_any y w hys);clear hys
     go_wp2_with (first
      |(go_at_call 111;with_reducible refine (HT.out _).mono ?_;rintro e w2 ⟨rfl,hw⟩;rw [hw];clear hw)
      |(at_builtin;(refine wpList_append_own_at _ rfl _ _ 89 rfl w.heap.size 9 i0 (.string ByteArray.empty) 1 16 Tryz.underlying89 G1.out G2.out G3.out G4.out rfl (by decide) _ _ _ rfl (hown.out.alloc _) ⟨wr.heap.size,0,none⟩ 1 1 [.string (trim y)] rfl rfl ?c1 ?c2 ?c3 ?c4 ?c5 ?_)))
     case c1=>exact news_one wr _ _
     case c2=>intro u hu;obtain rfl:u=.string (trim y):=by simpa using hu
              rfl
     case c3=>unfold maxLen;omega
     case c4=>omega
     case c5=>have:=hbq.out.size;simp;omega
     intro v' w' hown' hgr _ hloc;have hown2:w'.ownsRow w.heap.size 9 1 v' (L.length+(j+1)) ((L++(P.map trim).take (j+1)).map Value.string):=by rw [HS1.out];simpa [List.append_assoc,Nat.add_assoc] using hown'
     have H2:=Lib.hid hown2
     have H3:=Lib.hid ((hbq.out.alloc hbq.out.size _).grown hgr (by have:=hbq.out.size;simp;omega) (own_base hown.out))
     have H4:=Lib.hid ((hSq.out.below ((Below.refl _ _).alloc (Nat.le_refl _) _)).grown hgr (fun e=>hne.out _ e rfl))
     have H5:=Lib.hid (show∀g,v'.ownBlock=some g→g≠B from fun g hg=>by
      rcases hloc with h | h
      ·exact hne.out g (h ▸ hg)
      ·rw [h] at hg;cases hg;simp;omega)
     have H6:w1.heap.size≤w'.heap.size:=by have:=hgr.size;simp at this;omega
     clear hown' hgr hown2 hloc;go_wp2;go_roundw
     case rel=>exact ⟨j+1,by omega,by go_num,H6,H2,H3,H5,H4⟩
     case measure=>simp [intOf];omega
    ·obtain rfl:j=n1:=by omega
     have hown2:=hown.out;rw [List.take_of_length_le (by rw [List.length_map];omega),←hpm.out] at hown2
     have H2:Hid (wr.ownsRow w.heap.size 9 1 u3 (L++partsOf x).length ((L++partsOf x).map Value.string)):=Lib.hid (by rw [List.length_append,hpl];rw [hn1] at hown2;exact hown2);rw [←hsn.out] at H2;clear hown hown2;go_wp2;go_roundw
     case rel=>exact ⟨k+1,by omega,by go_num,H2,hbq⟩
     case measure=>simp [intOf];omega
  ·obtain rfl:k=n:=by omega
   have hown1:=hown.out;rw [List.take_of_length_le (by rw [HL.out];omega)] at hown1;have H1:=Lib.hid hown1;clear hown1 hown;go_wp2;go_ret;exact ⟨_,rfl,H1.out,hbr.out⟩
theorem rlist_any (a:Option Addr) (n cap:Nat) (vs:List ByteArray) (w:World) (hv:Strs w a n vs) (hr:room vs≤1000000000) :
 Calls Tryz.prog 123 #[.slice a n cap] w fun e w'=>∃b m c,e=.returned (.slice b m c)∧m=(list vs).length∧Strs w' b m (list vs)∧Below w.heap.size w w':=
 (rlist_own a n cap vs w hv hr).mono (by
   rintro e w' ⟨v,rfl,ho,hb⟩;obtain ⟨A,c,rfl,hA⟩:=Strs.of_own ho;exact ⟨A,_,c,rfl,rfl,hA,hb⟩)
theorem rfind_any (a:Option Addr) (n cap:Nat) (fs:List Fld) (name:ByteArray) (w:World) (hv:Flds w a n fs) (hn:n≤1000000000) (hs:∀f∈fs,f.1.size≤1000000000) (ht:name.size≤1000000000) :
 Calls Tryz.prog 108 #[.slice a n cap,.string name] w fun e w'=>∃b m c,e=.returned (.slice b m c)∧m=(find fs name).length∧Strs w' b m (find fs name)∧Below w.heap.size w w':=by
 have HV:=Lib.hid hv;have HL:=Lib.hid hv.1;have HS:=Lib.hid hs;clear hv hs;obtain ⟨i0,hi,hz0,hz1,hz2⟩:=info_parts text_info;have G1:=Lib.hid hi;have G2:=Lib.hid hz0;have G3:=Lib.hid hz1;have G4:=Lib.hid hz2;clear hi hz0 hz1 hz2;go_enter Tryz.func108,Tryz.ntmps108;go_wp2
 go_loopw [5,6] (fun v i wr=>∃k:Nat,k≤n∧i=.int .i64 k∧Hid (wr.ownsRow w.heap.size 9 1 v (find (fs.take k) name).length ((find (fs.take k) name).map Value.string))∧Hid (Below w.heap.size w wr)) (fun _ i _=>n-(intOf i).toNat)
 case atStart=>exact ⟨0,Nat.zero_le _,rfl,Lib.hid ⟨rfl,.inl ⟨rfl,rfl⟩⟩,Lib.hid (Below.refl _ _)⟩
 case round=>
  obtain ⟨k,hk,rfl,hown,hbr⟩:=hrel;rcases Nat.lt_or_ge k n with hlt | hge
  ·obtain ⟨bl,off,rfl,hbl,hc⟩:=(HV.out.below hbr.out).2 (by omega);obtain ⟨hc0,hc1⟩:=hc k hlt
   have hsn:=Lib.hid (find_snoc fs name k (by rw [HL.out];exact hlt));have hfl:=find_le (fs.take k) name;rw [List.length_take] at hfl;have hsz:(fs[k]?.getD dflt).1.size≤1000000000:=by
    have:k<fs.length:=by rw [HL.out];exact hlt
    rw [List.getElem?_eq_getElem this]
    exact HS.out _ (List.getElem_mem _)
   clear hc;generalize fs[k]?.getD dflt=f at *;generalize hL:find (fs.take k) name=L at *;obtain ⟨f0,f1⟩:=f;simp only at hc0 hc1 hsz hsn
   have HC:=Lib.hid (fun w=>rsame_any f0 name w (by omega) (by omega));clear hsz hL;cases hq:same f0 name with
   | false=>
     rw [hq] at HC hsn;rw [if_neg (by decide),List.append_nil] at hsn;clear hq
     go_wp2_with (go_at_call 104;with_reducible refine (HC.out _).mono ?_;rintro e w2 ⟨rfl,hb2⟩);have hb0:Below wr.heap.size wr w2:=hb2
     have H2:Hid (w2.ownsRow w.heap.size 9 1 u5 (find (fs.take (k+1)) name).length ((find (fs.take (k+1)) name).map Value.string)):=Lib.hid (by rw [hsn.out];exact own_below hown.out hb0)
     have H3:=Lib.hid (Base.below_step hbr.out hb0);clear hown hb2 hb0;go_roundw
     case rel=>exact ⟨k+1,by omega,by go_num,H2,H3⟩
     case measure=>simp [intOf];omega
   | true=>
     rw [hq] at HC hsn;rw [if_pos rfl] at hsn;clear hq
     go_wp2_with (first
      |(go_at_call 104;with_reducible refine (HC.out _).mono ?_;rintro e w2 ⟨rfl,hb2⟩
        have hf1:=(hb2.cell (p:=⟨bl,off+k*2+1,none⟩) hbl).trans hc1
        have hb0:=Lib.hid (show Below wr.heap.size wr w2 from hb2)
        have hown0:=Lib.hid (own_below hown.out hb0.out))
      |(at_builtin;refine wpList_append_own _ rfl _ _ 89 rfl w.heap.size 9 i0 (.string ByteArray.empty) 1 16 Tryz.underlying89 G1.out G2.out G3.out G4.out rfl (by decide) _ _ _ rfl (hown0.out.alloc _) ⟨w2.heap.size,0,none⟩ 1 1 [.string f1] rfl rfl ?c1 ?c2 ?c3 ?c4 ?c5 ?_))
     case c1=>exact news_one w2 _ _
     case c2=>intro u hu;obtain rfl:u=.string f1:=by simpa using hu
              rfl
     case c3=>unfold maxLen;omega
     case c4=>omega
     case c5=>have:=hbr.out.size;have:=hb0.out.size;simp;omega
     intro v' w' hown' hgr _
     have H2:Hid (w'.ownsRow w.heap.size 9 1 v' (find (fs.take (k+1)) name).length ((find (fs.take (k+1)) name).map Value.string)):=Lib.hid (by rw [hsn.out];simpa using hown')
     have H3:=Lib.hid (((Base.below_step hbr.out hb0.out).alloc (by have:=hbr.out.size;have:=hb0.out.size;omega) _).grown hgr (by have:=hbr.out.size;have:=hb0.out.size;simp;omega) (own_base hown.out));clear hown' hgr hown hown0;go_wp2;go_roundw
     case rel=>exact ⟨k+1,by omega,by go_num,H2,H3⟩
     case measure=>simp [intOf];omega
  ·obtain rfl:k=n:=by omega
   have hown1:=hown.out;rw [List.take_of_length_le (by rw [HL.out];omega)] at hown1;obtain ⟨A,c,rfl,hA⟩:=Strs.of_own hown1;have HA:=Lib.hid hA;clear hown1 hA hown;go_wp2;go_ret;exact ⟨A,_,c,rfl,rfl,HA.out,hbr.out⟩
end code
end Go.Proofs.YtimoakmcelocfaaGreat.Txt
namespace Go.Proofs.YtimoakmcelocfaaGreat.Rec
open Go.RowKit Base Txt
section code
set_option maxHeartbeats 1000000
attribute [local go_sem] Base.some_undef
theorem rsame_any (V V':Value) (r r':R) (w:World) (h:Reads w V r) (h':Reads w V' r') (hf:Fit r) (hf':Fit r'):Calls Tryz.prog 38 #[V,V'] w fun e w'=>e=.returned (.bool (same r r'))∧Below w.heap.size w w':=by
 obtain ⟨fa,fc,ba,bc,ta,tc,rfl,h1,h2,h3⟩:=h;obtain ⟨fa',fc',ba',bc',ta',tc',rfl,h1',h2',h3'⟩:=h'
 have HF1:=Lib.hid (fun w2 (hb:Below w.heap.size w w2)=>rfields_any fa _ fc _ fa' _ fc' _ w2 (h1.below hb) (h1'.below hb) (by have:=hf.fs;omega) (by have:=hf'.fs;omega))
 have HF2:=Lib.hid (fun w2 (hb:Below w.heap.size w w2)=>rfields_any ta _ tc _ ta' _ tc' _ w2 (h3.below hb) (h3'.below hb) (by have:=hf.ts;omega) (by have:=hf'.ts;omega));have H2:=Lib.hid h2;have H2':=Lib.hid h2';clear h1 h2 h3 h1' h2' h3' hf hf'
 have HB0:=Lib.hid ((((Below.refl _ _).alloc (Nat.le_refl _) (.cells #[.string r.m,.string r.x,.int .i64 r.k,.slice fa r.fs.length fc,.bool r.ch,.slice ba r.body.length bc,.slice ta r.ts.length tc] 57)).alloc (by simp) (.cells #[.string r'.m,.string r'.x,.int .i64 r'.k,.slice fa' r'.fs.length fc',.bool r'.ch,.slice ba' r'.body.length bc',.slice ta' r'.ts.length tc'] 57)):Below w.heap.size w _)
 have HA:=Lib.hid ((Bk.new w w.heap.size rfl 57 [.string r.m,.string r.x,.int .i64 r.k,.slice fa r.fs.length fc,.bool r.ch,.slice ba r.body.length bc,.slice ta r.ts.length tc]).alloc (.cells #[.string r'.m,.string r'.x,.int .i64 r'.k,.slice fa' r'.fs.length fc',.bool r'.ch,.slice ba' r'.body.length bc',.slice ta' r'.ts.length tc'] 57))
 have HB:=Lib.hid (Bk.new (w.alloc (.cells #[.string r.m,.string r.x,.int .i64 r.k,.slice fa r.fs.length fc,.bool r.ch,.slice ba r.body.length bc,.slice ta r.ts.length tc] 57)) (w.heap.size+1) (by simp) 57 [.string r'.m,.string r'.x,.int .i64 r'.k,.slice fa' r'.fs.length fc',.bool r'.ch,.slice ba' r'.body.length bc',.slice ta' r'.ts.length tc']);by_cases g0:r.m=r'.m
 rotate_left
 ·have e:same r r'=false:=by unfold same;simp [g0]
  rw [e];clear e;have t0:(r.m.toList==r'.m.toList)=false:=by rw [ba_beq];exact decide_eq_false g0
  have s0:¬r.m.toList=r'.m.toList:=fun h=>g0 ((toList_iff _ _).1 h);clear g0;go_enter Tryz.func38,Tryz.ntmps38;go_upto_region 1 with fail
  generalize (w.alloc (.cells #[.string r.m,.string r.x,.int .i64 r.k,.slice fa r.fs.length fc,.bool r.ch,.slice ba r.body.length bc,.slice ta r.ts.length tc] 57)).alloc (.cells #[.string r'.m,.string r'.x,.int .i64 r'.k,.slice fa' r'.fs.length fc',.bool r'.ch,.slice ba' r'.body.length bc',.slice ta' r'.ts.length tc'] 57)=W at *;have hA0:=HA.out;have hB0:=HB.out;have q0:=hA0.c 0 _ rfl;have y0:=hB0.c 0 _ rfl;have q1:=hA0.c 1 _ rfl;have y1:=hB0.c 1 _ rfl;have q2:=hA0.c 2 _ rfl;have y2:=hB0.c 2 _ rfl;have q3:=hA0.c 3 _ rfl;have y3:=hB0.c 3 _ rfl;have q4:=hA0.c 4 _ rfl;have y4:=hB0.c 4 _ rfl;have q5:=hA0.c 5 _ rfl;have y5:=hB0.c 5 _ rfl;have q6:=hA0.c 6 _ rfl;have y6:=hB0.c 6 _ rfl;clear hA0 hB0;go_wp2;go_ret;exact ⟨rfl,HB0.out⟩
 by_cases g1:r.x=r'.x
 rotate_left
 ·have e:same r r'=false:=by unfold same;simp [g0,g1]
  rw [e];clear e;have t0:(r.m.toList==r'.m.toList)=true:=by rw [ba_beq];exact decide_eq_true g0
  have s0:r.m.toList=r'.m.toList:=(toList_iff _ _).2 g0;have t1:(r.x.toList==r'.x.toList)=false:=by rw [ba_beq];exact decide_eq_false g1
  have s1:¬r.x.toList=r'.x.toList:=fun h=>g1 ((toList_iff _ _).1 h);clear g0 g1;go_enter Tryz.func38,Tryz.ntmps38;go_upto_region 1 with fail
  generalize (w.alloc (.cells #[.string r.m,.string r.x,.int .i64 r.k,.slice fa r.fs.length fc,.bool r.ch,.slice ba r.body.length bc,.slice ta r.ts.length tc] 57)).alloc (.cells #[.string r'.m,.string r'.x,.int .i64 r'.k,.slice fa' r'.fs.length fc',.bool r'.ch,.slice ba' r'.body.length bc',.slice ta' r'.ts.length tc'] 57)=W at *;have hA0:=HA.out;have hB0:=HB.out;have q0:=hA0.c 0 _ rfl;have y0:=hB0.c 0 _ rfl;have q1:=hA0.c 1 _ rfl;have y1:=hB0.c 1 _ rfl;have q2:=hA0.c 2 _ rfl;have y2:=hB0.c 2 _ rfl;have q3:=hA0.c 3 _ rfl;have y3:=hB0.c 3 _ rfl;have q4:=hA0.c 4 _ rfl;have y4:=hB0.c 4 _ rfl;have q5:=hA0.c 5 _ rfl;have y5:=hB0.c 5 _ rfl;have q6:=hA0.c 6 _ rfl;have y6:=hB0.c 6 _ rfl;clear hA0 hB0;go_wp2;go_ret;exact ⟨rfl,HB0.out⟩
 by_cases g2:r.k=r'.k
 rotate_left
 ·have e:same r r'=false:=by unfold same;simp [g0,g1,g2]
  rw [e];clear e;have t0:(r.m.toList==r'.m.toList)=true:=by rw [ba_beq];exact decide_eq_true g0
  have s0:r.m.toList=r'.m.toList:=(toList_iff _ _).2 g0;have t1:(r.x.toList==r'.x.toList)=true:=by rw [ba_beq];exact decide_eq_true g1
  have s1:r.x.toList=r'.x.toList:=(toList_iff _ _).2 g1;have t2:(r.k==r'.k)=false:=beq_eq_false_iff_ne.2 g2;clear g0 g1 g2;go_enter Tryz.func38,Tryz.ntmps38;go_upto_region 1 with fail
  generalize (w.alloc (.cells #[.string r.m,.string r.x,.int .i64 r.k,.slice fa r.fs.length fc,.bool r.ch,.slice ba r.body.length bc,.slice ta r.ts.length tc] 57)).alloc (.cells #[.string r'.m,.string r'.x,.int .i64 r'.k,.slice fa' r'.fs.length fc',.bool r'.ch,.slice ba' r'.body.length bc',.slice ta' r'.ts.length tc'] 57)=W at *;have hA0:=HA.out;have hB0:=HB.out;have q0:=hA0.c 0 _ rfl;have y0:=hB0.c 0 _ rfl;have q1:=hA0.c 1 _ rfl;have y1:=hB0.c 1 _ rfl;have q2:=hA0.c 2 _ rfl;have y2:=hB0.c 2 _ rfl;have q3:=hA0.c 3 _ rfl;have y3:=hB0.c 3 _ rfl;have q4:=hA0.c 4 _ rfl;have y4:=hB0.c 4 _ rfl;have q5:=hA0.c 5 _ rfl;have y5:=hB0.c 5 _ rfl;have q6:=hA0.c 6 _ rfl;have y6:=hB0.c 6 _ rfl;clear hA0 hB0;go_wp2;go_ret;exact ⟨rfl,HB0.out⟩
 by_cases g3:r.fs=r'.fs
 rotate_left
 ·have e:same r r'=false:=by unfold same;simp [g0,g1,g2,g3]
  rw [e];clear e;have t0:(r.m.toList==r'.m.toList)=true:=by rw [ba_beq];exact decide_eq_true g0
  have s0:r.m.toList=r'.m.toList:=(toList_iff _ _).2 g0;have t1:(r.x.toList==r'.x.toList)=true:=by rw [ba_beq];exact decide_eq_true g1
  have s1:r.x.toList=r'.x.toList:=(toList_iff _ _).2 g1;have t2:(r.k==r'.k)=true:=beq_iff_eq.2 g2;rw [decide_eq_false g3] at HF1;clear g0 g1 g2 g3;go_enter Tryz.func38,Tryz.ntmps38;go_upto_region 1 with fail
  generalize (w.alloc (.cells #[.string r.m,.string r.x,.int .i64 r.k,.slice fa r.fs.length fc,.bool r.ch,.slice ba r.body.length bc,.slice ta r.ts.length tc] 57)).alloc (.cells #[.string r'.m,.string r'.x,.int .i64 r'.k,.slice fa' r'.fs.length fc',.bool r'.ch,.slice ba' r'.body.length bc',.slice ta' r'.ts.length tc'] 57)=W at *;have hA0:=HA.out;have hB0:=HB.out;have q0:=hA0.c 0 _ rfl;have y0:=hB0.c 0 _ rfl;have q1:=hA0.c 1 _ rfl;have y1:=hB0.c 1 _ rfl;have q2:=hA0.c 2 _ rfl;have y2:=hB0.c 2 _ rfl;have q3:=hA0.c 3 _ rfl;have y3:=hB0.c 3 _ rfl;have q4:=hA0.c 4 _ rfl;have y4:=hB0.c 4 _ rfl;have q5:=hA0.c 5 _ rfl;have y5:=hB0.c 5 _ rfl;have q6:=hA0.c 6 _ rfl;have y6:=hB0.c 6 _ rfl;clear hA0 hB0
  go_wp2_with (go_at_call 58;with_reducible refine (HF1.out _ HB0.out).mono ?_;rintro e w1 ⟨rfl,n1,hw1⟩
               have hb1:Below W.heap.size W w1:=by rw [hw1];exact Base.below_drewN (Below.refl _ _) n1
               have HB1:=Lib.hid (Base.below_step HB0.out hb1);have hA1:=HA.out.below hb1;have hB1:=HB.out.below hb1;have q3:=hA1.c 3 _ rfl;have y3:=hB1.c 3 _ rfl;have q4:=hA1.c 4 _ rfl;have y4:=hB1.c 4 _ rfl;have q5:=hA1.c 5 _ rfl;have y5:=hB1.c 5 _ rfl;have q6:=hA1.c 6 _ rfl;have y6:=hB1.c 6 _ rfl;have cv:=conv_str w1 _ _ bc _ (H2.out.below HB1.out);have cv':=conv_str w1 _ _ bc' _ (H2'.out.below HB1.out);clear hA1 hB1 hb1 hw1)
  go_ret;exact ⟨rfl,HB1.out⟩
 by_cases g4:r.ch=r'.ch
 rotate_left
 ·have e:same r r'=false:=by unfold same;simp [g0,g1,g2,g3,g4]
  rw [e];clear e;have t0:(r.m.toList==r'.m.toList)=true:=by rw [ba_beq];exact decide_eq_true g0
  have s0:r.m.toList=r'.m.toList:=(toList_iff _ _).2 g0;have t1:(r.x.toList==r'.x.toList)=true:=by rw [ba_beq];exact decide_eq_true g1
  have s1:r.x.toList=r'.x.toList:=(toList_iff _ _).2 g1;have t2:(r.k==r'.k)=true:=beq_iff_eq.2 g2;rw [decide_eq_true g3] at HF1;have t4:(r.ch==r'.ch)=false:=beq_eq_false_iff_ne.2 g4;clear g0 g1 g2 g3 g4;go_enter Tryz.func38,Tryz.ntmps38;go_upto_region 1 with fail
  generalize (w.alloc (.cells #[.string r.m,.string r.x,.int .i64 r.k,.slice fa r.fs.length fc,.bool r.ch,.slice ba r.body.length bc,.slice ta r.ts.length tc] 57)).alloc (.cells #[.string r'.m,.string r'.x,.int .i64 r'.k,.slice fa' r'.fs.length fc',.bool r'.ch,.slice ba' r'.body.length bc',.slice ta' r'.ts.length tc'] 57)=W at *;have hA0:=HA.out;have hB0:=HB.out;have q0:=hA0.c 0 _ rfl;have y0:=hB0.c 0 _ rfl;have q1:=hA0.c 1 _ rfl;have y1:=hB0.c 1 _ rfl;have q2:=hA0.c 2 _ rfl;have y2:=hB0.c 2 _ rfl;have q3:=hA0.c 3 _ rfl;have y3:=hB0.c 3 _ rfl;have q4:=hA0.c 4 _ rfl;have y4:=hB0.c 4 _ rfl;have q5:=hA0.c 5 _ rfl;have y5:=hB0.c 5 _ rfl;have q6:=hA0.c 6 _ rfl;have y6:=hB0.c 6 _ rfl;clear hA0 hB0
  go_wp2_with (go_at_call 58;with_reducible refine (HF1.out _ HB0.out).mono ?_;rintro e w1 ⟨rfl,n1,hw1⟩
               have hb1:Below W.heap.size W w1:=by rw [hw1];exact Base.below_drewN (Below.refl _ _) n1
               have HB1:=Lib.hid (Base.below_step HB0.out hb1);have hA1:=HA.out.below hb1;have hB1:=HB.out.below hb1;have q3:=hA1.c 3 _ rfl;have y3:=hB1.c 3 _ rfl;have q4:=hA1.c 4 _ rfl;have y4:=hB1.c 4 _ rfl;have q5:=hA1.c 5 _ rfl;have y5:=hB1.c 5 _ rfl;have q6:=hA1.c 6 _ rfl;have y6:=hB1.c 6 _ rfl;have cv:=conv_str w1 _ _ bc _ (H2.out.below HB1.out);have cv':=conv_str w1 _ _ bc' _ (H2'.out.below HB1.out);clear hA1 hB1 hb1 hw1)
  go_ret;exact ⟨rfl,HB1.out⟩
 by_cases g5:r.body=r'.body
 rotate_left
 ·have e:same r r'=false:=by unfold same;simp [g0,g1,g2,g3,g4,g5]
  rw [e];clear e;have t0:(r.m.toList==r'.m.toList)=true:=by rw [ba_beq];exact decide_eq_true g0
  have s0:r.m.toList=r'.m.toList:=(toList_iff _ _).2 g0;have t1:(r.x.toList==r'.x.toList)=true:=by rw [ba_beq];exact decide_eq_true g1
  have s1:r.x.toList=r'.x.toList:=(toList_iff _ _).2 g1;have t2:(r.k==r'.k)=true:=beq_iff_eq.2 g2;rw [decide_eq_true g3] at HF1;have t4:(r.ch==r'.ch)=true:=beq_iff_eq.2 g4
  have t5:((Txt.ba r.body).toList==(Txt.ba r'.body).toList)=false:=by rw [ba_beq];exact decide_eq_false (fun h=>g5 (ba_list_inj.1 h))
  have s5:¬(Txt.ba r.body).toList=(Txt.ba r'.body).toList:=fun h=>g5 (ba_list_inj.1 ((toList_iff _ _).1 h));clear g0 g1 g2 g3 g4 g5;go_enter Tryz.func38,Tryz.ntmps38;go_upto_region 1 with fail
  generalize (w.alloc (.cells #[.string r.m,.string r.x,.int .i64 r.k,.slice fa r.fs.length fc,.bool r.ch,.slice ba r.body.length bc,.slice ta r.ts.length tc] 57)).alloc (.cells #[.string r'.m,.string r'.x,.int .i64 r'.k,.slice fa' r'.fs.length fc',.bool r'.ch,.slice ba' r'.body.length bc',.slice ta' r'.ts.length tc'] 57)=W at *;have hA0:=HA.out;have hB0:=HB.out;have q0:=hA0.c 0 _ rfl;have y0:=hB0.c 0 _ rfl;have q1:=hA0.c 1 _ rfl;have y1:=hB0.c 1 _ rfl;have q2:=hA0.c 2 _ rfl;have y2:=hB0.c 2 _ rfl;have q3:=hA0.c 3 _ rfl;have y3:=hB0.c 3 _ rfl;have q4:=hA0.c 4 _ rfl;have y4:=hB0.c 4 _ rfl;have q5:=hA0.c 5 _ rfl;have y5:=hB0.c 5 _ rfl;have q6:=hA0.c 6 _ rfl;have y6:=hB0.c 6 _ rfl;clear hA0 hB0
  go_wp2_with (go_at_call 58;with_reducible refine (HF1.out _ HB0.out).mono ?_;rintro e w1 ⟨rfl,n1,hw1⟩
               have hb1:Below W.heap.size W w1:=by rw [hw1];exact Base.below_drewN (Below.refl _ _) n1
               have HB1:=Lib.hid (Base.below_step HB0.out hb1);have hA1:=HA.out.below hb1;have hB1:=HB.out.below hb1;have q3:=hA1.c 3 _ rfl;have y3:=hB1.c 3 _ rfl;have q4:=hA1.c 4 _ rfl;have y4:=hB1.c 4 _ rfl;have q5:=hA1.c 5 _ rfl;have y5:=hB1.c 5 _ rfl;have q6:=hA1.c 6 _ rfl;have y6:=hB1.c 6 _ rfl;have cv:=conv_str w1 _ _ bc _ (H2.out.below HB1.out);have cv':=conv_str w1 _ _ bc' _ (H2'.out.below HB1.out);clear hA1 hB1 hb1 hw1)
  go_ret;exact ⟨rfl,HB1.out⟩
 by_cases g6:r.ts=r'.ts
 rotate_left
 ·have e:same r r'=false:=by unfold same;simp [g0,g1,g2,g3,g4,g5,g6]
  rw [e];clear e;have t0:(r.m.toList==r'.m.toList)=true:=by rw [ba_beq];exact decide_eq_true g0
  have s0:r.m.toList=r'.m.toList:=(toList_iff _ _).2 g0;have t1:(r.x.toList==r'.x.toList)=true:=by rw [ba_beq];exact decide_eq_true g1
  have s1:r.x.toList=r'.x.toList:=(toList_iff _ _).2 g1;have t2:(r.k==r'.k)=true:=beq_iff_eq.2 g2;rw [decide_eq_true g3] at HF1;have t4:(r.ch==r'.ch)=true:=beq_iff_eq.2 g4
  have t5:((Txt.ba r.body).toList==(Txt.ba r'.body).toList)=true:=by rw [ba_beq];exact decide_eq_true (by rw [g5])
  have s5:(Txt.ba r.body).toList=(Txt.ba r'.body).toList:=(toList_iff _ _).2 (by rw [g5]);rw [decide_eq_false g6] at HF2;clear g0 g1 g2 g3 g4 g5 g6;go_enter Tryz.func38,Tryz.ntmps38;go_upto_region 1 with fail
  generalize (w.alloc (.cells #[.string r.m,.string r.x,.int .i64 r.k,.slice fa r.fs.length fc,.bool r.ch,.slice ba r.body.length bc,.slice ta r.ts.length tc] 57)).alloc (.cells #[.string r'.m,.string r'.x,.int .i64 r'.k,.slice fa' r'.fs.length fc',.bool r'.ch,.slice ba' r'.body.length bc',.slice ta' r'.ts.length tc'] 57)=W at *;have hA0:=HA.out;have hB0:=HB.out;have q0:=hA0.c 0 _ rfl;have y0:=hB0.c 0 _ rfl;have q1:=hA0.c 1 _ rfl;have y1:=hB0.c 1 _ rfl;have q2:=hA0.c 2 _ rfl;have y2:=hB0.c 2 _ rfl;have q3:=hA0.c 3 _ rfl;have y3:=hB0.c 3 _ rfl;have q4:=hA0.c 4 _ rfl;have y4:=hB0.c 4 _ rfl;have q5:=hA0.c 5 _ rfl;have y5:=hB0.c 5 _ rfl;have q6:=hA0.c 6 _ rfl;have y6:=hB0.c 6 _ rfl;clear hA0 hB0
  go_wp2_with (first
   |(go_at_call 58;with_reducible refine (HF2.out _ HB1.out).mono ?_;rintro e w2 ⟨rfl,n2,hw2⟩
     have hb2:Below w1.heap.size w1 w2:=by rw [hw2];exact Base.below_drewN (Below.refl _ _) n2
     have HB2:=Lib.hid (Base.below_step HB1.out hb2);clear hb2 hw2)
   |(go_at_call 58;with_reducible refine (HF1.out _ HB0.out).mono ?_;rintro e w1 ⟨rfl,n1,hw1⟩
     have hb1:Below W.heap.size W w1:=by rw [hw1];exact Base.below_drewN (Below.refl _ _) n1
     have HB1:=Lib.hid (Base.below_step HB0.out hb1);have hA1:=HA.out.below hb1;have hB1:=HB.out.below hb1;have q3:=hA1.c 3 _ rfl;have y3:=hB1.c 3 _ rfl;have q4:=hA1.c 4 _ rfl;have y4:=hB1.c 4 _ rfl;have q5:=hA1.c 5 _ rfl;have y5:=hB1.c 5 _ rfl;have q6:=hA1.c 6 _ rfl;have y6:=hB1.c 6 _ rfl;have cv:=conv_str w1 _ _ bc _ (H2.out.below HB1.out);have cv':=conv_str w1 _ _ bc' _ (H2'.out.below HB1.out);clear hA1 hB1 hb1 hw1))
  go_ret;exact ⟨rfl,HB2.out⟩
 have e:same r r'=true:=by unfold same;simp [g0,g1,g2,g3,g4,g5,g6]
 rw [e];clear e;have t0:(r.m.toList==r'.m.toList)=true:=by rw [ba_beq];exact decide_eq_true g0
 have s0:r.m.toList=r'.m.toList:=(toList_iff _ _).2 g0;have t1:(r.x.toList==r'.x.toList)=true:=by rw [ba_beq];exact decide_eq_true g1
 have s1:r.x.toList=r'.x.toList:=(toList_iff _ _).2 g1;have t2:(r.k==r'.k)=true:=beq_iff_eq.2 g2;rw [decide_eq_true g3] at HF1;have t4:(r.ch==r'.ch)=true:=beq_iff_eq.2 g4
 have t5:((Txt.ba r.body).toList==(Txt.ba r'.body).toList)=true:=by rw [ba_beq];exact decide_eq_true (by rw [g5])
 have s5:(Txt.ba r.body).toList=(Txt.ba r'.body).toList:=(toList_iff _ _).2 (by rw [g5]);rw [decide_eq_true g6] at HF2;clear g0 g1 g2 g3 g4 g5 g6;go_enter Tryz.func38,Tryz.ntmps38;go_upto_region 1 with fail
 generalize (w.alloc (.cells #[.string r.m,.string r.x,.int .i64 r.k,.slice fa r.fs.length fc,.bool r.ch,.slice ba r.body.length bc,.slice ta r.ts.length tc] 57)).alloc (.cells #[.string r'.m,.string r'.x,.int .i64 r'.k,.slice fa' r'.fs.length fc',.bool r'.ch,.slice ba' r'.body.length bc',.slice ta' r'.ts.length tc'] 57)=W at *;have hA0:=HA.out;have hB0:=HB.out;have q0:=hA0.c 0 _ rfl;have y0:=hB0.c 0 _ rfl;have q1:=hA0.c 1 _ rfl;have y1:=hB0.c 1 _ rfl;have q2:=hA0.c 2 _ rfl;have y2:=hB0.c 2 _ rfl;have q3:=hA0.c 3 _ rfl;have y3:=hB0.c 3 _ rfl;have q4:=hA0.c 4 _ rfl;have y4:=hB0.c 4 _ rfl;have q5:=hA0.c 5 _ rfl;have y5:=hB0.c 5 _ rfl;have q6:=hA0.c 6 _ rfl;have y6:=hB0.c 6 _ rfl;clear hA0 hB0
 go_wp2_with (first
  |(go_at_call 58;with_reducible refine (HF2.out _ HB1.out).mono ?_;rintro e w2 ⟨rfl,n2,hw2⟩
    have hb2:Below w1.heap.size w1 w2:=by rw [hw2];exact Base.below_drewN (Below.refl _ _) n2
    have HB2:=Lib.hid (Base.below_step HB1.out hb2);clear hb2 hw2)
  |(go_at_call 58;with_reducible refine (HF1.out _ HB0.out).mono ?_;rintro e w1 ⟨rfl,n1,hw1⟩
    have hb1:Below W.heap.size W w1:=by rw [hw1];exact Base.below_drewN (Below.refl _ _) n1
    have HB1:=Lib.hid (Base.below_step HB0.out hb1);have hA1:=HA.out.below hb1;have hB1:=HB.out.below hb1;have q3:=hA1.c 3 _ rfl;have y3:=hB1.c 3 _ rfl;have q4:=hA1.c 4 _ rfl;have y4:=hB1.c 4 _ rfl;have q5:=hA1.c 5 _ rfl;have y5:=hB1.c 5 _ rfl;have q6:=hA1.c 6 _ rfl;have y6:=hB1.c 6 _ rfl;have cv:=conv_str w1 _ _ bc _ (H2.out.below HB1.out);have cv':=conv_str w1 _ _ bc' _ (H2'.out.below HB1.out);clear hA1 hB1 hb1 hw1))
 go_ret;exact ⟨rfl,HB2.out⟩
end code
end Go.Proofs.YtimoakmcelocfaaGreat.Rec
namespace Go.Proofs.YtimoakmcelocfaaGreat.Rec
open Go.RowKit Base Txt
def RecAt (w:World) (b o:Nat) (r:R):Prop:=
 ∃(fa:Option Addr) (fc:Nat) (ba:Option Addr) (bc:Nat) (ta:Option Addr) (tc:Nat),
  (w.cell? ⟨b,o,none⟩=some (.string r.m)∧w.cell? ⟨b,o+1,none⟩=some (.string r.x)∧w.cell? ⟨b,o+2,none⟩=some (.int .i64 r.k)∧w.cell? ⟨b,o+3,none⟩=some (.slice fa r.fs.length fc)∧
   w.cell? ⟨b,o+4,none⟩=some (.bool r.ch)∧w.cell? ⟨b,o+5,none⟩=some (.slice ba r.body.length bc)∧w.cell? ⟨b,o+6,none⟩=some (.slice ta r.ts.length tc))∧
  Reads w (.agg #[.string r.m,.string r.x,.int .i64 r.k,.slice fa r.fs.length fc,.bool r.ch,.slice ba r.body.length bc,.slice ta r.ts.length tc]) r
theorem RecAt.below {w w':World} {b o:Nat} {r:R} (h:RecAt w b o r) (hlt:b<w.heap.size) (hb:Below w.heap.size w w'):RecAt w' b o r:=by
 obtain ⟨fa,fc,ba,bc,ta,tc,⟨c0,c1,c2,c3,c4,c5,c6⟩,hr⟩:=h
 exact ⟨fa,fc,ba,bc,ta,tc,⟨(hb.cell (p:=⟨b,o,none⟩) hlt).trans c0,(hb.cell (p:=⟨b,o+1,none⟩) hlt).trans c1,(hb.cell (p:=⟨b,o+2,none⟩) hlt).trans c2,(hb.cell (p:=⟨b,o+3,none⟩) hlt).trans c3,
  (hb.cell (p:=⟨b,o+4,none⟩) hlt).trans c4,(hb.cell (p:=⟨b,o+5,none⟩) hlt).trans c5,(hb.cell (p:=⟨b,o+6,none⟩) hlt).trans c6⟩,hr.below hb⟩
def r0:R:=⟨ByteArray.empty,ByteArray.empty,0,[],false,[],[]⟩
def Recs (w:World) (a:Option Addr) (n:Nat) (rs:List R):Prop:=
 rs.length=n∧(0<n→∃b off,a=some ⟨b,off,none⟩∧b<w.heap.size∧∀k,k<n→RecAt w b (off+k*7) (rs[k]?.getD r0))
theorem Recs.below {w w':World} {a:Option Addr} {n:Nat} {rs:List R} (h:Recs w a n rs) (hb:Below w.heap.size w w'):Recs w' a n rs:=by refine ⟨h.1,fun hn=>?_⟩;obtain ⟨b,off,e,hlt,hc⟩:=h.2 hn;exact ⟨b,off,e,Nat.lt_of_lt_of_le hlt hb.size,fun k hk=>(hc k hk).below hlt hb⟩
theorem all_iff:∀a b:List R,all a b=true↔a=b
 | [],[]=>by simp [all]
 | [],_ :: _=>by simp [all]
 | _ :: _,[]=>by simp [all]
 | x::a,y::b=>by rw [all,Bool.and_eq_true,same_iff,all_iff a b,List.cons.injEq]
theorem all_len (a b:List R) (h:¬a.length=b.length):all a b=false:=by
 rw [Bool.eq_false_iff]
 exact fun e=>h (by rw [(all_iff a b).1 e])
theorem take_eq (xs ys:List R) (k:Nat) (hx:k<xs.length) (hy:k<ys.length) (h:xs.take k=ys.take k) (e:xs[k]?.getD r0=ys[k]?.getD r0):xs.take (k+1)=ys.take (k+1):=by
 rw [List.take_succ_eq_append_getElem hx,List.take_succ_eq_append_getElem hy,h];rw [List.getElem?_eq_getElem hx,List.getElem?_eq_getElem hy] at e
 congr 2
theorem fit_at {rs:List R} (h:∀r∈rs,Fit r) (k:Nat) (hk:k<rs.length):Fit (rs[k]?.getD r0):=by rw [List.getElem?_eq_getElem hk];exact h _ (List.getElem_mem hk)
section code
set_option maxHeartbeats 2000000
theorem rall_any (a:Option Addr) (n cap:Nat) (rs:List R) (b:Option Addr) (m cap2:Nat) (qs:List R) (w:World) (hv:Recs w a n rs) (hu:Recs w b m qs) (hn:n≤1000000000) (hm:m≤1000000000) (hf:∀r∈rs,Fit r) (hg:∀r∈qs,Fit r) :
 Calls Tryz.prog 22 #[.slice a n cap,.slice b m cap2] w fun e w'=>e=.returned (.bool (all rs qs))∧Below w.heap.size w w':=by
 have HV:=Lib.hid hv;have HU:=Lib.hid hu;have HF:=Lib.hid hf;have HG:=Lib.hid hg;have HL:=Lib.hid hv.1;have HM:=Lib.hid hu.1;by_cases hnm:n=m
 ·subst hnm;clear hv hu hf hg;obtain ⟨B,hB⟩:∃B,all rs qs=B:=⟨_,rfl⟩;rw [hB];have HB:=Lib.hid hB;clear hB;go_enter Tryz.func22,Tryz.ntmps22;go_wp2
  go_loopw [5] (fun i wr=>∃k:Nat,k≤n∧i=.int .i64 k∧Hid (rs.take k=qs.take k)∧Hid (Below w.heap.size w wr)) (fun i _=>n-(intOf i).toNat)
  case atStart=>exact ⟨0,Nat.zero_le _,rfl,Lib.hid rfl,Lib.hid (Below.refl _ _)⟩
  case round=>
   obtain ⟨k,hk,rfl,hpre,hbr⟩:=hrel;rcases Nat.lt_or_ge k n with hlt | hge
   ·obtain ⟨bl,off,rfl,hbl,hc⟩:=(HV.out.below hbr.out).2 (by omega)
    obtain ⟨bl',off',rfl,hbl',hc'⟩:=(HU.out.below hbr.out).2 (by omega);have hkr:k<rs.length:=by rw [HL.out];exact hlt
    have hkq:k<qs.length:=by rw [HM.out];exact hlt
    have h1:=hc k hlt;have h2:=hc' k hlt;have f1:=fit_at HF.out k hkr;have f2:=fit_at HG.out k hkq
    have HN:=Lib.hid (take_eq rs qs k hkr hkq hpre.out)
    have HX:=Lib.hid (show rs=qs→rs[k]?.getD r0=qs[k]?.getD r0 from fun e=>by rw [e]);clear hc hc' hkr hkq;generalize rs[k]?.getD r0=x at *;generalize qs[k]?.getD r0=y at *;obtain ⟨fa,fc,ba,bc,ta,tc,⟨c0,c1,c2,c3,c4,c5,c6⟩,hr1⟩:=h1;obtain ⟨fa',fc',ba',bc',ta',tc',⟨d0,d1,d2,d3,d4,d5,d6⟩,hr2⟩:=h2
    have HC:=Lib.hid (fun w2 (hb:Below wr.heap.size wr w2)=>rsame_any _ _ _ _ w2 (hr1.below hb) (hr2.below hb) f1 f2)
    have HCE:=Lib.hid (show∀w1,Below wr.heap.size wr w1→(w1.cell? ⟨bl,off+k*7,none⟩=some (.string x.m)∧w1.cell? ⟨bl,off+k*7+1,none⟩=some (.string x.x)∧w1.cell? ⟨bl,off+k*7+2,none⟩=some (.int .i64 x.k)∧w1.cell? ⟨bl,off+k*7+3,none⟩=some (.slice fa x.fs.length fc)∧w1.cell? ⟨bl,off+k*7+4,none⟩=some (.bool x.ch)∧w1.cell? ⟨bl,off+k*7+5,none⟩=some (.slice ba x.body.length bc)∧w1.cell? ⟨bl,off+k*7+6,none⟩=some (.slice ta x.ts.length tc)) from
     fun w1 hb=>⟨(hb.cell (p:=⟨bl,off+k*7,none⟩) hbl).trans c0,(hb.cell (p:=⟨bl,off+k*7+1,none⟩) hbl).trans c1,(hb.cell (p:=⟨bl,off+k*7+2,none⟩) hbl).trans c2,(hb.cell (p:=⟨bl,off+k*7+3,none⟩) hbl).trans c3,(hb.cell (p:=⟨bl,off+k*7+4,none⟩) hbl).trans c4,(hb.cell (p:=⟨bl,off+k*7+5,none⟩) hbl).trans c5,(hb.cell (p:=⟨bl,off+k*7+6,none⟩) hbl).trans c6⟩)
    have HCD:=Lib.hid (show∀w1,Below wr.heap.size wr w1→(w1.cell? ⟨bl',off'+k*7,none⟩=some (.string y.m)∧w1.cell? ⟨bl',off'+k*7+1,none⟩=some (.string y.x)∧w1.cell? ⟨bl',off'+k*7+2,none⟩=some (.int .i64 y.k)∧w1.cell? ⟨bl',off'+k*7+3,none⟩=some (.slice fa' y.fs.length fc')∧w1.cell? ⟨bl',off'+k*7+4,none⟩=some (.bool y.ch)∧w1.cell? ⟨bl',off'+k*7+5,none⟩=some (.slice ba' y.body.length bc')∧w1.cell? ⟨bl',off'+k*7+6,none⟩=some (.slice ta' y.ts.length tc')) from
     fun w1 hb=>⟨(hb.cell (p:=⟨bl',off'+k*7,none⟩) hbl').trans d0,(hb.cell (p:=⟨bl',off'+k*7+1,none⟩) hbl').trans d1,(hb.cell (p:=⟨bl',off'+k*7+2,none⟩) hbl').trans d2,(hb.cell (p:=⟨bl',off'+k*7+3,none⟩) hbl').trans d3,(hb.cell (p:=⟨bl',off'+k*7+4,none⟩) hbl').trans d4,(hb.cell (p:=⟨bl',off'+k*7+5,none⟩) hbl').trans d5,(hb.cell (p:=⟨bl',off'+k*7+6,none⟩) hbl').trans d6⟩)
    have i1:(k:Int)<(n:Int):=by omega
    clear hr1 hr2 f1 f2 c0 c1 c2 c3 c4 c5 c6 d0 d1 d2 d3 d4 d5 d6
    have hdr:=Lib.hid (Base.below_drewN (Below.refl wr.heap.size wr) 1);obtain ⟨z,hz⟩:∃z,same x y=z:=⟨_,rfl⟩;rw [hz] at HC;have HZ:=Lib.hid hz;clear hz;go_wp2_with fail;refine Each.region_all 10 [17,18,19,20,21,22,23,24,25,26]
     [fun v _=>v=.slice (some ⟨bl,off,none⟩) n cap,
       fun v _=>v=.int .i64 ((k:Nat):Int),
       fun v _=>v=.pointer (some ⟨bl,off+k*7,none⟩),
       fun v _=>v=.agg #[.string x.m,.string x.x,.int .i64 x.k,.slice fa x.fs.length fc,.bool x.ch,.slice ba x.body.length bc,.slice ta x.ts.length tc],
       fun v _=>v=(.slice (some ⟨bl',off',none⟩) n cap2),
       fun v _=>v=.int .i64 ((k:Nat):Int),
       fun v _=>v=.pointer (some ⟨bl',off'+k*7,none⟩),
       fun v _=>v=.agg #[.string y.m,.string y.x,.int .i64 y.k,.slice fa' y.fs.length fc',.bool y.ch,.slice ba' y.body.length bc',.slice ta' y.ts.length tc'],
       fun v _=>v=.bool z,
       fun v _=>v=.bool (!z)]
      (by kernel_rfl) (by kernel_rfl) (by kernel_rfl) (by kernel_rfl) (fun _ _ d _ _ h=>by cases d<;>exact h) (by rfl) (by rfl)
     ⟨Each.Lasts.eq _,Each.Lasts.eq _,Each.Lasts.eq _,Each.Lasts.eq _,Each.Lasts.eq _,Each.Lasts.eq _,Each.Lasts.eq _,Each.Lasts.eq _,Each.Lasts.eq _,Each.Lasts.eq _,trivial⟩ ?_ ?_
    ·refine ⟨?_,?_,?_,?_,?_,?_,?_,?_,?_,?_,trivial⟩
     ·refine Each.fine rfl (fun ev w1 hR hb hh=>?_);clear hh;have e0:=hR.old 0 rfl;simp only [Array.getD_eq_getD_getElem?,List.getElem?_toArray,List.getElem?_cons_zero,Option.getD_some] at e0;refine Each.Goes.same ?_;go_simp;try with_reducible rfl
     ·refine Each.fine rfl (fun ev w1 hR hb hh=>?_);clear hh;have e5:=hR.old 5 rfl;simp only [Array.getD_eq_getD_getElem?,List.getElem?_toArray,List.getElem?_cons_succ,List.getElem?_cons_zero,Option.getD_some] at e5;refine Each.Goes.same ?_;go_simp;try with_reducible rfl
     ·refine Each.fine rfl (fun ev w1 hR hb hh=>?_);have e17:(ev (.tmp 17)=.slice (some ⟨bl,off,none⟩) n cap):=hh.at 0;have e18:(ev (.tmp 18)=.int .i64 ((k:Nat):Int)):=hh.at 1;clear hh;refine Each.Goes.same ?_;go_simp;try with_reducible rfl
     ·refine Each.fine rfl (fun ev w1 hR hb hh=>?_);have e19:(ev (.tmp 19)=.pointer (some ⟨bl,off+k*7,none⟩)):=hh.at 0;clear hh
      obtain ⟨q0,q1,q2,q3,q4,q5,q6⟩:=HCE.out w1 (hdr.out.trans (hb.mono (Nat.le_refl _)));refine Each.Goes.same ?_;go_simp;try with_reducible rfl
     ·refine Each.fine rfl (fun ev w1 hR hb hh=>?_);clear hh;have e1:=hR.old 1 rfl;simp only [Array.getD_eq_getD_getElem?,List.getElem?_toArray,List.getElem?_cons_succ,List.getElem?_cons_zero,Option.getD_some] at e1;refine Each.Goes.same ?_;go_simp;try with_reducible rfl
     ·refine Each.fine rfl (fun ev w1 hR hb hh=>?_);clear hh;have e5:=hR.old 5 rfl;simp only [Array.getD_eq_getD_getElem?,List.getElem?_toArray,List.getElem?_cons_succ,List.getElem?_cons_zero,Option.getD_some] at e5;refine Each.Goes.same ?_;go_simp;try with_reducible rfl
     ·refine Each.fine rfl (fun ev w1 hR hb hh=>?_);have e21:(ev (.tmp 21)=(.slice (some ⟨bl',off',none⟩) n cap2)):=hh.at 0;have e22:(ev (.tmp 22)=.int .i64 ((k:Nat):Int)):=hh.at 1;clear hh;refine Each.Goes.same ?_;go_simp;try with_reducible rfl
     ·refine Each.fine rfl (fun ev w1 hR hb hh=>?_);have e23:(ev (.tmp 23)=.pointer (some ⟨bl',off'+k*7,none⟩)):=hh.at 0;clear hh
      obtain ⟨q0,q1,q2,q3,q4,q5,q6⟩:=HCD.out w1 (hdr.out.trans (hb.mono (Nat.le_refl _)));refine Each.Goes.same ?_;go_simp;try with_reducible rfl
     ·refine Each.fine rfl (fun ev w1 hR hb hh=>?_);have e20:(ev (.tmp 20)=.agg #[.string x.m,.string x.x,.int .i64 x.k,.slice fa x.fs.length fc,.bool x.ch,.slice ba x.body.length bc,.slice ta x.ts.length tc]):=hh.at 0;have e24:(ev (.tmp 24)=.agg #[.string y.m,.string y.x,.int .i64 y.k,.slice fa' y.fs.length fc',.bool y.ch,.slice ba' y.body.length bc',.slice ta' y.ts.length tc']):=hh.at 1;clear hh;have ef:=hR.func
      refine Each.Goes.enter 38 #[.agg #[.string x.m,.string x.x,.int .i64 x.k,.slice fa x.fs.length fc,.bool x.ch,.slice ba x.body.length bc,.slice ta x.ts.length tc],.agg #[.string y.m,.string y.x,.int .i64 y.k,.slice fa' y.fs.length fc',.bool y.ch,.slice ba' y.body.length bc',.slice ta' y.ts.length tc']] (by go_simp) ((HC.out w1 (hdr.out.trans (hb.mono (Nat.le_refl _)))).mono ?_);rintro e w2 ⟨rfl,hb2⟩;exact ⟨_,rfl,hb2,rfl⟩
     ·refine Each.fine rfl (fun ev w1 hR hb hh=>?_);have e25:(ev (.tmp 25)=.bool z):=hh.at 0;clear hh;refine Each.Goes.same ?_;go_simp;try with_reducible rfl
    intro g1 w2 hb hf;have z26:(g1 26=.bool (!z)):=hf.at 9;clear hf;simp only [Each.putg,Act.put,List.setIfInBounds_toArray,List.set_cons_zero,List.set_cons_succ];rw [z26]
    have H3:=Lib.hid (Base.below_step hbr.out hb);clear hb;cases z with
    | true=>
      have HE:=Lib.hid (HN.out ((same_iff _ _).1 HZ.out));clear HN HX HZ;go_wp2;go_roundw
      case rel=>exact ⟨k+1,by omega,by go_num,HE,H3⟩
      case measure=>simp [intOf];omega
    | false=>
      have HE:=Lib.hid (show B=false by
       rw [←HB.out,Bool.eq_false_iff];intro e
       have:=(same_iff _ _).2 (HX.out ((all_iff _ _).1 e));rw [HZ.out] at this;cases this)
      clear HN HX HZ;go_wp2;go_ret;exact ⟨by first | rfl |(rw [HE.out];rfl),H3.out⟩
   ·obtain rfl:k=n:=by omega
    have HE:=Lib.hid (show B=true by
     rw [←HB.out,all_iff];have:=hpre.out
     rwa [List.take_of_length_le (by rw [HL.out];omega),List.take_of_length_le (by rw [HM.out];omega)] at this)
    clear hpre;go_wp2;go_ret;exact ⟨by first | rfl |(rw [HE.out];rfl),hbr.out⟩
 ·have e:all rs qs=false:=all_len rs qs (by rw [hv.1,hu.1];exact hnm);have t0:((n:Int)==(m:Int))=false:=by rw [beq_eq_false_iff_ne];omega
  have t1:¬(n:Int)=(m:Int):=by omega
  rw [e];clear hv hu hf hg e hnm;go_enter Tryz.func22,Tryz.ntmps22;go_wp2;go_ret;exact ⟨rfl,Below.refl _ _⟩
end code
end Go.Proofs.YtimoakmcelocfaaGreat.Rec
namespace Go.Proofs.YtimoakmcelocfaaGreat.Flt
open Go.RowKit Base Txt Par Pg
structure F where
 x:Q
 y:Q
 code:Nat
 parted:Bool
def F.judge (f:F) (s l:Nat) (alike:Bool):F:=
 if s≠0 then {f with code:=s,parted:=l==0} else if (!(l==0) || !alike)=true then {f with code:=400,parted:=true} else f
section
variable (p:Nat) (b:Bd)
def F.look (f:F) (c:UInt8):F × List Rec.R:=
 let x:=f.x.byte 0 b c
 let y:=f.y.byte p b c
 (F.judge ⟨x.told,y.told,f.code,f.parted⟩ x.err y.err (Rec.all x.out y.out),if Rec.all x.out y.out=true then x.out else [])
def F.byte (f:F) (c:UInt8):F × List Rec.R:=if f.code=0 then f.look p b c else (f,[])
def F.feed:F→List UInt8→F × List Rec.R
 | f,[]=>(f,[])
 | f,c::l=>((F.feed (f.byte p b c).1 l).1,(f.byte p b c).2++(F.feed (f.byte p b c).1 l).2)
def F.new:F:=⟨Q.new 0 b,Q.new p b,(Q.new p b).err,false⟩
def F.held (f:F):Nat:=max f.x.held f.y.held
theorem F.feed_app (l l':List UInt8):∀f:F,F.feed p b f (l++l')=((F.feed p b (F.feed p b f l).1 l').1,(F.feed p b f l).2++(F.feed p b (F.feed p b f l).1 l').2):=by
 induction l with
 | nil=>intro f;simp [F.feed]
 | cons c l ih=>
   intro f;rw [List.cons_append];simp only [F.feed];rw [ih,List.append_assoc]
theorem F.feed_snoc (l:List UInt8) (c:UInt8) (f:F):F.feed p b f (l ++ [c])=((F.byte p b (F.feed p b f l).1 c).1,(F.feed p b f l).2++(F.byte p b (F.feed p b f l).1 c).2):=by rw [F.feed_app];simp [F.feed]
theorem F.feed_blocked (f:F) (h:f.code≠0):∀l:List UInt8,F.feed p b f l=(f,[])
 | []=>rfl
 | c::l=>by
   have e:f.byte p b c=(f,[]):=if_neg h;simp only [F.feed,e,F.feed_blocked f h l,List.append_nil]
end
section
variable {p:Nat} {b:Bd}
theorem told_out (x:Q):x.told.out= []:=by cases x<;>rfl
def F.Just (p:Nat) (b:Bd) (f:F):Prop:=
 (f.code=0∧f.parted=false∧∃t,f.x=.live t∧t.Strict∧t.out= []∧f.y=.live (t.wide p)∧t.Ok∧b.right=true∧∃s,RR 0 b t s)∨(f.code≠0∧∃o,f.x=.dead f.code o)
theorem just_new (hp:p<1073741824) (hb:b.right=true):(F.new p b).Just p b:=by
 have e:Q.new p b=.live (T.new p b):=if_pos (by rw [hb,decide_eq_true hp];rfl)
 have e0:Q.new 0 b=.live (T.new 0 b):=if_pos (by rw [hb];rfl)
 have hs:=new_sim (p:=0) (b:=b);rw [e0] at hs;refine .inl ⟨?_,rfl,T.new 0 b,e0,(new_wide (p:=p)).2,rfl,?_,⟨Ln.M.new_ok _ _ _ (Ln.mid_le _),rfl,⟨Nat.le_refl _,by show 1≤7;omega⟩,Nat.zero_le _,Nat.zero_le _,Nat.le_refl _,Nat.le_refl _,(by intro y hy;cases hy),(by intro y hy;cases hy),Nat.zero_le _,Nat.zero_le _,Nat.zero_le _,fun h=>(by cases h),fun _=>rfl,Nat.zero_le _⟩,hb,_,hs⟩
 ·show (Q.new p b).err=0;rw [e];rfl
 ·show Q.new p b= _;rw [e,(new_wide (p:=p)).1]
theorem all_self (l:List Rec.R):Rec.all l l=true:=(Rec.all_iff l l).2 rfl
theorem just_byte {f:F} (h:f.Just p b) (c:UInt8):(f.byte p b c).1.Just p b:=by
 rcases h with ⟨h1,h2,t,h3,h4,h5,h6,h7,h8,s,h9⟩ | ⟨h1,o,h2⟩
 ·unfold F.byte;rw [if_pos h1];unfold F.look;rw [h3,h6];have e1:(Q.live t).byte 0 b c=t.take 0 b c:=rfl;have e2:(Q.live (t.wide p)).byte p b c=(t.wide p).take p b c:=rfl;have hs:=take_sim h9 h7 h8 c;simp only [e1,e2];cases ht:t.take 0 b c with
  | live t2=>
    obtain ⟨k1,k2⟩:=take_wide (p:=p) ht h4;rw [ht] at hs;rw [k1];left;have ej:F.judge ⟨(Q.live t2).told,(Q.live (t2.wide p)).told,f.code,f.parted⟩ (Q.live t2).err (Q.live (t2.wide p)).err (Rec.all (Q.live t2).out (Q.live (t2.wide p)).out)=⟨(Q.live t2).told,(Q.live (t2.wide p)).told,f.code,f.parted⟩:=by have e3:Rec.all (Q.live t2).out (Q.live (t2.wide p)).out=true:=all_self _;unfold F.judge;rw [e3];rfl
    rw [ej];have hk:=told_sim (x:=.live t2) hs;exact ⟨h1,h2,{t2 with out:= []},rfl,⟨k2.lf,k2.cr⟩,rfl,rfl,(told_fine (x:=.live t2) (b:=b) ⟨h7.take h8 c ht,h8⟩).1,h8,_,hk⟩
  | dead e o=>
    rw [ht] at hs;obtain ⟨k1,k2,k3,k4⟩:=hs;right;unfold F.judge;simp only [if_pos (show (Q.dead e o).err≠0 from k2)];exact ⟨k2,[],rfl⟩
 ·unfold F.byte;rw [if_neg h1];exact .inr ⟨h1,o,h2⟩
theorem just_feed (l:List UInt8):∀{f:F},f.Just p b→(F.feed p b f l).1.Just p b:=by
 induction l with
 | nil=>intro f h;exact h
 | cons c l ih=>intro f h;exact ih (just_byte h c)
theorem Ok.fit {t:T} (h:t.Ok):Rec.Fit t.r:=
 ⟨by have:=h.m;omega,by have:=h.x;omega,by have:=h.fsl;have:=h.hl;omega,fun y hy=>by have:=h.fss y hy;have:=h.hl;omega,by have:=h.body;omega,by have:=h.tsl;have:=h.bl;omega,fun y hy=>by have:=h.tss y hy;have:=h.bl;omega⟩
theorem line_told (t:T) (s:List UInt8):(t.line p b s).2.out=t.out∨(t.line p b s).2.out=t.out ++ [t.r]:=by
 unfold T.line;split
 ·unfold T.first;split
  ·exact .inl rfl
  ·simp only;split<;>exact .inl rfl
 ·split
  ·unfold T.fields;split
   ·unfold T.endHead;simp only;split
    ·exact .inl rfl
    ·split
     ·exact .inl rfl
     ·split
      ·exact .inr rfl
      ·exact .inl rfl
   ·exact .inl rfl
  ·split
   ·unfold T.chunk;simp only;split
    ·exact .inl rfl
    ·split
     ·exact .inl rfl
     ·split<;>exact .inl rfl
   ·split
    ·unfold T.trail;split
     ·exact .inr rfl
     ·exact .inl rfl
    ·exact .inl rfl
theorem ends_out (x:Nat × T):(ends x).out=x.2.out:=by unfold ends;split<;>rfl
def Fits (o:List Rec.R):Prop:=∀r∈o,Rec.Fit r
theorem inLine_fits {t:T} (h:Fits t.out) (ok:t.Ok) (c:UInt8):Fits (t.inLine p b c).1.out:=by
 unfold T.inLine;simp only;split
 ·exact h
 ·split
  ·exact h
  ·split
   ·split
    ·exact h
    ·exact h
   ·show Fits (ends _).out;rw [ends_out];have hf:Rec.Fit t.r:=Ok.fit ok;rcases line_told (p:=p) (b:=b) {t with rd:=t.rd.byte c} (t.rd.byte c).line with e | e
    ·rw [e];exact h
    ·rw [e];intro r hr;rcases List.mem_append.1 hr with hr | hr
     ·exact h r hr
     ·rw [List.mem_singleton.1 hr];exact hf
theorem look_fits {t:T} (h:Fits t.out) (ok:t.Ok) (hb:b.right=true) (c:UInt8):Fits (t.look p b c).1.out:=by
 unfold T.look;split
 ·rename_i hs;have hk:Rec.Fit (t.keep c).r:=by
   have h1:=Ok.fit ok;have h2:=ok.left hs;exact ⟨h1.m,h1.x,h1.fs,h1.f,by have:=ok.body;show (t.r.body ++ [c]).length≤_;rw [List.length_append,List.length_singleton];omega,h1.ts,h1.t⟩
  show Fits (if t.left=1 then (t.keep c).endData p else t.keep c).out;split
  ·unfold T.endData;split
   ·exact h
   ·intro r hr;rcases List.mem_append.1 hr with hr | hr
    ·exact h r hr
    ·rw [List.mem_singleton.1 hr];exact hk
  ·exact h
 ·split
  ·rename_i hh;split
   ·show Fits t.out;exact h
   ·rename_i hx;exact inLine_fits (by rw [counted_out];exact h) (ok.counted hb hx) c
  ·exact inLine_fits h ok c
theorem byte_fits {x:Q} (h:Fits x.out) (ok:x.Fine b) (c:UInt8):Fits (x.byte p b c).out:=by
 cases x with
 | dead e o=>exact h
 | live t=>
   obtain ⟨h1,h2⟩:=ok;show Fits (t.take p b c).out;unfold T.take;have k1:=look_fits (p:=p) (b:=b) (t:={t with cnt:=false}) h h1.cleared h2 c;rcases hq:T.look p b {t with cnt:=false} c with ⟨q,u⟩;rw [hq] at k1;cases q with
   | dead e o=>cases u<;>exact k1
   | live t1=>
     cases u with
     | true=>exact k1
     | false=>exact look_fits k1 (h1.cleared.look h2 c (by rw [hq])) h2 c
end
end Go.Proofs.YtimoakmcelocfaaGreat.Flt
namespace Go.Proofs.YtimoakmcelocfaaGreat.Each
open Go.RowKit Base Mem Par
structure Thing (A A':World→List (Option Nat)→Prop):Prop where
 keeps:∀{w w':World} {L M:List (Option Nat)},A w L→Keeps M w w'→(∀k,some k∈L→some k∉M)→A w' L
 keeps':∀{w w':World} {L M:List (Option Nat)},A' w L→Keeps M w w'→(∀k,some k∈L→some k∉M)→A' w' L
 inn:∀{w:World} {L:List (Option Nat)},A w L→In w L
 inn':∀{w:World} {L:List (Option Nat)},A' w L→In w L
 uniq:∀{w:World} {L L':List (Option Nat)},(A w L∨A' w L)→(A w L'∨A' w L')→L=L'
theorem Thing.now {A A':World→List (Option Nat)→Prop} (h:Thing A A') {w w':World} {L M:List (Option Nat)} (hA:A w L∨A' w L) (hk:Keeps M w w') (hd:∀k,some k∈L→some k∉M):A w' L∨A' w' L:=
 hA.imp (fun h1=>h.keeps h1 hk hd) (fun h1=>h.keeps' h1 hk hd)
theorem Thing.in {A A':World→List (Option Nat)→Prop} (h:Thing A A') {w:World} {L:List (Option Nat)} (hA:A w L∨A' w L):In w L:=hA.elim h.inn h.inn'
def Dis (L M:List (Option Nat)):Prop:=∀k,some k∈L→some k∉M
theorem Dis.symm {L M:List (Option Nat)} (h:Dis L M):Dis M L:=fun k hM hL=>h k hL hM
theorem Dis.of {W:World} {L M M':List (Option Nat)} (h:Dis L M) (hin:In W L) (ho:Of W M M'):Dis L M':=fun k hL hM=>by
 rcases ho k hM with e | e
 ·exact h k hL e
 ·have:=hin k hL;omega
section
variable {P:Program} {l:List Oper} {Q:Exit→Act→World→Prop} {fs:List Fact} {a0:Act} {ds:List Nat}
variable (A A' C C':World→List (Option Nat)→Prop) (L1 L2:List (Option Nat)) (i1 i2:Nat) (W:World)
structure Two (b:Array Bool) (w:World):Prop where
 keeps:Keeps (L1++L2) W w
 both:∃M1 M2,(A' w M1∧b.getD i1 false=true∨A w M1∧M1=L1)∧(C' w M2∧b.getD i2 false=true∨C w M2∧M2=L2)∧Dis M1 M2∧Of W L1 M1∧Of W L2 M2
def RTwo (k:Nat) (w w':World):Prop:=
 if k=i1 then w'=w∨∃M1,A' w' M1∧Step L1 M1 w w' else if k=i2 then w'=w∨∃M2,C' w' M2∧Step L2 M2 w w' else Below w.heap.size w w'
variable {A A' C C' L1 L2 i1 i2 W}
theorem Two.step (hA:Thing A A') (hC:Thing C C') (h12:i1≠i2) {b:Array Bool} {k:Nat} {w w':World} (hks:k<b.size) (hbk:b.getD k false=false) (h:Two A A' C C' L1 L2 i1 i2 W b w) (hR:RTwo A' C' L1 L2 i1 i2 k w w'):Two A A' C C' L1 L2 i1 i2 W (b.setIfInBounds k true) w':=by
 obtain ⟨hk,M1,M2,h1,h2,h3,h4,h5⟩:=h
 have hin1:In w M1:=h1.elim (fun h=>hA.inn' h.1) (fun h=>hA.inn h.1)
 have hin2:In w M2:=h2.elim (fun h=>hC.inn' h.1) (fun h=>hC.inn h.1);have g1:(b.setIfInBounds k true).getD i1 false=if i1=k then true else b.getD i1 false:=get_set b k i1 hks
 have g2:(b.setIfInBounds k true).getD i2 false=if i2=k then true else b.getD i2 false:=get_set b k i2 hks
 have up1:b.getD i1 false=true→(b.setIfInBounds k true).getD i1 false=true:=fun e=>by rw [g1,e];split<;>rfl
 have up2:b.getD i2 false=true→(b.setIfInBounds k true).getD i2 false=true:=fun e=>by rw [g2,e];split<;>rfl
 unfold RTwo at hR;by_cases e1:k=i1
 ·rw [if_pos e1] at hR;subst e1;have h1':A w M1∧M1=L1:=by
   rcases h1 with ⟨-,h⟩ | h
   ·rw [hbk] at h;cases h
   ·exact h
  rcases hR with rfl | ⟨M1',hA',hs⟩
  ·exact ⟨hk,M1,M2,.inr h1',h2.imp (fun h=>⟨h.1,up2 h.2⟩) id,h3,h4,h5⟩
  ·have e:=h1'.2;subst e;have hd:Dis M2 M1':=h3.symm.of hin2 hs.of
   exact ⟨hk.trans (hs.keeps.mono fun k hk=>List.mem_append_left _ hk) Of.refl,M1',M2,.inl ⟨hA',by rw [g1,if_pos rfl]⟩,
    h2.imp (fun h=>⟨hC.keeps' h.1 hs.keeps h3.symm,up2 h.2⟩) (fun h=>⟨hC.keeps h.1 hs.keeps h3.symm,h.2⟩),hd.symm,h4.trans hs.of hk.size,h5⟩
 ·rw [if_neg e1] at hR;by_cases e2:k=i2
  ·rw [if_pos e2] at hR;subst e2;have h2':C w M2∧M2=L2:=by
    rcases h2 with ⟨-,h⟩ | h
    ·rw [hbk] at h;cases h
    ·exact h
   rcases hR with rfl | ⟨M2',hC',hs⟩
   ·exact ⟨hk,M1,M2,h1.imp (fun h=>⟨h.1,up1 h.2⟩) id,.inr h2',h3,h4,h5⟩
   ·have e:=h2'.2;subst e;have hd:Dis M1 M2':=h3.of hin1 hs.of
    exact ⟨hk.trans (hs.keeps.mono fun k hk=>List.mem_append_right _ hk) Of.refl,M1,M2',h1.imp (fun h=>⟨hA.keeps' h.1 hs.keeps h3,up1 h.2⟩) (fun h=>⟨hA.keeps h.1 hs.keeps h3,h.2⟩),
     .inl ⟨hC',by rw [g2,if_pos rfl]⟩,hd,h4,h5.trans hs.of hk.size⟩
  ·rw [if_neg e2] at hR;have hkb:Keeps [] w w':=Keeps.of_below hR
   exact ⟨hk.trans hkb (fun k hk=>by cases hk),M1,M2,h1.imp (fun h=>⟨hA.keeps' h.1 hkb (by simp),up1 h.2⟩) (fun h=>⟨hA.keeps h.1 hkb (by simp),h.2⟩),
    h2.imp (fun h=>⟨hC.keeps' h.1 hkb (by simp),up2 h.2⟩) (fun h=>⟨hC.keeps h.1 hkb (by simp),h.2⟩),h3,h4,h5⟩
theorem fine_two {k:Nat} {o:Oper} {f:Fact} (h1:k≠i1) (h2:k≠i2) (hg:o.guard=none) (h:∀(ev:Operand→Value) (w:World),Reads a0 ds ev→Keeps (L1++L2) W w→has l fs ev w o.after.toList→Goes P o ev f w) :
 FineR P l fs (RTwo A' C' L1 L2 i1 i2) (Two A A' C C' L1 L2 i1 i2 W) a0 ds k o f:=
 fun ev _ w hr hK _ hh=>⟨fun _=>(h ev w hr hK.keeps hh).gen fun w' hb=>by unfold RTwo;rw [if_neg h1,if_neg h2];exact hb,fun hw=>by simp [Region.wanted,hg] at hw⟩
theorem fine_first {o:Oper} {f:Fact} (hg:o.guard=none) (h:∀(ev:Operand→Value) (w:World) (M2:List (Option Nat)),Reads a0 ds ev→Keeps (L1++L2) W w→A w L1→(C w M2∨C' w M2)→Dis L1 M2→has l fs ev w o.after.toList→
 GoesR P o ev f (fun w w'=>∃M1,A' w' M1∧Step L1 M1 w w') w) :
 FineR P l fs (RTwo A' C' L1 L2 i1 i2) (Two A A' C C' L1 L2 i1 i2 W) a0 ds i1 o f:=by
 intro ev b w hr hK hb hh;refine ⟨fun _=>?_,fun hw=>by simp [Region.wanted,hg] at hw⟩;obtain ⟨hk,M1,M2,h1,h2,h3,h4,h5⟩:=hK;have h1':A w M1∧M1=L1:=by
  rcases h1 with ⟨-,h⟩ | h
  ·rw [hb] at h;cases h
  ·exact h
 have e:=h1'.2;subst e;have hR:RTwo A' C' M1 L2 i1 i2 i1=fun w w'=>w'=w∨∃M1',A' w' M1'∧Step M1 M1' w w':=by funext w w';unfold RTwo;rw [if_pos rfl]
 rw [hR];cases h ev w M2 hr hk h1'.1 (h2.elim (fun h=>.inr h.1) (fun h=>.inl h.1)) h3 hh with
 | value v w' hrun hb hf=>exact .value v w' hrun (.inr hb) hf
 | enter g args hrun hc=>
   refine .enter g args hrun (hc.mono ?_);rintro e w' ⟨v,rfl,hb,hfv⟩;exact ⟨v,rfl,.inr hb,hfv⟩
theorem fine_second {o:Oper} {f:Fact} (h12:i1≠i2) (hg:o.guard=none) (h:∀(ev:Operand→Value) (w:World) (M1:List (Option Nat)),Reads a0 ds ev→Keeps (L1++L2) W w→C w L2→(A w M1∨A' w M1)→Dis L2 M1→has l fs ev w o.after.toList→
 GoesR P o ev f (fun w w'=>∃M2,C' w' M2∧Step L2 M2 w w') w) :
 FineR P l fs (RTwo A' C' L1 L2 i1 i2) (Two A A' C C' L1 L2 i1 i2 W) a0 ds i2 o f:=by
 intro ev b w hr hK hb hh;refine ⟨fun _=>?_,fun hw=>by simp [Region.wanted,hg] at hw⟩;obtain ⟨hk,M1,M2,h1,h2,h3,h4,h5⟩:=hK;have h2':C w M2∧M2=L2:=by
  rcases h2 with ⟨-,h⟩ | h
  ·rw [hb] at h;cases h
  ·exact h
 have e:=h2'.2;subst e;have hR:RTwo A' C' L1 M2 i1 i2 i2=fun w w'=>w'=w∨∃M2',C' w' M2'∧Step M2 M2' w w':=by funext w w';unfold RTwo;rw [if_neg h12.symm,if_pos rfl]
 rw [hR];cases h ev w M1 hr hk h2'.1 (h1.elim (fun h=>.inr h.1) (fun h=>.inl h.1)) h3.symm hh with
 | value v w' hrun hb hf=>exact .value v w' hrun (.inr hb) hf
 | enter g args hrun hc=>
   refine .enter g args hrun (hc.mono ?_);rintro e w' ⟨v,rfl,hb,hfv⟩;exact ⟨v,rfl,.inr hb,hfv⟩
def waits (l:List Oper) (k j:Nat):Bool:=match l[k]? with
 | some o=>o.after.toList.any fun e=>Region.binds .any e&&e.on==j
 | none=>false
def LastsTwo (l:List Oper) (A' C':World→List (Option Nat)→Prop) (L1 L2:List (Option Nat)) (i1 i2 k:Nat) (f:Fact):Prop:=
 (∀v w w',Below w.heap.size w w'→f v w→f v w')∧(k≠i1→waits l k i1=false→∀v w w' M1,A' w' M1→Step L1 M1 w w'→f v w→f v w')∧(k≠i2→waits l k i2=false→∀v w w' M2,C' w' M2→Step L2 M2 w w'→f v w→f v w')
theorem LastsTwo.pure (k:Nat) (p:Value→Prop):LastsTwo l A' C' L1 L2 i1 i2 k (fun v _=>p v):=⟨fun _ _ _ _ h=>h,fun _ _ _ _ _ _ _ _ h=>h,fun _ _ _ _ _ _ _ _ h=>h⟩
theorem LastsTwo.keeps {k:Nat} {f:Fact} (h:∀v w w' M,(∀k,some k∈M→some k∈L1++L2)→Keeps M w w'→f v w→f v w'):LastsTwo l A' C' L1 L2 i1 i2 k f:=
 ⟨fun v w w' hb hf=>h v w w' [] (by intro k hk;cases hk) (Keeps.of_below hb) hf,fun _ _ v w w' _ _ hs hf=>h v w w' L1 (fun _ hk=>List.mem_append_left _ hk) hs.keeps hf,fun _ _ v w w' _ _ hs hf=>h v w w' L2 (fun _ hk=>List.mem_append_right _ hk) hs.keeps hf⟩
def EveryTwo (l:List Oper) (A' C':World→List (Option Nat)→Prop) (L1 L2:List (Option Nat)) (i1 i2:Nat):Nat→List Fact→Prop
 | _,[]=>True
 | k,f::fs=>LastsTwo l A' C' L1 L2 i1 i2 k f∧EveryTwo l A' C' L1 L2 i1 i2 (k+1) fs
theorem everyTwo_at:∀{fs:List Fact} {n:Nat},EveryTwo l A' C' L1 L2 i1 i2 n fs→∀(k:Nat) (f:Fact),fs[k]?=some f→LastsTwo l A' C' L1 L2 i1 i2 (n+k) f
 | [],_,_,k,f,hf=>by simp at hf
 | g::fs,n,h,0,f,hf=>by simp at hf;subst hf;exact h.1
 | g::fs,n,h,k+1,f,hf=>by
   have:=everyTwo_at h.2 k f (by simpa using hf);rw [show n+(k+1)=n+1+k by omega];exact this
def AllTwo (P:Program) (l:List Oper) (fs:List Fact) (R:Nat→World→World→Prop) (K:Array Bool→World→Prop) (a0:Act) (ds:List Nat):Nat→List Oper→List Fact→Prop
 | k,o::os,f::gs=>FineR P l fs R K a0 ds k o f∧AllTwo P l fs R K a0 ds (k+1) os gs
 | _,_,_=>True
theorem allTwo_at {R:Nat→World→World→Prop} {K:Array Bool→World→Prop}:∀{os:List Oper} {gs:List Fact} {n:Nat},AllTwo P l fs R K a0 ds n os gs→∀(k:Nat) (o:Oper) (f:Fact),os[k]?=some o→gs[k]?=some f→FineR P l fs R K a0 ds (n+k) o f
 | [],_,_,_,k,o,f,ho,hf=>by simp at ho
 | _ :: _,[],_,_,k,o,f,ho,hf=>by simp at hf
 | _ :: _,_ :: _,_,h,0,o,f,ho,hf=>by simp at ho hf;subst ho hf;exact h.1
 | _ :: _,_ :: _,n,h,k+1,o,f,ho,hf=>by
   have:=allTwo_at h.2 k o f (by simpa using ho) (by simpa using hf);rw [show n+(k+1)=n+1+k by omega];exact this
theorem region_two (m:Nat) (ds:List Nat) (fs:List Fact) (i1 i2:Nat) {id:Nat} {a0:Act} {w:World} (hA:Thing A A') (hC:Thing C C') (hA0:A w L1) (hC0:C w L2) (hd:Dis L1 L2)
 (hmo:P.follows .mixedOrders=true) (hg:good l m ds [] (l.length-m)=true) (hns:Region.noSelect l.toArray=true)
 (hp:Tree.fits l.toArray .done (l.length-m) (fill l.length m [])=true) (hQ:∀c a d v w,Q (.panic c) (Act.put a d v) w→Q (.panic c) a w)
 (hsz:ds.all (fun d=>decide (d<a0.tmps.size))=true) (hlen:fs.length=m) (hi:(decide (i1<m)&&(decide (i2<m)&&decide (i1≠i2)))=true) (hlast:EveryTwo l A' C' L1 L2 i1 i2 0 fs)
 (hfine:AllTwo P l fs (RTwo A' C' L1 L2 i1 i2) (Two A A' C C' L1 L2 i1 i2 (w.drewN 1)) a0 ds 0 l fs)
 (hrest:∀(g:Nat→Value) (w':World) (M1 M2:List (Option Nat)),(A w' M1∨A' w' M1)→(C w' M2∨C' w' M2)→Dis M1 M2→Of w L1 M1→Of w L2 M2→Keeps (L1++L2) w w'→facts g w' ds fs→Q .normal (putg g ds a0) w'):(Code.region id l.toArray true).wp P Q a0 w:=by
 simp only [Bool.and_eq_true,decide_eq_true_eq] at hi;obtain ⟨hi1,hi2,h12⟩:=hi
 have hbd:Keeps [] w (w.drewN 1):=Keeps.of_below (Base.below_drewN (Below.refl w.heap.size w) 1);have hml:m≤l.length:=by simp only [good,Bool.and_eq_true,decide_eq_true_eq] at hg;exact hg.1
 refine region_gen (K:=fun b w'=>b.size=l.length∧Two A A' C C' L1 L2 i1 i2 (w.drewN 1) b w') (R:=RTwo A' C' L1 L2 i1 i2) m ds fs [] (l.length-m) .done hmo hg hns hp hQ hsz hlen
  ⟨by simp,Keeps.refl,L1,L2,.inr ⟨hA.keeps hA0 hbd (by simp),rfl⟩,.inr ⟨hC.keeps hC0 hbd (by simp),rfl⟩,hd,Of.refl,Of.refl⟩
  (fun b k w1 w2 hk hbk hK hR=>⟨by simp [hK.1],hK.2.step hA hC h12 (by rw [hK.1];omega) hbk hR⟩) (fun k w=>?_) (fun k j f hf hjk hwt v w1 w2 hR hv=>?_) trivial (fun k o f ho hf _ ev b w1 hr hK hb hh=>?_) (fun g w' hK hf=>?_)
 ·unfold RTwo;split
  ·exact .inl rfl
  ·split
   ·exact .inl rfl
   ·exact Below.refl _ _
 ·have:=everyTwo_at hlast k f hf;rw [Nat.zero_add] at this;obtain ⟨l1,l2,l3⟩:=this;have hw0:∀i,j=i→waits l k i=false:=by
   intro i hi;unfold waits;cases ho:l[k]? with
   | none=>rfl
   | some o=>
     rw [Bool.eq_false_iff];intro hh;obtain ⟨e,he,h2⟩:=List.any_eq_true.1 hh;rw [Bool.and_eq_true,beq_iff_eq] at h2
     exact hwt o ho e he h2.1 (h2.2.trans hi.symm)
  unfold RTwo at hR;split at hR
  ·rename_i e;rcases hR with rfl | ⟨M1,h1,h2⟩
   ·exact hv
   ·exact l2 (by omega) (hw0 _ e) v w1 w2 M1 h1 h2 hv
  ·split at hR
   ·rename_i e;rcases hR with rfl | ⟨M2,h1,h2⟩
    ·exact hv
    ·exact l3 (by omega) (hw0 _ e) v w1 w2 M2 h1 h2 hv
   ·exact l1 v w1 w2 hR hv
 ·have:=allTwo_at hfine k o f ho hf;rw [Nat.zero_add] at this;exact this ev b w1 hr hK.2 hb hh
 ·obtain ⟨-,hk,M1,M2,h1,h2,h3,h4,h5⟩:=hK;rw [Tree.grow];have hof:∀{L M:List (Option Nat)},Of (w.drewN 1) L M→Of w L M:=fun h k hk=>h k hk
  exact Tree.done (hrest g w' M1 M2 (h1.elim (fun h=>.inr h.1) (fun h=>.inl h.1)) (h2.elim (fun h=>.inr h.1) (fun h=>.inl h.1)) h3 (hof h4) (hof h5) (Keeps.trans (hbd.mono fun k hk=>by cases hk) hk Of.refl) hf)
end
end Go.Proofs.YtimoakmcelocfaaGreat.Each
namespace Go.Proofs.YtimoakmcelocfaaGreat.Pg
open Go.RowKit Base Txt Mem Par Each
section
variable {w w':World} {B:Zone} {g q:Nat} {v f bd t o:Value} {p:Nat} {b:Bd} {L M:List (Option Nat)} {x:Q} {rd:Ln.M} {fs ts:List Fld} {body:List UInt8}
theorem cells_inj {a c:List Value} {ty:TypeId} {fr:Nat × Nat} (h1:w.heap[g]?=some (.cells a.toArray ty fr)) (h2:w.heap[g]?=some (.cells c.toArray ty fr)):a=c:=by have h3:=h1.symm.trans h2;simp only [Option.some.injEq,Obj.cells.injEq,and_true] at h3;simpa using h3
theorem Told.keeps {out:List Rec.R} (h:Told L B w o out) (hk:Keeps M w w') (hM:∀k,some k∈M→some k∈B.z):Told L B w' o out:=by obtain ⟨ps,h1,h2,h3⟩:=h.outs;refine ⟨⟨ps,h1,fun x hx=>⟨(h2 x hx).1,?_⟩,hk.own h3 fun k e hm=>h.off k e (hM k hm)⟩,fun k e=>⟨(h.far k e).1,Nat.lt_of_lt_of_le (h.far k e).2 hk.size⟩,h.off⟩;have hf:=(h2 x hx).2;have hf2:Far M B.z w (.agg x.1) x.2:=⟨hf.reads,fun k hb=>⟨fun hm=>hf.off k hb (hM k hm),(hf.far k hb).2⟩,hf.off⟩;have:=hf2.keeps hk;exact ⟨this.reads,fun k hb=>⟨(hf.far k hb).1,(this.far k hb).2⟩,hf.off⟩
theorem Told.rezone {out:List Rec.R} (h:Told L B w o out) {Z:List (Option Nat)} (hZ:∀k,some k∈Z→some k∈B.z∨w.heap.size≤k):Told L ⟨B.b,Z⟩ w o out:=by
 obtain ⟨ps,h1,h2,h3⟩:=h.outs;refine ⟨⟨ps,h1,fun x hx=>⟨(h2 x hx).1,(h2 x hx).2.reads,(h2 x hx).2.far,fun k hb hz=>?_⟩,h3⟩,h.far,fun k e hz=>?_⟩
 ·rcases hZ k hz with e | e
  ·exact (h2 x hx).2.off k hb e
  ·have:=((h2 x hx).2.far k hb).2;omega
 ·rcases hZ k hz with e1 | e1
  ·exact h.off k e e1
  ·have:=(h.far k e).2;omega
end
end Go.Proofs.YtimoakmcelocfaaGreat.Pg
namespace Go.Proofs.YtimoakmcelocfaaGreat.Flt
open Go.RowKit Base Txt Mem Par Pg Each
abbrev fcells (g1 g2:Nat) (code:Nat) (pt:Bool):List Value:= [ptr g1,ptr g2,.int .i64 (code:Int),.bool pt]
abbrev fblks (g:Nat) (L1 L2:List (Option Nat)):List (Option Nat):=some g::(L1++L2)
section
variable {w w':World} {B g g1 g2 p:Nat} {b:Bd} {L1 L2 M:List (Option Nat)} {f:F}
structure Fix (M:List (Option Nat)) (w:World) (g:Nat) (cs:List Value):Prop where
 row:∃ty,w.heap[g]?=some (.cells cs.toArray ty (0,0))
 off:some g∉M
theorem Fix.below {cs:List Value} (h:Fix M w g cs) (hk:Keeps M w w'):Fix M w' g cs:=⟨h.row.imp fun _ h1=>hk.row h1 h.off,h.off⟩
theorem Fix.c {cs:List Value} (h:Fix M w g cs) (k:Nat) (v:Value) (hv:cs[k]?=some v):w.cell? ⟨g,k,none⟩=some v:=by obtain ⟨_,h1⟩:=h.row;exact row_cellL h1 hv
def OneBy (M:List (Option Nat)) (a:Option Addr) (c:Nat):Fact:=fun v w=>∃k,v=.slice (some ⟨k,0,none⟩) 1 1∧k<w.heap.size∧some k∉M∧w.cell? ⟨k,0,none⟩=some (.slice a 1 c)
def ToldBy (A' C C':World→List (Option Nat)→Prop) (L2 Z:List (Option Nat)) (B:Nat) (out:List Rec.R):Fact:=fun v w=>∃M1 M2,A' w M1∧(C w M2∨C' w M2)∧Dis M1 L2∧Pg.Told M1 ⟨B,L2++(M2++Z)⟩ w v out
variable {A A' C C':World→List (Option Nat)→Prop} {Z:List (Option Nat)} {out:List Rec.R} {i1 i2 k:Nat} {l:List Oper}
theorem ToldBy.below (hA:Thing A A') (hC:Thing C C') {v:Value} (h:ToldBy A' C C' L2 Z B out v w) (hb:Below w.heap.size w w'):ToldBy A' C C' L2 Z B out v w':=by obtain ⟨M1,M2,h1,h2,h3,h4⟩:=h;have hk:Keeps [] w w':=Keeps.of_below hb;exact ⟨M1,M2,hA.keeps' h1 hk (by simp),hC.now h2 hk (by simp),h3,h4.keeps hk (by simp)⟩
theorem ToldBy.step (hA:Thing A A') {v:Value} (h:ToldBy A' C C' L2 Z B out v w) {M:List (Option Nat)} (hM:C' w' M) (hs:Step L2 M w w'):ToldBy A' C C' L2 Z B out v w':=by
 obtain ⟨M1,M2,h1,h2,h3,h4⟩:=h;have h5:Pg.Told M1 ⟨B,L2++(M++Z)⟩ w v out:=h4.rezone fun k hk=>by
  rw [List.mem_append,List.mem_append] at hk;show some k∈L2++(M2++Z)∨_;rw [List.mem_append,List.mem_append];rcases hk with hk | hk | hk
  ·exact .inl (.inl hk)
  ·exact (hs.of k hk).imp .inl id
  ·exact .inl (.inr (.inr hk))
 exact ⟨M1,M,hA.keeps' h1 hs.keeps h3,.inr hM,h3,h5.keeps hs.keeps fun k hk=>List.mem_append_left _ hk⟩
theorem ToldBy.first (hA:Thing A A') (hC:Thing C C') (hk:k=i1∨waits l k i1=true):LastsTwo l A' C' L1 L2 i1 i2 k (ToldBy A' C C' L2 Z B out):=
 ⟨fun _ _ _ hb h=>h.below hA hC hb,fun h1 h2=>absurd hk (by rw [h2];simpa using h1),fun _ _ _ _ _ _ hM hs h=>h.step hA hM hs⟩
theorem ToldBy.second (hA:Thing A A') (hC:Thing C C') (hk:k=i2∨waits l k i2=true):LastsTwo l A' C' L1 L2 i1 i2 k (ToldBy C' A A' L1 Z B out):=
 ⟨fun _ _ _ hb h=>h.below hC hA hb,fun _ _ _ _ _ _ hM hs h=>h.step hC hM hs,fun h1 h2=>absurd hk (by rw [h2];simpa using h1)⟩
theorem told_widen {B:Zone} {L L':List (Option Nat)} {v:Value} (h:Pg.Told L B w v out) (hL:∀k,some k∈L'→some k∈L∨some k∈B.z):Pg.Told L' B w v out:=by
 obtain ⟨ps,h1,h2,h3⟩:=h.outs;refine ⟨⟨ps,h1,fun x hx=>⟨(h2 x hx).1,(h2 x hx).2.reads,fun k hb=>⟨fun hm=>?_,((h2 x hx).2.far k hb).2⟩,(h2 x hx).2.off⟩,h3⟩,fun k e=>⟨fun hm=>?_,(h.far k e).2⟩,h.off⟩
 ·rcases hL k hm with e | e
  ·exact ((h2 x hx).2.far k hb).1 e
  ·exact (h2 x hx).2.off k hb e
 ·rcases hL k hm with e1 | e1
  ·exact (h.far k e).1 e1
  ·exact h.off k e e1
theorem told_recs {B:Zone} {L:List (Option Nat)} {v:Value} (h:Pg.Told L B w v out):∃a c,v=.slice a out.length c∧Rec.Recs w a out.length out:=by
 obtain ⟨a,c,e,hc⟩:=h.at;refine ⟨a,c,e,rfl,fun h0=>?_⟩;obtain ⟨bk,e1,hlt,h1⟩:=hc h0;refine ⟨bk,0,e1,hlt,fun k hk=>?_⟩;obtain ⟨fa,fc,ba,bc,ta,tc,f1,f2,f3,c0,c1,c2,c3,c4,c5,c6⟩:=h1 k hk;have e2:out[k]?.getD Rec.r0=out[k]:=by rw [List.getElem?_eq_getElem hk];rfl
 rw [e2,Nat.zero_add];exact ⟨fa,fc,ba,bc,ta,tc,⟨c0,c1,c2,c3,c4,c5,c6⟩,fa,fc,ba,bc,ta,tc,rfl,f1,f2,f3⟩
theorem clear_app {Z Z' L:List (Option Nat)} (h:Clear w Z L) (h':Clear w Z' L):Clear w (Z++Z') L:=
 ⟨fun k hk=>(List.mem_append.1 hk).elim (h.inz k) (h'.inz k),fun k hk hz=>(List.mem_append.1 hz).elim (h.off k hk) (h'.off k hk)⟩
theorem clear_cons {Z L:List (Option Nat)} (hg:g<w.heap.size) (hn:some g∉L) (h:Clear w Z L):Clear w (some g::Z) L:=
 ⟨fun k hk=>by
   rcases List.mem_cons.1 hk with e | e
   ·cases e;exact hg
   ·exact h.inz k e,fun k hk hz=>by
   rcases List.mem_cons.1 hz with e | e
   ·cases e;exact hn hk
   ·exact h.off k hk e⟩
theorem clear_dis {Z L:List (Option Nat)} (hin:In w Z) (hd:Dis L Z):Clear w Z L:=⟨hin,hd⟩
theorem clear_sub {Z L L':List (Option Nat)} (h:Clear w Z L) (hs:∀k,some k∈L'→some k∈L):Clear w Z L':=⟨h.inz,fun k hk=>h.off k (hs k hk)⟩
theorem bts_sub {L L':List (Option Nat)} {a:Option Addr} {s:List UInt8} (h:Bts L w a s) (hs:∀k,some k∈L'→some k∈L):Bts L' w a s:=⟨h.nums,fun ad e=>⟨fun hm=>(h.far ad e).1 (hs _ hm),(h.far ad e).2⟩⟩
theorem bts_keeps {L:List (Option Nat)} {a:Option Addr} {s:List UInt8} (h:Bts L w a s) (hk:Keeps L w w'):Bts L w' a s:=h.step ⟨hk,Of.refl⟩
theorem told_nil (L:List (Option Nat)) (B:Zone) (w:World):Pg.Told L B w (.slice none 0 0) []:=⟨⟨[],rfl,(by intro x hx;cases hx),World.ownsRow_nil _ _ _ _⟩,(fun k e=>by cases e),(fun k e=>by cases e)⟩
end
end Go.Proofs.YtimoakmcelocfaaGreat.Flt
namespace Go.Proofs.YtimoakmcelocfaaGreat.Flt
open Go.RowKit Base Txt Mem Par Pg Each
section code
set_option maxHeartbeats 4000000
set_option maxRecDepth 20000
attribute [local go_sem] Base.some_undef
variable {w:World} {B g g1 g2 p:Nat} {b:Bd} {L1 L2:List (Option Nat)} {f:F}
end code
end Go.Proofs.YtimoakmcelocfaaGreat.Flt
namespace Go.Proofs.YtimoakmcelocfaaGreat.Flt
open Go.RowKit Base Txt Mem Par Pg Each
section
variable {w w' w0 w1:World} {B g g1 g2 p:Nat} {b:Bd} {L L' L1 L2 N1 N2 M1 M2 Z:List (Option Nat)} {f f':F} {V U:Value} {out out2:List Rec.R}
theorem look_len (hx:f.x.out= []) (c:UInt8):(f.look p b c).2.length≤2:=by
 show (if Rec.all (f.x.byte 0 b c).out (f.y.byte p b c).out=true then (f.x.byte 0 b c).out else []).length≤2;split
 ·have:=Q.byte_out (p:=0) (b:=b) f.x c;rw [hx] at this;simpa using this
 ·simp
theorem outs_step {B:Zone} (h:Outs (V.ownBlock::L) B w V out) (hs:Step L L' w w') (ho:∀k,V.ownBlock=some k→some k∉L):Outs (V.ownBlock::L') B w' V out:=by
 obtain ⟨ps,h1,h2,h3⟩:=h;refine ⟨ps,h1,fun x hx=>⟨(h2 x hx).1,?_⟩,hs.keeps.own h3 ho⟩;have e1:=(h2 x hx).2
 have e2:=e1.keeps (hs.keeps.mono fun k hk=>List.mem_cons_of_mem _ hk);refine ⟨e2.reads,fun k hb=>⟨fun hm=>?_,(e2.far k hb).2⟩,e1.off⟩;rcases List.mem_cons.1 hm with e | e
 ·exact (e1.far k hb).1 (by rw [e];exact List.mem_cons_self ..)
 ·rcases hs.of k e with e | e
  ·exact (e1.far k hb).1 (List.mem_cons_of_mem _ e)
  ·have:=(e1.far k hb).2;omega
theorem outs_append {b0 b1:Nat} (h:Outs (V.ownBlock::L) ⟨b0,Z⟩ w V out) (h':Outs (V.ownBlock::L) ⟨b1,Z⟩ w U out2) (hn:out.length+out2.length≤1000000000) (hb:b0≤w.heap.size) :
 ∃V' w',(Builtin.append_ #[51,51] 51 #[V,U]).run Tryz.prog w=.ok V' w'∧Outs (V'.ownBlock::L) ⟨b0,Z⟩ w' V' (out++out2)∧Keeps [V.ownBlock] w w'∧(V'.ownBlock=V.ownBlock∨V'.ownBlock=some w.heap.size):=by
 obtain ⟨ps,h1,h2,h3⟩:=h;obtain ⟨qs,g1,g2,g3⟩:=h';obtain ⟨iR,hi,hz0,hz1,hz2⟩:=info_parts record_info;have hlen:(qs.flatMap (·.1.toList)).length=out2.length*7:=by
  rw [←g1,List.length_map];have:∀rs:List (Array Value × Rec.R),(∀x∈rs,x.1.size=7)→(rs.flatMap (·.1.toList)).length=rs.length*7:=fun rs=>by
   induction rs with
   | nil=>intro _;rfl
   | cons x rs ih=>
     intro hx;rw [List.flatMap_cons,List.length_append,ih fun y hy=>hx y (by simp [hy]),Array.length_toList,hx x (by simp),List.length_cons];omega
  exact this qs fun x hx=>(g2 x hx).1
 obtain ⟨a,c,eU, -⟩:=Ln.own_slice g3;subst eU;have hone:∀u∈qs.flatMap (·.1.toList),u.oneCell'=true:=by
  intro u hu;obtain ⟨x,hx,hu⟩:=List.mem_flatMap.1 hu;obtain ⟨fa,fc,ba,bc,ta,tc,e, -, -, -⟩:=(g2 x hx).2.reads;have e:x.1= #[.string x.2.m,.string x.2.x,.int .i64 x.2.k,.slice fa x.2.fs.length fc,.bool x.2.ch,.slice ba x.2.body.length bc,.slice ta x.2.ts.length tc]:=by injection e
  rw [e] at hu;simp only [List.mem_cons,List.not_mem_nil,or_false] at hu;rcases hu with rfl | rfl | rfl | rfl | rfl | rfl | rfl<;>rfl
 obtain ⟨V',w',hrun,ho,hgr,hor⟩:=App.run_append_list w 51 51 b0 57 iR (.agg #[.string ByteArray.empty,.string ByteArray.empty,.int .i64 0,.slice none 0 0,.bool false,.slice none 0 0,.slice none 0 0]) 7 120 Tryz.underlying51 hi hz0 hz1 hz2 rfl (by decide) V out.length (ps.flatMap (·.1.toList)) h3 a out2.length c (qs.flatMap (·.1.toList)) hlen
  (fun h0=>by
    obtain ⟨bk,cf,hform, -,hlt⟩:=g3.form h0;simp only [Value.slice.injEq,true_and] at hform;obtain ⟨rfl,rfl⟩:=hform
    exact ⟨bk,0,rfl,fun j u hu=>by
     have hj:j<(qs.flatMap (·.1.toList)).length:=(List.getElem?_eq_some_iff.1 hu).1;rw [Nat.zero_add]
     exact (g3.cellAt j (by rw [hlen] at hj;omega)).trans hu⟩)
  hone (by unfold maxLen;omega) (by omega) hb
 have hk:Keeps [V.ownBlock] w w':=Keeps.grown hgr fun k e=>by rw [e];exact List.mem_singleton.2 rfl
 refine ⟨V',w',hrun,⟨ps++qs,by rw [List.map_append,h1,g1],fun x hx=>?_,by rw [List.length_append,List.flatMap_append];exact ho⟩,hk,hor⟩
 have hx2:x.1.size=7∧Far (V.ownBlock::L) Z w (.agg x.1) x.2:=(List.mem_append.1 hx).elim (h2 x) (g2 x);refine ⟨hx2.1,?_⟩;have e1:=hx2.2
 have e2:=e1.keeps (hk.mono fun k hk=>by rw [List.mem_singleton.1 hk];exact List.mem_cons_self ..);refine ⟨e2.reads,fun k hb=>⟨fun hm=>?_,(e2.far k hb).2⟩,e1.off⟩;rcases List.mem_cons.1 hm with e | e
 ·rcases hor with e3 | e3
  ·exact (e1.far k hb).1 (by rw [e,e3];exact List.mem_cons_self ..)
  ·rw [e3] at e;have:=(e1.far k hb).2;cases e;omega
 ·exact (e1.far k hb).1 (List.mem_cons_of_mem _ e)
end
end Go.Proofs.YtimoakmcelocfaaGreat.Flt
namespace Go.Proofs.YtimoakmcelocfaaGreat.Flt
open Go.RowKit Base Txt Mem Par Pg Each
structure PartsC (L:List (Option Nat)) (w:World) (a:Option Addr) (ls:List (List UInt8)):Prop where
 cells:0<ls.length→∃bk off,a=some ⟨bk,off,none⟩∧bk<w.heap.size∧some bk∉L∧∀k (hk:k<ls.length),∃ak ck,w.cell? ⟨bk,off+k,none⟩=some (.slice ak ls[k].length ck)∧ls[k].length≤ck∧(ls[k]≠ []→Bts L w ak ls[k])
section code
set_option maxHeartbeats 4000000
set_option maxRecDepth 20000
attribute [local go_sem] Base.some_undef
variable {w:World} {B g g1 g2 p:Nat} {b:Bd} {L1 L2:List (Option Nat)} {f:F}
theorem feed_len (p:Nat) (b:Bd):∀(l:List UInt8) (f:F),f.x.out= []→(F.feed p b f l).2.length≤2*l.length∧(F.feed p b f l).1.x.out= []
 | [],f,h=>⟨Nat.zero_le _,h⟩
 | c::l,f,h=>by
   have h1:(f.byte p b c).2.length≤2∧(f.byte p b c).1.x.out= []:=by
    unfold F.byte;split
    ·refine ⟨look_len h c,?_⟩;show (F.judge _ _ _ _).x.out= [];unfold F.judge;split
     ·exact told_out _
     ·split<;>exact told_out _
    ·exact ⟨Nat.zero_le _,h⟩
   obtain ⟨h2,h3⟩:=feed_len p b l (f.byte p b c).1 h1.2;refine ⟨?_,h3⟩
   show ((f.byte p b c).2++(F.feed p b (f.byte p b c).1 l).2).length≤2*(l.length+1);rw [List.length_append];omega
end code
end Go.Proofs.YtimoakmcelocfaaGreat.Flt
namespace Go.Proofs.YtimoakmcelocfaaGreat.Par
open Go.RowKit Base Txt Mem
abbrev nil:Value:=.slice none 0 0
structure Cs (w:World) (g:Nat) (p:Nat) (b:Bd) (s:S) (q:Nat) (f bd t o:Value):Prop where
 c0:w.cell? ⟨g,0,none⟩=some (.int .u32 (p:Int))
 c1:w.cell? ⟨g,1,none⟩=some (.int .i64 b.x0)
 c2:w.cell? ⟨g,2,none⟩=some (.int .i64 b.x1)
 c3:w.cell? ⟨g,3,none⟩=some (.int .i64 b.x2)
 c4:w.cell? ⟨g,4,none⟩=some (.int .i64 b.x3)
 c5:w.cell? ⟨g,5,none⟩=some (.int .i64 b.x4)
 c6:w.cell? ⟨g,6,none⟩=some (.int .i64 b.x5)
 c7:w.cell? ⟨g,7,none⟩=some (.int .i64 b.x6)
 c8:w.cell? ⟨g,8,none⟩=some (.int .i64 b.x7)
 c9:w.cell? ⟨g,9,none⟩=some (.bool b.ch)
 c10:w.cell? ⟨g,10,none⟩=some (.bool b.od)
 c11:w.cell? ⟨g,11,none⟩=some (.int .i64 (s.st:Int))
 c12:w.cell? ⟨g,12,none⟩=some (ptr q)
 c13:w.cell? ⟨g,13,none⟩=some (.string s.r.m)
 c14:w.cell? ⟨g,14,none⟩=some (.string s.r.x)
 c15:w.cell? ⟨g,15,none⟩=some (.int .i64 s.r.k)
 c16:w.cell? ⟨g,16,none⟩=some (f)
 c17:w.cell? ⟨g,17,none⟩=some (.bool s.r.ch)
 c18:w.cell? ⟨g,18,none⟩=some (bd)
 c19:w.cell? ⟨g,19,none⟩=some (t)
 c20:w.cell? ⟨g,20,none⟩=some (.int .i64 (s.lines:Int))
 c21:w.cell? ⟨g,21,none⟩=some (.int .i64 (s.head:Int))
 c22:w.cell? ⟨g,22,none⟩=some (.int .i64 (s.left:Int))
 c23:w.cell? ⟨g,23,none⟩=some (.bool s.fresh)
 c24:w.cell? ⟨g,24,none⟩=some (.bool s.clean)
 c25:w.cell? ⟨g,25,none⟩=some (.int .i64 (s.e:Int))
 c26:w.cell? ⟨g,26,none⟩=some (o)
theorem Cs.of {w:World} {g:Nat} {p:Nat} {b:Bd} {s:S} {q:Nat} {f bd t o:Value} (h:w.heap[g]?=some (.cells (pcells p b s q f bd t o).toArray 59 (0,0))):Cs w g p b s q f bd t o:=⟨row_cellL h rfl,row_cellL h rfl,row_cellL h rfl,row_cellL h rfl,row_cellL h rfl,row_cellL h rfl,row_cellL h rfl,row_cellL h rfl,row_cellL h rfl,row_cellL h rfl,row_cellL h rfl,row_cellL h rfl,row_cellL h rfl,row_cellL h rfl,row_cellL h rfl,row_cellL h rfl,row_cellL h rfl,row_cellL h rfl,row_cellL h rfl,row_cellL h rfl,row_cellL h rfl,row_cellL h rfl,row_cellL h rfl,row_cellL h rfl,row_cellL h rfl,row_cellL h rfl,row_cellL h rfl⟩
section code
set_option maxHeartbeats 4000000
set_option maxRecDepth 20000
variable {w:World} {B:Zone} {g q:Nat} {v f bd t o:Value} {p:Nat} {b:Bd} {s:S}
theorem PR.cs (h:PR w B g q v f bd t o p b s):Cs w g p b s q f bd t o:=Cs.of h.row
theorem PR.marks (h:PR w B g q v f bd t o p b s) (k:Nat):w.frozen? ⟨g,k,none⟩=false:=Ln.row_frozen h.row k
theorem PR.zero_of {f1 bd1 t1:Value} {fs1 ts1:List Fld} {body1:List UInt8} (hr:w.heap[g]?=some (.cells (pcells p b s q f bd t o).toArray 59 (0,0))) (ho:Own w B g q v f1 bd1 t1 o p s.rd fs1 body1 ts1 s.out) (s':S) (hs:s'={s with r:=zero}) :
 PR (((((((w.setCell ⟨g,13,none⟩ (.string E0)).setCell ⟨g,14,none⟩ (.string E0)).setCell ⟨g,15,none⟩ (.int .i64 0)).setCell ⟨g,16,none⟩ nil).setCell ⟨g,17,none⟩ (.bool false)).setCell ⟨g,18,none⟩ nil).setCell ⟨g,19,none⟩ nil) B g q v nil nil nil o p b s':=by
 subst hs;refine ⟨?_,(((((((ho.zero).set 13 _).set 14 _).set 15 _).set 16 _).set 17 _).set 18 _).set 19 _⟩;exact row_setL (row_setL (row_setL (row_setL (row_setL (row_setL (row_setL hr 13 _) 14 _) 15 _) 16 _) 17 _) 18 _) 19 _
theorem PR.zero (h:PR w B g q v f bd t o p b s) (s':S) (hs:s'={s with r:=zero}):PR (((((((w.setCell ⟨g,13,none⟩ (.string E0)).setCell ⟨g,14,none⟩ (.string E0)).setCell ⟨g,15,none⟩ (.int .i64 0)).setCell ⟨g,16,none⟩ nil).setCell ⟨g,17,none⟩ (.bool false)).setCell ⟨g,18,none⟩ nil).setCell ⟨g,19,none⟩ nil) B g q v nil nil nil o p b s':=
 PR.zero_of h.row h.own s' hs
theorem Step.put7 (u13 u14 u15 u16 u17 u18 u19:Value):Step (blks g q v f bd t o) (blks g q v f bd t o) w (((((((w.setCell ⟨g,13,none⟩ u13).setCell ⟨g,14,none⟩ u14).setCell ⟨g,15,none⟩ u15).setCell ⟨g,16,none⟩ u16).setCell ⟨g,17,none⟩ u17).setCell ⟨g,18,none⟩ u18).setCell ⟨g,19,none⟩ u19):=
 ((((((Step.set g 13 _ (by simp)).trans (Step.set g 14 _ (by simp))).trans (Step.set g 15 _ (by simp))).trans (Step.set g 16 _ (by simp))).trans (Step.set g 17 _ (by simp))).trans (Step.set g 18 _ (by simp))).trans (Step.set g 19 _ (by simp))
theorem fail_any (h:PR w B g q v f bd t o p b s) (e:Nat):Calls Tryz.prog 56 #[ptr g,.int .i64 (e:Int)] w fun r w'=>
 r=.returned (.tuple #[])∧PR w' B g q v nil nil nil o p b (s.fail e)∧Step (blks g q v f bd t o) (blks g q v nil nil nil o) w w':=by
 have H:=Lib.hid h;have c24:=h.cs.c24;have z24:=h.marks 24;have c25:=h.cs.c25;have z25:=h.marks 25;have c13:=h.cs.c13;have z13:=h.marks 13;have c14:=h.cs.c14;have z14:=h.marks 14;have c15:=h.cs.c15;have z15:=h.marks 15;have c16:=h.cs.c16;have z16:=h.marks 16;have c17:=h.cs.c17;have z17:=h.marks 17;have c18:=h.cs.c18;have z18:=h.marks 18;have c19:=h.cs.c19;have z19:=h.marks 19
 have H1:=Lib.hid (h.put 25 (.int .i64 (e:Int)) {s with e:=e} rfl rfl rfl rfl rfl rfl)
 have H2:=Lib.hid (H1.out.put 24 (.bool false) {s with e:=e,clean:=false} rfl rfl rfl rfl rfl rfl);clear h;go_enter Tryz.func56,Tryz.ntmps56;go_wp2;go_end0;exact ⟨rfl,H2.out.zero _ rfl,((Step.set g 25 _ (by simp)).trans (Step.set g 24 _ (by simp))).trans ((Step.put7 _ _ _ _ _ _ _).trans Step.zero)⟩
theorem rnew_line (B:Nat) (most:Int) (w:World) (hB:B≤w.heap.size):Calls Tryz.prog 55 #[.int .u32 (p:Int),.int .i64 most] w fun r w'=>∃q1,r=.returned (ptr q1)∧w.heap.size≤q1∧Ln.Rr w' B q1 nil p (nl p most)∧Below w.heap.size w w':=by refine (Ln.rnew_any p most w).mono ?_;rintro r w' ⟨rfl,rfl⟩;exact ⟨_,rfl,Nat.le_refl _,⟨heap_alloc_new w _,World.ownsRow_nil _ _ _ _,hB,by simp [Value.ownBlock]⟩,(Below.refl _ _).alloc (Nat.le_refl _) _⟩
theorem next_any {f1 bd1 t1:Value} {fs1 ts1:List Fld} {body1:List UInt8} (hrow:w.heap[g]?=some (.cells (pcells p b s q f bd t o).toArray 59 (0,0))) (ho:Own w B g q v f1 bd1 t1 o p s.rd fs1 body1 ts1 s.out):Calls Tryz.prog 36 #[ptr g] w fun r w'=>
 r=.returned (.tuple #[])∧∃q1,PR w' B g q1 nil nil nil nil o p b (s.next p b)∧Step (blks g q v f1 bd1 t1 o) (blks g q1 nil nil nil nil o) w w':=by
 have H1:=Lib.hid ((((((PR.zero_of hrow ho {s with r:=zero} rfl).put 11 (.int .i64 0) {s with r:=zero,st:=0} rfl rfl rfl rfl rfl rfl).put 20 (.int .i64 0) {s with r:=zero,st:=0,lines:=0} rfl rfl rfl rfl rfl rfl).put 21 (.int .i64 0) {s with r:=zero,st:=0,lines:=0,head:=0} rfl rfl rfl rfl rfl rfl).put 23 (.bool false) {s with r:=zero,st:=0,lines:=0,head:=0,fresh:=false} rfl rfl rfl rfl rfl rfl).put 24 (.bool true) {s with r:=zero,st:=0,lines:=0,head:=0,fresh:=false,clean:=true} rfl rfl rfl rfl rfl rfl)
 have HS:=Lib.hid ((((((Step.put7 (w:=w) (g:=g) (q:=q) (v:=v) (f:=f1) (bd:=bd1) (t:=t1) (o:=o) (.string E0) (.string E0) (.int .i64 0) nil (.bool false) nil nil).trans (Step.set g 11 (.int .i64 0) (by simp))).trans (Step.set g 20 (.int .i64 0) (by simp))).trans (Step.set g 21 (.int .i64 0) (by simp))).trans (Step.set g 23 (.bool false) (by simp))).trans (Step.set g 24 (.bool true) (by simp)));have cs:=Cs.of hrow;have c11:=cs.c11;have z11:=Ln.row_frozen hrow 11;have c20:=cs.c20;have z20:=Ln.row_frozen hrow 20;have c21:=cs.c21;have z21:=Ln.row_frozen hrow 21;have c23:=cs.c23;have z23:=Ln.row_frozen hrow 23;have c24:=cs.c24;have z24:=Ln.row_frozen hrow 24;have c13:=cs.c13;have z13:=Ln.row_frozen hrow 13;have c14:=cs.c14;have z14:=Ln.row_frozen hrow 14;have c15:=cs.c15;have z15:=Ln.row_frozen hrow 15;have c16:=cs.c16;have z16:=Ln.row_frozen hrow 16;have c17:=cs.c17;have z17:=Ln.row_frozen hrow 17;have c18:=cs.c18;have z18:=Ln.row_frozen hrow 18;have c19:=cs.c19;have z19:=Ln.row_frozen hrow 19
 have HB:=Lib.hid (ho.ge);clear hrow ho cs;go_enter Tryz.func36,Tryz.ntmps36;go_upto_region 1 with fail
 generalize (((((((((((w.setCell ⟨g,13,none⟩ (.string E0)).setCell ⟨g,14,none⟩ (.string E0)).setCell ⟨g,15,none⟩ (.int .i64 0)).setCell ⟨g,16,none⟩ (nil)).setCell ⟨g,17,none⟩ (.bool false)).setCell ⟨g,18,none⟩ (nil)).setCell ⟨g,19,none⟩ (nil)).setCell ⟨g,11,none⟩ (.int .i64 0)).setCell ⟨g,20,none⟩ (.int .i64 0)).setCell ⟨g,21,none⟩ (.int .i64 0)).setCell ⟨g,23,none⟩ (.bool false)).setCell ⟨g,24,none⟩ (.bool true)=W1 at *;clear c11 c20 c21 c23 c24 c13 c14 c15 c16 c17 c18 c19 z11 z20 z21 z23 z24 z13 z14 z15 z16 z17 z18 z19;obtain ⟨S1,hS1⟩:∃S1:S,{s with r:=zero,st:=0,lines:=0,head:=0,fresh:=false,clean:=true}=S1:=⟨_,rfl⟩;have HS1:=Lib.hid hS1;rw [hS1] at H1;clear hS1
 have HQ:=Lib.hid ((H1.out.drew 1).bk)
 have HBW:=Lib.hid (show B≤(W1.drewN 1).heap.size from Nat.le_trans HB.out (Nat.le_of_lt (H1.out.drew 1).own.lt));refine Each.region 11 [21,22,23,24,25,26,27,28,29,30,31]
  [fun v _=>v=.pointer (some ⟨g,0,none⟩),
    fun v _=>v=.pointer (some ⟨g,0,none⟩),
    fun v _=>v=.pointer (some ⟨g,0,none⟩),
    fun v _=>v=.pointer (some ⟨g,0,none⟩),
    fun v _=>v=.int .u32 (p:Int),
    fun v _=>v=.pointer (some ⟨g,0,none⟩),
    fun v _=>v=.pointer (some ⟨g,0,none⟩),
    fun v _=>v=.pointer (some ⟨g,1,none⟩),
    fun v _=>v=.pointer (some ⟨g,1,none⟩),
    fun v _=>v=.int .i64 b.x0,
    fun v w=>∃q1,v=ptr q1∧W1.heap.size≤q1∧Ln.Rr w B q1 nil p (nl p (b.x0))]
  (.quiet 11 (.quiet 12 (.act 13 .done))) (by kernel_rfl) (by kernel_rfl) (by kernel_rfl) (by kernel_rfl) (fun _ _ d _ _ h=>by cases d<;>exact h) (by rfl) (by rfl)
  ⟨Each.Lasts.eq _,Each.Lasts.eq _,Each.Lasts.eq _,Each.Lasts.eq _,Each.Lasts.eq _,Each.Lasts.eq _,Each.Lasts.eq _,Each.Lasts.eq _,Each.Lasts.eq _,Each.Lasts.eq _,((fun _ _ _ hb h=>by obtain ⟨q1,e1,h1,h2⟩:=h;exact ⟨q1,e1,h1,rr_below h2 hb⟩)),trivial⟩ ?_ ?_
 ·refine ⟨?_,?_,?_,?_,?_,?_,?_,?_,?_,?_,?_,trivial⟩
  ·refine Each.fine rfl (fun ev w1 hR hb hh=>?_);clear hh;have e0:=hR.old 0 rfl;simp only [Array.getD_eq_getD_getElem?,List.getElem?_toArray,List.getElem?_cons_zero,Option.getD_some] at e0;refine Each.Goes.same ?_;go_simp;try with_reducible rfl
  ·refine Each.fine rfl (fun ev w1 hR hb hh=>?_);clear hh;have e0:=hR.old 0 rfl;simp only [Array.getD_eq_getD_getElem?,List.getElem?_toArray,List.getElem?_cons_zero,Option.getD_some] at e0;refine Each.Goes.same ?_;go_simp;try with_reducible rfl
  ·refine Each.fine rfl (fun ev w1 hR hb hh=>?_);have e22:(ev (.tmp 22)=.pointer (some ⟨g,0,none⟩)):=hh.at 0;clear hh;refine Each.Goes.same ?_;go_simp;try with_reducible rfl
  ·refine Each.fine rfl (fun ev w1 hR hb hh=>?_);have e23:(ev (.tmp 23)=.pointer (some ⟨g,0,none⟩)):=hh.at 0;clear hh;refine Each.Goes.same ?_;go_simp;try with_reducible rfl
  ·refine Each.fine rfl (fun ev w1 hR hb hh=>?_);have e24:(ev (.tmp 24)=.pointer (some ⟨g,0,none⟩)):=hh.at 0;clear hh;have q0:=(HQ.out.below hb).c 0 _ rfl;refine Each.Goes.same ?_;go_simp;try with_reducible rfl
  ·refine Each.fine rfl (fun ev w1 hR hb hh=>?_);clear hh;have e0:=hR.old 0 rfl;simp only [Array.getD_eq_getD_getElem?,List.getElem?_toArray,List.getElem?_cons_zero,Option.getD_some] at e0;refine Each.Goes.same ?_;go_simp;try with_reducible rfl
  ·refine Each.fine rfl (fun ev w1 hR hb hh=>?_);have e26:(ev (.tmp 26)=.pointer (some ⟨g,0,none⟩)):=hh.at 0;clear hh;refine Each.Goes.same ?_;go_simp;try with_reducible rfl
  ·refine Each.fine rfl (fun ev w1 hR hb hh=>?_);have e27:(ev (.tmp 27)=.pointer (some ⟨g,0,none⟩)):=hh.at 0;clear hh;refine Each.Goes.same ?_;go_simp;try with_reducible rfl
  ·refine Each.fine rfl (fun ev w1 hR hb hh=>?_);have e28:(ev (.tmp 28)=.pointer (some ⟨g,1,none⟩)):=hh.at 0;clear hh;refine Each.Goes.same ?_;go_simp;try with_reducible rfl
  ·refine Each.fine rfl (fun ev w1 hR hb hh=>?_);have e29:(ev (.tmp 29)=.pointer (some ⟨g,1,none⟩)):=hh.at 0;clear hh;have q1:=(HQ.out.below hb).c 1 _ rfl;refine Each.Goes.same ?_;go_simp;try with_reducible rfl
  ·refine Each.fine rfl (fun ev w1 hR hb hh=>?_);have e25:(ev (.tmp 25)=.int .u32 (p:Int)):=hh.at 0;have e30:(ev (.tmp 30)=.int .i64 b.x0):=hh.at 1;clear hh;have ef:=hR.func
   refine Each.Goes.enter 55 #[.int .u32 (p:Int),.int .i64 (b.x0)] (by go_simp) ((rnew_line B (b.x0) w1 (Nat.le_trans HBW.out hb.size)).mono ?_);rintro r w2 ⟨q1,rfl,h1,h2,hb2⟩;exact ⟨_,rfl,hb2,q1,rfl,Nat.le_trans hb.size h1,h2⟩
 intro g1 w2 hb hf;have z21:(g1 21=.pointer (some ⟨g,0,none⟩)):=hf.at 0;have z31:((fun v w=>∃q1,v=ptr q1∧W1.heap.size≤q1∧Ln.Rr w B q1 nil p (nl p (b.x0))) (g1 31) w2):=hf.at 10;clear hf;obtain ⟨q1,e1,hq1,hr1⟩:=z31;simp only [Each.putg,Act.put,List.setIfInBounds_toArray,List.set_cons_zero,List.set_cons_succ];rw [e1,z21];simp only [Tree.grow,Tree.put1,List.getElem?_cons_zero,List.getElem?_cons_succ];refine Tree.quiet (by rfl) (ptr g) (fun _ _=>by go_simp) ?_;simp only [Act.put,List.setIfInBounds_toArray,List.set_cons_zero,List.set_cons_succ];refine Tree.quiet (by rfl) (.pointer (some ⟨g,12,none⟩)) (fun _ _=>by go_simp) ?_;simp only [Act.put,List.setIfInBounds_toArray,List.set_cons_zero,List.set_cons_succ];have c12:=(H1.out.below hb).cs.c12;have z12:=(H1.out.below hb).marks 12
 refine Tree.change (by rfl) (fun K hK=>?_);go_simp;refine hK _ _ trivial ?_;clear hK K;refine Tree.done ?_;have H2:=H1.out.line hb hr1 hq1
 have HS2:=(HS.out.trans Step.zero).trans ((Step.line hb hq1).trans (Step.set g 12 (ptr q1) (by simp)));rw [←HS1.out] at H2;clear H1 HQ HBW HS HS1 hr1 hq1 c12 z12;go_wp2;go_end0;exact ⟨rfl,q1,H2,HS2⟩
theorem record_info:(Tryz.prog.info? 57).map (fun i=>(i.zero,i.size,i.bytes))=some (some (.agg #[.string ByteArray.empty,.string ByteArray.empty,.int .i64 0,.slice none 0 0,.bool false,.slice none 0 0,.slice none 0 0]),7,120):=by kernel_rfl
theorem whole_any (h:PR w B g q v f bd t o p b s) (hn:s.out.length≤1000000000):Calls Tryz.prog 69 #[ptr g] w fun r w'=>
 r=.returned (.tuple #[])∧∃q1 o1,PR w' B g q1 nil nil nil nil o1 p b (s.whole p b)∧Step (blks g q v f bd t o) (blks g q1 nil nil nil nil o1) w w':=by
 obtain ⟨iR,hi,hz0,hz1,hz2⟩:=info_parts record_info;have I1:=Lib.hid hi;have I2:=Lib.hid hz0;have I3:=Lib.hid hz1;have I4:=Lib.hid hz2;clear hi hz0 hz1 hz2;have H:=Lib.hid h;have HN:=Lib.hid hn
 have HQ:=Lib.hid ((h.drew 1).bk);clear h hn;go_enter Tryz.func69,Tryz.ntmps69;go_upto_region 0 with fail
 refine Each.region_float 10 [2,3,4,5,6,7,8,9,10,11]
  [fun v _=>v=.pointer (some ⟨g,0,none⟩),
    fun v _=>v=.pointer (some ⟨g,0,none⟩),
    fun v _=>v=.pointer (some ⟨g,0,none⟩),
    fun v _=>v=.pointer (some ⟨g,26,none⟩),
    fun v _=>v=o,
    fun v _=>v=.pointer (some ⟨g,0,none⟩),
    fun v _=>v=.pointer (some ⟨g,0,none⟩),
    fun v _=>v=.pointer (some ⟨g,13,none⟩),
    fun v _=>v=.agg #[.string s.r.m,.string s.r.x,.int .i64 s.r.k,f,.bool s.r.ch,bd,t],
    fun v w=>∃g1,v=.slice (some ⟨g1,0,none⟩) 1 1∧Rec.Bk w g1 [.string s.r.m,.string s.r.x,.int .i64 s.r.k,f,.bool s.r.ch,bd,t]]
  [] 4 (some 0) (.act 10 (.quiet 11 (.quiet 12 (.act 13 .done)))) (.quiet 0 (.act 10 (.quiet 11 (.quiet 12 (.act 13 .done))))) (by kernel_rfl) (by kernel_rfl) (by kernel_rfl) (by kernel_rfl) (fun k0 h=>by cases h;kernel_rfl) (fun _ _ d _ _ h=>by cases d<;>exact h) (by rfl) (by rfl)
  ⟨Each.Lasts.eq _,Each.Lasts.eq _,Each.Lasts.eq _,Each.Lasts.eq _,Each.Lasts.eq _,Each.Lasts.eq _,Each.Lasts.eq _,Each.Lasts.eq _,Each.Lasts.eq _,((fun _ _ _ hb h=>by obtain ⟨g1,e1,hB⟩:=h;exact ⟨g1,e1,hB.below hb⟩)),trivial⟩ trivial (by rfl) ?_ ?_ ?_
 ·refine ⟨?_,?_,?_,?_,?_,?_,?_,?_,?_,?_,trivial⟩
  ·refine Each.fine rfl (fun ev w1 hR hb hh=>?_);clear hh;have e0:=hR.old 0 rfl;simp only [Array.getD_eq_getD_getElem?,List.getElem?_toArray,List.getElem?_cons_zero,Option.getD_some] at e0;refine Each.Goes.same ?_;go_simp;try with_reducible rfl
  ·refine Each.fine rfl (fun ev w1 hR hb hh=>?_);clear hh;have e0:=hR.old 0 rfl;simp only [Array.getD_eq_getD_getElem?,List.getElem?_toArray,List.getElem?_cons_zero,Option.getD_some] at e0;refine Each.Goes.same ?_;go_simp;try with_reducible rfl
  ·refine Each.fine rfl (fun ev w1 hR hb hh=>?_);have e3:(ev (.tmp 3)=.pointer (some ⟨g,0,none⟩)):=hh.at 0;clear hh;refine Each.Goes.same ?_;go_simp;try with_reducible rfl
  ·refine Each.fine rfl (fun ev w1 hR hb hh=>?_);have e4:(ev (.tmp 4)=.pointer (some ⟨g,0,none⟩)):=hh.at 0;clear hh;refine Each.Goes.same ?_;go_simp;try with_reducible rfl
  ·refine Each.fine rfl (fun ev w1 hR hb hh=>?_);have e5:(ev (.tmp 5)=.pointer (some ⟨g,26,none⟩)):=hh.at 0;clear hh;have q26:=(HQ.out.below hb).c 26 _ rfl;refine Each.Goes.same ?_;go_simp;try with_reducible rfl
  ·refine Each.fine rfl (fun ev w1 hR hb hh=>?_);clear hh;have e0:=hR.old 0 rfl;simp only [Array.getD_eq_getD_getElem?,List.getElem?_toArray,List.getElem?_cons_zero,Option.getD_some] at e0;refine Each.Goes.same ?_;go_simp;try with_reducible rfl
  ·refine Each.fine rfl (fun ev w1 hR hb hh=>?_);have e7:(ev (.tmp 7)=.pointer (some ⟨g,0,none⟩)):=hh.at 0;clear hh;refine Each.Goes.same ?_;go_simp;try with_reducible rfl
  ·refine Each.fine rfl (fun ev w1 hR hb hh=>?_);have e8:(ev (.tmp 8)=.pointer (some ⟨g,0,none⟩)):=hh.at 0;clear hh;refine Each.Goes.same ?_;go_simp;try with_reducible rfl
  ·refine Each.fine rfl (fun ev w1 hR hb hh=>?_);have e9:(ev (.tmp 9)=.pointer (some ⟨g,13,none⟩)):=hh.at 0;clear hh;have q13:=(HQ.out.below hb).c 13 _ rfl;have q14:=(HQ.out.below hb).c 14 _ rfl;have q15:=(HQ.out.below hb).c 15 _ rfl;have q16:=(HQ.out.below hb).c 16 _ rfl;have q17:=(HQ.out.below hb).c 17 _ rfl;have q18:=(HQ.out.below hb).c 18 _ rfl;have q19:=(HQ.out.below hb).c 19 _ rfl;refine Each.Goes.same ?_;go_simp;try with_reducible rfl
  ·refine Each.fine rfl (fun ev w1 hR hb hh=>?_);have e10:(ev (.tmp 10)=.agg #[.string s.r.m,.string s.r.x,.int .i64 s.r.k,f,.bool s.r.ch,bd,t]):=hh.at 0;clear hh;exact Each.Goes.value (.slice (some ⟨w1.heap.size,0,none⟩) 1 1) (w1.alloc (.cells #[.string s.r.m,.string s.r.x,.int .i64 s.r.k,f,.bool s.r.ch,bd,t] 57)) (by go_simp) ((Below.refl _ _).alloc (Nat.le_refl _) _) ⟨_,rfl,Rec.Bk.new w1 _ rfl 57 [.string s.r.m,.string s.r.x,.int .i64 s.r.k,f,.bool s.r.ch,bd,t]⟩
 ·intro g1 w2 hb hf;have z2:(g1 2=.pointer (some ⟨g,0,none⟩)):=hf.at 0;have z6:(g1 6=o):=hf.at 4;have z11:((fun v w=>∃g1,v=.slice (some ⟨g1,0,none⟩) 1 1∧Rec.Bk w g1 [.string s.r.m,.string s.r.x,.int .i64 s.r.k,f,.bool s.r.ch,bd,t]) (g1 11) w2):=hf.at 9;clear hf;obtain ⟨gl,el,hBl⟩:=z11;simp only [Each.putg,Act.put,List.setIfInBounds_toArray,List.set_cons_zero,List.set_cons_succ];rw [z2,z6,el];simp only [Tree.grow,Tree.put1,List.getElem?_cons_zero,List.getElem?_cons_succ];have H2:=H.out.below hb;obtain ⟨ps,hps,hfar,hrow⟩:=H2.own.O;obtain ⟨bo,co,eo, -⟩:=Ln.own_slice hrow;subst eo
  obtain ⟨v',w3,hrun,ho,hgr,hor⟩:=App.run_append_list w2 51 51 B 57 iR (.agg #[.string ByteArray.empty,.string ByteArray.empty,.int .i64 0,.slice none 0 0,.bool false,.slice none 0 0,.slice none 0 0]) 7 120 Tryz.underlying51 I1.out I2.out I3.out I4.out rfl (by decide) (.slice bo s.out.length co) s.out.length (ps.flatMap (·.1.toList)) hrow (some ⟨gl,0,none⟩) 1 1 [.string s.r.m,.string s.r.x,.int .i64 s.r.k,f,.bool s.r.ch,bd,t] rfl (fun _=>⟨gl,0,rfl,fun j u hu=>by rw [Nat.zero_add];exact hBl.c j u hu⟩) (by intro u hu;simp only [List.mem_cons,List.not_mem_nil,or_false] at hu;rcases hu with rfl | rfl | rfl | rfl | rfl | rfl | rfl<;>first | rfl | exact one_own H2.own.F | exact one_own H2.own.D | exact one_own H2.own.T) (by have:=HN.out;unfold maxLen;omega) (by have:=HN.out;omega) (Nat.le_trans H2.own.ge (Nat.le_of_lt H2.own.lt));obtain ⟨b9,c9,e9, -⟩:=Ln.own_slice ho;subst e9;have HP:=H2.own.push hgr ps hps hfar ho hor;have hr3:w3.heap[g]?=some (.cells (pcells p b s q f bd t (.slice bo s.out.length co)).toArray 59 (0,0)):=(hgr.block g H2.own.lt (fun e=>H2.own.lone.ne (i:=0) (j:=6) rfl (by decide) (by rw [e];rfl))).trans H2.row
  refine Tree.change (by rfl) (fun K hK=>?_);refine Each.oper_append _ _ _ rfl (by rfl) (by rfl) hrun ?_;refine hK _ _ trivial ?_;clear hK K hrun;simp only [Act.put,List.setIfInBounds_toArray,List.set_cons_zero,List.set_cons_succ];refine Tree.quiet (by rfl) (ptr g) (fun _ _=>by go_simp) ?_;simp only [Act.put,List.setIfInBounds_toArray,List.set_cons_zero,List.set_cons_succ];refine Tree.quiet (by rfl) (.pointer (some ⟨g,26,none⟩)) (fun _ _=>by go_simp) ?_;simp only [Act.put,List.setIfInBounds_toArray,List.set_cons_zero,List.set_cons_succ];have c26:=(Cs.of hr3).c26;have z26:=Ln.row_frozen hr3 26
  refine Tree.change (by rfl) (fun K hK=>?_);go_simp;refine hK _ _ trivial ?_;clear hK K;refine Tree.done ?_
  have hr4:=row_setL hr3 26 (.slice b9 (s.out.length+1) c9)
  have HP4:=HP.set 26 (.slice b9 (s.out.length+1) c9)
  have HS4:=((Step.of_below hb (L:=blks g q v f bd t (.slice bo s.out.length co))).trans (Step.push hgr hor)).trans (Step.set g 26 (.slice b9 (s.out.length+1) c9) (by simp))
  have HNX:=Lib.hid (next_any (s:={s with out:=s.out ++ [s.r]}) hr4 HP4);have HS5:=Lib.hid HS4;clear c26 z26 hr3 hr4 HP HP4 HS4 hgr ho hor hrow hfar hps H2 hBl;generalize w3.setCell ⟨g,26,none⟩ (.slice b9 (s.out.length+1) c9)=W4 at *
  go_wp2_with (go_at_call 36;with_reducible refine HNX.out.mono ?_;rintro r w5 ⟨rfl,q1,hp5,hs5⟩);go_end0;exact ⟨rfl,q1,(.slice b9 (s.out.length+1) c9),hp5,HS5.out.trans hs5⟩
 ·intro k0 hk0 g1 w2 hb hf;cases hk0;have z6:(g1 6=o):=hf.at 4;have z11:((fun v w=>∃g1,v=.slice (some ⟨g1,0,none⟩) 1 1∧Rec.Bk w g1 [.string s.r.m,.string s.r.x,.int .i64 s.r.k,f,.bool s.r.ch,bd,t]) (g1 11) w2):=hf.at 9;clear hf;obtain ⟨gl,el,hBl⟩:=z11;simp only [Each.putg,Act.put,List.setIfInBounds_toArray,List.set_cons_zero,List.set_cons_succ];rw [z6,el];simp only [Tree.grow,Tree.put1,List.getElem?_cons_zero,List.getElem?_cons_succ];refine Tree.quiet (by rfl) (ptr g) (fun _ _=>by go_simp) ?_;simp only [Act.put,List.setIfInBounds_toArray,List.set_cons_zero,List.set_cons_succ];have H2:=H.out.below hb;obtain ⟨ps,hps,hfar,hrow⟩:=H2.own.O;obtain ⟨bo,co,eo, -⟩:=Ln.own_slice hrow;subst eo
  obtain ⟨v',w3,hrun,ho,hgr,hor⟩:=App.run_append_list w2 51 51 B 57 iR (.agg #[.string ByteArray.empty,.string ByteArray.empty,.int .i64 0,.slice none 0 0,.bool false,.slice none 0 0,.slice none 0 0]) 7 120 Tryz.underlying51 I1.out I2.out I3.out I4.out rfl (by decide) (.slice bo s.out.length co) s.out.length (ps.flatMap (·.1.toList)) hrow (some ⟨gl,0,none⟩) 1 1 [.string s.r.m,.string s.r.x,.int .i64 s.r.k,f,.bool s.r.ch,bd,t] rfl (fun _=>⟨gl,0,rfl,fun j u hu=>by rw [Nat.zero_add];exact hBl.c j u hu⟩) (by intro u hu;simp only [List.mem_cons,List.not_mem_nil,or_false] at hu;rcases hu with rfl | rfl | rfl | rfl | rfl | rfl | rfl<;>first | rfl | exact one_own H2.own.F | exact one_own H2.own.D | exact one_own H2.own.T) (by have:=HN.out;unfold maxLen;omega) (by have:=HN.out;omega) (Nat.le_trans H2.own.ge (Nat.le_of_lt H2.own.lt));obtain ⟨b9,c9,e9, -⟩:=Ln.own_slice ho;subst e9;have HP:=H2.own.push hgr ps hps hfar ho hor;have hr3:w3.heap[g]?=some (.cells (pcells p b s q f bd t (.slice bo s.out.length co)).toArray 59 (0,0)):=(hgr.block g H2.own.lt (fun e=>H2.own.lone.ne (i:=0) (j:=6) rfl (by decide) (by rw [e];rfl))).trans H2.row
  refine Tree.change (by rfl) (fun K hK=>?_);refine Each.oper_append _ _ _ rfl (by rfl) (by rfl) hrun ?_;refine hK _ _ trivial ?_;clear hK K hrun;simp only [Act.put,List.setIfInBounds_toArray,List.set_cons_zero,List.set_cons_succ];refine Tree.quiet (by rfl) (ptr g) (fun _ _=>by go_simp) ?_;simp only [Act.put,List.setIfInBounds_toArray,List.set_cons_zero,List.set_cons_succ];refine Tree.quiet (by rfl) (.pointer (some ⟨g,26,none⟩)) (fun _ _=>by go_simp) ?_;simp only [Act.put,List.setIfInBounds_toArray,List.set_cons_zero,List.set_cons_succ];have c26:=(Cs.of hr3).c26;have z26:=Ln.row_frozen hr3 26
  refine Tree.change (by rfl) (fun K hK=>?_);go_simp;refine hK _ _ trivial ?_;clear hK K;refine Tree.done ?_
  have hr4:=row_setL hr3 26 (.slice b9 (s.out.length+1) c9)
  have HP4:=HP.set 26 (.slice b9 (s.out.length+1) c9)
  have HS4:=((Step.of_below hb (L:=blks g q v f bd t (.slice bo s.out.length co))).trans (Step.push hgr hor)).trans (Step.set g 26 (.slice b9 (s.out.length+1) c9) (by simp))
  have HNX:=Lib.hid (next_any (s:={s with out:=s.out ++ [s.r]}) hr4 HP4);have HS5:=Lib.hid HS4;clear c26 z26 hr3 hr4 HP HP4 HS4 hgr ho hor hrow hfar hps H2 hBl;generalize w3.setCell ⟨g,26,none⟩ (.slice b9 (s.out.length+1) c9)=W4 at *
  go_wp2_with (go_at_call 36;with_reducible refine HNX.out.mono ?_;rintro r w5 ⟨rfl,q1,hp5,hs5⟩);go_end0;exact ⟨rfl,q1,(.slice b9 (s.out.length+1) c9),hp5,HS5.out.trans hs5⟩
end code
end Go.Proofs.YtimoakmcelocfaaGreat.Par
namespace Go.Proofs.YtimoakmcelocfaaGreat.Fd
open Go.RowKit Base Txt Tgt
abbrev lineB (f:Fld):ByteArray:=((f.1 ++⟨#[58,32]⟩)++f.2) ++⟨#[13,10]⟩
section code
set_option maxHeartbeats 4000000
set_option maxRecDepth 100000
attribute [local go_sem] Base.some_undef
end code
end Go.Proofs.YtimoakmcelocfaaGreat.Fd
namespace Go.Proofs.YtimoakmcelocfaaGreat.Fd
open Go.RowKit Base Txt Tgt
theorem rjoined_eq (v s:ByteArray):(v ++⟨#[32]⟩)++trim s=ba (joined v.data.toList s.data.toList):=ba_ext (by simp only [joined,ByteArray.data_append,Array.toList_append,List.append_assoc];rfl)
section code
set_option maxHeartbeats 4000000
set_option maxRecDepth 100000
attribute [local go_sem] Base.some_undef
theorem rgoes_any (s:ByteArray) (p:Nat) (hp:p<4294967296) (w:World):Calls Tryz.prog 92 #[.string s,.int .u32 (p:Nat)] w fun e w'=>e=.returned (.bool (goes p s.data.toList))∧w'=w:=by
 have HH:=Lib.hid (fun w=>Qk.rhas_any p hp 13 w);unfold goes;generalize Qk.has p 13=b at *;rcases Nat.eq_zero_or_pos s.size with h0 | h0
 ·obtain rfl:s=E0:=ba_ext (List.length_eq_zero_iff.1 (by rw [len];exact h0));cases b;all_goals
   go_enter Tryz.func92,Tryz.ntmps92
   go_wp2_with (go_at_call 39;with_reducible refine (HH.out _).mono ?_;rintro e w1 ⟨rfl,hw⟩;rw [hw];clear hw);go_ret;exact ⟨by rfl,rfl⟩
 ·have t0:=first_no s h0
  have HB:=Lib.hid (fun w=>Oct.rblank_any (s[0].toNat:Int) w);rw [blank_is] at HB;have e1:(!s.data.toList.isEmpty&&Txt.blank (s.data.toList.headD 0))=Txt.blank s[0]:=by
   have hl:s.data.toList=s[0]::s.data.toList.drop 1:=by
    have hlen:0<s.data.toList.length:=by rw [len];exact h0
    rw [←List.drop_zero (l:=s.data.toList),List.drop_eq_getElem_cons hlen];rfl
   rw [hl];rfl
  rw [e1];clear e1;cases b;all_goals
   go_enter Tryz.func92,Tryz.ntmps92
   go_wp2_with (first
    |(go_at_call 39;with_reducible refine (HH.out _).mono ?_;rintro e w1 ⟨rfl,hw⟩;rw [hw];clear hw)
    |(go_at_call 100;with_reducible refine (HB.out _).mono ?_;rintro e w1 ⟨rfl,hw⟩;rw [hw];clear hw))
   go_ret;exact ⟨by rfl,rfl⟩
theorem rjoin_any (n v s:ByteArray) (w:World) (hs:s.size≤1000000000) (hv:v.size≤1000000000):Calls Tryz.prog 93 #[fv n v,.string s] w fun e w'=>e=.returned (fv n (ba (joined v.data.toList s.data.toList)))∧Below w.heap.size w w':=by
 have HT:=Lib.hid (fun w=>rtrim_any s w (by unfold maxLen;omega));have hT:(trim s).size≤s.size:=trim_size _ _;rw [←rjoined_eq];generalize trim s=T at *;have v1:¬9223372036854775807<v.size+1:=by omega
 have v2:¬9223372036854775807<v.size+1+T.size:=by omega
 go_enter Tryz.func93,Tryz.ntmps93;go_wp2_with fail
 go_region_with (go_at_call 111;with_reducible refine (HT.out _).mono ?_;rintro e w1 ⟨rfl,hw⟩;rw [hw];clear hw);all_goals
  go_wp2;exact bodyPost_ret (v:=fv n ((v ++⟨#[32]⟩)++T)) (by simp [results,Tryz.results93,go_sem]) rfl ⟨rfl,Base.below_drewN (((Below.refl _ _).alloc (Nat.le_refl _) _).alloc (by simp) _) 1⟩
end code
end Go.Proofs.YtimoakmcelocfaaGreat.Fd
namespace Go.Proofs.YtimoakmcelocfaaGreat.Fd
open Go.RowKit Base Txt Tgt
section code
set_option maxHeartbeats 4000000
set_option maxRecDepth 100000
attribute [local go_sem] Base.some_undef
end code
end Go.Proofs.YtimoakmcelocfaaGreat.Fd
namespace Go.Proofs.YtimoakmcelocfaaGreat.Fd
open Go.RowKit Base Txt Tgt
theorem colon_cases (l:List UInt8):((58:UInt8)∉l∧(cutAt 58 l).2.2=false)∨∃j,∃h:j<l.length,l[j]=58∧(58:UInt8)∉l.take j∧(cutAt 58 l).1=l.take j∧(cutAt 58 l).2.1=l.drop (j+1)∧(cutAt 58 l).2.2=true:=by
 rcases cut_cases 58 l with h | ⟨a,r,rfl,h⟩
 ·exact .inl ⟨h,by rw [cutAt_none 58 l h]⟩
 ·refine .inr ⟨a.length,by simp,by simp,by simpa using h,?_,?_,?_⟩
  ·rw [cutAt_app 58 a r h];simp
  ·rw [cutAt_app 58 a r h];simp
  ·rw [cutAt_app 58 a r h]
def nameAt (t:Nat) (w:World):Nat:=match w.cell? ⟨t,0,none⟩ with
 | some (.string b)=>b.size
 | _=>0
theorem nameAt_of {t:Nat} {w:World} {b:ByteArray} (h:w.cell? ⟨t,0,none⟩=some (.string b)):nameAt t w=b.size:=by unfold nameAt;rw [h]
theorem Two.set0 {w0 w:World} {n v N V:ByteArray} {t:Nat} (h:Two w0 n v t N V w) (N':ByteArray):Two w0 n v t N' V (w.setCell ⟨t,0,none⟩ (.string N')):=by
 have h1:=h.k.f.other t 0 (.string N') h.ne
 have hb:=h.k.b.setCell (p:=⟨t,0,none⟩) h.ge (.string N');obtain ⟨c0,c1,z0,z1⟩:=h.f;exact ⟨⟨h1,by simpa using h.k.g,hb⟩,⟨by go_simp,by go_simp,by go_simp,by go_simp⟩,h.ne,by simpa using h.lt,h.ge⟩
theorem not_colon (s:ByteArray) (k:Nat) (h:k<s.size) (j:Nat) (hj:k<j) (hn:(58:UInt8)∉s.data.toList.take j):((s[k].toNat:Int)==58)=false:=by
 refine beq_eq_false_iff_ne.2 fun e=>hn ?_;have hl:k<s.data.toList.length:=by rw [len];exact h
 have e1:s.data.toList[k]=58:=UInt8.toNat_inj.1 (by show s[k].toNat=58;omega);rw [←e1];rw [List.mem_take_iff_getElem];exact ⟨k,by omega,rfl⟩
theorem last_of (n0:List UInt8) (m:Nat) (h:m<n0.length):∃Nn:ByteArray,ba (n0.take (m+1))=Nn∧Nn.size=m+1∧(∃h2:m<Nn.size,Nn[m]=n0[m])∧Nn.extract 0 m=ba (n0.take m):=by
 have hl:(n0.take (m+1)).length=m+1:=by rw [List.length_take];omega
 refine ⟨_,rfl,by rw [Txt.ba_size];exact hl,⟨by rw [Txt.ba_size];omega,?_⟩,?_⟩
 ·show (n0.take (m+1))[m]'(by omega)=n0[m];rw [List.getElem_take]
 ·exact ba_ext (by
   rw [Lib.extract_data];show ((n0.take (m+1)).drop 0).take (m-0)=n0.take m;rw [List.drop_zero,List.take_take]
   congr 1;omega)
section code
set_option maxHeartbeats 4000000
set_option maxRecDepth 100000
attribute [local go_sem] Base.some_undef
theorem rparse_none (s:ByteArray) (p:Nat) (hp:p<4294967296) (w:World) (hs:s.size≤1000000000) (hno:(58:UInt8)∉s.data.toList) :
 Calls Tryz.prog 94 #[.string s,.int .u32 (p:Nat)] w fun e w'=>e=.returned (rv (out (Qk.has p 11)))∧Below w.heap.size w w':=by
 have HH:=Lib.hid (fun w=>Qk.rhas_any p hp 11 w);have HNO:=Lib.hid hno;clear hno;obtain ⟨b,hb⟩:∃b,Qk.has p 11=b:=⟨_,rfl⟩;rw [hb] at HH ⊢;clear hb
 have hW:=Lib.hid (show Below w.heap.size w (w.alloc (.cells #[.string E0,.string E0] 106)) from (Below.refl _ _).alloc (Nat.le_refl _) _);go_enter Tryz.func94,Tryz.ntmps94;go_wp2
 go_loop [7,8] (fun c i=>∃k:Nat,k≤s.size∧c=.int .i64 (-1)∧i=.int .i64 k) (fun _ i=>s.size-(intOf i).toNat)
 case atStart=>exact ⟨0,Nat.zero_le _,rfl,rfl⟩
 case round=>
  obtain ⟨k,hk,rfl,rfl⟩:=hrel;rcases Nat.lt_or_ge k s.size with hlt | hge
  ·have t1:=not_colon s k hlt (k+1) (by omega) (fun h=>HNO.out (List.mem_of_mem_take h));go_wp2;go_round
   case rel=>exact ⟨k+1,by omega,rfl,by go_num⟩
   case measure=>simp [intOf];omega
  ·cases b
   ·go_wp2_with (go_at_call 39;with_reducible refine (HH.out _).mono ?_;rintro e w1 ⟨rfl,hw⟩;rw [hw];clear hw);exact bodyPost_ret (v:=.tuple #[fv E0 E0,.bool false,.int .i64 400]) (by simp [results,Tryz.results94,go_sem]) rfl ⟨rfl,hW.out⟩
   ·go_wp2_with (go_at_call 39;with_reducible refine (HH.out _).mono ?_;rintro e w1 ⟨rfl,hw⟩;rw [hw];clear hw);exact bodyPost_ret (v:=.tuple #[fv E0 E0,.bool false,.int .i64 0]) (by simp [results,Tryz.results94,go_sem]) rfl ⟨rfl,hW.out⟩
theorem rparse_some (s:ByteArray) (p:Nat) (hp:p<4294967296) (w:World) (hs:s.size≤1000000000) (j:Nat) (hj:j<s.size) (hc:s[j]=58) (hno:(58:UInt8)∉s.data.toList.take j) :
 Calls Tryz.prog 94 #[.string s,.int .u32 (p:Nat)] w fun e w'=>e=.returned (rv (read (clOf p) (nameL (clOf p) (s.data.toList.take j)) (trimL Txt.blank (s.data.toList.drop (j+1)))))∧Below w.heap.size w w':=by
 have H9:=Lib.hid (fun w=>Qk.rhas_any p hp 9 w)
 have H10:=Lib.hid (fun w=>Qk.rhas_any p hp 10 w)
 have H12:=Lib.hid (fun w=>Qk.rhas_any p hp 12 w)
 have H14:=Lib.hid (fun w=>Qk.rhas_any p hp 14 w)
 have e1:s.extract 0 j=ba (s.data.toList.take j):=ba_ext (by rw [Lib.extract_data];simp [ba])
 have e2:s.extract (j+1) s.size=ba (s.data.toList.drop (j+1)):=ba_ext (by rw [Lib.extract_data,List.take_of_length_le (by rw [List.length_drop,len];omega)];rfl)
 have HT:=Lib.hid (fun w=>rtrim_any (s.extract (j+1) s.size) w (by unfold maxLen;rw [ByteArray.size_extract];omega));have hT:trim (s.extract (j+1) s.size)=ba (trimL Txt.blank (s.data.toList.drop (j+1))):=by rw [e2];rfl
 rw [hT] at HT
 have hvl:(trimL Txt.blank (s.data.toList.drop (j+1))).length≤s.size:=Nat.le_trans (trimL_length _ _) (by rw [List.length_drop,len];omega);have hnl:(s.data.toList.take j).length=j:=by rw [List.length_take,len];omega
 have E1:=Lib.hid e1;have t0:((s[j].toNat:Int)==58)=true:=by rw [hc];rfl
 have HNC:=Lib.hid (fun k (h:k<s.size) (hk:k<j)=>not_colon s k h j hk hno);clear e1 e2 hT hno hc;generalize s.data.toList.take j=n0 at *;generalize trimL Txt.blank (s.data.toList.drop (j+1))=v1 at *
 have hW:=Lib.hid (show Below w.heap.size w (w.alloc (.cells #[.string E0,.string E0] 106)) from (Below.refl _ _).alloc (Nat.le_refl _) _);obtain ⟨R,hR⟩:∃R,rv (read (clOf p) (nameL (clOf p) n0) v1)=R:=⟨_,rfl⟩;rw [hR];have HR0:=Lib.hid hR;clear hR;go_enter Tryz.func94,Tryz.ntmps94;go_upto_block 0 with fail
 go_cut [7,8] from 10 (fun c i wx=>c=.int .i64 (j:Nat)∧wx=w.alloc (.cells #[.string E0,.string E0] 106))
 case first=>
  go_wp2_with fail
  go_loop [7,8] (fun c i=>(∃k:Nat,k≤j∧c=.int .i64 (-1)∧i=.int .i64 k)∨(c=.int .i64 (j:Nat)∧i=.int .i64 ((j+1:Nat):Int))) (fun _ i=>s.size-(intOf i).toNat)
  case atStart=>exact .inl ⟨0,Nat.zero_le _,rfl,rfl⟩
  case round=>
   rcases hrel with ⟨k,hk,rfl,rfl⟩ | ⟨rfl,rfl⟩
   ·have hlt:k<s.size:=by omega
    rcases Nat.lt_or_ge k j with hkj | hkj
    ·have t1:=HNC.out k hlt hkj;clear t0;go_wp2;go_round
     case rel=>exact .inl ⟨k+1,by omega,rfl,by go_num⟩
     case measure=>simp [intOf];omega
    ·obtain rfl:k=j:=by omega
     go_wp2;go_round
     case rel=>exact .inr ⟨rfl,by go_num⟩
     case measure=>simp [intOf];omega
   ·have q0:¬(j:Int)<0:=by omega
    go_wp2;all_goals
     go_meet
     case rel=>exact ⟨rfl,rfl⟩
 case rest=>
  obtain ⟨rfl,hw0⟩:=hcut;rw [hw0];clear hw0;have q0:¬(j:Int)<0:=by omega
  have q1:(0:Int)≤(j:Int):=by omega
  have q2:(j:Int)≤(s.size:Int):=by omega
  have q3:IntKind.i64.wrap ((j:Int)+1)=((j+1:Nat):Int):=by rw [wrap_in _ (by omega) (by omega)];omega
  have q4:((j+1:Nat):Int)≤(s.size:Int):=by omega
  have q5:(0:Int)≤((j+1:Nat):Int):=by omega
  go_upto_region 11 with fail
  go_cut [9] from 31 (fun f wx=>f=.pointer (some ⟨w.heap.size+1,0,none⟩)∧wx=((w.alloc (.cells #[.string E0,.string E0] 106)).alloc (.cells #[.string (s.extract 0 j),.string (ba v1)] 106)).drew)
  case first=>
   go_region_with (go_at_call 111;with_reducible refine (HT.out _).mono ?_;rintro e w1 ⟨rfl,hw⟩;rw [hw];clear hw);all_goals
    go_wp2_with fail;go_meet
    case rel=>exact ⟨rfl,rfl⟩
  case rest=>
   obtain ⟨rfl,hw0⟩:=hcut;have hts:(w.alloc (.cells #[.string E0,.string E0] 106)).heap.size=w.heap.size+1:=by simp
   have HX:=(Two.new (Keep.new w 106 E0 E0) 106 (s.extract 0 j) (ba v1)).drew 1;rw [hts,E1.out] at HX;rw [E1.out] at hw0
   replace HX:=Lib.hid (show Two w E0 E0 (w.heap.size+1) (ba n0) (ba v1) wc by rw [hw0];exact HX)
   clear hw0 hts hW HT E1 HNC t0 q0 q1 q2 q3 q4 q5;have htz:w.heap.size+1=w.heap.size+1:=rfl;generalize w.heap.size+1=t at *;clear htz;have hnf:∀x,nameL (clOf p) x=if Qk.has p 9=true then trimEnd x else x:=fun _=>rfl
   obtain ⟨sp,hsp⟩:∃sp,Qk.has p 9=sp:=⟨_,rfl⟩;rw [hsp] at H9 hnf;clear hsp;have HNF:=Lib.hid hnf;clear hnf;have hn1l:=nameL_le (clOf p) n0;rw [hnl] at hn1l;go_upto_block 2 with fail
   go_cut [] from 40 (fun wx=>Hid (Two w E0 E0 t (ba (nameL (clOf p) n0)) (ba v1) wx))
   case first=>
    go_wp2_with fail
    go_loopw [] (fun wr=>∃m:Nat,m≤j∧Hid (Two w E0 E0 t (ba (n0.take m)) (ba v1) wr)∧Hid (nameL (clOf p) (n0.take m)=nameL (clOf p) n0)) (fun wr=>nameAt t wr)
    case atStart=>exact ⟨j,Nat.le_refl _,Lib.hid (by rw [List.take_of_length_le (by omega)];exact HX.out),Lib.hid (by rw [List.take_of_length_le (by omega)])⟩
    case round=>
     obtain ⟨m,hm,HY,HR⟩:=hrel;obtain ⟨⟨⟨c0,c1,z0,z1⟩,hg,hbk⟩,⟨d0,d1,y0,y1⟩,hne,hlt,hge⟩:=HY.out;have hna:=nameAt_of d0;clear c0 c1 z0 z1 hg hbk hlt hge;cases sp with
     | false=>
       have HZ:=Lib.hid (show Two w E0 E0 t (ba (nameL (clOf p) n0)) (ba v1) wr by rw [←HR.out,HNF.out,if_neg (by decide)];exact HY.out)
       go_wp2_with (go_at_call 39;with_reducible refine (H9.out _).mono ?_;rintro e w1 ⟨rfl,hw⟩;rw [hw];clear hw);go_meet
       case rel=>exact HZ
     | true=>
       rcases m with _ | m
       ·have HZ:=Lib.hid (show Two w E0 E0 t (ba (nameL (clOf p) n0)) (ba v1) wr by
         rw [←HR.out,HNF.out,if_pos rfl];exact HY.out)
        rw [show ba (n0.take 0)=E0 from rfl] at d0
        go_wp2_with (go_at_call 39;with_reducible refine (H9.out _).mono ?_;rintro e w1 ⟨rfl,hw⟩;rw [hw];clear hw);go_meet
        case rel=>exact HZ
       ·have hml:m<n0.length:=by omega
        have htk:=List.take_succ_eq_append_getElem hml;obtain ⟨Nn,hNn,hsz,⟨z2,hat⟩,hex⟩:=last_of n0 m hml;rw [hNn] at d0 hna
        have hno:=first_no Nn (by omega);have HB:Hid (∀w,Calls Tryz.prog 100 #[.int .u8 (Nn[m].toNat:Int)] w fun e w'=>e=.returned (.bool (Txt.blank n0[m]))∧w'=w):=Lib.hid fun w=>by
         have:=Oct.rblank_any (Nn[m].toNat:Int) w;rw [blank_is] at this
         rwa [show Txt.blank Nn[m]=Txt.blank n0[m] from congrArg _ hat] at this
        have z1:IntKind.i64.wrap ((Nn.size:Int)-1)=(m:Int):=by rw [wrap_in _ (by omega) (by omega)];omega
        have z3:(m:Int)<(Nn.size:Int):=by omega
        have z4:(m:Int)≤(Nn.size:Int):=by omega
        have z5:(0:Int)≤(m:Int):=by omega
        cases hb:Txt.blank n0[m] with
        | false=>
          rw [hb] at HB
          have HZ:=Lib.hid (show Two w E0 E0 t (ba (nameL (clOf p) n0)) (ba v1) wr by rw [←HR.out,HNF.out,if_pos rfl,htk,trimEnd_stop _ _ hb,←htk];exact HY.out)
          clear hb htk HY HR hex hat hNn
          go_wp2_with (first
           |(go_at_call 39;with_reducible refine (H9.out _).mono ?_;rintro e w1 ⟨rfl,hw⟩;rw [hw];clear hw)
           |(go_at_call 100;with_reducible refine (HB.out _).mono ?_;rintro e w1 ⟨rfl,hw⟩;rw [hw];clear hw))
          go_meet
          case rel=>exact HZ
        | true=>
          rw [hb] at HB
          have HY2:=Lib.hid (HY.out.set0 (Nn.extract 0 m))
          have HR2:=Lib.hid (show nameL (clOf p) (n0.take m)=nameL (clOf p) n0 by rw [←HR.out,HNF.out,HNF.out,if_pos rfl,if_pos rfl,htk,trimEnd_snoc _ _ hb])
          have HE:=Lib.hid hex;clear hb htk HY HR hex hat hNn
          go_wp2_with (first
           |(go_at_call 39;with_reducible refine (H9.out _).mono ?_;rintro e w1 ⟨rfl,hw⟩;rw [hw];clear hw)
           |(go_at_call 100;with_reducible refine (HB.out _).mono ?_;rintro e w1 ⟨rfl,hw⟩;rw [hw];clear hw))
          have hd:=HY2.out.f.c0;have hs2:(Nn.extract 0 m).size=m:=by rw [ByteArray.size_extract];omega
          rw [HE.out] at HY2;go_roundw
          case rel=>exact ⟨m,by omega,by first | exact HY2 |(rw [HE.out];exact HY2),HR2⟩
          case measure=>rw [nameAt_of hd,hna];omega
   case rest=>
    clear HX;have HX:=hcut;clear hcut H9 HNF;generalize nameL (clOf p) n0=n1 at *;by_cases hn:n1= []
    ·subst hn;have hRv:R=rv (out (Qk.has p 12)):=by rw [←HR0.out];rfl
     clear HR0;generalize Qk.has p 12=nn at *;obtain ⟨⟨⟨c0,c1,z0,z1⟩,hg,hbk⟩,⟨d0,d1,y0,y1⟩,hne,hlt,hge⟩:=HX.out;obtain ⟨W9,hW9,⟨r0,r1,_,_⟩,hbW⟩:=Fb.put HX.out.k.f HX.out.k.b (Nat.le_refl _) E0 E0;rw [show ba []=E0 from rfl] at d0;clear hg hbk hlt hge;cases nn
     ·go_wp2_with (go_at_call 39;with_reducible refine (H12.out _).mono ?_;rintro e w1 ⟨rfl,hw⟩;rw [hw];clear hw);try rw [hW9]
      exact bodyPost_ret (v:=.tuple #[fv E0 E0,.bool false,.int .i64 400]) (by simp [results,Tryz.results94,go_sem,r0,r1]) rfl ⟨by first | rfl |(rw [hRv];rfl),hbW⟩
     ·go_wp2_with (go_at_call 39;with_reducible refine (H12.out _).mono ?_;rintro e w1 ⟨rfl,hw⟩;rw [hw];clear hw);try rw [hW9]
      exact bodyPost_ret (v:=.tuple #[fv E0 E0,.bool false,.int .i64 0]) (by simp [results,Tryz.results94,go_sem,r0,r1]) rfl ⟨by first | rfl |(rw [hRv];rfl),hbW⟩
    ·have t0:=first_no (ba n1) (ba_pos hn)
     have HN:=Lib.hid (fun w a (hk:Ints w a 1 [1])=>Oct.rall_any (ba n1) a 1 1 [1] w (by rw [Txt.ba_size];unfold maxLen;omega) hk (by decide))
     have HV:=Lib.hid (fun w a (hk:Ints w a 1 [6])=>Oct.rall_any (ba v1) a 1 1 [6] w (by rw [Txt.ba_size];unfold maxLen;omega) hk (by decide));rw [show (ba n1).data.toList=n1 from rfl] at HN;rw [show (ba v1).data.toList=v1 from rfl] at HV;obtain ⟨G,hG⟩:∃G,(!(goodN (clOf p) n1&&goodV (clOf p) v1))=G:=⟨_,rfl⟩
     have HG:=Lib.hid (show G= !((Qk.has p 10||Oct.allOf [1] n1)&&(Qk.has p 14||Oct.allOf [6] v1)) from hG.symm)
     have HRv:=Lib.hid (show R=if G=true then rv none else rv (some (some (n1,v1))) by rw [←HR0.out,←hG];unfold read;rw [if_neg hn];cases (goodN (clOf p) n1&&goodV (clOf p) v1)<;>rfl)
     have HF:Hid (rv (some (some (n1,v1)))=.tuple #[fv (ba n1) (ba v1),.bool true,.int .i64 0]):=Lib.hid rfl;clear hG HR0 hn hnl hvl hn1l H12;generalize ba n1=N1 at *;generalize ba v1=V1 at *;obtain ⟨⟨⟨c0,c1,z0,z1⟩,hg,hbk⟩,⟨d0,d1,y0,y1⟩,hne,hlt,hge⟩:=HX.out;clear hg hbk hlt hge c0 c1 z0 z1;go_upto_region 18 with fail
     go_cut [93] from 72 (fun v wx=>v=.bool G∧Hid (Two w E0 E0 t N1 V1 wx))
     case first=>
      clear HRv HF t0;generalize Qk.has p 10=nb at *;generalize Qk.has p 14=vb at *;generalize Oct.allOf [1] n1=tn at *;generalize Oct.allOf [6] v1=tv at *;have hGG:=HG.out;clear HG;cases nb<;>cases tn<;>cases vb<;>cases tv;all_goals
       obtain rfl:=hGG
       go_wp2_with (first
        |(go_at_call 39;with_reducible refine (H10.out _).mono ?_;rintro e w1 ⟨rfl,hw⟩;rw [hw];clear hw)
        |(go_at_call 39;with_reducible refine (H14.out _).mono ?_;rintro e w1 ⟨rfl,hw⟩;rw [hw];clear hw)
        |(go_at_call 87;(with_reducible refine (HV.out _ _ (Ints.one _ _ rfl _ _)).mono ?_);rintro e w1 ⟨rfl,m,hw⟩
          replace HX:=Lib.hid ((HX.out.step ((Below.refl _ _).alloc (Nat.le_refl _) (.cells #[.int .i64 6] 3))).drew m)
          rw [←hw] at HX;clear hw)
        |(go_at_call 87;(with_reducible refine (HN.out _ _ (Ints.one _ _ rfl _ _)).mono ?_);rintro e w1 ⟨rfl,m,hw⟩
          replace HX:=Lib.hid ((HX.out.step ((Below.refl _ _).alloc (Nat.le_refl _) (.cells #[.int .i64 1] 3))).drew m)
          rw [←hw] at HX;clear hw d0 d1 y0 y1;obtain ⟨d0,d1,y0,y1⟩:=HX.out.f))
       go_meet
       case rel=>exact ⟨by rfl,HX⟩
     case rest=>
      obtain ⟨rfl,HY⟩:=hcut;clear HX HG d0 d1 y0 y1 t0 HN HV H10 H14;obtain ⟨⟨⟨c0,c1,z0,z1⟩,hg,hbk⟩,⟨d0,d1,y0,y1⟩,hne,hlt,hge⟩:=HY.out;clear hg hbk hlt hge;cases G with
      | true=>
        have hRv:=HRv.out;rw [if_pos rfl] at hRv;obtain ⟨W9,hW9,⟨r0,r1,_,_⟩,hbW⟩:=Fb.put HY.out.k.f HY.out.k.b (Nat.le_refl _) E0 E0;go_wp2_with fail;try rw [hW9]
        exact bodyPost_ret (v:=.tuple #[fv E0 E0,.bool false,.int .i64 400]) (by simp [results,Tryz.results94,go_sem,r0,r1]) rfl ⟨by first | rfl |(rw [hRv];rfl),hbW⟩
      | false=>
        have hRv:=HRv.out;rw [if_neg (by decide),HF.out] at hRv;obtain ⟨W9,hW9,⟨r0,r1,_,_⟩,hbW⟩:=Fb.put HY.out.k.f HY.out.k.b (Nat.le_refl _) N1 V1;go_wp2_with fail;try rw [hW9]
        exact bodyPost_ret (v:=.tuple #[fv N1 V1,.bool true,.int .i64 0]) (by simp [results,Tryz.results94,go_sem,r0,r1]) rfl ⟨by first | rfl | rw [hRv],hbW⟩
theorem rparse_any (s:ByteArray) (p:Nat) (hp:p<4294967296) (w:World) (hs:s.size≤1000000000):Calls Tryz.prog 94 #[.string s,.int .u32 (p:Nat)] w fun e w'=>e=.returned (rv (parse (clOf p) s.data.toList))∧Below w.heap.size w w':=by
 rcases colon_cases s.data.toList with ⟨h1,h2⟩ | ⟨j,hj,h1,h2,h3,h4,h5⟩
 ·have:=rparse_none s p hp w hs h1;unfold parse;rw [if_neg (by rw [h2];decide)];exact this
 ·have:=rparse_some s p hp w hs j (by rw [←len];exact hj) h1 h2;unfold parse;rw [if_pos h5,h3,h4];exact this
end code
end Go.Proofs.YtimoakmcelocfaaGreat.Fd
namespace Go.Proofs.YtimoakmcelocfaaGreat.Par
open Go.RowKit Base Txt Mem
section code
set_option maxHeartbeats 4000000
set_option maxRecDepth 20000
attribute [local go_sem] Base.some_undef
variable {w:World} {B:Zone} {g q:Nat} {v f bd t o:Value} {p:Nat} {b:Bd} {s:S}
theorem fail_at (h:PR w B g q v f bd t o p b s) (e:Nat) (x:Int) (hx:x=(e:Int)):Calls Tryz.prog 56 #[ptr g,.int .i64 x] w fun r w'=>
 r=.returned (.tuple #[])∧PR w' B g q v nil nil nil o p b (s.fail e)∧Step (blks g q v f bd t o) (blks g q v nil nil nil o) w w':=by
 subst hx;exact fail_any h e
theorem cells_last (ini:List Fld) (a:Fld):(cells (ini ++ [a]))[ini.length*2]?=some (.string a.1)∧(cells (ini ++ [a]))[ini.length*2+1]?=some (.string a.2):=by
 have e:(cells ini).length=ini.length*2:=cells_length ini;have e2:cells [a]= [.string a.1,.string a.2]:=by simp [cells]
 rw [cells_append,e2];refine ⟨?_,?_⟩
 ·rw [List.getElem?_append_right (by omega),e,Nat.sub_self];rfl
 ·rw [List.getElem?_append_right (by omega),e,show ini.length*2+1-ini.length*2=1 by omega];rfl
theorem cells_put (ini:List Fld) (a c:Fld):((cells (ini ++ [a])).set (ini.length*2) (.string c.1)).set (ini.length*2+1) (.string c.2)=cells (ini ++ [c]):=by
 have e:(cells ini).length=ini.length*2:=cells_length ini;have e2:∀d:Fld,cells [d]= [.string d.1,.string d.2]:=fun d=>by simp [cells]
 rw [cells_append,cells_append,e2,e2,List.set_append_right _ _ (by omega),e,Nat.sub_self,List.set_append_right _ _ (by omega),e,show ini.length*2+1-ini.length*2=1 by omega];rfl
theorem fieldF_any (hp:p<4294967296) (x:ByteArray) (hx:x.size≤5000) (most:Int) (h:PR w B g q v f bd t o p b s) (hl:s.lines≤1000) (hsz:∀y∈s.r.fs,y.1.size≤1000000∧y.2.size≤1000000) (hlen:s.r.fs.length≤500) :
 Calls Tryz.prog 82 #[ptr g,f,.string x,.int .i64 most] w fun r w'=>
  match fieldV p s.lines s.r.fs x.data.toList most with
  | .inl e=>r=.returned nil∧PR w' B g q v nil nil nil o p b (S.fail {s with lines:=s.lines+1} e)∧Step (blks g q v f bd t o) (blks g q v nil nil nil o) w w'
  | .inr l=>∃f',r=.returned f'∧w'.heap[g]?=some (.cells (pcells p b {s with lines:=s.lines+1} q f bd t o).toArray 59 (0,0))∧Own w' B g q v f' bd t o p s.rd l s.r.body s.r.ts s.out∧Step (blks g q v f bd t o) (blks g q v f' bd t o) w w':=by
 obtain ⟨a1,a2⟩:=Rec.wraps ((s.lines:Int)+1) ⟨by omega,by omega⟩
 have H1:=Lib.hid (h.put 20 (.int .i64 ((s.lines:Int)+1)) {s with lines:=s.lines+1} rfl rfl rfl rfl rfl rfl)
 have HS1:=Lib.hid (Step.set (w:=w) (L:=blks g q v f bd t o) g 20 (.int .i64 ((s.lines:Int)+1)) (by simp));have c20:=h.cs.c20;have z20:=h.marks 20;have HSZ:=Lib.hid hsz;have HLEN:=Lib.hid hlen;clear hsz hlen
 by_cases hm:most<((s.lines+1:Nat):Int)
 ·have e:fieldV p s.lines s.r.fs x.data.toList most=.inl 431:=by unfold fieldV;rw [if_pos hm]
  rw [e];have t0:most<(s.lines:Int)+1:=by omega
  have HFA:=Lib.hid (fail_at H1.out 431 431 rfl);clear e hm;go_enter Tryz.func82,Tryz.ntmps82
  go_wp2_with (go_at_call 56;with_reducible refine HFA.out.mono ?_;rintro r w2 ⟨rfl,hP,hS⟩);go_ret;exact ⟨rfl,hP,HS1.out.trans hS⟩
 ·have t0:¬most<(s.lines:Int)+1:=by omega
  obtain ⟨bo,co,eo, -⟩:=Ln.own_slice h.own.F;have hgo:=fun w=>Fd.rgoes_any x p hp w
  have HP:=Lib.hid (fun w=>Fd.rparse_any x p hp w (by omega));have HSZx:=Lib.hid hx;have hnn:(s.r.fs.length:Int)≤500:=by have:=HLEN.out;omega
  subst eo;clear h hl hx;by_cases hj:(Fd.goes p x.data.toList && !s.r.fs.isEmpty)=true
  ·simp only [Bool.and_eq_true,Bool.not_eq_true',List.isEmpty_eq_false_iff] at hj;obtain ⟨hg,hne⟩:=hj;rw [hg] at hgo;have HGo:=Lib.hid hgo;obtain ⟨ini,last,el⟩:∃ini last,s.r.fs=ini ++ [last]:=⟨_,_,(List.dropLast_concat_getLast hne).symm⟩;have hn1:s.r.fs.length=ini.length+1:=by rw [el];simp
   have e:fieldV p s.lines s.r.fs x.data.toList most=.inr (ini ++ [joinF last x.data.toList]):=by
    unfold fieldV;have e1:(Fd.goes p x.data.toList && !s.r.fs.isEmpty)=true:=by rw [hg,el];simp
    rw [if_neg hm,if_pos e1,el];simp
   rw [e]
   obtain ⟨gf,cf,hform,hgl,hgf⟩:=H1.out.own.F.form (by show 0<s.r.fs.length;omega);simp only [Value.slice.injEq,true_and] at hform;obtain ⟨rfl,rfl⟩:=hform
   have hq0:=(H1.out.own.F.cellAt (ini.length*2) (by show ini.length*2<s.r.fs.length*2;omega)).trans (show (cells s.r.fs)[ini.length*2]?=some (.string last.1) by rw [el];exact (cells_last ini last).1)
   have hq1:=(H1.out.own.F.cellAt (ini.length*2+1) (by show ini.length*2+1<s.r.fs.length*2;omega)).trans (show (cells s.r.fs)[ini.length*2+1]?=some (.string last.2) by rw [el];exact (cells_last ini last).2)
   have hz0:=H1.out.own.F.frozenAt (ini.length*2);have hz1:=H1.out.own.F.frozenAt (ini.length*2+1)
   have HJ:=Lib.hid (show∀w,Calls Tryz.prog 93 #[.agg #[.string last.1,.string last.2],.string x] w fun e w'=>e=.returned (.agg #[.string last.1,.string (ba (Fd.joined last.2.data.toList x.data.toList))])∧Below w.heap.size w w' from
    fun w=>Fd.rjoin_any last.1 last.2 x w (by have:=HSZx.out;omega) (by have:=(HSZ.out last (by rw [el];simp)).2;omega))
   obtain ⟨k,hk⟩:∃k,ini.length=k:=⟨_,rfl⟩;have HK:=Lib.hid hk;rw [hk] at hn1 hq0 hq1 hz0 hz1;have t1:(0:Int)<(s.r.fs.length:Int):=by omega
   have i1:(k:Int)<(s.r.fs.length:Int):=by omega
   obtain ⟨b1,b2⟩:=Rec.wraps ((s.r.fs.length:Int)-1) ⟨by omega,by omega⟩;have b3:(s.r.fs.length:Int)-1=(k:Int):=by omega
   rw [b3] at b1 b2;have HEL:=Lib.hid el;have HN1:=Lib.hid hn1;have HGL:=Lib.hid hgl;have HQ0:=Lib.hid hq0;have HQ1:=Lib.hid hq1;have HGF:=Lib.hid hgf;have HZ0:=Lib.hid hz0;have HZ1:=Lib.hid hz1;clear hne e hk hnn el hn1 hg hgo hm hgl;go_enter Tryz.func82,Tryz.ntmps82;go_upto_region 5 with fail
   generalize w.setCell ⟨g,20,none⟩ (.int .i64 ((s.lines:Int)+1))=W1 at *;clear c20 z20 a1 a2 t0;have c0:=H1.out.cs.c0
   go_wp2_with (first
    |(go_at_call 93;with_reducible refine (HJ.out _).mono ?_;rintro r w3 ⟨rfl,hb3⟩
      have HB3:=Lib.hid hb3;have y0:=(hb3.cell (p:=⟨gf,k*2,none⟩) HGF.out).trans HQ0.out;have y1:=(hb3.cell (p:=⟨gf,k*2+1,none⟩) HGF.out).trans HQ1.out;have x0:=(hb3.frozen (p:=⟨gf,k*2,none⟩) HGF.out).trans HZ0.out;have x1:=(hb3.frozen (p:=⟨gf,k*2+1,none⟩) HGF.out).trans HZ1.out;clear hb3)
    |(go_at_call 92;with_reducible refine (HGo.out _).mono ?_;rintro r w2 ⟨rfl,hw⟩;rw [hw];clear hw))
   go_ret;have h3:=H1.out.below HB3.out;have ho:(Value.slice (some ⟨gf,0,none⟩) s.r.fs.length co).ownBlock=some gf:=by simp [Value.ownBlock]
   have hk3:Keeps [(Value.slice (some ⟨gf,0,none⟩) s.r.fs.length co).ownBlock] w3 ((w3.setCell ⟨gf,k*2,none⟩ (.string last.1)).setCell ⟨gf,k*2+1,none⟩ (.string (ba (Fd.joined last.2.data.toList x.data.toList)))):=
    (Keeps.set gf (k*2) _ (by rw [ho];simp)).trans (Keeps.set gf (k*2+1) _ (by rw [ho];simp)) Of.refl
   have hl3:(ini ++ [joinF last x.data.toList]).length=s.r.fs.length:=by rw [HEL.out];simp
   have hr3:=((h3.own.F.stored (k*2) (.string last.1)).1.stored (k*2+1) (.string (ba (Fd.joined last.2.data.toList x.data.toList)))).1
   obtain ⟨ho3,hs3⟩:=h3.own.setF (f':=.slice (some ⟨gf,0,none⟩) s.r.fs.length co) (fs':=ini ++ [joinF last x.data.toList]) hk3 (by
    rw [hl3,←cells_put ini last (joinF last x.data.toList),HK.out];have e:cells (ini ++ [last])=cells s.r.fs:=by rw [HEL.out]
    rw [e];exact hr3) (.inl rfl)
   have hrow:((w3.setCell ⟨gf,k*2,none⟩ (.string last.1)).setCell ⟨gf,k*2+1,none⟩ (.string (ba (Fd.joined last.2.data.toList x.data.toList)))).heap[g]?= _:=hk3.row h3.row (fun hm=>by
    have e:some g=some gf:=by rw [←ho];simpa using hm
    exact h3.own.lone.ne (i:=0) (j:=3) rfl (by decide) (by rw [e,←ho];rfl))
   exact ⟨_,rfl,hrow,ho3,HS1.out.trans ((Step.of_below HB3.out).trans hs3)⟩
  ·have hgt:Fd.goes p x.data.toList=false∨Fd.goes p x.data.toList=true∧¬(0:Int)<(s.r.fs.length:Int):=by
    cases hg:Fd.goes p x.data.toList with
    | false=>exact .inl rfl
    | true=>
      refine .inr ⟨rfl,?_⟩;rw [hg] at hj;have:s.r.fs= []:=by simpa using hj
      rw [this];simp
   have hp:=fun w=>Fd.rparse_any x p hp w (by have:=HSZx.out;omega)
   have HFA:=Lib.hid (fun w2 (hb:Below (w.setCell ⟨g,20,none⟩ (.int .i64 ((s.lines:Int)+1))).heap.size (w.setCell ⟨g,20,none⟩ (.int .i64 ((s.lines:Int)+1))) w2)=>fail_at (H1.out.below hb) 400 400 rfl);obtain ⟨iF,hi,hz0,hz1,hz2⟩:=info_parts field_info;have I1:=Lib.hid hi;have I2:=Lib.hid hz0;have I3:=Lib.hid hz1;have I4:=Lib.hid hz2;clear hi hz0 hz1 hz2 HP;rcases hpar:Fd.parse (Fd.clOf p) x.data.toList with _ | _ | ⟨n,vv⟩
   ·have e:fieldV p s.lines s.r.fs x.data.toList most=.inl 400:=by unfold fieldV;rw [if_neg hm,if_neg hj,hpar]
    rw [e];rw [hpar] at hp;simp only [Fd.rv,Fd.fv] at hp;have HP:=Lib.hid hp;clear e hpar hp hm hj hnn;rcases hgt with hg | ⟨hg,t1⟩
    ·rw [hg] at hgo;have HGo:=Lib.hid hgo;clear hgo hg;go_enter Tryz.func82,Tryz.ntmps82;go_upto_region 5 with fail
     generalize w.setCell ⟨g,20,none⟩ (.int .i64 ((s.lines:Int)+1))=W1 at *;clear c20 z20 a1 a2 t0;have c0:=H1.out.cs.c0
     go_wp2_with (first
      |(go_at_call 56;with_reducible refine (HFA.out _ (HB3.out.alloc HB3.out.size (.cells #[.string ⟨#[]⟩,.string ⟨#[]⟩] 106))).mono ?_;rintro r w4 ⟨rfl,hP,hS⟩)
      |(go_at_call 94;with_reducible refine (HP.out _).mono ?_;rintro r w3 ⟨rfl,hb3⟩
        have HB3:=Lib.hid hb3;clear hb3)
      |(go_at_call 92;with_reducible refine (HGo.out _).mono ?_;rintro r w2 ⟨rfl,hw⟩;rw [hw];clear hw))
     go_ret;exact ⟨rfl,hP,HS1.out.trans ((Step.of_below (HB3.out.alloc HB3.out.size (.cells #[.string ⟨#[]⟩,.string ⟨#[]⟩] 106))).trans hS)⟩
    ·rw [hg] at hgo;have HGo:=Lib.hid hgo;clear hgo hg;go_enter Tryz.func82,Tryz.ntmps82;go_upto_region 5 with fail
     generalize w.setCell ⟨g,20,none⟩ (.int .i64 ((s.lines:Int)+1))=W1 at *;clear c20 z20 a1 a2 t0;have c0:=H1.out.cs.c0
     go_wp2_with (first
      |(go_at_call 56;with_reducible refine (HFA.out _ (HB3.out.alloc HB3.out.size (.cells #[.string ⟨#[]⟩,.string ⟨#[]⟩] 106))).mono ?_;rintro r w4 ⟨rfl,hP,hS⟩)
      |(go_at_call 94;with_reducible refine (HP.out _).mono ?_;rintro r w3 ⟨rfl,hb3⟩
        have HB3:=Lib.hid hb3;clear hb3)
      |(go_at_call 92;with_reducible refine (HGo.out _).mono ?_;rintro r w2 ⟨rfl,hw⟩;rw [hw];clear hw))
     go_ret;exact ⟨rfl,hP,HS1.out.trans ((Step.of_below (HB3.out.alloc HB3.out.size (.cells #[.string ⟨#[]⟩,.string ⟨#[]⟩] 106))).trans hS)⟩
   ·have e:fieldV p s.lines s.r.fs x.data.toList most=.inr s.r.fs:=by unfold fieldV;rw [if_neg hm,if_neg hj,hpar]
    rw [e];rw [hpar] at hp;simp only [Fd.rv,Fd.fv] at hp;have HP:=Lib.hid hp;clear e hpar hp hm hj hnn;rcases hgt with hg | ⟨hg,t1⟩
    ·rw [hg] at hgo;have HGo:=Lib.hid hgo;clear hgo hg;go_enter Tryz.func82,Tryz.ntmps82;go_upto_region 5 with fail
     generalize w.setCell ⟨g,20,none⟩ (.int .i64 ((s.lines:Int)+1))=W1 at *;clear c20 z20 a1 a2 t0;have c0:=H1.out.cs.c0
     go_wp2_with (first
      |(go_at_call 94;with_reducible refine (HP.out _).mono ?_;rintro r w3 ⟨rfl,hb3⟩
        have HB3:=Lib.hid hb3;clear hb3)
      |(go_at_call 92;with_reducible refine (HGo.out _).mono ?_;rintro r w2 ⟨rfl,hw⟩;rw [hw];clear hw))
     go_ret
     have h4:=H1.out.below (HB3.out.alloc HB3.out.size (.cells #[.string ⟨#[]⟩,.string ⟨#[]⟩] 106));exact ⟨_,rfl,h4.row,h4.own,HS1.out.trans (Step.of_below (HB3.out.alloc HB3.out.size (.cells #[.string ⟨#[]⟩,.string ⟨#[]⟩] 106)))⟩
    ·rw [hg] at hgo;have HGo:=Lib.hid hgo;clear hgo hg;go_enter Tryz.func82,Tryz.ntmps82;go_upto_region 5 with fail
     generalize w.setCell ⟨g,20,none⟩ (.int .i64 ((s.lines:Int)+1))=W1 at *;clear c20 z20 a1 a2 t0;have c0:=H1.out.cs.c0
     go_wp2_with (first
      |(go_at_call 94;with_reducible refine (HP.out _).mono ?_;rintro r w3 ⟨rfl,hb3⟩
        have HB3:=Lib.hid hb3;clear hb3)
      |(go_at_call 92;with_reducible refine (HGo.out _).mono ?_;rintro r w2 ⟨rfl,hw⟩;rw [hw];clear hw))
     go_ret
     have h4:=H1.out.below (HB3.out.alloc HB3.out.size (.cells #[.string ⟨#[]⟩,.string ⟨#[]⟩] 106));exact ⟨_,rfl,h4.row,h4.own,HS1.out.trans (Step.of_below (HB3.out.alloc HB3.out.size (.cells #[.string ⟨#[]⟩,.string ⟨#[]⟩] 106)))⟩
   ·have e:fieldV p s.lines s.r.fs x.data.toList most=.inr (s.r.fs ++ [(ba n,ba vv)]):=by unfold fieldV;rw [if_neg hm,if_neg hj,hpar]
    rw [e];rw [hpar] at hp;simp only [Fd.rv,Fd.fv] at hp;have HP:=Lib.hid hp;clear e hpar hp hm hj hnn;rcases hgt with hg | ⟨hg,t1⟩
    ·rw [hg] at hgo;have HGo:=Lib.hid hgo;clear hgo hg;go_enter Tryz.func82,Tryz.ntmps82;go_upto_region 5 with fail
     generalize w.setCell ⟨g,20,none⟩ (.int .i64 ((s.lines:Int)+1))=W1 at *;clear c20 z20 a1 a2 t0;have c0:=H1.out.cs.c0
     go_wp2_with (first
      |(at_builtin;refine App.wpList_append_list _ rfl _ _ 55 rfl B 106 iF (.agg #[.string ByteArray.empty,.string ByteArray.empty]) 2 32 Tryz.underlying55 I1.out I2.out I3.out I4.out rfl (by decide) (.slice bo s.r.fs.length co) s.r.fs.length (cells s.r.fs) rfl ((H1.out.below (HB3.out.alloc HB3.out.size (.cells #[.string (ba n),.string (ba vv)] 106))).own.F.alloc (.cells #[.string (ba n),.string (ba vv)] 106)) (some ⟨w3.heap.size+1,0,none⟩) 1 1 [.string (ba n),.string (ba vv)] rfl rfl (fun _=>⟨w3.heap.size+1,0,rfl,fun j u hu=>by rw [Nat.zero_add];exact (Rec.Bk.new (w3.alloc (.cells #[.string (ba n),.string (ba vv)] 106)) (w3.heap.size+1) (by simp) 106 [.string (ba n),.string (ba vv)]).c j u hu⟩) (by intro u hu;rcases (by simpa using hu:u=.string (ba n)∨u=.string (ba vv)) with rfl | rfl<;>rfl) (by have:=HLEN.out;unfold maxLen;omega) (by have:=HLEN.out;omega) (by have:=(H1.out.below (HB3.out.alloc HB3.out.size (.cells #[.string (ba n),.string (ba vv)] 106))).own.lt;have:=H1.out.own.ge;simp at *;omega) ?_;intro v2 w5 hO5 hgr5 _ hor5;have HO5:=Lib.hid hO5;have HG5:=Lib.hid hgr5;have HR5:=Lib.hid hor5;clear hO5 hgr5 hor5)
      |(go_at_call 94;with_reducible refine (HP.out _).mono ?_;rintro r w3 ⟨rfl,hb3⟩
        have HB3:=Lib.hid hb3;clear hb3)
      |(go_at_call 92;with_reducible refine (HGo.out _).mono ?_;rintro r w2 ⟨rfl,hw⟩;rw [hw];clear hw))
     go_ret
     have hb4:=(HB3.out.alloc HB3.out.size (.cells #[.string (ba n),.string (ba vv)] 106))
     have hb5:=hb4.alloc hb4.size (.cells #[.string (ba n),.string (ba vv)] 106);have h4:=H1.out.below hb5;have hl:(s.r.fs ++ [(ba n,ba vv)]).length=s.r.fs.length+1:=by simp
     have hk5:Keeps [(Value.slice bo s.r.fs.length co).ownBlock] ((w3.alloc (.cells #[.string (ba n),.string (ba vv)] 106)).alloc (.cells #[.string (ba n),.string (ba vv)] 106)) w5:=Keeps.grown HG5.out fun k e=>by rw [e];exact List.mem_singleton.2 rfl
     obtain ⟨ho5,hs5⟩:=h4.own.setF (f':=v2) (fs':=s.r.fs ++ [(ba n,ba vv)]) hk5 (by rw [hl,cells_append];exact HO5.out) (by
      rcases HR5.out with e | e
      ·exact .inl e
      ·exact .inr ⟨_,e,Nat.le_refl _⟩)
     have hrow:w5.heap[g]?= _:=hk5.row h4.row (fun hm=>by
      have e:some g=(Value.slice bo s.r.fs.length co).ownBlock:=by simpa using hm
      exact h4.own.lone.ne (i:=0) (j:=3) rfl (by decide) (by rw [e];rfl))
     exact ⟨_,rfl,hrow,ho5,HS1.out.trans ((Step.of_below hb5).trans hs5)⟩
    ·rw [hg] at hgo;have HGo:=Lib.hid hgo;clear hgo hg;go_enter Tryz.func82,Tryz.ntmps82;go_upto_region 5 with fail
     generalize w.setCell ⟨g,20,none⟩ (.int .i64 ((s.lines:Int)+1))=W1 at *;clear c20 z20 a1 a2 t0;have c0:=H1.out.cs.c0
     go_wp2_with (first
      |(at_builtin;refine App.wpList_append_list _ rfl _ _ 55 rfl B 106 iF (.agg #[.string ByteArray.empty,.string ByteArray.empty]) 2 32 Tryz.underlying55 I1.out I2.out I3.out I4.out rfl (by decide) (.slice bo s.r.fs.length co) s.r.fs.length (cells s.r.fs) rfl ((H1.out.below (HB3.out.alloc HB3.out.size (.cells #[.string (ba n),.string (ba vv)] 106))).own.F.alloc (.cells #[.string (ba n),.string (ba vv)] 106)) (some ⟨w3.heap.size+1,0,none⟩) 1 1 [.string (ba n),.string (ba vv)] rfl rfl (fun _=>⟨w3.heap.size+1,0,rfl,fun j u hu=>by rw [Nat.zero_add];exact (Rec.Bk.new (w3.alloc (.cells #[.string (ba n),.string (ba vv)] 106)) (w3.heap.size+1) (by simp) 106 [.string (ba n),.string (ba vv)]).c j u hu⟩) (by intro u hu;rcases (by simpa using hu:u=.string (ba n)∨u=.string (ba vv)) with rfl | rfl<;>rfl) (by have:=HLEN.out;unfold maxLen;omega) (by have:=HLEN.out;omega) (by have:=(H1.out.below (HB3.out.alloc HB3.out.size (.cells #[.string (ba n),.string (ba vv)] 106))).own.lt;have:=H1.out.own.ge;simp at *;omega) ?_;intro v2 w5 hO5 hgr5 _ hor5;have HO5:=Lib.hid hO5;have HG5:=Lib.hid hgr5;have HR5:=Lib.hid hor5;clear hO5 hgr5 hor5)
      |(go_at_call 94;with_reducible refine (HP.out _).mono ?_;rintro r w3 ⟨rfl,hb3⟩
        have HB3:=Lib.hid hb3;clear hb3)
      |(go_at_call 92;with_reducible refine (HGo.out _).mono ?_;rintro r w2 ⟨rfl,hw⟩;rw [hw];clear hw))
     go_ret
     have hb4:=(HB3.out.alloc HB3.out.size (.cells #[.string (ba n),.string (ba vv)] 106))
     have hb5:=hb4.alloc hb4.size (.cells #[.string (ba n),.string (ba vv)] 106);have h4:=H1.out.below hb5;have hl:(s.r.fs ++ [(ba n,ba vv)]).length=s.r.fs.length+1:=by simp
     have hk5:Keeps [(Value.slice bo s.r.fs.length co).ownBlock] ((w3.alloc (.cells #[.string (ba n),.string (ba vv)] 106)).alloc (.cells #[.string (ba n),.string (ba vv)] 106)) w5:=Keeps.grown HG5.out fun k e=>by rw [e];exact List.mem_singleton.2 rfl
     obtain ⟨ho5,hs5⟩:=h4.own.setF (f':=v2) (fs':=s.r.fs ++ [(ba n,ba vv)]) hk5 (by rw [hl,cells_append];exact HO5.out) (by
      rcases HR5.out with e | e
      ·exact .inl e
      ·exact .inr ⟨_,e,Nat.le_refl _⟩)
     have hrow:w5.heap[g]?= _:=hk5.row h4.row (fun hm=>by
      have e:some g=(Value.slice bo s.r.fs.length co).ownBlock:=by simpa using hm
      exact h4.own.lone.ne (i:=0) (j:=3) rfl (by decide) (by rw [e];rfl))
     exact ⟨_,rfl,hrow,ho5,HS1.out.trans ((Step.of_below hb5).trans hs5)⟩
theorem fieldT_any (hp:p<4294967296) (x:ByteArray) (hx:x.size≤5000) (most:Int) (h:PR w B g q v f bd t o p b s) (hl:s.lines≤1000) (hsz:∀y∈s.r.ts,y.1.size≤1000000∧y.2.size≤1000000) (hlen:s.r.ts.length≤500) :
 Calls Tryz.prog 82 #[ptr g,t,.string x,.int .i64 most] w fun r w'=>
  match fieldV p s.lines s.r.ts x.data.toList most with
  | .inl e=>r=.returned nil∧PR w' B g q v nil nil nil o p b (S.fail {s with lines:=s.lines+1} e)∧Step (blks g q v f bd t o) (blks g q v nil nil nil o) w w'
  | .inr l=>∃t',r=.returned t'∧w'.heap[g]?=some (.cells (pcells p b {s with lines:=s.lines+1} q f bd t o).toArray 59 (0,0))∧Own w' B g q v f bd t' o p s.rd s.r.fs s.r.body l s.out∧Step (blks g q v f bd t o) (blks g q v f bd t' o) w w':=by
 obtain ⟨a1,a2⟩:=Rec.wraps ((s.lines:Int)+1) ⟨by omega,by omega⟩
 have H1:=Lib.hid (h.put 20 (.int .i64 ((s.lines:Int)+1)) {s with lines:=s.lines+1} rfl rfl rfl rfl rfl rfl)
 have HS1:=Lib.hid (Step.set (w:=w) (L:=blks g q v f bd t o) g 20 (.int .i64 ((s.lines:Int)+1)) (by simp));have c20:=h.cs.c20;have z20:=h.marks 20;have HSZ:=Lib.hid hsz;have HLEN:=Lib.hid hlen;clear hsz hlen
 by_cases hm:most<((s.lines+1:Nat):Int)
 ·have e:fieldV p s.lines s.r.ts x.data.toList most=.inl 431:=by unfold fieldV;rw [if_pos hm]
  rw [e];have t0:most<(s.lines:Int)+1:=by omega
  have HFA:=Lib.hid (fail_at H1.out 431 431 rfl);clear e hm;go_enter Tryz.func82,Tryz.ntmps82
  go_wp2_with (go_at_call 56;with_reducible refine HFA.out.mono ?_;rintro r w2 ⟨rfl,hP,hS⟩);go_ret;exact ⟨rfl,hP,HS1.out.trans hS⟩
 ·have t0:¬most<(s.lines:Int)+1:=by omega
  obtain ⟨bo,co,eo, -⟩:=Ln.own_slice h.own.T;have hgo:=fun w=>Fd.rgoes_any x p hp w
  have HP:=Lib.hid (fun w=>Fd.rparse_any x p hp w (by omega));have HSZx:=Lib.hid hx;have hnn:(s.r.ts.length:Int)≤500:=by have:=HLEN.out;omega
  subst eo;clear h hl hx;by_cases hj:(Fd.goes p x.data.toList && !s.r.ts.isEmpty)=true
  ·simp only [Bool.and_eq_true,Bool.not_eq_true',List.isEmpty_eq_false_iff] at hj;obtain ⟨hg,hne⟩:=hj;rw [hg] at hgo;have HGo:=Lib.hid hgo;obtain ⟨ini,last,el⟩:∃ini last,s.r.ts=ini ++ [last]:=⟨_,_,(List.dropLast_concat_getLast hne).symm⟩;have hn1:s.r.ts.length=ini.length+1:=by rw [el];simp
   have e:fieldV p s.lines s.r.ts x.data.toList most=.inr (ini ++ [joinF last x.data.toList]):=by
    unfold fieldV;have e1:(Fd.goes p x.data.toList && !s.r.ts.isEmpty)=true:=by rw [hg,el];simp
    rw [if_neg hm,if_pos e1,el];simp
   rw [e]
   obtain ⟨gf,cf,hform,hgl,hgf⟩:=H1.out.own.T.form (by show 0<s.r.ts.length;omega);simp only [Value.slice.injEq,true_and] at hform;obtain ⟨rfl,rfl⟩:=hform
   have hq0:=(H1.out.own.T.cellAt (ini.length*2) (by show ini.length*2<s.r.ts.length*2;omega)).trans (show (cells s.r.ts)[ini.length*2]?=some (.string last.1) by rw [el];exact (cells_last ini last).1)
   have hq1:=(H1.out.own.T.cellAt (ini.length*2+1) (by show ini.length*2+1<s.r.ts.length*2;omega)).trans (show (cells s.r.ts)[ini.length*2+1]?=some (.string last.2) by rw [el];exact (cells_last ini last).2)
   have hz0:=H1.out.own.T.frozenAt (ini.length*2);have hz1:=H1.out.own.T.frozenAt (ini.length*2+1)
   have HJ:=Lib.hid (show∀w,Calls Tryz.prog 93 #[.agg #[.string last.1,.string last.2],.string x] w fun e w'=>e=.returned (.agg #[.string last.1,.string (ba (Fd.joined last.2.data.toList x.data.toList))])∧Below w.heap.size w w' from
    fun w=>Fd.rjoin_any last.1 last.2 x w (by have:=HSZx.out;omega) (by have:=(HSZ.out last (by rw [el];simp)).2;omega))
   obtain ⟨k,hk⟩:∃k,ini.length=k:=⟨_,rfl⟩;have HK:=Lib.hid hk;rw [hk] at hn1 hq0 hq1 hz0 hz1;have t1:(0:Int)<(s.r.ts.length:Int):=by omega
   have i1:(k:Int)<(s.r.ts.length:Int):=by omega
   obtain ⟨b1,b2⟩:=Rec.wraps ((s.r.ts.length:Int)-1) ⟨by omega,by omega⟩;have b3:(s.r.ts.length:Int)-1=(k:Int):=by omega
   rw [b3] at b1 b2;have HEL:=Lib.hid el;have HN1:=Lib.hid hn1;have HGL:=Lib.hid hgl;have HQ0:=Lib.hid hq0;have HQ1:=Lib.hid hq1;have HGF:=Lib.hid hgf;have HZ0:=Lib.hid hz0;have HZ1:=Lib.hid hz1;clear hne e hk hnn el hn1 hg hgo hm hgl;go_enter Tryz.func82,Tryz.ntmps82;go_upto_region 5 with fail
   generalize w.setCell ⟨g,20,none⟩ (.int .i64 ((s.lines:Int)+1))=W1 at *;clear c20 z20 a1 a2 t0;have c0:=H1.out.cs.c0
   go_wp2_with (first
    |(go_at_call 93;with_reducible refine (HJ.out _).mono ?_;rintro r w3 ⟨rfl,hb3⟩
      have HB3:=Lib.hid hb3;have y0:=(hb3.cell (p:=⟨gf,k*2,none⟩) HGF.out).trans HQ0.out;have y1:=(hb3.cell (p:=⟨gf,k*2+1,none⟩) HGF.out).trans HQ1.out;have x0:=(hb3.frozen (p:=⟨gf,k*2,none⟩) HGF.out).trans HZ0.out;have x1:=(hb3.frozen (p:=⟨gf,k*2+1,none⟩) HGF.out).trans HZ1.out;clear hb3)
    |(go_at_call 92;with_reducible refine (HGo.out _).mono ?_;rintro r w2 ⟨rfl,hw⟩;rw [hw];clear hw))
   go_ret;have h3:=H1.out.below HB3.out;have ho:(Value.slice (some ⟨gf,0,none⟩) s.r.ts.length co).ownBlock=some gf:=by simp [Value.ownBlock]
   have hk3:Keeps [(Value.slice (some ⟨gf,0,none⟩) s.r.ts.length co).ownBlock] w3 ((w3.setCell ⟨gf,k*2,none⟩ (.string last.1)).setCell ⟨gf,k*2+1,none⟩ (.string (ba (Fd.joined last.2.data.toList x.data.toList)))):=
    (Keeps.set gf (k*2) _ (by rw [ho];simp)).trans (Keeps.set gf (k*2+1) _ (by rw [ho];simp)) Of.refl
   have hl3:(ini ++ [joinF last x.data.toList]).length=s.r.ts.length:=by rw [HEL.out];simp
   have hr3:=((h3.own.T.stored (k*2) (.string last.1)).1.stored (k*2+1) (.string (ba (Fd.joined last.2.data.toList x.data.toList)))).1
   obtain ⟨ho3,hs3⟩:=h3.own.setT (t':=.slice (some ⟨gf,0,none⟩) s.r.ts.length co) (ts':=ini ++ [joinF last x.data.toList]) hk3 (by
    rw [hl3,←cells_put ini last (joinF last x.data.toList),HK.out];have e:cells (ini ++ [last])=cells s.r.ts:=by rw [HEL.out]
    rw [e];exact hr3) (.inl rfl)
   have hrow:((w3.setCell ⟨gf,k*2,none⟩ (.string last.1)).setCell ⟨gf,k*2+1,none⟩ (.string (ba (Fd.joined last.2.data.toList x.data.toList)))).heap[g]?= _:=hk3.row h3.row (fun hm=>by
    have e:some g=some gf:=by rw [←ho];simpa using hm
    exact h3.own.lone.ne (i:=0) (j:=5) rfl (by decide) (by rw [e,←ho];rfl))
   exact ⟨_,rfl,hrow,ho3,HS1.out.trans ((Step.of_below HB3.out).trans hs3)⟩
  ·have hgt:Fd.goes p x.data.toList=false∨Fd.goes p x.data.toList=true∧¬(0:Int)<(s.r.ts.length:Int):=by
    cases hg:Fd.goes p x.data.toList with
    | false=>exact .inl rfl
    | true=>
      refine .inr ⟨rfl,?_⟩;rw [hg] at hj;have:s.r.ts= []:=by simpa using hj
      rw [this];simp
   have hp:=fun w=>Fd.rparse_any x p hp w (by have:=HSZx.out;omega)
   have HFA:=Lib.hid (fun w2 (hb:Below (w.setCell ⟨g,20,none⟩ (.int .i64 ((s.lines:Int)+1))).heap.size (w.setCell ⟨g,20,none⟩ (.int .i64 ((s.lines:Int)+1))) w2)=>fail_at (H1.out.below hb) 400 400 rfl);obtain ⟨iF,hi,hz0,hz1,hz2⟩:=info_parts field_info;have I1:=Lib.hid hi;have I2:=Lib.hid hz0;have I3:=Lib.hid hz1;have I4:=Lib.hid hz2;clear hi hz0 hz1 hz2 HP;rcases hpar:Fd.parse (Fd.clOf p) x.data.toList with _ | _ | ⟨n,vv⟩
   ·have e:fieldV p s.lines s.r.ts x.data.toList most=.inl 400:=by unfold fieldV;rw [if_neg hm,if_neg hj,hpar]
    rw [e];rw [hpar] at hp;simp only [Fd.rv,Fd.fv] at hp;have HP:=Lib.hid hp;clear e hpar hp hm hj hnn;rcases hgt with hg | ⟨hg,t1⟩
    ·rw [hg] at hgo;have HGo:=Lib.hid hgo;clear hgo hg;go_enter Tryz.func82,Tryz.ntmps82;go_upto_region 5 with fail
     generalize w.setCell ⟨g,20,none⟩ (.int .i64 ((s.lines:Int)+1))=W1 at *;clear c20 z20 a1 a2 t0;have c0:=H1.out.cs.c0
     go_wp2_with (first
      |(go_at_call 56;with_reducible refine (HFA.out _ (HB3.out.alloc HB3.out.size (.cells #[.string ⟨#[]⟩,.string ⟨#[]⟩] 106))).mono ?_;rintro r w4 ⟨rfl,hP,hS⟩)
      |(go_at_call 94;with_reducible refine (HP.out _).mono ?_;rintro r w3 ⟨rfl,hb3⟩
        have HB3:=Lib.hid hb3;clear hb3)
      |(go_at_call 92;with_reducible refine (HGo.out _).mono ?_;rintro r w2 ⟨rfl,hw⟩;rw [hw];clear hw))
     go_ret;exact ⟨rfl,hP,HS1.out.trans ((Step.of_below (HB3.out.alloc HB3.out.size (.cells #[.string ⟨#[]⟩,.string ⟨#[]⟩] 106))).trans hS)⟩
    ·rw [hg] at hgo;have HGo:=Lib.hid hgo;clear hgo hg;go_enter Tryz.func82,Tryz.ntmps82;go_upto_region 5 with fail
     generalize w.setCell ⟨g,20,none⟩ (.int .i64 ((s.lines:Int)+1))=W1 at *;clear c20 z20 a1 a2 t0;have c0:=H1.out.cs.c0
     go_wp2_with (first
      |(go_at_call 56;with_reducible refine (HFA.out _ (HB3.out.alloc HB3.out.size (.cells #[.string ⟨#[]⟩,.string ⟨#[]⟩] 106))).mono ?_;rintro r w4 ⟨rfl,hP,hS⟩)
      |(go_at_call 94;with_reducible refine (HP.out _).mono ?_;rintro r w3 ⟨rfl,hb3⟩
        have HB3:=Lib.hid hb3;clear hb3)
      |(go_at_call 92;with_reducible refine (HGo.out _).mono ?_;rintro r w2 ⟨rfl,hw⟩;rw [hw];clear hw))
     go_ret;exact ⟨rfl,hP,HS1.out.trans ((Step.of_below (HB3.out.alloc HB3.out.size (.cells #[.string ⟨#[]⟩,.string ⟨#[]⟩] 106))).trans hS)⟩
   ·have e:fieldV p s.lines s.r.ts x.data.toList most=.inr s.r.ts:=by unfold fieldV;rw [if_neg hm,if_neg hj,hpar]
    rw [e];rw [hpar] at hp;simp only [Fd.rv,Fd.fv] at hp;have HP:=Lib.hid hp;clear e hpar hp hm hj hnn;rcases hgt with hg | ⟨hg,t1⟩
    ·rw [hg] at hgo;have HGo:=Lib.hid hgo;clear hgo hg;go_enter Tryz.func82,Tryz.ntmps82;go_upto_region 5 with fail
     generalize w.setCell ⟨g,20,none⟩ (.int .i64 ((s.lines:Int)+1))=W1 at *;clear c20 z20 a1 a2 t0;have c0:=H1.out.cs.c0
     go_wp2_with (first
      |(go_at_call 94;with_reducible refine (HP.out _).mono ?_;rintro r w3 ⟨rfl,hb3⟩
        have HB3:=Lib.hid hb3;clear hb3)
      |(go_at_call 92;with_reducible refine (HGo.out _).mono ?_;rintro r w2 ⟨rfl,hw⟩;rw [hw];clear hw))
     go_ret
     have h4:=H1.out.below (HB3.out.alloc HB3.out.size (.cells #[.string ⟨#[]⟩,.string ⟨#[]⟩] 106));exact ⟨_,rfl,h4.row,h4.own,HS1.out.trans (Step.of_below (HB3.out.alloc HB3.out.size (.cells #[.string ⟨#[]⟩,.string ⟨#[]⟩] 106)))⟩
    ·rw [hg] at hgo;have HGo:=Lib.hid hgo;clear hgo hg;go_enter Tryz.func82,Tryz.ntmps82;go_upto_region 5 with fail
     generalize w.setCell ⟨g,20,none⟩ (.int .i64 ((s.lines:Int)+1))=W1 at *;clear c20 z20 a1 a2 t0;have c0:=H1.out.cs.c0
     go_wp2_with (first
      |(go_at_call 94;with_reducible refine (HP.out _).mono ?_;rintro r w3 ⟨rfl,hb3⟩
        have HB3:=Lib.hid hb3;clear hb3)
      |(go_at_call 92;with_reducible refine (HGo.out _).mono ?_;rintro r w2 ⟨rfl,hw⟩;rw [hw];clear hw))
     go_ret
     have h4:=H1.out.below (HB3.out.alloc HB3.out.size (.cells #[.string ⟨#[]⟩,.string ⟨#[]⟩] 106));exact ⟨_,rfl,h4.row,h4.own,HS1.out.trans (Step.of_below (HB3.out.alloc HB3.out.size (.cells #[.string ⟨#[]⟩,.string ⟨#[]⟩] 106)))⟩
   ·have e:fieldV p s.lines s.r.ts x.data.toList most=.inr (s.r.ts ++ [(ba n,ba vv)]):=by unfold fieldV;rw [if_neg hm,if_neg hj,hpar]
    rw [e];rw [hpar] at hp;simp only [Fd.rv,Fd.fv] at hp;have HP:=Lib.hid hp;clear e hpar hp hm hj hnn;rcases hgt with hg | ⟨hg,t1⟩
    ·rw [hg] at hgo;have HGo:=Lib.hid hgo;clear hgo hg;go_enter Tryz.func82,Tryz.ntmps82;go_upto_region 5 with fail
     generalize w.setCell ⟨g,20,none⟩ (.int .i64 ((s.lines:Int)+1))=W1 at *;clear c20 z20 a1 a2 t0;have c0:=H1.out.cs.c0
     go_wp2_with (first
      |(at_builtin;refine App.wpList_append_list _ rfl _ _ 55 rfl B 106 iF (.agg #[.string ByteArray.empty,.string ByteArray.empty]) 2 32 Tryz.underlying55 I1.out I2.out I3.out I4.out rfl (by decide) (.slice bo s.r.ts.length co) s.r.ts.length (cells s.r.ts) rfl ((H1.out.below (HB3.out.alloc HB3.out.size (.cells #[.string (ba n),.string (ba vv)] 106))).own.T.alloc (.cells #[.string (ba n),.string (ba vv)] 106)) (some ⟨w3.heap.size+1,0,none⟩) 1 1 [.string (ba n),.string (ba vv)] rfl rfl (fun _=>⟨w3.heap.size+1,0,rfl,fun j u hu=>by rw [Nat.zero_add];exact (Rec.Bk.new (w3.alloc (.cells #[.string (ba n),.string (ba vv)] 106)) (w3.heap.size+1) (by simp) 106 [.string (ba n),.string (ba vv)]).c j u hu⟩) (by intro u hu;rcases (by simpa using hu:u=.string (ba n)∨u=.string (ba vv)) with rfl | rfl<;>rfl) (by have:=HLEN.out;unfold maxLen;omega) (by have:=HLEN.out;omega) (by have:=(H1.out.below (HB3.out.alloc HB3.out.size (.cells #[.string (ba n),.string (ba vv)] 106))).own.lt;have:=H1.out.own.ge;simp at *;omega) ?_;intro v2 w5 hO5 hgr5 _ hor5;have HO5:=Lib.hid hO5;have HG5:=Lib.hid hgr5;have HR5:=Lib.hid hor5;clear hO5 hgr5 hor5)
      |(go_at_call 94;with_reducible refine (HP.out _).mono ?_;rintro r w3 ⟨rfl,hb3⟩
        have HB3:=Lib.hid hb3;clear hb3)
      |(go_at_call 92;with_reducible refine (HGo.out _).mono ?_;rintro r w2 ⟨rfl,hw⟩;rw [hw];clear hw))
     go_ret
     have hb4:=(HB3.out.alloc HB3.out.size (.cells #[.string (ba n),.string (ba vv)] 106))
     have hb5:=hb4.alloc hb4.size (.cells #[.string (ba n),.string (ba vv)] 106);have h4:=H1.out.below hb5;have hl:(s.r.ts ++ [(ba n,ba vv)]).length=s.r.ts.length+1:=by simp
     have hk5:Keeps [(Value.slice bo s.r.ts.length co).ownBlock] ((w3.alloc (.cells #[.string (ba n),.string (ba vv)] 106)).alloc (.cells #[.string (ba n),.string (ba vv)] 106)) w5:=Keeps.grown HG5.out fun k e=>by rw [e];exact List.mem_singleton.2 rfl
     obtain ⟨ho5,hs5⟩:=h4.own.setT (t':=v2) (ts':=s.r.ts ++ [(ba n,ba vv)]) hk5 (by rw [hl,cells_append];exact HO5.out) (by
      rcases HR5.out with e | e
      ·exact .inl e
      ·exact .inr ⟨_,e,Nat.le_refl _⟩)
     have hrow:w5.heap[g]?= _:=hk5.row h4.row (fun hm=>by
      have e:some g=(Value.slice bo s.r.ts.length co).ownBlock:=by simpa using hm
      exact h4.own.lone.ne (i:=0) (j:=5) rfl (by decide) (by rw [e];rfl))
     exact ⟨_,rfl,hrow,ho5,HS1.out.trans ((Step.of_below hb5).trans hs5)⟩
    ·rw [hg] at hgo;have HGo:=Lib.hid hgo;clear hgo hg;go_enter Tryz.func82,Tryz.ntmps82;go_upto_region 5 with fail
     generalize w.setCell ⟨g,20,none⟩ (.int .i64 ((s.lines:Int)+1))=W1 at *;clear c20 z20 a1 a2 t0;have c0:=H1.out.cs.c0
     go_wp2_with (first
      |(at_builtin;refine App.wpList_append_list _ rfl _ _ 55 rfl B 106 iF (.agg #[.string ByteArray.empty,.string ByteArray.empty]) 2 32 Tryz.underlying55 I1.out I2.out I3.out I4.out rfl (by decide) (.slice bo s.r.ts.length co) s.r.ts.length (cells s.r.ts) rfl ((H1.out.below (HB3.out.alloc HB3.out.size (.cells #[.string (ba n),.string (ba vv)] 106))).own.T.alloc (.cells #[.string (ba n),.string (ba vv)] 106)) (some ⟨w3.heap.size+1,0,none⟩) 1 1 [.string (ba n),.string (ba vv)] rfl rfl (fun _=>⟨w3.heap.size+1,0,rfl,fun j u hu=>by rw [Nat.zero_add];exact (Rec.Bk.new (w3.alloc (.cells #[.string (ba n),.string (ba vv)] 106)) (w3.heap.size+1) (by simp) 106 [.string (ba n),.string (ba vv)]).c j u hu⟩) (by intro u hu;rcases (by simpa using hu:u=.string (ba n)∨u=.string (ba vv)) with rfl | rfl<;>rfl) (by have:=HLEN.out;unfold maxLen;omega) (by have:=HLEN.out;omega) (by have:=(H1.out.below (HB3.out.alloc HB3.out.size (.cells #[.string (ba n),.string (ba vv)] 106))).own.lt;have:=H1.out.own.ge;simp at *;omega) ?_;intro v2 w5 hO5 hgr5 _ hor5;have HO5:=Lib.hid hO5;have HG5:=Lib.hid hgr5;have HR5:=Lib.hid hor5;clear hO5 hgr5 hor5)
      |(go_at_call 94;with_reducible refine (HP.out _).mono ?_;rintro r w3 ⟨rfl,hb3⟩
        have HB3:=Lib.hid hb3;clear hb3)
      |(go_at_call 92;with_reducible refine (HGo.out _).mono ?_;rintro r w2 ⟨rfl,hw⟩;rw [hw];clear hw))
     go_ret
     have hb4:=(HB3.out.alloc HB3.out.size (.cells #[.string (ba n),.string (ba vv)] 106))
     have hb5:=hb4.alloc hb4.size (.cells #[.string (ba n),.string (ba vv)] 106);have h4:=H1.out.below hb5;have hl:(s.r.ts ++ [(ba n,ba vv)]).length=s.r.ts.length+1:=by simp
     have hk5:Keeps [(Value.slice bo s.r.ts.length co).ownBlock] ((w3.alloc (.cells #[.string (ba n),.string (ba vv)] 106)).alloc (.cells #[.string (ba n),.string (ba vv)] 106)) w5:=Keeps.grown HG5.out fun k e=>by rw [e];exact List.mem_singleton.2 rfl
     obtain ⟨ho5,hs5⟩:=h4.own.setT (t':=v2) (ts':=s.r.ts ++ [(ba n,ba vv)]) hk5 (by rw [hl,cells_append];exact HO5.out) (by
      rcases HR5.out with e | e
      ·exact .inl e
      ·exact .inr ⟨_,e,Nat.le_refl _⟩)
     have hrow:w5.heap[g]?= _:=hk5.row h4.row (fun hm=>by
      have e:some g=(Value.slice bo s.r.ts.length co).ownBlock:=by simpa using hm
      exact h4.own.lone.ne (i:=0) (j:=5) rfl (by decide) (by rw [e];rfl))
     exact ⟨_,rfl,hrow,ho5,HS1.out.trans ((Step.of_below hb5).trans hs5)⟩
end code
end Go.Proofs.YtimoakmcelocfaaGreat.Par
