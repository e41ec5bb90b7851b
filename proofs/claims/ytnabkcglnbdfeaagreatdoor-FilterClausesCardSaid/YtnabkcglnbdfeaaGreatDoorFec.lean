import Derived.Test.YtnabkcglnbdfeaaGreatDoorFeb
namespace Go.Proofs.YtnabkcglnbdfeaaGreatDoor.Txt
open Go.RowKit Base Oct
theorem byte_info:(Tryz.prog.info? 5).map (fun i=>(i.zero,i.size,i.bytes))=some (some (.int .u8 0),1,1):=by kernel_rfl
theorem text_info:(Tryz.prog.info? 9).map (fun i=>(i.zero,i.size,i.bytes))=some (some (.string ByteArray.empty),1,16):=by kernel_rfl
def mix (l:List UInt8) (k:Nat):List UInt8:=low (l.take k)++l.drop k
def bcells (l:List UInt8):List Value:=l.map fun b=>Value.int .u8 b.toNat
theorem mix_zero (l:List UInt8):mix l 0=l:=by simp [mix,low]
theorem mix_all (l:List UInt8) (k:Nat) (h:l.length≤k):mix l k=low l:=by unfold mix;rw [List.take_of_length_le h,List.drop_eq_nil_of_le h,List.append_nil]
theorem mix_length (l:List UInt8) (k:Nat):(mix l k).length=l.length:=by unfold mix low;simp;omega
section code
set_option maxHeartbeats 1000000
theorem lowN_any (n:Int) (w:World) (h0:0≤n) (h1:n≤255):Calls Tryz.prog 178 #[.int .u8 n] w fun e w'=>e=.returned (.int .u8 (lowN n))∧w'=w:=by
 by_cases h:65≤n∧n≤90
 ·obtain ⟨a,b⟩:=h;have e1:IntKind.u8.wrap (n-65)=n-65:=by rw [IntKind.wrap_u8];omega
  have e2:IntKind.u8.wrap (n-65+97)=n+32:=by rw [IntKind.wrap_u8];omega
  go_enter Tryz.func178,Tryz.ntmps178;go_wp2;go_ret;exact ⟨by simp only [lowN,a,b,and_self,if_true];rw [←e2,←e1];rfl,rfl⟩
 ·have hr:lowN n=n:=by unfold lowN;rw [if_neg h]
  rcases Int.lt_or_le n 65 with a | a
  ·go_enter Tryz.func178,Tryz.ntmps178;go_wp2;go_ret;first | exact ⟨rfl,rfl⟩ | exact ⟨by rw [hr];rfl,rfl⟩
  ·have b:90<n:=by omega
   go_enter Tryz.func178,Tryz.ntmps178;go_wp2;go_ret;first | exact ⟨rfl,rfl⟩ | exact ⟨by rw [hr];rfl,rfl⟩
theorem same_any (a b:ByteArray) (w:World) (ha:a.size≤maxLen):Calls Tryz.prog 148 #[.string a,.string b] w fun e w'=>e=.returned (.bool (same a b))∧Below w.heap.size w w':=by
 unfold maxLen at ha;by_cases hl:a.size=b.size
 ·have hq:∀x (w:World),0≤x→x≤255→Hid (Calls Tryz.prog 178 #[.int .u8 x] w fun e w'=>e=.returned (.int .u8 (lowN x))∧w'=w):=fun x w h0 h1=>Lib.hid (lowN_any x w h0 h1);go_enter Tryz.func148,Tryz.ntmps148;go_wp2
  go_loopw [13] (fun i wr=>∃k:Nat,k≤a.size∧i=.int .i64 k∧Hid (low (a.data.toList.take k)=low (b.data.toList.take k))∧Hid (Below w.heap.size w wr)) (fun i _=>a.size-(intOf i).toNat)
  case atStart=>exact ⟨0,Nat.zero_le _,rfl,Lib.hid rfl,Lib.hid (Below.refl _ _)⟩
  case round=>
   obtain ⟨k,hk,rfl,hsm,hbr⟩:=hrel;rcases Nat.lt_or_ge k a.size with hlt | hge
   ·have hltb:k<b.size:=by omega
    have ta:=Lib.hid (take_snoc a k hlt)
    have tb:=Lib.hid (take_snoc b k hltb)
    have hca:=fun w=>hq (a[k].toNat:Int) w (by omega) (byte_lt _)
    have hcb:=fun w=>hq (b[k].toNat:Int) w (by omega) (byte_lt _);have la:=lowB_toNat a[k];have lb:=lowB_toNat b[k];have hna:k<a.data.toList.length:=by rw [len];exact hlt
    by_cases he:lowB a[k]=lowB b[k]
    ·have hxy:lowN (a[k].toNat:Int)=lowN (b[k].toNat:Int):=by rw [←la,←lb,he]
     have HE:=Lib.hid he;clear he;have h1:=Lib.hid hca;have h2:=Lib.hid hcb;clear hca hcb hq;have i1:(k:Int)<(a.size:Int):=by omega
     have i2:(k:Int)<(b.size:Int):=by omega
     go_wp2_with fail
     go_quiet ((first |(go_at_call 178;with_reducible exact Calls.quiet_of_same (h1.out _).out) |(go_at_call 178;with_reducible exact Calls.quiet_of_same (h2.out _).out)));rename_i nq
     have hb':=Lib.hid (Base.below_drewN hbr.out nq);go_wp2;go_roundw
     case rel=>refine ⟨k+1,by omega,by go_num,Lib.hid ?_,hb'⟩;rw [ta.out,tb.out,low,low,List.map_append,List.map_append];have e1:=hsm.out;unfold low at e1;rw [e1];simp [HE.out]
     case measure=>simp [intOf];omega
    ·have hxy:¬lowN (a[k].toNat:Int)=lowN (b[k].toNat:Int):=fun e=>he (by
      rw [←la,←lb] at e
      exact UInt8.toNat_inj.1 (by omega))
     have hf:same a b=false:=by
      refine Bool.eq_false_iff.2 fun hs=>he ?_
      have e1:=congrArg (fun l=>l[k]?) (beq_iff_eq.1 hs);have hnb:k<b.data.toList.length:=by rw [len];exact hltb
      simp only [low,List.getElem?_map,List.getElem?_eq_getElem hna,List.getElem?_eq_getElem hnb,Option.map_some,Option.some.injEq] at e1;exact e1
     have HE:=Lib.hid he;clear he la lb;have h1:=Lib.hid hca;have h2:=Lib.hid hcb;clear hca hcb hq;have i1:(k:Int)<(a.size:Int):=by omega
     have i2:(k:Int)<(b.size:Int):=by omega
     go_wp2_with fail
     go_quiet ((first |(go_at_call 178;with_reducible exact Calls.quiet_of_same (h1.out _).out) |(go_at_call 178;with_reducible exact Calls.quiet_of_same (h2.out _).out)));rename_i nq
     have hb':=Lib.hid (Base.below_drewN hbr.out nq);go_wp2;go_ret;exact ⟨by rw [hf];rfl,hb'.out⟩
   ·obtain rfl:k=a.size:=by omega
    go_wp2;go_ret;refine ⟨?_,hbr.out⟩;have e1:=hsm.out;rw [take_all a _ (Nat.le_refl _),take_all b _ (by omega)] at e1;have:same a b=true:=beq_iff_eq.2 e1;rw [this];rfl
 ·have hf:same a b=false:=Bool.eq_false_iff.2 fun hs=>hl (same_sizes hs);have hl':¬(a.size:Int)=(b.size:Int):=by omega
  go_enter Tryz.func148,Tryz.ntmps148;go_wp2;go_ret;exact ⟨by rw [hf];rfl,Below.refl _ _⟩
theorem blank_is (x:UInt8):Oct.blank (x.toNat:Int)=blank x:=by
 rw [Bool.eq_iff_iff];simp only [Oct.blank,blank,Bool.or_eq_true,decide_eq_true_eq,beq_iff_eq];constructor
 ·rintro (h | h)
  ·exact Or.inl (UInt8.toNat_inj.1 (by show x.toNat=32;omega))
  ·exact Or.inr (UInt8.toNat_inj.1 (by show x.toNat=9;omega))
 ·rintro (rfl | rfl)<;>decide
set_option maxRecDepth 10000 in
theorem strip_any (g:Nat) (lb:Array Value) (eg:∀args w,(callFunc g args).run Tryz.prog w=.ok (.enter g args) w) (p:UInt8→Bool) (s:ByteArray) (w:World) (hs:s.size≤maxLen)
 (hp:∀x:UInt8,Calls Tryz.prog g (#[.int .u8 x.toNat]++lb) w fun e w'=>e=.returned (.bool (p x))∧w'=w) :
 Calls Tryz.prog 219 #[.string s,.func (.func g) #[] lb] w fun e w'=>e=.returned (.string (trimB p s))∧w'=w:=by
 unfold maxLen at hs;have HP:=Lib.hid hp;clear hp;go_enter Tryz.func219,Tryz.ntmps219;go_wp2
 go_loop [5] (fun i=>∃k:Nat,k≤s.size∧i=.int .i64 k∧Hid (∀x∈s.data.toList.take k,p x=true)) (fun i=>s.size-(intOf i).toNat)
 case atStart=>exact ⟨0,Nat.zero_le _,rfl,Lib.hid (by simp)⟩
 case round=>
  obtain ⟨k,hk,rfl,hpre⟩:=hrel;by_cases hgo:∃h:k<s.size,p s[k]=true
  ·obtain ⟨hlt,hq⟩:=hgo;have hcall:=HP.out s[k];rw [hq] at hcall;have HC:=Lib.hid hcall
   have ta:=Lib.hid (take_snoc s k hlt);have HQ:=Lib.hid hq;clear hcall hq;have i1:(k:Int)<(s.size:Int):=by omega
   go_wp2_with (go_at_fn g;with_reducible refine HC.out.mono ?_;rintro e w' ⟨rfl,rfl⟩);go_round
   case rel=>
    refine ⟨k+1,by omega,by go_num,Lib.hid ?_⟩;rw [ta.out];intro x hx;rcases List.mem_append.1 hx with hx | hx
    ·exact hpre.out x hx
    ·obtain rfl:x=s[k]:=by simpa using hx
     exact HQ.out
   case measure=>simp [intOf];omega
  ·have hstop:=Lib.hid (show k<s.size→∃h:k<s.size,p s[k]=false from fun h=>⟨h,by
    cases hq:p s[k] with
    | false=>rfl
    | true=>exact absurd ⟨h,hq⟩ hgo⟩)
   clear hgo;rcases Nat.lt_or_ge k s.size with hlt | hge
   all_goals (first
    |(have i1:(k:Int)<(s.size:Int):=by omega
      have hcall:=HP.out s[k];obtain ⟨_,hq⟩:=hstop.out hlt;rw [hq] at hcall;have HC:=Lib.hid hcall;clear hcall hq
      (go_wp2_with (go_at_fn g;with_reducible refine HC.out.mono ?_;rintro e w' ⟨rfl,rfl⟩)))
    |(have i1:¬(k:Int)<(s.size:Int):=by omega
      go_wp2;clear i1))
   all_goals
    go_loop [6] (fun i=>∃m:Nat,k≤m∧m≤s.size∧i=.int .i64 m∧Hid (∀x∈s.data.toList.drop m,p x=true)) (fun i=>(intOf i).toNat)
    case atStart=>exact ⟨s.size,hk,Nat.le_refl _,rfl,Lib.hid (by
     intro x hx;rw [List.drop_eq_nil_of_le (by rw [len];exact Nat.le_refl _)] at hx
     cases hx)⟩
    case round=>
     obtain ⟨m,hkm,hm,rfl,hpost⟩:=hrel;rcases Nat.lt_or_ge k m with hlm | hgm
     ·first
      |(exfalso;omega)
      |(
       have i0:(k:Int)<(m:Int):=by omega
       have i1:((m-1:Nat):Int)=(m:Int)-1:=by omega
       have i2:m-1<s.size:=by omega
       have i3:(m:Int)-1<(s.size:Int):=by omega
       have i4:0≤(m:Int)-1:=by omega
       have i5:IntKind.i64.wrap ((m:Int)-1)=(m:Int)-1:=wrap_in _ (by omega) (by omega);have i6:((m:Int)-1).toNat=m-1:=by omega
       cases hq:p s[m-1] with
       | true=>
         have hcall:=HP.out s[m-1];rw [hq] at hcall;have HC:=Lib.hid hcall;have HQ:=Lib.hid hq;clear hcall hq
         go_wp2_with (go_at_fn g;with_reducible refine HC.out.mono ?_;rintro e w' ⟨rfl,rfl⟩);go_round
         case rel=>
          refine ⟨m-1,by omega,by omega,by rw [i1],Lib.hid ?_⟩;intro x hx;rw [List.drop_eq_getElem_cons (by rw [len];exact i2),show m-1+1=m by omega] at hx;rcases List.mem_cons.1 hx with rfl | hx
          ·exact HQ.out
          ·exact hpost.out x hx
         case measure=>simp [intOf];omega
       | false=>
         have hcall:=HP.out s[m-1];rw [hq] at hcall;have HC:=Lib.hid hcall;have HQ:=Lib.hid hq;clear hcall hq
         have hcut:=trim_cut p s k m hkm hm hpre.out hpost.out (fun h=>⟨hstop.out (by omega),i2,HQ.out⟩)
         go_wp2_with (go_at_fn g;with_reducible refine HC.out.mono ?_;rintro e w' ⟨rfl,rfl⟩);go_ret;exact ⟨by rw [←hcut];rfl,rfl⟩)
     ·obtain rfl:k=m:=by omega
      have hcut:=trim_cut p s k k hkm hm hpre.out hpost.out (fun h=>absurd h (by omega));have i1:¬(k:Int)<(k:Int):=by omega
      have e0:s.extract k k=ByteArray.empty:=by apply ba_ext;rw [Lib.extract_data];simp
      rw [e0] at hcut;go_wp2;go_ret;exact ⟨by rw [←hcut];rfl,rfl⟩
theorem trim_any (s:ByteArray) (w:World) (hs:s.size≤maxLen):Calls Tryz.prog 195 #[.string s] w fun e w'=>e=.returned (.string (trim s))∧w'=w:=by
 have eg:∀args w,(callFunc 220 args).run Tryz.prog w=.ok (.enter 220 args) w:=enters_of Tryz.func220 (by kernel_rfl) rfl
 have h:=Lib.hid (strip_any 220 #[] eg blank s w hs (fun x=>(Oct.blank_any (x.toNat:Int) w).mono (by rintro e w' ⟨rfl,rfl⟩;exact ⟨by rw [blank_is],rfl⟩)));go_enter Tryz.func195,Tryz.ntmps195
 go_wp2_with (go_at_call 219;with_reducible refine h.out.mono ?_;rintro e w' ⟨rfl,rfl⟩);go_ret;exact ⟨rfl,rfl⟩
end code
end Go.Proofs.YtnabkcglnbdfeaaGreatDoor.Txt
namespace Go.Proofs.YtnabkcglnbdfeaaGreatDoor.Txt
open Go.RowKit Base Oct
def isIn (set:ByteArray) (x:UInt8):Bool:=set.data.toList.contains x
def trimOf (s set:ByteArray):ByteArray:=trimB (isIn set) s
def marks (l:List UInt8):List Value:=(List.range 256).map fun j=>Value.bool (l.any fun b=>b.toNat==j)
theorem marks_length (l:List UInt8):(marks l).length=256:=by rw [marks,List.length_map,List.length_range]
theorem marks_none (l:List UInt8) (j:Nat) (h:¬j<256):(marks l)[j]?=none:=List.getElem?_eq_none (by rw [marks_length];omega)
theorem marks_some (l:List UInt8) (j:Nat) (h:j<256):(marks l)[j]?=some (.bool (l.any fun b=>b.toNat==j)):=by unfold marks;rw [List.getElem?_map,List.getElem?_range h];rfl
theorem marks_nil (n:Nat) (hn:n=256):(Array.replicate n (Value.bool false)).toList=marks []:=by
 rw [Array.toList_replicate];apply List.ext_getElem?;intro j;by_cases h:j<256
 ·rw [marks_some _ _ h,List.getElem?_replicate,if_pos (by omega)];rfl
 ·rw [marks_none _ _ h,List.getElem?_replicate,if_neg (by omega)]
theorem marks_at (l:List UInt8) (x:UInt8):(marks l)[x.toNat]?=some (.bool (l.contains x)):=by
 rw [marks_some _ _ x.toNat_lt];simp only [Option.some.injEq,Value.bool.injEq];rw [Bool.eq_iff_iff,List.any_eq_true,List.contains_iff_exists_mem_beq];constructor
 ·rintro ⟨b,hb,e⟩;exact ⟨b,hb,by rw [beq_iff_eq] at e ⊢;exact (UInt8.toNat_inj.1 e).symm⟩
 ·rintro ⟨b,hb,e⟩;rw [beq_iff_eq] at e;subst e;exact ⟨x,hb,by simp⟩
theorem marks_set (l:List UInt8) (x:UInt8):(marks l).set x.toNat (.bool true)=marks (l ++ [x]):=by
 apply List.ext_getElem?;intro j;rw [List.getElem?_set];have hx:=x.toNat_lt;by_cases h:x.toNat=j
 ·subst h;rw [if_pos rfl,if_pos (by rw [marks_length];exact hx),marks_some _ _ hx];simp
 ·rw [if_neg h];by_cases hj:j<256
  ·rw [marks_some _ _ hj,marks_some _ _ hj];have:(x.toNat==j)=false:=by simpa using h
   simp [this]
  ·rw [marks_none _ _ hj,marks_none _ _ hj]
theorem zero_marks (w:World):(zeroValue 295).run Tryz.prog w=.ok (.agg (Array.replicate 256 (.bool false))) w:=by kernel_rfl
section code
set_option maxHeartbeats 1000000
theorem marks_any (x:UInt8) (B:Nat) (set:List UInt8) (w:World) (hc:w.cell? ⟨B,x.toNat,none⟩=some (.bool (set.contains x))) :
 Calls Tryz.prog 334 #[.int .u8 x.toNat,.pointer (some ⟨B,0,none⟩)] w fun e w'=>e=.returned (.bool (set.contains x))∧w'=w:=by
 have hx:=x.toNat_lt;have i1:(x.toNat:Int)<256:=by omega
 generalize set.contains x=r at *;generalize x.toNat=n at *;go_enter Tryz.func334,Tryz.ntmps334;go_wp2;go_ret;exact ⟨rfl,rfl⟩
set_option maxRecDepth 10000 in
theorem trimOf_any (s set:ByteArray) (w:World) (hs:s.size≤maxLen) (ht:set.size≤maxLen):Calls Tryz.prog 329 #[.string s,.string set] w fun e w'=>e=.returned (.string (trimOf s set))∧Below w.heap.size w w':=by
 have hm:=hs;have ht':=ht;unfold maxLen at ht';have HM:=Lib.hid hm;clear hs hm ht;go_enter Tryz.func329,Tryz.ntmps329;have eg:∀args w,(callFunc 334 args).run Tryz.prog w=.ok (.enter 334 args) w:=enters_of Tryz.func334 (by kernel_rfl) rfl;have hz:=zero_marks;go_wp2;have hown:(w.alloc (.cells (Array.replicate 256 (.bool false)) 295)).ownsRow w.heap.size 295 1 (.slice (some ⟨w.heap.size,0,none⟩) 256 256) 256 (marks (set.data.toList.take 0)):=by
  have:=World.ownsRow_lit (base:=w.heap.size) (e:=295) (size:=1) w (Array.replicate 256 (.bool false)) 256 (Nat.le_refl _) (by decide) (by rw [Array.size_replicate])
  rwa [marks_nil 256 rfl] at this
 have HO:=Lib.hid hown
 have hb:=Lib.hid (show Below w.heap.size w (w.alloc (.cells (Array.replicate 256 (.bool false)) 295)) from (Below.refl _ _).alloc (Nat.le_refl _) _);clear hown hz;generalize w.alloc (.cells (Array.replicate 256 (.bool false)) 295)=W at *;generalize hg:w.heap.size=g at *;have HG:=Lib.hid hg;clear hg
 go_loopw [9] (fun i wr=>∃k:Nat,k≤set.size∧i=.int .i64 k∧Hid (wr.ownsRow g 295 1 (.slice (some ⟨g,0,none⟩) 256 256) 256 (marks (set.data.toList.take k)))∧Hid (Below g w wr)) (fun i _=>set.size-(intOf i).toNat)
 case atStart=>exact ⟨0,Nat.zero_le _,rfl,HO,hb⟩
 case round=>
  obtain ⟨k,hk,rfl,hown,hbr⟩:=hrel;rcases Nat.lt_or_ge k set.size with hlt | hge
  ·have hx:=set[k].toNat_lt;have i1:(set[k].toNat:Int)<256:=by omega
   have hcell:=hown.out.cellAt set[k].toNat (by omega);rw [marks_at] at hcell;have hfz:=hown.out.frozenAt set[k].toNat
   have hst:=hown.out.stored set[k].toNat (.bool true);rw [marks_set,←take_snoc set k hlt] at hst;have HS:=Lib.hid hst;clear hst;go_wp2;go_roundw
   case rel=>exact ⟨k+1,by omega,by go_num,Lib.hid HS.out.1,Lib.hid (hbr.out.setCell (Nat.le_refl _) _)⟩
   case measure=>simp [intOf];omega
  ·obtain rfl:k=set.size:=by omega
   have hown':=hown.out;rw [take_all set _ (Nat.le_refl _)] at hown'
   have HC:=Lib.hid (fun x:UInt8=>(hown'.cellAt x.toNat (by have:=x.toNat_lt;omega)).trans (marks_at _ x));clear hown'
   have hs:=Lib.hid (strip_any 334 #[.pointer (some ⟨g,0,none⟩)] eg (isIn set) s wr HM.out (fun x=>marks_any x g _ wr (HC.out x)));clear eg
   go_wp2_with (go_at_call 219;with_reducible refine hs.out.mono ?_;rintro e w' ⟨rfl,rfl⟩);go_ret;exact ⟨rfl,by rw [HG.out];exact hbr.out⟩
end code
end Go.Proofs.YtnabkcglnbdfeaaGreatDoor.Txt
namespace Go.Proofs.YtnabkcglnbdfeaaGreatDoor.Txt
open Go.RowKit Base Oct
theorem field_info:(Tryz.prog.info? 126).map (fun i=>(i.zero,i.size,i.bytes))=some (some (.agg #[.string ByteArray.empty,.string ByteArray.empty]),2,32):=by kernel_rfl
def room (vs:List ByteArray):Nat:=(vs.map fun v=>v.size+1).sum
theorem partsOf_le (v:ByteArray):(partsOf v).length≤v.size+1:=by unfold partsOf;rw [List.length_map];have:=parts_le 44 v.data.toList;rwa [len] at this
theorem list_le:∀vs:List ByteArray,(list vs).length≤room vs
 | []=>by simp [list,room]
 | v::vs=>by
   have h1:=partsOf_le v;have h2:=list_le vs;simp only [list,room,List.flatMap_cons,List.length_append,List.map_cons,List.sum_cons] at *;omega
theorem room_mem:∀(vs:List ByteArray) (v:ByteArray),v∈vs→v.size+1≤room vs
 | u::vs,v,h=>by
   rw [room,List.map_cons,List.sum_cons];rcases List.mem_cons.1 h with rfl | h
   ·omega
   ·have:=room_mem vs v h;rw [room] at this;omega
theorem len_room:∀vs:List ByteArray,vs.length≤room vs
 | []=>Nat.zero_le _
 | v::vs=>by have:=len_room vs;rw [room] at *;rw [List.map_cons,List.sum_cons,List.length_cons];omega
theorem partsOf_map (x:ByteArray):partsOf x=((parts 44 x.data.toList).map ba).map trim:=by rw [partsOf,List.map_map];rfl
theorem list_take_le (vs:List ByteArray) (k:Nat):(list (vs.take k)).length≤(list vs).length:=by
 conv=>rhs;rw [←List.take_append_drop k vs]
 unfold list;rw [List.flatMap_append,List.length_append];omega
theorem list_snoc (vs:List ByteArray) (k:Nat) (h:k<vs.length):list (vs.take (k+1))=list (vs.take k)++partsOf (vs[k]?.getD ByteArray.empty):=by rw [strs_snoc vs k h];unfold list;simp
section code
set_option maxHeartbeats 1000000
set_option maxRecDepth 10000
theorem split_at (c:UInt8) (s:ByteArray) (w:World) (hs:s.size<4294967281) :
 Calls Tryz.prog 194 #[.string s,.string ⟨#[c]⟩] w fun e w'=>∃n k,e=.returned (.slice (some ⟨w.heap.size,0,none⟩) n k)∧n=(parts c s.data.toList).length∧Strs w' (some ⟨w.heap.size,0,none⟩) n ((parts c s.data.toList).map ba)∧w.heap.size<w'.heap.size∧Below w.heap.size w w':=by
 have hle:=Lib.countB_le ⟨#[c]⟩ (Nat.le_refl 1) s.size s (Nat.le_refl _);have hlen:=Lib.splitB_all ⟨#[c]⟩ (Nat.le_refl 1) 0 _ s rfl
 have ct:=Any.strings_genSplit_core Tryz.lays221 text_info s ⟨#[c]⟩ 0 (-1) (Lib.countB s ⟨#[c]⟩+1) w hs (Nat.le_refl 1) (Nat.zero_le _)
  (fun x cs hx=>(Tryz.strings_Index_one x c _).mono fun e w' ⟨he,hw⟩=>⟨by rw [he];congr 2;exact (Lib.index_one _ _).symm,hw⟩)
  ((Tryz.strings_Count_one s c w).mono fun e w' ⟨he,hw⟩=>⟨by rw [he];congr 3;exact (Lib.count_one _ _).symm,hw⟩)
  (by decide) (by decide) (by rw [if_pos (by decide)];omega)
 rw [Nat.add_sub_cancel,hlen] at ct;have e2:Lib.cellsOf (Lib.splitB ⟨#[c]⟩ 0 (Lib.countB s ⟨#[c]⟩) s) (Lib.countB s ⟨#[c]⟩+1)=((Lib.splitB ⟨#[c]⟩ 0 (Lib.countB s ⟨#[c]⟩) s).map Value.string).toArray:=by rw [←hlen];exact Lib.cellsOf_full _
 rw [e2,splitB_parts c _ s rfl,countB_parts] at ct
 have HC:=Lib.hid ((show Calls Tryz.prog 218 #[.string s,.string ⟨#[c]⟩,.int .i64 0,.int .i64 (-1)] w _ from ct).mono (R':=fun e w'=>∃n k,e=.returned (.slice (some ⟨w.heap.size,0,none⟩) n k)∧n=(parts c s.data.toList).length∧Strs w' (some ⟨w.heap.size,0,none⟩) n ((parts c s.data.toList).map ba)∧w.heap.size<w'.heap.size∧Below w.heap.size w w') (by rintro e w' ⟨rfl,rfl⟩;exact ⟨_,_,rfl,rfl,Strs.made w _ rfl _ _ _ (by rw [List.length_map]),by simp,(Below.refl _ _).alloc (Nat.le_refl _) _⟩))
 clear ct e2 hle hlen;go_enter Tryz.func194,Tryz.ntmps194
 go_wp2_with (go_at_call 218;with_reducible refine HC.out.mono ?_;rintro e w' ⟨n,k,rfl,rfl,hS,hg,hb⟩);go_ret;exact ⟨_,_,rfl,rfl,hS,hg,hb⟩
theorem split_any (s:ByteArray) (w:World) (hs:s.size<4294967281) :
 Calls Tryz.prog 194 #[.string s,.string ⟨#[44]⟩] w fun e w'=>∃n c,e=.returned (.slice (some ⟨w.heap.size,0,none⟩) n c)∧n=(parts 44 s.data.toList).length∧Strs w' (some ⟨w.heap.size,0,none⟩) n ((parts 44 s.data.toList).map ba)∧w.heap.size<w'.heap.size∧Below w.heap.size w w':=split_at 44 s w hs
theorem list_own (a:Option Addr) (n cap:Nat) (vs:List ByteArray) (w:World) (hv:Strs w a n vs) (hr:room vs≤1000000000) :
 Calls Tryz.prog 166 #[.slice a n cap] w fun e w'=>∃v,e=.returned v∧w'.ownsRow w.heap.size 9 1 v (list vs).length ((list vs).map Value.string)∧Below w.heap.size w w':=by
 have hle:=list_le vs;have hnr:=len_room vs;rw [hv.1] at hnr;have HV:=Lib.hid hv;have HL:=Lib.hid hv.1;clear hv;obtain ⟨i0,hi,hz0,hz1,hz2⟩:=info_parts text_info;have G1:=Lib.hid hi;have G2:=Lib.hid hz0;have G3:=Lib.hid hz1;have G4:=Lib.hid hz2;clear hi hz0 hz1 hz2;go_enter Tryz.func166,Tryz.ntmps166;go_wp2
 go_loopw [3,10] (fun v i wr=>∃k:Nat,k≤n∧i=.int .i64 k∧Hid (wr.ownsRow w.heap.size 9 1 v (list (vs.take k)).length ((list (vs.take k)).map Value.string))∧Hid (Below w.heap.size w wr)) (fun _ i _=>n-(intOf i).toNat)
 case atStart=>exact ⟨0,Nat.zero_le _,rfl,Lib.hid ⟨rfl,.inl ⟨rfl,rfl⟩⟩,Lib.hid (Below.refl _ _)⟩
 case round=>
  obtain ⟨k,hk,rfl,hown,hbr⟩:=hrel;rcases Nat.lt_or_ge k n with hlt | hge
  ·obtain ⟨bl,off,rfl,_,hc⟩:=(HV.out.below hbr.out).2 (by omega);have hck:=hc k hlt
   have hsn:=Lib.hid (list_snoc vs k (by rw [HL.out];exact hlt))
   have hle1:=list_take_le vs (k+1);rw [hsn.out,List.length_append] at hle1;have hsz:(vs[k]?.getD ByteArray.empty).size<4294967281:=by
    have:k<vs.length:=by rw [HL.out];exact hlt
    rw [List.getElem?_eq_getElem this];have h2:(vs[k].size+1)≤room vs:=by exact room_mem vs _ (List.getElem_mem _)
    show vs[k].size < _;omega
   clear hc;generalize vs[k]?.getD ByteArray.empty=x at *
   have HP:=Lib.hid (split_any x wr hsz)
   have hpm:=Lib.hid (partsOf_map x);have hpl:(partsOf x).length=((parts 44 x.data.toList).map ba).length:=by rw [hpm.out,List.length_map]
   have hp0:((parts 44 x.data.toList).map ba).length=(parts 44 x.data.toList).length:=List.length_map _;rw [←hp0] at HP
   have hps:=Lib.hid (show∀y∈(parts 44 x.data.toList).map ba,y.size<4294967281 from fun y hy=>by obtain ⟨l,hl,rfl⟩:=List.mem_map.1 hy;have:=parts_size 44 _ l hl;rw [len] at this;rw [ba_size];omega)
   generalize (parts 44 x.data.toList).map ba=P at *;clear hp0;generalize list (vs.take k)=L at *
   go_wp2_with (go_at_call 194;with_reducible refine HP.out.mono ?_;rintro e w1 ⟨n1,c1,rfl,hn1,hS,hg1,hb1⟩)
   have hB1:=Lib.hid (Base.below_step hbr.out hb1)
   have hown1:=Lib.hid (own_below hown.out hb1);have hS':=Lib.hid hS
   have hne:=Lib.hid (show∀g,u3.ownBlock=some g→g≠wr.heap.size from fun g hg=>by have:=(hown.out.lt g hg).2;omega);generalize wr.heap.size=B at *;clear hS hb1 HP hown hbr
   go_loopw [3,17] (fun v i wq=>∃j:Nat,j≤n1∧i=.int .i64 j∧w1.heap.size≤wq.heap.size∧Hid (wq.ownsRow w.heap.size 9 1 v (L.length+j) ((L++(P.map trim).take j).map Value.string))∧Hid (Below w.heap.size w wq)∧Hid (∀g,v.ownBlock=some g→g≠B)∧Hid (Strs wq (some ⟨B,0,none⟩) n1 P)) (fun _ i _=>n1-(intOf i).toNat)
   case atStart=>exact ⟨0,Nat.zero_le _,rfl,Nat.le_refl _,by rw [List.take_zero,List.append_nil];exact hown1,hB1,hne,hS'⟩
   case round=>
    obtain ⟨j,hj,rfl,hsz,hown,hbq,hne,hSq⟩:=hrel;rcases Nat.lt_or_ge j n1 with hlj | hgj
    ·obtain ⟨bs,os,e,hbs,hc⟩:=hSq.out.2 (by omega);obtain ⟨rfl,rfl⟩:B=bs∧0=os:=by simpa using e
     have hcj:=hc j hlj;rw [Nat.zero_add] at hcj
     have HS1:=Lib.hid (map_snoc trim ByteArray.empty P j (by omega));clear hc e;have hys:(P[j]?.getD ByteArray.empty).size≤maxLen:=by
      have:j<P.length:=by omega
      rw [List.getElem?_eq_getElem this]
      have:=hps.out _ (List.getElem_mem this);show P[j].size≤_;unfold maxLen;omega
     generalize P[j]?.getD ByteArray.empty=y at *
     have HT:=Lib.hid (fun w=>trim_any y w hys);clear hys
     go_wp2_with (first
      |(go_at_call 195;with_reducible refine (HT.out _).mono ?_;rintro e w2 ⟨rfl,hw⟩;rw [hw];clear hw)
      |(at_builtin;(refine wpList_append_own_at _ rfl _ _ 87 rfl w.heap.size 9 i0 (.string ByteArray.empty) 1 16 Tryz.underlying87 G1.out G2.out G3.out G4.out rfl (by decide) _ _ _ rfl (hown.out.alloc _) ⟨wr.heap.size,0,none⟩ 1 1 [.string (trim y)] rfl rfl ?c1 ?c2 ?c3 ?c4 ?c5 ?_)))
     case c1=>exact news_one wr _ _
     case c2=>intro u hu;obtain rfl:u=.string (trim y):=by simpa using hu
              rfl
     case c3=>unfold maxLen;omega
     case c4=>omega
     case c5=>have:=hbq.out.size;simp;omega
     intro v' w' hown' hgr _ hloc;have hown2:w'.ownsRow w.heap.size 9 1 v' (L.length+(j+1)) ((L++(P.map trim).take (j+1)).map Value.string):=by rw [HS1.out];simpa [List.append_assoc,Nat.add_assoc] using hown'
     have H2:=Lib.hid hown2
     have H3:=Lib.hid ((hbq.out.alloc hbq.out.size _).grown hgr (by have:=hbq.out.size;simp;omega) (own_base hown.out))
     have H4:=Lib.hid ((hSq.out.below ((Below.refl _ _).alloc (Nat.le_refl _) _)).grown hgr (fun e=>hne.out _ e rfl))
     have H5:=Lib.hid (show∀g,v'.ownBlock=some g→g≠B from fun g hg=>by
      rcases hloc with h | h
      ·exact hne.out g (h ▸ hg)
      ·rw [h] at hg;cases hg;simp;omega)
     have H6:w1.heap.size≤w'.heap.size:=by have:=hgr.size;simp at this;omega
     clear hown' hgr hown2 hloc;go_wp2;go_roundw
     case rel=>exact ⟨j+1,by omega,by go_num,H6,H2,H3,H5,H4⟩
     case measure=>simp [intOf];omega
    ·obtain rfl:j=n1:=by omega
     have hown2:=hown.out;rw [List.take_of_length_le (by rw [List.length_map];omega),←hpm.out] at hown2
     have H2:Hid (wr.ownsRow w.heap.size 9 1 u3 (L++partsOf x).length ((L++partsOf x).map Value.string)):=Lib.hid (by rw [List.length_append,hpl];rw [hn1] at hown2;exact hown2);rw [←hsn.out] at H2;clear hown hown2;go_wp2;go_roundw
     case rel=>exact ⟨k+1,by omega,by go_num,H2,hbq⟩
     case measure=>simp [intOf];omega
  ·obtain rfl:k=n:=by omega
   have hown1:=hown.out;rw [List.take_of_length_le (by rw [HL.out];omega)] at hown1;have H1:=Lib.hid hown1;clear hown1 hown;go_wp2;go_ret;exact ⟨_,rfl,H1.out,hbr.out⟩
theorem list_any (a:Option Addr) (n cap:Nat) (vs:List ByteArray) (w:World) (hv:Strs w a n vs) (hr:room vs≤1000000000) :
 Calls Tryz.prog 166 #[.slice a n cap] w fun e w'=>∃b m c,e=.returned (.slice b m c)∧m=(list vs).length∧Strs w' b m (list vs)∧Below w.heap.size w w':=
 (list_own a n cap vs w hv hr).mono (by
   rintro e w' ⟨v,rfl,ho,hb⟩;obtain ⟨A,c,rfl,hA⟩:=Strs.of_own ho;exact ⟨A,_,c,rfl,rfl,hA,hb⟩)
end code
end Go.Proofs.YtnabkcglnbdfeaaGreatDoor.Txt
namespace Go.Proofs.YtnabkcglnbdfeaaGreatDoor.Txt
open Go.RowKit Base Oct
theorem ba_beq (a b:ByteArray):(a.toList==b.toList)=decide (a=b):=by rw [Lib.toList_data,Lib.toList_data,Bool.eq_iff_iff,beq_iff_eq,decide_eq_true_eq];exact ⟨ba_ext,fun h=>by rw [h]⟩
theorem toList_iff (a b:ByteArray):a.toList=b.toList↔a=b:=by rw [Lib.toList_data,Lib.toList_data];exact ⟨ba_ext,fun h=>by rw [h]⟩
theorem take_eq_snoc {α:Type} (d:α) (xs ys:List α) (k:Nat) (hx:k<xs.length) (hy:k<ys.length) (h:xs.take k=ys.take k) (e:xs[k]?.getD d=ys[k]?.getD d):xs.take (k+1)=ys.take (k+1):=by
 rw [List.take_succ_eq_append_getElem hx,List.take_succ_eq_append_getElem hy,h];rw [List.getElem?_eq_getElem hx,List.getElem?_eq_getElem hy] at e
 congr 2
theorem ne_of_at {α:Type} (d:α) (xs ys:List α) (k:Nat) (e:¬xs[k]?.getD d=ys[k]?.getD d):xs≠ys:=fun h=>e (by rw [h])
theorem neq_field (x y:Fld) (w:World):(binOp .neq 126 (.agg #[.string x.1,.string x.2]) (.agg #[.string y.1,.string y.2])).run Tryz.prog w=.ok (.bool (!decide (x=y))) w:=by
 have u9:=Tryz.underlying9;have a9:=Tryz.isAgg9;have z9:=Tryz.sizeOf9;have hS:Tryz.prog.underlying 126=some (.struct (Tryz.prog.fieldsOf 126)):=by kernel_rfl
 have hp:Tryz.prog.stoodInHeld 126=false:=by kernel_rfl
 obtain ⟨x1,x2⟩:=x;obtain ⟨y1,y2⟩:=y;rw [run_neq_struct,show (10000:Nat)=9999+1 from rfl,run_equalIn_agg w 9999 126 _ _ hS hp];simp only [Program.fieldsOf,Tryz.underlying126];go_simp;by_cases h1:x1=y1<;>by_cases h2:x2=y2<;>simp [h1,h2,toList_iff]
theorem guard_field (op:BinOp) (a b:Operand) (x y:Fld) (w:World):(eqGuard op 126 a b (.agg #[.string x.1,.string x.2]) (.agg #[.string y.1,.string y.2])).run Tryz.prog w=.ok () w:=
 run_eqGuard_agg w op 126 a b _ _ (by kernel_rfl)
section code
set_option maxHeartbeats 1000000
theorem equal_any (a:Option Addr) (n cap:Nat) (xs:List Fld) (b:Option Addr) (m cap2:Nat) (ys:List Fld) (w:World) (hx:Flds w a n xs) (hy:Flds w b m ys) (hn:n≤1000000000) (hm:m≤1000000000) :
 Calls Tryz.prog 204 #[.slice a n cap,.slice b m cap2] w fun e w'=>e=.returned (.bool (decide (xs=ys)))∧∃q,w'=w.drewN q:=by
 have HX:=Lib.hid hx;have HY:=Lib.hid hy;have HLX:=Lib.hid hx.1;have HLY:=Lib.hid hy.1;clear hx hy;by_cases hl:n=m
 ·subst hl;go_enter Tryz.func204,Tryz.ntmps204;go_wp2
  go_loopw [13] (fun i wr=>∃k q:Nat,k≤n∧i=.int .i64 k∧wr=w.drewN q∧Hid (xs.take k=ys.take k)) (fun i _=>n-(intOf i).toNat)
  case atStart=>exact ⟨0,0,Nat.zero_le _,rfl,rfl,Lib.hid rfl⟩
  case round=>
   obtain ⟨k,q,hk,rfl,rfl,hsm⟩:=hrel;rcases Nat.lt_or_ge k n with hlt | hge
   ·obtain ⟨b1,o1,rfl,_,hc⟩:=HX.out.2 (by omega);obtain ⟨hc0,hc1⟩:=hc k hlt;clear hc
    obtain ⟨b2,o2,rfl,_,hd⟩:=HY.out.2 (by omega);obtain ⟨hd0,hd1⟩:=hd k hlt;clear hd;have i1:(k:Int)<(n:Int):=by omega
    have hnq:=neq_field (xs[k]?.getD dflt) (ys[k]?.getD dflt)
    have hgd:=fun op a b=>guard_field op a b (xs[k]?.getD dflt) (ys[k]?.getD dflt);by_cases he:xs[k]?.getD dflt=ys[k]?.getD dflt
    ·have hT:=Lib.hid (take_eq_snoc dflt xs ys k (by rw [HLX.out];exact hlt) (by rw [HLY.out];exact hlt) hsm.out he);rw [he,decide_eq_true rfl] at hnq;rw [he] at hgd hc0 hc1;clear he;generalize (ys[k]?.getD dflt)=y at *;go_wp2_with fail
     go_quiet (fail);rename_i nq;go_wp2;go_roundw
     case rel=>first | exact ⟨k+1,q+nq,by omega,by go_num,(World.drewN_drewN _ _ _).symm ▸ rfl,hT⟩ | exact ⟨k+1,q+nq,by omega,by go_num,by rw [World.drewN_drewN],hT⟩ | exact ⟨k+1,q+nq,by omega,by go_num,rfl,hT⟩
     case measure=>simp [intOf];omega
    ·rw [decide_eq_false he] at hnq
     have hF:=Lib.hid (ne_of_at dflt xs ys k he);clear he;generalize (xs[k]?.getD dflt)=x at *;generalize (ys[k]?.getD dflt)=y at *;go_wp2_with fail
     go_quiet (fail);rename_i nq;go_wp2;go_ret;refine ⟨by rw [decide_eq_false hF.out];rfl,q+nq,?_⟩;first | rfl | rw [World.drewN_drewN]
   ·obtain rfl:k=n:=by omega
    go_wp2;go_ret;have e:=hsm.out;rw [List.take_of_length_le (by rw [HLX.out];exact Nat.le_refl _),List.take_of_length_le (by rw [HLY.out];exact Nat.le_refl _)] at e;refine ⟨by rw [decide_eq_true e];rfl,q,rfl⟩
 ·have hne:xs≠ys:=fun h=>hl (by rw [←HLX.out,←HLY.out,h]);have hl':¬(n:Int)=(m:Int):=by omega
  have HN:=Lib.hid hne;clear hne;go_enter Tryz.func204,Tryz.ntmps204;go_wp2;go_ret;exact ⟨by rw [decide_eq_false HN.out];rfl,0,rfl⟩
theorem rfields_any (a:Option Addr) (n cap:Nat) (xs:List Fld) (b:Option Addr) (m cap2:Nat) (ys:List Fld) (w:World) (hx:Flds w a n xs) (hy:Flds w b m ys) (hn:n≤1000000000) (hm:m≤1000000000) :
 Calls Tryz.prog 61 #[.slice a n cap,.slice b m cap2] w fun e w'=>e=.returned (.bool (decide (xs=ys)))∧∃q,w'=w.drewN q:=by
 have HX:=Lib.hid hx;have HY:=Lib.hid hy;have HLX:=Lib.hid hx.1;have HLY:=Lib.hid hy.1;clear hx hy;by_cases hl:n=m
 ·subst hl;go_enter Tryz.func61,Tryz.ntmps61;go_wp2
  go_loopw [5] (fun i wr=>∃k q:Nat,k≤n∧i=.int .i64 k∧wr=w.drewN q∧Hid (xs.take k=ys.take k)) (fun i _=>n-(intOf i).toNat)
  case atStart=>exact ⟨0,0,Nat.zero_le _,rfl,rfl,Lib.hid rfl⟩
  case round=>
   obtain ⟨k,q,hk,rfl,rfl,hsm⟩:=hrel;rcases Nat.lt_or_ge k n with hlt | hge
   ·obtain ⟨b1,o1,rfl,_,hc⟩:=HX.out.2 (by omega);obtain ⟨hc0,hc1⟩:=hc k hlt;clear hc
    obtain ⟨b2,o2,rfl,_,hd⟩:=HY.out.2 (by omega);obtain ⟨hd0,hd1⟩:=hd k hlt;clear hd;have i1:(k:Int)<(n:Int):=by omega
    have hnq:=neq_field (xs[k]?.getD dflt) (ys[k]?.getD dflt)
    have hgd:=fun op a b=>guard_field op a b (xs[k]?.getD dflt) (ys[k]?.getD dflt);by_cases he:xs[k]?.getD dflt=ys[k]?.getD dflt
    ·have hT:=Lib.hid (take_eq_snoc dflt xs ys k (by rw [HLX.out];exact hlt) (by rw [HLY.out];exact hlt) hsm.out he);rw [he,decide_eq_true rfl] at hnq;rw [he] at hgd hc0 hc1;clear he;generalize (ys[k]?.getD dflt)=y at *;go_wp2_with fail
     go_quiet (fail);rename_i nq;go_wp2;go_roundw
     case rel=>first | exact ⟨k+1,q+nq,by omega,by go_num,(World.drewN_drewN _ _ _).symm ▸ rfl,hT⟩ | exact ⟨k+1,q+nq,by omega,by go_num,by rw [World.drewN_drewN],hT⟩ | exact ⟨k+1,q+nq,by omega,by go_num,rfl,hT⟩
     case measure=>simp [intOf];omega
    ·rw [decide_eq_false he] at hnq
     have hF:=Lib.hid (ne_of_at dflt xs ys k he);clear he;generalize (xs[k]?.getD dflt)=x at *;generalize (ys[k]?.getD dflt)=y at *;go_wp2_with fail
     go_quiet (fail);rename_i nq;go_wp2;go_ret;refine ⟨by rw [decide_eq_false hF.out];rfl,q+nq,?_⟩;first | rfl | rw [World.drewN_drewN]
   ·obtain rfl:k=n:=by omega
    go_wp2;go_ret;have e:=hsm.out;rw [List.take_of_length_le (by rw [HLX.out];exact Nat.le_refl _),List.take_of_length_le (by rw [HLY.out];exact Nat.le_refl _)] at e;refine ⟨by rw [decide_eq_true e];rfl,q,rfl⟩
 ·have hne:xs≠ys:=fun h=>hl (by rw [←HLX.out,←HLY.out,h]);have hl':¬(n:Int)=(m:Int):=by omega
  have HN:=Lib.hid hne;clear hne;go_enter Tryz.func61,Tryz.ntmps61;go_wp2;go_ret;exact ⟨by rw [decide_eq_false HN.out];rfl,0,rfl⟩
theorem fields_any (a:Option Addr) (n cap:Nat) (xs:List Fld) (b:Option Addr) (m cap2:Nat) (ys:List Fld) (w:World) (hx:Flds w a n xs) (hy:Flds w b m ys) (hn:n≤1000000000) (hm:m≤1000000000) :
 Calls Tryz.prog 181 #[.slice a n cap,.slice b m cap2] w fun e w'=>e=.returned (.bool (decide (xs=ys)))∧∃q,w'=w.drewN q:=by
 have h:=Lib.hid (equal_any a n cap xs b m cap2 ys w hx hy hn hm);clear hx hy;generalize decide (xs=ys)=r at *;go_enter Tryz.func181,Tryz.ntmps181
 go_wp2_with (go_at_call 204;with_reducible refine h.out.mono ?_;rintro e w2 ⟨rfl,q,rfl⟩);go_ret;exact ⟨rfl,q,rfl⟩
end code
end Go.Proofs.YtnabkcglnbdfeaaGreatDoor.Txt
