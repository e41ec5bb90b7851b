import Derived.Test.YtnabkcglnbdfeaaGreatDoorFee
namespace Go.Proofs.YtnabkcglnbdfeaaGreatDoor.Qk
open Go.RowKit Base
section code
set_option maxHeartbeats 1000000
attribute [local go_sem] Base.some_undef
end code
end Go.Proofs.YtnabkcglnbdfeaaGreatDoor.Qk
namespace Go.Proofs.YtnabkcglnbdfeaaGreatDoor.Seat
open Go.RowKit Base Qk
def seatP (a k:Nat):Nat:=
 if k%4=0 then ofL [((k/4%30:Nat):Int)] else if k%4=1 then ofL [((k/4%30:Nat):Int),((a%30:Nat):Int)]
 else if k%4=2 then a%1073741824 &&& (a%1073741824)/128 &&& (a%1073741824)/8192 else a%1073741824
theorem mask30 (a:Nat) (ha:a<4294967296):bits .and .u32 (a:Int) 1073741823=((a%1073741824:Nat):Int):=by
 rw [show (1073741823:Int)=((1073741823:Nat):Int) from rfl,u32_and_nat a _ ha (by decide)]
 exact congrArg _ (Nat.and_two_pow_sub_one_eq_mod a 30)
def seatB (k:Nat):Value:=
 Bnd.bnd (if k%6=1 then 64 else if k%6=3 then 80 else 1024) (if k%6=1 then 4 else 32) (if k%6=1 then 256 else 8192) (if k%6=2 then 16 else if k%6=3 then 40 else 65536)
  (if k%6=2 then 0 else 32) (if k%6=2 then 0 else 8) ((k/32%4:Nat)+1:Int) 20 (!decide (k%8=7)) (!decide (12<k%16))
section code
set_option maxHeartbeats 1000000
end code
end Go.Proofs.YtnabkcglnbdfeaaGreatDoor.Seat
namespace Go.Proofs.YtnabkcglnbdfeaaGreatDoor.Fd
open Go.RowKit Base Txt Tgt
structure Cl where
 sp:Bool
 nb:Bool
 nc:Bool
 nn:Bool
 vb:Bool
def clOf (p:Nat):Cl:=⟨Qk.has p 9,Qk.has p 10,Qk.has p 11,Qk.has p 12,Qk.has p 14⟩
def c0:Cl:=⟨false,false,false,false,false⟩
theorem clOf_zero:clOf 0=c0:=by simp only [clOf,c0,Cl.mk.injEq];decide
def trimEnd (l:List UInt8):List UInt8:=(l.reverse.dropWhile Txt.blank).reverse
abbrev Ans:=Option (Option (List UInt8 × List UInt8))
def out (b:Bool):Ans:=if b=true then some none else none
def nameL (c:Cl) (n:List UInt8):List UInt8:=if c.sp=true then trimEnd n else n
def goodN (c:Cl) (n:List UInt8):Bool:=c.nb||Oct.allOf [1] n
def goodV (c:Cl) (v:List UInt8):Bool:=c.vb||Oct.allOf [6] v
def read (c:Cl) (n v:List UInt8):Ans:=if n= [] then out c.nn else if (goodN c n&&goodV c v)=true then some (some (n,v)) else none
def parse (c:Cl) (l:List UInt8):Ans:=if (cutAt 58 l).2.2=true then read c (nameL c (cutAt 58 l).1) (trimL Txt.blank (cutAt 58 l).2.1) else out c.nc
def goes (p:Nat) (l:List UInt8):Bool:=Qk.has p 13&&(!l.isEmpty&&Txt.blank (l.headD 0))
def right (n v:List UInt8):Bool:=!n.isEmpty&&(Oct.allOf [1] n&&(Oct.allOf [6] v&&decide (trimL Txt.blank v=v)))
def line (f:Fld):List UInt8:=f.1.data.toList++58::32::(f.2.data.toList ++ [13,10])
def put (fs:List Fld):List UInt8:=fs.flatMap line
theorem put_append (a b:List Fld):put (a++b)=put a++put b:=by simp [put]
theorem put_one (f:Fld):put [f]=line f:=by simp [put]
theorem put_snoc (fs:List Fld) (k:Nat) (h:k<fs.length):put (fs.take (k+1))=put (fs.take k)++line (fs[k]?.getD dflt):=by rw [flds_snoc fs k h,put_append,put_one]
theorem line_length (f:Fld):(line f).length=f.1.size+f.2.size+4:=by simp [line];omega
theorem trimEnd_le (l:List UInt8):(trimEnd l).length≤l.length:=by unfold trimEnd;have:=dropWhile_le Txt.blank l.reverse;simpa using this
theorem nameL_le (c:Cl) (l:List UInt8):(nameL c l).length≤l.length:=by
 unfold nameL;split
 ·exact trimEnd_le l
 ·exact Nat.le_refl _
theorem trimEnd_snoc (l:List UInt8) (x:UInt8) (h:Txt.blank x=true):trimEnd (l ++ [x])=trimEnd l:=by unfold trimEnd;rw [List.reverse_append,List.reverse_singleton,List.singleton_append,List.dropWhile_cons,if_pos h]
theorem trimEnd_stop (l:List UInt8) (x:UInt8) (h:Txt.blank x=false):trimEnd (l ++ [x])=l ++ [x]:=by unfold trimEnd;rw [List.reverse_append,List.reverse_singleton,List.singleton_append,dropWhile_stop h];simp
theorem trimL_cons (l:List UInt8) (x:UInt8) (h:Txt.blank x=true):trimL Txt.blank (x::l)=trimL Txt.blank l:=by unfold trimL;rw [List.dropWhile_cons,if_pos h]
theorem token_tab:∀k:Fin 256,Oct.oneOf [1] (k.val:Int)=true→k.val≠58∧k.val≠13∧k.val≠10∧Txt.blank (UInt8.ofNat k.val)=false:=by decide +kernel
theorem token_of {x:UInt8} (h:Oct.oneOf [1] (x.toNat:Int)=true):x≠58∧x≠13∧x≠10∧Txt.blank x=false:=by
 obtain ⟨a,b,c,d⟩:=token_tab ⟨x.toNat,x.toNat_lt⟩ h;refine ⟨?_,?_,?_,by simpa using d⟩
 ·rintro rfl;exact a rfl
 ·rintro rfl;exact b rfl
 ·rintro rfl;exact c rfl
theorem all_of {ks:List Int} {l:List UInt8} (h:Oct.allOf ks l=true):∀x∈l,Oct.oneOf ks (x.toNat:Int)=true:=by simpa [Oct.allOf,List.all_eq_true] using h
theorem no_colon {n:List UInt8} (h:Oct.allOf [1] n=true):(58:UInt8)∉n:=fun hm=>(token_of (all_of h _ hm)).1 rfl
theorem trimEnd_token {n:List UInt8} (h:Oct.allOf [1] n=true):trimEnd n=n:=by
 rcases List.eq_nil_or_concat n with rfl | ⟨m,x,rfl⟩
 ·rfl
 ·rw [List.concat_eq_append] at *;exact trimEnd_stop m x (token_of (all_of h x (by simp))).2.2.2
theorem nameL_token (c:Cl) {n:List UInt8} (h:Oct.allOf [1] n=true):nameL c n=n:=by
 unfold nameL;split
 ·exact trimEnd_token h
 ·rfl
theorem right_iff {n v:List UInt8}:right n v=true↔n≠ []∧Oct.allOf [1] n=true∧Oct.allOf [6] v=true∧trimL Txt.blank v=v:=by cases n<;>simp [right]
theorem parse_strict {l n v:List UInt8} (h:parse c0 l=some (some (n,v))):(cutAt 58 l).2.2=true∧(cutAt 58 l).1=n∧trimL Txt.blank (cutAt 58 l).2.1=v∧n≠ []∧Oct.allOf [1] n=true∧Oct.allOf [6] v=true:=by
 unfold parse at h;split at h
 ·rename_i h1;rw [show nameL c0 (cutAt 58 l).1=(cutAt 58 l).1 from rfl] at h;unfold read at h;split at h
  ·exact absurd h (by simp [out,c0])
  ·rename_i h2;split at h
   ·rename_i h3;obtain ⟨rfl,rfl⟩:(cutAt 58 l).1=n∧trimL Txt.blank (cutAt 58 l).2.1=v:=by simpa using h
    have h4:Oct.allOf [1] (cutAt 58 l).1=true∧Oct.allOf [6] (trimL Txt.blank (cutAt 58 l).2.1)=true:=by simpa [goodN,goodV,c0] using h3
    exact ⟨h1,rfl,rfl,h2,h4.1,h4.2⟩
   ·exact absurd h (by simp)
 ·exact absurd h (by simp [out,c0])
theorem parse_zero (l:List UInt8):parse c0 l=none∨∃n v,parse c0 l=some (some (n,v)):=by
 rcases h:parse c0 l with _ | _ | ⟨n,v⟩
 ·exact .inl rfl
 ·exfalso;unfold parse at h;split at h
  ·unfold read at h;split at h
   ·simp [out,c0] at h
   ·split at h<;>simp at h
  ·simp [out,c0] at h
 ·exact .inr ⟨n,v,rfl⟩
theorem dropWhile_head (p:UInt8→Bool):∀l:List UInt8,l.dropWhile p= []∨∃x r,l.dropWhile p=x::r∧p x=false
 | []=>.inl rfl
 | x::l=>by
   rw [List.dropWhile_cons];split
   ·exact dropWhile_head p l
   ·rename_i hx;exact .inr ⟨x,l,rfl,by simpa using hx⟩
theorem dropWhile_idem (p:UInt8→Bool) (l:List UInt8):(l.dropWhile p).dropWhile p=l.dropWhile p:=by
 rcases dropWhile_head p l with h | ⟨x,r,h,hx⟩
 ·rw [h];rfl
 ·rw [h,dropWhile_stop hx]
theorem trimL_ahead (p:UInt8→Bool) (l:List UInt8):(trimL p l).dropWhile p=trimL p l:=by
 have key:∀m:List UInt8,m.dropWhile p=m→((m.reverse.dropWhile p).reverse).dropWhile p=(m.reverse.dropWhile p).reverse:=by
  intro m hm;rcases dropWhile_head p m.reverse with h | ⟨x,r,h,hx⟩
  ·rw [h];rfl
  ·cases m with
   | nil=>simp at h
   | cons y t=>
     have hy:p y=false:=by
      by_cases hp:p y=true
      ·exfalso;rw [List.dropWhile_cons,if_pos hp] at hm;have h1:=dropWhile_le p t;rw [hm] at h1;simp at h1;omega
      ·simpa using hp
     have hs:(x::r) <:+(y::t).reverse:=by rw [←h];exact List.dropWhile_suffix p
     have hpre:(x::r).reverse <+:(y::t):=by have:=List.reverse_prefix.2 hs;simpa using this
     rw [h];obtain ⟨z,hz⟩:=hpre;cases hrev:(x::r).reverse with
     | nil=>simp at hrev
     | cons a b=>
       rw [hrev,List.cons_append] at hz;have:a=y:=by injection hz
       subst this;exact dropWhile_stop hy
 exact key _ (dropWhile_idem p l)
theorem trimL_idem (p:UInt8→Bool) (l:List UInt8):trimL p (trimL p l)=trimL p l:=by show (((trimL p l).dropWhile p).reverse.dropWhile p).reverse=trimL p l;rw [trimL_ahead];unfold trimL;rw [List.reverse_reverse,dropWhile_idem]
theorem parse_all {l n v:List UInt8} (h:parse c0 l=some (some (n,v))):(∀c,parse c l=some (some (n,v)))∧right n v=true:=by
 obtain ⟨h1,h2,h3,h4,h5,h6⟩:=parse_strict h;refine ⟨fun c=>?_,?_⟩
 ·unfold parse;rw [if_pos h1,h2,h3,nameL_token c h5];unfold read;rw [if_neg h4,if_pos (by simp [goodN,goodV,h5,h6])]
 ·rw [right_iff];exact ⟨h4,h5,h6,by rw [←h3];exact trimL_idem _ _⟩
theorem parse_of {n v x:List UInt8} (c:Cl) (hr:right n v=true) (hx:trimL Txt.blank x=v):parse c (n++58::x)=some (some (n,v)):=by obtain ⟨h1,h2,h3,h4⟩:=right_iff.1 hr;unfold parse;rw [cutAt_app 58 n x (no_colon h2)];simp only [if_true];rw [hx,nameL_token c h2];unfold read;rw [if_neg h1,if_pos (by simp [goodN,goodV,h2,h3])]
theorem parse_line (c:Cl) {n v:List UInt8} (hr:right n v=true):parse c (n++58::32::v)=some (some (n,v)):=by refine parse_of c hr ?_;rw [trimL_cons _ _ (by decide)];exact (right_iff.1 hr).2.2.2
theorem parse_le {c:Cl} {l n v:List UInt8} (h:parse c l=some (some (n,v))):n.length≤l.length∧v.length≤l.length:=by
 have hc:=cutAt_le 58 l;unfold parse at h;split at h
 ·unfold read at h;split at h
  ·unfold out at h;split at h<;>simp at h
  ·split at h
   ·obtain ⟨rfl,rfl⟩:nameL c (cutAt 58 l).1=n∧trimL Txt.blank (cutAt 58 l).2.1=v:=by simpa using h
    exact ⟨Nat.le_trans (nameL_le _ _) hc.1,Nat.le_trans (trimL_length _ _) hc.2⟩
   ·simp at h
 ·unfold out at h;split at h<;>simp at h
abbrev E0:ByteArray:=⟨#[]⟩
abbrev fv (n v:ByteArray):Value:=.agg #[.string n,.string v]
def rv:Ans→Value
 | none=>.tuple #[fv E0 E0,.bool false,.int .i64 400]
 | some none=>.tuple #[fv E0 E0,.bool false,.int .i64 0]
 | some (some (n,v))=>.tuple #[fv (ba n) (ba v),.bool true,.int .i64 0]
def rn:Ans→ByteArray
 | some (some (n,_))=>ba n
 | _=>E0
def rvl:Ans→ByteArray
 | some (some (_,v))=>ba v
 | _=>E0
def rok:Ans→Bool
 | some (some _)=>true
 | _=>false
def rerr:Ans→Int
 | none=>400
 | _=>0
theorem rv_form:∀a:Ans,rv a=.tuple #[fv (rn a) (rvl a),.bool (rok a),.int .i64 (rerr a)]
 | none=>rfl
 | some none=>rfl
 | some (some (_,_))=>rfl
end Go.Proofs.YtnabkcglnbdfeaaGreatDoor.Fd
namespace Go.Proofs.YtnabkcglnbdfeaaGreatDoor.Fd
open Go.RowKit Base Txt Tgt
theorem first_no (s:ByteArray) (h:0<s.size):s.toList.isEmpty=false:=by
 have e:s.toList=s.data.toList:=Lib.toList_data s;rw [e,List.isEmpty_eq_false_iff];intro h0;have:s.size=0:=by rw [←len,h0];rfl
 omega
theorem ba_pos {n:List UInt8} (h:n≠ []):0<(ba n).size:=by rw [Txt.ba_size];exact List.length_pos_iff.2 h
structure Fb (w:World) (g:Nat) (n v:ByteArray):Prop where
 c0:w.cell? ⟨g,0,none⟩=some (.string n)
 c1:w.cell? ⟨g,1,none⟩=some (.string v)
 z0:w.frozen? ⟨g,0,none⟩=false
 z1:w.frozen? ⟨g,1,none⟩=false
theorem Fb.below {w w':World} {g:Nat} {n v:ByteArray} (H:Fb w g n v) (hg:g<w.heap.size) (hb:Below w.heap.size w w'):Fb w' g n v:=
 ⟨(hb.cell (p:=⟨g,0,none⟩) hg).trans H.c0,(hb.cell (p:=⟨g,1,none⟩) hg).trans H.c1,(hb.frozen (p:=⟨g,0,none⟩) hg).trans H.z0,(hb.frozen (p:=⟨g,1,none⟩) hg).trans H.z1⟩
theorem Fb.new (w:World) (t:TypeId) (n v:ByteArray):Fb (w.alloc (.cells #[.string n,.string v] t)) w.heap.size n v:=by
 have hh:=heap_alloc_new w (.cells #[.string n,.string v] t);have c:∀k u,(#[Value.string n,.string v]:Array Value)[k]?=some u→(w.alloc (.cells #[.string n,.string v] t)).cell? ⟨w.heap.size,k,none⟩=some u:=
  fun k u e=>(cell_of_row (w.alloc _) w.heap.size k _ t (0,0) hh).trans e
 have z:∀k,(w.alloc (.cells #[.string n,.string v] t)).frozen? ⟨w.heap.size,k,none⟩=false:=fun k=>by unfold World.frozen?;simp only [hh];simp
 exact ⟨c 0 _ rfl,c 1 _ rfl,z 0,z 1⟩
theorem Fb.put {B:Nat} {w0 w:World} {g:Nat} {n v:ByteArray} (H:Fb w g n v) (hb:Below B w0 w) (hg:B≤g) (n' v':ByteArray) :
 ∃W,(w.setCell ⟨g,0,none⟩ (.string n')).setCell ⟨g,1,none⟩ (.string v')=W∧Fb W g n' v'∧Below B w0 W:=by
 obtain ⟨c0,c1,z0,z1⟩:=H;refine ⟨_,rfl,⟨?_,?_,?_,?_⟩,(hb.setCell hg _).setCell hg _⟩;all_goals go_simp
theorem Fb.other {w:World} {g:Nat} {n v:ByteArray} (H:Fb w g n v) (g' o:Nat) (u:Value) (n2:¬g'=g):Fb (w.setCell ⟨g',o,none⟩ u) g n v:=by obtain ⟨c0,c1,z0,z1⟩:=H;refine ⟨?_,?_,?_,?_⟩;all_goals go_simp
structure Keep (w0:World) (n v:ByteArray) (w:World):Prop where
 f:Fb w w0.heap.size n v
 g:w0.heap.size<w.heap.size
 b:Below w0.heap.size w0 w
theorem Keep.new (w:World) (t:TypeId) (n v:ByteArray):Keep w n v (w.alloc (.cells #[.string n,.string v] t)):=
 ⟨Fb.new w t n v,by simp,(Below.refl _ _).alloc (Nat.le_refl _) _⟩
theorem Keep.step {w0 w w':World} {n v:ByteArray} (h:Keep w0 n v w) (hb:Below w.heap.size w w'):Keep w0 n v w':=
 ⟨h.f.below h.g hb,Nat.lt_of_lt_of_le h.g hb.size,Base.below_step h.b hb⟩
theorem Keep.drew {w0 w:World} {n v:ByteArray} (h:Keep w0 n v w) (m:Nat):Keep w0 n v (w.drewN m):=h.step (Base.below_drewN (Below.refl _ _) m)
structure Two (w0:World) (n v:ByteArray) (t:Nat) (N V:ByteArray) (w:World):Prop where
 k:Keep w0 n v w
 f:Fb w t N V
 ne:¬t=w0.heap.size
 lt:t<w.heap.size
 ge:w0.heap.size≤t
theorem Two.new {w0 w:World} {n v:ByteArray} (h:Keep w0 n v w) (ty:TypeId) (N V:ByteArray):Two w0 n v w.heap.size N V (w.alloc (.cells #[.string N,.string V] ty)):=
 ⟨h.step ((Below.refl _ _).alloc (Nat.le_refl _) _),Fb.new w ty N V,by have:=h.g;omega,by simp,by have:=h.g;omega⟩
theorem Two.step {w0 w w':World} {n v N V:ByteArray} {t:Nat} (h:Two w0 n v t N V w) (hb:Below w.heap.size w w'):Two w0 n v t N V w':=
 ⟨h.k.step hb,h.f.below h.lt hb,h.ne,Nat.lt_of_lt_of_le h.lt hb.size,h.ge⟩
theorem Two.drew {w0 w:World} {n v N V:ByteArray} {t:Nat} (h:Two w0 n v t N V w) (m:Nat):Two w0 n v t N V (w.drewN m):=h.step (Base.below_drewN (Below.refl _ _) m)
section code
set_option maxHeartbeats 4000000
set_option maxRecDepth 100000
attribute [local go_sem] Base.some_undef
theorem none_any (p:Nat) (hp:p<4294967296) (c:Int) (w:World):Calls Tryz.prog 275 #[.int .u32 (p:Nat),.int .i64 c] w fun e w'=>e=.returned (rv (out (Qk.has p c)))∧Below w.heap.size w w':=by
 have HH:=Lib.hid (fun w=>Qk.has_any p hp c w);generalize Qk.has p c=b at *;cases b;all_goals
  go_enter Tryz.func275,Tryz.ntmps275
  go_wp2_with (go_at_call 92;with_reducible refine (HH.out _).mono ?_;rintro e w1 ⟨rfl,hw⟩;rw [hw];clear hw)
 ·exact bodyPost_ret (v:=.tuple #[fv E0 E0,.bool false,.int .i64 400]) (by simp [results,Tryz.results275,go_sem]) rfl ⟨rfl,(Below.refl _ _).alloc (Nat.le_refl _) _⟩
 ·exact bodyPost_ret (v:=.tuple #[fv E0 E0,.bool false,.int .i64 0]) (by simp [results,Tryz.results275,go_sem]) rfl ⟨rfl,(Below.refl _ _).alloc (Nat.le_refl _) _⟩
theorem trimEnd_any (s:ByteArray) (w:World) (hs:s.size≤1000000000):Calls Tryz.prog 276 #[.string s] w fun e w'=>e=.returned (.string (ba (trimEnd s.data.toList)))∧w'=w:=by
 obtain ⟨R,hR⟩:∃R,ba (trimEnd s.data.toList)=R:=⟨_,rfl⟩;rw [hR]
 have HQ:=Lib.hid (show R.data.toList=trimEnd s.data.toList by rw [←hR];rfl);clear hR;go_enter Tryz.func276,Tryz.ntmps276;go_wp2
 go_loop [3] (fun i=>∃k:Nat,k≤s.size∧i=.int .i64 k∧Hid (trimEnd (s.data.toList.take k)=trimEnd s.data.toList)) (fun i=>(intOf i).toNat)
 case atStart=>exact ⟨s.size,Nat.le_refl _,rfl,Lib.hid (by rw [take_all s _ (Nat.le_refl _)])⟩
 case round=>
  obtain ⟨k,hk,rfl,HR⟩:=hrel;rcases k with _ | k
  ·have E1:=Lib.hid (show ByteArray.empty=R from ba_ext (by rw [HQ.out,←HR.out];rfl));go_wp2;go_ret;exact ⟨by rw [←E1.out];rfl,rfl⟩
  ·have hlt:k<s.size:=by omega
   have HS:=Lib.hid (take_snoc s k hlt)
   have HB:=Lib.hid (fun w=>Oct.blank_any (s[k].toNat:Int) w);rw [blank_is] at HB;have c1:IntKind.i64.wrap (((k+1:Nat):Int)-1)=(k:Int):=by rw [wrap_in _ (by omega) (by omega)];omega
   have c2:(0:Int)<((k+1:Nat):Int):=by omega
   cases hb:Txt.blank s[k] with
   | false=>
     rw [hb] at HB
     have E1:=Lib.hid (show s.extract 0 (k+1)=R from ba_ext (by rw [HQ.out,←HR.out,HS.out,trimEnd_stop _ _ hb,←HS.out,Lib.extract_data];rfl))
     clear hb
     go_wp2_with (go_at_call 220;with_reducible refine (HB.out _).mono ?_;rintro e w1 ⟨rfl,hw⟩;rw [hw];clear hw);go_ret;exact ⟨by rw [←E1.out];rfl,rfl⟩
   | true=>
     rw [hb] at HB
     have HR':=Lib.hid (show trimEnd (s.data.toList.take k)=trimEnd s.data.toList by rw [←HR.out,HS.out,trimEnd_snoc _ _ hb])
     clear hb HR
     go_wp2_with (go_at_call 220;with_reducible refine (HB.out _).mono ?_;rintro e w1 ⟨rfl,hw⟩;rw [hw];clear hw);go_round
     case rel=>exact ⟨k,by omega,rfl,HR'⟩
     case measure=>simp [intOf]
theorem isName_any (s:ByteArray) (p:Nat) (hp:p<4294967296) (w:World) (hs:s.size≤maxLen):Calls Tryz.prog 277 #[.string s,.int .u32 (p:Nat)] w fun e w'=>e=.returned (.bool (goodN (clOf p) s.data.toList))∧Below w.heap.size w w':=by
 have HH:=Lib.hid (fun w=>Qk.has_any p hp 10 w)
 have HA:=Lib.hid (fun w a (hk:Ints w a 1 [1])=>Oct.all_any s a 1 1 [1] w hs hk (by decide));rw [show goodN (clOf p) s.data.toList=(Qk.has p 10||Oct.allOf [1] s.data.toList) from rfl];generalize Qk.has p 10=b at *;generalize Oct.allOf [1] s.data.toList=r at *;cases b;all_goals
  go_enter Tryz.func277,Tryz.ntmps277
  go_wp2_with (first
   |(go_at_call 92;with_reducible refine (HH.out _).mono ?_;rintro e w1 ⟨rfl,hw⟩;rw [hw];clear hw)
   |(go_at_call 266;with_reducible refine (HA.out _ _ (Ints.one _ _ rfl _ _)).mono ?_;rintro e w1 ⟨rfl,hw⟩;rw [hw];clear hw))
  go_ret
 ·exact ⟨by rfl,(Below.refl _ _).alloc (Nat.le_refl _) _⟩
 ·exact ⟨by rfl,Below.refl _ _⟩
theorem isValue_any (s:ByteArray) (p:Nat) (hp:p<4294967296) (w:World) (hs:s.size≤maxLen):Calls Tryz.prog 278 #[.string s,.int .u32 (p:Nat)] w fun e w'=>e=.returned (.bool (goodV (clOf p) s.data.toList))∧Below w.heap.size w w':=by
 have HH:=Lib.hid (fun w=>Qk.has_any p hp 14 w)
 have HA:=Lib.hid (fun w a (hk:Ints w a 1 [6])=>Oct.all_any s a 1 1 [6] w hs hk (by decide));rw [show goodV (clOf p) s.data.toList=(Qk.has p 14||Oct.allOf [6] s.data.toList) from rfl];generalize Qk.has p 14=b at *;generalize Oct.allOf [6] s.data.toList=r at *;cases b;all_goals
  go_enter Tryz.func278,Tryz.ntmps278
  go_wp2_with (first
   |(go_at_call 92;with_reducible refine (HH.out _).mono ?_;rintro e w1 ⟨rfl,hw⟩;rw [hw];clear hw)
   |(go_at_call 266;with_reducible refine (HA.out _ _ (Ints.one _ _ rfl _ _)).mono ?_;rintro e w1 ⟨rfl,hw⟩;rw [hw];clear hw))
  go_ret
 ·exact ⟨by rfl,(Below.refl _ _).alloc (Nat.le_refl _) _⟩
 ·exact ⟨by rfl,Below.refl _ _⟩
theorem goes_any (s:ByteArray) (p:Nat) (hp:p<4294967296) (w:World):Calls Tryz.prog 248 #[.string s,.int .u32 (p:Nat)] w fun e w'=>e=.returned (.bool (goes p s.data.toList))∧w'=w:=by
 have HH:=Lib.hid (fun w=>Qk.has_any p hp 13 w);unfold goes;generalize Qk.has p 13=b at *;rcases Nat.eq_zero_or_pos s.size with h0 | h0
 ·obtain rfl:s=E0:=ba_ext (List.length_eq_zero_iff.1 (by rw [len];exact h0));cases b;all_goals
   go_enter Tryz.func248,Tryz.ntmps248
   go_wp2_with (go_at_call 92;with_reducible refine (HH.out _).mono ?_;rintro e w1 ⟨rfl,hw⟩;rw [hw];clear hw);go_ret;exact ⟨by rfl,rfl⟩
 ·have t0:=first_no s h0
  have HB:=Lib.hid (fun w=>Oct.blank_any (s[0].toNat:Int) w);rw [blank_is] at HB;have e1:(!s.data.toList.isEmpty&&Txt.blank (s.data.toList.headD 0))=Txt.blank s[0]:=by
   have hl:s.data.toList=s[0]::s.data.toList.drop 1:=by
    have hlen:0<s.data.toList.length:=by rw [len];exact h0
    rw [←List.drop_zero (l:=s.data.toList),List.drop_eq_getElem_cons hlen];rfl
   rw [hl];rfl
  rw [e1];clear e1;cases b;all_goals
   go_enter Tryz.func248,Tryz.ntmps248
   go_wp2_with (first
    |(go_at_call 92;with_reducible refine (HH.out _).mono ?_;rintro e w1 ⟨rfl,hw⟩;rw [hw];clear hw)
    |(go_at_call 220;with_reducible refine (HB.out _).mono ?_;rintro e w1 ⟨rfl,hw⟩;rw [hw];clear hw))
   go_ret;exact ⟨by rfl,rfl⟩
end code
end Go.Proofs.YtnabkcglnbdfeaaGreatDoor.Fd
namespace Go.Proofs.YtnabkcglnbdfeaaGreatDoor.Fd
open Go.RowKit Base Txt Tgt
section code
set_option maxHeartbeats 4000000
set_option maxRecDepth 100000
attribute [local go_sem] Base.some_undef
theorem parse_any (s:ByteArray) (p:Nat) (hp:p<4294967296) (w:World) (hs:s.size≤1000000000):Calls Tryz.prog 250 #[.string s,.int .u32 (p:Nat)] w fun e w'=>e=.returned (rv (parse (clOf p) s.data.toList))∧Below w.heap.size w w':=by
 have HC:=Lib.hid (fun w=>cut_any s 58 w hs);have hle:=cutAt_le 58 s.data.toList;rw [len] at hle;obtain ⟨R,hR⟩:∃R,parse (clOf p) s.data.toList=R:=⟨_,rfl⟩;rw [hR];unfold parse at hR;generalize (cutAt 58 s.data.toList).1=n0 at *;generalize (cutAt 58 s.data.toList).2.1=v0 at *;generalize (cutAt 58 s.data.toList).2.2=ok at *
 have HK0:=Lib.hid (Keep.new w 126 E0 E0);cases ok with
 | false=>
   rw [if_neg (by decide)] at hR
   have HN:=Lib.hid (fun w=>none_any p hp 11 w);rw [show out (Qk.has p 11)=R from hR,rv_form] at HN;rw [rv_form];clear hR hle;generalize rn R=N at *;generalize rvl R=V at *;generalize rok R=O at *;generalize rerr R=Z at *;go_enter Tryz.func250,Tryz.ntmps250
   go_wp2_with (first
    |(go_at_call 274;with_reducible refine (HC.out _).mono ?_;rintro e w1 ⟨rfl,m,hw⟩;rw [hw];clear hw)
    |(go_at_call 275;with_reducible refine (HN.out _).mono ?_;rintro e w2 ⟨rfl,hb⟩
      have HK:=Lib.hid ((HK0.out.drew m).step hb);obtain ⟨⟨c0,c1,z0,z1⟩,hg,hbk⟩:=HK.out;clear hg hbk hb))
   obtain ⟨W,hW,⟨d0,d1,_,_⟩,hbW⟩:=Fb.put HK.out.f HK.out.b (Nat.le_refl _) N V;rw [hW];exact bodyPost_ret (v:=.tuple #[fv N V,.bool O,.int .i64 Z]) (by simp [results,Tryz.results250,go_sem,d0,d1]) rfl ⟨rfl,hbW⟩
 | true=>
   rw [if_pos rfl] at hR
   have HH:=Lib.hid (fun w=>Qk.has_any p hp 9 w)
   have HT:=Lib.hid (fun w=>trimEnd_any (ba n0) w (by rw [Txt.ba_size];omega))
   have HV:=Lib.hid (fun w=>trim_any (ba v0) w (by rw [Txt.ba_size];unfold maxLen;omega));rw [show trim (ba v0)=ba (trimL Txt.blank v0) from rfl] at HV;rw [show (ba n0).data.toList=n0 from rfl] at HT;have hv1:(trimL Txt.blank v0).length≤s.size:=Nat.le_trans (trimL_length _ _) hle.2;have hn1:(nameL (clOf p) n0).length≤s.size:=Nat.le_trans (nameL_le _ _) hle.1;have hnm:(if Qk.has p 9=true then trimEnd n0 else n0)=nameL (clOf p) n0:=rfl;generalize trimL Txt.blank v0=v1 at *;generalize nameL (clOf p) n0=n1 at *
   have HNm:=Lib.hid (fun w=>isName_any (ba n1) p hp w (by rw [Txt.ba_size];unfold maxLen;omega))
   have HVl:=Lib.hid (fun w=>isValue_any (ba v1) p hp w (by rw [Txt.ba_size];unfold maxLen;omega));rw [show (ba n1).data.toList=n1 from rfl] at HNm;rw [show (ba v1).data.toList=v1 from rfl] at HVl;unfold read at hR
   have HN:=Lib.hid (fun w=>none_any p hp 12 w);rw [show Qk.has p 12=(clOf p).nn from rfl] at HN;generalize (clOf p).nn=nn at *;generalize goodN (clOf p) n1=gn at *;generalize goodV (clOf p) v1=gv at *;clear hle hv1 hn1;by_cases hn:n1= []
   ·rw [if_pos hn] at hR;subst hn;rw [hR,rv_form] at HN;rw [rv_form];clear hR HNm HVl HV;generalize rn R=N at *;generalize rvl R=V at *;generalize rok R=O at *;generalize rerr R=Z at *;generalize Qk.has p 9=sp at *;cases sp;all_goals
     first | rw [if_pos rfl] at hnm | rw [if_neg (by decide)] at hnm
     first | subst hnm |(rw [hnm] at HT;clear hnm)
     try rw [show ba []=E0 from rfl] at HT
     try rw [show ba []=E0 from rfl] at HC
     go_enter Tryz.func250,Tryz.ntmps250
     go_wp2_with (first
      |(go_at_call 274;with_reducible refine (HC.out _).mono ?_;rintro e w1 ⟨rfl,m,hw⟩;rw [hw];clear hw)
      |(go_at_call 92;with_reducible refine (HH.out _).mono ?_;rintro e w1 ⟨rfl,hw⟩;rw [hw];clear hw)
      |(go_at_call 276;with_reducible refine (HT.out _).mono ?_;rintro e w1 ⟨rfl,hw⟩;rw [hw];clear hw)
      |(go_at_call 275;with_reducible refine (HN.out _).mono ?_;rintro e w2 ⟨rfl,hb⟩
        have HK:=Lib.hid ((HK0.out.drew m).step hb);obtain ⟨⟨c0,c1,z0,z1⟩,hg,hbk⟩:=HK.out;clear hg hbk hb))
     obtain ⟨W,hW,⟨d0,d1,_,_⟩,hbW⟩:=Fb.put HK.out.f HK.out.b (Nat.le_refl _) N V;rw [hW];exact bodyPost_ret (v:=.tuple #[fv N V,.bool O,.int .i64 Z]) (by simp [results,Tryz.results250,go_sem,d0,d1]) rfl ⟨rfl,hbW⟩
   ·rw [if_neg hn] at hR
    have t0:=first_no (ba n1) (ba_pos hn);have hnm':ba (if Qk.has p 9=true then trimEnd n0 else n0)=ba n1:=congrArg ba hnm;clear HN hn hnm;generalize Qk.has p 9=sp at *;obtain ⟨T,hT⟩:∃T,ba (trimEnd n0)=T:=⟨_,rfl⟩;rw [hT] at HT;generalize hN0:ba n0=N0 at *;generalize ba v0=V0 at *;have hrv:rv R=if (gn&&gv)=true then .tuple #[fv (ba n1) (ba v1),.bool true,.int .i64 0] else .tuple #[fv E0 E0,.bool false,.int .i64 400]:=by rw [←hR];split<;>rfl
    rw [hrv];clear hrv hR;generalize ba n1=N1 at *;generalize ba v1=V1 at *;cases sp;all_goals
     first | rw [if_pos rfl] at hnm' | rw [if_neg (by decide)] at hnm'
     first |(rw [hN0] at hnm';replace hnm':=hnm'.symm;subst hnm') |(rw [hT] at hnm';replace hnm':=hnm'.symm;subst hnm')
     clear hN0 hT;cases gn
     ·rw [if_neg (by simp)];go_enter Tryz.func250,Tryz.ntmps250
      go_wp2_with (first
       |(go_at_call 274;with_reducible refine (HC.out _).mono ?_;rintro e w1 ⟨rfl,m,hw⟩;rw [hw];clear hw)
       |(go_at_call 92;with_reducible refine (HH.out _).mono ?_;rintro e w1 ⟨rfl,hw⟩;rw [hw];clear hw)
       |(go_at_call 276;with_reducible refine (HT.out _).mono ?_;rintro e w1 ⟨rfl,hw⟩;rw [hw];clear hw)
       |(go_at_call 195;with_reducible refine (HV.out _).mono ?_;rintro e w1 ⟨rfl,hw⟩;rw [hw];clear hw)
       |(go_at_call 277;with_reducible refine (HNm.out _).mono ?_;rintro e w2 ⟨rfl,hb⟩
         have HK:=Lib.hid ((HK0.out.drew m).step hb);obtain ⟨⟨c0,c1,z0,z1⟩,hg,hbk⟩:=HK.out;clear hg hbk hb))
      obtain ⟨W,hW,⟨d0,d1,_,_⟩,hbW⟩:=Fb.put HK.out.f HK.out.b (Nat.le_refl _) E0 E0;rw [hW];exact bodyPost_ret (v:=.tuple #[fv E0 E0,.bool false,.int .i64 400]) (by simp [results,Tryz.results250,go_sem,d0,d1]) rfl ⟨rfl,hbW⟩
     ·cases gv
      ·rw [if_neg (by decide)];go_enter Tryz.func250,Tryz.ntmps250
       go_wp2_with (first
        |(go_at_call 274;with_reducible refine (HC.out _).mono ?_;rintro e w1 ⟨rfl,m,hw⟩;rw [hw];clear hw)
        |(go_at_call 92;with_reducible refine (HH.out _).mono ?_;rintro e w1 ⟨rfl,hw⟩;rw [hw];clear hw)
        |(go_at_call 276;with_reducible refine (HT.out _).mono ?_;rintro e w1 ⟨rfl,hw⟩;rw [hw];clear hw)
        |(go_at_call 195;with_reducible refine (HV.out _).mono ?_;rintro e w1 ⟨rfl,hw⟩;rw [hw];clear hw)
        |(go_at_call 277;with_reducible refine (HNm.out _).mono ?_;rintro e w2 ⟨rfl,hb⟩
          have HK:=Lib.hid ((HK0.out.drew m).step hb);clear hb)
        |(go_at_call 278;with_reducible refine (HVl.out _).mono ?_;rintro e w3 ⟨rfl,hb⟩
          replace HK:=Lib.hid (HK.out.step hb)
          obtain ⟨⟨c0,c1,z0,z1⟩,hg,hbk⟩:=HK.out;clear hg hbk hb))
       obtain ⟨W,hW,⟨d0,d1,_,_⟩,hbW⟩:=Fb.put HK.out.f HK.out.b (Nat.le_refl _) E0 E0;rw [hW];exact bodyPost_ret (v:=.tuple #[fv E0 E0,.bool false,.int .i64 400]) (by simp [results,Tryz.results250,go_sem,d0,d1]) rfl ⟨rfl,hbW⟩
      ·rw [if_pos (by decide)];go_enter Tryz.func250,Tryz.ntmps250
       go_wp2_with (first
        |(go_at_call 274;with_reducible refine (HC.out _).mono ?_;rintro e w1 ⟨rfl,m,hw⟩;rw [hw];clear hw)
        |(go_at_call 92;with_reducible refine (HH.out _).mono ?_;rintro e w1 ⟨rfl,hw⟩;rw [hw];clear hw)
        |(go_at_call 276;with_reducible refine (HT.out _).mono ?_;rintro e w1 ⟨rfl,hw⟩;rw [hw];clear hw)
        |(go_at_call 195;with_reducible refine (HV.out _).mono ?_;rintro e w1 ⟨rfl,hw⟩;rw [hw];clear hw)
        |(go_at_call 277;with_reducible refine (HNm.out _).mono ?_;rintro e w2 ⟨rfl,hb⟩
          have HK:=Lib.hid ((HK0.out.drew m).step hb);clear hb)
        |(go_at_call 278;with_reducible refine (HVl.out _).mono ?_;rintro e w3 ⟨rfl,hb⟩
          replace HK:=Lib.hid (HK.out.step hb)
          obtain ⟨⟨c0,c1,z0,z1⟩,hg,hbk⟩:=HK.out;clear hg hbk hb))
       obtain ⟨W,hW,⟨d0,d1,_,_⟩,hbW⟩:=Fb.put HK.out.f HK.out.b (Nat.le_refl _) N1 V1;rw [hW];exact bodyPost_ret (v:=.tuple #[fv N1 V1,.bool true,.int .i64 0]) (by simp [results,Tryz.results250,go_sem,d0,d1]) rfl ⟨rfl,hbW⟩
end code
end Go.Proofs.YtnabkcglnbdfeaaGreatDoor.Fd
namespace Go.Proofs.YtnabkcglnbdfeaaGreatDoor.Fd
open Go.RowKit Base Txt Tgt
def joined (v s:List UInt8):List UInt8:=v++32::trimL Txt.blank s
theorem joined_eq (v s:ByteArray):v++(⟨#[32]⟩++trim s)=ba (joined v.data.toList s.data.toList):=ba_ext (by simp only [joined,ByteArray.data_append,Array.toList_append];rfl)
section code
set_option maxHeartbeats 4000000
set_option maxRecDepth 100000
attribute [local go_sem] Base.some_undef
theorem join_any (n v s:ByteArray) (w:World) (hs:s.size≤1000000000) (hv:v.size≤1000000000):Calls Tryz.prog 249 #[fv n v,.string s] w fun e w'=>e=.returned (fv n (ba (joined v.data.toList s.data.toList)))∧Below w.heap.size w w':=by
 have HT:=Lib.hid (fun w=>trim_any s w (by unfold maxLen;omega));have hT:(trim s).size≤s.size:=trim_size _ _;rw [←joined_eq];generalize trim s=T at *;have v1:¬9223372036854775807<1+T.size:=by omega
 have v2:¬9223372036854775807<v.size+(1+T.size):=by omega
 go_enter Tryz.func249,Tryz.ntmps249;go_wp2_with fail
 go_region_with (go_at_call 195;with_reducible refine (HT.out _).mono ?_;rintro e w1 ⟨rfl,hw⟩;rw [hw];clear hw);all_goals
  go_wp2;exact bodyPost_ret (v:=fv n (v++(⟨#[32]⟩++T))) (by simp [results,Tryz.results249,go_sem]) rfl ⟨rfl,Base.below_drewN (((Below.refl _ _).alloc (Nat.le_refl _) _).alloc (by simp) _) 1⟩
end code
end Go.Proofs.YtnabkcglnbdfeaaGreatDoor.Fd
namespace Go.Proofs.YtnabkcglnbdfeaaGreatDoor.Fd
open Go.RowKit Base Txt Tgt
section code
set_option maxHeartbeats 4000000
set_option maxRecDepth 100000
attribute [local go_sem] Base.some_undef
end code
end Go.Proofs.YtnabkcglnbdfeaaGreatDoor.Fd
namespace Go.Proofs.YtnabkcglnbdfeaaGreatDoor.Txt
open Go.RowKit Base Oct
theorem find_snoc (fs:List Fld) (name:ByteArray) (k:Nat) (h:k<fs.length):find (fs.take (k+1)) name=find (fs.take k) name++(if same (fs[k]?.getD dflt).1 name=true then [(fs[k]?.getD dflt).2] else []):=by
 rw [flds_snoc fs k h];unfold find;rw [List.filter_append,List.map_append]
 congr 1
 generalize fs[k]?.getD dflt=f;by_cases hs:same f.1 name=true<;>simp [hs]
theorem find_le (fs:List Fld) (name:ByteArray):(find fs name).length≤fs.length:=by unfold find;rw [List.length_map];exact List.length_filter_le _ _
section code
set_option maxHeartbeats 1000000
theorem find_any (a:Option Addr) (n cap:Nat) (fs:List Fld) (name:ByteArray) (w:World) (hv:Flds w a n fs) (hn:n≤1000000000) (hs:∀f∈fs,f.1.size≤maxLen) :
 Calls Tryz.prog 102 #[.slice a n cap,.string name] w fun e w'=>∃b m c,e=.returned (.slice b m c)∧m=(find fs name).length∧Strs w' b m (find fs name)∧Below w.heap.size w w':=by
 have HV:=Lib.hid hv;have HL:=Lib.hid hv.1;have HS:=Lib.hid hs;clear hv hs;obtain ⟨i0,hi,hz0,hz1,hz2⟩:=info_parts text_info;have G1:=Lib.hid hi;have G2:=Lib.hid hz0;have G3:=Lib.hid hz1;have G4:=Lib.hid hz2;clear hi hz0 hz1 hz2;go_enter Tryz.func102,Tryz.ntmps102;go_wp2
 go_loopw [5,10] (fun v i wr=>∃k:Nat,k≤n∧i=.int .i64 k∧Hid (wr.ownsRow w.heap.size 9 1 v (find (fs.take k) name).length ((find (fs.take k) name).map Value.string))∧Hid (Below w.heap.size w wr)) (fun _ i _=>n-(intOf i).toNat)
 case atStart=>exact ⟨0,Nat.zero_le _,rfl,Lib.hid ⟨rfl,.inl ⟨rfl,rfl⟩⟩,Lib.hid (Below.refl _ _)⟩
 case round=>
  obtain ⟨k,hk,rfl,hown,hbr⟩:=hrel;rcases Nat.lt_or_ge k n with hlt | hge
  ·obtain ⟨bl,off,rfl,hbl,hc⟩:=(HV.out.below hbr.out).2 (by omega);obtain ⟨hc0,hc1⟩:=hc k hlt
   have hsn:=Lib.hid (find_snoc fs name k (by rw [HL.out];exact hlt));have hfl:=find_le (fs.take k) name;rw [List.length_take] at hfl;have hsz:(fs[k]?.getD dflt).1.size≤maxLen:=by
    have:k<fs.length:=by rw [HL.out];exact hlt
    rw [List.getElem?_eq_getElem this]
    exact HS.out _ (List.getElem_mem _)
   clear hc;generalize fs[k]?.getD dflt=f at *;generalize hL:find (fs.take k) name=L at *;obtain ⟨f0,f1⟩:=f;simp only at hc0 hc1 hsz hsn
   have HC:=Lib.hid (fun w=>same_any f0 name w hsz);clear hsz hL;cases hq:same f0 name with
   | false=>
     rw [hq] at HC hsn;rw [if_neg (by decide),List.append_nil] at hsn;clear hq
     go_wp2_with (go_at_call 148;with_reducible refine (HC.out _).mono ?_;rintro e w2 ⟨rfl,hb2⟩);have hb0:Below wr.heap.size wr w2:=Base.below_step ((Below.refl _ _).alloc (Nat.le_refl _) _) hb2
     have H2:Hid (w2.ownsRow w.heap.size 9 1 u5 (find (fs.take (k+1)) name).length ((find (fs.take (k+1)) name).map Value.string)):=Lib.hid (by rw [hsn.out];exact own_below hown.out hb0)
     have H3:=Lib.hid (Base.below_step hbr.out hb0);clear hown hb2 hb0;go_roundw
     case rel=>exact ⟨k+1,by omega,by go_num,H2,H3⟩
     case measure=>simp [intOf];omega
   | true=>
     rw [hq] at HC hsn;rw [if_pos rfl] at hsn;clear hq
     go_wp2_with (first
      |(go_at_call 148;with_reducible refine (HC.out _).mono ?_;rintro e w2 ⟨rfl,hb2⟩
        have hf1:=(hb2.cell (p:=⟨wr.heap.size,1,none⟩) (by simp)).trans (show _=some (.string f1) by simp)
        have hb0:=Lib.hid (show Below wr.heap.size wr w2 from Base.below_step ((Below.refl _ _).alloc (Nat.le_refl _) _) hb2)
        have hown0:=Lib.hid (own_below hown.out hb0.out))
      |(at_builtin;refine wpList_append_own _ rfl _ _ 87 rfl w.heap.size 9 i0 (.string ByteArray.empty) 1 16 Tryz.underlying87 G1.out G2.out G3.out G4.out rfl (by decide) _ _ _ rfl (hown0.out.alloc _) ⟨w2.heap.size,0,none⟩ 1 1 [.string f1] rfl rfl ?c1 ?c2 ?c3 ?c4 ?c5 ?_))
     case c1=>exact news_one w2 _ _
     case c2=>intro u hu;obtain rfl:u=.string f1:=by simpa using hu
              rfl
     case c3=>unfold maxLen;omega
     case c4=>omega
     case c5=>have:=hbr.out.size;have:=hb0.out.size;simp;omega
     intro v' w' hown' hgr _
     have H2:Hid (w'.ownsRow w.heap.size 9 1 v' (find (fs.take (k+1)) name).length ((find (fs.take (k+1)) name).map Value.string)):=Lib.hid (by rw [hsn.out];simpa using hown')
     have H3:=Lib.hid (((Base.below_step hbr.out hb0.out).alloc (by have:=hbr.out.size;have:=hb0.out.size;omega) _).grown hgr (by have:=hbr.out.size;have:=hb0.out.size;simp;omega) (own_base hown.out));clear hown' hgr hown hown0;go_wp2;go_roundw
     case rel=>exact ⟨k+1,by omega,by go_num,H2,H3⟩
     case measure=>simp [intOf];omega
  ·obtain rfl:k=n:=by omega
   have hown1:=hown.out;rw [List.take_of_length_le (by rw [HL.out];omega)] at hown1;obtain ⟨A,c,rfl,hA⟩:=Strs.of_own hown1;have HA:=Lib.hid hA;clear hown1 hA hown;go_wp2;go_ret;exact ⟨A,_,c,rfl,rfl,HA.out,hbr.out⟩
end code
end Go.Proofs.YtnabkcglnbdfeaaGreatDoor.Txt
