import Derived.Test.YtldhlecknfomjaaGreatDoorCge
namespace Go.Proofs.YtldhlecknfomjaaGreatDoor.Qk
open Go.RowKit Base
section code
set_option maxHeartbeats 1000000
attribute [local go_sem] Base.some_undef
end code
end Go.Proofs.YtldhlecknfomjaaGreatDoor.Qk
namespace Go.Proofs.YtldhlecknfomjaaGreatDoor.Seat
open Go.RowKit Base Qk
def seatP (a k:Nat):Nat:=
 if k%4=0 then ofL [((k/4%30:Nat):Int)] else if k%4=1 then ofL [((k/4%30:Nat):Int),((a%30:Nat):Int)]
 else if k%4=2 then a%1073741824 &&& (a%1073741824)/128 &&& (a%1073741824)/8192 else a%1073741824
def seatB (k:Nat):Value:=
 Bnd.bnd (if k%6=1 then 64 else if k%6=3 then 80 else 1024) (if k%6=1 then 4 else 32) (if k%6=1 then 256 else 8192) (if k%6=2 then 16 else if k%6=3 then 40 else 65536)
  (if k%6=2 then 0 else 32) (if k%6=2 then 0 else 8) ((k/32%4:Nat)+1:Int) 20 (!decide (k%8=7)) (!decide (12<k%16))
section code
set_option maxHeartbeats 1000000
end code
end Go.Proofs.YtldhlecknfomjaaGreatDoor.Seat
namespace Go.Proofs.YtldhlecknfomjaaGreatDoor.Fd
open Go.RowKit Base Txt Tgt
structure Cl where
 sp:Bool
 nb:Bool
 nc:Bool
 nn:Bool
 vb:Bool
def clOf (p:Nat):Cl:=⟨Qk.has p 9,Qk.has p 10,Qk.has p 11,Qk.has p 12,Qk.has p 14⟩
def c0:Cl:=⟨false,false,false,false,false⟩
theorem clOf_zero:clOf 0=c0:=by simp only [clOf,c0,Cl.mk.injEq];decide
def trimEnd (l:List UInt8):List UInt8:=(l.reverse.dropWhile Txt.blank).reverse
abbrev Ans:=Option (Option (List UInt8 × List UInt8))
def out (b:Bool):Ans:=if b=true then some none else none
def nameL (c:Cl) (n:List UInt8):List UInt8:=if c.sp=true then trimEnd n else n
def goodN (c:Cl) (n:List UInt8):Bool:=c.nb||Oct.allOf [1] n
def goodV (c:Cl) (v:List UInt8):Bool:=c.vb||Oct.allOf [6] v
def read (c:Cl) (n v:List UInt8):Ans:=if n= [] then out c.nn else if (goodN c n&&goodV c v)=true then some (some (n,v)) else none
def parse (c:Cl) (l:List UInt8):Ans:=if (cutAt 58 l).2.2=true then read c (nameL c (cutAt 58 l).1) (trimL Txt.blank (cutAt 58 l).2.1) else out c.nc
def goes (p:Nat) (l:List UInt8):Bool:=Qk.has p 13&&(!l.isEmpty&&Txt.blank (l.headD 0))
def right (n v:List UInt8):Bool:=!n.isEmpty&&(Oct.allOf [1] n&&(Oct.allOf [6] v&&decide (trimL Txt.blank v=v)))
def line (f:Fld):List UInt8:=f.1.data.toList++58::32::(f.2.data.toList ++ [13,10])
def put (fs:List Fld):List UInt8:=fs.flatMap line
theorem put_append (a b:List Fld):put (a++b)=put a++put b:=by simp [put]
theorem put_one (f:Fld):put [f]=line f:=by simp [put]
theorem put_snoc (fs:List Fld) (k:Nat) (h:k<fs.length):put (fs.take (k+1))=put (fs.take k)++line (fs[k]?.getD dflt):=by rw [flds_snoc fs k h,put_append,put_one]
theorem line_length (f:Fld):(line f).length=f.1.size+f.2.size+4:=by simp [line];omega
theorem trimEnd_le (l:List UInt8):(trimEnd l).length≤l.length:=by unfold trimEnd;have:=dropWhile_le Txt.blank l.reverse;simpa using this
theorem nameL_le (c:Cl) (l:List UInt8):(nameL c l).length≤l.length:=by
 unfold nameL;split
 ·exact trimEnd_le l
 ·exact Nat.le_refl _
theorem trimEnd_snoc (l:List UInt8) (x:UInt8) (h:Txt.blank x=true):trimEnd (l ++ [x])=trimEnd l:=by unfold trimEnd;rw [List.reverse_append,List.reverse_singleton,List.singleton_append,List.dropWhile_cons,if_pos h]
theorem trimEnd_stop (l:List UInt8) (x:UInt8) (h:Txt.blank x=false):trimEnd (l ++ [x])=l ++ [x]:=by unfold trimEnd;rw [List.reverse_append,List.reverse_singleton,List.singleton_append,dropWhile_stop h];simp
theorem parse_le {c:Cl} {l n v:List UInt8} (h:parse c l=some (some (n,v))):n.length≤l.length∧v.length≤l.length:=by
 have hc:=cutAt_le 58 l;unfold parse at h;split at h
 ·unfold read at h;split at h
  ·unfold out at h;split at h<;>simp at h
  ·split at h
   ·obtain ⟨rfl,rfl⟩:nameL c (cutAt 58 l).1=n∧trimL Txt.blank (cutAt 58 l).2.1=v:=by simpa using h
    exact ⟨Nat.le_trans (nameL_le _ _) hc.1,Nat.le_trans (trimL_length _ _) hc.2⟩
   ·simp at h
 ·unfold out at h;split at h<;>simp at h
abbrev E0:ByteArray:=⟨#[]⟩
abbrev fv (n v:ByteArray):Value:=.agg #[.string n,.string v]
def rv:Ans→Value
 | none=>.tuple #[fv E0 E0,.bool false,.int .i64 400]
 | some none=>.tuple #[fv E0 E0,.bool false,.int .i64 0]
 | some (some (n,v))=>.tuple #[fv (ba n) (ba v),.bool true,.int .i64 0]
def rn:Ans→ByteArray
 | some (some (n,_))=>ba n
 | _=>E0
def rvl:Ans→ByteArray
 | some (some (_,v))=>ba v
 | _=>E0
def rok:Ans→Bool
 | some (some _)=>true
 | _=>false
def rerr:Ans→Int
 | none=>400
 | _=>0
theorem rv_form:∀a:Ans,rv a=.tuple #[fv (rn a) (rvl a),.bool (rok a),.int .i64 (rerr a)]
 | none=>rfl
 | some none=>rfl
 | some (some (_,_))=>rfl
end Go.Proofs.YtldhlecknfomjaaGreatDoor.Fd
namespace Go.Proofs.YtldhlecknfomjaaGreatDoor.Fd
open Go.RowKit Base Txt Tgt
theorem first_no (s:ByteArray) (h:0<s.size):s.toList.isEmpty=false:=by
 have e:s.toList=s.data.toList:=Lib.toList_data s;rw [e,List.isEmpty_eq_false_iff];intro h0;have:s.size=0:=by rw [←len,h0];rfl
 omega
theorem ba_pos {n:List UInt8} (h:n≠ []):0<(ba n).size:=by rw [Txt.ba_size];exact List.length_pos_iff.2 h
structure Fb (w:World) (g:Nat) (n v:ByteArray):Prop where
 c0:w.cell? ⟨g,0,none⟩=some (.string n)
 c1:w.cell? ⟨g,1,none⟩=some (.string v)
 z0:w.frozen? ⟨g,0,none⟩=false
 z1:w.frozen? ⟨g,1,none⟩=false
theorem Fb.below {w w':World} {g:Nat} {n v:ByteArray} (H:Fb w g n v) (hg:g<w.heap.size) (hb:Below w.heap.size w w'):Fb w' g n v:=
 ⟨(hb.cell (p:=⟨g,0,none⟩) hg).trans H.c0,(hb.cell (p:=⟨g,1,none⟩) hg).trans H.c1,(hb.frozen (p:=⟨g,0,none⟩) hg).trans H.z0,(hb.frozen (p:=⟨g,1,none⟩) hg).trans H.z1⟩
theorem Fb.new (w:World) (t:TypeId) (n v:ByteArray):Fb (w.alloc (.cells #[.string n,.string v] t)) w.heap.size n v:=by
 have hh:=heap_alloc_new w (.cells #[.string n,.string v] t);have c:∀k u,(#[Value.string n,.string v]:Array Value)[k]?=some u→(w.alloc (.cells #[.string n,.string v] t)).cell? ⟨w.heap.size,k,none⟩=some u:=
  fun k u e=>(cell_of_row (w.alloc _) w.heap.size k _ t (0,0) hh).trans e
 have z:∀k,(w.alloc (.cells #[.string n,.string v] t)).frozen? ⟨w.heap.size,k,none⟩=false:=fun k=>by unfold World.frozen?;simp only [hh];simp
 exact ⟨c 0 _ rfl,c 1 _ rfl,z 0,z 1⟩
theorem Fb.put {B:Nat} {w0 w:World} {g:Nat} {n v:ByteArray} (H:Fb w g n v) (hb:Below B w0 w) (hg:B≤g) (n' v':ByteArray) :
 ∃W,(w.setCell ⟨g,0,none⟩ (.string n')).setCell ⟨g,1,none⟩ (.string v')=W∧Fb W g n' v'∧Below B w0 W:=by
 obtain ⟨c0,c1,z0,z1⟩:=H;refine ⟨_,rfl,⟨?_,?_,?_,?_⟩,(hb.setCell hg _).setCell hg _⟩;all_goals go_simp
theorem Fb.other {w:World} {g:Nat} {n v:ByteArray} (H:Fb w g n v) (g' o:Nat) (u:Value) (n2:¬g'=g):Fb (w.setCell ⟨g',o,none⟩ u) g n v:=by obtain ⟨c0,c1,z0,z1⟩:=H;refine ⟨?_,?_,?_,?_⟩;all_goals go_simp
structure Keep (w0:World) (n v:ByteArray) (w:World):Prop where
 f:Fb w w0.heap.size n v
 g:w0.heap.size<w.heap.size
 b:Below w0.heap.size w0 w
theorem Keep.new (w:World) (t:TypeId) (n v:ByteArray):Keep w n v (w.alloc (.cells #[.string n,.string v] t)):=
 ⟨Fb.new w t n v,by simp,(Below.refl _ _).alloc (Nat.le_refl _) _⟩
theorem Keep.step {w0 w w':World} {n v:ByteArray} (h:Keep w0 n v w) (hb:Below w.heap.size w w'):Keep w0 n v w':=
 ⟨h.f.below h.g hb,Nat.lt_of_lt_of_le h.g hb.size,Base.below_step h.b hb⟩
theorem Keep.drew {w0 w:World} {n v:ByteArray} (h:Keep w0 n v w) (m:Nat):Keep w0 n v (w.drewN m):=h.step (Base.below_drewN (Below.refl _ _) m)
structure Two (w0:World) (n v:ByteArray) (t:Nat) (N V:ByteArray) (w:World):Prop where
 k:Keep w0 n v w
 f:Fb w t N V
 ne:¬t=w0.heap.size
 lt:t<w.heap.size
 ge:w0.heap.size≤t
theorem Two.new {w0 w:World} {n v:ByteArray} (h:Keep w0 n v w) (ty:TypeId) (N V:ByteArray):Two w0 n v w.heap.size N V (w.alloc (.cells #[.string N,.string V] ty)):=
 ⟨h.step ((Below.refl _ _).alloc (Nat.le_refl _) _),Fb.new w ty N V,by have:=h.g;omega,by simp,by have:=h.g;omega⟩
theorem Two.step {w0 w w':World} {n v N V:ByteArray} {t:Nat} (h:Two w0 n v t N V w) (hb:Below w.heap.size w w'):Two w0 n v t N V w':=
 ⟨h.k.step hb,h.f.below h.lt hb,h.ne,Nat.lt_of_lt_of_le h.lt hb.size,h.ge⟩
theorem Two.drew {w0 w:World} {n v N V:ByteArray} {t:Nat} (h:Two w0 n v t N V w) (m:Nat):Two w0 n v t N V (w.drewN m):=h.step (Base.below_drewN (Below.refl _ _) m)
section code
set_option maxHeartbeats 4000000
set_option maxRecDepth 100000
attribute [local go_sem] Base.some_undef
theorem none_any (p:Nat) (hp:p<4294967296) (c:Int) (w:World):Calls Tryz.prog 277 #[.int .u32 (p:Nat),.int .i64 c] w fun e w'=>e=.returned (rv (out (Qk.has p c)))∧Below w.heap.size w w':=by
 have HH:=Lib.hid (fun w=>Qk.has_any p hp c w);generalize Qk.has p c=b at *;cases b;all_goals
  go_enter Tryz.func277,Tryz.ntmps277
  go_wp2_with (go_at_call 109;with_reducible refine (HH.out _).mono ?_;rintro e w1 ⟨rfl,hw⟩;rw [hw];clear hw)
 ·exact bodyPost_ret (v:=.tuple #[fv E0 E0,.bool false,.int .i64 400]) (by simp [results,Tryz.results277,go_sem]) rfl ⟨rfl,(Below.refl _ _).alloc (Nat.le_refl _) _⟩
 ·exact bodyPost_ret (v:=.tuple #[fv E0 E0,.bool false,.int .i64 0]) (by simp [results,Tryz.results277,go_sem]) rfl ⟨rfl,(Below.refl _ _).alloc (Nat.le_refl _) _⟩
theorem trimEnd_any (s:ByteArray) (w:World) (hs:s.size≤1000000000):Calls Tryz.prog 278 #[.string s] w fun e w'=>e=.returned (.string (ba (trimEnd s.data.toList)))∧w'=w:=by
 obtain ⟨R,hR⟩:∃R,ba (trimEnd s.data.toList)=R:=⟨_,rfl⟩;rw [hR]
 have HQ:=Lib.hid (show R.data.toList=trimEnd s.data.toList by rw [←hR];rfl);clear hR;go_enter Tryz.func278,Tryz.ntmps278;go_wp2
 go_loop [3] (fun i=>∃k:Nat,k≤s.size∧i=.int .i64 k∧Hid (trimEnd (s.data.toList.take k)=trimEnd s.data.toList)) (fun i=>(intOf i).toNat)
 case atStart=>exact ⟨s.size,Nat.le_refl _,rfl,Lib.hid (by rw [take_all s _ (Nat.le_refl _)])⟩
 case round=>
  obtain ⟨k,hk,rfl,HR⟩:=hrel;rcases k with _ | k
  ·have E1:=Lib.hid (show ByteArray.empty=R from ba_ext (by rw [HQ.out,←HR.out];rfl));go_wp2;go_ret;exact ⟨by rw [←E1.out];rfl,rfl⟩
  ·have hlt:k<s.size:=by omega
   have HS:=Lib.hid (take_snoc s k hlt)
   have HB:=Lib.hid (fun w=>Oct.blank_any (s[k].toNat:Int) w);rw [blank_is] at HB;have c1:IntKind.i64.wrap (((k+1:Nat):Int)-1)=(k:Int):=by rw [wrap_in _ (by omega) (by omega)];omega
   have c2:(0:Int)<((k+1:Nat):Int):=by omega
   cases hb:Txt.blank s[k] with
   | false=>
     rw [hb] at HB
     have E1:=Lib.hid (show s.extract 0 (k+1)=R from ba_ext (by rw [HQ.out,←HR.out,HS.out,trimEnd_stop _ _ hb,←HS.out,Lib.extract_data];rfl))
     clear hb
     go_wp2_with (go_at_call 224;with_reducible refine (HB.out _).mono ?_;rintro e w1 ⟨rfl,hw⟩;rw [hw];clear hw);go_ret;exact ⟨by rw [←E1.out];rfl,rfl⟩
   | true=>
     rw [hb] at HB
     have HR':=Lib.hid (show trimEnd (s.data.toList.take k)=trimEnd s.data.toList by rw [←HR.out,HS.out,trimEnd_snoc _ _ hb])
     clear hb HR
     go_wp2_with (go_at_call 224;with_reducible refine (HB.out _).mono ?_;rintro e w1 ⟨rfl,hw⟩;rw [hw];clear hw);go_round
     case rel=>exact ⟨k,by omega,rfl,HR'⟩
     case measure=>simp [intOf]
theorem isName_any (s:ByteArray) (p:Nat) (hp:p<4294967296) (w:World) (hs:s.size≤maxLen):Calls Tryz.prog 279 #[.string s,.int .u32 (p:Nat)] w fun e w'=>e=.returned (.bool (goodN (clOf p) s.data.toList))∧Below w.heap.size w w':=by
 have HH:=Lib.hid (fun w=>Qk.has_any p hp 10 w)
 have HA:=Lib.hid (fun w a (hk:Ints w a 1 [1])=>Oct.all_any s a 1 1 [1] w hs hk (by decide));rw [show goodN (clOf p) s.data.toList=(Qk.has p 10||Oct.allOf [1] s.data.toList) from rfl];generalize Qk.has p 10=b at *;generalize Oct.allOf [1] s.data.toList=r at *;cases b;all_goals
  go_enter Tryz.func279,Tryz.ntmps279
  go_wp2_with (first
   |(go_at_call 109;with_reducible refine (HH.out _).mono ?_;rintro e w1 ⟨rfl,hw⟩;rw [hw];clear hw)
   |(go_at_call 268;with_reducible refine (HA.out _ _ (Ints.one _ _ rfl _ _)).mono ?_;rintro e w1 ⟨rfl,hw⟩;rw [hw];clear hw))
  go_ret
 ·exact ⟨by rfl,(Below.refl _ _).alloc (Nat.le_refl _) _⟩
 ·exact ⟨by rfl,Below.refl _ _⟩
theorem isValue_any (s:ByteArray) (p:Nat) (hp:p<4294967296) (w:World) (hs:s.size≤maxLen):Calls Tryz.prog 280 #[.string s,.int .u32 (p:Nat)] w fun e w'=>e=.returned (.bool (goodV (clOf p) s.data.toList))∧Below w.heap.size w w':=by
 have HH:=Lib.hid (fun w=>Qk.has_any p hp 14 w)
 have HA:=Lib.hid (fun w a (hk:Ints w a 1 [6])=>Oct.all_any s a 1 1 [6] w hs hk (by decide));rw [show goodV (clOf p) s.data.toList=(Qk.has p 14||Oct.allOf [6] s.data.toList) from rfl];generalize Qk.has p 14=b at *;generalize Oct.allOf [6] s.data.toList=r at *;cases b;all_goals
  go_enter Tryz.func280,Tryz.ntmps280
  go_wp2_with (first
   |(go_at_call 109;with_reducible refine (HH.out _).mono ?_;rintro e w1 ⟨rfl,hw⟩;rw [hw];clear hw)
   |(go_at_call 268;with_reducible refine (HA.out _ _ (Ints.one _ _ rfl _ _)).mono ?_;rintro e w1 ⟨rfl,hw⟩;rw [hw];clear hw))
  go_ret
 ·exact ⟨by rfl,(Below.refl _ _).alloc (Nat.le_refl _) _⟩
 ·exact ⟨by rfl,Below.refl _ _⟩
theorem goes_any (s:ByteArray) (p:Nat) (hp:p<4294967296) (w:World):Calls Tryz.prog 250 #[.string s,.int .u32 (p:Nat)] w fun e w'=>e=.returned (.bool (goes p s.data.toList))∧w'=w:=by
 have HH:=Lib.hid (fun w=>Qk.has_any p hp 13 w);unfold goes;generalize Qk.has p 13=b at *;rcases Nat.eq_zero_or_pos s.size with h0 | h0
 ·obtain rfl:s=E0:=ba_ext (List.length_eq_zero_iff.1 (by rw [len];exact h0));cases b;all_goals
   go_enter Tryz.func250,Tryz.ntmps250
   go_wp2_with (go_at_call 109;with_reducible refine (HH.out _).mono ?_;rintro e w1 ⟨rfl,hw⟩;rw [hw];clear hw);go_ret;exact ⟨by rfl,rfl⟩
 ·have t0:=first_no s h0
  have HB:=Lib.hid (fun w=>Oct.blank_any (s[0].toNat:Int) w);rw [blank_is] at HB;have e1:(!s.data.toList.isEmpty&&Txt.blank (s.data.toList.headD 0))=Txt.blank s[0]:=by
   have hl:s.data.toList=s[0]::s.data.toList.drop 1:=by
    have hlen:0<s.data.toList.length:=by rw [len];exact h0
    rw [←List.drop_zero (l:=s.data.toList),List.drop_eq_getElem_cons hlen];rfl
   rw [hl];rfl
  rw [e1];clear e1;cases b;all_goals
   go_enter Tryz.func250,Tryz.ntmps250
   go_wp2_with (first
    |(go_at_call 109;with_reducible refine (HH.out _).mono ?_;rintro e w1 ⟨rfl,hw⟩;rw [hw];clear hw)
    |(go_at_call 224;with_reducible refine (HB.out _).mono ?_;rintro e w1 ⟨rfl,hw⟩;rw [hw];clear hw))
   go_ret;exact ⟨by rfl,rfl⟩
end code
end Go.Proofs.YtldhlecknfomjaaGreatDoor.Fd
namespace Go.Proofs.YtldhlecknfomjaaGreatDoor.Fd
open Go.RowKit Base Txt Tgt
section code
set_option maxHeartbeats 4000000
set_option maxRecDepth 100000
attribute [local go_sem] Base.some_undef
theorem parse_any (s:ByteArray) (p:Nat) (hp:p<4294967296) (w:World) (hs:s.size≤1000000000):Calls Tryz.prog 252 #[.string s,.int .u32 (p:Nat)] w fun e w'=>e=.returned (rv (parse (clOf p) s.data.toList))∧Below w.heap.size w w':=by
 have HC:=Lib.hid (fun w=>cut_any s 58 w hs);have hle:=cutAt_le 58 s.data.toList;rw [len] at hle;obtain ⟨R,hR⟩:∃R,parse (clOf p) s.data.toList=R:=⟨_,rfl⟩;rw [hR];unfold parse at hR;generalize (cutAt 58 s.data.toList).1=n0 at *;generalize (cutAt 58 s.data.toList).2.1=v0 at *;generalize (cutAt 58 s.data.toList).2.2=ok at *
 have HK0:=Lib.hid (Keep.new w 48 E0 E0);cases ok with
 | false=>
   rw [if_neg (by decide)] at hR
   have HN:=Lib.hid (fun w=>none_any p hp 11 w);rw [show out (Qk.has p 11)=R from hR,rv_form] at HN;rw [rv_form];clear hR hle;generalize rn R=N at *;generalize rvl R=V at *;generalize rok R=O at *;generalize rerr R=Z at *;go_enter Tryz.func252,Tryz.ntmps252
   go_wp2_with (first
    |(go_at_call 276;with_reducible refine (HC.out _).mono ?_;rintro e w1 ⟨rfl,m,hw⟩;rw [hw];clear hw)
    |(go_at_call 277;with_reducible refine (HN.out _).mono ?_;rintro e w2 ⟨rfl,hb⟩
      have HK:=Lib.hid ((HK0.out.drew m).step hb);obtain ⟨⟨c0,c1,z0,z1⟩,hg,hbk⟩:=HK.out;clear hg hbk hb))
   obtain ⟨W,hW,⟨d0,d1,_,_⟩,hbW⟩:=Fb.put HK.out.f HK.out.b (Nat.le_refl _) N V;rw [hW];exact bodyPost_ret (v:=.tuple #[fv N V,.bool O,.int .i64 Z]) (by simp [results,Tryz.results252,go_sem,d0,d1]) rfl ⟨rfl,hbW⟩
 | true=>
   rw [if_pos rfl] at hR
   have HH:=Lib.hid (fun w=>Qk.has_any p hp 9 w)
   have HT:=Lib.hid (fun w=>trimEnd_any (ba n0) w (by rw [Txt.ba_size];omega))
   have HV:=Lib.hid (fun w=>trim_any (ba v0) w (by rw [Txt.ba_size];unfold maxLen;omega));rw [show trim (ba v0)=ba (trimL Txt.blank v0) from rfl] at HV;rw [show (ba n0).data.toList=n0 from rfl] at HT;have hv1:(trimL Txt.blank v0).length≤s.size:=Nat.le_trans (trimL_length _ _) hle.2;have hn1:(nameL (clOf p) n0).length≤s.size:=Nat.le_trans (nameL_le _ _) hle.1;have hnm:(if Qk.has p 9=true then trimEnd n0 else n0)=nameL (clOf p) n0:=rfl;generalize trimL Txt.blank v0=v1 at *;generalize nameL (clOf p) n0=n1 at *
   have HNm:=Lib.hid (fun w=>isName_any (ba n1) p hp w (by rw [Txt.ba_size];unfold maxLen;omega))
   have HVl:=Lib.hid (fun w=>isValue_any (ba v1) p hp w (by rw [Txt.ba_size];unfold maxLen;omega));rw [show (ba n1).data.toList=n1 from rfl] at HNm;rw [show (ba v1).data.toList=v1 from rfl] at HVl;unfold read at hR
   have HN:=Lib.hid (fun w=>none_any p hp 12 w);rw [show Qk.has p 12=(clOf p).nn from rfl] at HN;generalize (clOf p).nn=nn at *;generalize goodN (clOf p) n1=gn at *;generalize goodV (clOf p) v1=gv at *;clear hle hv1 hn1;by_cases hn:n1= []
   ·rw [if_pos hn] at hR;subst hn;rw [hR,rv_form] at HN;rw [rv_form];clear hR HNm HVl HV;generalize rn R=N at *;generalize rvl R=V at *;generalize rok R=O at *;generalize rerr R=Z at *;generalize Qk.has p 9=sp at *;cases sp;all_goals
     first | rw [if_pos rfl] at hnm | rw [if_neg (by decide)] at hnm
     first | subst hnm |(rw [hnm] at HT;clear hnm)
     try rw [show ba []=E0 from rfl] at HT
     try rw [show ba []=E0 from rfl] at HC
     go_enter Tryz.func252,Tryz.ntmps252
     go_wp2_with (first
      |(go_at_call 276;with_reducible refine (HC.out _).mono ?_;rintro e w1 ⟨rfl,m,hw⟩;rw [hw];clear hw)
      |(go_at_call 109;with_reducible refine (HH.out _).mono ?_;rintro e w1 ⟨rfl,hw⟩;rw [hw];clear hw)
      |(go_at_call 278;with_reducible refine (HT.out _).mono ?_;rintro e w1 ⟨rfl,hw⟩;rw [hw];clear hw)
      |(go_at_call 277;with_reducible refine (HN.out _).mono ?_;rintro e w2 ⟨rfl,hb⟩
        have HK:=Lib.hid ((HK0.out.drew m).step hb);obtain ⟨⟨c0,c1,z0,z1⟩,hg,hbk⟩:=HK.out;clear hg hbk hb))
     obtain ⟨W,hW,⟨d0,d1,_,_⟩,hbW⟩:=Fb.put HK.out.f HK.out.b (Nat.le_refl _) N V;rw [hW];exact bodyPost_ret (v:=.tuple #[fv N V,.bool O,.int .i64 Z]) (by simp [results,Tryz.results252,go_sem,d0,d1]) rfl ⟨rfl,hbW⟩
   ·rw [if_neg hn] at hR
    have t0:=first_no (ba n1) (ba_pos hn);have hnm':ba (if Qk.has p 9=true then trimEnd n0 else n0)=ba n1:=congrArg ba hnm;clear HN hn hnm;generalize Qk.has p 9=sp at *;obtain ⟨T,hT⟩:∃T,ba (trimEnd n0)=T:=⟨_,rfl⟩;rw [hT] at HT;generalize hN0:ba n0=N0 at *;generalize ba v0=V0 at *;have hrv:rv R=if (gn&&gv)=true then .tuple #[fv (ba n1) (ba v1),.bool true,.int .i64 0] else .tuple #[fv E0 E0,.bool false,.int .i64 400]:=by rw [←hR];split<;>rfl
    rw [hrv];clear hrv hR;generalize ba n1=N1 at *;generalize ba v1=V1 at *;cases sp;all_goals
     first | rw [if_pos rfl] at hnm' | rw [if_neg (by decide)] at hnm'
     first |(rw [hN0] at hnm';replace hnm':=hnm'.symm;subst hnm') |(rw [hT] at hnm';replace hnm':=hnm'.symm;subst hnm')
     clear hN0 hT;cases gn
     ·rw [if_neg (by simp)];go_enter Tryz.func252,Tryz.ntmps252
      go_wp2_with (first
       |(go_at_call 276;with_reducible refine (HC.out _).mono ?_;rintro e w1 ⟨rfl,m,hw⟩;rw [hw];clear hw)
       |(go_at_call 109;with_reducible refine (HH.out _).mono ?_;rintro e w1 ⟨rfl,hw⟩;rw [hw];clear hw)
       |(go_at_call 278;with_reducible refine (HT.out _).mono ?_;rintro e w1 ⟨rfl,hw⟩;rw [hw];clear hw)
       |(go_at_call 205;with_reducible refine (HV.out _).mono ?_;rintro e w1 ⟨rfl,hw⟩;rw [hw];clear hw)
       |(go_at_call 279;with_reducible refine (HNm.out _).mono ?_;rintro e w2 ⟨rfl,hb⟩
         have HK:=Lib.hid ((HK0.out.drew m).step hb);obtain ⟨⟨c0,c1,z0,z1⟩,hg,hbk⟩:=HK.out;clear hg hbk hb))
      obtain ⟨W,hW,⟨d0,d1,_,_⟩,hbW⟩:=Fb.put HK.out.f HK.out.b (Nat.le_refl _) E0 E0;rw [hW];exact bodyPost_ret (v:=.tuple #[fv E0 E0,.bool false,.int .i64 400]) (by simp [results,Tryz.results252,go_sem,d0,d1]) rfl ⟨rfl,hbW⟩
     ·cases gv
      ·rw [if_neg (by decide)];go_enter Tryz.func252,Tryz.ntmps252
       go_wp2_with (first
        |(go_at_call 276;with_reducible refine (HC.out _).mono ?_;rintro e w1 ⟨rfl,m,hw⟩;rw [hw];clear hw)
        |(go_at_call 109;with_reducible refine (HH.out _).mono ?_;rintro e w1 ⟨rfl,hw⟩;rw [hw];clear hw)
        |(go_at_call 278;with_reducible refine (HT.out _).mono ?_;rintro e w1 ⟨rfl,hw⟩;rw [hw];clear hw)
        |(go_at_call 205;with_reducible refine (HV.out _).mono ?_;rintro e w1 ⟨rfl,hw⟩;rw [hw];clear hw)
        |(go_at_call 279;with_reducible refine (HNm.out _).mono ?_;rintro e w2 ⟨rfl,hb⟩
          have HK:=Lib.hid ((HK0.out.drew m).step hb);clear hb)
        |(go_at_call 280;with_reducible refine (HVl.out _).mono ?_;rintro e w3 ⟨rfl,hb⟩
          replace HK:=Lib.hid (HK.out.step hb)
          obtain ⟨⟨c0,c1,z0,z1⟩,hg,hbk⟩:=HK.out;clear hg hbk hb))
       obtain ⟨W,hW,⟨d0,d1,_,_⟩,hbW⟩:=Fb.put HK.out.f HK.out.b (Nat.le_refl _) E0 E0;rw [hW];exact bodyPost_ret (v:=.tuple #[fv E0 E0,.bool false,.int .i64 400]) (by simp [results,Tryz.results252,go_sem,d0,d1]) rfl ⟨rfl,hbW⟩
      ·rw [if_pos (by decide)];go_enter Tryz.func252,Tryz.ntmps252
       go_wp2_with (first
        |(go_at_call 276;with_reducible refine (HC.out _).mono ?_;rintro e w1 ⟨rfl,m,hw⟩;rw [hw];clear hw)
        |(go_at_call 109;with_reducible refine (HH.out _).mono ?_;rintro e w1 ⟨rfl,hw⟩;rw [hw];clear hw)
        |(go_at_call 278;with_reducible refine (HT.out _).mono ?_;rintro e w1 ⟨rfl,hw⟩;rw [hw];clear hw)
        |(go_at_call 205;with_reducible refine (HV.out _).mono ?_;rintro e w1 ⟨rfl,hw⟩;rw [hw];clear hw)
        |(go_at_call 279;with_reducible refine (HNm.out _).mono ?_;rintro e w2 ⟨rfl,hb⟩
          have HK:=Lib.hid ((HK0.out.drew m).step hb);clear hb)
        |(go_at_call 280;with_reducible refine (HVl.out _).mono ?_;rintro e w3 ⟨rfl,hb⟩
          replace HK:=Lib.hid (HK.out.step hb)
          obtain ⟨⟨c0,c1,z0,z1⟩,hg,hbk⟩:=HK.out;clear hg hbk hb))
       obtain ⟨W,hW,⟨d0,d1,_,_⟩,hbW⟩:=Fb.put HK.out.f HK.out.b (Nat.le_refl _) N1 V1;rw [hW];exact bodyPost_ret (v:=.tuple #[fv N1 V1,.bool true,.int .i64 0]) (by simp [results,Tryz.results252,go_sem,d0,d1]) rfl ⟨rfl,hbW⟩
end code
end Go.Proofs.YtldhlecknfomjaaGreatDoor.Fd
namespace Go.Proofs.YtldhlecknfomjaaGreatDoor.Fd
open Go.RowKit Base Txt Tgt
def joined (v s:List UInt8):List UInt8:=v++32::trimL Txt.blank s
theorem joined_eq (v s:ByteArray):v++(⟨#[32]⟩++trim s)=ba (joined v.data.toList s.data.toList):=ba_ext (by simp only [joined,ByteArray.data_append,Array.toList_append];rfl)
section code
set_option maxHeartbeats 4000000
set_option maxRecDepth 100000
attribute [local go_sem] Base.some_undef
theorem join_any (n v s:ByteArray) (w:World) (hs:s.size≤1000000000) (hv:v.size≤1000000000):Calls Tryz.prog 251 #[fv n v,.string s] w fun e w'=>e=.returned (fv n (ba (joined v.data.toList s.data.toList)))∧Below w.heap.size w w':=by
 have HT:=Lib.hid (fun w=>trim_any s w (by unfold maxLen;omega));have hT:(trim s).size≤s.size:=trim_size _ _;rw [←joined_eq];generalize trim s=T at *;have v1:¬9223372036854775807<1+T.size:=by omega
 have v2:¬9223372036854775807<v.size+(1+T.size):=by omega
 go_enter Tryz.func251,Tryz.ntmps251;go_wp2_with fail
 go_region_with (go_at_call 205;with_reducible refine (HT.out _).mono ?_;rintro e w1 ⟨rfl,hw⟩;rw [hw];clear hw);all_goals
  go_wp2;exact bodyPost_ret (v:=fv n (v++(⟨#[32]⟩++T))) (by simp [results,Tryz.results251,go_sem]) rfl ⟨rfl,Base.below_drewN (((Below.refl _ _).alloc (Nat.le_refl _) _).alloc (by simp) _) 1⟩
end code
end Go.Proofs.YtldhlecknfomjaaGreatDoor.Fd
namespace Go.Proofs.YtldhlecknfomjaaGreatDoor.Fd
open Go.RowKit Base Txt Tgt
section code
set_option maxHeartbeats 4000000
set_option maxRecDepth 100000
attribute [local go_sem] Base.some_undef
end code
end Go.Proofs.YtldhlecknfomjaaGreatDoor.Fd
