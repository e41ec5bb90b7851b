import Derived.Test.YtimoakmcelocfaaGreatAya
namespace Go.Proofs
open Go.Shelf
def Tryz.lays169_ren:Go.Shelf.Ren:=⟨fun | 169=>85 | n=>n,fun | 70=>114 | 9=>9 | 0=>0 | 72=>116 | 37=>34 | 127=>141 | 3=>3 | 5=>5 | n=>n,fun | n=>n⟩
theorem Tryz.lays169:Go.Proofs.Lays.n169 Tryz.prog Tryz.lays169_ren:={
 mixed:=by kernel_rfl
 f169:=Tryz.func85.trans (congrArg some (by kernel_rfl))
 t0:=Tryz.underlying0
 a0:=Tryz.isAgg0
 z0:=Tryz.sizeOf0
 v0:=Tryz.zeroValue0
 t3:=Tryz.underlying3
 a3:=Tryz.isAgg3
 z3:=Tryz.sizeOf3
 v3:=Tryz.zeroValue3
 t9:=Tryz.underlying9
 a9:=Tryz.isAgg9
 z9:=Tryz.sizeOf9
 v9:=Tryz.zeroValue9
 t37:=Tryz.underlying34
 a37:=Tryz.isAgg34
 z37:=Tryz.sizeOf34
 v37:=Tryz.zeroValue34
 t70:=Tryz.underlying114
 a70:=Tryz.isAgg114
 z70:=Tryz.sizeOf114
 v70:=Tryz.zeroValue114
 t72:=Tryz.underlying116
 a72:=Tryz.isAgg116
 z72:=Tryz.sizeOf116
 v72:=Tryz.zeroValue116
 t127:=Tryz.underlying141
 a127:=Tryz.isAgg141
 z127:=Tryz.sizeOf141
 v127:=Tryz.zeroValue141}
theorem Tryz.Builder_Extra_169:Builder.Extra Tryz.prog Tryz.lays169_ren:={
 sizeBuilder:=by kernel_rfl
 liesBuilder:=by kernel_rfl
 t5:=Tryz.underlying5
 a5:=Tryz.isAgg5
 z5:=Tryz.sizeOf5
 v5:=Tryz.zeroValue5
 infoByte:=by kernel_rfl
 cellsByte:=by kernel_rfl
 sizeByte:=by kernel_rfl
 neB5:=by decide}
open Go.RowKit in
theorem Tryz.Builder_String_any_f (B b:Nat) (l:List UInt8) (w:World) (h:Lib.IsBuilderF 116 5 B b (Lib.byteCells l) w) (hBw:B≤w.heap.size) :
 Calls Tryz.prog 85 #[.pointer (some ⟨b,0,none⟩)] w fun e w'=>e=.returned (.string ⟨l.toArray⟩)∧(Lib.IsBuilderF 116 5 B b (Lib.byteCells l) w'∧Below B w w'):=Any.Builder_String_any_f Tryz.lays169 Tryz.Builder_Extra_169 B b l w h hBw
end Go.Proofs
namespace Go.Proofs.YtimoakmcelocfaaGreat.Oct
open Go.RowKit Base
def digit (n:Int):Bool:=decide (48≤n)&&decide (n≤57)
def letter (n:Int):Bool:=(decide (97≤n)&&decide (n≤122))|| (decide (65≤n)&&decide (n≤90))
def visible (n:Int):Bool:=decide (33≤n)&&decide (n≤126)
def blank (n:Int):Bool:=decide (n=32)||decide (n=9)
def control (n:Int):Bool:=decide (n<32)||decide (n=127)
def textual (n:Int):Bool:=visible n||blank n||decide (128≤n)
def marks:List UInt8:= [33,35,36,37,38,39,42,43,45,46,94,95,96,124,126]
def stands (l:List UInt8) (n:Int):Bool:=l.any fun b=>(b.toNat:Int)==n
def token (n:Int):Bool:=letter n||digit n||stands marks n
def isHex (n:Int):Bool:=digit n|| (decide (97≤n)&&decide (n≤102))|| (decide (65≤n)&&decide (n≤70))
def hexVal (n:Int):Int:=if digit n=true then n-48 else if 97≤n∧n≤102 then n-87 else if 65≤n∧n≤70 then n-55 else 0
def ofKind (n k:Int):Bool:=if k=1 then token n else if k=2 then visible n else if k=3 then blank n else if k=4 then digit n else if k=5 then isHex n else if k=6 then textual n else false
def oneOf (ks:List Int) (n:Int):Bool:=ks.any fun k=>ofKind n k
def allOf (ks:List Int) (l:List UInt8):Bool:=l.all fun b=>oneOf ks b.toNat
section code
set_option maxHeartbeats 400000
theorem stands_any (n:Int) (s:ByteArray) (w:World) (hs:s.size≤maxLen):Calls Tryz.prog 126 #[.int .u8 n,.string s] w fun e w'=>e=.returned (.bool (stands s.data.toList n))∧w'=w:=by
 unfold maxLen at hs;go_enter Tryz.func126,Tryz.ntmps126;go_wp2
 go_loop [5] (fun i=>∃k:Nat,k≤s.size∧i=.int .i64 k∧Hid (stands (s.data.toList.take k) n=false)) (fun i=>s.size-(intOf i).toNat)
 case atStart=>exact ⟨0,Nat.zero_le _,rfl,rfl⟩
 case round=>
  obtain ⟨k,hk,rfl,hno⟩:=hrel;rcases Nat.lt_or_ge k s.size with hlt | hge
  ·have hsn:=take_snoc s k hlt;have HS:=Lib.hid hsn;clear hsn;go_wp2
   ·go_ret;refine ⟨ret_bool ?_,rfl⟩;have hx:((s[k].toNat:Int)==n)=true:=by assumption
    have hm:s[k]∈s.data.toList:=by
     have:=HS.out
     exact List.mem_of_mem_take (i:=k+1) (by rw [this];simp)
    simp only [true_iff,stands,List.any_eq_true];exact ⟨_,hm,hx⟩
   ·go_round
    case rel=>
     refine ⟨k+1,by omega,by go_num,?_⟩;have hx:((s[k].toNat:Int)==n)=false:=by assumption
     have:=hno.out;refine Lib.hid ?_;rw [HS.out]
     simp_all [stands]
    case measure=>simp [intOf];omega
  ·go_wp2;go_ret;have:=hno.out;rw [take_all s k (by omega)] at this;exact ⟨by rw [this];rfl,rfl⟩
theorem rdigit_any (n:Int) (w:World):Calls Tryz.prog 106 #[.int .u8 n] w fun e w'=>e=.returned (.bool (digit n))∧w'=w:=by
 go_enter Tryz.func106,Tryz.ntmps106;go_wp2
 all_goals (go_ret;exact ⟨ret_bool (by simp [digit]<;>omega),rfl⟩)
theorem rletter_any (n:Int) (w:World):Calls Tryz.prog 118 #[.int .u8 n] w fun e w'=>e=.returned (.bool (letter n))∧w'=w:=by
 go_enter Tryz.func118,Tryz.ntmps118;go_wp2
 all_goals (go_ret;exact ⟨ret_bool (by simp [letter]<;>omega),rfl⟩)
theorem rvisible_any (n:Int) (w:World):Calls Tryz.prog 99 #[.int .u8 n] w fun e w'=>e=.returned (.bool (visible n))∧w'=w:=by
 go_enter Tryz.func99,Tryz.ntmps99;go_wp2
 all_goals (go_ret;exact ⟨ret_bool (by simp [visible]<;>omega),rfl⟩)
theorem rblank_any (n:Int) (w:World):Calls Tryz.prog 100 #[.int .u8 n] w fun e w'=>e=.returned (.bool (blank n))∧w'=w:=by
 go_enter Tryz.func100,Tryz.ntmps100;go_wp2
 all_goals (go_ret;exact ⟨ret_bool (by simp [blank]<;>omega),rfl⟩)
theorem rcontrol_any (n:Int) (w:World):Calls Tryz.prog 101 #[.int .u8 n] w fun e w'=>e=.returned (.bool (control n))∧w'=w:=by
 go_enter Tryz.func101,Tryz.ntmps101;go_wp2
 all_goals (go_ret;exact ⟨ret_bool (by simp [control]<;>omega),rfl⟩)
theorem rtext_any (n:Int) (w:World):Calls Tryz.prog 116 #[.int .u8 n] w fun e w'=>e=.returned (.bool (textual n))∧w'=w:=by
 go_enter Tryz.func116,Tryz.ntmps116
 go_wp2_with (first
  |(go_at_call 99;refine (rvisible_any _ _).mono ?_;rintro e w' ⟨rfl,rfl⟩)
  |(go_at_call 100;refine (rblank_any _ _).mono ?_;rintro e w' ⟨rfl,rfl⟩))
 all_goals (go_ret;exact ⟨ret_bool (by simp [textual, *]),rfl⟩)
theorem rtoken_any (n:Int) (w:World):Calls Tryz.prog 115 #[.int .u8 n] w fun e w'=>e=.returned (.bool (token n))∧w'=w:=by
 have hsz:(ByteArray.mk #[33,35,36,37,38,39,42,43,45,46,94,95,96,124,126]).size≤maxLen:=by decide
 go_enter Tryz.func115,Tryz.ntmps115
 go_wp2_with (first
  |(go_at_call 118;refine (rletter_any _ _).mono ?_;rintro e w' ⟨rfl,rfl⟩)
  |(go_at_call 106;refine (rdigit_any _ _).mono ?_;rintro e w' ⟨rfl,rfl⟩)
  |(go_at_call 126;refine (stands_any _ _ _ (by assumption)).mono ?_;rintro e w' ⟨rfl,rfl⟩))
 all_goals (go_ret;exact ⟨ret_bool (by simp [token,marks, *]),rfl⟩)
theorem rhex_any (n:Int) (w:World) (h0:0≤n) (h1:n≤255):Calls Tryz.prog 114 #[.int .u8 n] w fun e w'=>e=.returned (.tuple #[.int .i64 (hexVal n),.bool (isHex n)])∧w'=w:=by
 by_cases hd:digit n=true
 ·have hb:48≤n∧n≤57:=by simpa [digit] using hd
  obtain ⟨hb0,hb1⟩:=hb;go_enter Tryz.func114,Tryz.ntmps114
  go_wp2_with (go_at_call 106;refine (rdigit_any _ _).mono ?_;rintro e w' ⟨rfl,rfl⟩)
  all_goals (go_ret2;exact ⟨by simp [hexVal,isHex,hd],rfl⟩)
 ·have hd':digit n=false:=by simpa using hd
  go_enter Tryz.func114,Tryz.ntmps114
  go_wp2_with (go_at_call 106;refine (rdigit_any _ _).mono ?_;rintro e w' ⟨rfl,rfl⟩)
  all_goals (go_ret2;exact ⟨by simp [hexVal,isHex, *]<;>omega,rfl⟩)
theorem rofKind_any (n k:Int) (w:World) (h0:0≤n) (h1:n≤255):Calls Tryz.prog 98 #[.int .u8 n,.int .i64 k] w fun e w'=>e=.returned (.bool (ofKind n k))∧w'=w:=by
 go_enter Tryz.func98,Tryz.ntmps98
 go_wp2_with (first
  |(go_at_call 115;refine (rtoken_any _ _).mono ?_;rintro e w' ⟨rfl,rfl⟩)
  |(go_at_call 99;refine (rvisible_any _ _).mono ?_;rintro e w' ⟨rfl,rfl⟩)
  |(go_at_call 100;refine (rblank_any _ _).mono ?_;rintro e w' ⟨rfl,rfl⟩)
  |(go_at_call 106;refine (rdigit_any _ _).mono ?_;rintro e w' ⟨rfl,rfl⟩)
  |(go_at_call 114;refine (rhex_any _ _ (by assumption) (by assumption)).mono ?_;rintro e w' ⟨rfl,rfl⟩)
  |(go_at_call 116;refine (rtext_any _ _).mono ?_;rintro e w' ⟨rfl,rfl⟩))
 all_goals (go_ret;exact ⟨ret_bool (by simp_all [ofKind]),rfl⟩)
theorem rall_any (s:ByteArray) (a:Option Addr) (len cap:Nat) (ks:List Int) (w:World) (hs:s.size≤maxLen) (hk:Ints w a len ks) (hl:len≤maxLen) :
 Calls Tryz.prog 87 #[.string s,.slice a len cap] w fun e w'=>e=.returned (.bool (allOf ks s.data.toList))∧∃m,w'=w.drewN m:=by
 unfold maxLen at hs hl;have HK:=Lib.hid hk;have HL:=Lib.hid hk.1;clear hk;go_enter Tryz.func87,Tryz.ntmps87;go_wp2
 go_loopw [5] (fun i wr=>∃k:Nat,k≤s.size∧i=.int .i64 k∧Hid (allOf ks (s.data.toList.take k)=true)∧Hid (∃m,wr=w.drewN m)) (fun i _=>s.size-(intOf i).toNat)
 case atStart=>exact ⟨0,Nat.zero_le _,rfl,rfl,0,rfl⟩
 case round=>
  obtain ⟨k,hk,rfl,hyes,hw⟩:=hrel;obtain ⟨wo,rfl⟩:∃wo:World,wo=wr:=⟨_,rfl⟩;rcases Nat.lt_or_ge k s.size with hlt | hge
  ·have HS:=Lib.hid (take_snoc s k hlt);have hb:=byte_lt s[k];have hb0:(0:Int)≤(s[k].toNat:Int):=by omega
   go_wp2
   go_loopw [6,7] (fun ok j wr=>∃(q:Nat) (b:Bool),q≤len∧j=.int .i64 q∧ok=.bool b∧Hid (b=oneOf (ks.take q) (s[k].toNat:Int))∧Hid (∃m,wr=wo.drewN m)) (fun _ j _=>len-(intOf j).toNat)
   case atStart=>exact ⟨0,false,Nat.zero_le _,rfl,rfl,rfl,0,rfl⟩
   case round=>
    obtain ⟨q,b,hq,rfl,rfl,hok,hwi⟩:=hrel;rcases Nat.lt_or_ge q len with hltq | hgeq
    ·have hI:Ints wr a len ks:=by
      obtain ⟨m1,rfl⟩:=hw.out;obtain ⟨m,rfl⟩:=hwi.out;exact HK.out
     obtain ⟨bl,off,rfl,_,hc⟩:=hI.2 (by omega);have hck:=hc q hltq
     have HQ:=Lib.hid (ints_snoc ks q (by rw [HL.out];exact hltq));clear hc hI;cases b
     ·go_wp2
      go_quiet ((go_at_call 98;exact Calls.quiet_of_same (rofKind_any _ _ _ (by assumption) (by assumption))));go_wp2;go_roundw
      case rel=>
       refine ⟨q+1,_,by omega,by go_num,rfl,Lib.hid ?_,Lib.hid ?_⟩
       ·have:=hok.out;rw [HQ.out]
        simp_all [oneOf]
       ·obtain ⟨m,hm⟩:=hwi.out;exact ⟨m+nq,by rw [hm,World.drewN_drewN]⟩
      case measure=>simp [intOf];omega
     ·go_wp2
      go_quiet (fail);go_wp2;go_roundw
      case rel=>
       refine ⟨q+1,_,by omega,by go_num,rfl,Lib.hid ?_,Lib.hid ?_⟩
       ·have:=hok.out;rw [HQ.out]
        simp_all [oneOf]
       ·obtain ⟨m,hm⟩:=hwi.out;exact ⟨m+nq,by rw [hm,World.drewN_drewN]⟩
      case measure=>simp [intOf];omega
    ·have HE:Hid (oneOf (ks.take q) (s[k].toNat:Int)=oneOf ks (s[k].toNat:Int)):=by
      rw [List.take_of_length_le (by rw [HL.out];exact hgeq)];exact Lib.hid rfl
     cases b
     ·go_wp2;go_ret;refine ⟨ret_bool ?_,?_⟩
      ·have h1:=hok.out;have h2:=HE.out;simp only [Bool.false_eq_true,false_iff,allOf,List.all_eq_true];intro hall
       have:=hall _ (byte_mem s k hlt);rw [←h2,←h1] at this;cases this
      ·obtain ⟨m,hm⟩:=hwi.out;obtain ⟨m1,hm1⟩:=hw.out;exact ⟨m1+m,by rw [hm,hm1,World.drewN_drewN]⟩
     ·go_wp2;go_roundw
      case rel=>
       refine ⟨k+1,by omega,by go_num,Lib.hid ?_,Lib.hid ?_⟩
       ·have h0:=hyes.out;have h1:=hok.out;have h2:=HE.out;rw [HS.out]
        simp_all [allOf]
       ·obtain ⟨m,hm⟩:=hwi.out;obtain ⟨m1,hm1⟩:=hw.out;exact ⟨m1+m,by rw [hm,hm1,World.drewN_drewN]⟩
      case measure=>simp [intOf];omega
  ·go_wp2;go_ret;have:=hyes.out;rw [take_all s k hge] at this;exact ⟨by rw [this];rfl,hw.out⟩
end code
end Go.Proofs.YtimoakmcelocfaaGreat.Oct
namespace Go.Proofs.YtimoakmcelocfaaGreat.Num
open Base Oct
def dig (c:UInt8):Int:=hexVal (c.toNat:Int)
def digitOf (base:Int) (c:UInt8):Bool:=isHex (c.toNat:Int)&&decide (dig c<base)
def grow (base most:Int):Int→List UInt8→Option Int
 | n,[]=>some n
 | n,c::r=>if most<dig c∨(most-dig c)/base<n then none else grow base most (n*base+dig c) r
def ofGrow:Option Int→Int × Int
 | some n=>(n,0)
 | none=>(0,23)
def readOf (base most:Int) (l:List UInt8):Int × Int:=
 if (l.isEmpty || !l.all (digitOf base))=true then (0,22) else ofGrow (grow base (max most 0) 0 l)
def value (base:Int):Int→List UInt8→Int
 | n,[]=>n
 | n,c::r=>value base (n*base+dig c) r
def tab:List UInt8:= [48,49,50,51,52,53,54,55,56,57,97,98,99,100,101,102]
def sign (n:Nat):UInt8:=tab[n]?.getD 0
def spell (b n:Nat):List UInt8:=if _h:n<b∨b<2 then [sign n] else spell b (n/b) ++ [sign (n%b)]
 termination_by n
 decreasing_by exact Nat.div_lt_self (by omega) (by omega)
theorem dig_tab:∀k:Fin 256,0≤hexVal (k.val:Int)∧hexVal (k.val:Int)≤15:=by decide +kernel
theorem dig_nonneg (c:UInt8):0≤dig c:=(dig_tab ⟨c.toNat,c.toNat_lt⟩).1
theorem dig_le (c:UInt8):dig c≤15:=(dig_tab ⟨c.toNat,c.toNat_lt⟩).2
section
variable {base most:Int}
theorem grow_app (n:Int) (l m:List UInt8):grow base most n (l++m)=(grow base most n l).bind fun k=>grow base most k m:=by
 induction l generalizing n with
 | nil=>rfl
 | cons c r ih=>
   simp only [List.cons_append,grow];split
   ·rfl
   ·exact ih _
theorem room (hb:1≤base) (n d:Int) (hn:0≤n):(most<d∨(most-d)/base<n)↔most<n*base+d:=by
 have hm:0≤n*base:=Int.mul_nonneg hn (by omega);constructor
 ·rintro (h | h)
  ·omega
  ·have:=(Int.ediv_lt_iff_lt_mul (by omega:0<base)).1 h;omega
 ·intro h;by_cases h1:most<d
  ·exact .inl h1
  ·exact .inr ((Int.ediv_lt_iff_lt_mul (by omega:0<base)).2 (by omega))
end
section
variable {b:Nat} (h2:2≤b) (h16:b≤16)
end
end Go.Proofs.YtimoakmcelocfaaGreat.Num
namespace Go.Proofs.YtimoakmcelocfaaGreat.Num
open Go.RowKit Base Oct
def str (l:List UInt8):ByteArray:=⟨l.toArray⟩
section code
set_option maxHeartbeats 800000
end code
end Go.Proofs.YtimoakmcelocfaaGreat.Num
namespace Go.Proofs.YtimoakmcelocfaaGreat.Num
open Go.RowKit Base Oct
section code
set_option maxHeartbeats 800000
end code
end Go.Proofs.YtimoakmcelocfaaGreat.Num
namespace Go.Proofs.YtimoakmcelocfaaGreat.Num
open Go.RowKit Base Oct
theorem grow_snoc (base most n:Int) (l:List UInt8) (c:UInt8):grow base most n (l ++ [c])=(grow base most n l).bind fun k=>if most<dig c∨(most-dig c)/base<k then none else some (k*base+dig c):=by rw [grow_app];rfl
def Far (B M:Int) (l:List UInt8) (n:Int) (over:Bool):Prop:=l.all (digitOf B)=true∧0≤n∧n≤M∧grow B M 0 l=if over=true then none else some n
section code
set_option maxHeartbeats 1000000
theorem rnumber_any (B:Int) (hB:B=10∨B=16) (most:Int) (hM:most≤9223372036854775807) (s:ByteArray) (w:World) (hs:s.size≤maxLen) :
 Calls Tryz.prog 125 #[.string s,.int .i64 B,.int .i64 most] w fun e w'=>e=.returned (.tuple #[.int .i64 (readOf B most s.data.toList).1,.int .i64 (readOf B most s.data.toList).2])∧w'=w:=by
 unfold maxLen at hs;by_cases h:s.data.toList= []
 ·have e1:s.toList= []:=by rw [Go.ByteArray.toList_eq,h]
  rw [h];go_enter Tryz.func125,Tryz.ntmps125;go_wp2_with fail;go_ret2;exact ⟨rfl,rfl⟩
 ·have hne:s.toList.isEmpty=false:=by rw [Go.ByteArray.toList_eq];simpa using h
  have hne':s.data.toList.isEmpty=false:=by simpa using h
  have hp:0<s.size:=by
   rcases Nat.eq_zero_or_pos s.size with h0 | h0
   ·exact absurd (List.eq_nil_of_length_eq_zero (by simpa using h0)) h
   ·exact h0
  have hR:readOf B most s.data.toList=if (!s.data.toList.all (digitOf B))=true then (0,22) else ofGrow (grow B (max most 0) 0 s.data.toList):=by unfold readOf;rw [hne'];rfl
  clear hne' h;have hm0:0≤max most 0:=by omega
  have hm1:max most 0≤9223372036854775807:=by omega
  generalize hmx:max most 0=M at *;obtain ⟨R,hRR⟩:∃R,R=readOf B most s.data.toList:=⟨_,rfl⟩;rw [←hRR] at hR ⊢;clear hRR;have HR:=Lib.hid hR;clear hR;go_enter Tryz.func125,Tryz.ntmps125;go_wp2_with fail
  go_loop [8,9,10] (fun x o i=>∃(k:Nat) (n:Int) (over:Bool),k≤s.size∧x=.int .i64 n∧o=.bool over∧i=.int .i64 k∧Hid (Far B M (s.data.toList.take k) n over)) (fun _ _ i=>s.size-(intOf i).toNat)
  case atStart=>exact ⟨0,0,false,Nat.zero_le _,rfl,rfl,rfl,Lib.hid ⟨rfl,Int.le_refl _,hm0,rfl⟩⟩
  case round=>
   obtain ⟨k,n,over,hk,rfl,rfl,rfl,hfar⟩:=hrel;rcases Nat.lt_or_ge k s.size with hlt | hge
   ·have HS:=Lib.hid (take_snoc s k hlt);have b1:=byte_lt s[k];have b0:(0:Int)≤(s[k].toNat:Int):=by omega
    obtain ⟨d,hd⟩:∃d,d=dig s[k]:=⟨_,rfl⟩;obtain ⟨x,hx⟩:∃x,x=isHex (s[k].toNat:Int):=⟨_,rfl⟩
    have hxd:Hid (∀w,Calls Tryz.prog 114 #[.int .u8 (s[k].toNat:Int)] w fun e w'=>e=.returned (.tuple #[.int .i64 d,.bool x])∧w'=w):=Lib.hid (fun w=>by rw [hd,hx];exact rhex_any _ w b0 b1);have d0:0≤d:=by rw [hd];exact dig_nonneg _
    have d1:d≤15:=by rw [hd];exact dig_le _
    have hdig:digitOf B s[k]=(x&&decide (d<B)):=by rw [hd,hx];rfl
    have n0:=hfar.out.2.1;have n1:=hfar.out.2.2.1;have HD:=Lib.hid hd;have HG:=Lib.hid hdig
    have HM:Hid (s[k]∈s.data.toList):=Lib.hid (byte_mem s k hlt);clear hd hx hdig
    have bad:Hid (∀_:(x&&decide (d<B))=false,R=(0,22)):=Lib.hid (fun hb=>by
     have hf:s.data.toList.all (digitOf B)=false:=by rw [Bool.eq_false_iff];intro ha;rw [List.all_eq_true] at ha;have:=ha _ HM.out;rw [HG.out,hb] at this;cases this
     rw [HR.out,hf];rfl)
    cases x with
    | false=>
      go_wp2_with (go_at_call 114;with_reducible refine (hxd.out _).mono ?_;rintro e w' ⟨rfl,rfl⟩);go_ret2;rw [bad.out rfl];exact ⟨rfl,rfl⟩
    | true=>
      by_cases hdB:d<B
      ·have step:Hid (∀n' o',(over=false→¬(M<d∨(M-d)/B<n)→n'=n*B+d∧o'=false)→(over=true∨(M<d∨(M-d)/B<n)→n'=n∧o'=true)→Far B M (s.data.toList.take (k+1)) n' o'):=Lib.hid (fun n' o' h1 h2=>by
        obtain ⟨f1,f2,f3,f4⟩:=hfar.out;have hall:(s.data.toList.take (k+1)).all (digitOf B)=true:=by rw [HS.out,List.all_append,f1];simp [HG.out,hdB]
        cases over with
        | true=>
          obtain ⟨rfl,rfl⟩:=h2 (.inl rfl);refine ⟨hall,f2,f3,?_⟩;rw [HS.out,grow_snoc,f4];rfl
        | false=>
          by_cases hc:M<d∨(M-d)/B<n
          ·obtain ⟨rfl,rfl⟩:=h2 (.inr hc);refine ⟨hall,f2,f3,?_⟩;rw [HS.out,grow_snoc,f4,←HD.out];simp [hc]
          ·obtain ⟨rfl,rfl⟩:=h1 rfl hc;have hmul:n*B+d≤M:=by
            have:=room (base:=B) (most:=M) (by omega) n d f2;omega
           have hnb:0≤n*B:=Int.mul_nonneg f2 (by omega);refine ⟨hall,by omega,hmul,?_⟩;rw [HS.out,grow_snoc,f4,←HD.out];simp [hc])
       have hdB':(decide (d≥B))=false:=by simp;omega
       cases over with
       | true=>
         go_wp2_with (go_at_call 114;with_reducible refine (hxd.out _).mono ?_;rintro e w' ⟨rfl,rfl⟩);go_round
         case rel=>exact ⟨k+1,n,true,by omega,rfl,rfl,by go_num,Lib.hid (step.out _ _ (fun h=>by cases h) (fun _=>⟨rfl,rfl⟩))⟩
         case measure=>simp [intOf];omega
       | false=>
         by_cases hA:M<d
         ·obtain ⟨q,hq⟩:∃q,q=(M-d).tdiv B:=⟨_,rfl⟩
          have w1:IntKind.i64.wrap (M-d)=M-d:=wrap_in _ (by omega) (by omega);have w1':wrap64 (M-d)=M-d:=by unfold wrap64;omega
          have q1: -15≤q∧q≤0:=by
           have e:(M-d).tdiv B= -((d-M).tdiv B):=by rw [←Int.neg_tdiv];congr 1;omega
           have e2:(d-M).tdiv B=(d-M)/B:=Int.tdiv_eq_ediv_of_nonneg (by omega);rw [e,e2] at hq;rcases hB with rfl | rfl<;>omega
          have w3:IntKind.i64.wrap q=q:=wrap_in _ (by omega) (by omega);have w3':wrap64 q=q:=by unfold wrap64;omega
          have w2:=hq.symm;clear hq;have hB0:¬B=0:=by omega
          go_wp2_with (go_at_call 114;with_reducible refine (hxd.out _).mono ?_;rintro e w' ⟨rfl,rfl⟩);all_goals
           go_round
           case rel=>exact ⟨k+1,n,true,by omega,rfl,rfl,by go_num,Lib.hid (step.out _ _ (fun _ h=>absurd (Or.inl hA) h) (fun _=>⟨rfl,rfl⟩))⟩
           case measure=>simp [intOf];omega
         ·have w1:IntKind.i64.wrap (M-d)=M-d:=wrap_in _ (by omega) (by omega);have w1':wrap64 (M-d)=M-d:=by unfold wrap64;omega
          have w2:(M-d).tdiv B=(M-d)/B:=Int.tdiv_eq_ediv_of_nonneg (by omega)
          have w3:IntKind.i64.wrap ((M-d)/B)=(M-d)/B:=wrap_in _ (by rcases hB with rfl | rfl<;>omega) (by rcases hB with rfl | rfl<;>omega);have w3':wrap64 ((M-d)/B)=(M-d)/B:=by rw [←w3,IntKind.wrap_i64];unfold wrap64;rcases hB with rfl | rfl<;>omega
          have hB0:¬B=0:=by omega
          by_cases hC:(M-d)/B<n
          ·go_wp2_with (go_at_call 114;with_reducible refine (hxd.out _).mono ?_;rintro e w' ⟨rfl,rfl⟩);go_round
           case rel=>exact ⟨k+1,n,true,by omega,rfl,rfl,by go_num,Lib.hid (step.out _ _ (fun _ h=>absurd (Or.inr hC) h) (fun _=>⟨rfl,rfl⟩))⟩
           case measure=>simp [intOf];omega
          ·have hmul:n*B+d≤M:=by
            have:=room (base:=B) (most:=M) (by omega) n d n0;omega
           have hnb:0≤n*B:=Int.mul_nonneg n0 (by omega)
           have m1:IntKind.i64.wrap (n*B)=n*B:=wrap_in _ (by omega) (by omega)
           have m2:IntKind.i64.wrap (n*B+d)=n*B+d:=wrap_in _ (by omega) (by omega)
           go_wp2_with (go_at_call 114;with_reducible refine (hxd.out _).mono ?_;rintro e w' ⟨rfl,rfl⟩);go_round
           case rel=>exact ⟨k+1,n*B+d,false,by omega,by go_num,rfl,by go_num,Lib.hid (step.out _ _ (fun _ _=>⟨rfl,rfl⟩) (fun h=>by rcases h with h | h;cases h;omega))⟩
           case measure=>simp [intOf];omega
      ·have hdB':B≤d:=by omega
       go_wp2_with (go_at_call 114;with_reducible refine (hxd.out _).mono ?_;rintro e w' ⟨rfl,rfl⟩);go_ret2;rw [bad.out (by simp [hdB])];exact ⟨rfl,rfl⟩
   ·have fin:Hid (R=ofGrow (if over=true then none else some n)):=Lib.hid (by
     obtain ⟨f1,_,_,f4⟩:=hfar.out;rw [take_all s k hge] at f1 f4;rw [HR.out,f1,f4];rfl)
    cases over with
    | true=>
      go_wp2_with fail;go_ret2;rw [fin.out];exact ⟨rfl,rfl⟩
    | false=>
      go_wp2_with fail;go_ret2;rw [fin.out];exact ⟨rfl,rfl⟩
end code
end Go.Proofs.YtimoakmcelocfaaGreat.Num
namespace Go.Proofs.YtimoakmcelocfaaGreat.Num
open Go.RowKit Base Oct
section code
set_option maxHeartbeats 1000000
theorem rdec_any (most:Int) (hM:most≤9223372036854775807) (s:ByteArray) (w:World) (hs:s.size≤maxLen) :
 Calls Tryz.prog 119 #[.string s,.int .i64 most] w fun e w'=>e=.returned (.tuple #[.int .i64 (readOf 10 most s.data.toList).1,.int .i64 (readOf 10 most s.data.toList).2])∧w'=w:=by
 have h:=Lib.hid (fun w=>rnumber_any 10 (by omega) most hM s w hs);generalize readOf 10 most s.data.toList=R at h ⊢;go_enter Tryz.func119,Tryz.ntmps119
 go_wp2_with (go_at_call 125;with_reducible refine (h.out _).mono ?_;rintro e w1 ⟨rfl,rfl⟩);go_ret2;exact ⟨rfl,rfl⟩
theorem rhexN_any (most:Int) (hM:most≤9223372036854775807) (s:ByteArray) (w:World) (hs:s.size≤maxLen) :
 Calls Tryz.prog 112 #[.string s,.int .i64 most] w fun e w'=>e=.returned (.tuple #[.int .i64 (readOf 16 most s.data.toList).1,.int .i64 (readOf 16 most s.data.toList).2])∧w'=w:=by
 have h:=Lib.hid (fun w=>rnumber_any 16 (by omega) most hM s w hs);generalize readOf 16 most s.data.toList=R at h ⊢;go_enter Tryz.func112,Tryz.ntmps112
 go_wp2_with (go_at_call 125;with_reducible refine (h.out _).mono ?_;rintro e w1 ⟨rfl,rfl⟩);go_ret2;exact ⟨rfl,rfl⟩
end code
end Go.Proofs.YtimoakmcelocfaaGreat.Num
namespace Go.Proofs.YtimoakmcelocfaaGreat.Tgt
open Go.RowKit Base Txt
def cutAt (c:UInt8):List UInt8→List UInt8 × List UInt8 × Bool
 | []=>([],[],false)
 | b::l=>if b=c then ([],l,true) else (b::(cutAt c l).1,(cutAt c l).2.1,(cutAt c l).2.2)
theorem cutAt_none (c:UInt8):∀l:List UInt8,c∉l→cutAt c l=(l,[],false)
 | [],_=>rfl
 | b::l,h=>by
   simp only [List.mem_cons,not_or] at h;rw [cutAt,if_neg (fun e=>h.1 e.symm),cutAt_none c l h.2]
theorem cutAt_app (c:UInt8):∀(a r:List UInt8),c∉a→cutAt c (a++c::r)=(a,r,true)
 | [],r,_=>by rw [List.nil_append,cutAt,if_pos rfl]
 | b::a,r,h=>by
   simp only [List.mem_cons,not_or] at h;rw [List.cons_append,cutAt,if_neg (fun e=>h.1 e.symm),cutAt_app c a r h.2]
theorem cut_cases (c:UInt8):∀l:List UInt8,c∉l∨∃a r,l=a++c::r∧c∉a
 | []=>.inl (by simp)
 | b::l=>by
   by_cases h:b=c
   ·exact .inr ⟨[],l,by rw [h];rfl,by simp⟩
   ·rcases cut_cases c l with h1 | ⟨a,r,h1,h2⟩
    ·exact .inl (by simp only [List.mem_cons,not_or];exact ⟨fun e=>h e.symm,h1⟩)
    ·exact .inr ⟨b::a,r,by rw [h1];rfl,by simp only [List.mem_cons,not_or];exact ⟨fun e=>h e.symm,h2⟩⟩
theorem cutAt_le (c:UInt8) (l:List UInt8):(cutAt c l).1.length≤l.length∧(cutAt c l).2.1.length≤l.length:=by
 rcases cut_cases c l with h | ⟨a,r,rfl,h⟩
 ·rw [cutAt_none c l h];simp
 ·rw [cutAt_app c a r h];simp;omega
section code
set_option maxHeartbeats 8000000
set_option maxRecDepth 1000000
end code
end Go.Proofs.YtimoakmcelocfaaGreat.Tgt
namespace Go.Proofs.YtimoakmcelocfaaGreat.Txt
open Go.RowKit Base Oct
theorem byte_info:(Tryz.prog.info? 5).map (fun i=>(i.zero,i.size,i.bytes))=some (some (.int .u8 0),1,1):=by kernel_rfl
theorem text_info:(Tryz.prog.info? 9).map (fun i=>(i.zero,i.size,i.bytes))=some (some (.string ByteArray.empty),1,16):=by kernel_rfl
def mix (l:List UInt8) (k:Nat):List UInt8:=low (l.take k)++l.drop k
def bcells (l:List UInt8):List Value:=l.map fun b=>Value.int .u8 b.toNat
theorem mix_zero (l:List UInt8):mix l 0=l:=by simp [mix,low]
theorem mix_all (l:List UInt8) (k:Nat) (h:l.length≤k):mix l k=low l:=by unfold mix;rw [List.take_of_length_le h,List.drop_eq_nil_of_le h,List.append_nil]
theorem mix_length (l:List UInt8) (k:Nat):(mix l k).length=l.length:=by unfold mix low;simp;omega
section code
set_option maxHeartbeats 1000000
theorem blank_is (x:UInt8):Oct.blank (x.toNat:Int)=blank x:=by
 rw [Bool.eq_iff_iff];simp only [Oct.blank,blank,Bool.or_eq_true,decide_eq_true_eq,beq_iff_eq];constructor
 ·rintro (h | h)
  ·exact Or.inl (UInt8.toNat_inj.1 (by show x.toNat=32;omega))
  ·exact Or.inr (UInt8.toNat_inj.1 (by show x.toNat=9;omega))
 ·rintro (rfl | rfl)<;>decide
end code
end Go.Proofs.YtimoakmcelocfaaGreat.Txt
namespace Go.Proofs.YtimoakmcelocfaaGreat.Txt
open Go.RowKit Base Oct
def isIn (set:ByteArray) (x:UInt8):Bool:=set.data.toList.contains x
def trimOf (s set:ByteArray):ByteArray:=trimB (isIn set) s
def marks (l:List UInt8):List Value:=(List.range 256).map fun j=>Value.bool (l.any fun b=>b.toNat==j)
section code
set_option maxHeartbeats 1000000
end code
end Go.Proofs.YtimoakmcelocfaaGreat.Txt
namespace Go.Proofs.YtimoakmcelocfaaGreat.Txt
open Go.RowKit Base Oct
theorem field_info:(Tryz.prog.info? 106).map (fun i=>(i.zero,i.size,i.bytes))=some (some (.agg #[.string ByteArray.empty,.string ByteArray.empty]),2,32):=by kernel_rfl
def room (vs:List ByteArray):Nat:=(vs.map fun v=>v.size+1).sum
theorem partsOf_le (v:ByteArray):(partsOf v).length≤v.size+1:=by unfold partsOf;rw [List.length_map];have:=parts_le 44 v.data.toList;rwa [len] at this
theorem list_le:∀vs:List ByteArray,(list vs).length≤room vs
 | []=>by simp [list,room]
 | v::vs=>by
   have h1:=partsOf_le v;have h2:=list_le vs;simp only [list,room,List.flatMap_cons,List.length_append,List.map_cons,List.sum_cons] at *;omega
theorem room_mem:∀(vs:List ByteArray) (v:ByteArray),v∈vs→v.size+1≤room vs
 | u::vs,v,h=>by
   rw [room,List.map_cons,List.sum_cons];rcases List.mem_cons.1 h with rfl | h
   ·omega
   ·have:=room_mem vs v h;rw [room] at this;omega
theorem len_room:∀vs:List ByteArray,vs.length≤room vs
 | []=>Nat.zero_le _
 | v::vs=>by have:=len_room vs;rw [room] at *;rw [List.map_cons,List.sum_cons,List.length_cons];omega
theorem partsOf_map (x:ByteArray):partsOf x=((parts 44 x.data.toList).map ba).map trim:=by rw [partsOf,List.map_map];rfl
theorem list_take_le (vs:List ByteArray) (k:Nat):(list (vs.take k)).length≤(list vs).length:=by
 conv=>rhs;rw [←List.take_append_drop k vs]
 unfold list;rw [List.flatMap_append,List.length_append];omega
theorem list_snoc (vs:List ByteArray) (k:Nat) (h:k<vs.length):list (vs.take (k+1))=list (vs.take k)++partsOf (vs[k]?.getD ByteArray.empty):=by rw [strs_snoc vs k h];unfold list;simp
section code
set_option maxHeartbeats 1000000
set_option maxRecDepth 10000
end code
end Go.Proofs.YtimoakmcelocfaaGreat.Txt
namespace Go.Proofs.YtimoakmcelocfaaGreat.Txt
open Go.RowKit Base Oct
theorem ba_beq (a b:ByteArray):(a.toList==b.toList)=decide (a=b):=by rw [Lib.toList_data,Lib.toList_data,Bool.eq_iff_iff,beq_iff_eq,decide_eq_true_eq];exact ⟨ba_ext,fun h=>by rw [h]⟩
theorem toList_iff (a b:ByteArray):a.toList=b.toList↔a=b:=by rw [Lib.toList_data,Lib.toList_data];exact ⟨ba_ext,fun h=>by rw [h]⟩
theorem take_eq_snoc {α:Type} (d:α) (xs ys:List α) (k:Nat) (hx:k<xs.length) (hy:k<ys.length) (h:xs.take k=ys.take k) (e:xs[k]?.getD d=ys[k]?.getD d):xs.take (k+1)=ys.take (k+1):=by
 rw [List.take_succ_eq_append_getElem hx,List.take_succ_eq_append_getElem hy,h];rw [List.getElem?_eq_getElem hx,List.getElem?_eq_getElem hy] at e
 congr 2
theorem ne_of_at {α:Type} (d:α) (xs ys:List α) (k:Nat) (e:¬xs[k]?.getD d=ys[k]?.getD d):xs≠ys:=fun h=>e (by rw [h])
theorem neq_field (x y:Fld) (w:World):(binOp .neq 106 (.agg #[.string x.1,.string x.2]) (.agg #[.string y.1,.string y.2])).run Tryz.prog w=.ok (.bool (!decide (x=y))) w:=by
 have u9:=Tryz.underlying9;have a9:=Tryz.isAgg9;have z9:=Tryz.sizeOf9;have hS:Tryz.prog.underlying 106=some (.struct (Tryz.prog.fieldsOf 106)):=by kernel_rfl
 have hp:Tryz.prog.stoodInHeld 106=false:=by kernel_rfl
 obtain ⟨x1,x2⟩:=x;obtain ⟨y1,y2⟩:=y;rw [run_neq_struct,show (10000:Nat)=9999+1 from rfl,run_equalIn_agg w 9999 106 _ _ hS hp];simp only [Program.fieldsOf,Tryz.underlying106];go_simp;by_cases h1:x1=y1<;>by_cases h2:x2=y2<;>simp [h1,h2,toList_iff]
theorem guard_field (op:BinOp) (a b:Operand) (x y:Fld) (w:World):(eqGuard op 106 a b (.agg #[.string x.1,.string x.2]) (.agg #[.string y.1,.string y.2])).run Tryz.prog w=.ok () w:=
 run_eqGuard_agg w op 106 a b _ _ (by kernel_rfl)
section code
set_option maxHeartbeats 1000000
theorem rfields_any (a:Option Addr) (n cap:Nat) (xs:List Fld) (b:Option Addr) (m cap2:Nat) (ys:List Fld) (w:World) (hx:Flds w a n xs) (hy:Flds w b m ys) (hn:n≤1000000000) (hm:m≤1000000000) :
 Calls Tryz.prog 58 #[.slice a n cap,.slice b m cap2] w fun e w'=>e=.returned (.bool (decide (xs=ys)))∧∃q,w'=w.drewN q:=by
 have HX:=Lib.hid hx;have HY:=Lib.hid hy;have HLX:=Lib.hid hx.1;have HLY:=Lib.hid hy.1;clear hx hy;by_cases hl:n=m
 ·subst hl;go_enter Tryz.func58,Tryz.ntmps58;go_wp2
  go_loopw [5] (fun i wr=>∃k q:Nat,k≤n∧i=.int .i64 k∧wr=w.drewN q∧Hid (xs.take k=ys.take k)) (fun i _=>n-(intOf i).toNat)
  case atStart=>exact ⟨0,0,Nat.zero_le _,rfl,rfl,Lib.hid rfl⟩
  case round=>
   obtain ⟨k,q,hk,rfl,rfl,hsm⟩:=hrel;rcases Nat.lt_or_ge k n with hlt | hge
   ·obtain ⟨b1,o1,rfl,_,hc⟩:=HX.out.2 (by omega);obtain ⟨hc0,hc1⟩:=hc k hlt;clear hc
    obtain ⟨b2,o2,rfl,_,hd⟩:=HY.out.2 (by omega);obtain ⟨hd0,hd1⟩:=hd k hlt;clear hd;have i1:(k:Int)<(n:Int):=by omega
    have hnq:=neq_field (xs[k]?.getD dflt) (ys[k]?.getD dflt)
    have hgd:=fun op a b=>guard_field op a b (xs[k]?.getD dflt) (ys[k]?.getD dflt);by_cases he:xs[k]?.getD dflt=ys[k]?.getD dflt
    ·have hT:=Lib.hid (take_eq_snoc dflt xs ys k (by rw [HLX.out];exact hlt) (by rw [HLY.out];exact hlt) hsm.out he);rw [he,decide_eq_true rfl] at hnq;rw [he] at hgd hc0 hc1;clear he;generalize (ys[k]?.getD dflt)=y at *;go_wp2_with fail
     go_quiet (fail);rename_i nq;go_wp2;go_roundw
     case rel=>first | exact ⟨k+1,q+nq,by omega,by go_num,(World.drewN_drewN _ _ _).symm ▸ rfl,hT⟩ | exact ⟨k+1,q+nq,by omega,by go_num,by rw [World.drewN_drewN],hT⟩ | exact ⟨k+1,q+nq,by omega,by go_num,rfl,hT⟩
     case measure=>simp [intOf];omega
    ·rw [decide_eq_false he] at hnq
     have hF:=Lib.hid (ne_of_at dflt xs ys k he);clear he;generalize (xs[k]?.getD dflt)=x at *;generalize (ys[k]?.getD dflt)=y at *;go_wp2_with fail
     go_quiet (fail);rename_i nq;go_wp2;go_ret;refine ⟨by rw [decide_eq_false hF.out];rfl,q+nq,?_⟩;first | rfl | rw [World.drewN_drewN]
   ·obtain rfl:k=n:=by omega
    go_wp2;go_ret;have e:=hsm.out;rw [List.take_of_length_le (by rw [HLX.out];exact Nat.le_refl _),List.take_of_length_le (by rw [HLY.out];exact Nat.le_refl _)] at e;refine ⟨by rw [decide_eq_true e];rfl,q,rfl⟩
 ·have hne:xs≠ys:=fun h=>hl (by rw [←HLX.out,←HLY.out,h]);have hl':¬(n:Int)=(m:Int):=by omega
  have HN:=Lib.hid hne;clear hne;go_enter Tryz.func58,Tryz.ntmps58;go_wp2;go_ret;exact ⟨by rw [decide_eq_false HN.out];rfl,0,rfl⟩
end code
end Go.Proofs.YtimoakmcelocfaaGreat.Txt
namespace Go.Proofs.YtimoakmcelocfaaGreat.Tgt
open Go.RowKit Base Oct Num Txt
def nameMarks:List UInt8:= [45,46,95,126]
def pathMarks:List UInt8:= [45,46,95,126,33,36,38,39,40,41,42,43,44,59,61,58,64,47]
def queryMarks:List UInt8:= [45,46,95,126,33,36,38,39,40,41,42,43,44,59,61,58,64,47,63]
def plainB (ms:List UInt8) (c:UInt8):Bool:=Oct.letter (c.toNat:Int)||Oct.digit (c.toNat:Int)||ms.contains c
def hexB (c:UInt8):Bool:=Oct.isHex (c.toNat:Int)
def okAt (ms:List UInt8) (c:UInt8):List UInt8→Bool
 | a::b :: _=>if c=37 then hexB a&&hexB b else plainB ms c
 | _=>plainB ms c
def written (ms:List UInt8):List UInt8→Bool
 | []=>true
 | c::r=>okAt ms c r&&written ms r
theorem okAt_plain (ms:List UInt8) (c:UInt8) (r:List UInt8) (h:c≠37):okAt ms c r=plainB ms c:=by
 unfold okAt;split
 ·rw [if_neg h]
 ·rfl
def nameOk (l:List UInt8):Bool:=!l.isEmpty&&(decide (l.length≤255)&&l.all (plainB nameMarks))
def portOk (l:List UInt8):Bool:=decide (l.length≤5)&&decide ((readOf 10 65535 l).2=0)
def hostB (l:List UInt8):Bool:=nameOk (cutAt 58 l).1&&(!(cutAt 58 l).2.2||portOk (cutAt 58 l).2.1)
def pathB (l:List UInt8):Bool:=decide (l.head?=some 47)&&written pathMarks l
def queryB (l:List UInt8):Bool:=written queryMarks l
theorem port_no_colon {l:List UInt8} (h:portOk l=true):(58:UInt8)∉l:=by
 intro hm;simp only [portOk,Bool.and_eq_true,decide_eq_true_eq] at h;have hall:l.all (digitOf 10)=false:=by rw [List.all_eq_false];exact ⟨58,hm,by decide +kernel⟩
 rw [readOf,hall] at h;simp at h
structure Tg where
 form:Nat
 host:List UInt8
 path:List UInt8
 query:List UInt8
 asked:Bool
deriving DecidableEq
def none':Tg:=⟨0,[],[],[],false⟩
def ended (c:UInt8):Bool:=c==47||c==63
def http:List UInt8:= [104,116,116,112,58,47,47]
def origin (l:List UInt8):Option Tg:=if (pathB (cutAt 63 l).1&&queryB (cutAt 63 l).2.1)=true then some ⟨1,[],(cutAt 63 l).1,(cutAt 63 l).2.1,(cutAt 63 l).2.2⟩ else none
def slashed (l:List UInt8):List UInt8:=if l.head?=some 47 then l else 47::l
def hostOf (l:List UInt8):List UInt8:=l.takeWhile fun c=>!ended c
def restOf (l:List UInt8):List UInt8:=l.dropWhile fun c=>!ended c
def absolute (l:List UInt8):Option Tg:=
 match origin (slashed (restOf l)) with
 | none=>none
 | some t=>if hostB (hostOf l)=true then some ⟨2,hostOf l,t.path,t.query,t.asked⟩ else none
def authority (l:List UInt8):Option Tg:=if (l.contains 58&&hostB l)=true then some ⟨3,l,[],[],false⟩ else none
def connect:List UInt8:= [67,79,78,78,69,67,84]
def options:List UInt8:= [79,80,84,73,79,78,83]
def schemed (l:List UInt8):Bool:=decide (7≤l.length)&&(low (l.take 7)==low http)
def parse (m l:List UInt8):Option Tg:=
 if m=connect then authority l
 else if m=options∧l= [42] then some ⟨4,[],[],[],false⟩
 else if l.head?=some 47 then origin l
 else if schemed l=true then absolute (l.drop 7)
 else none
def putPath (t:Tg):List UInt8:=if t.asked=true then t.path++63::t.query else t.path
def put (t:Tg):List UInt8:=
 if t.form=1 then putPath t
 else if t.form=2 then http++(t.host++putPath t)
 else if t.form=3 then t.host
 else if t.form=4 then [42]
 else []
theorem putPath_origin {l:List UInt8} {t:Tg} (h:origin l=some t):putPath t=l∧t.form=1∧t.host= []:=by
 unfold origin at h;split at h
 ·obtain rfl:=Option.some.inj h;refine ⟨?_,rfl,rfl⟩;unfold putPath;rcases cut_cases 63 l with h1 | ⟨a,r,rfl,h1⟩
  ·simp only [cutAt_none 63 l h1];rfl
  ·simp only [cutAt_app 63 a r h1];rfl
 ·cases h
theorem host_cut (p:UInt8→Bool) (h r:List UInt8) (c:UInt8) (hh:∀x∈h,p x=true) (hc:p c=false):(h++c::r).takeWhile p=h∧(h++c::r).dropWhile p=c::r:=by
 induction h with
 | nil=>simp [hc]
 | cons x h ih=>
   obtain ⟨i1,i2⟩:=ih fun y hy=>hh y (by simp [hy])
   have hx:=hh x (by simp);simp only [List.cons_append,List.takeWhile_cons,List.dropWhile_cons,hx,if_true];exact ⟨by rw [i1],i2⟩
end Go.Proofs.YtimoakmcelocfaaGreat.Tgt
namespace Go.Proofs.YtimoakmcelocfaaGreat.Tgt
open Go.RowKit Base Oct Num Txt
def ends2:ByteArray:=⟨#[47,63]⟩
section code
set_option maxHeartbeats 2000000
set_option maxRecDepth 100000
end code
end Go.Proofs.YtimoakmcelocfaaGreat.Tgt
namespace Go.Proofs.YtimoakmcelocfaaGreat.Tgt
open Go.RowKit Base Oct Num Txt
section code
set_option maxHeartbeats 8000000
set_option maxRecDepth 1000000
end code
end Go.Proofs.YtimoakmcelocfaaGreat.Tgt
namespace Go.Proofs.YtimoakmcelocfaaGreat.Tgt
open Go.RowKit Base Oct Num Txt
theorem size_cons {s:ByteArray} {c:UInt8} {r:List UInt8} (h:s.data.toList=c::r):s.size=r.length+1:=by rw [←len,h];rfl
theorem empty_of {s:ByteArray} (h:s.data.toList= []):s.toList.isEmpty=true:=by rw [Lib.toList_data,h];rfl
theorem full_of {s:ByteArray} {c:UInt8} {r:List UInt8} (h:s.data.toList=c::r):s.toList.isEmpty=false:=by rw [Lib.toList_data,h];rfl
theorem ba_list (l:List UInt8):(ba l).data.toList=l:=rfl
theorem ba_size (l:List UInt8):(ba l).size=l.length:=len_mk l
theorem at_zero {s:ByteArray} {c:UInt8} {r:List UInt8} (h:s.data.toList=c::r) (h0:0<s.size):s[0]=c:=by have:=Lib.data_getElem? s 0 h0;rw [h] at this;exact (Option.some.inj this).symm
theorem drop_ext (s:ByteArray) (k:Nat):(s.extract k s.size).data.toList=s.data.toList.drop k:=by rw [Lib.extract_data,List.take_of_length_le (by rw [List.length_drop,len];omega)]
section code
set_option maxHeartbeats 1000000
attribute [local go_sem] Base.some_undef
end code
end Go.Proofs.YtimoakmcelocfaaGreat.Tgt
namespace Go.Proofs.YtimoakmcelocfaaGreat.Tgt
open Go.RowKit Base Oct Num Txt
abbrev tv (f:Int) (h p q:ByteArray) (a:Bool):Value:=.agg #[.int .i64 f,.string h,.string p,.string q,.bool a]
abbrev E0:ByteArray:=⟨#[]⟩
def ans:Option Tg→Value
 | none=>.tuple #[tv 0 E0 E0 E0 false,.int .i64 400]
 | some t=>.tuple #[tv t.form (ba t.host) (ba t.path) (ba t.query) t.asked,.int .i64 0]
structure Tgb (w:World) (g:Nat) (f:Int) (h p q:ByteArray) (a:Bool):Prop where
 c0:w.cell? ⟨g,0,none⟩=some (.int .i64 f)
 c1:w.cell? ⟨g,1,none⟩=some (.string h)
 c2:w.cell? ⟨g,2,none⟩=some (.string p)
 c3:w.cell? ⟨g,3,none⟩=some (.string q)
 c4:w.cell? ⟨g,4,none⟩=some (.bool a)
 z0:w.frozen? ⟨g,0,none⟩=false
 z1:w.frozen? ⟨g,1,none⟩=false
 z2:w.frozen? ⟨g,2,none⟩=false
 z3:w.frozen? ⟨g,3,none⟩=false
 z4:w.frozen? ⟨g,4,none⟩=false
theorem Tgb.below {w w':World} {g:Nat} {f:Int} {h p q:ByteArray} {a:Bool} (H:Tgb w g f h p q a) (hg:g<w.heap.size) (hb:Below w.heap.size w w'):Tgb w' g f h p q a:=
 ⟨(hb.cell (p:=⟨g,0,none⟩) hg).trans H.c0,(hb.cell (p:=⟨g,1,none⟩) hg).trans H.c1,(hb.cell (p:=⟨g,2,none⟩) hg).trans H.c2,(hb.cell (p:=⟨g,3,none⟩) hg).trans H.c3,(hb.cell (p:=⟨g,4,none⟩) hg).trans H.c4,
  (hb.frozen (p:=⟨g,0,none⟩) hg).trans H.z0,(hb.frozen (p:=⟨g,1,none⟩) hg).trans H.z1,(hb.frozen (p:=⟨g,2,none⟩) hg).trans H.z2,(hb.frozen (p:=⟨g,3,none⟩) hg).trans H.z3,(hb.frozen (p:=⟨g,4,none⟩) hg).trans H.z4⟩
theorem Tgb.new (w:World) (t:TypeId) (f:Int) (h p q:ByteArray) (a:Bool):Tgb (w.alloc (.cells #[.int .i64 f,.string h,.string p,.string q,.bool a] t)) w.heap.size f h p q a:=by
 have hh:=heap_alloc_new w (.cells #[.int .i64 f,.string h,.string p,.string q,.bool a] t);have c:∀k v,(#[Value.int .i64 f,.string h,.string p,.string q,.bool a]:Array Value)[k]?=some v→(w.alloc (.cells #[.int .i64 f,.string h,.string p,.string q,.bool a] t)).cell? ⟨w.heap.size,k,none⟩=some v:=
  fun k v e=>(cell_of_row (w.alloc _) w.heap.size k _ t (0,0) hh).trans e
 have z:∀k,(w.alloc (.cells #[.int .i64 f,.string h,.string p,.string q,.bool a] t)).frozen? ⟨w.heap.size,k,none⟩=false:=fun k=>by unfold World.frozen?;simp only [hh];simp
 exact ⟨c 0 _ rfl,c 1 _ rfl,c 2 _ rfl,c 3 _ rfl,c 4 _ rfl,z 0,z 1,z 2,z 3,z 4⟩
theorem Tgb.put {B:Nat} {w0 w:World} {g:Nat} {f:Int} {h p q:ByteArray} {a:Bool} (H:Tgb w g f h p q a) (hb:Below B w0 w) (hg:B≤g) (f':Int) (h' p' q':ByteArray) (a':Bool) :
 ∃W,((((w.setCell ⟨g,0,none⟩ (.int .i64 f')).setCell ⟨g,1,none⟩ (.string h')).setCell ⟨g,2,none⟩ (.string p')).setCell ⟨g,3,none⟩ (.string q')).setCell ⟨g,4,none⟩ (.bool a')=W∧Tgb W g f' h' p' q' a'∧Below B w0 W:=by
 obtain ⟨c0,c1,c2,c3,c4,z0,z1,z2,z3,z4⟩:=H;refine ⟨_,rfl,⟨?_,?_,?_,?_,?_,?_,?_,?_,?_,?_⟩,((((hb.setCell hg _).setCell hg _).setCell hg _).setCell hg _).setCell hg _⟩;all_goals go_simp
theorem Tgb.other {w:World} {g:Nat} {f:Int} {h p q:ByteArray} {a:Bool} (H:Tgb w g f h p q a) (g' o:Nat) (v:Value) (n2:¬g'=g):Tgb (w.setCell ⟨g',o,none⟩ v) g f h p q a:=by obtain ⟨c0,c1,c2,c3,c4,z0,z1,z2,z3,z4⟩:=H;refine ⟨?_,?_,?_,?_,?_,?_,?_,?_,?_,?_⟩;all_goals go_simp
section code
set_option maxHeartbeats 1000000
attribute [local go_sem] Base.some_undef
end code
end Go.Proofs.YtimoakmcelocfaaGreat.Tgt
namespace Go.Proofs.YtimoakmcelocfaaGreat.Tgt
open Go.RowKit Base Oct Num Txt
theorem hostOf_le (l:List UInt8):(hostOf l).length≤l.length:=(List.takeWhile_sublist _).length_le
theorem restOf_le (l:List UInt8):(restOf l).length≤l.length:=(List.dropWhile_sublist _).length_le
theorem slashed_le (l:List UInt8):(slashed l).length≤l.length+1:=by unfold slashed;split<;>simp
section code
set_option maxHeartbeats 1000000
attribute [local go_sem] Base.some_undef
theorem toList_ba (m:ByteArray) (l:List UInt8):(m.toList==l)=decide (m.data.toList=l):=by rw [Lib.toList_data,Bool.eq_iff_iff,beq_iff_eq,decide_eq_true_eq]
theorem eq_facts (m:ByteArray) (l:List UInt8) (b:Bool) (h:decide (m.data.toList=l)=b):(m.toList==l)=b∧(m.toList==(ByteArray.mk l.toArray).toList)=b:=by have h1:=toList_ba m l;rw [h] at h1;exact ⟨h1,by rw [show (ByteArray.mk l.toArray).toList=l from Lib.toList_data _];exact h1⟩
end code
end Go.Proofs.YtimoakmcelocfaaGreat.Tgt
