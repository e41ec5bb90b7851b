import Derived.Test.YtnabkcglnbdfeaaGreatDoorFed
namespace Go.Proofs.YtnabkcglnbdfeaaGreatDoor.Qk
open Go.RowKit Base
def known (c:Int):Bool:=decide (0≤c)&&decide (c<30)
def bitOf (c:Int):Nat:=if known c then 2^c.toNat else 0
def has (p:Nat) (c:Int):Bool:=known c&&p.testBit c.toNat
def ofL (zs:List Int):Nat:=zs.foldl (fun p c=>p ||| bitOf c) 0
def upTo (p n:Nat):List Int:=((List.range n).filter fun c=>p.testBit c).map fun c:Nat=>(c:Int)
def names:List (List UInt8):=
 [[101,109,112,116,121],
  [98,97,114,101,108,102],
  [98,97,114,101,99,114],
  [98,108,97,110,107,115],
  [109,105,110,111,114],
  [97,110,121,99,97,115,101],
  [110,111,118,101,114,115,105,111,110],
  [115,112,97,99,101,115],
  [99,111,110,116,114,111,108,115],
  [99,111,108,111,110,115,112,97,99,101],
  [110,97,109,101,98,121,116,101,115],
  [110,111,99,111,108,111,110],
  [110,111,110,97,109,101],
  [102,111,108,100],
  [118,97,108,117,101,98,121,116,101,115],
  [110,111,104,111,115,116],
  [109,97,110,121,104,111,115,116,115],
  [116,101,98,108,97,110,107,115],
  [116,101,108,105,115,116],
  [116,101,105,103,110,111,114,101],
  [116,101,111,108,100],
  [116,101,119,105,110,115],
  [99,108,119,105,110,115],
  [99,108,112,108,117,115],
  [99,108,99,111,109,109,97],
  [99,108,102,105,114,115,116],
  [99,108,108,97,115,116],
  [99,104,117,110,107,104,101,120],
  [99,104,117,110,107,98,108,97,110,107,115],
  [99,104,117,110,107,101,110,100]]
def nm (k:Nat):ByteArray:=⟨(names[k]?.getD []).toArray⟩
def nameOf (c:Int):ByteArray:=if known c then nm c.toNat else ByteArray.empty
def findOf (s:ByteArray):Option Nat:=names.findIdx? fun n=>n==s.data.toList
def needs (c:Int) (p:Nat) (ch old:Bool):Bool:=
 if c=6 then old else if c=17 then has p 14 else if c=18∨c=21∨c=27∨c=28∨c=29 then ch
 else if c=20 then old&&(ch||has p 19||has p 22 && !has p 21) else if c=22 then !has p 21 else if c=26 then !has p 25 else known c
theorem known_iff (c:Int):known c=true↔0≤c∧c<30:=by simp [known]
theorem bitOf_lt (c:Int):bitOf c<2^30:=by
 unfold bitOf;split
 ·rename_i h;have:=(known_iff c).1 h
  exact Nat.pow_lt_pow_right (by decide) (by omega)
 ·decide
theorem and_bitOf (p:Nat) (c:Int):(p &&& bitOf c≠0)↔has p c=true:=by
 unfold bitOf has;by_cases h:known c=true
 ·simp only [h,if_true,Bool.true_and];constructor
  ·intro h1;cases hb:p.testBit c.toNat with
   | true=>rfl
   | false=>
     exfalso;apply h1;apply Nat.eq_of_testBit_eq;intro i;rw [Nat.testBit_and,Nat.testBit_two_pow,Nat.zero_testBit];by_cases hi:c.toNat=i
     ·subst hi;simp [hb]
     ·simp [hi]
  ·intro h1 h2;have:=congrArg (·.testBit c.toNat) h2;simp [Nat.testBit_and,h1] at this
 ·simp [h]
end Go.Proofs.YtnabkcglnbdfeaaGreatDoor.Qk
namespace Go.Proofs.YtnabkcglnbdfeaaGreatDoor.Qk
open Go.RowKit Base
theorem shl_one (c:Int) (h0:0≤c) (h1:c<30):(2:Int)^c.toNat%4294967296=((2^c.toNat:Nat):Int):=by
 have h:(2:Nat)^c.toNat<2^30:=Nat.pow_lt_pow_right (by decide) (by omega);have h2:(((2:Nat)^c.toNat:Nat):Int)=(2:Int)^c.toNat:=by rw [Int.natCast_pow];rfl
 rw [←h2];clear h2;generalize (2:Nat)^c.toNat=q at *;omega
theorem shr_bit (p:Nat) (hp:p<4294967296) (n:Nat):(bits BinOp.and IntKind.u32 ((p:Int)/2^n) 1==1)=true↔p.testBit n=true:=by
 have h:((p:Int)/2^n)=((p/2^n:Nat):Int):=by rw [Int.natCast_ediv,Int.natCast_pow];rfl
 have h1:p/2^n<4294967296:=Nat.lt_of_le_of_lt (Nat.div_le_self _ _) hp;rw [h,show (1:Int)=((1:Nat):Int) from rfl,u32_and_nat _ 1 h1 (by decide),Nat.testBit_eq_decide_div_mod_eq,Nat.and_one_is_mod,beq_iff_eq,decide_eq_true_eq];omega
section code
set_option maxHeartbeats 1000000
theorem known_any (c:Int) (w:World):Calls Tryz.prog 135 #[.int .i64 c] w fun e w'=>e=.returned (.bool (known c))∧w'=w:=by
 rcases Int.lt_or_le c 0 with h | h
 ·go_enter Tryz.func135,Tryz.ntmps135;go_wp2;go_ret;exact ⟨ret_bool (by simp [known];omega),rfl⟩
 ·go_enter Tryz.func135,Tryz.ntmps135;go_wp2;go_ret;exact ⟨ret_bool (by simp [known];omega),rfl⟩
theorem bit_any (c:Int) (w:World):Calls Tryz.prog 132 #[.int .i64 c] w fun e w'=>e=.returned (.int .u32 (bitOf c:Nat))∧w'=w:=by
 have H:=Lib.hid (known_any c)
 have K:=Lib.hid (known_iff c);generalize hk:known c=k at *;cases k
 ·go_enter Tryz.func132,Tryz.ntmps132
  go_wp2_with (go_at_call 135;with_reducible refine (H.out _).mono ?_;rintro e w1 ⟨rfl,hw⟩;rw [hw];clear hw);go_ret;exact ⟨ret_int (by simp [bitOf,hk]),rfl⟩
 ·obtain ⟨h0,h1⟩:=K.out.1 rfl;go_enter Tryz.func132,Tryz.ntmps132
  go_wp2_with (go_at_call 135;with_reducible refine (H.out _).mono ?_;rintro e w1 ⟨rfl,hw⟩;rw [hw];clear hw);go_ret;exact ⟨ret_int (by simp only [bitOf,hk,if_true];exact shl_one c h0 h1),rfl⟩
theorem has_any (p:Nat) (hp:p<4294967296) (c:Int) (w:World):Calls Tryz.prog 92 #[.int .u32 p,.int .i64 c] w fun e w'=>e=.returned (.bool (has p c))∧w'=w:=by
 have H:=Lib.hid (bit_any c)
 have K:=Lib.hid (and_bitOf p c);have hb:=bitOf_lt c;generalize bitOf c=q at *;go_enter Tryz.func92,Tryz.ntmps92
 go_wp2_with (go_at_call 132;with_reducible refine (H.out _).mono ?_;rintro e w1 ⟨rfl,hw⟩;rw [hw];clear hw);go_ret;exact ⟨ret_bool (by rw [u32_and_nat p q hp (by omega),←K.out];simp),rfl⟩
theorem rhas_any (p:Nat) (hp:p<4294967296) (c:Int) (w:World):Calls Tryz.prog 53 #[.int .u32 p,.int .i64 c] w fun e w'=>e=.returned (.bool (has p c))∧w'=w:=by
 have K:=Lib.hid (known_iff c);rcases Int.lt_or_le c 0 with h | h
 ·go_enter Tryz.func53,Tryz.ntmps53;go_wp2;go_ret;exact ⟨ret_bool (by simp [has,known];omega),rfl⟩
 ·rcases Int.lt_or_le c 30 with h3 | h3
  ·go_enter Tryz.func53,Tryz.ntmps53;go_wp2;go_ret;exact ⟨ret_bool ((shr_bit p hp c.toNat).trans (by simp [has,known,h,h3])),rfl⟩
  ·go_enter Tryz.func53,Tryz.ntmps53;go_wp2;go_ret;exact ⟨ret_bool (by simp [has,known];omega),rfl⟩
theorem right_any (p:Nat) (hp:p<4294967296) (w:World):Calls Tryz.prog 70 #[.int .u32 p] w fun e w'=>e=.returned (.bool (decide (p<1073741824)))∧w'=w:=by go_enter Tryz.func70,Tryz.ntmps70;go_wp2;go_ret;exact ⟨ret_bool (by rw [beq_iff_eq,decide_eq_true_eq];omega),rfl⟩
abbrev NamesAt (w:World) (g:Nat):Prop:=g<w.heap.size∧∀k,k<30→w.cell? ⟨g,k,none⟩=some (.string (nm k))
attribute [local go_sem] Base.some_undef
end code
end Go.Proofs.YtnabkcglnbdfeaaGreatDoor.Qk
