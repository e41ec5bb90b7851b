import Derived.Test.YtnabkcglnbdfeaaGreatDoorFea
namespace Go.Proofs.YtnabkcglnbdfeaaGreatDoor.Oct
open Go.RowKit Base
def digit (n:Int):Bool:=decide (48≤n)&&decide (n≤57)
def letter (n:Int):Bool:=(decide (97≤n)&&decide (n≤122))|| (decide (65≤n)&&decide (n≤90))
def visible (n:Int):Bool:=decide (33≤n)&&decide (n≤126)
def blank (n:Int):Bool:=decide (n=32)||decide (n=9)
def control (n:Int):Bool:=decide (n<32)||decide (n=127)
def textual (n:Int):Bool:=visible n||blank n||decide (128≤n)
def marks:List UInt8:= [33,35,36,37,38,39,42,43,45,46,94,95,96,124,126]
def stands (l:List UInt8) (n:Int):Bool:=l.any fun b=>(b.toNat:Int)==n
def token (n:Int):Bool:=letter n||digit n||stands marks n
def isHex (n:Int):Bool:=digit n|| (decide (97≤n)&&decide (n≤102))|| (decide (65≤n)&&decide (n≤70))
def hexVal (n:Int):Int:=if digit n=true then n-48 else if 97≤n∧n≤102 then n-87 else if 65≤n∧n≤70 then n-55 else 0
def ofKind (n k:Int):Bool:=if k=1 then token n else if k=2 then visible n else if k=3 then blank n else if k=4 then digit n else if k=5 then isHex n else if k=6 then textual n else false
def oneOf (ks:List Int) (n:Int):Bool:=ks.any fun k=>ofKind n k
def allOf (ks:List Int) (l:List UInt8):Bool:=l.all fun b=>oneOf ks b.toNat
theorem marks_index:∀k:Fin 256,decide (0≤Lib.indexByte marks (UInt8.ofNat k.val))=stands marks (k.val:Int):=by decide +kernel
theorem index_marks (n:Int) (h0:0≤n) (h1:n≤255):(0≤Lib.indexByte [33,35,36,37,38,39,42,43,45,46,94,95,96,124,126] (UInt8.ofNat n.toNat))↔stands marks n=true:=by
 have h:=marks_index ⟨n.toNat,by omega⟩;have e:((n.toNat:Nat):Int)=n:=by omega
 simp only [e] at h;rw [←h,decide_eq_true_iff];rfl
section code
set_option maxHeartbeats 400000
theorem digit_any (n:Int) (w:World):Calls Tryz.prog 294 #[.int .u8 n] w fun e w'=>e=.returned (.bool (digit n))∧w'=w:=by
 go_enter Tryz.func294,Tryz.ntmps294;go_wp2
 all_goals (go_ret;exact ⟨ret_bool (by simp [digit]<;>omega),rfl⟩)
theorem letter_any (n:Int) (w:World):Calls Tryz.prog 331 #[.int .u8 n] w fun e w'=>e=.returned (.bool (letter n))∧w'=w:=by
 go_enter Tryz.func331,Tryz.ntmps331;go_wp2
 all_goals (go_ret;exact ⟨ret_bool (by simp [letter]<;>omega),rfl⟩)
theorem visible_any (n:Int) (w:World):Calls Tryz.prog 267 #[.int .u8 n] w fun e w'=>e=.returned (.bool (visible n))∧w'=w:=by
 go_enter Tryz.func267,Tryz.ntmps267;go_wp2
 all_goals (go_ret;exact ⟨ret_bool (by simp [visible]<;>omega),rfl⟩)
theorem blank_any (n:Int) (w:World):Calls Tryz.prog 220 #[.int .u8 n] w fun e w'=>e=.returned (.bool (blank n))∧w'=w:=by
 go_enter Tryz.func220,Tryz.ntmps220;go_wp2
 all_goals (go_ret;exact ⟨ret_bool (by simp [blank]<;>omega),rfl⟩)
theorem control_any (n:Int) (w:World):Calls Tryz.prog 268 #[.int .u8 n] w fun e w'=>e=.returned (.bool (control n))∧w'=w:=by
 go_enter Tryz.func268,Tryz.ntmps268;go_wp2
 all_goals (go_ret;exact ⟨ret_bool (by simp [control]<;>omega),rfl⟩)
theorem text_any (n:Int) (w:World):Calls Tryz.prog 323 #[.int .u8 n] w fun e w'=>e=.returned (.bool (textual n))∧w'=w:=by
 go_enter Tryz.func323,Tryz.ntmps323
 go_wp2_with (first
  |(go_at_call 267;refine (visible_any _ _).mono ?_;rintro e w' ⟨rfl,rfl⟩)
  |(go_at_call 220;refine (blank_any _ _).mono ?_;rintro e w' ⟨rfl,rfl⟩))
 all_goals (go_ret;exact ⟨ret_bool (by simp [textual, *]),rfl⟩)
theorem token_any (n:Int) (w:World) (h0:0≤n) (h1:n≤255):Calls Tryz.prog 322 #[.int .u8 n] w fun e w'=>e=.returned (.bool (token n))∧w'=w:=by
 go_enter Tryz.func322,Tryz.ntmps322
 go_wp2_with (first
  |(go_at_call 331;refine (letter_any _ _).mono ?_;rintro e w' ⟨rfl,rfl⟩)
  |(go_at_call 294;refine (digit_any _ _).mono ?_;rintro e w' ⟨rfl,rfl⟩)
  |(go_at_call 332;refine (Tryz.strings_IndexByte _ _ _).mono ?_;rintro e w' ⟨rfl,rfl⟩))
 all_goals (go_ret;exact ⟨ret_bool (by simp [token,index_marks, *]),rfl⟩)
theorem hex_any (n:Int) (w:World) (h0:0≤n) (h1:n≤255):Calls Tryz.prog 317 #[.int .u8 n] w fun e w'=>e=.returned (.tuple #[.int .i64 (hexVal n),.bool (isHex n)])∧w'=w:=by
 by_cases hd:digit n=true
 ·have hb:48≤n∧n≤57:=by simpa [digit] using hd
  obtain ⟨hb0,hb1⟩:=hb;go_enter Tryz.func317,Tryz.ntmps317
  go_wp2_with (go_at_call 294;refine (digit_any _ _).mono ?_;rintro e w' ⟨rfl,rfl⟩)
  all_goals (go_ret2;exact ⟨by simp [hexVal,isHex,hd],rfl⟩)
 ·have hd':digit n=false:=by simpa using hd
  go_enter Tryz.func317,Tryz.ntmps317
  go_wp2_with (go_at_call 294;refine (digit_any _ _).mono ?_;rintro e w' ⟨rfl,rfl⟩)
  all_goals (go_ret2;exact ⟨by simp [hexVal,isHex, *]<;>omega,rfl⟩)
theorem stands_any (n:Int) (s:ByteArray) (w:World) (hs:s.size≤maxLen):Calls Tryz.prog 197 #[.int .u8 n,.string s] w fun e w'=>e=.returned (.bool (stands s.data.toList n))∧w'=w:=by
 unfold maxLen at hs;go_enter Tryz.func197,Tryz.ntmps197;go_wp2
 go_loop [5] (fun i=>∃k:Nat,k≤s.size∧i=.int .i64 k∧Hid (stands (s.data.toList.take k) n=false)) (fun i=>s.size-(intOf i).toNat)
 case atStart=>exact ⟨0,Nat.zero_le _,rfl,rfl⟩
 case round=>
  obtain ⟨k,hk,rfl,hno⟩:=hrel;rcases Nat.lt_or_ge k s.size with hlt | hge
  ·have hsn:=take_snoc s k hlt;have HS:=Lib.hid hsn;clear hsn;go_wp2
   ·go_ret;refine ⟨ret_bool ?_,rfl⟩;have hx:((s[k].toNat:Int)==n)=true:=by assumption
    have hm:s[k]∈s.data.toList:=by
     have:=HS.out
     exact List.mem_of_mem_take (i:=k+1) (by rw [this];simp)
    simp only [true_iff,stands,List.any_eq_true];exact ⟨_,hm,hx⟩
   ·go_round
    case rel=>
     refine ⟨k+1,by omega,by go_num,?_⟩;have hx:((s[k].toNat:Int)==n)=false:=by assumption
     have:=hno.out;refine Lib.hid ?_;rw [HS.out]
     simp_all [stands]
    case measure=>simp [intOf];omega
  ·go_wp2;go_ret;have:=hno.out;rw [take_all s k (by omega)] at this;exact ⟨by rw [this];rfl,rfl⟩
theorem rdigit_any (n:Int) (w:World):Calls Tryz.prog 201 #[.int .u8 n] w fun e w'=>e=.returned (.bool (digit n))∧w'=w:=by
 go_enter Tryz.func201,Tryz.ntmps201;go_wp2
 all_goals (go_ret;exact ⟨ret_bool (by simp [digit]<;>omega),rfl⟩)
theorem rletter_any (n:Int) (w:World):Calls Tryz.prog 221 #[.int .u8 n] w fun e w'=>e=.returned (.bool (letter n))∧w'=w:=by
 go_enter Tryz.func221,Tryz.ntmps221;go_wp2
 all_goals (go_ret;exact ⟨ret_bool (by simp [letter]<;>omega),rfl⟩)
theorem rvisible_any (n:Int) (w:World):Calls Tryz.prog 200 #[.int .u8 n] w fun e w'=>e=.returned (.bool (visible n))∧w'=w:=by
 go_enter Tryz.func200,Tryz.ntmps200;go_wp2
 all_goals (go_ret;exact ⟨ret_bool (by simp [visible]<;>omega),rfl⟩)
theorem rblank_any (n:Int) (w:World):Calls Tryz.prog 130 #[.int .u8 n] w fun e w'=>e=.returned (.bool (blank n))∧w'=w:=by
 go_enter Tryz.func130,Tryz.ntmps130;go_wp2
 all_goals (go_ret;exact ⟨ret_bool (by simp [blank]<;>omega),rfl⟩)
theorem rtext_any (n:Int) (w:World):Calls Tryz.prog 202 #[.int .u8 n] w fun e w'=>e=.returned (.bool (textual n))∧w'=w:=by
 go_enter Tryz.func202,Tryz.ntmps202
 go_wp2_with (first
  |(go_at_call 200;refine (rvisible_any _ _).mono ?_;rintro e w' ⟨rfl,rfl⟩)
  |(go_at_call 130;refine (rblank_any _ _).mono ?_;rintro e w' ⟨rfl,rfl⟩))
 all_goals (go_ret;exact ⟨ret_bool (by simp [textual, *]),rfl⟩)
theorem rtoken_any (n:Int) (w:World):Calls Tryz.prog 199 #[.int .u8 n] w fun e w'=>e=.returned (.bool (token n))∧w'=w:=by
 have hsz:(ByteArray.mk #[33,35,36,37,38,39,42,43,45,46,94,95,96,124,126]).size≤maxLen:=by decide
 go_enter Tryz.func199,Tryz.ntmps199
 go_wp2_with (first
  |(go_at_call 221;refine (rletter_any _ _).mono ?_;rintro e w' ⟨rfl,rfl⟩)
  |(go_at_call 201;refine (rdigit_any _ _).mono ?_;rintro e w' ⟨rfl,rfl⟩)
  |(go_at_call 197;refine (stands_any _ _ _ (by assumption)).mono ?_;rintro e w' ⟨rfl,rfl⟩))
 all_goals (go_ret;exact ⟨ret_bool (by simp [token,marks, *]),rfl⟩)
theorem rhex_any (n:Int) (w:World) (h0:0≤n) (h1:n≤255):Calls Tryz.prog 198 #[.int .u8 n] w fun e w'=>e=.returned (.tuple #[.int .i64 (hexVal n),.bool (isHex n)])∧w'=w:=by
 by_cases hd:digit n=true
 ·have hb:48≤n∧n≤57:=by simpa [digit] using hd
  obtain ⟨hb0,hb1⟩:=hb;go_enter Tryz.func198,Tryz.ntmps198
  go_wp2_with (go_at_call 201;refine (rdigit_any _ _).mono ?_;rintro e w' ⟨rfl,rfl⟩)
  all_goals (go_ret2;exact ⟨by simp [hexVal,isHex,hd],rfl⟩)
 ·have hd':digit n=false:=by simpa using hd
  go_enter Tryz.func198,Tryz.ntmps198
  go_wp2_with (go_at_call 201;refine (rdigit_any _ _).mono ?_;rintro e w' ⟨rfl,rfl⟩)
  all_goals (go_ret2;exact ⟨by simp [hexVal,isHex, *]<;>omega,rfl⟩)
theorem ofKind_any (n k:Int) (w:World) (h0:0≤n) (h1:n≤255):Calls Tryz.prog 306 #[.int .u8 n,.int .i64 k] w fun e w'=>e=.returned (.bool (ofKind n k))∧w'=w:=by
 go_enter Tryz.func306,Tryz.ntmps306
 go_wp2_with (first
  |(go_at_call 322;refine (token_any _ _ (by assumption) (by assumption)).mono ?_;rintro e w' ⟨rfl,rfl⟩)
  |(go_at_call 267;refine (visible_any _ _).mono ?_;rintro e w' ⟨rfl,rfl⟩)
  |(go_at_call 220;refine (blank_any _ _).mono ?_;rintro e w' ⟨rfl,rfl⟩)
  |(go_at_call 294;refine (digit_any _ _).mono ?_;rintro e w' ⟨rfl,rfl⟩)
  |(go_at_call 317;refine (hex_any _ _ (by assumption) (by assumption)).mono ?_;rintro e w' ⟨rfl,rfl⟩)
  |(go_at_call 323;refine (text_any _ _).mono ?_;rintro e w' ⟨rfl,rfl⟩))
 all_goals (go_ret;exact ⟨ret_bool (by simp_all [ofKind]),rfl⟩)
theorem rofKind_any (n k:Int) (w:World) (h0:0≤n) (h1:n≤255):Calls Tryz.prog 171 #[.int .u8 n,.int .i64 k] w fun e w'=>e=.returned (.bool (ofKind n k))∧w'=w:=by
 go_enter Tryz.func171,Tryz.ntmps171
 go_wp2_with (first
  |(go_at_call 199;refine (rtoken_any _ _).mono ?_;rintro e w' ⟨rfl,rfl⟩)
  |(go_at_call 200;refine (rvisible_any _ _).mono ?_;rintro e w' ⟨rfl,rfl⟩)
  |(go_at_call 130;refine (rblank_any _ _).mono ?_;rintro e w' ⟨rfl,rfl⟩)
  |(go_at_call 201;refine (rdigit_any _ _).mono ?_;rintro e w' ⟨rfl,rfl⟩)
  |(go_at_call 198;refine (rhex_any _ _ (by assumption) (by assumption)).mono ?_;rintro e w' ⟨rfl,rfl⟩)
  |(go_at_call 202;refine (rtext_any _ _).mono ?_;rintro e w' ⟨rfl,rfl⟩))
 all_goals (go_ret;exact ⟨ret_bool (by simp_all [ofKind]),rfl⟩)
theorem oneOf_any (n:Int) (a:Option Addr) (len cap:Nat) (ks:List Int) (w:World) (h0:0≤n) (h1:n≤255) (hk:Ints w a len ks) (hl:len≤maxLen) :
 Calls Tryz.prog 289 #[.int .u8 n,.slice a len cap] w fun e w'=>e=.returned (.bool (oneOf ks n))∧w'=w:=by
 unfold maxLen at hl;have hlen:=hk.1;have HK:=Lib.hid hk;clear hk;have HL:=Lib.hid hlen;clear hlen;go_enter Tryz.func289,Tryz.ntmps289;go_wp2
 go_loop [9] (fun i=>∃k:Nat,k≤len∧i=.int .i64 k∧Hid (oneOf (ks.take k) n=false)) (fun i=>len-(intOf i).toNat)
 case atStart=>exact ⟨0,Nat.zero_le _,rfl,rfl⟩
 case round=>
  obtain ⟨k,hk,rfl,hno⟩:=hrel;rcases Nat.lt_or_ge k len with hlt | hge
  ·obtain ⟨b,off,rfl,_,hc⟩:=HK.out.2 (by omega);have hck:=hc k hlt
   have HS:=Lib.hid (ints_snoc ks k (by rw [HL.out];exact hlt));clear hc
   go_wp2_with (go_at_call 306;refine (ofKind_any _ _ _ (by assumption) (by assumption)).mono ?_;rintro e w' ⟨rfl,rfl⟩)
   ·go_ret;refine ⟨ret_bool ?_,rfl⟩;have hx:ofKind n (ks[k]?.getD 0)=true:=by assumption
    simp only [true_iff,oneOf,List.any_eq_true];exact ⟨_,List.mem_of_mem_take (i:=k+1) (by rw [HS.out];simp),hx⟩
   ·go_round
    case rel=>
     refine ⟨k+1,by omega,by go_num,Lib.hid ?_⟩;have hx:ofKind n (ks[k]?.getD 0)=false:=by assumption
     have:=hno.out;rw [HS.out]
     simp_all [oneOf]
    case measure=>simp [intOf];omega
  ·go_wp2;go_ret;have:=hno.out;rw [List.take_of_length_le (by rw [HL.out];exact hge)] at this;exact ⟨by rw [this];rfl,rfl⟩
theorem all_any (s:ByteArray) (a:Option Addr) (len cap:Nat) (ks:List Int) (w:World) (hs:s.size≤maxLen) (hk:Ints w a len ks) (hl:len≤maxLen) :
 Calls Tryz.prog 266 #[.string s,.slice a len cap] w fun e w'=>e=.returned (.bool (allOf ks s.data.toList))∧w'=w:=by
 unfold maxLen at hs;have HK:=Lib.hid hk;clear hk;have HM:=Lib.hid hl;clear hl;go_enter Tryz.func266,Tryz.ntmps266;go_wp2
 go_loop [8] (fun i=>∃k:Nat,k≤s.size∧i=.int .i64 k∧Hid (allOf ks (s.data.toList.take k)=true)) (fun i=>s.size-(intOf i).toNat)
 case atStart=>exact ⟨0,Nat.zero_le _,rfl,rfl⟩
 case round=>
  obtain ⟨k,hk,rfl,hyes⟩:=hrel;rcases Nat.lt_or_ge k s.size with hlt | hge
  ·have HS:=Lib.hid (take_snoc s k hlt);have hb:=byte_lt s[k];have hb0:(0:Int)≤(s[k].toNat:Int):=by omega
   go_wp2_with (go_at_call 289;refine (oneOf_any _ _ _ _ ks _ (by assumption) (by assumption) HK.out HM.out).mono ?_;rintro e w' ⟨rfl,rfl⟩)
   ·go_ret;refine ⟨ret_bool ?_,rfl⟩;have hx:(!oneOf ks (s[k].toNat:Int))=true:=by assumption
    simp only [Bool.false_eq_true,false_iff,allOf,List.all_eq_true];intro hall
    have:=hall _ (byte_mem s k hlt);simp [this] at hx
   ·go_round
    case rel=>
     refine ⟨k+1,by omega,by go_num,Lib.hid ?_⟩;have hx:(!oneOf ks (s[k].toNat:Int))=false:=by assumption
     have:=hyes.out;rw [HS.out]
     simp_all [allOf]
    case measure=>simp [intOf];omega
  ·go_wp2;go_ret;have:=hyes.out;rw [take_all s k hge] at this;exact ⟨by rw [this];rfl,rfl⟩
theorem rall_any (s:ByteArray) (a:Option Addr) (len cap:Nat) (ks:List Int) (w:World) (hs:s.size≤maxLen) (hk:Ints w a len ks) (hl:len≤maxLen) :
 Calls Tryz.prog 131 #[.string s,.slice a len cap] w fun e w'=>e=.returned (.bool (allOf ks s.data.toList))∧∃m,w'=w.drewN m:=by
 unfold maxLen at hs hl;have HK:=Lib.hid hk;have HL:=Lib.hid hk.1;clear hk;go_enter Tryz.func131,Tryz.ntmps131;go_wp2
 go_loopw [5] (fun i wr=>∃k:Nat,k≤s.size∧i=.int .i64 k∧Hid (allOf ks (s.data.toList.take k)=true)∧Hid (∃m,wr=w.drewN m)) (fun i _=>s.size-(intOf i).toNat)
 case atStart=>exact ⟨0,Nat.zero_le _,rfl,rfl,0,rfl⟩
 case round=>
  obtain ⟨k,hk,rfl,hyes,hw⟩:=hrel;obtain ⟨wo,rfl⟩:∃wo:World,wo=wr:=⟨_,rfl⟩;rcases Nat.lt_or_ge k s.size with hlt | hge
  ·have HS:=Lib.hid (take_snoc s k hlt);have hb:=byte_lt s[k];have hb0:(0:Int)≤(s[k].toNat:Int):=by omega
   go_wp2
   go_loopw [6,7] (fun ok j wr=>∃(q:Nat) (b:Bool),q≤len∧j=.int .i64 q∧ok=.bool b∧Hid (b=oneOf (ks.take q) (s[k].toNat:Int))∧Hid (∃m,wr=wo.drewN m)) (fun _ j _=>len-(intOf j).toNat)
   case atStart=>exact ⟨0,false,Nat.zero_le _,rfl,rfl,rfl,0,rfl⟩
   case round=>
    obtain ⟨q,b,hq,rfl,rfl,hok,hwi⟩:=hrel;rcases Nat.lt_or_ge q len with hltq | hgeq
    ·have hI:Ints wr a len ks:=by
      obtain ⟨m1,rfl⟩:=hw.out;obtain ⟨m,rfl⟩:=hwi.out;exact HK.out
     obtain ⟨bl,off,rfl,_,hc⟩:=hI.2 (by omega);have hck:=hc q hltq
     have HQ:=Lib.hid (ints_snoc ks q (by rw [HL.out];exact hltq));clear hc hI;cases b
     ·go_wp2
      go_quiet ((go_at_call 171;exact Calls.quiet_of_same (rofKind_any _ _ _ (by assumption) (by assumption))));go_wp2;go_roundw
      case rel=>
       refine ⟨q+1,_,by omega,by go_num,rfl,Lib.hid ?_,Lib.hid ?_⟩
       ·have:=hok.out;rw [HQ.out]
        simp_all [oneOf]
       ·obtain ⟨m,hm⟩:=hwi.out;exact ⟨m+nq,by rw [hm,World.drewN_drewN]⟩
      case measure=>simp [intOf];omega
     ·go_wp2
      go_quiet (fail);go_wp2;go_roundw
      case rel=>
       refine ⟨q+1,_,by omega,by go_num,rfl,Lib.hid ?_,Lib.hid ?_⟩
       ·have:=hok.out;rw [HQ.out]
        simp_all [oneOf]
       ·obtain ⟨m,hm⟩:=hwi.out;exact ⟨m+nq,by rw [hm,World.drewN_drewN]⟩
      case measure=>simp [intOf];omega
    ·have HE:Hid (oneOf (ks.take q) (s[k].toNat:Int)=oneOf ks (s[k].toNat:Int)):=by
      rw [List.take_of_length_le (by rw [HL.out];exact hgeq)];exact Lib.hid rfl
     cases b
     ·go_wp2;go_ret;refine ⟨ret_bool ?_,?_⟩
      ·have h1:=hok.out;have h2:=HE.out;simp only [Bool.false_eq_true,false_iff,allOf,List.all_eq_true];intro hall
       have:=hall _ (byte_mem s k hlt);rw [←h2,←h1] at this;cases this
      ·obtain ⟨m,hm⟩:=hwi.out;obtain ⟨m1,hm1⟩:=hw.out;exact ⟨m1+m,by rw [hm,hm1,World.drewN_drewN]⟩
     ·go_wp2;go_roundw
      case rel=>
       refine ⟨k+1,by omega,by go_num,Lib.hid ?_,Lib.hid ?_⟩
       ·have h0:=hyes.out;have h1:=hok.out;have h2:=HE.out;rw [HS.out]
        simp_all [allOf]
       ·obtain ⟨m,hm⟩:=hwi.out;obtain ⟨m1,hm1⟩:=hw.out;exact ⟨m1+m,by rw [hm,hm1,World.drewN_drewN]⟩
      case measure=>simp [intOf];omega
  ·go_wp2;go_ret;have:=hyes.out;rw [take_all s k hge] at this;exact ⟨by rw [this];rfl,hw.out⟩
end code
end Go.Proofs.YtnabkcglnbdfeaaGreatDoor.Oct
namespace Go.Proofs.YtnabkcglnbdfeaaGreatDoor.Num
open Base Oct
def dig (c:UInt8):Int:=hexVal (c.toNat:Int)
def digitOf (base:Int) (c:UInt8):Bool:=isHex (c.toNat:Int)&&decide (dig c<base)
def grow (base most:Int):Int→List UInt8→Option Int
 | n,[]=>some n
 | n,c::r=>if most<dig c∨(most-dig c)/base<n then none else grow base most (n*base+dig c) r
def ofGrow:Option Int→Int × Int
 | some n=>(n,0)
 | none=>(0,23)
def readOf (base most:Int) (l:List UInt8):Int × Int:=
 if (l.isEmpty || !l.all (digitOf base))=true then (0,22) else ofGrow (grow base (max most 0) 0 l)
def value (base:Int):Int→List UInt8→Int
 | n,[]=>n
 | n,c::r=>value base (n*base+dig c) r
def tab:List UInt8:= [48,49,50,51,52,53,54,55,56,57,97,98,99,100,101,102]
def sign (n:Nat):UInt8:=tab[n]?.getD 0
def spell (b n:Nat):List UInt8:=if _h:n<b∨b<2 then [sign n] else spell b (n/b) ++ [sign (n%b)]
 termination_by n
 decreasing_by exact Nat.div_lt_self (by omega) (by omega)
theorem dig_tab:∀k:Fin 256,0≤hexVal (k.val:Int)∧hexVal (k.val:Int)≤15:=by decide +kernel
theorem dig_nonneg (c:UInt8):0≤dig c:=(dig_tab ⟨c.toNat,c.toNat_lt⟩).1
theorem dig_le (c:UInt8):dig c≤15:=(dig_tab ⟨c.toNat,c.toNat_lt⟩).2
theorem dec_tab:∀k:Fin 256,oneOf [4] (k.val:Int)=(isHex (k.val:Int)&&decide (hexVal (k.val:Int)<10)):=by decide +kernel
theorem hex_tab:∀k:Fin 256,oneOf [5] (k.val:Int)=(isHex (k.val:Int)&&decide (hexVal (k.val:Int)<16)):=by decide +kernel
theorem all_dec (l:List UInt8):allOf [4] l=l.all (digitOf 10):=by unfold allOf;congr 1;funext c;exact dec_tab ⟨c.toNat,c.toNat_lt⟩
theorem all_hex (l:List UInt8):allOf [5] l=l.all (digitOf 16):=by unfold allOf;congr 1;funext c;exact hex_tab ⟨c.toNat,c.toNat_lt⟩
theorem dig_nought:dig 48=0:=by decide +kernel
section
variable {base most:Int}
theorem grow_noughts (hb:0<base) (hm:0≤most) (l:List UInt8):grow base most 0 (Lib.trimLeftB l 48)=grow base most 0 l:=by
 unfold Lib.trimLeftB
 induction l with
 | nil=>rfl
 | cons c r ih=>
   simp only [List.dropWhile];by_cases h:c=48
   ·subst h;have h0:¬(most<0∨(most-0)/base<0):=by
     intro h;rcases h with h | h
     ·omega
     ·have:=Int.ediv_nonneg (a:=most-0) (b:=base) (by omega) (by omega);omega
    simp only [grow,dig_nought,if_neg h0,beq_self_eq_true];simpa using ih
   ·have h':(c==48)=false:=by simpa using h
    simp only [h']
theorem value_ge (hb:1≤base) (l:List UInt8):∀n,0≤n→n≤value base n l:=by
 induction l with
 | nil=>intro n _;exact Int.le_refl _
 | cons c r ih=>
   intro n hn;have hd:=dig_nonneg c;have h1:n*1≤n*base:=Int.mul_le_mul_of_nonneg_left hb hn
   exact Int.le_trans (by omega) (ih (n*base+dig c) (by omega))
theorem room (hb:1≤base) (n d:Int) (hn:0≤n):(most<d∨(most-d)/base<n)↔most<n*base+d:=by
 have hm:0≤n*base:=Int.mul_nonneg hn (by omega);constructor
 ·rintro (h | h)
  ·omega
  ·have:=(Int.ediv_lt_iff_lt_mul (by omega:0<base)).1 h;omega
 ·intro h;by_cases h1:most<d
  ·exact .inl h1
  ·exact .inr ((Int.ediv_lt_iff_lt_mul (by omega:0<base)).2 (by omega))
theorem grow_eq (hb:1≤base) (l:List UInt8):∀n,0≤n→n≤most→grow base most n l=if value base n l≤most then some (value base n l) else none:=by
 induction l with
 | nil=>intro n _ h;simp [grow,value,h]
 | cons c r ih=>
   intro n hn hle;have hd:=dig_nonneg c
   have hm:0≤n*base:=Int.mul_nonneg hn (by omega);simp only [grow,value];by_cases h:most<n*base+dig c
   ·rw [if_pos ((room hb n _ hn).2 h)]
    have:=value_ge hb r (n*base+dig c) (by omega);exact (if_neg (fun hx=>by omega)).symm
   ·rw [if_neg (fun hx=>h ((room hb n _ hn).1 hx))]
    exact ih _ (by omega) (by omega)
theorem value_app (n:Int) (l m:List UInt8):value base n (l++m)=value base (value base n l) m:=by
 induction l generalizing n with
 | nil=>rfl
 | cons c r ih=>exact ih _
theorem value_noughts (k:Nat) (l:List UInt8):value base 0 (List.replicate k 48++l)=value base 0 l:=by
 induction k with
 | zero=>rfl
 | succ k ih=>rw [List.replicate_succ,List.cons_append,value,dig_nought];simpa using ih
end
section
theorem sign_dig:∀k:Fin 16,dig (sign k.val)=(k.val:Int):=by decide +kernel
theorem sign_hex:∀k:Fin 16,isHex ((sign k.val).toNat:Int)=true:=by decide +kernel
variable {b:Nat} (h2:2≤b) (h16:b≤16)
theorem spell_lt {n:Nat} (h:n<b):spell b n= [sign n]:=by rw [spell,dif_pos (.inl h)]
include h2
theorem spell_ge {n:Nat} (h:b≤n):spell b n=spell b (n/b) ++ [sign (n%b)]:=by rw [spell,dif_neg (by omega)]
theorem spell_ne (n:Nat):spell b n≠ []:=by
 by_cases h:n<b
 ·rw [spell_lt h];simp
 ·rw [spell_ge h2 (by omega)];simp
theorem div_less {n:Nat} (h:b≤n):n/b<n:=Nat.div_lt_self (by omega) (by omega)
theorem spell_len (k:Nat):∀n,n<2^k→1≤k→(spell b n).length≤k:=by
 induction k with
 | zero=>intro n _ h;omega
 | succ k ih=>
   intro n hn _;by_cases h:n<b
   ·rw [spell_lt h];simp
   ·rw [spell_ge h2 (by omega),List.length_append]
    have hq:n/b≤n/2:=Nat.div_le_div_left h2 (by omega);have hk:1≤k:=by
     rcases Nat.eq_zero_or_pos k with rfl | hk
     ·omega
     ·exact hk
    have:=ih (n/b) (by rw [Nat.pow_succ] at hn;omega) hk;simp;omega
include h16
theorem spell_all (n:Nat):(spell b n).all (digitOf b)=true:=by
 induction n using Nat.strongRecOn with
 | ind n ih=>
   have one:∀m,m<b→digitOf b (sign m)=true:=by intro m hm;have e1:=sign_dig ⟨m,by omega⟩;have e2:=sign_hex ⟨m,by omega⟩;simp only at e1 e2;simp only [digitOf,e1,e2,Bool.true_and,decide_eq_true_eq];omega
   by_cases h:n<b
   ·rw [spell_lt h];simp [one n h]
   ·rw [spell_ge h2 (by omega),List.all_append,ih _ (div_less h2 (by omega))];simp [one (n%b) (Nat.mod_lt _ (by omega))]
theorem spell_value (n:Nat):value b 0 (spell b n)=n:=by
 induction n using Nat.strongRecOn with
 | ind n ih=>
   by_cases h:n<b
   ·rw [spell_lt h];have e1:=sign_dig ⟨n,by omega⟩;simp only at e1;simp [value,e1]
   ·rw [spell_ge h2 (by omega),value_app,ih _ (div_less h2 (by omega))]
    have hm:n%b<b:=Nat.mod_lt _ (by omega);have e1:=sign_dig ⟨n%b,by omega⟩;simp only at e1;simp only [value,e1];have:=Nat.div_add_mod n b;rw [Nat.mul_comm] at this
    exact_mod_cast this
theorem read_spell (n k:Nat) (most:Int) (hm:0≤most):readOf b most (List.replicate k 48++spell b n)=if (n:Int)≤most then ((n:Int),0) else (0,23):=by
 have hne:(List.replicate k 48++spell b n).isEmpty=false:=by rw [List.isEmpty_eq_false_iff];simp [spell_ne h2 n]
 have h48:digitOf b 48=true:=by
  have:isHex (((48:UInt8).toNat:Nat):Int)=true:=by decide +kernel
  simp only [digitOf,this,dig_nought,Bool.true_and,decide_eq_true_eq];omega
 have hall:(List.replicate k 48++spell b n).all (digitOf b)=true:=by rw [List.all_append,spell_all h2 h16,List.all_replicate];simp [h48]
 unfold readOf;rw [hne,hall];simp only [Bool.not_true,Bool.or_false,Bool.false_eq_true,if_false];rw [grow_eq (by omega) _ 0 (Int.le_refl _) (by omega),value_noughts,spell_value h2 h16,Int.max_eq_left hm];split<;>rfl
end
end Go.Proofs.YtnabkcglnbdfeaaGreatDoor.Num
namespace Go.Proofs.YtnabkcglnbdfeaaGreatDoor.Num
open Go.RowKit Base Oct
def str (l:List UInt8):ByteArray:=⟨l.toArray⟩
theorem str_app (l m:List UInt8):str (l++m)=str l++str m:=by apply ByteArray.ext;rw [ByteArray.data_append];simp [str]
theorem str_size (l:List UInt8):(str l).size=l.length:=by simp [str,ByteArray.size]
theorem signs:∀k:Fin 16,(ByteArray.mk #[48,49,50,51,52,53,54,55,56,57,97,98,99,100,101,102]).extract k.val (k.val+1)=str [sign k.val]:=by decide +kernel
section code
set_option maxHeartbeats 800000
theorem rspell_any (b:Nat) (B:Int) (hb:b=10∧B=10∨b=16∧B=16) (k:Nat):∀(n:Int) (w:World), -9223372036854775808≤n→n<9223372036854775808→n.toNat<k→Calls Tryz.prog 152 #[.int .i64 n,.int .i64 B] w fun e w'=>e=.returned (.string (str (spell b n.toNat)))∧∃m,w'=w.drewN m:=by
 induction k with
 | zero=>intro n w _ _ h;omega
 | succ k ih=>
   intro n w hn0 hn hk;have h2:2≤b:=by omega
   by_cases h:n<B
   ·rw [spell_lt (by omega)];by_cases hz:0≤n
    ·have e1:=signs ⟨n.toNat,by omega⟩;have e2:n.toNat+1=(n+1).toNat:=by omega
     have mx:max n 0=n:=by omega
     simp only [e2] at e1;clear e2;rcases hb with ⟨rfl,rfl⟩ | ⟨rfl,rfl⟩;all_goals
      go_enter Tryz.func152,Tryz.ntmps152;go_wp2_with fail;go_ret;exact ⟨rfl,0,rfl⟩
    ·have mx:max n 0=0:=by omega
     have e1:(ByteArray.mk #[48,49,50,51,52,53,54,55,56,57,97,98,99,100,101,102]).extract 0 1=str [sign 0]:=by decide +kernel
     have e3:n.toNat=0:=by omega
     rw [e3];rcases hb with ⟨rfl,rfl⟩ | ⟨rfl,rfl⟩;all_goals
      go_enter Tryz.func152,Tryz.ntmps152;go_wp2_with fail;go_ret;exact ⟨rfl,0,rfl⟩
   ·rw [spell_ge h2 (by omega)]
    have l1:=spell_len h2 64 (n.toNat/b) (by have:=div_less h2 (by omega:b≤n.toNat);omega) (by omega)
    have h3:=Lib.hid (ih (n/B))
    have h4:=Lib.hid (ih (n%B));have hi:B≤n:=by omega
    have c1:(n/B).toNat=n.toNat/b:=by rcases hb with ⟨rfl,rfl⟩ | ⟨rfl,rfl⟩<;>omega
    have c2:(n%B).toNat=n.toNat%b:=by rcases hb with ⟨rfl,rfl⟩ | ⟨rfl,rfl⟩<;>omega
    have w1:IntKind.i64.wrap (n/B)=n/B:=wrap_in _ (by rcases hb with ⟨rfl,rfl⟩ | ⟨rfl,rfl⟩<;>omega) (by rcases hb with ⟨rfl,rfl⟩ | ⟨rfl,rfl⟩<;>omega)
    have w2:IntKind.i64.wrap (n%B)=n%B:=wrap_in _ (by rcases hb with ⟨rfl,rfl⟩ | ⟨rfl,rfl⟩<;>omega) (by rcases hb with ⟨rfl,rfl⟩ | ⟨rfl,rfl⟩<;>omega)
    have w3:(n.tdiv B)=n/B:=Int.tdiv_eq_ediv_of_nonneg (by omega)
    have w4:(n.tmod B)=n%B:=Int.tmod_eq_emod_of_nonneg (by omega)
    have hs:spell b (n%B).toNat= [sign (n%B).toNat]:=spell_lt (by rcases hb with ⟨rfl,rfl⟩ | ⟨rfl,rfl⟩<;>omega);rw [←c1,←c2];rw [←c1] at l1;have z1:(str (spell b (n/B).toNat)).size≤64:=by rw [str_size];exact l1
    have z2:(str [sign (n%B).toNat]).size=1:=rfl;have z3:¬9223372036854775807<(str (spell b (n/B).toNat)).size+(str [sign (n%B).toNat]).size:=by omega
    have hj:str (spell b (n/B).toNat ++ [sign (n%B).toNat])=str (spell b (n/B).toNat)++str [sign (n%B).toNat]:=str_app _ _;rw [hj]
    have h3':Hid (∀w,Calls Tryz.prog 152 #[.int .i64 (n/B),.int .i64 B] w fun e w'=>e=.returned (.string (str (spell b (n/B).toNat)))∧∃m,w'=w.drewN m):=Lib.hid (fun w=>h3.out w (by rcases hb with ⟨rfl,rfl⟩ | ⟨rfl,rfl⟩<;>omega) (by rcases hb with ⟨rfl,rfl⟩ | ⟨rfl,rfl⟩<;>omega) (by rcases hb with ⟨rfl,rfl⟩ | ⟨rfl,rfl⟩<;>omega))
    have h4':Hid (∀w,Calls Tryz.prog 152 #[.int .i64 (n%B),.int .i64 B] w fun e w'=>e=.returned (.string (str [sign (n%B).toNat]))∧∃m,w'=w.drewN m):=Lib.hid (fun w=>by rw [←hs];exact h4.out w (by rcases hb with ⟨rfl,rfl⟩ | ⟨rfl,rfl⟩<;>omega) (by rcases hb with ⟨rfl,rfl⟩ | ⟨rfl,rfl⟩<;>omega) (by rcases hb with ⟨rfl,rfl⟩ | ⟨rfl,rfl⟩<;>omega));generalize str (spell b (n/B).toNat)=A at *;generalize str [sign (n%B).toNat]=D at *;clear ih h h2 h3 h4 l1 hs hj c1 c2;rcases hb with ⟨rfl,rfl⟩ | ⟨rfl,rfl⟩;all_goals
     go_enter Tryz.func152,Tryz.ntmps152;go_wp2_with fail
     go_quiet ((first |(go_at_call 152;with_reducible exact Calls.quiet_of (h3'.out _)) |(go_at_call 152;with_reducible exact Calls.quiet_of (h4'.out _))));go_wp2_with fail;go_ret;exact ⟨rfl,_,rfl⟩
end code
end Go.Proofs.YtnabkcglnbdfeaaGreatDoor.Num
namespace Go.Proofs.YtnabkcglnbdfeaaGreatDoor.Num
open Go.RowKit Base Oct
theorem cut_one (s:ByteArray) (h:0<s.size):s.data.toList=s[0]::(s.extract 1 s.size).data.toList:=by
 have e:(s.extract 1 s.size).data.toList=s.data.toList.drop 1:=by rw [ByteArray.data_extract];simp only [Array.toList_extract,List.extract];rw [List.take_of_length_le (by simp)]
 rw [e];cases s with
 | mk a=>cases a with
   | mk l=>cases l with
     | nil=>exact absurd h (by decide)
     | cons c r=>rfl
section code
set_option maxHeartbeats 800000
theorem add_any (B:Int) (hB:B=10∨B=16) (most:Int) (hm:0≤most) (hM:most≤9223372036854775807) (k:Nat):∀(n:Int) (s:ByteArray) (w:World),s.size<k→0≤n→n≤most→
 Calls Tryz.prog 302 #[.int .i64 n,.string s,.int .i64 B,.int .i64 most] w fun e w'=>e=.returned (.tuple #[.int .i64 (ofGrow (grow B most n s.data.toList)).1,.int .i64 (ofGrow (grow B most n s.data.toList)).2])∧w'=w:=by
 induction k with
 | zero=>intro n s w h _ _;omega
 | succ k ih=>
   intro n s w hs hn hle;by_cases h:s.size=0
   ·have e0:s.data.toList= []:=by
     apply List.eq_nil_of_length_eq_zero;simpa using h
    have e1:s.toList= []:=by rw [Go.ByteArray.toList_eq,e0]
    rw [e0];clear ih;go_enter Tryz.func302,Tryz.ntmps302;go_wp2_with fail;go_ret2;exact ⟨rfl,rfl⟩
   ·have hp:0<s.size:=by omega
    have hne:s.toList.isEmpty=false:=by rw [Go.ByteArray.toList_eq,cut_one s hp];rfl
    have b1:=byte_lt s[0];have b0:(0:Int)≤(s[0].toNat:Int):=by omega
    obtain ⟨d,hd⟩:∃d,d=dig s[0]:=⟨_,rfl⟩
    have hx:Hid (∀w,Calls Tryz.prog 317 #[.int .u8 (s[0].toNat:Int)] w fun e w'=>e=.returned (.tuple #[.int .i64 d,.bool (isHex (s[0].toNat:Int))])∧w'=w):=Lib.hid (fun w=>by rw [hd];exact hex_any _ w b0 b1);have d0:0≤d:=by rw [hd];exact dig_nonneg _
    have d1:d≤15:=by rw [hd];exact dig_le _
    have hcut:=cut_one s hp;have hz:(s.extract 1 s.size).size<k:=by rw [ByteArray.size_extract];omega
    rw [hcut];simp only [grow];rw [←hd]
    have IH:=Lib.hid (ih (n*B+d) (s.extract 1 s.size));clear ih hcut hd;by_cases hA:most<d
    ·rw [if_pos (.inl hA)];go_enter Tryz.func302,Tryz.ntmps302
     go_wp2_with (go_at_call 317;with_reducible refine (hx.out _).mono ?_;rintro e w' ⟨rfl,rfl⟩);go_ret2;exact ⟨rfl,rfl⟩
    ·have hA':d≤most:=by omega
     have w1:IntKind.i64.wrap (most-d)=most-d:=wrap_in _ (by omega) (by omega);have w1':wrap64 (most-d)=most-d:=by unfold wrap64;omega
     have w2:(most-d).tdiv B=(most-d)/B:=Int.tdiv_eq_ediv_of_nonneg (by omega)
     have w3:IntKind.i64.wrap ((most-d)/B)=(most-d)/B:=wrap_in _ (by rcases hB with rfl | rfl<;>omega) (by rcases hB with rfl | rfl<;>omega);have w3':wrap64 ((most-d)/B)=(most-d)/B:=by rw [←w3,IntKind.wrap_i64];unfold wrap64;rcases hB with rfl | rfl<;>omega
     have hB0:¬B=0:=by omega
     by_cases hC:(most-d)/B<n
     ·rw [if_pos (.inr hC)];rcases hB with rfl | rfl;all_goals
       go_enter Tryz.func302,Tryz.ntmps302
       go_wp2_with (go_at_call 317;with_reducible refine (hx.out _).mono ?_;rintro e w' ⟨rfl,rfl⟩);go_ret2;exact ⟨rfl,rfl⟩
     ·rw [if_neg (by omega)];have hmul:n*B+d≤most:=by
       have:=room (base:=B) (most:=most) (by omega) n d hn;omega
      have hnb:0≤n*B:=Int.mul_nonneg hn (by omega)
      have IH':=Lib.hid (fun w=>IH.out w hz (by omega) hmul);clear IH;generalize ofGrow (grow B most (n*B+d) (s.extract 1 s.size).data.toList)=R at IH' ⊢;rcases hB with rfl | rfl;all_goals
       go_enter Tryz.func302,Tryz.ntmps302
       go_wp2_with (first
        |(go_at_call 317;with_reducible refine (hx.out _).mono ?_;rintro e w' ⟨rfl,rfl⟩)
        |(go_at_call 302;with_reducible refine (IH'.out _).mono ?_;rintro e w' ⟨rfl,rfl⟩))
       go_ret2;exact ⟨rfl,rfl⟩
theorem read_any (B K:Int) (hB:B=10∧K=4∨B=16∧K=5) (most:Int) (hM:most≤9223372036854775807) (s:ByteArray) (w:World) (hs:s.size≤maxLen) :
 Calls Tryz.prog 279 #[.string s,.int .i64 K,.int .i64 B,.int .i64 most] w fun e w'=>e=.returned (.tuple #[.int .i64 (readOf B most s.data.toList).1,.int .i64 (readOf B most s.data.toList).2])∧Below w.heap.size w w':=by
 have hk:allOf [K] s.data.toList=s.data.toList.all (digitOf B):=by
  rcases hB with ⟨rfl,rfl⟩ | ⟨rfl,rfl⟩
  ·exact all_dec _
  ·exact all_hex _
 have hB':B=10∨B=16:=by omega
 by_cases h:s.data.toList= []
 ·have e1:s.toList= []:=by rw [Go.ByteArray.toList_eq,h]
  rw [h];clear hk;go_enter Tryz.func279,Tryz.ntmps279;go_wp2_with fail;go_ret2;exact ⟨rfl,Below.refl _ _⟩
 ·have hne:s.toList.isEmpty=false:=by rw [Go.ByteArray.toList_eq];simpa using h
  have hne':s.data.toList.isEmpty=false:=by simpa using h
  unfold readOf;rw [hne'];cases ha:s.data.toList.all (digitOf B) with
  | false=>
    rw [ha] at hk;have HK:=Lib.hid hk;clear hk ha hne' h;go_enter Tryz.func279,Tryz.ntmps279
    go_wp2_with (go_at_call 266;(with_reducible refine (all_any _ _ 1 1 [K] _ ?_ ?_ ?_).mono ?_);assumption;(exact Ints.one _ _ (by simp) _ _);decide;rw [HK.out];rintro e w' ⟨rfl,rfl⟩);go_ret2;exact ⟨rfl,(Below.refl _ _).alloc (Nat.le_refl _) _⟩
  | true=>
    rw [ha] at hk;have HK:=Lib.hid hk;have hm0:0≤max most 0:=by omega
    have hg:=grow_noughts (base:=B) (most:=max most 0) (by omega) hm0 s.data.toList
    have hadd:=Lib.hid (add_any B hB' (max most 0) hm0 (by omega) ((str (Lib.trimLeftB s.data.toList 48)).size+1) 0 (str (Lib.trimLeftB s.data.toList 48)));have hd:(str (Lib.trimLeftB s.data.toList 48)).data.toList=Lib.trimLeftB s.data.toList 48:=rfl
    have hadd':Hid (∀w,Calls Tryz.prog 302 #[.int .i64 0,.string (str (Lib.trimLeftB s.data.toList 48)),.int .i64 B,.int .i64 (max most 0)] w fun e w'=>e=.returned (.tuple #[.int .i64 (ofGrow (grow B (max most 0) 0 s.data.toList)).1,.int .i64 (ofGrow (grow B (max most 0) 0 s.data.toList)).2])∧w'=w):=Lib.hid (fun w=>by
     have:=hadd.out w (by omega) (by omega) hm0
     rwa [hd,hg] at this)
    have htr:Hid (∀w,Calls Tryz.prog 303 #[.string s,.string ⟨#[48]⟩] w fun e w'=>e=.returned (.string (str (Lib.trimLeftB s.data.toList 48)))∧w'=w):=Lib.hid (fun w=>Tryz.strings_TrimLeft_one s 48 (by decide) w);clear hadd hd hg hk ha hne' h;simp only [Bool.not_true,Bool.or_false,Bool.false_eq_true,if_false];generalize str (Lib.trimLeftB s.data.toList 48)=T at hadd' htr;generalize ofGrow (grow B (max most 0) 0 s.data.toList)=R at hadd' ⊢;generalize hmx:max most 0=M at *;go_enter Tryz.func279,Tryz.ntmps279
    go_wp2_with (first
     |(go_at_call 266;(with_reducible refine (all_any _ _ 1 1 [K] _ ?_ ?_ ?_).mono ?_);assumption;(exact Ints.one _ _ (by simp) _ _);decide;rw [HK.out];rintro e w' ⟨rfl,rfl⟩)
     |(go_at_call 303;with_reducible refine (htr.out _).mono ?_;rintro e w' ⟨rfl,rfl⟩)
     |(go_at_call 302;with_reducible refine (hadd'.out _).mono ?_;rintro e w' ⟨rfl,rfl⟩))
    go_ret2;exact ⟨rfl,(Below.refl _ _).alloc (Nat.le_refl _) _⟩
theorem dec_any (most:Int) (hM:most≤9223372036854775807) (s:ByteArray) (w:World) (hs:s.size≤maxLen) :
 Calls Tryz.prog 300 #[.string s,.int .i64 most] w fun e w'=>e=.returned (.tuple #[.int .i64 (readOf 10 most s.data.toList).1,.int .i64 (readOf 10 most s.data.toList).2])∧Below w.heap.size w w':=by
 have h:=Lib.hid (fun w=>read_any 10 4 (by omega) most hM s w hs);generalize readOf 10 most s.data.toList=R at h ⊢;go_enter Tryz.func300,Tryz.ntmps300
 go_wp2_with (go_at_call 279;with_reducible refine (h.out _).mono ?_;rintro e w1 ⟨rfl,hb⟩);go_ret2;exact ⟨rfl,hb⟩
theorem hexN_any (most:Int) (hM:most≤9223372036854775807) (s:ByteArray) (w:World) (hs:s.size≤maxLen) :
 Calls Tryz.prog 253 #[.string s,.int .i64 most] w fun e w'=>e=.returned (.tuple #[.int .i64 (readOf 16 most s.data.toList).1,.int .i64 (readOf 16 most s.data.toList).2])∧Below w.heap.size w w':=by
 have h:=Lib.hid (fun w=>read_any 16 5 (by omega) most hM s w hs);generalize readOf 16 most s.data.toList=R at h ⊢;go_enter Tryz.func253,Tryz.ntmps253
 go_wp2_with (go_at_call 279;with_reducible refine (h.out _).mono ?_;rintro e w1 ⟨rfl,hb⟩);go_ret2;exact ⟨rfl,hb⟩
theorem rput_any (n:Int) (w:World) (h0: -9223372036854775808≤n) (h1:n≤9223372036854775807):Calls Tryz.prog 106 #[.int .i64 n] w fun e w'=>e=.returned (.string (str (spell 10 n.toNat)))∧∃m,w'=w.drewN m:=by
 have h:=Lib.hid (fun w=>rspell_any 10 10 (by omega) (n.toNat+1) n w h0 (by omega) (by omega));go_enter Tryz.func106,Tryz.ntmps106
 go_wp2_with (go_at_call 152;with_reducible refine (h.out _).mono ?_;rintro e w1 ⟨rfl,m,rfl⟩);go_ret;exact ⟨rfl,m,rfl⟩
theorem rputHex_any (n:Int) (w:World) (h0: -9223372036854775808≤n) (h1:n≤9223372036854775807):Calls Tryz.prog 128 #[.int .i64 n] w fun e w'=>e=.returned (.string (str (spell 16 n.toNat)))∧∃m,w'=w.drewN m:=by
 have h:=Lib.hid (fun w=>rspell_any 16 16 (by omega) (n.toNat+1) n w h0 (by omega) (by omega));go_enter Tryz.func128,Tryz.ntmps128
 go_wp2_with (go_at_call 152;with_reducible refine (h.out _).mono ?_;rintro e w1 ⟨rfl,m,rfl⟩);go_ret;exact ⟨rfl,m,rfl⟩
end code
end Go.Proofs.YtnabkcglnbdfeaaGreatDoor.Num
namespace Go.Proofs.YtnabkcglnbdfeaaGreatDoor.Num
open Go.RowKit Base Oct
def Far (B M:Int) (l:List UInt8) (n:Int) (over:Bool):Prop:=l.all (digitOf B)=true∧0≤n∧n≤M∧grow B M 0 l=if over=true then none else some n
section code
set_option maxHeartbeats 1000000
end code
end Go.Proofs.YtnabkcglnbdfeaaGreatDoor.Num
namespace Go.Proofs.YtnabkcglnbdfeaaGreatDoor.Num
open Go.RowKit Base Oct
section code
set_option maxHeartbeats 1000000
end code
end Go.Proofs.YtnabkcglnbdfeaaGreatDoor.Num
namespace Go.Proofs.YtnabkcglnbdfeaaGreatDoor.Tgt
open Go.RowKit Base Txt
def cutAt (c:UInt8):List UInt8→List UInt8 × List UInt8 × Bool
 | []=>([],[],false)
 | b::l=>if b=c then ([],l,true) else (b::(cutAt c l).1,(cutAt c l).2.1,(cutAt c l).2.2)
theorem cutAt_none (c:UInt8):∀l:List UInt8,c∉l→cutAt c l=(l,[],false)
 | [],_=>rfl
 | b::l,h=>by
   simp only [List.mem_cons,not_or] at h;rw [cutAt,if_neg (fun e=>h.1 e.symm),cutAt_none c l h.2]
theorem cutAt_app (c:UInt8):∀(a r:List UInt8),c∉a→cutAt c (a++c::r)=(a,r,true)
 | [],r,_=>by rw [List.nil_append,cutAt,if_pos rfl]
 | b::a,r,h=>by
   simp only [List.mem_cons,not_or] at h;rw [List.cons_append,cutAt,if_neg (fun e=>h.1 e.symm),cutAt_app c a r h.2]
theorem cut_cases (c:UInt8):∀l:List UInt8,c∉l∨∃a r,l=a++c::r∧c∉a
 | []=>.inl (by simp)
 | b::l=>by
   by_cases h:b=c
   ·exact .inr ⟨[],l,by rw [h];rfl,by simp⟩
   ·rcases cut_cases c l with h1 | ⟨a,r,h1,h2⟩
    ·exact .inl (by simp only [List.mem_cons,not_or];exact ⟨fun e=>h e.symm,h1⟩)
    ·exact .inr ⟨b::a,r,by rw [h1];rfl,by simp only [List.mem_cons,not_or];exact ⟨fun e=>h e.symm,h2⟩⟩
theorem cutAt_le (c:UInt8) (l:List UInt8):(cutAt c l).1.length≤l.length∧(cutAt c l).2.1.length≤l.length:=by
 rcases cut_cases c l with h | ⟨a,r,rfl,h⟩
 ·rw [cutAt_none c l h];simp
 ·rw [cutAt_app c a r h];simp;omega
theorem idx_cut (c:UInt8) (l:List UInt8):(Lib.indexByte l c= -1∧cutAt c l=(l,[],false))∨∃i:Nat,i<l.length∧Lib.indexByte l c=(i:Int)∧cutAt c l=(l.take i,l.drop (i+1),true):=by
 by_cases h:Lib.indexByte l c= -1
 ·refine .inl ⟨h,cutAt_none c l fun hm=>?_⟩;obtain ⟨k,hk,e⟩:=List.getElem_of_mem hm
  exact Lib.indexByte_none h k (by rw [List.getElem?_eq_getElem hk,e])
 ·have h0:=Lib.indexByte_ge l c;obtain ⟨i,hi⟩:∃i:Nat,Lib.indexByte l c=i:=⟨(Lib.indexByte l c).toNat,by omega⟩;obtain ⟨g1,g2⟩:=Lib.indexByte_some hi;have hlt:i<l.length:=by
   rcases Nat.lt_or_ge i l.length with h | h
   ·exact h
   ·rw [List.getElem?_eq_none h] at g1;cases g1
  have hc:l[i]=c:=by rw [List.getElem?_eq_getElem hlt] at g1;exact Option.some.inj g1
  refine .inr ⟨i,hlt,hi,?_⟩;have e1:l=l.take i++c::l.drop (i+1):=by conv=>lhs;rw [←List.take_append_drop i l,List.drop_eq_getElem_cons hlt,hc]
  have hno:c∉l.take i:=fun hm=>by
   obtain ⟨k,hk,e⟩:=List.getElem_of_mem hm;have hk':k<i:=by simp at hk;omega
   exact g2 k hk' (by rw [List.getElem?_eq_getElem (by omega)];rw [List.getElem_take] at e;rw [e])
  conv=>lhs;rw [e1]
  exact cutAt_app c _ _ hno
section code
set_option maxHeartbeats 8000000
set_option maxRecDepth 1000000
theorem cutLite_any (s:ByteArray) (c:UInt8) (w:World) (hs:s.size≤1000000000) :
 Calls Tryz.prog 301 #[.string s,.string ⟨#[c]⟩] w fun e w'=>e=.returned (.tuple #[.string (ba (cutAt c s.data.toList).1),.string (ba (cutAt c s.data.toList).2.1),.bool (cutAt c s.data.toList).2.2])∧∃n,w'=w.drewN n:=by
 have HI:=Lib.hid (fun w=>Tryz.stringslite_Index_one s c w);rcases idx_cut c s.data.toList with ⟨h1,h2⟩ | ⟨i,h0,h1,h2⟩
 ·rw [h1] at HI;rw [h2];clear h1 h2;go_enter Tryz.func301,Tryz.ntmps301
  go_wp2_with (go_at_call 262;with_reducible refine (HI.out _).mono ?_;rintro e w1 ⟨rfl,hw⟩;rw [hw];clear hw);go_ret3;exact ⟨rfl,0,rfl⟩
 ·rw [h1] at HI;rw [h2];rw [len] at h0;have c0:(0:Int)≤(i:Int):=by omega
  have c1:(i:Int)≤(s.size:Int):=by omega
  have c2:IntKind.i64.wrap ((i:Int)+1)=((i+1:Nat):Int):=by rw [wrap_in _ (by omega) (by omega)];omega
  have c3:((i+1:Nat):Int)≤(s.size:Int):=by omega
  have e1:s.extract 0 i=ba (s.data.toList.take i):=ba_ext (by rw [Lib.extract_data];simp [ba])
  have e2:s.extract (i+1) s.size=ba (s.data.toList.drop (i+1)):=ba_ext (by rw [Lib.extract_data,List.take_of_length_le (by rw [List.length_drop,len];omega)];rfl);simp only;rw [←e1,←e2];clear h1 h2 e1 e2;go_enter Tryz.func301,Tryz.ntmps301
  go_wp2_with (go_at_call 262;with_reducible refine (HI.out _).mono ?_;rintro e w1 ⟨rfl,hw⟩;rw [hw];clear hw)
  go_quiet (fail);rename_i nq;go_wp2;go_ret3;exact ⟨rfl,nq,rfl⟩
theorem cut_any (s:ByteArray) (c:UInt8) (w:World) (hs:s.size≤1000000000) :
 Calls Tryz.prog 274 #[.string s,.string ⟨#[c]⟩] w fun e w'=>e=.returned (.tuple #[.string (ba (cutAt c s.data.toList).1),.string (ba (cutAt c s.data.toList).2.1),.bool (cutAt c s.data.toList).2.2])∧∃n,w'=w.drewN n:=by
 have HI:=Lib.hid (fun w=>cutLite_any s c w hs);generalize cutAt c s.data.toList=r at *;go_enter Tryz.func274,Tryz.ntmps274
 go_wp2_with (go_at_call 301;with_reducible refine (HI.out _).mono ?_;rintro e w1 ⟨rfl,n,hw⟩;rw [hw];clear hw);go_ret3;exact ⟨rfl,n,rfl⟩
end code
end Go.Proofs.YtnabkcglnbdfeaaGreatDoor.Tgt
