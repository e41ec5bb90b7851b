import Derived.Test.YtnabkcglnbdfeaaGreatDoorFec
namespace Go.Proofs.YtnabkcglnbdfeaaGreatDoor.Tgt
open Go.RowKit Base Oct Num Txt
def nameMarks:List UInt8:= [45,46,95,126]
def pathMarks:List UInt8:= [45,46,95,126,33,36,38,39,40,41,42,43,44,59,61,58,64,47]
def queryMarks:List UInt8:= [45,46,95,126,33,36,38,39,40,41,42,43,44,59,61,58,64,47,63]
def plainB (ms:List UInt8) (c:UInt8):Bool:=Oct.letter (c.toNat:Int)||Oct.digit (c.toNat:Int)||ms.contains c
def hexB (c:UInt8):Bool:=Oct.isHex (c.toNat:Int)
theorem hex_plain_tab:∀k:Fin 256,hexB (UInt8.ofNat k.val)=true→plainB [] (UInt8.ofNat k.val)=true∧UInt8.ofNat k.val≠37:=by decide +kernel
theorem hex_plain (ms:List UInt8) (c:UInt8) (h:hexB c=true):plainB ms c=true∧c≠37:=by
 have e:UInt8.ofNat c.toNat=c:=by simp
 have:=hex_plain_tab ⟨c.toNat,c.toNat_lt⟩;simp only [e] at this;obtain ⟨h1,h2⟩:=this h;refine ⟨?_,h2⟩;simp only [plainB,List.contains_nil,Bool.or_false] at h1;simp only [plainB,h1,Bool.true_or]
def okAt (ms:List UInt8) (c:UInt8):List UInt8→Bool
 | a::b :: _=>if c=37 then hexB a&&hexB b else plainB ms c
 | _=>plainB ms c
def written (ms:List UInt8):List UInt8→Bool
 | []=>true
 | c::r=>okAt ms c r&&written ms r
theorem okAt_plain (ms:List UInt8) (c:UInt8) (r:List UInt8) (h:c≠37):okAt ms c r=plainB ms c:=by
 unfold okAt;split
 ·rw [if_neg h]
 ·rfl
theorem no_pct {ms:List UInt8} (h:ms.contains 37=false):plainB ms 37=false:=by simp only [plainB,h,Bool.or_false];decide
theorem written_plain {ms:List UInt8} (hm:ms.contains 37=false) (c:UInt8) (r:List UInt8) (h:plainB ms c=true):written ms (c::r)=written ms r:=by
 have hc:c≠37:=fun e=>by rw [e,no_pct hm] at h;cases h
 rw [written,okAt_plain ms c r hc,h,Bool.true_and]
theorem written_pct {ms:List UInt8} (a b:UInt8) (r:List UInt8):written ms (37::a::b::r)=((hexB a&&hexB b)&&written ms r):=by
 rw [written,okAt,if_pos rfl];cases ha:hexB a with
 | false=>rfl
 | true=>
   cases hb:hexB b with
   | false=>rfl
   | true=>
     rw [written,written,okAt_plain ms a _ (hex_plain ms a ha).2,okAt_plain ms b _ (hex_plain ms b hb).2,(hex_plain ms a ha).1,(hex_plain ms b hb).1];rfl
theorem written_not {ms:List UInt8} (c:UInt8) (r:List UInt8) (h:plainB ms c=false) (hc:c≠37∨r.length<2):written ms (c::r)=false:=by
 rw [written];have:okAt ms c r=false:=by
  rcases hc with hc | hc
  ·rw [okAt_plain ms c r hc];exact h
  ·match r,hc with
   | [],_=>exact h
   | [a],_=>exact h
 rw [this];rfl
def nameOk (l:List UInt8):Bool:=!l.isEmpty&&(decide (l.length≤255)&&l.all (plainB nameMarks))
def portOk (l:List UInt8):Bool:=decide (l.length≤5)&&decide ((readOf 10 65535 l).2=0)
def hostB (l:List UInt8):Bool:=nameOk (cutAt 58 l).1&&(!(cutAt 58 l).2.2||portOk (cutAt 58 l).2.1)
def pathB (l:List UInt8):Bool:=decide (l.head?=some 47)&&written pathMarks l
def queryB (l:List UInt8):Bool:=written queryMarks l
structure Tg where
 form:Nat
 host:List UInt8
 path:List UInt8
 query:List UInt8
 asked:Bool
deriving DecidableEq
def none':Tg:=⟨0,[],[],[],false⟩
def ended (c:UInt8):Bool:=c==47||c==63
def http:List UInt8:= [104,116,116,112,58,47,47]
def origin (l:List UInt8):Option Tg:=if (pathB (cutAt 63 l).1&&queryB (cutAt 63 l).2.1)=true then some ⟨1,[],(cutAt 63 l).1,(cutAt 63 l).2.1,(cutAt 63 l).2.2⟩ else none
def slashed (l:List UInt8):List UInt8:=if l.head?=some 47 then l else 47::l
def hostOf (l:List UInt8):List UInt8:=l.takeWhile fun c=>!ended c
def restOf (l:List UInt8):List UInt8:=l.dropWhile fun c=>!ended c
def absolute (l:List UInt8):Option Tg:=
 match origin (slashed (restOf l)) with
 | none=>none
 | some t=>if hostB (hostOf l)=true then some ⟨2,hostOf l,t.path,t.query,t.asked⟩ else none
def authority (l:List UInt8):Option Tg:=if (l.contains 58&&hostB l)=true then some ⟨3,l,[],[],false⟩ else none
def connect:List UInt8:= [67,79,78,78,69,67,84]
def options:List UInt8:= [79,80,84,73,79,78,83]
def schemed (l:List UInt8):Bool:=decide (7≤l.length)&&(low (l.take 7)==low http)
def parse (m l:List UInt8):Option Tg:=
 if m=connect then authority l
 else if m=options∧l= [42] then some ⟨4,[],[],[],false⟩
 else if l.head?=some 47 then origin l
 else if schemed l=true then absolute (l.drop 7)
 else none
def putPath (t:Tg):List UInt8:=if t.asked=true then t.path++63::t.query else t.path
def put (t:Tg):List UInt8:=
 if t.form=1 then putPath t
 else if t.form=2 then http++(t.host++putPath t)
 else if t.form=3 then t.host
 else if t.form=4 then [42]
 else []
theorem putPath_origin {l:List UInt8} {t:Tg} (h:origin l=some t):putPath t=l∧t.form=1∧t.host= []:=by
 unfold origin at h;split at h
 ·obtain rfl:=Option.some.inj h;refine ⟨?_,rfl,rfl⟩;unfold putPath;rcases cut_cases 63 l with h1 | ⟨a,r,rfl,h1⟩
  ·simp only [cutAt_none 63 l h1];rfl
  ·simp only [cutAt_app 63 a r h1];rfl
 ·cases h
end Go.Proofs.YtnabkcglnbdfeaaGreatDoor.Tgt
namespace Go.Proofs.YtnabkcglnbdfeaaGreatDoor.Tgt
open Go.RowKit Base Oct Num Txt
def ends2:ByteArray:=⟨#[47,63]⟩
theorem encode_two (r:Nat) (h1:128≤r) (h2:r<2048):∃a b:UInt8,Utf8.encode (r:Int)=⟨#[a,b]⟩∧128≤b.toNat:=by
 have hv:Utf8.valid (r:Int)=true:=by rw [validRune_eq];simp only [validRune,decide_eq_true_eq];omega
 refine ⟨UInt8.ofNat (0xC0+r/64),UInt8.ofNat (0x80+r%64),?_,?_⟩
 ·unfold Utf8.encode;have e:((r:Int)).toNat=r:=by omega
  simp only [hv,if_true,e];rw [if_neg (by omega),if_pos (by omega)]
 ·rw [UInt8.toNat_ofNat_of_lt' (by show _<256;omega)];omega
theorem encode_more (r:Nat) (h2:2048≤r):3≤(Utf8.encode (r:Int)).size∧(Utf8.encode (r:Int)).size≤4:=by
 have e:((r:Int)).toNat=r:=by omega
 unfold Utf8.encode;simp only [e];split
 ·rw [if_neg (by omega),if_neg (by omega)];split
  ·exact ⟨by show 3≤3;omega,by show 3≤4;omega⟩
  ·exact ⟨by show 3≤4;omega,by show 4≤4;omega⟩
 ·rw [if_neg (by decide),if_neg (by decide),if_pos (by decide)];exact ⟨by show 3≤3;omega,by show 3≤4;omega⟩
section code
set_option maxHeartbeats 2000000
set_option maxRecDepth 100000
theorem indexRune_err (w:World):Calls Tryz.prog 325 #[.string ⟨#[47,63]⟩,.int .i32 65533] w fun e w'=>e=.returned (.int .i64 (-1))∧Below w.heap.size w w':=by
 go_enter Tryz.func325,Tryz.ntmps325;go_wp2
 go_loopg [5,6] 2 (fun g _ _ wx=>∃i:Nat,i+g=2∧wx=w.iter ⟨#[47,63]⟩ i)
 case atStart=>exact ⟨0,rfl,rfl⟩
 case round=>
  obtain ⟨i,hig,rfl⟩:=hrel;cases gk with
  | zero=>
    obtain rfl:i=2:=by omega
    have hnx:=fun ty=>run_next_end (P:=Tryz.prog) w ⟨#[47,63]⟩ 2 ty (by decide);go_wp2;go_ret;exact ⟨rfl,(Below.refl _ _).alloc (Nat.le_refl _) _⟩
  | succ g=>
    rcases (by omega:i=0∨i=1) with rfl | rfl
    ·have hnx:=fun ty=>run_next_ascii (P:=Tryz.prog) w ⟨#[47,63]⟩ 0 ty (by decide) (by decide);rw [show ((ByteArray.mk #[47,63])[0]'(by decide)).toNat=47 from rfl] at hnx;go_wp2;go_roundg g
     case measure=>omega
     case rel=>exact ⟨1,by omega,rfl⟩
    ·have hnx:=fun ty=>run_next_ascii (P:=Tryz.prog) w ⟨#[47,63]⟩ 1 ty (by decide) (by decide);rw [show ((ByteArray.mk #[47,63])[1]'(by decide)).toNat=63 from rfl] at hnx;go_wp2;go_roundg g
     case measure=>omega
     case rel=>exact ⟨2,by omega,rfl⟩
theorem indexRune_high (r:Nat) (w:World) (h1:128≤r) (hv:Lib.validRune (r:Int)=true) :
 Calls Tryz.prog 325 #[.string ⟨#[47,63]⟩,.int .i32 (r:Int)] w fun e w'=>e=.returned (.int .i64 (-1))∧Below w.heap.size w w':=by
 by_cases he:r=65533
 ·subst he;exact indexRune_err w
 have t1:¬(r:Int)<128:=by omega
 have t2:((r:Int)==65533)=false:=beq_eq_false_iff_ne.2 (by omega);rcases Nat.lt_or_ge r 2048 with hr | hr
 ·obtain ⟨a,b,hE,hb⟩:=encode_two r h1 hr
  have t3:((63:Int) !=(b.toNat:Int))=true:=bne_iff_ne.2 (by omega);clear hr;have hcv:∀w,(convert 21 9 (.int .i32 (r:Int))).run Tryz.prog w=.ok (.string ⟨#[a,b]⟩) w:=fun w=>by rw [run_convert_int_string w 21 9 .i32 (r:Int) (by rw [Tryz.underlying21];rfl) Tryz.underlying9,hE]
  have m2:IntKind.i64.wrap 2=2:=by decide
  have e0:(2:Int)≤((ByteArray.mk #[47,63]).size:Int):=by decide
  have hib:=Lib.hid (fun w=>(Tryz.strings_IndexByte ByteArray.empty (b.toNat:Int) w).mono (R:=fun e w'=>e=.returned (.int .i64 (-1))∧w'=w) fun _ _ h=>h);have e1:∀h,((ByteArray.mk #[47,63])[1]'h).toNat=63:=fun _=>rfl;have e2:∀h,((ByteArray.mk #[a,b])[1]'h)=b:=fun _=>rfl;go_enter Tryz.func325,Tryz.ntmps325
  go_wp2_with (go_at_call 333;with_reducible refine (Tryz.utf8_ValidRune _ _).mono ?_;rintro e w1 ⟨rfl,hw⟩;rw [hw,hv];clear hw);go_step3;go_wp2
  go_loopw [9,10] (fun i f wr=>i=.int .i64 1∧f=.int .i64 0∧wr=w) (fun _ _ _=>1)
  case atStart=>exact ⟨rfl,rfl,rfl⟩
  case round=>
   obtain ⟨rfl,rfl,rfl⟩:=hrel;go_wp2_with fail;go_step3;go_wp2_with fail
   go_quiet (fail);rename_i nq
   have hbq:=Lib.hid (show Below wr.heap.size wr (wr.drewN nq) from Base.below_drewN (Below.refl _ _) nq);generalize wr.drewN nq=wq at *;go_wp2_with fail
   go_quiet ((go_at_call 332;exact Calls.quiet_of_same (hib.out _)));rename_i nq2;go_wp2_with fail;rw [Exit.noGoto_ret];show bodyPost Tryz.prog Tryz.f325 (fun e w'=>e=.returned (.int .i64 (-1))∧Below wr.heap.size wr w') Exit.ret _ _;go_ret;exact ⟨rfl,Base.below_drewN hbq.out _⟩
 ·obtain ⟨hz1,hz2⟩:=encode_more r hr;generalize hE:Utf8.encode (r:Int)=E at *;have hcv:∀w,(convert 21 9 (.int .i32 (r:Int))).run Tryz.prog w=.ok (.string E) w:=fun w=>by
   rw [run_convert_int_string w 21 9 .i32 (r:Int) (by rw [Tryz.underlying21];rfl) Tryz.underlying9,hE]
  clear hE;obtain ⟨n,hn⟩:∃n:Nat,E.size=n+1:=⟨E.size-1,by omega⟩;have m1:IntKind.i64.wrap ((E.size:Int)-1)=(n:Int):=by rw [wrap_in _ (by omega) (by omega)];omega
  have hn2:n=2∨n=3:=by omega
  clear hn hz1 hz2 hr;rcases hn2 with rfl | rfl
  ·go_enter Tryz.func325,Tryz.ntmps325
   go_wp2_with (go_at_call 333;with_reducible refine (Tryz.utf8_ValidRune _ _).mono ?_;rintro e w1 ⟨rfl,hw⟩;rw [hw,hv];clear hw);go_step3;go_wp2
   go_loopw [9,10] (fun i f wr=>i=.int .i64 2∧wr=w) (fun _ _ _=>1)
   case atStart=>exact ⟨rfl,rfl⟩
   case round=>obtain ⟨rfl,rfl⟩:=hrel;go_wp2_with fail;rw [Exit.noGoto_ret];show bodyPost Tryz.prog Tryz.f325 (fun e w'=>e=.returned (.int .i64 (-1))∧Below wr.heap.size wr w') Exit.ret _ _;go_ret;exact ⟨rfl,Below.refl _ _⟩
  ·go_enter Tryz.func325,Tryz.ntmps325
   go_wp2_with (go_at_call 333;with_reducible refine (Tryz.utf8_ValidRune _ _).mono ?_;rintro e w1 ⟨rfl,hw⟩;rw [hw,hv];clear hw);go_step3;go_wp2
   go_loopw [9,10] (fun i f wr=>i=.int .i64 3∧wr=w) (fun _ _ _=>1)
   case atStart=>exact ⟨rfl,rfl⟩
   case round=>obtain ⟨rfl,rfl⟩:=hrel;go_wp2_with fail;rw [Exit.noGoto_ret];show bodyPost Tryz.prog Tryz.f325 (fun e w'=>e=.returned (.int .i64 (-1))∧Below wr.heap.size wr w') Exit.ret _ _;go_ret;exact ⟨rfl,Below.refl _ _⟩
end code
end Go.Proofs.YtnabkcglnbdfeaaGreatDoor.Tgt
namespace Go.Proofs.YtnabkcglnbdfeaaGreatDoor.Tgt
open Go.RowKit Base Oct Num Txt
theorem idx_split:∀l:List UInt8,(Lib.indexAny l [47,63]= -1∧hostOf l=l∧restOf l= [])∨∃i:Nat,i<l.length∧Lib.indexAny l [47,63]=(i:Int)∧hostOf l=l.take i∧restOf l=l.drop i
 | []=>.inl ⟨rfl,rfl,rfl⟩
 | b::l=>by
   have hb: [47,63].contains b=ended b:=by rw [List.contains_cons,List.contains_cons,List.contains_nil,Bool.or_false];rfl
   have e:Lib.indexAny (b::l) [47,63]=if [47,63].contains b then 0 else if Lib.indexAny l [47,63] == -1 then -1 else Lib.indexAny l [47,63]+1:=rfl
   have e1:hostOf (b::l)=if (!ended b)=true then b::hostOf l else []:=by unfold hostOf;rw [List.takeWhile_cons]
   have e2:restOf (b::l)=if (!ended b)=true then restOf l else b::l:=by unfold restOf;rw [List.dropWhile_cons]
   rw [e,e1,e2,hb];cases ended b with
   | true=>exact .inr ⟨0,by simp,rfl,rfl,rfl⟩
   | false=>
     simp only [Bool.not_false,if_true,Bool.false_eq_true,if_false];rcases idx_split l with ⟨h1,h2,h3⟩ | ⟨i,h0,h1,h2,h3⟩
     ·exact .inl ⟨by rw [h1];rfl,by rw [h2],h3⟩
     ·refine .inr ⟨i+1,by simp;omega,?_,by rw [h2];rfl,by rw [h3];rfl⟩;rw [h1,if_neg (by simp)];omega
theorem decodeN_tail (n b0 b1 b2 b3:Nat) (hn:1≤n):1≤(Lib.decodeN n b0 b1 b2 b3).2∧(Lib.decodeN n b0 b1 b2 b3).2≤n∧(Lib.decodeN n b0 b1 b2 b3).2≤4∧(1<(Lib.decodeN n b0 b1 b2 b3).2→128≤b1)∧(2<(Lib.decodeN n b0 b1 b2 b3).2→128≤b2)∧(3<(Lib.decodeN n b0 b1 b2 b3).2→128≤b3):=by
 unfold Lib.decodeN
 repeat' split
 all_goals (simp only;omega)
theorem get_lt (s:ByteArray) (k:Nat) (h:k<s.size):s.get! k=s[k]:=by simp [ByteArray.get!,getElem!_pos,h];rfl
theorem rune_high (s:ByteArray) (pos k:Nat) (h:pos<s.size) (h0:128≤(s[pos]'h).toNat) (h1:pos≤k) (h2:k<pos+(Utf8.decode s pos).2):∃hk:k<s.size,128≤(s[k]'hk).toNat:=by
 rw [Lib.decode_at] at h2
 obtain ⟨_,a2,a3,a4,a5,a6⟩:=decodeN_tail (s.size-pos) (s.get! pos).toNat (s.get! (pos+1)).toNat (s.get! (pos+2)).toNat (s.get! (pos+3)).toNat (by omega);have hk:k<s.size:=by omega
 refine ⟨hk,?_⟩;rw [←get_lt s k hk];rcases (by omega:k=pos∨k=pos+1∨k=pos+2∨k=pos+3) with rfl | rfl | rfl | rfl
 ·rw [get_lt s _ h];exact h0
 ·exact a4 (by omega)
 ·exact a5 (by omega)
 ·exact a6 (by omega)
theorem rune_valid_at (s:ByteArray) (pos:Nat):Lib.validRune ((Utf8.decode s pos).1:Int)=true:=by have h:=Lib.decodeN_valid (s.size-pos) (s.get! pos).toNat (s.get! (pos+1)).toNat (s.get! (pos+2)).toNat (s.get! (pos+3)).toNat (UInt8.toNat_lt _);rw [←Lib.decode_at] at h;simp only [Lib.validRune,decide_eq_true_eq];omega
theorem next_at {P:Program} (w:World) (g:Nat) (s:ByteArray) (pos:Nat) (ty:TypeId) (h:pos<s.size) (hg:w.heap[g]?=some (.stringIter s pos)) :
 (Instr.next (.pointer (some ⟨g,0,none⟩)) true ty).run P w=.ok (.tuple #[.bool true,.int .i64 pos,.int .i32 (Utf8.decode s pos).1]) {w with heap:=w.heap.setIfInBounds g (.stringIter s (pos+(Utf8.decode s pos).2))}:=by
 have hgl:g<w.heap.size:=by
  rcases Nat.lt_or_ge g w.heap.size with h | h
  ·exact h
  ·rw [Array.getElem?_eq_none h] at hg;cases hg
 simp [Instr.next,getObj,setObj,Sem.run_bind,Sem.run,hg,Result.andThen,h,goInt]
theorem next_last {P:Program} (w:World) (g:Nat) (s:ByteArray) (pos:Nat) (ty:TypeId) (h:¬pos<s.size) (hg:w.heap[g]?=some (.stringIter s pos)) :
 (Instr.next (.pointer (some ⟨g,0,none⟩)) true ty).run P w=.ok (.tuple #[.bool false]) w:=by
 simp [Instr.next,getObj,Sem.run,hg,h]
theorem below_iter {B:Nat} {w0 w:World} (h:Below B w0 w) (g:Nat) (hg:B≤g) (o:Obj):Below B w0 {w with heap:=w.heap.setIfInBounds g o}:=by
 refine ⟨h.os,h.tape,h.output,?_,fun k hk=>?_⟩
 ·simpa using h.size
 ·rw [Array.getElem?_setIfInBounds_ne (by omega)];exact h.block k hk
theorem next_world {P:Program} (w0 w:World) (g:Nat) (s:ByteArray) (pos:Nat) (h:pos<s.size) (hg:w.heap[g]?=some (.stringIter s pos)) (hb:Below g w0 w) :
 ∃W,(∀ty,(Instr.next (.pointer (some ⟨g,0,none⟩)) true ty).run P w=.ok (.tuple #[.bool true,.int .i64 pos,.int .i32 (Utf8.decode s pos).1]) W)∧W.heap[g]?=some (.stringIter s (pos+(Utf8.decode s pos).2))∧g<W.heap.size∧Below g w0 W:=by
 have hgl:g<w.heap.size:=by
  rcases Nat.lt_or_ge g w.heap.size with h | h
  ·exact h
  ·rw [Array.getElem?_eq_none h] at hg;cases hg
 exact ⟨_,fun ty=>next_at w g s pos ty h hg,by simp [hgl],by simpa using hgl,below_iter hb g (Nat.le_refl _) _⟩
section code
set_option maxHeartbeats 8000000
set_option maxRecDepth 1000000
theorem indexAny_short (s:ByteArray) (w:World) (h8:s.size≤8) :
 Calls Tryz.prog 311 #[.string s,.string ⟨#[47,63]⟩] w fun e w'=>e=.returned (.int .i64 (Lib.indexAny s.data.toList [47,63]))∧Below w.heap.size w w':=by
 have h8z:decide ((8:Int)<(s.size:Int))=false:=decide_eq_false (by omega)
 have HSh:=Lib.hid (fun w=>Tryz.strings_shouldUseASCIISet (s.size:Int) w);rw [h8z] at HSh;clear h8z;go_enter Tryz.func311,Tryz.ntmps311
 go_wp2_with (go_at_call 326;with_reducible refine (HSh.out _).mono ?_;rintro e w1 ⟨rfl,hw⟩;rw [hw];clear hw)
 have hgw:=Lib.hid (Nat.le_refl w.heap.size)
 go_loopg [9,10] s.size (fun g _ _ wx=>∃i:Nat,s.size≤i+g∧i≤s.size∧wx.heap[w.heap.size]?=some (.stringIter s i)∧Hid (Below w.heap.size w wx)∧Hid (Lib.NoAny s.data.toList [47,63] i))
 case atStart=>exact ⟨0,by omega,by omega,World.iter_heap w s 0,Lib.hid ((Below.refl _ _).alloc (Nat.le_refl _) _),Lib.hid (Lib.NoAny.zero _ _)⟩
 case round=>
  obtain ⟨i,hig,hile,hwx,hb,hno⟩:=hrel;rcases Nat.lt_or_ge i s.size with hi | hi
  ·obtain ⟨gn,rfl⟩:∃gn,gk=gn+1:=⟨gk-1,by omega⟩;obtain ⟨W,hnx,hWg,hWl,hbW⟩:=next_world (P:=Tryz.prog) w wr w.heap.size s i hi hwx hb.out;have HB:=Lib.hid hbW;have HWl:=Lib.hid hWl;clear hwx hb hbW hWl;by_cases hx:(s[i]'hi).toNat<128
   ·rw [decode_ascii s i hi hx] at hnx hWg;simp only at hnx hWg
    have Hx:=Lib.hid (Lib.data_getElem? s i hi);generalize s[i]'hi=x at *
    have hR:=Lib.hid (fun w=>Tryz.strings_IndexRune_ascii ⟨#[47,63]⟩ (x.toNat:Int) w (by omega) (by omega));have hcon:=Lib.contains_iff_indexByte [47,63] x;have hback:((x.toNat:Int)).toNat.toUInt8=x:=by simp
    rw [hback] at hR;have hR2:Hid (∀w,Calls Tryz.prog 325 #[.string ⟨#[47,63]⟩,.int .i32 (x.toNat:Int)] w fun e w'=>e=.returned (.int .i64 (Lib.indexByte [47,63] x))∧w'=w):=hR;clear hR hback;have HWg:=Lib.hid hWg;clear hWg;generalize hix:Lib.indexByte [47,63] x=ix at *;clear hix;cases hin:List.contains [47,63] x with
    | false=>
      rw [hin] at hcon;have hlt:¬((0:Int)≤ix):=of_decide_eq_false hcon.symm
      have HN:=Lib.hid (hno.out.succ Hx.out hin);clear hcon hin hno
      go_wp2_with (go_at_call 325;with_reducible refine (hR2.out _).mono ?_;rintro e w2 ⟨rfl,hw⟩;rw [hw];clear hw);go_roundg gn
      case measure=>omega
      case rel=>exact ⟨i+1,by omega,by omega,HWg.out,HB,HN⟩
    | true=>
      rw [hin] at hcon;have hge:(0:Int)≤ix:=of_decide_eq_true hcon.symm
      have HN:=Lib.hid (Lib.indexAny_hit hno.out Hx.out hin);clear hcon hin hno
      go_wp2_with (go_at_call 325;with_reducible refine (hR2.out _).mono ?_;rintro e w2 ⟨rfl,hw⟩;rw [hw];clear hw);go_ret;exact ⟨by rw [HN.out];rfl,HB.out⟩
   ·have hhi:=decode_high s i hi (by omega)
    have HN:Hid (Lib.NoAny s.data.toList [47,63] (i+(Utf8.decode s i).2)):=Lib.hid (by
     intro j b hj hjb;rcases Nat.lt_or_ge j i with hlt | hge
     ·exact hno.out j b hlt hjb
     ·obtain ⟨hk,h128⟩:=rune_high s i j hi (by omega) hge hj;rw [Lib.data_getElem? s j hk] at hjb;obtain rfl:=Option.some.inj hjb;generalize s[j]=c at *;rw [List.contains_cons,List.contains_cons,List.contains_nil];have n1:c≠47:=fun e=>by rw [e] at h128;revert h128;decide
      have n2:c≠63:=fun e=>by rw [e] at h128;revert h128;decide
      simp [n1,n2])
    have hv:=rune_valid_at s i;have hwid:i+(Utf8.decode s i).2≤s.size:=by have:=decodeN_tail (s.size-i) (s.get! i).toNat (s.get! (i+1)).toNat (s.get! (i+2)).toNat (s.get! (i+3)).toNat (by omega);rw [←Lib.decode_at] at this;omega
    have HWg:=Lib.hid hWg;clear hWg;obtain ⟨hr1,hr2⟩:=hhi;generalize (Utf8.decode s i).1=r at *;generalize (Utf8.decode s i).2=k at *
    have hR2:=Lib.hid (fun w=>indexRune_high r w hr1 hv);clear hv hr1 hx hno
    go_wp2_with (go_at_call 325;with_reducible refine (hR2.out _).mono ?_;rintro e w2 ⟨rfl,hb2⟩);go_roundg gn
    case measure=>omega
    case rel=>exact ⟨i+k,by omega,by omega,(hb2.block _ HWl.out).trans HWg.out,Lib.hid (HB.out.trans (hb2.mono (by have:=HWl.out;omega))),HN⟩
  ·obtain rfl:i=s.size:=by omega
   have hnx:=fun ty=>next_last (P:=Tryz.prog) wr w.heap.size s s.size ty (by omega) hwx
   have HN:=Lib.hid (Lib.indexAny_none (by rw [len];exact hno.out));clear hwx hno;go_wp2;go_ret;exact ⟨by rw [HN.out];rfl,hb.out⟩
theorem zero_256 (w:World):(zeroValue 296).run Tryz.prog w=.ok (.agg (Array.replicate 256 (.bool false))) w:=by kernel_rfl
theorem indexAny_any (s:ByteArray) (w:World) (hs:s.size≤1000000000) :
 Calls Tryz.prog 311 #[.string s,.string ⟨#[47,63]⟩] w fun e w'=>e=.returned (.int .i64 (Lib.indexAny s.data.toList [47,63]))∧Below w.heap.size w w':=by
 rcases Nat.lt_or_ge 8 s.size with h | h
 ·refine (Tryz.strings_IndexAny_long zero_256 s ⟨#[47,63]⟩ w (by decide) h (by omega) (by decide) ?_).mono ?_
  ·intro j b hb
   match j with
   | 0=>obtain rfl:b=47:=by simpa using hb.symm
        decide
   | 1=>obtain rfl:b=63:=by simpa using hb.symm
        decide
   | j+2=>simp at hb
  ·rintro e w' ⟨rfl,rfl⟩;exact ⟨rfl,((Below.refl _ _).alloc (Nat.le_refl _) _).alloc (by simp) _⟩
 ·exact indexAny_short s w h
end code
end Go.Proofs.YtnabkcglnbdfeaaGreatDoor.Tgt
namespace Go.Proofs.YtnabkcglnbdfeaaGreatDoor.Tgt
open Go.RowKit Base Oct Num Txt
theorem size_cons {s:ByteArray} {c:UInt8} {r:List UInt8} (h:s.data.toList=c::r):s.size=r.length+1:=by rw [←len,h];rfl
theorem empty_of {s:ByteArray} (h:s.data.toList= []):s.toList.isEmpty=true:=by rw [Lib.toList_data,h];rfl
theorem full_of {s:ByteArray} {c:UInt8} {r:List UInt8} (h:s.data.toList=c::r):s.toList.isEmpty=false:=by rw [Lib.toList_data,h];rfl
theorem ba_list (l:List UInt8):(ba l).data.toList=l:=rfl
theorem ba_size (l:List UInt8):(ba l).size=l.length:=len_mk l
theorem at_zero {s:ByteArray} {c:UInt8} {r:List UInt8} (h:s.data.toList=c::r) (h0:0<s.size):s[0]=c:=by have:=Lib.data_getElem? s 0 h0;rw [h] at this;exact (Option.some.inj this).symm
theorem drop_ext (s:ByteArray) (k:Nat):(s.extract k s.size).data.toList=s.data.toList.drop k:=by rw [Lib.extract_data,List.take_of_length_le (by rw [List.length_drop,len];omega)]
section code
set_option maxHeartbeats 1000000
attribute [local go_sem] Base.some_undef
theorem plain_any (c:UInt8) (ms:ByteArray) (w:World):Calls Tryz.prog 328 #[.int .u8 c.toNat,.string ms] w fun e w'=>e=.returned (.bool (plainB ms.data.toList c))∧w'=w:=by
 have HD:=Lib.hid (fun w=>Oct.digit_any (c.toNat:Int) w)
 have HI:=Lib.hid (fun w=>Tryz.strings_IndexByte ms (c.toNat:Int) w)
 have hcon:=Lib.hid (Lib.contains_iff_indexByte ms.data.toList c);have hback:((c.toNat:Int)).toNat.toUInt8=c:=by simp
 rw [hback] at HI;clear hback
 have hP:=Lib.hid (show plainB ms.data.toList c=(Oct.letter (c.toNat:Int)||Oct.digit (c.toNat:Int)||ms.data.toList.contains c) from rfl);rw [hcon.out] at hP;clear hcon;generalize Lib.indexByte ms.data.toList c=ix at *;generalize plainB ms.data.toList c=r at *;generalize (c.toNat:Int)=n at *;go_enter Tryz.func328,Tryz.ntmps328
 go_wp2_with (first
  |(go_at_call 294;with_reducible refine (HD.out _).mono ?_;rintro e w1 ⟨rfl,hw⟩;rw [hw];clear hw)
  |(go_at_call 332;with_reducible refine (HI.out _).mono ?_;rintro e w1 ⟨rfl,hw⟩;rw [hw];clear hw))
 all_goals (go_ret;exact ⟨ret_bool (by rw [hP.out];simp [Oct.letter, *]<;>omega),rfl⟩)
theorem isName_any (s:ByteArray) (w:World) (hs:s.size≤1000000000):Calls Tryz.prog 312 #[.string s] w fun e w'=>e=.returned (.bool (s.data.toList.all (plainB nameMarks)))∧w'=w:=by
 obtain ⟨A,hA⟩:∃A,s.data.toList.all (plainB nameMarks)=A:=⟨_,rfl⟩;rw [hA];have HA:=Lib.hid hA;clear hA;go_enter Tryz.func312,Tryz.ntmps312;go_wp2
 go_loop [3,6] (fun _ i=>∃k:Nat,k≤s.size∧i=.int .i64 k∧Hid ((s.data.toList.take k).all (plainB nameMarks)=true)) (fun _ i=>s.size-(intOf i).toNat)
 case atStart=>exact ⟨0,Nat.zero_le _,rfl,rfl⟩
 case round=>
  obtain ⟨k,hk,rfl,hno⟩:=hrel;rcases Nat.lt_or_ge k s.size with hlt | hge
  ·have HS:=Lib.hid (take_snoc s k hlt)
   have HM:=Lib.hid (byte_mem s k hlt)
   have HP:=Lib.hid (fun w=>plain_any s[k] ⟨#[45,46,95,126]⟩ w);rw [show (ByteArray.mk #[45,46,95,126]).data.toList=nameMarks from rfl] at HP;cases hq:plainB nameMarks s[k] with
   | true=>
     rw [hq] at HP
     go_wp2_with (go_at_call 328;with_reducible refine (HP.out _).mono ?_;rintro e w1 ⟨rfl,hw⟩;rw [hw];clear hw);go_round
     case rel=>exact ⟨k+1,by omega,by go_num,Lib.hid (by rw [HS.out,List.all_append,hno.out];simp [hq])⟩
     case measure=>simp [intOf];omega
   | false=>
     rw [hq] at HP
     go_wp2_with (go_at_call 328;with_reducible refine (HP.out _).mono ?_;rintro e w1 ⟨rfl,hw⟩;rw [hw];clear hw);go_ret;exact ⟨by rw [←HA.out,List.all_eq_false.2 ⟨s[k],HM.out,by rw [hq];decide⟩];rfl,rfl⟩
  ·obtain rfl:k=s.size:=by omega
   have hno1:=hno.out;rw [take_all s _ (Nat.le_refl _)] at hno1
   have HN:=Lib.hid (HA.out.symm.trans hno1);clear hno hno1;go_wp2;go_ret;exact ⟨by rw [HN.out];rfl,rfl⟩
theorem hex_all (a b:UInt8):allOf [5] [a,b]=(hexB a&&hexB b):=by simp [allOf,oneOf,ofKind,hexB]
theorem isWritten_any (s ms:ByteArray) (w:World) (hm:ms.data.toList.contains 37=false) :
 Calls Tryz.prog 324 #[.string s,.string ms] w fun e w'=>e=.returned (.bool (written ms.data.toList s.data.toList))∧Below w.heap.size w w':=by
 have HM:=Lib.hid hm;clear hm;obtain ⟨A,hA⟩:∃A,written ms.data.toList s.data.toList=A:=⟨_,rfl⟩;rw [hA];have HA:=Lib.hid hA;clear hA;go_enter Tryz.func324,Tryz.ntmps324;go_wp2
 go_loopw [0] (fun v wr=>∃S:ByteArray,v=.string S∧S.size≤s.size∧Hid (written ms.data.toList S.data.toList=A)∧Hid (Below w.heap.size w wr)) (fun v _=>match v with | .string S=>S.size | _=>0)
 case atStart=>exact ⟨s,rfl,Nat.le_refl _,HA,Lib.hid (Below.refl _ _)⟩
 case round=>
  obtain ⟨S,rfl,hS,hw,hb⟩:=hrel;cases hl:S.data.toList with
  | nil=>
    have he:=empty_of hl;rw [hl] at hw
    have HW:=Lib.hid (show true=A from hw.out);clear hl hw;go_wp2;go_ret;exact ⟨by rw [←HW.out];rfl,hb.out⟩
  | cons c r=>
    have he:=full_of hl;have hz:=size_cons hl;have h0:(0:Int)<(S.size:Int):=by omega
    have h1:(1:Int)≤(S.size:Int):=by omega
    have e0:∀h,S[0]'h=c:=fun h=>at_zero hl h
    have HP:=Lib.hid (fun w=>plain_any c ms w);rw [hl] at hw;have x1:=drop_ext S 1;rw [hl,List.drop_succ_cons,List.drop_zero] at x1;cases hq:plainB ms.data.toList c with
    | true=>
      rw [hq] at HP
      have HW:=Lib.hid (show written ms.data.toList (S.extract 1 S.size).data.toList=A by rw [x1,←hw.out,written_plain HM.out c r hq])
      have hz1:=Lib.hid (show (S.extract 1 S.size).size+1=S.size by rw [←len,x1,hz]);clear hw hl hq x1 hz
      go_wp2_with (go_at_call 328;with_reducible refine (HP.out _).mono ?_;rintro e w1 ⟨rfl,hw⟩;rw [hw];clear hw);go_roundw
      case rel=>exact ⟨_,rfl,by have:=hz1.out;omega,HW,hb⟩
      case measure=>have:=hz1.out;simp only;omega
    | false=>
      rw [hq] at HP;by_cases hc:c=37
      ·subst hc;have HP3:Hid (∀w,Calls Tryz.prog 328 #[.int .u8 37,.string ms] w fun e w'=>e=.returned (.bool false)∧w'=w):=HP;clear HP;rcases r with _ | ⟨a,_ | ⟨b,r'⟩⟩
       ·have t2:¬(2:Int)<(S.size:Int):=by simp at hz;omega
        clear hz
        have HW:=Lib.hid ((written_not (ms:=ms.data.toList) 37 [] hq (.inr (by decide))).symm.trans hw.out);clear hw hl hq x1
        go_wp2_with (go_at_call 328;with_reducible refine (HP3.out _).mono ?_;rintro e w1 ⟨rfl,hw⟩;rw [hw];clear hw);go_ret;exact ⟨by rw [←HW.out];rfl,hb.out⟩
       ·have t2:¬(2:Int)<(S.size:Int):=by simp at hz;omega
        clear hz
        have HW:=Lib.hid ((written_not (ms:=ms.data.toList) 37 [a] hq (.inr (by simp))).symm.trans hw.out);clear hw hl hq x1
        go_wp2_with (go_at_call 328;with_reducible refine (HP3.out _).mono ?_;rintro e w1 ⟨rfl,hw⟩;rw [hw];clear hw);go_ret;exact ⟨by rw [←HW.out];rfl,hb.out⟩
       ·simp only [List.length_cons] at hz;have t2:(2:Int)<(S.size:Int):=by omega
        have t3:(3:Int)≤(S.size:Int):=by omega
        have x3:=drop_ext S 3;rw [hl] at x3;simp only [List.drop_succ_cons,List.drop_zero] at x3;have x2:(S.extract 1 3).data.toList= [a,b]:=by rw [Lib.extract_data,hl];rfl
        have hsz2:(S.extract 1 3).size≤maxLen:=by rw [←len,x2];unfold maxLen;simp
        have HA5:=Lib.hid (fun (w:World) (g:Nat) hk=>Oct.all_any (S.extract 1 3) (some ⟨g,0,none⟩) 1 1 [5] w hsz2 hk (by decide));rw [x2,hex_all] at HA5;rw [written_pct] at hw
        have hz3:=Lib.hid (show (S.extract 3 S.size).size+3=S.size by rw [←len,x3];omega);clear hz;cases hab:(hexB a&&hexB b) with
        | true=>
          rw [hab] at HA5 hw;rw [Bool.true_and,←x3] at hw;clear hl hq x1 hsz2 x2 x3
          go_wp2_with (first
           |(go_at_call 328;with_reducible refine (HP3.out _).mono ?_;rintro e w1 ⟨rfl,hw⟩;rw [hw];clear hw)
           |(go_at_call 266;with_reducible refine (HA5.out _ _ ?_).mono ?_;exact Ints.one _ _ rfl _ _;rintro e w1 ⟨rfl,hw⟩;rw [hw];clear hw))
          go_roundw
          case rel=>exact ⟨_,rfl,by have:=hz3.out;omega,hw,Lib.hid (hb.out.alloc hb.out.size _)⟩
          case measure=>have:=hz3.out;simp only;omega
        | false=>
          rw [hab] at HA5 hw;rw [Bool.false_and] at hw;clear hl hq x1 hsz2 x2 x3
          go_wp2_with (first
           |(go_at_call 328;with_reducible refine (HP3.out _).mono ?_;rintro e w1 ⟨rfl,hw⟩;rw [hw];clear hw)
           |(go_at_call 266;with_reducible refine (HA5.out _ _ ?_).mono ?_;exact Ints.one _ _ rfl _ _;rintro e w1 ⟨rfl,hw⟩;rw [hw];clear hw))
          go_ret;exact ⟨by rw [←hw.out];rfl,hb.out.alloc hb.out.size _⟩
      ·have t1:((c.toNat:Int)==37)=false:=beq_eq_false_iff_ne.2 fun e=>hc (UInt8.toNat_inj.1 (by show c.toNat=37;omega))
       have HW:=Lib.hid ((written_not (ms:=ms.data.toList) c r hq (.inl hc)).symm.trans hw.out);clear hw hl hq x1 hz
       go_wp2_with (go_at_call 328;with_reducible refine (HP.out _).mono ?_;rintro e w1 ⟨rfl,hw⟩;rw [hw];clear hw);go_ret;exact ⟨by rw [←HW.out];rfl,hb.out⟩
theorem isPort_any (s:ByteArray) (w:World) (hs:s.size≤1000000000):Calls Tryz.prog 313 #[.string s] w fun e w'=>e=.returned (.bool (portOk s.data.toList))∧Below w.heap.size w w':=by
 have HD:=Lib.hid (fun w=>Num.dec_any 65535 (by decide) s w (by unfold maxLen;omega));have hP:portOk s.data.toList=(decide (s.size≤5)&&decide ((readOf 10 65535 s.data.toList).2=0)):=by unfold portOk;rw [len]
 rw [hP];clear hP;generalize (readOf 10 65535 s.data.toList).2=e at *;generalize (readOf 10 65535 s.data.toList).1=n at *;by_cases h5:s.size≤5
 ·rw [decide_eq_true h5,Bool.true_and];have t1:(s.size:Int)≤5:=by omega
  by_cases he:e=0
  ·subst he;go_enter Tryz.func313,Tryz.ntmps313
   go_wp2_with (go_at_call 300;with_reducible refine (HD.out _).mono ?_;rintro e w1 ⟨rfl,hb⟩);go_ret;exact ⟨rfl,hb⟩
  ·have t2:(e==0)=false:=beq_eq_false_iff_ne.2 he;rw [decide_eq_false he];clear he;go_enter Tryz.func313,Tryz.ntmps313
   go_wp2_with (go_at_call 300;with_reducible refine (HD.out _).mono ?_;rintro e w1 ⟨rfl,hb⟩);go_ret;exact ⟨rfl,hb⟩
 ·rw [decide_eq_false h5,Bool.false_and];have t1:¬(s.size:Int)≤5:=by omega
  go_enter Tryz.func313,Tryz.ntmps313
  go_wp2_with (go_at_call 300;with_reducible refine (HD.out _).mono ?_;rintro e w1 ⟨rfl,hb⟩);go_ret;exact ⟨rfl,hb⟩
theorem host_any (s:ByteArray) (w:World) (hs:s.size≤1000000000):Calls Tryz.prog 296 #[.string s] w fun e w'=>e=.returned (.bool (hostB s.data.toList))∧Below w.heap.size w w':=by
 have HC:=Lib.hid (fun w=>cut_any s 58 w hs);obtain ⟨hl1,hl2⟩:=cutAt_le 58 s.data.toList;rw [len] at hl1 hl2;have hH:hostB s.data.toList=(nameOk (cutAt 58 s.data.toList).1&&(!(cutAt 58 s.data.toList).2.2||portOk (cutAt 58 s.data.toList).2.1)):=rfl;rw [hH];clear hH;generalize (cutAt 58 s.data.toList).1=n at *;generalize (cutAt 58 s.data.toList).2.1=p at *;generalize (cutAt 58 s.data.toList).2.2=b at *
 have HN:=Lib.hid (fun w=>isName_any (ba n) w (by rw [ba_size];omega))
 have HP:=Lib.hid (fun w=>isPort_any (ba p) w (by rw [ba_size];omega));rw [ba_list] at HN HP;have hsz:=ba_size n;clear hl1 hl2;cases n with
 | nil=>
   have hE:(ba []).toList.isEmpty=true:=empty_of rfl;clear hsz;have e:nameOk []=false:=rfl;rw [e,Bool.false_and];clear e;generalize ba []=N at *;generalize ba p=PP at *;go_enter Tryz.func296,Tryz.ntmps296
   go_wp2_with (go_at_call 274;with_reducible refine (HC.out _).mono ?_;rintro e w1 ⟨rfl,m,hw⟩;rw [hw];clear hw);go_ret;exact ⟨rfl,Base.below_drewN (Below.refl _ _) _⟩
 | cons c r=>
   have hE:(ba (c::r)).toList.isEmpty=false:=by rw [Lib.toList_data];rfl
   have e:nameOk (c::r)=(decide ((c::r).length≤255)&&(c::r).all (plainB nameMarks)):=rfl;rw [e];clear e;by_cases hn:(c::r).length≤255
   ·rw [decide_eq_true hn,Bool.true_and];have t1:((ba (c::r)).size:Int)≤255:=by omega
    clear hsz hn;generalize (c::r).all (plainB nameMarks)=q at *;generalize ba (c::r)=N at *;generalize ba p=PP at *;generalize portOk p=pk at *;cases q with
    | false=>
      rw [Bool.false_and];go_enter Tryz.func296,Tryz.ntmps296
      go_wp2_with (first
       |(go_at_call 274;with_reducible refine (HC.out _).mono ?_;rintro e w1 ⟨rfl,m,hw⟩;rw [hw];clear hw)
       |(go_at_call 312;with_reducible refine (HN.out _).mono ?_;rintro e w1 ⟨rfl,hw⟩;rw [hw];clear hw))
      go_ret;exact ⟨rfl,Base.below_drewN (Below.refl _ _) _⟩
    | true=>
      rw [Bool.true_and];cases b with
      | false=>
        go_enter Tryz.func296,Tryz.ntmps296
        go_wp2_with (first
         |(go_at_call 274;with_reducible refine (HC.out _).mono ?_;rintro e w1 ⟨rfl,m,hw⟩;rw [hw];clear hw)
         |(go_at_call 312;with_reducible refine (HN.out _).mono ?_;rintro e w1 ⟨rfl,hw⟩;rw [hw];clear hw))
        go_ret;exact ⟨rfl,Base.below_drewN (Below.refl _ _) _⟩
      | true=>
        rw [Bool.not_true,Bool.false_or];go_enter Tryz.func296,Tryz.ntmps296
        go_wp2_with (first
         |(go_at_call 274;with_reducible refine (HC.out _).mono ?_;rintro e w1 ⟨rfl,m,hw⟩;rw [hw];clear hw)
         |(go_at_call 312;with_reducible refine (HN.out _).mono ?_;rintro e w1 ⟨rfl,hw⟩;rw [hw];clear hw)
         |(go_at_call 313;with_reducible refine (HP.out _).mono ?_;rintro e w2 ⟨rfl,hb⟩))
        go_ret;exact ⟨rfl,Base.below_step (Base.below_drewN (Below.refl _ _) _) hb⟩
   ·rw [decide_eq_false hn,Bool.false_and,Bool.false_and];have t1:¬((ba (c::r)).size:Int)≤255:=by omega
    clear hsz hn;generalize ba (c::r)=N at *;generalize ba p=PP at *;go_enter Tryz.func296,Tryz.ntmps296
    go_wp2_with (go_at_call 274;with_reducible refine (HC.out _).mono ?_;rintro e w1 ⟨rfl,m,hw⟩;rw [hw];clear hw);go_ret;exact ⟨rfl,Base.below_drewN (Below.refl _ _) _⟩
theorem prefix_slash (l:List UInt8):Lib.hasPrefix l [47]=decide (l.head?=some 47):=by
 cases l with
 | nil=>rfl
 | cons c r=>
   have:Lib.hasPrefix (c::r) [47]=(47==c):=by simp [Lib.hasPrefix,List.isPrefixOf]
   rw [this,List.head?_cons];by_cases h:c=47
   ·subst h;rfl
   ·rw [decide_eq_false (fun e=>h (Option.some.inj e)),beq_eq_false_iff_ne];exact fun e=>h e.symm
theorem slash_any (s:ByteArray) (w:World):Calls Tryz.prog 291 #[.string s,.string ⟨#[47]⟩] w fun e w'=>e=.returned (.bool (decide (s.data.toList.head?=some 47)))∧w'=w:=by have h:=Tryz.strings_HasPrefix s ⟨#[47]⟩ w;rw [show (ByteArray.mk #[47]).data.toList= [47] from rfl,prefix_slash] at h;exact h
theorem path_any (s:ByteArray) (w:World):Calls Tryz.prog 309 #[.string s] w fun e w'=>e=.returned (.bool (pathB s.data.toList))∧Below w.heap.size w w':=by
 have HS:=Lib.hid (fun w=>slash_any s w)
 have HW:=Lib.hid (fun w=>isWritten_any s ⟨#[45,46,95,126,33,36,38,39,40,41,42,43,44,59,61,58,64,47]⟩ w (by decide));rw [show (ByteArray.mk #[45,46,95,126,33,36,38,39,40,41,42,43,44,59,61,58,64,47]).data.toList=pathMarks from rfl] at HW;unfold pathB;generalize written pathMarks s.data.toList=q at *;generalize decide (s.data.toList.head?=some 47)=h at *;cases h with
 | false=>
   go_enter Tryz.func309,Tryz.ntmps309
   go_wp2_with (go_at_call 291;with_reducible refine (HS.out _).mono ?_;rintro e w1 ⟨rfl,hw⟩;rw [hw];clear hw);go_ret;exact ⟨rfl,Below.refl _ _⟩
 | true=>
   go_enter Tryz.func309,Tryz.ntmps309
   go_wp2_with (first
    |(go_at_call 291;with_reducible refine (HS.out _).mono ?_;rintro e w1 ⟨rfl,hw⟩;rw [hw];clear hw)
    |(go_at_call 324;with_reducible refine (HW.out _).mono ?_;rintro e w1 ⟨rfl,hb⟩))
   go_ret;exact ⟨by rw [Bool.true_and];rfl,hb⟩
theorem query_any (s:ByteArray) (w:World):Calls Tryz.prog 310 #[.string s] w fun e w'=>e=.returned (.bool (queryB s.data.toList))∧Below w.heap.size w w':=by
 have HW:=Lib.hid (fun w=>isWritten_any s ⟨#[45,46,95,126,33,36,38,39,40,41,42,43,44,59,61,58,64,47,63]⟩ w (by decide));rw [show (ByteArray.mk #[45,46,95,126,33,36,38,39,40,41,42,43,44,59,61,58,64,47,63]).data.toList=queryMarks from rfl] at HW;unfold queryB;generalize written queryMarks s.data.toList=q at *;go_enter Tryz.func310,Tryz.ntmps310
 go_wp2_with (go_at_call 324;with_reducible refine (HW.out _).mono ?_;rintro e w1 ⟨rfl,hb⟩);go_ret;exact ⟨rfl,hb⟩
end code
end Go.Proofs.YtnabkcglnbdfeaaGreatDoor.Tgt
namespace Go.Proofs.YtnabkcglnbdfeaaGreatDoor.Tgt
open Go.RowKit Base Oct Num Txt
abbrev tv (f:Int) (h p q:ByteArray) (a:Bool):Value:=.agg #[.int .i64 f,.string h,.string p,.string q,.bool a]
abbrev E0:ByteArray:=⟨#[]⟩
def ans:Option Tg→Value
 | none=>.tuple #[tv 0 E0 E0 E0 false,.int .i64 400]
 | some t=>.tuple #[tv t.form (ba t.host) (ba t.path) (ba t.query) t.asked,.int .i64 0]
structure Tgb (w:World) (g:Nat) (f:Int) (h p q:ByteArray) (a:Bool):Prop where
 c0:w.cell? ⟨g,0,none⟩=some (.int .i64 f)
 c1:w.cell? ⟨g,1,none⟩=some (.string h)
 c2:w.cell? ⟨g,2,none⟩=some (.string p)
 c3:w.cell? ⟨g,3,none⟩=some (.string q)
 c4:w.cell? ⟨g,4,none⟩=some (.bool a)
 z0:w.frozen? ⟨g,0,none⟩=false
 z1:w.frozen? ⟨g,1,none⟩=false
 z2:w.frozen? ⟨g,2,none⟩=false
 z3:w.frozen? ⟨g,3,none⟩=false
 z4:w.frozen? ⟨g,4,none⟩=false
theorem Tgb.below {w w':World} {g:Nat} {f:Int} {h p q:ByteArray} {a:Bool} (H:Tgb w g f h p q a) (hg:g<w.heap.size) (hb:Below w.heap.size w w'):Tgb w' g f h p q a:=
 ⟨(hb.cell (p:=⟨g,0,none⟩) hg).trans H.c0,(hb.cell (p:=⟨g,1,none⟩) hg).trans H.c1,(hb.cell (p:=⟨g,2,none⟩) hg).trans H.c2,(hb.cell (p:=⟨g,3,none⟩) hg).trans H.c3,(hb.cell (p:=⟨g,4,none⟩) hg).trans H.c4,
  (hb.frozen (p:=⟨g,0,none⟩) hg).trans H.z0,(hb.frozen (p:=⟨g,1,none⟩) hg).trans H.z1,(hb.frozen (p:=⟨g,2,none⟩) hg).trans H.z2,(hb.frozen (p:=⟨g,3,none⟩) hg).trans H.z3,(hb.frozen (p:=⟨g,4,none⟩) hg).trans H.z4⟩
theorem Tgb.new (w:World) (t:TypeId) (f:Int) (h p q:ByteArray) (a:Bool):Tgb (w.alloc (.cells #[.int .i64 f,.string h,.string p,.string q,.bool a] t)) w.heap.size f h p q a:=by
 have hh:=heap_alloc_new w (.cells #[.int .i64 f,.string h,.string p,.string q,.bool a] t);have c:∀k v,(#[Value.int .i64 f,.string h,.string p,.string q,.bool a]:Array Value)[k]?=some v→(w.alloc (.cells #[.int .i64 f,.string h,.string p,.string q,.bool a] t)).cell? ⟨w.heap.size,k,none⟩=some v:=
  fun k v e=>(cell_of_row (w.alloc _) w.heap.size k _ t (0,0) hh).trans e
 have z:∀k,(w.alloc (.cells #[.int .i64 f,.string h,.string p,.string q,.bool a] t)).frozen? ⟨w.heap.size,k,none⟩=false:=fun k=>by unfold World.frozen?;simp only [hh];simp
 exact ⟨c 0 _ rfl,c 1 _ rfl,c 2 _ rfl,c 3 _ rfl,c 4 _ rfl,z 0,z 1,z 2,z 3,z 4⟩
theorem Tgb.put {B:Nat} {w0 w:World} {g:Nat} {f:Int} {h p q:ByteArray} {a:Bool} (H:Tgb w g f h p q a) (hb:Below B w0 w) (hg:B≤g) (f':Int) (h' p' q':ByteArray) (a':Bool) :
 ∃W,((((w.setCell ⟨g,0,none⟩ (.int .i64 f')).setCell ⟨g,1,none⟩ (.string h')).setCell ⟨g,2,none⟩ (.string p')).setCell ⟨g,3,none⟩ (.string q')).setCell ⟨g,4,none⟩ (.bool a')=W∧Tgb W g f' h' p' q' a'∧Below B w0 W:=by
 obtain ⟨c0,c1,c2,c3,c4,z0,z1,z2,z3,z4⟩:=H;refine ⟨_,rfl,⟨?_,?_,?_,?_,?_,?_,?_,?_,?_,?_⟩,((((hb.setCell hg _).setCell hg _).setCell hg _).setCell hg _).setCell hg _⟩;all_goals go_simp
theorem Tgb.other {w:World} {g:Nat} {f:Int} {h p q:ByteArray} {a:Bool} (H:Tgb w g f h p q a) (g' o:Nat) (v:Value) (n2:¬g'=g):Tgb (w.setCell ⟨g',o,none⟩ v) g f h p q a:=by obtain ⟨c0,c1,c2,c3,c4,z0,z1,z2,z3,z4⟩:=H;refine ⟨?_,?_,?_,?_,?_,?_,?_,?_,?_,?_⟩;all_goals go_simp
section code
set_option maxHeartbeats 1000000
attribute [local go_sem] Base.some_undef
theorem colon_any (s:ByteArray) (w:World):Calls Tryz.prog 307 #[.string s,.string ⟨#[58]⟩] w fun e w'=>e=.returned (.bool (s.data.toList.contains 58))∧w'=w:=by have h:=Tryz.strings_Contains_one s 58 w;rw [←Lib.contains_iff_indexByte] at h;exact h
theorem authority_any (s:ByteArray) (w:World) (hs:s.size≤1000000000):Calls Tryz.prog 290 #[.string s] w fun e w'=>e=.returned (ans (authority s.data.toList))∧Below w.heap.size w w':=by
 have HC:=Lib.hid (fun w=>colon_any s w)
 have HH:=Lib.hid (fun w=>host_any s w hs);have hba:ba s.data.toList=s:=rfl;obtain ⟨R,hR⟩:∃R,authority s.data.toList=R:=⟨_,rfl⟩;rw [hR];unfold authority at hR;generalize s.data.toList.contains 58=b at *;generalize hostB s.data.toList=h at *;have hc:=Tgb.new w 212 0 E0 E0 E0 false;have hW:Below w.heap.size w (w.alloc (.cells #[.int .i64 0,.string E0,.string E0,.string E0,.bool false] 212)):=(Below.refl _ _).alloc (Nat.le_refl _) _;have hgg:w.heap.size<(w.alloc (.cells #[.int .i64 0,.string E0,.string E0,.string E0,.bool false] 212)).heap.size:=by simp
 cases b with
 | false=>
   obtain rfl:none=R:=hR;clear hba hc hW hgg;go_enter Tryz.func290,Tryz.ntmps290
   go_wp2_with (go_at_call 307;with_reducible refine (HC.out _).mono ?_;rintro e w1 ⟨rfl,hw⟩;rw [hw];clear hw);exact bodyPost_ret (v:=.tuple #[tv _ _ _ _ _,.int .i64 400]) (by simp [results,Tryz.results290,go_sem]) rfl ⟨rfl,(Below.refl _ _).alloc (Nat.le_refl _) _⟩
 | true=>
   have HCC:=Lib.hid hc;have HWW:=Lib.hid hW;have HG:=Lib.hid hgg;clear hc hW hgg;cases h with
   | false=>
     obtain rfl:none=R:=hR;clear hba;go_enter Tryz.func290,Tryz.ntmps290
     go_wp2_with (first
      |(go_at_call 307;with_reducible refine (HC.out _).mono ?_;rintro e w1 ⟨rfl,hw⟩;rw [hw];clear hw)
      |(go_at_call 296;with_reducible refine (HH.out _).mono ?_;rintro e w2 ⟨rfl,hb⟩
        obtain ⟨c0,c1,c2,c3,c4,z0,z1,z2,z3,z4⟩:=HCC.out.below HG.out hb
        have HB:=Lib.hid (Base.below_step HWW.out hb);clear hb))
     obtain ⟨W,hW,⟨d0,d1,d2,d3,d4,_,_,_,_,_⟩,hbW⟩:=Tgb.put ⟨c0,c1,c2,c3,c4,z0,z1,z2,z3,z4⟩ HB.out (Nat.le_refl _) 0 E0 E0 E0 false;rw [hW];exact bodyPost_ret (v:=.tuple #[tv 0 E0 E0 E0 false,.int .i64 400]) (by simp [results,Tryz.results290,go_sem,d0,d1,d2,d3,d4]) rfl ⟨rfl,hbW⟩
   | true=>
     obtain rfl:some ⟨3,s.data.toList,[],[],false⟩=R:=hR;rw [ans,hba,show ba []=E0 from rfl];clear hba;go_enter Tryz.func290,Tryz.ntmps290
     go_wp2_with (first
      |(go_at_call 307;with_reducible refine (HC.out _).mono ?_;rintro e w1 ⟨rfl,hw⟩;rw [hw];clear hw)
      |(go_at_call 296;with_reducible refine (HH.out _).mono ?_;rintro e w2 ⟨rfl,hb⟩
        obtain ⟨c0,c1,c2,c3,c4,z0,z1,z2,z3,z4⟩:=HCC.out.below HG.out hb
        have HB:=Lib.hid (Base.below_step HWW.out hb);clear hb))
     obtain ⟨W,hW,⟨d0,d1,d2,d3,d4,_,_,_,_,_⟩,hbW⟩:=Tgb.put ⟨c0,c1,c2,c3,c4,z0,z1,z2,z3,z4⟩ HB.out (Nat.le_refl _) 3 s E0 E0 false;rw [hW];exact bodyPost_ret (v:=.tuple #[tv 3 s E0 E0 false,.int .i64 0]) (by simp [results,Tryz.results290,go_sem,d0,d1,d2,d3,d4]) rfl ⟨rfl,hbW⟩
theorem origin_any (s:ByteArray) (w:World) (hs:s.size≤1000000000):Calls Tryz.prog 292 #[.string s] w fun e w'=>e=.returned (ans (origin s.data.toList))∧Below w.heap.size w w':=by
 have HC:=Lib.hid (fun w=>cut_any s 63 w hs);obtain ⟨R,hR⟩:∃R,origin s.data.toList=R:=⟨_,rfl⟩;rw [hR];unfold origin at hR;generalize (cutAt 63 s.data.toList).1=p at *;generalize (cutAt 63 s.data.toList).2.1=q at *;generalize (cutAt 63 s.data.toList).2.2=b at *
 have HP:=Lib.hid (fun w=>path_any (ba p) w)
 have HQ:=Lib.hid (fun w=>query_any (ba q) w);rw [ba_list] at HP HQ;generalize pathB p=pk at *;generalize queryB q=qk at *
 have HCC:=Lib.hid (Tgb.new w 212 0 E0 E0 E0 false)
 have HWW:=Lib.hid (show Below w.heap.size w (w.alloc (.cells #[.int .i64 0,.string E0,.string E0,.string E0,.bool false] 212)) from (Below.refl _ _).alloc (Nat.le_refl _) _)
 have HG:=Lib.hid (show w.heap.size<(w.alloc (.cells #[.int .i64 0,.string E0,.string E0,.string E0,.bool false] 212)).heap.size by simp);cases pk with
 | false=>
   obtain rfl:none=R:=hR;rw [ans];generalize ba p=PP at *;generalize ba q=QQ at *;go_enter Tryz.func292,Tryz.ntmps292
   go_wp2_with (first
    |(go_at_call 274;with_reducible refine (HC.out _).mono ?_;rintro e w1 ⟨rfl,m,hw⟩;rw [hw];clear hw)
    |(go_at_call 309;with_reducible refine (HP.out _).mono ?_;rintro e w2 ⟨rfl,hb⟩
      have hb':=Base.below_step (Base.below_drewN (Below.refl _ _) m) hb;obtain ⟨c0,c1,c2,c3,c4,z0,z1,z2,z3,z4⟩:=HCC.out.below HG.out hb'
      have HB:=Lib.hid (Base.below_step HWW.out hb');clear hb hb'))
   obtain ⟨W,hW,⟨d0,d1,d2,d3,d4,_,_,_,_,_⟩,hbW⟩:=Tgb.put ⟨c0,c1,c2,c3,c4,z0,z1,z2,z3,z4⟩ HB.out (Nat.le_refl _) 0 E0 E0 E0 false;rw [hW];exact bodyPost_ret (v:=.tuple #[tv 0 E0 E0 E0 false,.int .i64 400]) (by simp [results,Tryz.results292,go_sem,d0,d1,d2,d3,d4]) rfl ⟨rfl,hbW⟩
 | true=>
   cases qk with
   | false=>
     obtain rfl:none=R:=hR;rw [ans];generalize ba p=PP at *;generalize ba q=QQ at *;go_enter Tryz.func292,Tryz.ntmps292
     go_wp2_with (first
      |(go_at_call 274;with_reducible refine (HC.out _).mono ?_;rintro e w1 ⟨rfl,m,hw⟩;rw [hw];clear hw)
      |(go_at_call 309;with_reducible refine (HP.out _).mono ?_;rintro e w2 ⟨rfl,hb⟩
        have hb':=Base.below_step (Base.below_drewN (Below.refl _ _) m) hb;clear hb)
      |(go_at_call 310;with_reducible refine (HQ.out _).mono ?_;rintro e w3 ⟨rfl,hb3⟩
        have hb'':=Base.below_step hb' hb3;obtain ⟨c0,c1,c2,c3,c4,z0,z1,z2,z3,z4⟩:=HCC.out.below HG.out hb''
        have HB:=Lib.hid (Base.below_step HWW.out hb'');clear hb' hb'' hb3))
     obtain ⟨W,hW,⟨d0,d1,d2,d3,d4,_,_,_,_,_⟩,hbW⟩:=Tgb.put ⟨c0,c1,c2,c3,c4,z0,z1,z2,z3,z4⟩ HB.out (Nat.le_refl _) 0 E0 E0 E0 false;rw [hW];exact bodyPost_ret (v:=.tuple #[tv 0 E0 E0 E0 false,.int .i64 400]) (by simp [results,Tryz.results292,go_sem,d0,d1,d2,d3,d4]) rfl ⟨rfl,hbW⟩
   | true=>
     obtain rfl:some ⟨1,[],p,q,b⟩=R:=hR;rw [ans,show ba []=E0 from rfl];generalize ba p=PP at *;generalize ba q=QQ at *;go_enter Tryz.func292,Tryz.ntmps292
     go_wp2_with (first
      |(go_at_call 274;with_reducible refine (HC.out _).mono ?_;rintro e w1 ⟨rfl,m,hw⟩;rw [hw];clear hw)
      |(go_at_call 309;with_reducible refine (HP.out _).mono ?_;rintro e w2 ⟨rfl,hb⟩
        have hb':=Base.below_step (Base.below_drewN (Below.refl _ _) m) hb;clear hb)
      |(go_at_call 310;with_reducible refine (HQ.out _).mono ?_;rintro e w3 ⟨rfl,hb3⟩
        have hb'':=Base.below_step hb' hb3;obtain ⟨c0,c1,c2,c3,c4,z0,z1,z2,z3,z4⟩:=HCC.out.below HG.out hb''
        have HB:=Lib.hid (Base.below_step HWW.out hb'');clear hb' hb'' hb3))
     obtain ⟨W,hW,⟨d0,d1,d2,d3,d4,_,_,_,_,_⟩,hbW⟩:=Tgb.put ⟨c0,c1,c2,c3,c4,z0,z1,z2,z3,z4⟩ HB.out (Nat.le_refl _) 1 E0 PP QQ b;rw [hW];exact bodyPost_ret (v:=.tuple #[tv 1 E0 PP QQ b,.int .i64 0]) (by simp [results,Tryz.results292,go_sem,d0,d1,d2,d3,d4]) rfl ⟨rfl,hbW⟩
end code
end Go.Proofs.YtnabkcglnbdfeaaGreatDoor.Tgt
namespace Go.Proofs.YtnabkcglnbdfeaaGreatDoor.Tgt
open Go.RowKit Base Oct Num Txt
theorem hostOf_le (l:List UInt8):(hostOf l).length≤l.length:=(List.takeWhile_sublist _).length_le
theorem restOf_le (l:List UInt8):(restOf l).length≤l.length:=(List.dropWhile_sublist _).length_le
theorem slashed_le (l:List UInt8):(slashed l).length≤l.length+1:=by unfold slashed;split<;>simp
section code
set_option maxHeartbeats 1000000
attribute [local go_sem] Base.some_undef
theorem absolute_any (s:ByteArray) (w:World) (hs:s.size≤900000000):Calls Tryz.prog 293 #[.string s] w fun e w'=>e=.returned (ans (absolute s.data.toList))∧Below w.heap.size w w':=by
 have HI:=Lib.hid (fun w=>indexAny_any s w (by omega));obtain ⟨R,hR⟩:∃R,absolute s.data.toList=R:=⟨_,rfl⟩;rw [hR];unfold absolute at hR;have hl1:=hostOf_le s.data.toList;have hl2:=restOf_le s.data.toList
 have hl3:=slashed_le (restOf s.data.toList);rw [len] at hl1 hl2;have hsp:=idx_split s.data.toList;rw [len] at hsp
 have e1:∀i:Nat,i≤s.size→s.extract 0 i=ba (s.data.toList.take i):=fun i _=>ba_ext (by rw [Lib.extract_data];simp [ba])
 have e2:∀i:Nat,s.extract i s.size=ba (s.data.toList.drop i):=fun i=>ba_ext (by rw [drop_ext];rfl);have e3:s=ba s.data.toList:=rfl;generalize hostOf s.data.toList=ho at *;generalize restOf s.data.toList=re at *;generalize Lib.indexAny s.data.toList [47,63]=ix at *;have HSP:=Lib.hid hsp;clear hsp;have E1:=Lib.hid e1;have E2:=Lib.hid e2;have E3:=Lib.hid e3;clear e1 e2 e3
 have HO:=Lib.hid (fun (w:World)=>origin_any (ba (slashed re)) w (by rw [ba_size];omega))
 have HH:=Lib.hid (fun (w:World)=>host_any (ba ho) w (by rw [ba_size];omega))
 have HS:=Lib.hid (fun (w:World)=>slash_any (ba re) w);rw [ba_list] at HO HH HS;have hrz:(ba re).size≤1000000000:=by rw [ba_size];omega
 have hv:¬9223372036854775807<1+(ba re).size:=by omega
 have hSl:slashed re=if re.head?=some 47 then re else 47::re:=rfl
 have hbaS:∀l:List UInt8,(⟨#[47]⟩:ByteArray)++ba l=ba (47::l):=fun l=>ba_ext (by simp [ba]);have HBA:=Lib.hid hbaS;clear hbaS hrz hl1 hl2 hl3
 have HCC:=Lib.hid (Tgb.new w 212 0 E0 E0 E0 false)
 have HWW:=Lib.hid (show Below w.heap.size w (w.alloc (.cells #[.int .i64 0,.string E0,.string E0,.string E0,.bool false] 212)) from (Below.refl _ _).alloc (Nat.le_refl _) _)
 have HG:=Lib.hid (show w.heap.size<(w.alloc (.cells #[.int .i64 0,.string E0,.string E0,.string E0,.bool false] 212)).heap.size by simp);generalize hSS:slashed re=sl at *;have HSl:=Lib.hid hSl;clear hSl hSS;go_enter Tryz.func293,Tryz.ntmps293
 go_upto_if 13 with (go_at_call 311;with_reducible refine (HI.out _).mono ?_;rintro e w1 ⟨rfl,hb⟩)
 have HT1:=Lib.hid (HCC.out.below HG.out hb)
 have HB1:=Lib.hid (Base.below_step HWW.out hb)
 have HG1:=Lib.hid (Nat.lt_of_lt_of_le HG.out hb.size);clear hb HCC HWW HG HI
 go_cut [4,5] from 12 (fun h r wx=>h=.string (ba ho)∧r=.string (ba re)∧Hid (∃n,wx=w1.drewN n))
 case first=>
  rcases HSP.out with ⟨rfl,h2,h3⟩ | ⟨i,h0,rfl,h2,h3⟩
  ·have H2:=Lib.hid h2;have H3:=Lib.hid h3;clear h2 h3;go_wp2_with fail;go_meet
   case rel=>exact ⟨by rw [H2.out];rfl,by rw [H3.out];rfl,Lib.hid ⟨0,rfl⟩⟩
  ·have H2:=Lib.hid h2;have H3:=Lib.hid h3;have c0:(0:Int)≤(i:Int):=by omega
   have c1:(i:Int)≤(s.size:Int):=by omega
   have hi:=Lib.hid (Nat.le_of_lt h0);clear h2 h3 h0;go_wp2_with fail
   go_quiet (fail);rename_i nq;go_wp2_with fail;go_meet
   case rel=>exact ⟨by rw [H2.out,E1.out i hi.out],by rw [H3.out,E2.out i],Lib.hid ⟨nq,rfl⟩⟩
 case rest=>
  obtain ⟨rfl,rfl,hwc⟩:=hcut;have HT2:Hid (Tgb wc w.heap.size 0 E0 E0 E0 false):=by
   obtain ⟨n,hn⟩:=hwc.out
   exact Lib.hid (hn ▸ HT1.out.below HG1.out (Base.below_drewN (Below.refl _ _) n))
  have HB2:Hid (Below w.heap.size w wc):=by
   obtain ⟨n,hn⟩:=hwc.out
   exact Lib.hid (hn ▸ Base.below_drewN HB1.out n)
  have HG2:Hid (w.heap.size<wc.heap.size):=by
   obtain ⟨n,hn⟩:=hwc.out
   exact Lib.hid (hn ▸ HG1.out)
  clear hwc HT1 HB1 HG1
  go_upto_if 22 with (go_at_call 291;with_reducible refine (HS.out _).mono ?_;rintro e w2 ⟨rfl,hw⟩;rw [hw];clear hw)
  go_cut [5] from 12 (fun r wx=>r=.string (ba sl)∧wx=wc)
  case first=>
   by_cases hd:re.head?=some 47
   ·have H1:=Lib.hid (HSl.out.trans (if_pos hd));rw [decide_eq_true hd];clear hd;go_wp2_with fail;go_meet
    case rel=>exact ⟨by rw [H1.out],rfl⟩
   ·have H1:=Lib.hid (HSl.out.trans (if_neg hd));rw [decide_eq_false hd];clear hd;go_wp2_with fail;go_meet
    case rel=>exact ⟨by rw [H1.out,HBA.out],rfl⟩
  case rest=>
   obtain ⟨rfl,rfl⟩:=hcut;clear HS HBA HSl HSP E1 E2 E3 hv;generalize ba sl=SL at *;cases hor:origin sl with
   | none=>
     rw [hor] at HO hR;obtain rfl:none=R:=hR;have HO2:Hid (∀w,Calls Tryz.prog 292 #[.string SL] w fun e w'=>e=.returned (.tuple #[tv 0 E0 E0 E0 false,.int .i64 400])∧Below w.heap.size w w'):=HO;clear HO hor
     go_upto_if 36 with (go_at_call 292;with_reducible refine (HO2.out _).mono ?_;rintro e w2 ⟨rfl,hb⟩)
     have hb3:Below wc.heap.size wc (w2.alloc (.cells #[.int .i64 0,.string E0,.string E0,.string E0,.bool false] 212)):=hb.alloc hb.size _;generalize w2.alloc (.cells #[.int .i64 0,.string E0,.string E0,.string E0,.bool false] 212)=W3 at *;obtain ⟨c0,c1,c2,c3,c4,z0,z1,z2,z3,z4⟩:=HT2.out.below HG2.out hb3
     have HB:=Lib.hid (Base.below_step HB2.out hb3);clear hb hb3 HT2 HB2 HG2;go_wp2_with fail;obtain ⟨W,hW,⟨d0,d1,d2,d3,d4,_,_,_,_,_⟩,hbW⟩:=Tgb.put ⟨c0,c1,c2,c3,c4,z0,z1,z2,z3,z4⟩ HB.out (Nat.le_refl _) 0 E0 E0 E0 false;rw [hW];exact bodyPost_ret (v:=.tuple #[tv 0 E0 E0 E0 false,.int .i64 400]) (by simp [results,Tryz.results293,go_sem,d0,d1,d2,d3,d4]) rfl ⟨rfl,hbW⟩
   | some u=>
     obtain ⟨_,f1,f2⟩:=putPath_origin hor;rw [hor] at HO hR;obtain ⟨uf,uh,up,uq,ua⟩:=u;simp only at f1 f2;subst f1 f2;have HO2:Hid (∀w,Calls Tryz.prog 292 #[.string SL] w fun e w'=>e=.returned (.tuple #[tv 1 E0 (ba up) (ba uq) ua,.int .i64 0])∧Below w.heap.size w w'):=HO;clear HO hor;simp only at hR;cases hh:hostB ho with
     | false=>
       rw [hh] at HH hR;obtain rfl:none=R:=hR
       go_upto_if 36 with (first
        |(go_at_call 292;with_reducible refine (HO2.out _).mono ?_;rintro e w2 ⟨rfl,hb⟩
          have hb3:Below wc.heap.size wc (w2.alloc (.cells #[.int .i64 1,.string E0,.string (ba up),.string (ba uq),.bool ua] 212)):=hb.alloc hb.size _;clear hb)
        |(go_at_call 296;with_reducible refine (HH.out _).mono ?_;rintro e w4 ⟨rfl,hb4⟩))
       have hb':=Base.below_step hb3 hb4;obtain ⟨c0,c1,c2,c3,c4,z0,z1,z2,z3,z4⟩:=HT2.out.below HG2.out hb'
       have HB:=Lib.hid (Base.below_step HB2.out hb');clear hb3 hb4 hb' HT2 HB2 HG2;go_wp2_with fail;obtain ⟨W,hW,⟨d0,d1,d2,d3,d4,_,_,_,_,_⟩,hbW⟩:=Tgb.put ⟨c0,c1,c2,c3,c4,z0,z1,z2,z3,z4⟩ HB.out (Nat.le_refl _) 0 E0 E0 E0 false;rw [hW];exact bodyPost_ret (v:=.tuple #[tv 0 E0 E0 E0 false,.int .i64 400]) (by simp [results,Tryz.results293,go_sem,d0,d1,d2,d3,d4]) rfl ⟨rfl,hbW⟩
     | true=>
       rw [hh] at HH hR;obtain rfl:some ⟨2,ho,up,uq,ua⟩=R:=hR
       go_upto_if 36 with (first
        |(go_at_call 292;with_reducible refine (HO2.out _).mono ?_;rintro e w2 ⟨rfl,hb⟩
          have hb3:Below wc.heap.size wc (w2.alloc (.cells #[.int .i64 1,.string E0,.string (ba up),.string (ba uq),.bool ua] 212)):=hb.alloc hb.size _
          have HT5:=Lib.hid (Tgb.new w2 212 1 E0 (ba up) (ba uq) ua)
          have HG5:=Lib.hid (show w2.heap.size<(w2.alloc (.cells #[.int .i64 1,.string E0,.string (ba up),.string (ba uq),.bool ua] 212)).heap.size by simp);have hne:w.heap.size<w2.heap.size:=Nat.lt_of_lt_of_le HG2.out hb.size;clear hb)
        |(go_at_call 296;with_reducible refine (HH.out _).mono ?_;rintro e w4 ⟨rfl,hb4⟩))
       have hb':=Base.below_step hb3 hb4;obtain ⟨c0,c1,c2,c3,c4,z0,z1,z2,z3,z4⟩:=HT2.out.below HG2.out hb';obtain ⟨a0,a1,a2,a3,a4,y0,y1,y2,y3,y4⟩:=HT5.out.below HG5.out hb4
       have HB:=Lib.hid (Base.below_step HB2.out hb');clear hb3 hb4 hb' HT2 HB2 HG2 HT5 HG5;have n1:¬w.heap.size=w2.heap.size:=by omega
       have n2:¬w2.heap.size=w.heap.size:=by omega
       generalize w2.heap.size=g7 at *;go_wp2_with fail
       have hB5:=(HB.out.setCell (p:=⟨g7,0,none⟩) (Nat.le_of_lt hne) (.int .i64 2)).setCell (p:=⟨g7,1,none⟩) (Nat.le_of_lt hne) (.string (ba ho));obtain ⟨W,hW,⟨d0,d1,d2,d3,d4,_,_,_,_,_⟩,hbW⟩:=Tgb.put (((Tgb.mk c0 c1 c2 c3 c4 z0 z1 z2 z3 z4).other g7 0 (.int .i64 2) n2).other g7 1 (.string (ba ho)) n2) hB5 (Nat.le_refl _) 2 (ba ho) (ba up) (ba uq) ua;rw [hW];exact bodyPost_ret (v:=.tuple #[tv 2 (ba ho) (ba up) (ba uq) ua,.int .i64 0]) (by simp [results,Tryz.results293,go_sem,d0,d1,d2,d3,d4]) rfl ⟨rfl,hbW⟩
theorem toList_ba (m:ByteArray) (l:List UInt8):(m.toList==l)=decide (m.data.toList=l):=by rw [Lib.toList_data,Bool.eq_iff_iff,beq_iff_eq,decide_eq_true_eq]
theorem eq_facts (m:ByteArray) (l:List UInt8) (b:Bool) (h:decide (m.data.toList=l)=b):(m.toList==l)=b∧(m.toList==(ByteArray.mk l.toArray).toList)=b:=by have h1:=toList_ba m l;rw [h] at h1;exact ⟨h1,by rw [show (ByteArray.mk l.toArray).toList=l from Lib.toList_data _];exact h1⟩
theorem ans_form (R:Option Tg):∃(f:Int) (h p q:ByteArray) (a:Bool) (e:Int),ans R=.tuple #[tv f h p q a,.int .i64 e]:=by
 cases R with
 | none=>exact ⟨_,_,_,_,_,_,rfl⟩
 | some t=>exact ⟨_,_,_,_,_,_,rfl⟩
theorem parse_any (m s:ByteArray) (w:World) (hs:s.size≤900000000):Calls Tryz.prog 269 #[.string m,.string s] w fun e w'=>e=.returned (ans (parse m.data.toList s.data.toList))∧Below w.heap.size w w':=by
 have HCC:=Lib.hid (Tgb.new w 212 0 E0 E0 E0 false)
 have HWW:=Lib.hid (show Below w.heap.size w (w.alloc (.cells #[.int .i64 0,.string E0,.string E0,.string E0,.bool false] 212)) from (Below.refl _ _).alloc (Nat.le_refl _) _)
 have HG:=Lib.hid (show w.heap.size<(w.alloc (.cells #[.int .i64 0,.string E0,.string E0,.string E0,.bool false] 212)).heap.size by simp);by_cases hm:m.data.toList=connect
 ·have HA:=Lib.hid (fun w=>authority_any s w (by omega));rw [parse,if_pos hm]
  obtain ⟨t1,t2⟩:=eq_facts m [67,79,78,78,69,67,84] true (decide_eq_true hm);clear hm
  obtain ⟨f,h,p,q,a,en,hE⟩:=ans_form (authority s.data.toList);rw [hE] at HA ⊢;clear hE;go_enter Tryz.func269,Tryz.ntmps269
  go_wp2_with (go_at_call 290;with_reducible refine (HA.out _).mono ?_;rintro e w2 ⟨rfl,hb⟩
               obtain ⟨c0,c1,c2,c3,c4,z0,z1,z2,z3,z4⟩:=HCC.out.below HG.out hb
               have HB:=Lib.hid (Base.below_step HWW.out hb);clear hb)
  obtain ⟨W,hW,⟨d0,d1,d2,d3,d4,_,_,_,_,_⟩,hbW⟩:=Tgb.put ⟨c0,c1,c2,c3,c4,z0,z1,z2,z3,z4⟩ HB.out (Nat.le_refl _) f h p q a;rw [hW];exact bodyPost_ret (v:=.tuple #[tv f h p q a,.int .i64 en]) (by simp [results,Tryz.results269,go_sem,d0,d1,d2,d3,d4]) rfl ⟨rfl,hbW⟩
 ·obtain ⟨t1,t2⟩:=eq_facts m [67,79,78,78,69,67,84] false (decide_eq_false hm);rw [parse,if_neg hm];clear hm;by_cases ho:m.data.toList=options∧s.data.toList= [42]
  ·obtain ⟨t3,t4⟩:=eq_facts m [79,80,84,73,79,78,83] true (decide_eq_true ho.1)
   obtain ⟨t5,t6⟩:=eq_facts s [42] true (decide_eq_true ho.2);rw [if_pos ho];clear ho HCC HWW HG;go_enter Tryz.func269,Tryz.ntmps269;go_wp2_with fail;exact bodyPost_ret (v:=.tuple #[tv 4 E0 E0 E0 false,.int .i64 0]) (by simp [results,Tryz.results269,go_sem]) rfl ⟨rfl,(Below.refl _ _).alloc (Nat.le_refl _) _⟩
  ·rw [if_neg ho];have hno:((m.toList == [79,80,84,73,79,78,83])=false∧(m.toList==(ByteArray.mk #[79,80,84,73,79,78,83]).toList)=false)∨((m.toList == [79,80,84,73,79,78,83])=true∧(m.toList==(ByteArray.mk #[79,80,84,73,79,78,83]).toList)=true∧(s.toList == [42])=false∧(s.toList==(ByteArray.mk #[42]).toList)=false):=by
    by_cases h1:m.data.toList=options
    ·obtain ⟨t3,t4⟩:=eq_facts m [79,80,84,73,79,78,83] true (decide_eq_true h1)
     obtain ⟨t5,t6⟩:=eq_facts s [42] false (decide_eq_false fun e=>ho ⟨h1,e⟩);exact .inr ⟨t3,t4,t5,t6⟩
    ·obtain ⟨t3,t4⟩:=eq_facts m [79,80,84,73,79,78,83] false (decide_eq_false h1);exact .inl ⟨t3,t4⟩
   clear ho
   have HS:=Lib.hid (fun w=>slash_any s w);by_cases hd:s.data.toList.head?=some 47
   ·rw [decide_eq_true hd] at HS;rw [if_pos hd];clear hd
    have HO:=Lib.hid (fun w=>origin_any s w (by omega))
    obtain ⟨f,h,p,q,a,en,hE⟩:=ans_form (origin s.data.toList);rw [hE] at HO ⊢;clear hE;rcases hno with ⟨t3,t4⟩ | ⟨t3,t4,t5,t6⟩;all_goals
     go_enter Tryz.func269,Tryz.ntmps269
     go_wp2_with (first
      |(go_at_call 291;with_reducible refine (HS.out _).mono ?_;rintro e w2 ⟨rfl,hw⟩;rw [hw];clear hw)
      |(go_at_call 292;with_reducible refine (HO.out _).mono ?_;rintro e w2 ⟨rfl,hb⟩
        obtain ⟨c0,c1,c2,c3,c4,z0,z1,z2,z3,z4⟩:=HCC.out.below HG.out hb
        have HB:=Lib.hid (Base.below_step HWW.out hb);clear hb))
     obtain ⟨W,hW,⟨d0,d1,d2,d3,d4,_,_,_,_,_⟩,hbW⟩:=Tgb.put ⟨c0,c1,c2,c3,c4,z0,z1,z2,z3,z4⟩ HB.out (Nat.le_refl _) f h p q a;rw [hW];exact bodyPost_ret (v:=.tuple #[tv f h p q a,.int .i64 en]) (by simp [results,Tryz.results269,go_sem,d0,d1,d2,d3,d4]) rfl ⟨rfl,hbW⟩
   ·rw [decide_eq_false hd] at HS;rw [if_neg hd];clear hd;by_cases h7:7≤s.size
    ·have q7:(7:Int)≤(s.size:Int):=by omega
     have x1:(s.extract 0 7).data.toList=s.data.toList.take 7:=by rw [Lib.extract_data];simp
     have hx1:(s.extract 0 7).size≤maxLen:=by rw [←len,x1,List.length_take];unfold maxLen;omega
     have HM:=Lib.hid (fun w=>Txt.same_any (s.extract 0 7) ⟨#[104,116,116,112,58,47,47]⟩ w hx1);have hsm:same (s.extract 0 7) ⟨#[104,116,116,112,58,47,47]⟩=schemed s.data.toList:=by unfold same schemed;rw [x1,len,decide_eq_true h7];rfl
     rw [hsm] at HM;clear x1 hx1 hsm h7;cases hsc:schemed s.data.toList with
     | true=>
       rw [hsc] at HM;rw [if_pos rfl];have x2:=drop_ext s 7
       have HO:=Lib.hid (fun w=>absolute_any (s.extract 7 s.size) w (by rw [←len,x2,List.length_drop,len];omega));rw [x2] at HO
       obtain ⟨f,h,p,q,a,en,hE⟩:=ans_form (absolute (s.data.toList.drop 7));rw [hE] at HO ⊢;clear hE x2 hsc;rcases hno with ⟨t3,t4⟩ | ⟨t3,t4,t5,t6⟩;all_goals
        go_enter Tryz.func269,Tryz.ntmps269
        go_wp2_with (first
         |(go_at_call 291;with_reducible refine (HS.out _).mono ?_;rintro e w2 ⟨rfl,hw⟩;rw [hw];clear hw)
         |(go_at_call 148;with_reducible refine (HM.out _).mono ?_;rintro e w2 ⟨rfl,hb⟩)
         |(go_at_call 293;with_reducible refine (HO.out _).mono ?_;rintro e w3 ⟨rfl,hb3⟩
           have hb':=Base.below_step hb hb3;obtain ⟨c0,c1,c2,c3,c4,z0,z1,z2,z3,z4⟩:=HCC.out.below HG.out hb'
           have HB:=Lib.hid (Base.below_step HWW.out hb');clear hb hb3 hb'))
        obtain ⟨W,hW,⟨d0,d1,d2,d3,d4,_,_,_,_,_⟩,hbW⟩:=Tgb.put ⟨c0,c1,c2,c3,c4,z0,z1,z2,z3,z4⟩ HB.out (Nat.le_refl _) f h p q a;rw [hW];exact bodyPost_ret (v:=.tuple #[tv f h p q a,.int .i64 en]) (by simp [results,Tryz.results269,go_sem,d0,d1,d2,d3,d4]) rfl ⟨rfl,hbW⟩
     | false=>
       rw [hsc] at HM;rw [if_neg (by decide)];clear hsc;rcases hno with ⟨t3,t4⟩ | ⟨t3,t4,t5,t6⟩;all_goals
        go_enter Tryz.func269,Tryz.ntmps269
        go_wp2_with (first
         |(go_at_call 291;with_reducible refine (HS.out _).mono ?_;rintro e w2 ⟨rfl,hw⟩;rw [hw];clear hw)
         |(go_at_call 148;with_reducible refine (HM.out _).mono ?_;rintro e w2 ⟨rfl,hb⟩
           obtain ⟨c0,c1,c2,c3,c4,z0,z1,z2,z3,z4⟩:=HCC.out.below HG.out hb
           have HB:=Lib.hid (Base.below_step HWW.out hb);clear hb))
        obtain ⟨W,hW,⟨d0,d1,d2,d3,d4,_,_,_,_,_⟩,hbW⟩:=Tgb.put ⟨c0,c1,c2,c3,c4,z0,z1,z2,z3,z4⟩ HB.out (Nat.le_refl _) 0 E0 E0 E0 false;rw [hW];exact bodyPost_ret (v:=.tuple #[tv 0 E0 E0 E0 false,.int .i64 400]) (by simp [results,Tryz.results269,go_sem,d0,d1,d2,d3,d4]) rfl ⟨rfl,hbW⟩
    ·have q7:¬(7:Int)≤(s.size:Int):=by omega
     have hsc:schemed s.data.toList=false:=by unfold schemed;rw [len,decide_eq_false h7,Bool.false_and]
     rw [hsc,if_neg (by decide)];clear hsc h7 HCC HWW HG;rcases hno with ⟨t3,t4⟩ | ⟨t3,t4,t5,t6⟩;all_goals
      go_enter Tryz.func269,Tryz.ntmps269
      go_wp2_with (go_at_call 291;with_reducible refine (HS.out _).mono ?_;rintro e w2 ⟨rfl,hw⟩;rw [hw];clear hw);exact bodyPost_ret (v:=.tuple #[tv 0 E0 E0 E0 false,.int .i64 400]) (by simp [results,Tryz.results269,go_sem]) rfl ⟨rfl,(Below.refl _ _).alloc (Nat.le_refl _) _⟩
end code
end Go.Proofs.YtnabkcglnbdfeaaGreatDoor.Tgt
namespace Go.Proofs.YtnabkcglnbdfeaaGreatDoor.Bnd
open Go.RowKit Base
def mid (lo n hi:Int):Int:=if lo<(if n > hi then hi else n) then (if n > hi then hi else n) else lo
def inside (n lo hi:Int):Bool:=decide (lo≤n)&&decide (n≤hi)
theorem mid_iff (lo n hi:Int) (h:lo≤hi):(n=mid lo n hi)↔inside n lo hi=true:=by
 unfold mid inside;simp only [Bool.and_eq_true,decide_eq_true_eq];constructor
 ·intro e;split at e<;> (try split at e)<;>omega
 ·intro e;split<;> (try split)<;>omega
abbrev bnd (x0 x1 x2 x3 x4 x5 x6 x7:Int) (c d:Bool):Value:=.agg #[.int .i64 x0,.int .i64 x1,.int .i64 x2,.int .i64 x3,.int .i64 x4,.int .i64 x5,.int .i64 x6,.int .i64 x7,.bool c,.bool d]
def right (x0 x1 x2 x3 x4 x5 x6 x7:Int):Bool:=
 inside x0 64 4096&&(inside x1 4 100&&(inside x2 256 65536&&(inside x3 16 1048576&&(inside x4 0 256&&(inside x5 0 100&&(inside x6 1 16&&inside x7 1 1000))))))
structure At (w:World) (g:Nat) (x0 x1 x2 x3 x4 x5 x6 x7:Int) (c d:Bool):Prop where
 q0:w.cell? ⟨g,0,none⟩=some (.int .i64 x0)
 q1:w.cell? ⟨g,1,none⟩=some (.int .i64 x1)
 q2:w.cell? ⟨g,2,none⟩=some (.int .i64 x2)
 q3:w.cell? ⟨g,3,none⟩=some (.int .i64 x3)
 q4:w.cell? ⟨g,4,none⟩=some (.int .i64 x4)
 q5:w.cell? ⟨g,5,none⟩=some (.int .i64 x5)
 q6:w.cell? ⟨g,6,none⟩=some (.int .i64 x6)
 q7:w.cell? ⟨g,7,none⟩=some (.int .i64 x7)
 q8:w.cell? ⟨g,8,none⟩=some (.bool c)
 q9:w.cell? ⟨g,9,none⟩=some (.bool d)
section
variable {w w':World} {g:Nat} {x0 x1 x2 x3 x4 x5 x6 x7:Int} {c d:Bool}
theorem At.below (h:At w g x0 x1 x2 x3 x4 x5 x6 x7 c d) (hg:g<w.heap.size) (hb:Below w.heap.size w w'):At w' g x0 x1 x2 x3 x4 x5 x6 x7 c d:=
 ⟨(hb.cell (p:=⟨g,0,none⟩) hg).trans h.q0,(hb.cell (p:=⟨g,1,none⟩) hg).trans h.q1,(hb.cell (p:=⟨g,2,none⟩) hg).trans h.q2,(hb.cell (p:=⟨g,3,none⟩) hg).trans h.q3,(hb.cell (p:=⟨g,4,none⟩) hg).trans h.q4,
  (hb.cell (p:=⟨g,5,none⟩) hg).trans h.q5,(hb.cell (p:=⟨g,6,none⟩) hg).trans h.q6,(hb.cell (p:=⟨g,7,none⟩) hg).trans h.q7,(hb.cell (p:=⟨g,8,none⟩) hg).trans h.q8,(hb.cell (p:=⟨g,9,none⟩) hg).trans h.q9⟩
theorem At.new (w:World) (t:TypeId) (x0 x1 x2 x3 x4 x5 x6 x7:Int) (c d:Bool):At (w.alloc (.cells #[.int .i64 x0,.int .i64 x1,.int .i64 x2,.int .i64 x3,.int .i64 x4,.int .i64 x5,.int .i64 x6,.int .i64 x7,.bool c,.bool d] t)) w.heap.size x0 x1 x2 x3 x4 x5 x6 x7 c d:=by
 have h:∀k v,(#[Value.int .i64 x0,.int .i64 x1,.int .i64 x2,.int .i64 x3,.int .i64 x4,.int .i64 x5,.int .i64 x6,.int .i64 x7,.bool c,.bool d]:Array Value)[k]?=some v→(w.alloc (.cells #[.int .i64 x0,.int .i64 x1,.int .i64 x2,.int .i64 x3,.int .i64 x4,.int .i64 x5,.int .i64 x6,.int .i64 x7,.bool c,.bool d] t)).cell? ⟨w.heap.size,k,none⟩=some v:=
  fun k v h=>(cell_of_row (w.alloc _) w.heap.size k _ t (0,0) (heap_alloc_new w _)).trans h
 exact ⟨h 0 _ rfl,h 1 _ rfl,h 2 _ rfl,h 3 _ rfl,h 4 _ rfl,h 5 _ rfl,h 6 _ rfl,h 7 _ rfl,h 8 _ rfl,h 9 _ rfl⟩
end
section code
set_option maxHeartbeats 1000000
theorem between_any (lo n hi:Int) (w:World):Calls Tryz.prog 155 #[.int .i64 lo,.int .i64 n,.int .i64 hi] w fun e w'=>e=.returned (.int .i64 (mid lo n hi))∧w'=w:=by
 go_enter Tryz.func155,Tryz.ntmps155;go_wp2;all_goals
  go_ret;exact ⟨ret_int (by unfold mid;(repeat' split)<;>omega),rfl⟩
theorem rusual_any (w:World):Calls Tryz.prog 45 #[] w fun e w'=>e=.returned (bnd 1024 32 8192 65536 32 8 4 20 true true)∧Below w.heap.size w w':=by go_enter Tryz.func45,Tryz.ntmps45;go_wp2;exact bodyPost_ret (v:=bnd _ _ _ _ _ _ _ _ _ _) (by simp [results,Tryz.results45,go_sem]) rfl ⟨rfl,(Below.refl _ _).alloc (Nat.le_refl _) _⟩
theorem within_any (x0 x1 x2 x3 x4 x5 x6 x7:Int) (c d:Bool) (w:World):Calls Tryz.prog 114 #[bnd x0 x1 x2 x3 x4 x5 x6 x7 c d] w
 fun e w'=>e=.returned (bnd (mid 64 x0 4096) (mid 4 x1 100) (mid 256 x2 65536) (mid 16 x3 1048576) (mid 0 x4 256) (mid 0 x5 100) (mid 1 x6 16) (mid 1 x7 1000) c d)∧Below w.heap.size w w':=by
 go_enter Tryz.func114,Tryz.ntmps114
 go_wp2_with (go_at_call 155;with_reducible refine (between_any _ _ _ _).mono ?_;rintro e w1 ⟨rfl,hw⟩;rw [hw];clear hw);exact bodyPost_ret (v:=bnd _ _ _ _ _ _ _ _ _ _) (by simp [results,Tryz.results114,go_sem]) rfl ⟨rfl,((Below.refl _ _).alloc (Nat.le_refl _) _).alloc (by simp) _⟩
theorem right_any (x0 x1 x2 x3 x4 x5 x6 x7:Int) (c d:Bool) (w:World):Calls Tryz.prog 71 #[bnd x0 x1 x2 x3 x4 x5 x6 x7 c d] w
 fun e w'=>e=.returned (.bool (right x0 x1 x2 x3 x4 x5 x6 x7))∧Below w.heap.size w w':=by
 go_enter Tryz.func71,Tryz.ntmps71;go_wp2_with fail;have hc:=At.new w 29 x0 x1 x2 x3 x4 x5 x6 x7 c d;have hW:Below w.heap.size w (w.alloc (.cells #[.int .i64 x0,.int .i64 x1,.int .i64 x2,.int .i64 x3,.int .i64 x4,.int .i64 x5,.int .i64 x6,.int .i64 x7,.bool c,.bool d] 29)):=(Below.refl _ _).alloc (Nat.le_refl _) _;have hgg:w.heap.size<(w.alloc (.cells #[.int .i64 x0,.int .i64 x1,.int .i64 x2,.int .i64 x3,.int .i64 x4,.int .i64 x5,.int .i64 x6,.int .i64 x7,.bool c,.bool d] 29)).heap.size:=by simp
 generalize w.alloc (.cells #[.int .i64 x0,.int .i64 x1,.int .i64 x2,.int .i64 x3,.int .i64 x4,.int .i64 x5,.int .i64 x6,.int .i64 x7,.bool c,.bool d] 29)=W at *;generalize hgw:w.heap.size=g at *;refine Sched.region [(0,false),(1,false),(2,true),(3,false),(4,false)] (fun w'=>Below W.heap.size W w') (by kernel_rfl) (by kernel_rfl) (fun _ _ d _ _ h=>by cases d<;>exact h) (Base.below_drewN (Below.refl _ _) 1) ?_;simp only [Sched.picked,List.filterMap_cons,List.filterMap_nil,List.getElem?_cons_zero,List.getElem?_cons_succ,Option.map_some]
 iterate 2
  refine Sched.quiet (by rfl) ?_ ?_ ?_
  rotate_left 1
  ·intro w' hS;obtain ⟨q0,q1,q2,q3,q4,q5,q6,q7,q8,q9⟩:=hc.below hgg hS;clear hS;go_simp;with_reducible rfl
  simp only [Act.put,List.setIfInBounds_toArray,List.set_cons_zero,List.set_cons_succ]
 refine Sched.change (by rfl) (fun K hK=>?_);go_simp;with_reducible refine (within_any _ _ _ _ _ _ _ _ _ _ _).mono ?_
 rintro e w1 ⟨rfl,hb⟩;dsimp only;have hb1:Below W.heap.size W w1:=(Base.below_drewN (Below.refl _ _) 1).trans hb;refine hK _ _ hb1 ?_;clear hK K;refine Sched.quiet (by rfl) (.bool (right x0 x1 x2 x3 x4 x5 x6 x7)) ?_ ?_
 ·intro w' hS;go_simp;simp only [mid_iff 64 x0 4096 (by decide),mid_iff 4 x1 100 (by decide),mid_iff 256 x2 65536 (by decide),mid_iff 16 x3 1048576 (by decide),mid_iff 0 x4 256 (by decide),mid_iff 0 x5 100 (by decide),mid_iff 1 x6 16 (by decide),mid_iff 1 x7 1000 (by decide)];unfold right;cases inside x0 64 4096;·rfl
  cases inside x1 4 100;·rfl
  cases inside x2 256 65536;·rfl
  cases inside x3 16 1048576;·rfl
  cases inside x4 0 256;·rfl
  cases inside x5 0 100;·rfl
  cases inside x6 1 16;·rfl
  cases inside x7 1 1000<;>rfl
 simp only [Act.put,List.setIfInBounds_toArray,List.set_cons_zero,List.set_cons_succ];refine Sched.assign _ (by rfl) (by rfl) ?_;simp only [Act.put,Act.eval,Array.getD_eq_getD_getElem?,List.getElem?_toArray,List.getElem?_cons_zero,List.getElem?_cons_succ,Option.getD_some,List.setIfInBounds_toArray,List.set_cons_zero,List.set_cons_succ];refine Sched.done ?_;go_wp2;go_ret;subst hgw;exact ⟨rfl,hW.trans (Below.mono hb1 hW.size)⟩
attribute [local go_sem] Base.some_undef
end code
end Go.Proofs.YtnabkcglnbdfeaaGreatDoor.Bnd
