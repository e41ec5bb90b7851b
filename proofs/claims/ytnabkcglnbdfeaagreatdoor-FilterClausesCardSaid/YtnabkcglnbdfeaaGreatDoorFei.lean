import Derived.Test.YtnabkcglnbdfeaaGreatDoorFef
import Derived.Test.YtnabkcglnbdfeaaGreatDoorFeh
namespace Go.Proofs.YtnabkcglnbdfeaaGreatDoor.Chk
open Go.RowKit Base Txt
def extL (l:List UInt8):List UInt8:=if (Tgt.cutAt 59 l).2.2=true then 59::(Tgt.cutAt 59 l).2.1 else []
def marked (l:List UInt8):Bool:=decide (2≤l.length)&&same (ba (l.take 2)) ⟨#[48,120]⟩
def bare (l:List UInt8):List UInt8:=if marked l=true then l.drop 2 else l
def pieceL (hex blanks:Bool) (z:List UInt8):List UInt8:=if hex=true then bare (if blanks=true then trimL Txt.blank z else z) else (if blanks=true then trimL Txt.blank z else z)
def sizeL (hex blanks:Bool) (l:List UInt8):List UInt8:=pieceL hex blanks (Tgt.cutAt 59 l).1
def numV (r:Int × Int):Int × Int:=if r.2=22 then (0,400) else if r.2=23 then (0,413) else (r.1,0)
def isx (ext:Int) (l:List UInt8):Bool:=l.isEmpty|| (decide ((l.length:Int)≤ext)&&Oct.allOf [6] l)
def sizeV (hex blanks:Bool) (ext body:Int) (l:List UInt8):Int × Int:=
 if isx ext (extL l)=true then numV (Num.readOf 16 body (sizeL hex blanks l)) else (0,400)
def chunkL (c:List UInt8):List UInt8:=if c= [] then [] else Num.spell 16 c.length ++ [13,10]++c ++ [13,10]
def putL (cs:List (List UInt8)):List UInt8:=cs.flatMap chunkL ++ [48,13,10]
theorem put_snoc (cs:List (List UInt8)) (c:List UInt8):(cs ++ [c]).flatMap chunkL=cs.flatMap chunkL++chunkL c:=by simp [List.flatMap_append]
theorem ext_split (l:List UInt8):l=(Tgt.cutAt 59 l).1++extL l:=by
 unfold extL;rcases Tgt.cut_cases 59 l with h | ⟨a,r,h,hn⟩
 ·rw [Tgt.cutAt_none 59 l h];simp
 ·rw [h,Tgt.cutAt_app 59 a r hn];simp
theorem ext_le (l:List UInt8):(extL l).length≤l.length∧(Tgt.cutAt 59 l).1.length≤l.length:=by have h:=congrArg List.length (ext_split l);rw [List.length_append] at h;omega
theorem trimL_le (p:UInt8→Bool) (l:List UInt8):(trimL p l).length≤l.length:=by unfold trimL;rw [List.length_reverse];have h1:=(List.dropWhile_sublist p (l:=(l.dropWhile p).reverse)).length_le;have h2:=(List.dropWhile_sublist p (l:=l)).length_le;rw [List.length_reverse] at h1;omega
theorem bare_le (l:List UInt8):(bare l).length≤l.length:=by
 unfold bare;split
 ·rw [List.length_drop];omega
 ·exact Nat.le_refl _
theorem piece_le (hex blanks:Bool) (l:List UInt8):(pieceL hex blanks l).length≤l.length:=by
 have h1:=trimL_le Txt.blank l
 have h2:=bare_le (trimL Txt.blank l);have h3:=bare_le l;cases hex<;>cases blanks<;>simp only [pieceL,if_true,if_false,Bool.false_eq_true]<;>omega
structure BB (x0 x1 x2 x3 x4 x5 x6 x7:Int) (ch od:Bool) (w0:World) (g:Nat) (w:World):Prop where
 f:Bnd.At w g x0 x1 x2 x3 x4 x5 x6 x7 ch od
 lt:g<w.heap.size
 b:Below w0.heap.size w0 w
section
variable {x0 x1 x2 x3 x4 x5 x6 x7:Int} {ch od:Bool} {w0 w w':World} {g:Nat}
theorem BB.new (hb:Below w0.heap.size w0 w) (t:TypeId) (x0 x1 x2 x3 x4 x5 x6 x7:Int) (ch od:Bool) :
 BB x0 x1 x2 x3 x4 x5 x6 x7 ch od w0 w.heap.size (w.alloc (.cells #[.int .i64 x0,.int .i64 x1,.int .i64 x2,.int .i64 x3,.int .i64 x4,.int .i64 x5,.int .i64 x6,.int .i64 x7,.bool ch,.bool od] t)):=
 ⟨Bnd.At.new w t x0 x1 x2 x3 x4 x5 x6 x7 ch od,by simp,hb.alloc hb.size _⟩
theorem BB.step (h:BB x0 x1 x2 x3 x4 x5 x6 x7 ch od w0 g w) (hb:Below w.heap.size w w'):BB x0 x1 x2 x3 x4 x5 x6 x7 ch od w0 g w':=
 ⟨h.f.below h.lt hb,Nat.lt_of_lt_of_le h.lt hb.size,Base.below_step h.b hb⟩
theorem BB.drew (h:BB x0 x1 x2 x3 x4 x5 x6 x7 ch od w0 g w) (m:Nat):BB x0 x1 x2 x3 x4 x5 x6 x7 ch od w0 g (w.drewN m):=h.step (Base.below_drewN (Below.refl _ _) m)
end
end Go.Proofs.YtnabkcglnbdfeaaGreatDoor.Chk
namespace Go.Proofs.YtnabkcglnbdfeaaGreatDoor.Chk
open Go.RowKit Base Txt
theorem drop_ext (l:List UInt8):l.drop (Tgt.cutAt 59 l).1.length=extL l:=by have h:=ext_split l;generalize (Tgt.cutAt 59 l).1=A at *;generalize extL l=E at *;rw [h,List.drop_left]
section code
set_option maxHeartbeats 8000000
set_option maxRecDepth 100000
attribute [local go_sem] Base.some_undef
theorem parts_any (s:ByteArray) (w:World) (hs:s.size≤1000000000):Calls Tryz.prog 251 #[.string s] w fun e w'=>
 e=.returned (.tuple #[.string (ba (Tgt.cutAt 59 s.data.toList).1),.string (ba (extL s.data.toList))])∧∃n,w'=w.drewN n:=by
 have HI:=Lib.hid (fun w=>Tgt.cut_any s 59 w hs);have hle:=(ext_le s.data.toList).2;rw [len] at hle
 have e1:s.extract (Tgt.cutAt 59 s.data.toList).1.length s.size=ba (extL s.data.toList):=ba_ext (by rw [Lib.extract_data,List.take_of_length_le (by rw [List.length_drop,len];omega)];exact drop_ext s.data.toList)
 rw [←e1];have hsz:(ba (Tgt.cutAt 59 s.data.toList).1).size=(Tgt.cutAt 59 s.data.toList).1.length:=by rw [←len];rfl
 rw [←hsz] at hle ⊢;clear e1 hsz;generalize Tgt.cutAt 59 s.data.toList=r at *;obtain ⟨r1,r2,r3⟩:=r;dsimp only at HI hle ⊢;generalize ba r1=R1 at *;generalize ba r2=R2 at *;have c1:(R1.size:Int)≤(s.size:Int):=by omega
 have c0:(0:Int)≤(R1.size:Int):=by omega
 go_enter Tryz.func251,Tryz.ntmps251
 go_wp2_with (go_at_call 274;with_reducible refine (HI.out _).mono ?_;rintro e w1 ⟨rfl,n,hw⟩;rw [hw];clear hw)
 go_quiet (fail);rename_i nq;go_wp2;go_ret2;exact ⟨rfl,n+nq,by simp [World.drewN,Nat.add_assoc]⟩
theorem isExt_any (s:ByteArray) (most:Int) (w:World) (hs:s.size≤1000000000):Calls Tryz.prog 252 #[.string s,.int .i64 most] w fun e w'=>
 e=.returned (.bool (isx most s.data.toList))∧Below w.heap.size w w':=by
 unfold isx;rcases Nat.eq_zero_or_pos s.size with h0 | h0
 ·obtain rfl:s=⟨#[]⟩:=ba_ext (List.length_eq_zero_iff.1 (by rw [len];exact h0));go_enter Tryz.func252,Tryz.ntmps252;go_wp2;go_ret;exact ⟨rfl,Below.refl _ _⟩
 ·have hne:s.data.toList.isEmpty=false:=by
   rw [Bool.eq_false_iff];intro h;rw [List.isEmpty_iff] at h;have:=congrArg List.length h;rw [len,List.length_nil] at this;omega
  have hne2:¬s.toList= []:=by rw [Go.ByteArray.toList_eq];intro h;rw [h] at hne;cases hne
  have hne3:s.toList.isEmpty=false:=by rw [Go.ByteArray.toList_eq];exact hne
  rw [hne,Bool.false_or,len]
  have HA:Hid (∀w a,Ints w a 1 [6]→Calls Tryz.prog 266 #[.string s,.slice a 1 1] w fun e w'=>e=.returned (.bool (Oct.allOf [6] s.data.toList))∧w'=w):=Lib.hid fun w a hk=>Oct.all_any s a 1 1 [6] w (by unfold maxLen;omega) hk (by decide);generalize Oct.allOf [6] s.data.toList=b at *;rcases Int.lt_or_le most (s.size:Int) with h | h
  ·have d1:decide ((s.size:Int)≤most)=false:=decide_eq_false (by omega);rw [d1];clear hs hne;go_enter Tryz.func252,Tryz.ntmps252;go_wp2;go_ret;exact ⟨rfl,Below.refl _ _⟩
  ·have d1:decide ((s.size:Int)≤most)=true:=decide_eq_true h;rw [d1];clear hs hne;cases b;all_goals
    go_enter Tryz.func252,Tryz.ntmps252
    go_wp2_with (go_at_call 266;with_reducible refine (HA.out _ _ (Ints.one _ _ rfl _ _)).mono ?_;rintro e w1 ⟨rfl,hw⟩;rw [hw];clear hw);go_ret;exact ⟨rfl,(Below.refl _ _).alloc (Nat.le_refl _) _⟩
theorem bare_any (z:ByteArray) (p:Nat) (hp:p<4294967296) (w:World) (hz:z.size≤1000000000):Calls Tryz.prog 254 #[.string z,.int .u32 (p:Nat)] w fun e w'=>
 e=.returned (.string (ba (pieceL (Qk.has p 27) (Qk.has p 28) z.data.toList)))∧Below w.heap.size w w':=by
 have H7:=Lib.hid (fun w=>Qk.has_any p hp 27 w)
 have H8:=Lib.hid (fun w=>Qk.has_any p hp 28 w)
 have HT:=Lib.hid (fun w=>trim_any z w (by unfold maxLen;omega));have ht:(trim z).size≤z.size:=trim_size _ _;have key:∀(b:Bool) (T:ByteArray),T.data.toList=(if b=true then trimL Txt.blank z.data.toList else z.data.toList)→∀a:Bool,pieceL a b z.data.toList=if a=true then bare T.data.toList else T.data.toList:=fun b T h a=>by unfold pieceL;rw [←h]
 obtain ⟨b8,h8⟩:∃b,Qk.has p 28=b:=⟨_,rfl⟩;obtain ⟨b7,h7⟩:∃b,Qk.has p 27=b:=⟨_,rfl⟩;rw [h7] at H7 ⊢;rw [h8] at H8 ⊢;clear h7 h8;obtain ⟨T,hT,hTz,HC⟩:∃T:ByteArray,T.data.toList=(if b8=true then trimL Txt.blank z.data.toList else z.data.toList)∧T.size≤1000000000∧Hid (T=if b8=true then trim z else z):=by
  cases b8 with
  | true=>exact ⟨trim z,rfl,by omega,Lib.hid rfl⟩
  | false=>exact ⟨z,rfl,hz,Lib.hid rfl⟩
 rw [key b8 T hT b7];clear key hT ht;have e0:ba T.data.toList=T:=ba_ext rfl;cases b7 with
 | false=>
   rw [if_neg (by decide),e0];clear e0 hz hTz;cases b8 with
   | false=>
     obtain rfl:T=z:=HC.out;clear HT;go_enter Tryz.func254,Tryz.ntmps254
     go_wp2_with (first
      |(go_at_call 92;with_reducible refine (H8.out _).mono ?_;rintro e w1 ⟨rfl,hw⟩;rw [hw];clear hw)
      |(go_at_call 92;with_reducible refine (H7.out _).mono ?_;rintro e w1 ⟨rfl,hw⟩;rw [hw];clear hw))
     go_ret;exact ⟨rfl,Below.refl _ _⟩
   | true=>
     obtain rfl:T=trim z:=HC.out;generalize trim z=T at *;go_enter Tryz.func254,Tryz.ntmps254
     go_wp2_with (first
      |(go_at_call 92;with_reducible refine (H8.out _).mono ?_;rintro e w1 ⟨rfl,hw⟩;rw [hw];clear hw)
      |(go_at_call 92;with_reducible refine (H7.out _).mono ?_;rintro e w1 ⟨rfl,hw⟩;rw [hw];clear hw)
      |(go_at_call 195;with_reducible refine (HT.out _).mono ?_;rintro e w1 ⟨rfl,hw⟩;rw [hw];clear hw))
     go_ret;exact ⟨rfl,Below.refl _ _⟩
 | true=>
   rw [if_pos rfl];rcases Nat.lt_or_ge T.size 2 with h2 | h2
   ·have em:bare T.data.toList=T.data.toList:=by
     unfold bare marked;rw [len,decide_eq_false (by omega),Bool.false_and,if_neg (by decide)]
    rw [em,e0]
    have d1:decide ((2:Int)≤(T.size:Int))=false:=decide_eq_false (by omega);clear em e0 hz hTz;cases b8 with
    | false=>
      obtain rfl:T=z:=HC.out;clear HT;go_enter Tryz.func254,Tryz.ntmps254
      go_wp2_with (first
       |(go_at_call 92;with_reducible refine (H8.out _).mono ?_;rintro e w1 ⟨rfl,hw⟩;rw [hw];clear hw)
       |(go_at_call 92;with_reducible refine (H7.out _).mono ?_;rintro e w1 ⟨rfl,hw⟩;rw [hw];clear hw))
      go_ret;exact ⟨rfl,Below.refl _ _⟩
    | true=>
      obtain rfl:T=trim z:=HC.out;generalize trim z=T at *;go_enter Tryz.func254,Tryz.ntmps254
      go_wp2_with (first
       |(go_at_call 92;with_reducible refine (H8.out _).mono ?_;rintro e w1 ⟨rfl,hw⟩;rw [hw];clear hw)
       |(go_at_call 92;with_reducible refine (H7.out _).mono ?_;rintro e w1 ⟨rfl,hw⟩;rw [hw];clear hw)
       |(go_at_call 195;with_reducible refine (HT.out _).mono ?_;rintro e w1 ⟨rfl,hw⟩;rw [hw];clear hw))
      go_ret;exact ⟨rfl,Below.refl _ _⟩
   ·have hx:T.extract 0 2=ba (T.data.toList.take 2):=ba_ext (by rw [Lib.extract_data];simp [ba])
    have hx2:T.extract 2 T.size=ba (T.data.toList.drop 2):=ba_ext (by rw [Lib.extract_data,List.take_of_length_le (by rw [List.length_drop,len];omega)];rfl)
    have HS:=Lib.hid (fun w=>same_any (T.extract 0 2) ⟨#[48,120]⟩ w (by rw [hx,←len];unfold maxLen;simp [ba];omega));have em:bare T.data.toList=if same (T.extract 0 2) ⟨#[48,120]⟩=true then T.data.toList.drop 2 else T.data.toList:=by unfold bare marked;rw [len,decide_eq_true h2,Bool.true_and,hx]
    rw [em];generalize same (T.extract 0 2) ⟨#[48,120]⟩=q at *;have e3:ba (if q=true then T.data.toList.drop 2 else T.data.toList)=if q=true then T.extract 2 T.size else T:=by
     cases q
     ·rw [if_neg (by decide),if_neg (by decide)];exact e0
     ·rw [if_pos rfl,if_pos rfl];exact hx2.symm
    rw [e3]
    have d1:decide ((2:Int)≤(T.size:Int))=true:=decide_eq_true (by omega);have d2:(2:Int)≤(T.size:Int):=by omega
    clear em e0 e3 hx hx2 hz hTz;cases b8 with
    | false=>
      obtain rfl:T=z:=HC.out;clear HT;cases q;all_goals
       go_enter Tryz.func254,Tryz.ntmps254
       go_wp2_with (first
        |(go_at_call 92;with_reducible refine (H8.out _).mono ?_;rintro e w1 ⟨rfl,hw⟩;rw [hw];clear hw)
        |(go_at_call 92;with_reducible refine (H7.out _).mono ?_;rintro e w1 ⟨rfl,hw⟩;rw [hw];clear hw)
        |(go_at_call 148;with_reducible refine (HS.out _).mono ?_;rintro e w1 ⟨rfl,hb⟩))
       go_ret;exact ⟨rfl,hb⟩
    | true=>
      obtain rfl:T=trim z:=HC.out;generalize trim z=T at *;cases q;all_goals
       go_enter Tryz.func254,Tryz.ntmps254
       go_wp2_with (first
        |(go_at_call 92;with_reducible refine (H8.out _).mono ?_;rintro e w1 ⟨rfl,hw⟩;rw [hw];clear hw)
        |(go_at_call 92;with_reducible refine (H7.out _).mono ?_;rintro e w1 ⟨rfl,hw⟩;rw [hw];clear hw)
        |(go_at_call 195;with_reducible refine (HT.out _).mono ?_;rintro e w1 ⟨rfl,hw⟩;rw [hw];clear hw)
        |(go_at_call 148;with_reducible refine (HS.out _).mono ?_;rintro e w1 ⟨rfl,hb⟩))
       go_ret;exact ⟨rfl,hb⟩
theorem size_any (s:ByteArray) (p:Nat) (hp:p<4294967296) (x0 x1 x2 x3 x4 x5 x6 x7:Int) (ch od:Bool) (h3:x3≤9223372036854775807) (w:World) (hs:s.size≤1000000000) :
 Calls Tryz.prog 230 #[.string s,.int .u32 (p:Nat),Bnd.bnd x0 x1 x2 x3 x4 x5 x6 x7 ch od] w fun e w'=>e=.returned (.tuple #[.int .i64 (sizeV (Qk.has p 27) (Qk.has p 28) x4 x3 s.data.toList).1,.int .i64 (sizeV (Qk.has p 27) (Qk.has p 28) x4 x3 s.data.toList).2])∧Below w.heap.size w w':=by
 have hle:=ext_le s.data.toList;rw [len] at hle
 have HP:=Lib.hid (fun w=>parts_any s w hs)
 have HX:=Lib.hid (fun w=>isExt_any (ba (extL s.data.toList)) x4 w (by rw [←len];show (extL s.data.toList).length≤_;omega));have hb0:(ba (Tgt.cutAt 59 s.data.toList).1).size≤1000000000:=by rw [←len];show (Tgt.cutAt 59 s.data.toList).1.length≤_;omega
 have HB:=Lib.hid (fun w=>bare_any (ba (Tgt.cutAt 59 s.data.toList).1) p hp w hb0);have hsl:(ba (sizeL (Qk.has p 27) (Qk.has p 28) s.data.toList)).size≤maxLen:=by have h1:=piece_le (Qk.has p 27) (Qk.has p 28) (Tgt.cutAt 59 s.data.toList).1;rw [←len];show (pieceL _ _ _).length≤_;unfold maxLen;omega
 have HN:=Lib.hid (fun w=>Num.hexN_any x3 h3 (ba (sizeL (Qk.has p 27) (Qk.has p 28) s.data.toList)) w hsl);have e1:(ba (sizeL (Qk.has p 27) (Qk.has p 28) s.data.toList)).data.toList=sizeL (Qk.has p 27) (Qk.has p 28) s.data.toList:=rfl;have e2:(ba (extL s.data.toList)).data.toList=extL s.data.toList:=rfl;have e3:pieceL (Qk.has p 27) (Qk.has p 28) (ba (Tgt.cutAt 59 s.data.toList).1).data.toList=sizeL (Qk.has p 27) (Qk.has p 28) s.data.toList:=rfl;rw [e1] at HN;rw [e2] at HX;rw [e3] at HB;unfold sizeV;clear e1 e2 e3 hsl hb0 hle;generalize Num.readOf 16 x3 (sizeL (Qk.has p 27) (Qk.has p 28) s.data.toList)=R at *;generalize ba (sizeL (Qk.has p 27) (Qk.has p 28) s.data.toList)=Z at *;generalize isx x4 (extL s.data.toList)=q at *;generalize ba (extL s.data.toList)=E at *;generalize ba (Tgt.cutAt 59 s.data.toList).1=C at *;obtain ⟨r1,r2⟩:=R;dsimp only at HN
 have HBB:=Lib.hid (BB.new (Below.refl w.heap.size w) 29 x0 x1 x2 x3 x4 x5 x6 x7 ch od);cases q with
 | false=>
   rw [if_neg (by decide)];clear HN HB;go_enter Tryz.func230,Tryz.ntmps230
   go_wp2_with (first
    |(go_at_call 252;(with_reducible refine (HX.out _).mono ?_);rintro e w2 ⟨rfl,hb⟩
      have HB2:=Lib.hid (HBB1.out.step hb);clear hb)
    |(go_at_call 251;(with_reducible refine (HP.out _).mono ?_);rintro e w1 ⟨rfl,m,hw⟩
      have HBB1:=Lib.hid (HBB.out.drew m);rw [←hw] at HBB1;obtain ⟨⟨q0,q1,q2,q3,q4,q5,q6,q7,q8,q9⟩,hlt,hbk⟩:=HBB1.out;clear hw hlt hbk))
   go_ret2;exact ⟨rfl,HB2.out.b⟩
 | true=>
   rw [if_pos rfl];have hcase:(r2=22∧numV (r1,r2)=(0,400))∨((r2==22)=false∧r2=23∧numV (r1,r2)=(0,413))∨((r2==22)=false∧(r2==23)=false∧numV (r1,r2)=(r1,0)):=by
    unfold numV;by_cases h1:r2=22
    ·exact .inl ⟨h1,by rw [if_pos h1]⟩
    ·by_cases h2:r2=23
     ·exact .inr (.inl ⟨by simp [h1],h2,by rw [if_neg h1,if_pos h2]⟩)
     ·exact .inr (.inr ⟨by simp [h1],by simp [h2],by rw [if_neg h1,if_neg h2]⟩)
   generalize numV (r1,r2)=V at *;have hcase':=Lib.hid hcase;clear hcase;go_enter Tryz.func230,Tryz.ntmps230
   go_upto_region 4 with (first
    |(go_at_call 252;(with_reducible refine (HX.out _).mono ?_);rintro e w2 ⟨rfl,hb⟩
      have HB2:=Lib.hid (HBB1.out.step hb);clear hb)
    |(go_at_call 251;(with_reducible refine (HP.out _).mono ?_);rintro e w1 ⟨rfl,m,hw⟩
      have HBB1:=Lib.hid (HBB.out.drew m);rw [←hw] at HBB1;obtain ⟨⟨q0,q1,q2,q3,q4,q5,q6,q7,q8,q9⟩,hlt,hbk⟩:=HBB1.out;clear hw hlt hbk))
   clear q0 q1 q2 q3 q4 q5 q6 q7 q8 q9 HBB HBB1 HX HP;obtain ⟨⟨q0,q1,q2,q3,q4,q5,q6,q7,q8,q9⟩,hlt,hbk⟩:=HB2.out;clear q0 q1 q2 q4 q5 q6 q7 q8 q9 hlt hbk;generalize w.heap.size=g at *
   go_cut [10,11] from 22 to 30 (fun a b wx=>a=.int .i64 r1∧b=.int .i64 r2∧Hid (BB x0 x1 x2 x3 x4 x5 x6 x7 ch od w g wx))
   case first=>
    go_region_with (first
     |(go_at_call 253;(with_reducible refine (HN.out _).mono ?_);rintro e w4 ⟨rfl,hb⟩
       have HB4:=Lib.hid (HB3.out.step hb);clear hb)
     |(go_at_call 254;(with_reducible refine (HB.out _).mono ?_);rintro e w3 ⟨rfl,hb⟩
       have HB3:=Lib.hid ((HB2.out.drew 1).step hb);obtain ⟨⟨q0,q1,q2,q3,q4,q5,q6,q7,q8,q9⟩,hlt,hbk⟩:=HB3.out;clear q0 q1 q2 q4 q5 q6 q7 q8 q9 hlt hbk hb))
    all_goals
     go_wp2_with fail;go_meet
     case rel=>exact ⟨rfl,rfl,HB4⟩
   case rest=>
    obtain ⟨rfl,rfl,HW⟩:=hcut;rcases hcase'.out with ⟨rfl,rfl⟩ | ⟨t1,rfl,rfl⟩ | ⟨t1,t2,rfl⟩;all_goals
     go_wp2_with fail;go_ret2;exact ⟨rfl,HW.out.b⟩
end code
end Go.Proofs.YtnabkcglnbdfeaaGreatDoor.Chk
namespace Go.Proofs.YtnabkcglnbdfeaaGreatDoor.Chk
open Go.RowKit Base Txt
abbrev byteV (c:UInt8):Value:=.int .u8 (c.toNat:Int)
def vals (l:List UInt8):List Value:=l.map byteV
theorem vals_app (a b:List UInt8):vals (a++b)=vals a++vals b:=List.map_append
theorem vals_length (a:List UInt8):(vals a).length=a.length:=List.length_map _
theorem vals_one (l:List UInt8):∀u∈vals l,u.oneCell'=true:=by intro u hu;obtain ⟨b,_,rfl⟩:=List.mem_map.1 hu;rfl
theorem vals_lie {w:World} {a:Option Addr} {n:Nat} {l:List UInt8} (h:Nums .u8 w a n (nums l)):0<n→∃b off,a=some ⟨b,off,none⟩∧∀j u,(vals l)[j]?=some u→w.cell? ⟨b,off+j,none⟩=some u:=by
 intro hn;obtain ⟨b,off,rfl,_,hc⟩:=h.2 hn;refine ⟨b,off,rfl,fun j u hu=>?_⟩;have hl:l.length=n:=by have:=h.1;rwa [nums,List.length_map] at this
 have hj:j<l.length:=by
  rcases Nat.lt_or_ge j l.length with h | h
  ·exact h
  ·rw [List.getElem?_eq_none (by rw [vals_length];exact h)] at hu;cases hu
 rw [hc j (by omega),nums_at l j hj];rw [vals,List.getElem?_map,List.getElem?_eq_getElem hj] at hu;exact hu
theorem nums_of_own {w:World} {base:Nat} {v:Value} {n:Nat} {bs:List UInt8} {e:TypeId} (h:w.ownsRow base e 1 v n (vals bs)):∃A c,v=.slice A n c∧Nums .u8 w A n (Txt.nums bs):=by
 have hl:bs.length=n:=by simpa [vals_length] using h.1
 rcases h.2 with ⟨rfl,rfl⟩ | ⟨g,cap,cur,rfl,_,hh,_,hc,_,ht⟩
 ·obtain rfl:bs= []:=List.length_eq_zero_iff.1 hl;exact ⟨none,0,rfl,Nums.nil _ _ _⟩
 ·refine ⟨_,_,rfl,⟨by rw [Txt.nums,List.length_map];exact hl,fun _=>⟨g,0,rfl,?_,fun k hk=>?_⟩⟩⟩
  ·rcases Nat.lt_or_ge g w.heap.size with hlt | hge
   ·exact hlt
   ·rw [Array.getElem?_eq_none hge] at hh;cases hh
  ·rw [Nat.zero_add,cell_of_row w g k cur e (0,0) hh,Txt.nums_at bs k (by omega)];have h1:(vals bs)[k]?=some (byteV bs[k]):=by
    rw [vals,List.getElem?_map,List.getElem?_eq_getElem (by omega)];rfl
   rw [←ht,List.getElem?_take_of_lt (by omega)] at h1;simpa using h1
def bodyL (ls:List (List UInt8)) (k:Nat):List UInt8:=(ls.take k).flatMap chunkL
theorem body_snoc (ls:List (List UInt8)) (k:Nat) (h:k<ls.length):bodyL ls (k+1)=bodyL ls k++chunkL (ls[k]?.getD []):=by unfold bodyL;rw [List.take_succ_eq_append_getElem h,put_snoc,List.getElem?_eq_getElem h];rfl
theorem body_all (ls:List (List UInt8)):putL ls=bodyL ls ls.length ++ [48,13,10]:=by unfold bodyL putL;rw [List.take_length]
theorem body_le (ls:List (List UInt8)) (k:Nat) (h:k<ls.length):(bodyL ls k).length+(chunkL (ls[k]?.getD [])).length+3≤(putL ls).length:=by
 have h1:=congrArg List.length (body_snoc ls k h);rw [List.length_append] at h1;have h2:(putL ls).length=(bodyL ls (k+1)).length+((ls.drop (k+1)).flatMap chunkL).length+3:=by
  unfold putL bodyL
  conv=>lhs;rw [←List.take_append_drop (k+1) ls]
  rw [List.flatMap_append,List.length_append,List.length_append];rfl
 omega
theorem chunk_of (l:List UInt8) (h:l≠ []):chunkL l=Num.spell 16 l.length ++ [13,10]++l ++ [13,10]:=by unfold chunkL;rw [if_neg h]
theorem row_chunk {w:World} {B:Nat} {e:TypeId} {v:Value} {P l:List UInt8} {D:ByteArray} (hl:l≠ []) (hD:D.data.toList=Num.spell 16 l.length) {n:Nat} (hn:n=P.length+D.size+2+l.length+2)
 {xs:List Value} (hx:xs=vals P++vals D.data.toList++vals [13,10]++vals l++vals [13,10]) (h:w.ownsRow B e 1 v n xs):w.ownsRow B e 1 v (P++chunkL l).length (vals (P++chunkL l)):=by
 have hd:D.size=(Num.spell 16 l.length).length:=by rw [←hD,len]
 have e1:vals (P++chunkL l)=xs:=by rw [hx,chunk_of l hl,hD,vals_app,vals_app,vals_app,vals_app];simp only [List.append_assoc]
 have e2:(P++chunkL l).length=n:=by rw [hn,hd,chunk_of l hl];simp only [List.length_append,List.length_cons,List.length_nil];omega
 rw [e1,e2];exact h
section code
set_option maxHeartbeats 8000000
set_option maxRecDepth 100000
attribute [local go_sem] Base.some_undef
theorem rput_any (a:Option Addr) (n cap:Nat) (ls:List (List UInt8)) (w:World) (hv:Lines w a n ls) (hn:n≤maxLen) (hz:(putL ls).length≤1000000000) :
 Calls Tryz.prog 89 #[.slice a n cap] w fun e w'=>∃A c,e=.returned (.slice A (putL ls).length c)∧Nums .u8 w' A (putL ls).length (nums (putL ls))∧Below w.heap.size w w':=by
 unfold maxLen at hn;have HV:=Lib.hid hv;have HL:=Lib.hid hv.1;have HZ:=Lib.hid hz;clear hv hz;obtain ⟨i0,hi0,hz0,hz1,hz2⟩:=info_parts Txt.byte_info;have G1:=Lib.hid hi0;have G2:=Lib.hid hz0;have G3:=Lib.hid hz1;have G4:=Lib.hid hz2;clear hi0 hz0 hz1 hz2;go_enter Tryz.func89,Tryz.ntmps89;go_wp2_with fail
 go_loopw [3,4] (fun v i wr=>∃k:Nat,k≤n∧i=.int .i64 k∧Hid (wr.ownsRow w.heap.size 5 1 v (bodyL ls k).length (vals (bodyL ls k)))∧Hid (Below w.heap.size w wr)) (fun _ i _=>n-(intOf i).toNat)
 case atStart=>exact ⟨0,Nat.zero_le _,rfl,Lib.hid ⟨rfl,.inl ⟨rfl,rfl⟩⟩,Lib.hid (Below.refl _ _)⟩
 case round=>
  obtain ⟨k,hk,rfl,hS,hbr⟩:=hrel;rcases Nat.lt_or_ge k n with hlt | hge
  ·obtain ⟨bl,off,rfl,hbl,hc⟩:=HV.out.2 (by omega);obtain ⟨ak,ck,hck,hnk⟩:=hc k hlt;have qc:=(hbr.out.cell (p:=⟨bl,off+k,none⟩) hbl).trans hck;have hkl:k<ls.length:=by rw [HL.out];exact hlt
   have hle:=body_le ls k hkl
   have HSN:=Lib.hid (body_snoc ls k hkl);have t1:(k:Int)<(n:Int):=by omega
   have HCK:=Lib.hid hck;clear hc hck hkl;have hz:=HZ.out;generalize bodyL ls k=P at *;have HN:=Lib.hid hnk;clear hnk;generalize ls[k]?.getD []=l at *;by_cases h0:l= []
   ·subst h0
    have HSN2:Hid (bodyL ls (k+1)=P):=Lib.hid (by rw [HSN.out];unfold chunkL;rw [if_pos rfl,List.append_nil]);clear HSN HN hle hz;have qc2:wr.cell? ⟨bl,off+k,none⟩=some (.slice ak 0 ck):=qc;clear qc;go_wp2_with fail;go_roundw
    case rel=>exact ⟨k+1,by omega,by go_num,Lib.hid (by rw [HSN2.out];exact hS.out),hbr⟩
    case measure=>simp [intOf];omega
   ·have hl0:0<l.length:=List.length_pos_iff.2 h0;have t2:(0:Int)<(l.length:Int):=by omega
    obtain ⟨D,hD,HP⟩:∃D:ByteArray,D.data.toList=Num.spell 16 l.length∧Hid (∀w,Calls Tryz.prog 128 #[.int .i64 (l.length:Int)] w fun e w'=>e=.returned (.string D)∧∃m,w'=w.drewN m):=
     ⟨Num.str (Num.spell 16 l.length),rfl,Lib.hid (fun w=>by
       have:=Num.rputHex_any (l.length:Int) w (by omega) (by rw [chunk_of l h0] at hle;simp only [List.length_append] at hle;omega)
       rwa [Int.toNat_natCast] at this)⟩
    rw [chunk_of l h0,←hD] at hle;simp only [List.length_append,List.length_cons,List.length_nil,len] at hle;have hsum:P.length+D.size+2+l.length+2≤1000000000:=by omega
    have v1:¬9223372036854775807<D.size+2:=by omega
    have HSUM:=Lib.hid hsum;have HD:=Lib.hid hD;have H0:=Lib.hid h0;clear hle hz hD hsum h0
    go_wp2_with (first
     |(at_builtin;(refine Lib.wpList_append_own_string _ rfl _ _ 22 9 rfl w.heap.size 5 i0 Tryz.underlying22 Tryz.underlying9 G1.out G2.out G3.out G4.out _ _ _ rfl hO3.out ⟨#[13,10]⟩ rfl (by have:=HSUM.out;show _+2≤maxLen;unfold maxLen;omega) (by have:=HSUM.out;show _+2≤_;omega) HB3.out.size ?_);intro v4 w4' hO4' hg4 _;have hO4:=Lib.hid hO4'
       have HB4:=Lib.hid (HB3.out.grown hg4 HB3.out.size (own_base hO3.out));clear hO4' hg4 hO3 HB3)
     |(at_builtin;(refine App.wpList_append_list _ rfl _ _ 22 rfl w.heap.size 5 i0 (.int .u8 0) 1 1 Tryz.underlying22 G1.out G2.out G3.out G4.out rfl (by decide) _ _ _ rfl hO2.out ak l.length ck (vals l) rfl (by rw [vals_length,Nat.mul_one]) (vals_lie (HN.out.below HB2.out)) (vals_one l) (by have:=HSUM.out;unfold maxLen;omega) (by have:=HSUM.out;omega) HB2.out.size ?_);intro v3 w3' hO3' hg3 _ _;have hO3:=Lib.hid hO3'
       have HB3:=Lib.hid (HB2.out.grown hg3 HB2.out.size (own_base hO2.out));clear hO3' hg3 hO2 HB2)
     |(at_builtin;(refine Lib.wpList_append_own_string _ rfl _ _ 22 9 rfl w.heap.size 5 i0 Tryz.underlying22 Tryz.underlying9 G1.out G2.out G3.out G4.out _ _ _ rfl hO1.out ⟨#[13,10]⟩ rfl (by have:=HSUM.out;show _+2≤maxLen;unfold maxLen;omega) (by have:=HSUM.out;show _+2≤_;omega) HB1.out.size ?_);intro v2 w2' hO2' hg2 _;have hO2:Hid (w2'.ownsRow w.heap.size 5 1 v2 (P.length+D.size+2) (vals P++Lib.strCells D++Lib.strCells ⟨#[13,10]⟩)):=Lib.hid hO2'
       have HB2:=Lib.hid (HB1.out.grown hg2 HB1.out.size (own_base hO1.out));have qc2:=(HB2.out.cell (p:=⟨bl,off+k,none⟩) hbl).trans HCK.out;clear hO2' hg2 hO1 HB1)
     |(at_builtin;(refine Lib.wpList_append_own_string _ rfl _ _ 22 9 rfl w.heap.size 5 i0 Tryz.underlying22 Tryz.underlying9 G1.out G2.out G3.out G4.out _ _ _ rfl hO0.out D rfl (by have:=HSUM.out;unfold maxLen;omega) (by have:=HSUM.out;omega) HB0.out.size ?_);intro v1 w1' hO1' hg1 _;have hO1:=Lib.hid hO1'
       have HB1:=Lib.hid (HB0.out.grown hg1 HB0.out.size (own_base hO0.out));clear hO1' hg1 hO0 HB0)
     |(go_at_call 128;(with_reducible refine (HP.out _).mono ?_);rintro e wp ⟨rfl,m,hw⟩
       have hO0:=Lib.hid (Ls.own_below hS.out (Base.below_drewN (Below.refl _ wr) m))
       have HB0:=Lib.hid (Base.below_drewN hbr.out m);rw [←hw] at hO0 HB0;clear hw))
    go_roundw
    case rel=>refine ⟨k+1,by omega,by go_num,Lib.hid ?_,HB4⟩;rw [HSN.out];exact row_chunk H0.out HD.out rfl rfl hO4.out
    case measure=>simp [intOf];omega
  ·obtain rfl:k=n:=by omega
   have HA:=Lib.hid (body_all ls);have hz:=HZ.out;rw [HA.out,List.length_append] at hz;rw [HL.out] at HA hz;have hz':(bodyL ls k).length+3≤1000000000:=hz;have HZ2:=Lib.hid hz';clear hz hz'
   go_wp2_with (at_builtin;(refine Lib.wpList_append_own_string _ rfl _ _ 22 9 rfl w.heap.size 5 i0 Tryz.underlying22 Tryz.underlying9 G1.out G2.out G3.out G4.out _ _ _ rfl hS.out ⟨#[48,13,10]⟩ rfl (by have:=HZ2.out;show _+3≤maxLen;unfold maxLen;omega) (by have:=HZ2.out;show _+3≤_;omega) hbr.out.size ?_);intro v4 w4' hO4' hg4 _;have hO4:w4'.ownsRow w.heap.size 5 1 v4 (putL ls).length (vals (putL ls)):=by
                 rw [HA.out,vals_app,List.length_append];exact hO4'
                obtain ⟨A4,c4,rfl,hN4⟩:=nums_of_own hO4;have HN4:=Lib.hid hN4
                have HB4:=Lib.hid (hbr.out.grown hg4 hbr.out.size (own_base hS.out));clear hO4' hO4 hN4 hg4)
   go_ret;exact ⟨A4,c4,rfl,HN4.out,HB4.out⟩
end code
end Go.Proofs.YtnabkcglnbdfeaaGreatDoor.Chk
namespace Go.Proofs.YtnabkcglnbdfeaaGreatDoor.Ln
open Go.RowKit Base
def ended (x:Int):Bool:=x==1||x==2
def failed (x:Int):Bool:=x==3||x==4
theorem f0:failed 0=false:=rfl
theorem f1:failed 1=false:=rfl
theorem f2:failed 2=false:=rfl
theorem f3:failed 3=true:=rfl
theorem f4:failed 4=true:=rfl
theorem d0:ended 0=false:=rfl
theorem d1:ended 1=true:=rfl
theorem d2:ended 2=true:=rfl
theorem d3:ended 3=false:=rfl
theorem d4:ended 4=false:=rfl
structure M where
 lf:Bool
 cr:Bool
 most:Nat
 buf:List UInt8
 last:Int
 pend:Bool
structure M.Ok (m:M):Prop where
 last:m.last=0∨m.last=1∨m.last=2∨m.last=3∨m.last=4
 most:m.most≤4096
 len:m.buf.length≤m.most
 pend:m.pend=true→m.last=0
def M.line (m:M):List UInt8:=if ended m.last then m.buf else []
def M.len (m:M):Nat:=if ended m.last then 0 else m.buf.length
def M.clear (m:M):M:={m with buf:=if ended m.last then [] else m.buf}
def M.next (m:M) (c:UInt8):Int:=
 if failed m.last then 3 else if m.pend then (if c=10 then 1 else if m.cr then 2 else 3) else if c=10 then (if m.lf then 1 else 3) else if c=13 then 0 else if m.buf.length=m.most then 4 else 0
def M.keeps (m:M) (c:UInt8):Bool:=if failed m.last then false else if m.pend then false else if c=10 then false else if c=13 then false else if m.buf.length=m.most then false else true
def M.told (m:M) (c:UInt8):M:={m with buf:=m.buf++(if m.keeps c then [c] else [])}
def M.byte (m:M) (c:UInt8):M:={m.clear.told c with last:=m.clear.next c,pend:=m.clear.next c==0&&c==13}
theorem M.Ok.clear {m:M} (h:m.Ok):m.clear.Ok:=by
 obtain ⟨h1,h2,h3,h4⟩:=h;refine ⟨h1,h2,?_,h4⟩;show (if ended m.last then [] else m.buf).length≤m.most;split
 ·exact Nat.zero_le _
 ·exact h3
theorem M.next_is (m:M) (c:UInt8):m.next c=0∨m.next c=1∨m.next c=2∨m.next c=3∨m.next c=4:=by
 unfold M.next
 repeat' split
 all_goals simp
theorem M.Ok.told {m:M} (h:m.Ok) (c:UInt8):(m.told c).buf.length≤m.most:=by
 have h3:=h.len;show (m.buf++(if m.keeps c then [c] else [])).length≤m.most;by_cases hk:m.keeps c=true
 ·rw [if_pos hk,List.length_append];unfold M.keeps at hk
  repeat' split at hk
  all_goals first |(exact absurd hk (by decide)) |(rw [List.length_singleton];omega)
 ·rw [if_neg hk,List.append_nil];exact h3
theorem M.Ok.byte {m:M} (h:m.Ok) (c:UInt8):(m.byte c).Ok:=by refine ⟨M.next_is _ c,h.most,h.clear.told c,fun hp=>?_⟩;have:(m.clear.next c==0&&c==13)=true:=hp;simp only [Bool.and_eq_true,beq_iff_eq] at this;exact this.1
def M.new (lf cr:Bool) (most:Nat):M:=⟨lf,cr,most,[],0,false⟩
theorem M.new_ok (lf cr:Bool) (most:Nat) (h:most≤4096):(M.new lf cr most).Ok:=⟨.inl rfl,h,Nat.zero_le _,fun h=>by cases h⟩
structure R where
 lf:Bool
 cr:Bool
 most:Nat
 B:List UInt8
 CR:Bool
 L:List UInt8
 over:Bool
 dead:Bool
def R.start (q:R):R:={q with L:= [],over:=false}
def R.fin (q:R):R:={q with L:=q.B,B:= [],CR:=false,over:=true}
def R.die (q:R):R:={q with dead:=true}
def R.how (q:R) (c:UInt8):Int:=
 if q.dead then 3 else if q.CR&&c==10 then 1 else if q.CR&&q.cr then 2 else if q.CR then 3 else if c==10&&q.lf then 1 else if c==10 then 3 else if c==13 then 0 else if q.most≤q.B.length then 4 else 0
def R.byte (q:R) (c:UInt8):R:=
 if q.dead then q else if q.CR&&c==10 then q.start.fin else if q.CR&&q.cr then q.start.fin else if q.CR then q.start.die else if c==10&&q.lf then q.start.fin else if c==10 then q.start.die
 else if c==13 then {q.start with CR:=true} else if q.most≤q.B.length then q.start.die else {q.start with B:=q.B ++ [c]}
def R.new (lf cr:Bool) (most:Nat):R:=⟨lf,cr,most,[],false,[],false,false⟩
structure Rel (m:M) (q:R):Prop where
 lf:q.lf=m.lf
 cr:q.cr=m.cr
 most:q.most=m.most
 dead:q.dead=failed m.last
 L:q.L=m.line
 CR:failed m.last=false→q.CR=m.pend
 B:failed m.last=false→q.B=if ended m.last then [] else m.buf
theorem step_how {m:M} {q:R} (h:Rel m q) (hm:m.Ok) (c:UInt8):q.how c=m.clear.next c:=by
 obtain ⟨lf,cr,most,B,CR,L,over,dead⟩:=q;obtain ⟨h1,h2,h3,h4,h5,h6,h7⟩:=h;have hl:=hm.clear.len;simp only at h1 h2 h3 h4 h5 h6 h7;subst h1 h2 h3;unfold R.how M.next;simp only;have e1:m.clear.last=m.last:=rfl;have e2:m.clear.pend=m.pend:=rfl;have e3:m.clear.cr=m.cr:=rfl;have e4:m.clear.lf=m.lf:=rfl;have e5:m.clear.most=m.most:=rfl;rw [e1,e2,e3,e4,e5];rw [e5] at hl;cases hf:failed m.last with
 | true=>rw [h4,hf];simp
 | false=>
   have h8:B=m.clear.buf:=h7 hf;have h9:=h6 hf;subst h8 h9;rw [h4,hf];by_cases c10:c=10
   ·subst c10;cases m.pend<;>cases m.lf<;>cases m.cr<;>simp
   ·by_cases c13:c=13
    ·subst c13;cases m.pend<;>cases m.lf<;>cases m.cr<;>simp
    ·by_cases hq:m.clear.buf.length=m.most
     ·cases m.pend<;>cases m.cr<;>simp [c10,c13,hq]
     ·have:¬m.most≤m.clear.buf.length:=by omega
      cases m.pend<;>cases m.cr<;>simp [c10,c13,hq,this]
theorem step_rel {m:M} {q:R} (h:Rel m q) (hm:m.Ok) (c:UInt8):Rel (m.byte c) (q.byte c):=by
 obtain ⟨lf,cr,most,B,CR,L,over,dead⟩:=q;obtain ⟨h1,h2,h3,h4,h5,h6,h7⟩:=h;have hl:=hm.clear.len;have hp:=hm.pend;simp only at h1 h2 h3 h4 h5 h6 h7;subst h1 h2 h3 h5 h4;have e1:m.clear.last=m.last:=rfl;have e2:m.clear.pend=m.pend:=rfl;have e3:m.clear.cr=m.cr:=rfl;have e4:m.clear.lf=m.lf:=rfl;have e5:m.clear.most=m.most:=rfl;have e6:(m.byte c).last=m.clear.next c:=rfl;have e7:(m.byte c).buf=m.clear.buf++(if m.clear.keeps c then [c] else []):=rfl;have e8:(m.byte c).pend=(m.clear.next c==0&&c==13):=rfl;have e9:(m.byte c).lf=m.lf:=rfl;have e10:(m.byte c).cr=m.cr:=rfl;have e11:(m.byte c).most=m.most:=rfl;rw [e5] at hl;have key:∀(q':R),q'.lf=m.lf→q'.cr=m.cr→q'.most=m.most→q'.dead=failed (m.clear.next c)→(q'.L=if ended (m.clear.next c) then m.clear.buf++(if m.clear.keeps c then [c] else []) else [])→
  (failed (m.clear.next c)=false→q'.CR=(m.clear.next c==0&&c==13))→(failed (m.clear.next c)=false→q'.B=if ended (m.clear.next c) then [] else m.clear.buf++(if m.clear.keeps c then [c] else []))→Rel (m.byte c) q':=by
  intro q' a1 a2 a3 a4 a5 a6 a7;refine ⟨a1,a2,a3,by rw [e6];exact a4,?_,by rw [e6,e8];exact a6,by rw [e6,e7];exact a7⟩;rw [a5,M.line,e6,e7]
 unfold R.byte;simp only;cases hf:failed m.last with
 | true=>
   rw [if_pos rfl];have en:m.clear.next c=3:=by unfold M.next;rw [e1,hf,if_pos rfl]
   refine key _ rfl rfl rfl ?_ ?_ ?_ ?_
   ·rw [en];rfl
   ·rw [en];show m.line= _;have:ended m.last=false:=by
     unfold failed at hf;unfold ended;rcases hm.last with e | e | e | e | e<;>rw [e] at hf ⊢<;>first | rfl | cases hf
    rw [M.line,this];rfl
   ·rw [en];intro h;cases h
   ·rw [en];intro h;cases h
 | false=>
   have h8:B=m.clear.buf:=h7 hf;have h9:=h6 hf;subst h8 h9;rw [if_neg (by decide)];by_cases c10:c=10
   ·subst c10;cases hpe:m.pend<;>cases hlf:m.lf<;>cases hcr:m.cr<;>refine key _ ?_ ?_ ?_ ?_ ?_ ?_ ?_<;>simp [M.next,M.keeps,R.fin,R.die,R.start,e1,e2,e4,hf,hpe,hlf,hcr,f1,f3,d1,d3]<;>try rfl
   ·by_cases c13:c=13
    ·subst c13;cases hpe:m.pend<;>cases hlf:m.lf<;>cases hcr:m.cr<;>refine key _ ?_ ?_ ?_ ?_ ?_ ?_ ?_<;>simp [M.next,M.keeps,R.fin,R.die,R.start,e1,e2,e3,hf,hpe,hlf,hcr,f0,f2,f3,d0,d2,d3]<;>try rfl
    ·by_cases hq:m.clear.buf.length=m.most
     ·cases hpe:m.pend<;>cases hcr:m.cr<;>refine key _ ?_ ?_ ?_ ?_ ?_ ?_ ?_<;>simp [M.next,M.keeps,R.fin,R.die,R.start,e1,e2,e3,e5,hf,hpe,hcr,f2,f3,f4,d2,d3,d4,c10,c13,hq]<;>try rfl
     ·have:¬m.most≤m.clear.buf.length:=by omega
      cases hpe:m.pend<;>cases hcr:m.cr<;>refine key _ ?_ ?_ ?_ ?_ ?_ ?_ ?_<;>simp [M.next,M.keeps,R.fin,R.die,R.start,e1,e2,e3,e5,hf,hpe,hcr,f0,f2,f3,d0,d2,d3,c10,c13,hq,this]<;>try rfl
end Go.Proofs.YtnabkcglnbdfeaaGreatDoor.Ln
namespace Go.Proofs.YtnabkcglnbdfeaaGreatDoor.Ln
open Go.RowKit Base
section memory
variable {w w' w'':World} {g k B:Nat} {cs:Array Value} {ty:TypeId} {o o':Option Nat}
theorem row_lt (h:w.heap[g]?=some (.cells cs ty (0,0))):g<w.heap.size:=(Array.getElem?_eq_some_iff.1 h).1
theorem row_cell (h:w.heap[g]?=some (.cells cs ty (0,0))) {v:Value} (hk:cs[k]?=some v):w.cell? ⟨g,k,none⟩=some v:=(cell_of_row w g k cs ty (0,0) h).trans hk
theorem row_frozen (h:w.heap[g]?=some (.cells cs ty (0,0))) (k:Nat):w.frozen? ⟨g,k,none⟩=false:=by simp [World.frozen?,h]
theorem row_set (h:w.heap[g]?=some (.cells cs ty (0,0))) (k:Nat) (v:Value):(w.setCell ⟨g,k,none⟩ v).heap[g]?=some (.cells (cs.setIfInBounds k v) ty (0,0)):=by simp [World.setCell,Array.getElem?_modify,h]
structure Kept (g:Nat) (o:Option Nat) (w w':World):Prop where
 os:w'.os=w.os
 tape:w'.tape=w.tape
 output:w'.output=w.output
 size:w.heap.size≤w'.heap.size
 block:∀k,k<w.heap.size→k≠g→some k≠o→w'.heap[k]?=w.heap[k]?
theorem Kept.refl (g:Nat) (o:Option Nat) (w:World):Kept g o w w:=⟨rfl,rfl,rfl,Nat.le_refl _,fun _ _ _ _=>rfl⟩
def Moved (w:World) (o o':Option Nat):Prop:=o'=o∨o'=none∨∃k,o'=some k∧w.heap.size≤k
theorem Moved.refl (w:World) (o:Option Nat):Moved w o o:=.inl rfl
theorem Moved.trans {o'':Option Nat} (h:Moved w o o') (h':Moved w' o' o'') (hs:w.heap.size≤w'.heap.size):Moved w o o'':=by
 rcases h' with rfl | rfl | ⟨k,rfl,hk⟩
 ·exact h
 ·exact .inr (.inl rfl)
 ·exact .inr (.inr ⟨k,rfl,Nat.le_trans hs hk⟩)
theorem Kept.trans (h:Kept g o w w') (h':Kept g o' w' w'') (hm:Moved w o o'):Kept g o w w'':=by
 refine ⟨h'.os.trans h.os,h'.tape.trans h.tape,h'.output.trans h.output,Nat.le_trans h.size h'.size,fun k hk h1 h2=>?_⟩
 refine (h'.block k (Nat.lt_of_lt_of_le hk h.size) h1 ?_).trans (h.block k hk h1 h2);rcases hm with rfl | rfl | ⟨j,rfl,hj⟩
 ·exact h2
 ·exact fun e=>by cases e
 ·intro e;have:k=j:=by simpa using e
  omega
theorem Kept.set (g:Nat) (o:Option Nat) (w:World) (k:Nat) (v:Value):Kept g o w (w.setCell ⟨g,k,none⟩ v):=⟨rfl,rfl,rfl,by simp,fun j _ h1 _=>Below.heap_setCell _ _ _ _ h1⟩
theorem Kept.grown (hg:w.grownBy w' o) (g:Nat):Kept g o w w':=⟨hg.os,hg.tape,hg.output,hg.size,fun k hk _ h2=>hg.block k hk h2⟩
theorem Kept.of_below (hb:Below w.heap.size w w') (g:Nat) (o:Option Nat):Kept g o w w':=⟨hb.os,hb.tape,hb.output,hb.size,fun k hk _ _=>hb.block k hk⟩
theorem Kept.own (h:Kept g o w w') {e:TypeId} {size:Nat} {v:Value} {n:Nat} {xs:List Value} (hv:w.ownsRow B e size v n xs) (h1:v.ownBlock≠some g) (h2:v.ownBlock=none∨v.ownBlock≠o):w'.ownsRow B e size v n xs:=by
 refine ⟨hv.1,?_⟩;rcases hv.2 with hn | ⟨b,cap,cur,rfl,hb,hgg,rest⟩
 ·exact .inl hn
 ·refine .inr ⟨b,cap,cur,rfl,hb,?_,rest⟩;rw [h.block b (row_lt hgg) (by simpa [Value.ownBlock] using h1) (by simpa [Value.ownBlock] using h2)];exact hgg
theorem own_set {e:TypeId} {size:Nat} {v:Value} {n:Nat} {xs:List Value} (hv:w.ownsRow B e size v n xs) (h1:v.ownBlock≠some g) (k:Nat) (u:Value):(w.setCell ⟨g,k,none⟩ u).ownsRow B e size v n xs:=
 (Kept.set g none w k u).own hv h1 (by cases v.ownBlock<;>simp)
theorem own_none {e:TypeId} {size:Nat} {b:Option Addr} {n cap:Nat} {xs:List Value} (hv:w.ownsRow B e size (.slice b n cap) n xs):w.ownsRow B e size (.slice b 0 cap) 0 []:=by
 refine ⟨by simp,?_⟩;rcases hv.2 with ⟨h,_⟩ | ⟨b',cap',cur,h,hb,hg,hn,hc,hs,ht⟩
 ·cases h;exact .inl ⟨rfl,rfl⟩
 ·cases h;exact .inr ⟨b',cap,cur,rfl,hb,hg,Nat.zero_le _,hc,hs,by simp⟩
theorem own_slice {e:TypeId} {size:Nat} {v:Value} {n:Nat} {xs:List Value} (hv:w.ownsRow B e size v n xs):∃b cap,v=.slice b n cap∧n≤cap∧cap≤maxLen∧(b=none∧n=0∧cap=0∨∃j,b=some ⟨j,0,none⟩):=by
 rcases hv.2 with ⟨rfl,rfl⟩ | ⟨b',cap',cur,rfl,hb,hg,hn,hc,hs,ht⟩
 ·exact ⟨none,0,rfl,Nat.le_refl _,Nat.zero_le _,.inl ⟨rfl,rfl,rfl⟩⟩
 ·exact ⟨_,cap',rfl,hn,hc,.inr ⟨b',rfl⟩⟩
end memory
def vals (l:List UInt8):List Value:=l.map fun b=>.int .u8 (b.toNat:Int)
theorem vals_app (a b:List UInt8):vals (a++b)=vals a++vals b:=List.map_append
abbrev ptr (g:Nat):Value:=.pointer (some ⟨g,0,none⟩)
abbrev byteV (c:UInt8):Value:=.int .u8 (c.toNat:Int)
abbrev ba (l:List UInt8):ByteArray:=⟨l.toArray⟩
abbrev cellsOf (m:M) (v:Value):Array Value:=#[.bool m.lf,.bool m.cr,.int .i64 (m.most:Int),v,.int .i64 m.last,.bool m.pend]
structure Rd (w:World) (B g:Nat) (v:Value) (m:M):Prop where
 row:w.heap[g]?=some (.cells (cellsOf m v) 152 (0,0))
 own:w.ownsRow B 5 1 v m.buf.length (vals m.buf)
 ge:B≤g
 ne:v.ownBlock≠some g
theorem conv_own {w:World} {B:Nat} {v:Value} {l:List UInt8} (h:w.ownsRow B 5 1 v l.length (vals l)):(convert 22 9 v).run Tryz.prog w=.ok (.string (ba l)) w:=by
 rcases h.2 with ⟨rfl,hn⟩ | ⟨b,cap,cur,rfl,hb,hg,_,_,_,ht⟩
 ·obtain rfl:l= []:=List.length_eq_zero_iff.1 hn;exact run_convert_bytes_nil w _ 5 Tryz.underlying22 Tryz.underlying5 0 0 _ Tryz.underlying9
 ·refine run_convert_bytes_back (P:=Tryz.prog) w 22 9 5 ⟨b,0,none⟩ cap l Tryz.underlying22 Tryz.underlying5 Tryz.underlying9 (fun j hj=>?_);refine h.cells (g:=b) rfl j _ ?_;rw [vals,List.getElem?_map,List.getElem?_eq_getElem hj];rfl
section code
set_option maxHeartbeats 1000000
set_option maxRecDepth 20000
attribute [local go_sem] Base.some_undef
variable {w:World} {g B:Nat} {m:M} {v:Value}
theorem five (h:w.heap[g]?=some (.cells (cellsOf m v) 152 (0,0))):w.cell? ⟨g,0,none⟩=some (.bool m.lf)∧w.cell? ⟨g,1,none⟩=some (.bool m.cr)∧w.cell? ⟨g,2,none⟩=some (.int .i64 (m.most:Int))∧w.cell? ⟨g,3,none⟩=some v∧w.cell? ⟨g,4,none⟩=some (.int .i64 m.last)∧w.cell? ⟨g,5,none⟩=some (.bool m.pend):=
 ⟨row_cell h rfl,row_cell h rfl,row_cell h rfl,row_cell h rfl,row_cell h rfl,row_cell h rfl⟩
theorem ended_any (h:w.heap[g]?=some (.cells (cellsOf m v) 152 (0,0))):Calls Tryz.prog 123 #[ptr g] w fun e w'=>e=.returned (.bool (ended m.last))∧w'=w:=by
 obtain ⟨q0,q1,q2,q3,q4,q5⟩:=five h;clear h q0 q1 q2 q3 q5;rcases Classical.em (m.last=1) with e | e
 ·rw [e] at q4 ⊢;go_enter Tryz.func123,Tryz.ntmps123;go_wp2;go_ret;exact ⟨rfl,rfl⟩
 ·have e1:(m.last==1)=false:=beq_eq_false_iff_ne.2 e;generalize m.last=x at *;go_enter Tryz.func123,Tryz.ntmps123;go_wp2;go_ret;exact ⟨by rw [ended,e1,Bool.false_or];rfl,rfl⟩
theorem failed_any (h:w.heap[g]?=some (.cells (cellsOf m v) 152 (0,0))):Calls Tryz.prog 223 #[ptr g] w fun e w'=>e=.returned (.bool (failed m.last))∧w'=w:=by
 obtain ⟨q0,q1,q2,q3,q4,q5⟩:=five h;clear h q0 q1 q2 q3 q5;rcases Classical.em (m.last=3) with e | e
 ·rw [e] at q4 ⊢;go_enter Tryz.func223,Tryz.ntmps223;go_wp2;go_ret;exact ⟨rfl,rfl⟩
 ·have e1:(m.last==3)=false:=beq_eq_false_iff_ne.2 e;generalize m.last=x at *;go_enter Tryz.func223,Tryz.ntmps223;go_wp2;go_ret;exact ⟨by rw [failed,e1,Bool.false_or];rfl,rfl⟩
theorem bareEnd_any (h:w.heap[g]?=some (.cells (cellsOf m v) 152 (0,0))):Calls Tryz.prog 225 #[ptr g] w fun e w'=>e=.returned (.int .i64 (if m.lf then 1 else 3))∧w'=w:=by
 obtain ⟨q0,q1,q2,q3,q4,q5⟩:=five h;clear h q1 q2 q3 q4 q5;cases hb:m.lf;all_goals
  rw [hb] at q0;go_enter Tryz.func225,Tryz.ntmps225;go_wp2;go_ret;exact ⟨rfl,rfl⟩
theorem ne10 {c:UInt8} (h:¬c=10):((c.toNat:Int)==10)=false:=by refine beq_eq_false_iff_ne.2 fun e=>h (UInt8.toNat_inj.1 ?_);show c.toNat=10;omega
theorem ne13 {c:UInt8} (h:¬c=13):((c.toNat:Int)==13)=false:=by refine beq_eq_false_iff_ne.2 fun e=>h (UInt8.toNat_inj.1 ?_);show c.toNat=13;omega
theorem behindCR_any (c:UInt8) (h:w.heap[g]?=some (.cells (cellsOf m v) 152 (0,0))):Calls Tryz.prog 224 #[ptr g,byteV c] w fun e w'=>e=.returned (.int .i64 (if c=10 then 1 else if m.cr then 2 else 3))∧w'=w:=by
 obtain ⟨q0,q1,q2,q3,q4,q5⟩:=five h;clear h q0 q2 q3 q4 q5;by_cases hc:c=10
 ·subst hc;go_enter Tryz.func224,Tryz.ntmps224;go_wp2;go_ret;exact ⟨rfl,rfl⟩
 ·have e1:=ne10 hc;rw [if_neg hc];cases hb:m.cr;all_goals
   rw [hb] at q1;go_enter Tryz.func224,Tryz.ntmps224;go_wp2;go_ret;exact ⟨rfl,rfl⟩
theorem line_any (h:w.heap[g]?=some (.cells (cellsOf m v) 152 (0,0))) (hv:w.ownsRow B 5 1 v m.buf.length (vals m.buf)):Calls Tryz.prog 186 #[ptr g] w fun e w'=>e=.returned (.string (ba m.line))∧w'=w:=by
 have H:=Lib.hid (ended_any h);obtain ⟨q0,q1,q2,q3,q4,q5⟩:=five h;have hcv:=conv_own hv;obtain ⟨b,cap,rfl,_⟩:=own_slice hv;clear h q0 q1 q2 q4 q5 hv;unfold M.line;generalize ended m.last=x at *;cases x;all_goals
  go_enter Tryz.func186,Tryz.ntmps186
  go_wp2_with (go_at_call 123;with_reducible refine (H.out).mono ?_;rintro e w1 ⟨rfl,hw⟩;rw [hw];clear hw);go_ret;exact ⟨rfl,rfl⟩
end code
end Go.Proofs.YtnabkcglnbdfeaaGreatDoor.Ln
namespace Go.Proofs.YtnabkcglnbdfeaaGreatDoor.Ln
open Go.RowKit Base
def mid (x:Int):Nat:=(min (max x 0) 4096).toNat
theorem mid_le (x:Int):mid x≤4096:=by unfold mid;omega
theorem mid_a (x:Int):((mid x:Nat):Int)=max 0 (min x 4096):=by unfold mid;omega
abbrev M.of (p:Nat) (most:Int):M:=M.new (Qk.has p 1) (Qk.has p 2) (mid most)
theorem byte_info:(Tryz.prog.info? 5).map (fun i=>(i.zero,i.size,i.bytes))=some (some (.int .u8 0),1,1):=by kernel_rfl
section code
set_option maxHeartbeats 2000000
set_option maxRecDepth 40000
attribute [local go_sem] Base.some_undef
theorem new_any (p:Nat) (hp:p<4294967296) (most:Int) (w:World):Calls Tryz.prog 115 #[.int .u32 p,.int .i64 most] w fun e w'=>e=.returned (ptr w.heap.size)∧w'=w.alloc (.cells (cellsOf (M.of p most) (.slice none 0 0)) 152):=by
 have H1:=Lib.hid (Qk.has_any p hp 1);have H2:=Lib.hid (Qk.has_any p hp 2)
 have HM:=Lib.hid (mid_a most);unfold M.of;generalize Qk.has p 1=b1 at *;generalize Qk.has p 2=b2 at *;go_enter Tryz.func115,Tryz.ntmps115
 go_wp2_with (go_at_call 92;first
  |(with_reducible refine (H1.out _).mono ?_;rintro e w1 ⟨rfl,hw⟩;rw [hw];clear hw)
  |(with_reducible refine (H2.out _).mono ?_;rintro e w1 ⟨rfl,hw⟩;rw [hw];clear hw))
 go_ret;refine ⟨rfl,?_⟩;simp only [M.new,cellsOf,HM.out]
theorem next_any (c:UInt8) (m:M) (hm:m.buf.length≤4096) (w:World) (B g:Nat) (v:Value) (h:Rd w B g v m) :
 Calls Tryz.prog 205 #[ptr g,byteV c] w fun e w'=>∃v',e=.returned (.int .i64 (m.next c))∧Rd w' B g v' (m.told c)∧Kept g v.ownBlock w w'∧Moved w v.ownBlock v'.ownBlock:=by
 have HF:=Lib.hid (failed_any h.row);have HE:=Lib.hid (bareEnd_any h.row);have HC:=Lib.hid (behindCR_any c h.row);have HR:=Lib.hid h;have stay:m.keeps c=false→m.told c=m:=fun hk=>by unfold M.told;rw [hk,if_neg (by decide),List.append_nil]
 have ST:=Lib.hid stay;clear stay;obtain ⟨q0,q1,q2,q3,q4,q5⟩:=five h.row;clear h q0 q1 q4;have HN:m.next c=m.next c:=rfl
 conv at HN=>rhs;unfold M.next
 have HK:m.keeps c=m.keeps c:=rfl
 conv at HK=>rhs;unfold M.keeps
 cases hf:failed m.last with
 | true=>
   rw [hf] at HF;rw [HN,hf,if_pos rfl];rw [hf,if_pos rfl] at HK;have HK':=Lib.hid HK;clear HN HK;go_enter Tryz.func205,Tryz.ntmps205
   go_wp2_with (go_at_call 223;with_reducible refine (HF.out).mono ?_;rintro e w1 ⟨rfl,hw⟩;rw [hw];clear hw);go_ret;exact ⟨v,rfl,by rw [ST.out HK'.out];exact HR.out,Kept.refl _ _ _,Moved.refl _ _⟩
 | false=>
   rw [hf] at HF;rw [HN,hf,if_neg (by decide)];rw [hf,if_neg (by decide)] at HK;clear HN;cases hp:m.pend with
   | true=>
     rw [hp] at q5;rw [if_pos rfl];rw [hp,if_pos rfl] at HK;have HK':=Lib.hid HK;clear HK;generalize (if c=10 then (1:Int) else if m.cr=true then 2 else 3)=x at *;go_enter Tryz.func205,Tryz.ntmps205
     go_wp2_with (first
      |(go_at_call 223;with_reducible refine (HF.out).mono ?_;rintro e w1 ⟨rfl,hw⟩;rw [hw];clear hw)
      |(go_at_call 224;with_reducible refine (HC.out).mono ?_;rintro e w1 ⟨rfl,hw⟩;rw [hw];clear hw))
     go_ret;exact ⟨v,rfl,by rw [ST.out HK'.out];exact HR.out,Kept.refl _ _ _,Moved.refl _ _⟩
   | false=>
     rw [hp] at q5;rw [if_neg (by decide)];rw [hp,if_neg (by decide)] at HK;by_cases h10:c=10
     ·rw [if_pos h10];rw [if_pos h10] at HK;have HK':=Lib.hid HK;have e10:((c.toNat:Int)==10)=true:=by rw [h10];rfl
      clear HK h10;generalize (if m.lf=true then (1:Int) else 3)=x at *;go_enter Tryz.func205,Tryz.ntmps205
      go_wp2_with (first
       |(go_at_call 223;with_reducible refine (HF.out).mono ?_;rintro e w1 ⟨rfl,hw⟩;rw [hw];clear hw)
       |(go_at_call 225;with_reducible refine (HE.out).mono ?_;rintro e w1 ⟨rfl,hw⟩;rw [hw];clear hw))
      go_ret;exact ⟨v,rfl,by rw [ST.out HK'.out];exact HR.out,Kept.refl _ _ _,Moved.refl _ _⟩
     ·rw [if_neg h10];rw [if_neg h10] at HK;have e10:=ne10 h10;by_cases h13:c=13
      ·rw [if_pos h13];rw [if_pos h13] at HK;have HK':=Lib.hid HK;have e13:((c.toNat:Int)==13)=true:=by rw [h13];rfl
       clear HK h13 h10;go_enter Tryz.func205,Tryz.ntmps205
       go_wp2_with (go_at_call 223;with_reducible refine (HF.out).mono ?_;rintro e w1 ⟨rfl,hw⟩;rw [hw];clear hw);go_ret;exact ⟨v,rfl,by rw [ST.out HK'.out];exact HR.out,Kept.refl _ _ _,Moved.refl _ _⟩
      ·rw [if_neg h13];rw [if_neg h13] at HK;have e13:=ne13 h13;obtain ⟨bb,cap,rfl,hcap,_,hbb⟩:=own_slice HR.out.own;by_cases hl:m.buf.length=m.most
       ·rw [if_pos hl];rw [if_pos hl] at HK;have HK':=Lib.hid HK
        have eL:((m.buf.length:Int)==(m.most:Int))=true:=beq_iff_eq.2 (by omega);clear HK hbb hl h10 h13;go_enter Tryz.func205,Tryz.ntmps205
        go_wp2_with (go_at_call 223;with_reducible refine (HF.out).mono ?_;rintro e w1 ⟨rfl,hw⟩;rw [hw];clear hw)
        go_quiet (fail);go_wp2;go_ret;exact ⟨_,rfl,by rw [ST.out HK'.out];exact ⟨HR.out.row,HR.out.own,HR.out.ge,HR.out.ne⟩,Kept.of_below (Base.below_drewN (Below.refl _ _) _) _ _,Moved.refl _ _⟩
       ·rw [if_neg hl];rw [if_neg hl] at HK;have HK':=Lib.hid HK
        have eL:((m.buf.length:Int)==(m.most:Int))=false:=beq_eq_false_iff_ne.2 (by omega);clear HK hbb hl h10 h13;obtain ⟨i0,hi,hz0,hz1,hz2⟩:=info_parts byte_info;have G1:=Lib.hid hi;have G2:=Lib.hid hz0;have G3:=Lib.hid hz1;have G4:=Lib.hid hz2;clear hi hz0 hz1 hz2;go_enter Tryz.func205,Tryz.ntmps205
        go_wp2_with (go_at_call 223;with_reducible refine (HF.out).mono ?_;rintro e w1 ⟨rfl,hw⟩;rw [hw];clear hw)
        go_quiet (fail);rename_i nq;have HR1:Hid (Rd (w.drewN nq) B g (.slice bb m.buf.length cap) m):=Lib.hid ⟨HR.out.row,HR.out.own,HR.out.ge,HR.out.ne⟩
        have HK1:Hid (Kept g (Value.slice bb m.buf.length cap).ownBlock w (w.drewN nq)):=Lib.hid (Kept.of_below (Base.below_drewN (Below.refl _ _) _) _ _)
        have HS1:Hid (w.heap.size≤(w.drewN nq).heap.size):=Lib.hid (Nat.le_refl _);obtain ⟨q0,q1,q2',q3',q4,q5'⟩:=five HR1.out.row;clear q0 q1 q2' q4 q5' q2 q3 q5 HF HE HC eL;generalize w.drewN nq=w1 at *
        go_wp2_with (at_builtin;(refine wpList_append_own_at _ rfl _ _ 22 rfl B 5 i0 (.int .u8 0) 1 1 Tryz.underlying22 G1.out G2.out G3.out G4.out rfl (by decide) _ _ _ rfl (HR1.out.own.alloc _) ⟨w1.heap.size,0,none⟩ 1 1 [byteV c] rfl rfl ?c1 ?c2 ?c3 ?c4 ?c5 ?_))
        case c1=>exact fun j u hu=>by have:=news_one w1 (byteV c) 5 j u hu;simpa using this
        case c2=>intro u hu;obtain rfl:u=byteV c:=by simpa using hu
                 rfl
        case c3=>unfold maxLen;omega
        case c4=>omega
        case c5=>have:=row_lt HR1.out.row;have:=HR1.out.ge;simp;omega
        intro v0 w2 hown hgr _ hmv;obtain ⟨b2,cap2,hv2,_,_,_⟩:=own_slice hown;obtain ⟨v',hv'⟩:∃v',v'=Value.slice b2 (m.buf.length+1) cap2:=⟨_,rfl⟩;rw [hv2] at hown hmv ⊢;rw [←hv'] at hown hmv;have hg1:=row_lt HR1.out.row;have hr2:w2.heap[g]?=some (.cells (cellsOf m (.slice bb m.buf.length cap)) 152 (0,0)):=
         (hgr.block g (by simp;omega) (fun e=>HR1.out.ne e.symm)).trans ((Below.heap_alloc w1 _ g hg1).trans HR1.out.row)
        have HB:(m.told c).buf=m.buf ++ [c]:=by unfold M.told;rw [HK'.out,if_pos rfl]
        have HD:Hid (Rd (w2.setCell ⟨g,3,none⟩ v') B g v' (m.told c)):=Lib.hid (by
         have ne':v'.ownBlock≠some g:=by
          rcases hmv with e | e
          ·rw [e];exact HR1.out.ne
          ·rw [e];intro h;simp at h;omega
         refine ⟨(row_set hr2 3 v').trans rfl,own_set ?_ ne' 3 v',HR1.out.ge,ne'⟩;rw [HB,vals_app,List.length_append];exact hown)
        have HKK:Hid (Kept g (Value.slice bb m.buf.length cap).ownBlock w (w2.setCell ⟨g,3,none⟩ v')):=Lib.hid (
         ((HK1.out.trans (Kept.of_below ((Below.refl _ _).alloc (Nat.le_refl _) _) g _) (Moved.refl _ _)).trans (Kept.grown hgr g) (Moved.refl _ _)).trans (Kept.set g _ w2 3 v') (Moved.refl _ _))
        have HMV:Hid (Moved w (Value.slice bb m.buf.length cap).ownBlock v'.ownBlock):=Lib.hid (by
         rcases hmv with e | e
         ·exact .inl e
         ·exact .inr (.inr ⟨_,e,by have:=HS1.out;simp;omega⟩))
        have q3:=(five hr2).2.2.2.1;have z3:=row_frozen hr2 3;clear hown hgr hmv hr2 HB hv2;subst hv';go_wp2;go_ret;exact ⟨_,rfl,HD.out,HKK.out,HMV.out⟩
theorem clear_of {m:M} (h:ended m.last=false):m.clear=m:=by obtain ⟨lf,cr,most,buf,last,pend⟩:=m;simp only at h;simp [M.clear,h]
theorem tail_rd {w:World} {B g:Nat} {v:Value} {m:M} {c:UInt8} (h:Rd w B g v (m.clear.told c)) :
 Rd ((w.setCell ⟨g,4,none⟩ (.int .i64 (m.clear.next c))).setCell ⟨g,5,none⟩ (.bool (m.clear.next c==0&&c==13))) B g v (m.byte c):=
 ⟨(row_set (row_set h.row 4 _) 5 _).trans rfl,own_set (own_set h.own h.ne 4 _) h.ne 5 _,h.ge,h.ne⟩
theorem clear_rd {w:World} {B g:Nat} {b:Option Addr} {cap:Nat} {m:M} (he:ended m.last=true) (h:Rd w B g (.slice b m.buf.length cap) m):Rd (w.setCell ⟨g,3,none⟩ (.slice b 0 cap)) B g (.slice b 0 cap) m.clear:=by
 have e:m.clear.buf= []:=by unfold M.clear;simp only;rw [he,if_pos rfl]
 have ne:(Value.slice b 0 cap).ownBlock≠some g:=by have:=h.ne;cases b<;>exact this
 refine ⟨(row_set h.row 3 _).trans rfl,own_set ?_ ne 3 _,h.ge,ne⟩;rw [e];exact own_none h.own
theorem byte_any (c:UInt8) (m:M) (hm:m.Ok) (w:World) (B g:Nat) (v:Value) (h:Rd w B g v m) :
 Calls Tryz.prog 184 #[ptr g,byteV c] w fun e w'=>∃v',e=.returned (.int .i64 (m.byte c).last)∧Rd w' B g v' (m.byte c)∧Kept g v.ownBlock w w'∧Moved w v.ownBlock v'.ownBlock:=by
 have HE:=Lib.hid (ended_any h.row)
 have HNX:=Lib.hid (fun (w:World) (v:Value) (h:Rd w B g v m.clear)=>next_any c m.clear (Nat.le_trans hm.clear.len hm.most) w B g v h)
 have HT:=Lib.hid (fun (w:World) (v:Value) (h:Rd w B g v (m.clear.told c))=>tail_rd h);have HR:=Lib.hid h;have hc:(c=13∧((c.toNat:Int)==13)=true∧(c==13)=true)∨(((c.toNat:Int)==13)=false∧(c==13)=false):=by
  by_cases e:c=13
  ·subst e;exact .inl ⟨rfl,rfl,rfl⟩
  ·exact .inr ⟨ne13 e,beq_eq_false_iff_ne.2 e⟩
 have hL:(m.byte c).last=m.clear.next c:=rfl;rw [hL];have hx:m.clear.next c=0∨(m.clear.next c==0)=false:=by
  by_cases e:m.clear.next c=0
  ·exact .inl e
  ·exact .inr (beq_eq_false_iff_ne.2 e)
 obtain ⟨b,cap,rfl,hcap,hcm,hbb⟩:=own_slice h.own
 have HM:=Lib.hid (show (Value.slice b 0 cap).ownBlock=(Value.slice b m.buf.length cap).ownBlock by cases b<;>rfl);cases he:ended m.last with
 | true=>
   rw [he] at HE
   have HCL:=Lib.hid (clear_rd he h);obtain ⟨q0,q1,q2,q3,q4,q5⟩:=five h.row;have z3:=row_frozen h.row 3;clear h hL q0 q1 q2 q4 q5;generalize m.clear.next c=x at *;unfold maxLen at hcm;rcases hbb with ⟨rfl,hn0,rfl⟩ | ⟨j,rfl⟩<;>rcases hx with rfl | hx<;>rcases hc with ⟨hc0,hc,hc'⟩ | ⟨hc,hc'⟩;all_goals
    try clear hc0
    go_enter Tryz.func184,Tryz.ntmps184
    go_wp2_with (first
     |(go_at_call 123;with_reducible refine (HE.out).mono ?_;rintro e w1 ⟨rfl,hw⟩;rw [hw];clear hw)
     |(go_at_call 205;with_reducible refine (HNX.out _ _ HCL.out).mono ?_;rintro e w2 ⟨v2,rfl,hD,hK,hV⟩
       have hD':=Lib.hid hD;obtain ⟨_,_,_,_,q4,q5⟩:=five hD.row;have z4:=row_frozen hD.row 4;have z5:=row_frozen hD.row 5;clear hD))
    have HT1:=HT.out _ _ hD'.out;first | rw [hx,hc'] at HT1 | rw [hc'] at HT1
    go_ret;exact ⟨_,rfl,HT1,((Kept.set g _ w 3 _).trans hK (.inl HM.out)).trans ((Kept.set g _ _ 4 _).trans (Kept.set g _ _ 5 _) (Moved.refl _ _)) (Moved.refl _ _),Moved.trans (.inl HM.out) hV (by simp)⟩
 | false=>
   rw [he] at HE
   have HCL:Hid (Rd w B g (.slice b m.buf.length cap) m.clear):=Lib.hid (by rw [clear_of he];exact h);clear h hL;generalize m.clear.next c=x at *;unfold maxLen at hcm;rcases hx with rfl | hx<;>rcases hc with ⟨hc0,hc,hc'⟩ | ⟨hc,hc'⟩;all_goals
    try clear hc0
    go_enter Tryz.func184,Tryz.ntmps184
    go_wp2_with (first
     |(go_at_call 123;with_reducible refine (HE.out).mono ?_;rintro e w1 ⟨rfl,hw⟩;rw [hw];clear hw)
     |(go_at_call 205;with_reducible refine (HNX.out _ _ HCL.out).mono ?_;rintro e w2 ⟨v2,rfl,hD,hK,hV⟩
       have hD':=Lib.hid hD;obtain ⟨_,_,_,_,q4,q5⟩:=five hD.row;have z4:=row_frozen hD.row 4;have z5:=row_frozen hD.row 5;clear hD))
    have HT1:=HT.out _ _ hD'.out;first | rw [hx,hc'] at HT1 | rw [hc'] at HT1
    go_ret;exact ⟨_,rfl,HT1,hK.trans ((Kept.set g _ _ 4 _).trans (Kept.set g _ _ 5 _) (Moved.refl _ _)) (Moved.refl _ _),hV⟩
end code
end Go.Proofs.YtnabkcglnbdfeaaGreatDoor.Ln
namespace Go.Proofs.YtnabkcglnbdfeaaGreatDoor.Ln
open Go.RowKit Base
abbrev rcells (p:Nat) (q:R) (v:Value):Array Value:=#[.int .u32 (p:Int),.int .i64 (q.most:Int),v,.bool q.CR,.string (ba q.L),.bool q.over,.bool q.dead]
structure Rr (w:World) (B g:Nat) (v:Value) (p:Nat) (q:R):Prop where
 row:w.heap[g]?=some (.cells (rcells p q v) 117 (0,0))
 own:w.ownsRow B 5 1 v q.B.length (vals q.B)
 ge:B≤g
 ne:v.ownBlock≠some g
section code
set_option maxHeartbeats 2000000
set_option maxRecDepth 40000
attribute [local go_sem] Base.some_undef
end code
end Go.Proofs.YtnabkcglnbdfeaaGreatDoor.Ln
namespace Go.Proofs.YtnabkcglnbdfeaaGreatDoor.Ln
open Go.RowKit Base
section code
set_option maxHeartbeats 4000000
set_option maxRecDepth 40000
attribute [local go_sem] Base.some_undef
end code
end Go.Proofs.YtnabkcglnbdfeaaGreatDoor.Ln
namespace Go.Proofs.YtnabkcglnbdfeaaGreatDoor.Ln
open Go.RowKit Base
structure Apart (g:Nat) (o:Option Nat) (g':Nat) (o':Option Nat):Prop where
 gg:g≠g'
 og:o≠some g'
 go:o'≠some g
 oo:o=none∨o≠o'
def One (w:World) (B g:Nat) (m:M):Prop:=∃v,Rd w B g v m
def Two (w:World) (B g:Nat) (m:M) (g':Nat) (m':M):Prop:=∃v v',Rd w B g v m∧Rd w B g' v' m'∧Apart g v.ownBlock g' v'.ownBlock
def Both (w:World) (B g:Nat) (m:M) (g':Nat) (p:Nat) (q:R):Prop:=∃v v',Rd w B g v m∧Rr w B g' v' p q∧Apart g v.ownBlock g' v'.ownBlock
section
variable {w w':World} {B g g' p:Nat} {m m':M} {q:R}
end
section code
variable {w:World} {B g g' p:Nat} {m m':M} {q:R}
end code
end Go.Proofs.YtnabkcglnbdfeaaGreatDoor.Ln
namespace Go.Proofs.YtnabkcglnbdfeaaGreatDoor.Ln
open Go.RowKit Base
abbrev k0:M:=⟨false,false,5,[],0,false⟩
abbrev k6:M:=⟨true,true,5,[],0,false⟩
section code
set_option maxHeartbeats 4000000
set_option maxRecDepth 40000
attribute [local go_sem] Base.some_undef
end code
end Go.Proofs.YtnabkcglnbdfeaaGreatDoor.Ln
namespace Go.Proofs.YtnabkcglnbdfeaaGreatDoor.Rec
open Go.RowKit Base Txt
theorem wrap64_in (x:Int) (h0: -9223372036854775808≤x) (h1:x≤9223372036854775807):wrap64 x=x:=by unfold wrap64;omega
theorem wraps (x:Int) (h: -9223372036854775808≤x∧x≤9223372036854775807):IntKind.i64.wrap x=x∧wrap64 x=x:=⟨wrap_in x h.1 h.2,wrap64_in x h.1 h.2⟩
structure R where
 m:ByteArray
 x:ByteArray
 k:Int
 fs:List Fld
 ch:Bool
 body:List UInt8
 ts:List Fld
def same (a b:R):Bool:=decide (a.m=b.m)&&(decide (a.x=b.x)&&(decide (a.k=b.k)&&(decide (a.fs=b.fs)&&(decide (a.ch=b.ch)&&(decide (a.body=b.body)&&decide (a.ts=b.ts))))))
def all:List R→List R→Bool
 | [],[]=>true
 | a::l,b::r=>same a b&&all l r
 | _,_=>false
def weigh (l:List Fld):Nat:=(l.map fun f=>f.1.size+f.2.size).sum
def size (r:R):Nat:=r.m.size+r.x.size+weigh r.fs+weigh r.ts+r.body.length
abbrev connN:ByteArray:=⟨#[67,111,110,110,101,99,116,105,111,110]⟩
abbrev closeW:ByteArray:=⟨#[99,108,111,115,101]⟩
abbrev keepW:ByteArray:=⟨#[107,101,101,112,45,97,108,105,118,101]⟩
abbrev expectN:ByteArray:=⟨#[69,120,112,101,99,116]⟩
abbrev contW:ByteArray:=⟨#[49,48,48,45,99,111,110,116,105,110,117,101]⟩
def closes (r:R):Bool:=one (list (find r.fs connN)) closeW|| (decide (r.k=0) && !one (list (find r.fs connN)) keepW)
def expects (r:R):Bool:=decide (r.k=1)&&one (list (find r.fs expectN)) contW
theorem same_iff (a b:R):same a b=true↔a=b:=by obtain ⟨m,x,k,fs,ch,body,ts⟩:=a;obtain ⟨m',x',k',fs',ch',body',ts'⟩:=b;simp only [same,Bool.and_eq_true,decide_eq_true_eq,R.mk.injEq]
theorem same_self (a:R):same a a=true:=(same_iff a a).2 rfl
def Reads (w:World) (V:Value) (r:R):Prop:=
 ∃(fa:Option Addr) (fc:Nat) (ba:Option Addr) (bc:Nat) (ta:Option Addr) (tc:Nat),
  V=.agg #[.string r.m,.string r.x,.int .i64 r.k,.slice fa r.fs.length fc,.bool r.ch,.slice ba r.body.length bc,.slice ta r.ts.length tc]∧
  Flds w fa r.fs.length r.fs∧Nums .u8 w ba r.body.length (nums r.body)∧Flds w ta r.ts.length r.ts
theorem Reads.below {w w':World} {V:Value} {r:R} (h:Reads w V r) (hb:Below w.heap.size w w'):Reads w' V r:=by obtain ⟨fa,fc,ba,bc,ta,tc,e,h1,h2,h3⟩:=h;exact ⟨fa,fc,ba,bc,ta,tc,e,h1.below hb,h2.below hb,h3.below hb⟩
structure Fit (r:R):Prop where
 m:r.m.size≤1000000000
 x:r.x.size≤1000000000
 fs:r.fs.length≤500
 f:∀f∈r.fs,f.1.size≤1000000∧f.2.size≤1000000
 body:r.body.length≤1000000000
 ts:r.ts.length≤500
 t:∀f∈r.ts,f.1.size≤1000000∧f.2.size≤1000000
structure Bk (w:World) (g:Nat) (vs:List Value):Prop where
 c:∀(k:Nat) (v:Value),vs[k]?=some v→w.cell? ⟨g,k,none⟩=some v
 z:∀k,k<vs.length→w.frozen? ⟨g,k,none⟩=false
 lt:g<w.heap.size
section
variable {w w':World} {g:Nat} {vs:List Value}
theorem Bk.below (h:Bk w g vs) (hb:Below w.heap.size w w'):Bk w' g vs:=
 ⟨fun k v hv=>(hb.cell (p:=⟨g,k,none⟩) h.lt).trans (h.c k v hv),fun k hk=>(hb.frozen (p:=⟨g,k,none⟩) h.lt).trans (h.z k hk),Nat.lt_of_lt_of_le h.lt hb.size⟩
theorem Bk.alloc (h:Bk w g vs) (o:Obj):Bk (w.alloc o) g vs:=h.below ((Below.refl _ _).alloc (Nat.le_refl _) _)
theorem Bk.drew (h:Bk w g vs) (n:Nat):Bk (w.drewN n) g vs:=h.below (Base.below_drewN (Below.refl _ _) n)
theorem Bk.new (w:World) (g:Nat) (hg:g=w.heap.size) (t:TypeId) (vs:List Value):Bk (w.alloc (.cells vs.toArray t)) g vs:=by
 subst hg
 have hh:=heap_alloc_new w (.cells vs.toArray t);refine ⟨fun k v hv=>(cell_of_row (w.alloc _) w.heap.size k _ t (0,0) hh).trans (by simpa using hv),fun k _=>?_,by simp⟩;unfold World.frozen?;simp only [hh];simp
theorem Bk.set (h:Bk w g vs) (k:Nat) (v:Value) (hk:k<vs.length):Bk (w.setCell ⟨g,k,none⟩ v) g (vs.set k v):=by
 have h1:=List.getElem?_eq_getElem hk;have hk1:=h.c k vs[k] h1;have hz1:=h.z k hk;refine ⟨fun j u hu=>?_,fun j hj=>?_,by have:=h.lt;simpa using this⟩
 ·by_cases e:k=j
  ·subst e;rw [List.getElem?_set_self hk] at hu;obtain rfl:v=u:=Option.some.inj hu;go_simp
  ·rw [List.getElem?_set_ne e] at hu;have hj1:=h.c j u hu;have e':¬j=k:=fun x=>e x.symm;go_simp
 ·rw [List.length_set] at hj;have hz2:=h.z j hj;go_simp
theorem Bk.other (h:Bk w g vs) (g' o:Nat) (u:Value) (ne:¬g'=g):Bk (w.setCell ⟨g',o,none⟩ u) g vs:=by
 refine ⟨fun j v hv=>?_,fun j hj=>?_,by have:=h.lt;simpa using this⟩
 ·have h1:=h.c j v hv;go_simp
 ·have h1:=h.z j hj;go_simp
end
end Go.Proofs.YtnabkcglnbdfeaaGreatDoor.Rec
namespace Go.Proofs.YtnabkcglnbdfeaaGreatDoor.Par
open Go.RowKit Base Txt
structure Bd where
 x0:Int
 x1:Int
 x2:Int
 x3:Int
 x4:Int
 x5:Int
 x6:Int
 x7:Int
 ch:Bool
 od:Bool
def Bd.right (b:Bd):Bool:=Bnd.right b.x0 b.x1 b.x2 b.x3 b.x4 b.x5 b.x6 b.x7
structure S where
 st:Nat
 rd:Ln.R
 r:Rec.R
 lines:Nat
 head:Nat
 left:Nat
 fresh:Bool
 clean:Bool
 e:Nat
 out:List Rec.R
abbrev E0:ByteArray:=⟨#[]⟩
def zero:Rec.R:=⟨E0,E0,0,[],false,[],[]⟩
def nl (p:Nat) (most:Int):Ln.R:=Ln.R.new (Qk.has p 1) (Qk.has p 2) (Ln.mid most)
def headed (st:Nat):Bool:=st==0||st==1||st==6
def bodied (st:Nat):Bool:=st==2||st==4
def joinF (f:Fld) (ln:List UInt8):Fld:=(f.1,ba (Fd.joined f.2.data.toList ln))
def fieldV (p lines:Nat) (l:List Fld) (ln:List UInt8) (most:Int):Nat ⊕ List Fld:=
 if most<((lines+1:Nat):Int) then .inl 431
 else if (Fd.goes p ln && !l.isEmpty)=true then .inr (l.dropLast ++ [joinF (l.getLast?.getD dflt) ln])
 else match Fd.parse (Fd.clOf p) ln with
  | none=>.inl 400
  | some none=>.inr l
  | some (some (n,v))=>.inr (l ++ [(ba n,ba v)])
section
variable (p:Nat) (b:Bd)
def S.fail (s:S) (e:Nat):S:={s with e:=e,clean:=false,r:=zero}
def S.next (s:S):S:={s with r:=zero,st:=0,lines:=0,head:=0,fresh:=false,clean:=true,rd:=nl p b.x0}
def S.whole (s:S):S:=S.next p b {s with out:=s.out ++ [s.r]}
def S.over (s:S):S:=
 let d:=Frm.decideV (Frm.clOf p) b.ch b.x3 s.r.k s.r.fs
 if d.2.2≠0 then s.fail d.2.2.toNat
 else if d.1=2 then {s with r:={s.r with ch:=true},st:=3,fresh:=true,rd:=nl p b.x0}
 else if d.2.1=0 then s.whole p b
 else {s with st:=2,left:=d.2.1.toNat,fresh:=true}
def S.chunk (s:S) (ln:List UInt8):S:=
 let z:=Chk.sizeV (Qk.has p 27) (Qk.has p 28) b.x4 b.x3 ln
 if z.2≠0 then s.fail z.2.toNat
 else if z.1=0 then {s with st:=6,lines:=0,rd:=nl p b.x0}
 else if b.x3-(s.r.body.length:Int)<z.1 then s.fail 413
 else {s with st:=4,left:=z.1.toNat}
def S.first (s:S) (ln:List UInt8):S:=
 if ln= [] then (if Qk.has p 0=true then {s with clean:=true} else s.fail 400)
 else
  let q:=Rq.request (Rq.clOf p) b.od ln
  if q.2.2.2≠0 then s.fail q.2.2.2 else {s with r:={s.r with m:=ba q.1,x:=ba q.2.1,k:=(q.2.2.1:Int)},st:=1}
def S.fields (s:S) (ln:List UInt8):S:=
 if ln= [] then s.over p b
 else match fieldV p s.lines s.r.fs ln b.x1 with
  | .inl e=>S.fail {s with lines:=s.lines+1} e
  | .inr l=>{s with lines:=s.lines+1,r:={s.r with fs:=l}}
def S.trail (s:S) (ln:List UInt8):S:=
 if ln= [] then s.whole p b
 else match fieldV p s.lines s.r.ts ln b.x5 with
  | .inl e=>S.fail {s with lines:=s.lines+1} e
  | .inr l=>{s with lines:=s.lines+1,r:={s.r with ts:=l}}
def S.ended (s:S) (ln:List UInt8):S:=
 match s.st with
 | 0=>s.first p b ln
 | 1=>s.fields p b ln
 | 3=>s.chunk p b ln
 | 5=>{s with st:=3,rd:=nl p b.x0}
 | 6=>s.trail p b ln
 | _=>s
def S.bodyB (s:S) (c:UInt8):S:=
 let s1:={s with r:={s.r with body:=s.r.body ++ [c]},left:=s.left-1}
 if 1<s.left then s1 else if s.st=2 then s1.whole p b else {s1 with st:=5,rd:=nl p 0}
def longE (st:Nat):Nat:=if st=0 then 414 else if headed st=true then 431 else 400
def S.plain (s:S) (c:UInt8):S:=
 let s0:={s with fresh:=false}
 if bodied s.st=true then s0.bodyB p b c
 else
  let s1:={s0 with rd:=s.rd.byte c}
  if s.rd.how c=3 then s1.fail 400
  else if s.rd.how c=4 then s1.fail (longE s.st)
  else if s.rd.how c=0 then s1
  else s1.ended p b (s.rd.byte c).L
def S.count (f:S→S) (s:S):S:=
 if s.e≠0 then s
 else if headed s.st=true then (if b.x2<((s.head+1:Nat):Int) then S.fail {s with head:=s.head+1} 431 else f {s with head:=s.head+1,clean:=false})
 else f {s with clean:=false}
def S.again (s:S) (c:UInt8) (was:Nat):S:=
 if (s.st==0 && !(was==0))=true then s.count b (fun s=>s.plain p b c)
 else
  let s1:={s with clean:=false}
  if (!headed was&&s.st==6)=true then s1.count b (fun s=>s.plain p b c) else s1.plain p b c
def S.byte1 (s:S) (c:UInt8):S:=
 let s0:={s with fresh:=false}
 if bodied s.st=true then s0.bodyB p b c
 else
  let s1:={s0 with rd:=s.rd.byte c}
  if s.rd.how c=3 then s1.fail 400
  else if s.rd.how c=4 then (if (s.st==5&&Qk.has p 29)=true then S.plain p b {s1 with st:=3,rd:=nl p b.x0} c else s1.fail (longE s.st))
  else if s.rd.how c=0 then s1
  else if s.rd.how c=2 then (if (s1.ended p b (s.rd.byte c).L).e=0 then S.again p b (s1.ended p b (s.rd.byte c).L) c s.st else s1.ended p b (s.rd.byte c).L)
  else s1.ended p b (s.rd.byte c).L
def S.byte (s:S) (c:UInt8):S:=s.count b (fun s=>s.byte1 p b c)
def S.feed (s:S) (cs:List UInt8):S:=cs.foldl (S.byte p b) s
def S.new:S:=if (b.right&&decide (p<1073741824))=true then ⟨0,nl p b.x0,zero,0,0,0,false,true,0,[]⟩ else ⟨0,nl p b.x0,zero,0,0,0,false,false,20,[]⟩
def S.waits (s:S):Bool:=decide (s.e=0)&&(s.fresh&&Rec.expects s.r)
def S.held (s:S):Nat:=if s.e=0 then Rec.size s.r+(if bodied s.st=true then 0 else s.rd.B.length) else 0
def S.read (cs:List UInt8):S:=S.feed p b (S.new p b) cs
end
end Go.Proofs.YtnabkcglnbdfeaaGreatDoor.Par
namespace Go.Proofs.YtnabkcglnbdfeaaGreatDoor.Pg
open Go.RowKit Base Txt Par
structure T where
 st:Nat
 rd:Ln.M
 r:Rec.R
 hl:Nat
 bl:Nat
 size:Nat
 cnt:Bool
 left:Nat
 out:List Rec.R
inductive Q
 | live (t:T)
 | dead (e:Nat) (out:List Rec.R)
section
variable (p:Nat) (b:Bd)
def T.fin (t:T):T:={t with out:=t.out ++ [t.r],r:=zero,hl:=0,bl:=0,size:=0,cnt:=false,left:=0,st:=1}
def T.enter (t:T) (st:Nat) (most:Int):T:={t with st:=st,rd:=Ln.M.of p most}
def T.endData (t:T):T:=if t.r.ch=true then t.enter p 6 0 else t.fin
def T.keep (t:T) (c:UInt8):T:={t with r:={t.r with body:=t.r.body ++ [c]},left:=t.left-1}
def T.first (t:T) (s:List UInt8):Nat × T:=
 if s= [] then (if Qk.has p 0=true then 0 else 400,t)
 else
  let q:=Rq.request (Rq.clOf p) b.od s
  if q.2.2.2=0 then (0,{t with r:={t.r with m:=ba q.1,x:=ba q.2.1,k:=(q.2.2.1:Int)},st:=2}) else (q.2.2.2,t)
def T.endHead (t:T):Nat × T:=
 let d:=Frm.decideV (Frm.clOf p) b.ch b.x3 t.r.k t.r.fs
 if d.2.2≠0 then (d.2.2.toNat,t)
 else if d.1=2 then (0,{t with r:={t.r with ch:=true},st:=4})
 else if d.2.1=0 then (0,t.fin)
 else (0,{t with left:=d.2.1.toNat,st:=3})
def listE:Nat ⊕ List Fld→Nat
 | .inl e=>e
 | .inr _=>0
def listL (l:List Fld):Nat ⊕ List Fld→List Fld
 | .inl _=>l
 | .inr l'=>l'
def T.fields (t:T) (s:List UInt8):Nat × T:=
 if s= [] then t.endHead p b
 else (listE (fieldV p t.hl t.r.fs s b.x1),{t with hl:=t.hl+1,r:={t.r with fs:=listL t.r.fs (fieldV p t.hl t.r.fs s b.x1)}})
def T.trail (t:T) (s:List UInt8):Nat × T:=
 if s= [] then (0,t.fin)
 else (listE (fieldV p t.bl t.r.ts s b.x5),{t with bl:=t.bl+1,r:={t.r with ts:=listL t.r.ts (fieldV p t.bl t.r.ts s b.x5)}})
def T.chunk (t:T) (s:List UInt8):Nat × T:=
 let z:=Chk.sizeV (Qk.has p 27) (Qk.has p 28) b.x4 b.x3 s
 if z.2≠0 then (z.2.toNat,t)
 else if z.1=0 then (0,{t with st:=7})
 else if b.x3-(t.r.body.length:Int)<z.1 then (413,t)
 else (0,{t with left:=z.1.toNat,st:=5})
def T.line (t:T) (s:List UInt8):Nat × T:=
 if t.st=1 then t.first p b s else if t.st=2 then t.fields p b s else if t.st=4 then t.chunk p b s else if t.st=7 then t.trail p b s
 else (0,t.enter p 4 b.x0)
def longE (st:Nat):Nat:=if st=1 then 414 else if st=2∨st=7 then 431 else 400
def ends (x:Nat × T):Q:=if x.1=0 then .live x.2 else .dead x.1 x.2.out
def T.inLine (t:T) (c:UInt8):Q × Bool:=
 let t1:={t with rd:=t.rd.byte c}
 let how:=t.rd.clear.next c
 if how=0 then (.live t1,true)
 else if how=3 then (.dead 400 t.out,true)
 else if how=4 then (if (t.st==6&&Qk.has p 29)=true then (.live (t1.enter p 4 b.x0),false) else (.dead (longE t.st) t.out,true))
 else (ends (t1.line p b (t.rd.byte c).line),!(how==2))
def T.counted (t:T):T:=if t.cnt=true then t else {t with cnt:=true,size:=t.size+1}
def headed (st:Nat):Bool:=st==1||st==2||st==7
def bodied (st:Nat):Bool:=st==3||st==5
def T.look (t:T) (c:UInt8):Q × Bool:=
 if bodied t.st=true then (.live (if t.left=1 then (t.keep c).endData p else t.keep c),true)
 else if headed t.st=true then (if b.x2<(t.counted.size:Int) then (.dead 431 t.out,true) else t.counted.inLine p b c)
 else t.inLine p b c
def T.take (t:T) (c:UInt8):Q:=
 match ({t with cnt:=false}:T).look p b c with
 |(.live t1,false)=>(t1.look p b c).1
 |(x,_)=>x
def Q.byte (x:Q) (c:UInt8):Q:=
 match x with
 | .live t=>t.take p b c
 | x=>x
def Q.feed (x:Q) (cs:List UInt8):Q:=cs.foldl (Q.byte p b) x
def T.new:T:=⟨1,Ln.M.of p b.x0,zero,0,0,0,false,0,[]⟩
def Q.new:Q:=if (b.right&&decide (p<1073741824))=true then .live (T.new p b) else .dead 20 []
def Q.read (cs:List UInt8):Q:=(Q.new p b).feed p b cs
end
def Q.err:Q→Nat
 | .live _=>0
 | .dead e _=>e
def Q.out:Q→List Rec.R
 | .live t=>t.out
 | .dead _ out=>out
def Q.told:Q→Q
 | .live t=>.live {t with out:= []}
 | .dead e _=>.dead e []
def T.isNew (t:T):Bool:=decide (t.rd.len=0) && !t.rd.pend
def T.next (t:T):Bool:=(t.st==3||t.st==4)&&(t.r.body.isEmpty&&t.isNew)
def Q.waits:Q→Bool
 | .live t=>t.next&&Rec.expects t.r
 | .dead _ _=>false
def Q.held:Q→Nat
 | .live t=>t.rd.len+Rec.size t.r
 | .dead _ _=>0
def Q.clean:Q→Bool
 | .live t=>t.st==1&&t.isNew
 | .dead _ _=>false
end Go.Proofs.YtnabkcglnbdfeaaGreatDoor.Pg
