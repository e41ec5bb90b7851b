import Derived.Test.YtimoakmcelocfaaGreatAyu
import Derived.Test.YtimoakmcelocfaaGreatAyv
namespace Go.Proofs.YtimoakmcelocfaaGreat.An
open Go.RowKit Base Txt Mem Par Pg Flt Wit
section
variable {p:Nat} {b:Bd}
theorem last_ok {l s:List UInt8} {c:UInt8} (h:Lasts p b l c) (e:s=l ++ [c]):DF.lastB p b s=true:=by rw [e];unfold DF.lastB DF.parted;obtain ⟨h1,h2⟩:=h;rw [h2,show (l ++ [c]).take ((l ++ [c]).length-1)=l by simp,h1];simp
theorem lw_0 (hp:p<1073741824) (hb:b.right=true) (h:Qk.has p 0=true) (_hn:Qk.needs 0 p b.ch b.od=true):DF.lastB p b (Wit.W 0 b.ch (Qk.has p 19)).data.toList=true:=by
 have hl:=last_0 hp hb h
 exact last_ok hl ((by decide +kernel:∀ch ti:Bool,(Wit.W 0 ch ti).data.toList=([] ++ [13]) ++ [10]) _ _)
theorem lw_1 (hp:p<1073741824) (hb:b.right=true) (h:Qk.has p 1=true) (_hn:Qk.needs 1 p b.ch b.od=true):DF.lastB p b (Wit.W 1 b.ch (Qk.has p 19)).data.toList=true:=by
 have hl:=last_1 hp hb h
 exact last_ok hl ((by decide +kernel:∀ch ti:Bool,(Wit.W 1 ch ti).data.toList=topL ++ [10]) _ _)
theorem lw_2 (hp:p<1073741824) (hb:b.right=true) (h:Qk.has p 2=true) (_hn:Qk.needs 2 p b.ch b.od=true):DF.lastB p b (Wit.W 2 b.ch (Qk.has p 19)).data.toList=true:=by
 have hl:=last_2 hp hb h
 exact last_ok hl ((by decide +kernel:∀ch ti:Bool,(Wit.W 2 ch ti).data.toList=(topL ++ [13]) ++ [72]) _ _)
theorem lw_3 (hp:p<1073741824) (hb:b.right=true) (h:Qk.has p 3=true) (_hn:Qk.needs 3 p b.ch b.od=true):DF.lastB p b (Wit.W 3 b.ch (Qk.has p 19)).data.toList=true:=by
 have hl:=last_3 hp hb h
 exact last_ok hl ((by decide +kernel:∀ch ti:Bool,(Wit.W 3 ch ti).data.toList=([71,69,84,32,32,47,32,72,84,84,80,47,49,46,49] ++ [13]) ++ [10]) _ _)
theorem lw_4 (hp:p<1073741824) (hb:b.right=true) (h:Qk.has p 4=true) (_hn:Qk.needs 4 p b.ch b.od=true):DF.lastB p b (Wit.W 4 b.ch (Qk.has p 19)).data.toList=true:=by
 have hl:=last_4 hp hb h
 exact last_ok hl ((by decide +kernel:∀ch ti:Bool,(Wit.W 4 ch ti).data.toList=([71,69,84,32,47,32,72,84,84,80,47,49,46,50] ++ [13]) ++ [10]) _ _)
theorem lw_5 (hp:p<1073741824) (hb:b.right=true) (h:Qk.has p 5=true) (_hn:Qk.needs 5 p b.ch b.od=true):DF.lastB p b (Wit.W 5 b.ch (Qk.has p 19)).data.toList=true:=by
 have hl:=last_5 hp hb h
 exact last_ok hl ((by decide +kernel:∀ch ti:Bool,(Wit.W 5 ch ti).data.toList=([71,69,84,32,47,32,104,116,116,112,47,49,46,49] ++ [13]) ++ [10]) _ _)
theorem lw_6 (hp:p<1073741824) (hb:b.right=true) (h:Qk.has p 6=true) (hn:Qk.needs 6 p b.ch b.od=true):DF.lastB p b (Wit.W 6 b.ch (Qk.has p 19)).data.toList=true:=by
 have hl:=last_6 hp hb h (show b.od=true from hn)
 exact last_ok hl ((by decide +kernel:∀ch ti:Bool,(Wit.W 6 ch ti).data.toList=([71,69,84,32,47] ++ [13]) ++ [10]) _ _)
theorem lw_7 (hp:p<1073741824) (hb:b.right=true) (h:Qk.has p 7=true) (_hn:Qk.needs 7 p b.ch b.od=true):DF.lastB p b (Wit.W 7 b.ch (Qk.has p 19)).data.toList=true:=by
 have hl:=last_7 hp hb h
 exact last_ok hl ((by decide +kernel:∀ch ti:Bool,(Wit.W 7 ch ti).data.toList=([71,69,84,32,47,97,32,98,32,72,84,84,80,47,49,46,49] ++ [13]) ++ [10]) _ _)
theorem lw_8 (hp:p<1073741824) (hb:b.right=true) (h:Qk.has p 8=true) (_hn:Qk.needs 8 p b.ch b.od=true):DF.lastB p b (Wit.W 8 b.ch (Qk.has p 19)).data.toList=true:=by
 have hl:=last_8 hp hb h
 exact last_ok hl ((by decide +kernel:∀ch ti:Bool,(Wit.W 8 ch ti).data.toList=([71,69,84,32,47,1,32,72,84,84,80,47,49,46,49] ++ [13]) ++ [10]) _ _)
theorem lw_9 (hp:p<1073741824) (hb:b.right=true) (h:Qk.has p 9=true) (_hn:Qk.needs 9 p b.ch b.od=true):DF.lastB p b (Wit.W 9 b.ch (Qk.has p 19)).data.toList=true:=by
 have hl:=last_9 hp hb h
 exact last_ok hl ((by decide +kernel:∀ch ti:Bool,(Wit.W 9 ch ti).data.toList=(((topL ++ [13,10])++linesL [])++([72,111,115,116,32,58,32,97] ++ [13])) ++ [10]) _ _)
theorem lw_10 (hp:p<1073741824) (hb:b.right=true) (h:Qk.has p 10=true) (_hn:Qk.needs 10 p b.ch b.od=true):DF.lastB p b (Wit.W 10 b.ch (Qk.has p 19)).data.toList=true:=by
 have hl:=last_10 hp hb h
 exact last_ok hl ((by decide +kernel:∀ch ti:Bool,(Wit.W 10 ch ti).data.toList=(((topL ++ [13,10])++linesL [])++([40,58,32,97] ++ [13])) ++ [10]) _ _)
theorem lw_11 (hp:p<1073741824) (hb:b.right=true) (h:Qk.has p 11=true) (_hn:Qk.needs 11 p b.ch b.od=true):DF.lastB p b (Wit.W 11 b.ch (Qk.has p 19)).data.toList=true:=by
 have hl:=last_11 hp hb h
 exact last_ok hl ((by decide +kernel:∀ch ti:Bool,(Wit.W 11 ch ti).data.toList=(((topL ++ [13,10])++linesL [])++([97] ++ [13])) ++ [10]) _ _)
theorem lw_12 (hp:p<1073741824) (hb:b.right=true) (h:Qk.has p 12=true) (_hn:Qk.needs 12 p b.ch b.od=true):DF.lastB p b (Wit.W 12 b.ch (Qk.has p 19)).data.toList=true:=by
 have hl:=last_12 hp hb h
 exact last_ok hl ((by decide +kernel:∀ch ti:Bool,(Wit.W 12 ch ti).data.toList=(((topL ++ [13,10])++linesL [])++([58,32,97] ++ [13])) ++ [10]) _ _)
theorem lw_13 (hp:p<1073741824) (hb:b.right=true) (h:Qk.has p 13=true) (_hn:Qk.needs 13 p b.ch b.od=true):DF.lastB p b (Wit.W 13 b.ch (Qk.has p 19)).data.toList=true:=by
 have hl:=last_13 hp hb h
 exact last_ok hl ((by decide +kernel:∀ch ti:Bool,(Wit.W 13 ch ti).data.toList=(((topL ++ [13,10])++linesL [hostL])++([32,98] ++ [13])) ++ [10]) _ _)
theorem lw_14 (hp:p<1073741824) (hb:b.right=true) (h:Qk.has p 14=true) (_hn:Qk.needs 14 p b.ch b.od=true):DF.lastB p b (Wit.W 14 b.ch (Qk.has p 19)).data.toList=true:=by
 have hl:=last_14 hp hb h
 exact last_ok hl ((by decide +kernel:∀ch ti:Bool,(Wit.W 14 ch ti).data.toList=(((topL ++ [13,10])++linesL [])++([65,58,32,1] ++ [13])) ++ [10]) _ _)
theorem lw_15 (hp:p<1073741824) (hb:b.right=true) (h:Qk.has p 15=true) (_hn:Qk.needs 15 p b.ch b.od=true):DF.lastB p b (Wit.W 15 b.ch (Qk.has p 19)).data.toList=true:=by
 have hl:=last_15 hp hb h
 exact last_ok hl ((by decide +kernel:∀ch ti:Bool,(Wit.W 15 ch ti).data.toList=(((topL ++ [13,10])++linesL [])++([] ++ [13])) ++ [10]) _ _)
theorem lw_16 (hp:p<1073741824) (hb:b.right=true) (h:Qk.has p 16=true) (_hn:Qk.needs 16 p b.ch b.od=true):DF.lastB p b (Wit.W 16 b.ch (Qk.has p 19)).data.toList=true:=by
 have hl:=last_16 hp hb h
 exact last_ok hl ((by decide +kernel:∀ch ti:Bool,(Wit.W 16 ch ti).data.toList=(((topL ++ [13,10])++linesL [hostL,hostL])++([] ++ [13])) ++ [10]) _ _)
theorem lw_17 (hp:p<1073741824) (hb:b.right=true) (_h:Qk.has p 17=true) (hn:Qk.needs 17 p b.ch b.od=true):DF.lastB p b (Wit.W 17 b.ch (Qk.has p 19)).data.toList=true:=by
 have hl:=last_17 hp hb (show Qk.has p 14=true from hn)
 exact last_ok hl ((by decide +kernel:∀ch ti:Bool,(Wit.W 17 ch ti).data.toList=(((topL ++ [13,10])++linesL [])++([84,114,97,110,115,102,101,114,45,69,110,99,111,100,105,110,103,58,32,11,99,104,117,110,107,101,100] ++ [13])) ++ [10]) _ _)
theorem lw_18 (hp:p<1073741824) (hb:b.right=true) (h:Qk.has p 18=true) (hn:Qk.needs 18 p b.ch b.od=true):DF.lastB p b (Wit.W 18 b.ch (Qk.has p 19)).data.toList=true:=by
 have hl:=last_18 hp hb h (show b.ch=true from hn)
 exact last_ok hl ((by decide +kernel:∀ch ti:Bool,(Wit.W 18 ch ti).data.toList=(((topL ++ [13,10])++linesL [hostL,[84,114,97,110,115,102,101,114,45,69,110,99,111,100,105,110,103,58,32,103,122,105,112,44,32,99,104,117,110,107,101,100]])++([] ++ [13])) ++ [10]) _ _)
theorem lw_19 (hp:p<1073741824) (hb:b.right=true) (h:Qk.has p 19=true) (_hn:Qk.needs 19 p b.ch b.od=true):DF.lastB p b (Wit.W 19 b.ch (Qk.has p 19)).data.toList=true:=by
 have hl:=last_19 hp hb h
 exact last_ok hl ((by decide +kernel:∀ch ti:Bool,(Wit.W 19 ch ti).data.toList=(((topL ++ [13,10])++linesL [hostL,unkL])++([] ++ [13])) ++ [10]) _ _)
theorem lw_21 (hp:p<1073741824) (hb:b.right=true) (h:Qk.has p 21=true) (hn:Qk.needs 21 p b.ch b.od=true):DF.lastB p b (Wit.W 21 b.ch (Qk.has p 19)).data.toList=true:=by
 have hl:=last_21 hp hb h (show b.ch=true from hn)
 exact last_ok hl ((by decide +kernel:∀ch ti:Bool,(Wit.W 21 ch ti).data.toList=(((topL ++ [13,10])++linesL [hostL,chkL,nobL])++([] ++ [13])) ++ [10]) _ _)
theorem lw_22 (hp:p<1073741824) (hb:b.right=true) (h:Qk.has p 22=true) (hn:Qk.needs 22 p b.ch b.od=true):DF.lastB p b (Wit.W 22 b.ch (Qk.has p 19)).data.toList=true:=by
 have hl:=last_22 hp hb h (by have h9:(!Qk.has p 21)=true:=hn;simpa using h9)
 exact last_ok hl ((by decide +kernel:∀ch ti:Bool,(Wit.W 22 ch ti).data.toList=(((topL ++ [13,10])++linesL [hostL,chkL,nobL])++([] ++ [13])) ++ [10]) _ _)
theorem lw_23 (hp:p<1073741824) (hb:b.right=true) (h:Qk.has p 23=true) (_hn:Qk.needs 23 p b.ch b.od=true):DF.lastB p b (Wit.W 23 b.ch (Qk.has p 19)).data.toList=true:=by
 have hl:=last_23 hp hb h
 exact last_ok hl ((by decide +kernel:∀ch ti:Bool,(Wit.W 23 ch ti).data.toList=(((topL ++ [13,10])++linesL [hostL,[67,111,110,116,101,110,116,45,76,101,110,103,116,104,58,32,43,48]])++([] ++ [13])) ++ [10]) _ _)
theorem lw_24 (hp:p<1073741824) (hb:b.right=true) (h:Qk.has p 24=true) (_hn:Qk.needs 24 p b.ch b.od=true):DF.lastB p b (Wit.W 24 b.ch (Qk.has p 19)).data.toList=true:=by
 have hl:=last_24 hp hb h
 exact last_ok hl ((by decide +kernel:∀ch ti:Bool,(Wit.W 24 ch ti).data.toList=(((topL ++ [13,10])++linesL [hostL,[67,111,110,116,101,110,116,45,76,101,110,103,116,104,58,32,48,44,32,48]])++([] ++ [13])) ++ [10]) _ _)
theorem lw_25 (hp:p<1073741824) (hb:b.right=true) (h:Qk.has p 25=true) (_hn:Qk.needs 25 p b.ch b.od=true):DF.lastB p b (Wit.W 25 b.ch (Qk.has p 19)).data.toList=true:=by
 have hl:=last_25 hp hb h
 exact last_ok hl ((by decide +kernel:∀ch ti:Bool,(Wit.W 25 ch ti).data.toList=(((topL ++ [13,10])++linesL [hostL,nobL,oneL])++([] ++ [13])) ++ [10]) _ _)
theorem lw_26 (hp:p<1073741824) (hb:b.right=true) (h:Qk.has p 26=true) (hn:Qk.needs 26 p b.ch b.od=true):DF.lastB p b (Wit.W 26 b.ch (Qk.has p 19)).data.toList=true:=by
 have hl:=last_26 hp hb h (by have h9:(!Qk.has p 25)=true:=hn;simpa using h9)
 exact last_ok hl ((by decide +kernel:∀ch ti:Bool,(Wit.W 26 ch ti).data.toList=(((topL ++ [13,10])++linesL [hostL,nobL,oneL])++([] ++ [13])) ++ [10]) _ _)
theorem lw_27 (hp:p<1073741824) (hb:b.right=true) (h:Qk.has p 27=true) (hn:Qk.needs 27 p b.ch b.od=true):DF.lastB p b (Wit.W 27 b.ch (Qk.has p 19)).data.toList=true:=by
 have hl:=last_27 hp hb h (show b.ch=true from hn)
 exact last_ok hl ((by decide +kernel:∀ch ti:Bool,(Wit.W 27 ch ti).data.toList=(ckL++([48,120,49] ++ [13])) ++ [10]) _ _)
theorem lw_28 (hp:p<1073741824) (hb:b.right=true) (h:Qk.has p 28=true) (hn:Qk.needs 28 p b.ch b.od=true):DF.lastB p b (Wit.W 28 b.ch (Qk.has p 19)).data.toList=true:=by
 have hl:=last_28 hp hb h (show b.ch=true from hn)
 exact last_ok hl ((by decide +kernel:∀ch ti:Bool,(Wit.W 28 ch ti).data.toList=(ckL++([32,49] ++ [13])) ++ [10]) _ _)
theorem lw_29 (hp:p<1073741824) (hb:b.right=true) (h:Qk.has p 29=true) (hn:Qk.needs 29 p b.ch b.od=true):DF.lastB p b (Wit.W 29 b.ch (Qk.has p 19)).data.toList=true:=by
 have hl:=last_29 hp hb h (show b.ch=true from hn)
 exact last_ok hl ((by decide +kernel:∀ch ti:Bool,(Wit.W 29 ch ti).data.toList=(ckL++([49] ++ [13,10]) ++ [97]) ++ [48]) _ _)
theorem lw_20 (hp:p<1073741824) (hb:b.right=true) (h:Qk.has p 20=true) (hn:Qk.needs 20 p b.ch b.od=true):DF.lastB p b (Wit.W 20 b.ch (Qk.has p 19)).data.toList=true:=by
 have hn:(b.od&&(b.ch||Qk.has p 19||Qk.has p 22 && !Qk.has p 21))=true:=hn;rw [Bool.and_eq_true] at hn;obtain ⟨ho,hn⟩:=hn;cases hch:b.ch with
 | true=>
   exact last_ok (last_20a hp hb ho h hch) ((by decide +kernel:∀ti:Bool,(Wit.W 20 true ti).data.toList=(((oldL ++ [13,10])++linesL [chkL])++([] ++ [13])) ++ [10]) _)
 | false=>
   cases h19:Qk.has p 19 with
   | true=>exact last_ok (last_20b hp hb ho h h19) (by decide +kernel:(Wit.W 20 false true).data.toList=(((oldL ++ [13,10])++linesL [unkL])++([] ++ [13])) ++ [10])
   | false=>
     rw [hch,h19] at hn;simp only [Bool.false_or,Bool.and_eq_true,Bool.not_eq_true'] at hn
     exact last_ok (last_20c hp hb ho h hn.1 hn.2) (by decide +kernel:(Wit.W 20 false false).data.toList=(((oldL ++ [13,10])++linesL [chkL,nobL])++([] ++ [13])) ++ [10])
theorem lw (hp:p<1073741824) (hb:b.right=true) {c:Int} (h:c∈effL p b):DF.lastB p b (Wit.W c.toNat b.ch (Qk.has p 19)).data.toList=true:=by
 obtain ⟨h1,h2,h3⟩:=may_of h;unfold Wit.may at h1;simp only [Bool.and_eq_true,decide_eq_true_eq] at h1;obtain ⟨-, -,h4,h5⟩:=h1;rcases (by omega:c=0∨c=1∨c=2∨c=3∨c=4∨c=5∨c=6∨c=7∨c=8∨c=9∨c=10∨c=11∨c=12∨c=13∨c=14∨c=15∨c=16∨c=17∨c=18∨c=19∨c=20∨c=21∨c=22∨c=23∨c=24∨c=25∨c=26∨c=27∨c=28∨c=29) with rfl | rfl | rfl | rfl | rfl | rfl | rfl | rfl | rfl | rfl | rfl | rfl | rfl | rfl | rfl | rfl | rfl | rfl | rfl | rfl | rfl | rfl | rfl | rfl | rfl | rfl | rfl | rfl | rfl | rfl
 ·exact lw_0 hp hb h4 h5
 ·exact lw_1 hp hb h4 h5
 ·exact lw_2 hp hb h4 h5
 ·exact lw_3 hp hb h4 h5
 ·exact lw_4 hp hb h4 h5
 ·exact lw_5 hp hb h4 h5
 ·exact lw_6 hp hb h4 h5
 ·exact lw_7 hp hb h4 h5
 ·exact lw_8 hp hb h4 h5
 ·exact lw_9 hp hb h4 h5
 ·exact lw_10 hp hb h4 h5
 ·exact lw_11 hp hb h4 h5
 ·exact lw_12 hp hb h4 h5
 ·exact lw_13 hp hb h4 h5
 ·exact lw_14 hp hb h4 h5
 ·exact lw_15 hp hb h4 h5
 ·exact lw_16 hp hb h4 h5
 ·exact lw_17 hp hb h4 h5
 ·exact lw_18 hp hb h4 h5
 ·exact lw_19 hp hb h4 h5
 ·exact lw_20 hp hb h4 h5
 ·exact lw_21 hp hb h4 h5
 ·exact lw_22 hp hb h4 h5
 ·exact lw_23 hp hb h4 h5
 ·exact lw_24 hp hb h4 h5
 ·exact lw_25 hp hb h4 h5
 ·exact lw_26 hp hb h4 h5
 ·exact lw_27 hp hb h4 h5
 ·exact lw_28 hp hb h4 h5
 ·exact lw_29 hp hb h4 h5
end
end Go.Proofs.YtimoakmcelocfaaGreat.An
namespace Go.Proofs.YtimoakmcelocfaaGreat.Pg
open Go.RowKit Base Txt Par Flt
structure Safe (p:Nat) (b:Bd):Prop where
 off:∀c∈([0,1,2,3,4,5,7,8,9,10,11,12,13,14,15,16,19,23,24,25,26]:List Int),Qk.has p c=false
 nv:Qk.has p 6=true→b.od=false
 chk:∀c∈([18,21,27,28,29]:List Int),Qk.has p c=true→b.ch=false
 td:Qk.has p 20=true→b.od=false∨b.ch=false
 lw:Qk.has p 22=true→Qk.has p 21=true
structure T.Kept (b:Bd) (t:T):Prop where
 ch:b.ch=false→(t.st=1∨t.st=2∨t.st=3)∧t.r.ch=false
 od:b.od=false→t.st=2→t.r.k≠0
 fs:∀f∈t.r.fs,∀x∈f.2.data.toList,x≠11∧x≠12
section
variable {p:Nat} {b:Bd} {t t2:T} {s:List UInt8} {c:UInt8}
def Alike (x y:Q):Prop:=(∃t,x=.live t∧y=.live t)∨∃e e' o,e≠0∧e'≠0∧x=.dead e o∧y=.dead e' o
def Both (b:Bd) (x y:Q):Prop:=(∃t,x=.live t∧y=.live t∧t.Strict∧t.Kept b)∨∃e e' o,e≠0∧e'≠0∧x=.dead e o∧y=.dead e' o
end
end Go.Proofs.YtimoakmcelocfaaGreat.Pg
namespace Go.Proofs.YtimoakmcelocfaaGreat.Frm
open Go.RowKit Base Txt
def tbl:List Fld:= [(⟨#[72,111,115,116]⟩,⟨#[97]⟩),(⟨#[104,111,115,116]⟩,⟨#[98,58,56,48]⟩),(⟨#[72,111,115,116]⟩,⟨#[97,32,98]⟩),(⟨#[84,114,97,110,115,102,101,114,45,69,110,99,111,100,105,110,103]⟩,⟨#[99,104,117,110,107,101,100]⟩),(⟨#[116,114,97,110,115,102,101,114,45,101,110,99,111,100,105,110,103]⟩,⟨#[103,122,105,112]⟩),(⟨#[84,114,97,110,115,102,101,114,45,69,110,99,111,100,105,110,103]⟩,⟨#[103,122,105,112,44,32,99,104,117,110,107,101,100]⟩),(⟨#[84,114,97,110,115,102,101,114,45,69,110,99,111,100,105,110,103]⟩,⟨#[11,99,104,117,110,107,101,100]⟩),(⟨#[84,114,97,110,115,102,101,114,45,69,110,99,111,100,105,110,103]⟩,⟨#[]⟩),(⟨#[67,111,110,116,101,110,116,45,76,101,110,103,116,104]⟩,⟨#[53]⟩),(⟨#[99,111,110,116,101,110,116,45,108,101,110,103,116,104]⟩,⟨#[53]⟩),(⟨#[67,111,110,116,101,110,116,45,76,101,110,103,116,104]⟩,⟨#[54]⟩),(⟨#[67,111,110,116,101,110,116,45,76,101,110,103,116,104]⟩,⟨#[43,53]⟩),(⟨#[67,111,110,116,101,110,116,45,76,101,110,103,116,104]⟩,⟨#[53,44,32,53]⟩),(⟨#[67,111,110,116,101,110,116,45,76,101,110,103,116,104]⟩,⟨#[53,44,54]⟩),(⟨#[67,111,110,116,101,110,116,45,76,101,110,103,116,104]⟩,⟨#[]⟩),(⟨#[67,111,110,116,101,110,116,45,76,101,110,103,116,104]⟩,⟨#[57,57,57,57,57,57,57,57,57,57,57,57,57,57,57,57,57,57,57,57]⟩),(⟨#[88]⟩,⟨#[121]⟩),(⟨#[84,114,97,110,115,102,101,114,45,69,110,99,111,100,105,110,103]⟩,⟨#[99,104,117,110,107,101,100,44,32,99,104,117,110,107,101,100]⟩)]
theorem qints_at (k:Nat) (hk:k<9):∃c:Int,∀w:World,(w.alloc (.cells #[.int .i64 6,.int .i64 17,.int .i64 18,.int .i64 20,.int .i64 21,.int .i64 22,.int .i64 27,.int .i64 28,.int .i64 29] 3)).cell? ⟨w.heap.size,k,none⟩=some (.int .i64 c):=by refine ⟨([6,17,18,20,21,22,27,28,29]:List Int)[k]'hk,fun w=>?_⟩;refine (cell_of_row (w.alloc _) w.heap.size k _ _ (0,0) (heap_alloc_new w _)).trans ?_;rcases (by omega:k=0∨k=1∨k=2∨k=3∨k=4∨k=5∨k=6∨k=7∨k=8) with rfl | rfl | rfl | rfl | rfl | rfl | rfl | rfl | rfl<;>rfl
section code
set_option maxHeartbeats 4000000
set_option maxRecDepth 10000
attribute [local go_sem] Base.some_undef
theorem quiet_any (k:Nat) (w:World):Calls Tryz.prog 8 #[.int .u8 k] w fun e w'=>∃P:Nat,e=.returned (.int .u32 (P:Nat))∧P<1073741824∧Below w.heap.size w w':=by
 have HC:=Lib.hid (fun r (hr:r<9)=>qints_at r hr)
 have HB:=Lib.hid (show Below w.heap.size w (w.alloc (.cells #[.int .i64 6,.int .i64 17,.int .i64 18,.int .i64 20,.int .i64 21,.int .i64 22,.int .i64 27,.int .i64 28,.int .i64 29] 3)) from (Below.refl _ _).alloc (Nat.le_refl _) _);have hgW:w.heap.size<(w.alloc (.cells #[.int .i64 6,.int .i64 17,.int .i64 18,.int .i64 20,.int .i64 21,.int .i64 22,.int .i64 27,.int .i64 28,.int .i64 29] 3)).heap.size:=by simp
 have HW:Hid (∀r,r<9→∃c:Int,(w.alloc (.cells #[.int .i64 6,.int .i64 17,.int .i64 18,.int .i64 20,.int .i64 21,.int .i64 22,.int .i64 27,.int .i64 28,.int .i64 29] 3)).cell? ⟨w.heap.size,r,none⟩=some (.int .i64 c)):=
  Lib.hid fun r hr=>by obtain ⟨c,h⟩:=HC.out r hr;exact ⟨c,h w⟩
 clear HC;go_enter Tryz.func8,Tryz.ntmps8;go_wp2;generalize w.alloc (.cells #[.int .i64 6,.int .i64 17,.int .i64 18,.int .i64 20,.int .i64 21,.int .i64 22,.int .i64 27,.int .i64 28,.int .i64 29] 3)=W at *;generalize hgw:w.heap.size=g at *;have HGW:=Lib.hid hgw;clear hgw
 go_loopw [4,5] (fun v i wr=>∃(j:Nat) (P:Nat),j≤9∧i=.int .i64 j∧v=.int .u32 (P:Nat)∧P<1073741824∧Hid (Below W.heap.size W wr)) (fun _ i _=>9-(intOf i).toNat)
 case atStart=>exact ⟨0,0,Nat.zero_le _,rfl,rfl,by decide,Lib.hid (Below.refl _ _)⟩
 case round=>
  obtain ⟨j,P,hj,rfl,rfl,hP,hbr⟩:=hrel;rcases Nat.lt_or_ge j 9 with hlt | hge
  ·have t1:(j:Int)<9:=by omega
   have him:Int.tmod (j:Int) 8=((j%8:Nat):Int):=by rw [Int.tmod_eq_emod_of_nonneg (by omega)];omega
   obtain ⟨c,hc⟩:=HW.out j hlt;have hcj:=(hbr.out.cell (p:=⟨g,j,none⟩) hgW).trans hc
   have HO:=Lib.hid (fun w b (hi:Ints w b 1 [c])=>Qk.rof_any b 1 1 [c] w hi (by decide));have hq:=Qk.ofL_lt [c];generalize Qk.ofL [c]=Q at *;have hPQ:P ||| Q<1073741824:=Nat.or_lt_two_pow (n:=30) hP hq
   have N2:bits .or .u32 (P:Int) (Q:Int)=((P ||| Q:Nat):Int):=u32_or_nat P Q (by omega) (by omega)
   have hj8:j%8<8:=Nat.mod_lt _ (by decide);obtain ⟨r,hr⟩:∃r,j%8=r:=⟨_,rfl⟩;rw [hr] at him hj8;clear hr hc
   go_wp2_with (go_at_call 25;(with_reducible refine (HO.out _ _ (Ints.one _ _ rfl _ _)).mono ?_);rintro e w8 ⟨rfl,hw⟩;rw [hw];clear hw);all_goals
    go_roundw
    case rel=>first | exact ⟨j+1,P ||| Q,by omega,by go_num,rfl,hPQ,Lib.hid (hbr.out.alloc hbr.out.size _)⟩ | exact ⟨j+1,P,by omega,by go_num,rfl,hP,hbr⟩
    case measure=>simp [intOf];omega
  ·obtain rfl:j=9:=by omega
   have H3:Hid (Below w.heap.size w wr):=Lib.hid (Base.below_step (a:=w) (by rw [HGW.out];exact HB.out) hbr.out);go_wp2_with fail;go_ret;exact ⟨P,rfl,hP,H3.out⟩
end code
end Go.Proofs.YtimoakmcelocfaaGreat.Frm
namespace Go.Proofs.YtimoakmcelocfaaGreat.An
open Go.RowKit Base Txt Mem Par Pg Each Flt DF
section
variable {p:Nat} {b:Bd}
end
def OneA (M:List (Option Nat)) (ad:Option Addr) (cc:Nat):Fact:=fun v w=>∃k,v=.slice (some ⟨k,0,none⟩) 1 1∧k<w.heap.size∧some k∉M∧w.cell? ⟨k,0,none⟩=some (.slice ad 1 cc)
section
variable {w w':World} {B g p:Nat} {b:Bd} {L1 L2:List (Option Nat)} {ch:UInt8} {ad:Option Addr} {cc:Nat}
structure Rd3 (w:World) (a:Option Addr) (n c:Nat):Prop where
 le:n≤c∧n≤3000
 rd:0<n→∃yb yo l,a=some ⟨yb,yo,none⟩∧l.length=n∧Bts [] w a l
theorem seat_bd (k:Nat):∃b:Bd,Seat.seatB k=bdV b∧b.right=true:=by
 refine ⟨⟨if k%6=1 then 64 else if k%6=3 then 80 else 1024,if k%6=1 then 4 else 32,if k%6=1 then 256 else 8192,if k%6=2 then 16 else if k%6=3 then 40 else 65536,if k%6=2 then 0 else 32,if k%6=2 then 0 else 8,((k/32%4:Nat)+1:Int),20,!decide (k%8=7),!decide (12<k%16)⟩,rfl,?_⟩
 have h:k/32%4<4:=Nat.mod_lt _ (by decide);generalize k/32%4=z at *;unfold Bd.right Bnd.right Bnd.inside;simp only [Bool.and_eq_true,decide_eq_true_eq];by_cases h1:k%6=1
 ·simp only [h1];simp;omega
 ·by_cases h2:k%6=2
  ·simp only [h2];simp;omega
  ·by_cases h3:k%6=3
   ·simp only [h3];simp;omega
   ·simp only [if_neg h1,if_neg h2,if_neg h3];omega
structure BX (w0 w:World) (B g1 g2 p:Nat) (b:Bd) (x y:Q) (L1 L2:List (Option Nat)):Prop where
 hx:DHas B g1 0 b x w L1
 hy:DHas B g2 p b y w L2
 dis:Dis L1 L2
 both:Both b x y
 xo:x.out= []
 yo:y.out= []
 bel:Below B w0 w
end
section code
set_option maxHeartbeats 8000000
set_option maxRecDepth 20000
attribute [local go_sem] Base.some_undef
end code
end Go.Proofs.YtimoakmcelocfaaGreat.An
namespace Go.Proofs.YtimoakmcelocfaaGreat.Help
open Go.RowKit Base
section code
set_option maxHeartbeats 1000000
theorem ints_any (a:Option Addr) (n cap:Nat) (xs:List Int) (b:Option Addr) (m cap2:Nat) (ys:List Int) (w:World) (hx:Ints w a n xs) (hy:Ints w b m ys) (hn:n≤maxLen) :
 Calls Tryz.prog 12 #[.slice a n cap,.slice b m cap2] w fun e w'=>e=.returned (.bool (decide (xs=ys)))∧∃q,w'=w.drewN q:=by
 have HX:=Lib.hid hx;have HY:=Lib.hid hy;have HLX:=Lib.hid hx.1;have HLY:=Lib.hid hy.1;clear hx hy;unfold maxLen at hn;by_cases hl:n=m
 ·subst hl;go_enter Tryz.func12,Tryz.ntmps12;go_wp2
  go_loopw [5] (fun i wr=>∃k q:Nat,k≤n∧i=.int .i64 k∧wr=w.drewN q∧Hid (xs.take k=ys.take k)) (fun i _=>n-(intOf i).toNat)
  case atStart=>exact ⟨0,0,Nat.zero_le _,rfl,rfl,Lib.hid rfl⟩
  case round=>
   obtain ⟨k,q,hk,rfl,rfl,hsm⟩:=hrel;rcases Nat.lt_or_ge k n with hlt | hge
   ·obtain ⟨b1,o1,rfl,_,hc⟩:=HX.out.2 (by omega);have hc0:=hc k hlt;clear hc
    obtain ⟨b2,o2,rfl,_,hd⟩:=HY.out.2 (by omega);have hd0:=hd k hlt;clear hd;have i1:(k:Int)<(n:Int):=by omega
    by_cases he:xs[k]?.getD 0=ys[k]?.getD 0
    ·have hT:=Lib.hid (Ls.take_eq_snoc 0 xs ys k (by rw [HLX.out];exact hlt) (by rw [HLY.out];exact hlt) hsm.out he);rw [he] at hc0;clear he;generalize (ys[k]?.getD 0)=y at *;go_wp2_with fail
     go_quiet (fail);rename_i nq;go_wp2;go_roundw
     case rel=>first | exact ⟨k+1,q+nq,by omega,by go_num,(World.drewN_drewN _ _ _).symm ▸ rfl,hT⟩ | exact ⟨k+1,q+nq,by omega,by go_num,by rw [World.drewN_drewN],hT⟩ | exact ⟨k+1,q+nq,by omega,by go_num,rfl,hT⟩
     case measure=>simp [intOf];omega
    ·have hF:=Lib.hid (Ls.ne_of_at 0 xs ys k he);generalize (xs[k]?.getD 0)=x at *;generalize (ys[k]?.getD 0)=y at *;go_wp2_with fail
     go_quiet (fail);rename_i nq;go_wp2;go_ret;refine ⟨by rw [decide_eq_false hF.out];rfl,q+nq,?_⟩;first | rfl | rw [World.drewN_drewN]
   ·obtain rfl:k=n:=by omega
    go_wp2;go_ret;have e:=hsm.out;rw [List.take_of_length_le (by rw [HLX.out];exact Nat.le_refl _),List.take_of_length_le (by rw [HLY.out];exact Nat.le_refl _)] at e;refine ⟨by rw [decide_eq_true e];rfl,q,rfl⟩
 ·have hne:xs≠ys:=fun h=>hl (by rw [←HLX.out,←HLY.out,h]);have hl':¬(n:Int)=(m:Int):=by omega
  have HN:=Lib.hid hne;clear hne;go_enter Tryz.func12,Tryz.ntmps12;go_wp2;go_ret;exact ⟨by rw [decide_eq_false HN.out];rfl,0,rfl⟩
end code
end Go.Proofs.YtimoakmcelocfaaGreat.Help
namespace Go.Proofs.YtimoakmcelocfaaGreat.An
open Go.RowKit Base Txt Mem Par Pg
theorem wit_le:∀(c:Fin 30) (ch ti:Bool),(Wit.W c.val ch ti).size≤1000:=by decide +kernel
section code
set_option maxHeartbeats 8000000
set_option maxRecDepth 20000
attribute [local go_sem] Base.some_undef
abbrev cB (b:Bd):List Value:= [.int .i64 b.x0,.int .i64 b.x1,.int .i64 b.x2,.int .i64 b.x3,.int .i64 b.x4,.int .i64 b.x5,.int .i64 b.x6,.int .i64 b.x7,.bool b.ch,.bool b.od]
theorem three_at {w:World} {g:Nat} {bs:List Bd} {xs:List Value} (h:Rec.Bk w g xs) (e:xs=bs.flatMap cB) (j:Nat) (hj:j<bs.length) (m:Nat) (x:Value) (hx:(cB bs[j])[m]?=some x):w.cell? ⟨g,j*10+m,none⟩=some x:=by
 refine h.c _ _ ?_;rw [e];clear h e
 induction bs generalizing j with
 | nil=>exact absurd hj (by simp)
 | cons b bs ih=>
   have hm:m<10:=(List.getElem?_eq_some_iff.1 hx).1;cases j with
   | zero=>
     rw [Nat.zero_mul,Nat.zero_add,List.flatMap_cons,List.getElem?_append_left (show m<(cB b).length from hm)];exact hx
   | succ j=>
     rw [List.flatMap_cons,List.getElem?_append_right (show (cB b).length≤(j+1)*10+m from by show 10≤_;omega)];have e:(j+1)*10+m-(cB b).length=j*10+m:=by show (j+1)*10+m-10= _;omega
     rw [e];exact ih j (by simpa using hj) hx
theorem decide_dc (p:Nat) (hp:p<4294967296) (b:Bd) (w:World):Calls Tryz.prog 11 #[.int .u32 (p:Int),.agg #[.int .i64 b.x0,.int .i64 b.x1,.int .i64 b.x2,.int .i64 b.x3,.int .i64 b.x4,.int .i64 b.x5,.int .i64 b.x6,.int .i64 b.x7,.bool b.ch,.bool b.od]] w fun e w'=>
 ∃(sa:Option Addr) (sn sc:Nat),e=.returned (.tuple #[.agg #[.int .i64 (kindA p b),.int .i64 (clA p b),.slice sa sn sc],.int .i64 (errA p b)])∧Shown w w' p b (.slice sa sn sc)∧Below w.heap.size w w':=
 (decide_any p hp b w).mono (by
   rintro e w' ⟨v,rfl,h1,h2⟩;have:∃(sa:Option Addr) (sn sc:Nat),v=.slice sa sn sc:=by
    unfold Shown at h1;split at h1
    ·exact ⟨_,_,_,h1⟩
    ·obtain ⟨g,c,e, -⟩:=h1.v;exact ⟨_,_,_,e⟩
   obtain ⟨sa,sn,sc,rfl⟩:=this;exact ⟨sa,sn,sc,rfl,h1,h2⟩)
theorem analyseDecides_any (a k:Nat) (rb:Bd) (w:World) (ha:a<4294967296) (hk:k<256) :
 Calls Tryz.prog 3 #[.int .u32 (a:Int),.int .u8 (k:Int),.agg #[.int .i64 rb.x0,.int .i64 rb.x1,.int .i64 rb.x2,.int .i64 rb.x3,.int .i64 rb.x4,.int .i64 rb.x5,.int .i64 rb.x6,.int .i64 rb.x7,.bool rb.ch,.bool rb.od]] w fun e w'=>e=.returned (.bool true)∧Below w.heap.size w w':=by
 obtain ⟨m1,hm1⟩:∃m,k*37%256=m:=⟨_,rfl⟩;obtain ⟨m2,hm2⟩:∃m,(m1+5)%256=m:=⟨_,rfl⟩
 have HM1:=Lib.hid (show ((k:Int)*37)%256=(m1:Int) by omega)
 have HM2:=Lib.hid (show ((m1:Int)+5)%256=(m2:Int) by omega);obtain ⟨b1,hb1, -⟩:=seat_bd k;obtain ⟨b2,hb2, -⟩:=seat_bd m2
 have HB1:=Lib.hid (fun w=>Seat.bounds_any k hk w)
 have HB2:=Lib.hid (fun w=>Seat.bounds_any m2 (by omega) w);rw [hb1] at HB1;rw [hb2] at HB2
 have HPF:=Lib.hid (fun w=>Seat.profile_any a k ha hk w);obtain ⟨P1,hP1⟩:∃P,Seat.seatP a k=P:=⟨_,rfl⟩
 have HP1:=Lib.hid (show P1<4294967296 by have:=Seat.seatP_lt a k;omega);rw [hP1] at HPF
 have HKN:=Lib.hid (fun w=>known_any w);have HAA:=Lib.hid ha;clear hP1 hb1 hb2 hm1 hm2 ha hk;go_enter Tryz.func3,Tryz.ntmps3;go_upto_region 1 with fail
 have HZ0:=Lib.hid (Rec.Bk.new w w.heap.size rfl 24 [.int .i64 rb.x0,.int .i64 rb.x1,.int .i64 rb.x2,.int .i64 rb.x3,.int .i64 rb.x4,.int .i64 rb.x5,.int .i64 rb.x6,.int .i64 rb.x7,.bool rb.ch,.bool rb.od])
 have HBX:=Lib.hid (((Below.refl _ _).alloc (Nat.le_refl _) (.cells #[.int .i64 rb.x0,.int .i64 rb.x1,.int .i64 rb.x2,.int .i64 rb.x3,.int .i64 rb.x4,.int .i64 rb.x5,.int .i64 rb.x6,.int .i64 rb.x7,.bool rb.ch,.bool rb.od] 24)):Below w.heap.size w _);generalize w.alloc (.cells #[.int .i64 rb.x0,.int .i64 rb.x1,.int .i64 rb.x2,.int .i64 rb.x3,.int .i64 rb.x4,.int .i64 rb.x5,.int .i64 rb.x6,.int .i64 rb.x7,.bool rb.ch,.bool rb.od] 24)=WX at *;generalize hg5:w.heap.size=g5 at *;have HG5:=Lib.hid hg5;clear hg5
 go_upto_region 3 with (go_at_call 6;with_reducible refine (HKN.out _).mono ?_;rintro e w1 ⟨rfl,hb⟩;have HBY:=Lib.hid (bstep HG5.out HBX.out hb);have HZ1:=Lib.hid (HZ0.out.below hb);clear hb)
 go_wp2_with (first
  |(go_at_call 7;with_reducible refine (HPF.out _).mono ?_;rintro e w2 ⟨rfl,hb⟩;have HBP:=Lib.hid (bstep HG5.out HBY.out hb);have HZ2:=Lib.hid (HZ1.out.below hb);clear hb)
  |(go_at_call 8;with_reducible refine (Frm.quiet_any _ _).mono ?_;rintro e w3 ⟨P2,rfl,hp2,hb⟩;have HBQ:=Lib.hid (bstep HG5.out HBP.out hb);have HZ3:=Lib.hid (HZ2.out.below hb);have HP2:=Lib.hid hp2;clear hb hp2))
 have HPB:=Lib.hid (Rec.Bk.new w3 w3.heap.size rfl 26 [.int .u32 (P1:Int),.int .u32 (P2:Int),.int .u32 (a:Int)])
 have HAL:Hid (Below w3.heap.size w3 (w3.alloc (.cells #[.int .u32 (P1:Int),.int .u32 (P2:Int),.int .u32 (a:Int)] 26))):=Lib.hid ((Below.refl _ _).alloc (Nat.le_refl _) _)
 have HZL:=Lib.hid (HZ3.out.below HAL.out)
 have HBL:=Lib.hid (bstep HG5.out HBQ.out HAL.out);generalize w3.alloc (.cells #[.int .u32 (P1:Int),.int .u32 (P2:Int),.int .u32 (a:Int)] 26)=WL at *;generalize w3.heap.size=gP at *;have HPS:Hid (∀j,j<3→∃p:Nat,p<4294967296∧WL.cell? ⟨gP,j,none⟩=some (.int .u32 (p:Int))):=Lib.hid fun j hj=>by
  rcases (by omega:j=0∨j=1∨j=2) with rfl | rfl | rfl
  ·exact ⟨P1,HP1.out,HPB.out.c 0 _ rfl⟩
  ·exact ⟨P2,by have:=HP2.out;omega,HPB.out.c 1 _ rfl⟩
  ·exact ⟨a,HAA.out,HPB.out.c 2 _ rfl⟩
 have HLT:=Lib.hid HPB.out.lt;clear HPB HAL HZ3 HZ2 HZ1 HZ0 HBQ HBP HBY HBX HKN HPF HP1 HP2 HAA
 go_loopw [24] (fun i wr=>∃j:Nat,j≤3∧i=.int .i64 j∧Hid (Below WL.heap.size WL wr)) (fun i _=>3-(intOf i).toNat)
 case atStart=>exact ⟨0,Nat.zero_le _,rfl,Lib.hid (Below.refl _ _)⟩
 case round=>
  obtain ⟨j,hj,rfl,HBJ⟩:=hrel;obtain ⟨W0,hW0⟩:∃x,x=wr:=⟨_,rfl⟩;subst hW0;rcases Nat.lt_or_ge j 3 with hjl | hjg
  rotate_left
  ·obtain rfl:j=3:=by omega
   go_wp2_with fail;go_ret;exact ⟨rfl,bstep rfl (show Below w.heap.size w WL from by rw [HG5.out];exact HBL.out) HBJ.out⟩
  have tj:(j:Int)<3:=by omega
  obtain ⟨p,hp,hcell⟩:=HPS.out j hjl;have hcy:=(HBJ.out.cell (p:=⟨gP,j,none⟩) HLT.out).trans hcell
  have HZW:=Lib.hid (HZL.out.below HBJ.out);have HJ:=Lib.hid hjl;have HPP:=Lib.hid hp;clear hcell hjl hp;go_upto_region 6 with fail
  clear hcy tj
  go_cut [35,36,37] from 28 to 34 (fun u v z wx=>∃gB,u=.slice (some ⟨gB,0,none⟩) 3 3∧v=.int .i64 3∧z=.int .i64 0∧Hid (Rec.Bk wx gB [.int .i64 b1.x0,.int .i64 b1.x1,.int .i64 b1.x2,.int .i64 b1.x3,.int .i64 b1.x4,.int .i64 b1.x5,.int .i64 b1.x6,.int .i64 b1.x7,.bool b1.ch,.bool b1.od,.int .i64 b2.x0,.int .i64 b2.x1,.int .i64 b2.x2,.int .i64 b2.x3,.int .i64 b2.x4,.int .i64 b2.x5,.int .i64 b2.x6,.int .i64 b2.x7,.bool b2.ch,.bool b2.od,.int .i64 rb.x0,.int .i64 rb.x1,.int .i64 rb.x2,.int .i64 rb.x3,.int .i64 rb.x4,.int .i64 rb.x5,.int .i64 rb.x6,.int .i64 rb.x7,.bool rb.ch,.bool rb.od]∧Below W0.heap.size W0 wx))
  case first=>
   have HZ5:=Lib.hid (HZW.out.below (Base.below_drewN (Below.refl W0.heap.size W0) 1));refine Each.region_all 10 [28,29,30,31,32,33,34,35,36,37]
    [Each.is (.int .u8 (k:Int)),
      Each.is (.agg #[.int .i64 b1.x0,.int .i64 b1.x1,.int .i64 b1.x2,.int .i64 b1.x3,.int .i64 b1.x4,.int .i64 b1.x5,.int .i64 b1.x6,.int .i64 b1.x7,.bool b1.ch,.bool b1.od]),
      Each.is (.int .u8 (k:Int)),
      Each.is (.int .u8 (m1:Int)),
      Each.is (.int .u8 (m2:Int)),
      Each.is (.agg #[.int .i64 b2.x0,.int .i64 b2.x1,.int .i64 b2.x2,.int .i64 b2.x3,.int .i64 b2.x4,.int .i64 b2.x5,.int .i64 b2.x6,.int .i64 b2.x7,.bool b2.ch,.bool b2.od]),
      Each.is (.agg #[.int .i64 rb.x0,.int .i64 rb.x1,.int .i64 rb.x2,.int .i64 rb.x3,.int .i64 rb.x4,.int .i64 rb.x5,.int .i64 rb.x6,.int .i64 rb.x7,.bool rb.ch,.bool rb.od]),
      fun v w=>∃g,v=.slice (some ⟨g,0,none⟩) 3 3∧Rec.Bk w g [.int .i64 b1.x0,.int .i64 b1.x1,.int .i64 b1.x2,.int .i64 b1.x3,.int .i64 b1.x4,.int .i64 b1.x5,.int .i64 b1.x6,.int .i64 b1.x7,.bool b1.ch,.bool b1.od,.int .i64 b2.x0,.int .i64 b2.x1,.int .i64 b2.x2,.int .i64 b2.x3,.int .i64 b2.x4,.int .i64 b2.x5,.int .i64 b2.x6,.int .i64 b2.x7,.bool b2.ch,.bool b2.od,.int .i64 rb.x0,.int .i64 rb.x1,.int .i64 rb.x2,.int .i64 rb.x3,.int .i64 rb.x4,.int .i64 rb.x5,.int .i64 rb.x6,.int .i64 rb.x7,.bool rb.ch,.bool rb.od],
      Each.is (.int .i64 3),
      Each.is ((Value.int IntKind.i64 0))]
     (by kernel_rfl) (by kernel_rfl) (by kernel_rfl) (by kernel_rfl) (fun _ _ d _ _ h=>by cases d<;>exact h) (by rfl) (by rfl)
    ⟨Each.Lasts.eq _,Each.Lasts.eq _,Each.Lasts.eq _,Each.Lasts.eq _,Each.Lasts.eq _,Each.Lasts.eq _,Each.Lasts.eq _,(fun _ _ _ hb h=>by obtain ⟨g,e,h1⟩:=h;exact ⟨g,e,h1.below hb⟩),Each.Lasts.eq _,Each.Lasts.eq _,trivial⟩ ?_ ?_
   ·refine ⟨?_,?_,?_,?_,?_,?_,?_,?_,?_,?_,trivial⟩
    ·refine Each.fine rfl (fun ev w1 hR hb hh=>?_);clear hh;have e1:=hR.old 1 rfl;simp only [qA,qT,qS,qZ,qO] at e1;refine Each.Goes.same ?_;go_simp;try with_reducible rfl
    ·refine Each.fine rfl (fun ev w1 hR hb hh=>?_);have e28:(ev (.tmp 28)=.int .u8 (k:Int)):=hh.at 0;clear hh;have ef:=hR.func
     refine Each.Goes.enter 9 #[.int .u8 (k:Int)] (by go_simp) ((HB1.out w1).mono ?_);rintro r w2 ⟨rfl,hb2⟩;exact ⟨_,rfl,hb2,rfl⟩
    ·refine Each.fine rfl (fun ev w1 hR hb hh=>?_);clear hh;have e1:=hR.old 1 rfl;simp only [qA,qT,qS,qZ,qO] at e1;refine Each.Goes.same ?_;go_simp;try with_reducible rfl
    ·refine Each.fine rfl (fun ev w1 hR hb hh=>?_);have e30:(ev (.tmp 30)=.int .u8 (k:Int)):=hh.at 0;clear hh;have ec:=hR.const;refine Each.Goes.same ?_;go_simp
     first | done | exact HM1.out |(rw [HM1.out])
    ·refine Each.fine rfl (fun ev w1 hR hb hh=>?_);have e31:(ev (.tmp 31)=.int .u8 (m1:Int)):=hh.at 0;clear hh;have ec:=hR.const;refine Each.Goes.same ?_;go_simp
     first | done | exact HM2.out |(rw [HM2.out])
    ·refine Each.fine rfl (fun ev w1 hR hb hh=>?_);have e32:(ev (.tmp 32)=.int .u8 (m2:Int)):=hh.at 0;clear hh;have ef:=hR.func
     refine Each.Goes.enter 9 #[.int .u8 (m2:Int)] (by go_simp) ((HB2.out w1).mono ?_);rintro r w2 ⟨rfl,hb2⟩;exact ⟨_,rfl,hb2,rfl⟩
    ·refine Each.fine rfl (fun ev w1 hR hb hh=>?_);clear hh;have e5:=hR.old 5 rfl;simp only [qA,qT,qS,qZ,qO] at e5;have q0:=(HZ5.out.below hb).c 0 _ rfl;have q1:=(HZ5.out.below hb).c 1 _ rfl;have q2:=(HZ5.out.below hb).c 2 _ rfl;have q3:=(HZ5.out.below hb).c 3 _ rfl;have q4:=(HZ5.out.below hb).c 4 _ rfl;have q5:=(HZ5.out.below hb).c 5 _ rfl;have q6:=(HZ5.out.below hb).c 6 _ rfl;have q7:=(HZ5.out.below hb).c 7 _ rfl;have q8:=(HZ5.out.below hb).c 8 _ rfl;have q9:=(HZ5.out.below hb).c 9 _ rfl;refine Each.Goes.same ?_;go_simp;try with_reducible rfl
    ·refine Each.fine rfl (fun ev w1 hR hb hh=>?_);have e29:(ev (.tmp 29)=.agg #[.int .i64 b1.x0,.int .i64 b1.x1,.int .i64 b1.x2,.int .i64 b1.x3,.int .i64 b1.x4,.int .i64 b1.x5,.int .i64 b1.x6,.int .i64 b1.x7,.bool b1.ch,.bool b1.od]):=hh.at 0;have e33:(ev (.tmp 33)=.agg #[.int .i64 b2.x0,.int .i64 b2.x1,.int .i64 b2.x2,.int .i64 b2.x3,.int .i64 b2.x4,.int .i64 b2.x5,.int .i64 b2.x6,.int .i64 b2.x7,.bool b2.ch,.bool b2.od]):=hh.at 1;have e34:(ev (.tmp 34)=.agg #[.int .i64 rb.x0,.int .i64 rb.x1,.int .i64 rb.x2,.int .i64 rb.x3,.int .i64 rb.x4,.int .i64 rb.x5,.int .i64 rb.x6,.int .i64 rb.x7,.bool rb.ch,.bool rb.od]):=hh.at 2;clear hh;exact Each.Goes.value (.slice (some ⟨w1.heap.size,0,none⟩) 3 3) (w1.alloc (.cells #[.int .i64 b1.x0,.int .i64 b1.x1,.int .i64 b1.x2,.int .i64 b1.x3,.int .i64 b1.x4,.int .i64 b1.x5,.int .i64 b1.x6,.int .i64 b1.x7,.bool b1.ch,.bool b1.od,.int .i64 b2.x0,.int .i64 b2.x1,.int .i64 b2.x2,.int .i64 b2.x3,.int .i64 b2.x4,.int .i64 b2.x5,.int .i64 b2.x6,.int .i64 b2.x7,.bool b2.ch,.bool b2.od,.int .i64 rb.x0,.int .i64 rb.x1,.int .i64 rb.x2,.int .i64 rb.x3,.int .i64 rb.x4,.int .i64 rb.x5,.int .i64 rb.x6,.int .i64 rb.x7,.bool rb.ch,.bool rb.od] 24)) (by go_simp) ((Below.refl _ _).alloc (Nat.le_refl _) _) ⟨_,rfl,Rec.Bk.new w1 _ rfl _ _⟩
    ·refine Each.fine rfl (fun ev w1 hR hb hh=>?_);have e35:((fun v w=>∃g,v=.slice (some ⟨g,0,none⟩) 3 3∧Rec.Bk w g [.int .i64 b1.x0,.int .i64 b1.x1,.int .i64 b1.x2,.int .i64 b1.x3,.int .i64 b1.x4,.int .i64 b1.x5,.int .i64 b1.x6,.int .i64 b1.x7,.bool b1.ch,.bool b1.od,.int .i64 b2.x0,.int .i64 b2.x1,.int .i64 b2.x2,.int .i64 b2.x3,.int .i64 b2.x4,.int .i64 b2.x5,.int .i64 b2.x6,.int .i64 b2.x7,.bool b2.ch,.bool b2.od,.int .i64 rb.x0,.int .i64 rb.x1,.int .i64 rb.x2,.int .i64 rb.x3,.int .i64 rb.x4,.int .i64 rb.x5,.int .i64 rb.x6,.int .i64 rb.x7,.bool rb.ch,.bool rb.od]) (ev (.tmp 35)) w1):=hh.at 0;clear hh;obtain ⟨gq,e35, -⟩:=e35;refine Each.Goes.same ?_;go_simp;try with_reducible rfl
    ·refine Each.fine rfl (fun ev w1 hR hb hh=>?_);clear hh;have ec:=hR.const;refine Each.Goes.same ?_;go_simp;try with_reducible rfl
   intro ga w4 hb4 hf;have z35:(fun v w=>∃g,v=.slice (some ⟨g,0,none⟩) 3 3∧Rec.Bk w g [.int .i64 b1.x0,.int .i64 b1.x1,.int .i64 b1.x2,.int .i64 b1.x3,.int .i64 b1.x4,.int .i64 b1.x5,.int .i64 b1.x6,.int .i64 b1.x7,.bool b1.ch,.bool b1.od,.int .i64 b2.x0,.int .i64 b2.x1,.int .i64 b2.x2,.int .i64 b2.x3,.int .i64 b2.x4,.int .i64 b2.x5,.int .i64 b2.x6,.int .i64 b2.x7,.bool b2.ch,.bool b2.od,.int .i64 rb.x0,.int .i64 rb.x1,.int .i64 rb.x2,.int .i64 rb.x3,.int .i64 rb.x4,.int .i64 rb.x5,.int .i64 rb.x6,.int .i64 rb.x7,.bool rb.ch,.bool rb.od]) (ga 35) w4:=hf.at 7;have z36:ga 36=.int .i64 3:=hf.at 8;have z37:ga 37=.int .i64 0:=hf.at 9;clear hf;obtain ⟨gB,z35,hbk⟩:=z35
   have HK4:=Lib.hid (And.intro hbk hb4);clear hbk hb4;simp only [Each.putg,Act.put,qI,qY,qX];go_wp2_with fail;go_meet
   case rel=>exact ⟨gB,z35,z36,z37,HK4⟩
  case rest=>
   obtain ⟨gB,rfl,rfl,rfl,hcc⟩:=hcut
   have HBB:=Lib.hid hcc.out.1;have HB0:=Lib.hid (Base.below_step HBJ.out hcc.out.2);obtain ⟨WC,hWC⟩:∃x,x=wc:=⟨_,rfl⟩;subst hWC;have HBS:Hid (∀j2,j2<3→∃b:Bd,∀(m:Nat) (x:Value),(cB b)[m]?=some x→WC.cell? ⟨gB,j2*10+m,none⟩=some x):=Lib.hid fun j2 hj2=>⟨_,fun m x hx=>three_at (bs:= [b1,b2,rb]) HBB.out rfl j2 hj2 m x hx⟩;have HLB:=Lib.hid HBB.out.lt;clear hcc HBB HZW HB1 HB2 HM1 HM2;go_wp2_with fail
   go_loopw [37] (fun i wr=>∃j2:Nat,j2≤3∧i=.int .i64 j2∧Hid (Below WC.heap.size WC wr)) (fun i _=>3-(intOf i).toNat)
   case atStart=>exact ⟨0,Nat.zero_le _,rfl,Lib.hid (Below.refl _ _)⟩
   case round=>
    obtain ⟨j2,hj2,rfl,HBJ2⟩:=hrel;obtain ⟨W1,hW1⟩:∃x,x=wr:=⟨_,rfl⟩;subst hW1;rcases Nat.lt_or_ge j2 3 with hjl | hjg
    rotate_left
    ·obtain rfl:j2=3:=by omega
     go_wp2_with fail;go_roundw
     case rel=>exact ⟨j+1,HJ.out,by go_num,Lib.hid (Base.below_step HB0.out HBJ2.out)⟩
     case measure=>have:=HJ.out;simp [intOf];omega
    have tj:(j2:Int)<3:=by omega
    obtain ⟨b,hcell⟩:=HBS.out j2 hjl
    have hcm:∀(m:Nat) (x:Value),(cB b)[m]?=some x→W1.cell? ⟨gB,j2*10+m,none⟩=some x:=fun m x hx=>(HBJ2.out.cell (p:=⟨gB,j2*10+m,none⟩) HLB.out).trans (hcell m x hx);have q0:=hcm 0 _ rfl;have q1:=hcm 1 _ rfl;have q2:=hcm 2 _ rfl;have q3:=hcm 3 _ rfl;have q4:=hcm 4 _ rfl;have q5:=hcm 5 _ rfl;have q6:=hcm 6 _ rfl;have q7:=hcm 7 _ rfl;have q8:=hcm 8 _ rfl;have q9:=hcm 9 _ rfl;rw [Nat.add_zero] at q0;have HJ2:=Lib.hid hjl;clear hcell hcm hjl;go_upto_region 9 with fail
    clear q0 q1 q2 q3 q4 q5 q6 q7 q8 q9 tj
    have HZD0:=Lib.hid (Rec.Bk.new W1 W1.heap.size rfl 24 [.int .i64 b.x0,.int .i64 b.x1,.int .i64 b.x2,.int .i64 b.x3,.int .i64 b.x4,.int .i64 b.x5,.int .i64 b.x6,.int .i64 b.x7,.bool b.ch,.bool b.od])
    have HBD:=Lib.hid (((Below.refl _ _).alloc (Nat.le_refl _) (.cells #[.int .i64 b.x0,.int .i64 b.x1,.int .i64 b.x2,.int .i64 b.x3,.int .i64 b.x4,.int .i64 b.x5,.int .i64 b.x6,.int .i64 b.x7,.bool b.ch,.bool b.od] 24)):Below W1.heap.size W1 _);generalize W1.alloc (.cells #[.int .i64 b.x0,.int .i64 b.x1,.int .i64 b.x2,.int .i64 b.x3,.int .i64 b.x4,.int .i64 b.x5,.int .i64 b.x6,.int .i64 b.x7,.bool b.ch,.bool b.od] 24)=WD at *
    have HB1:=Lib.hid (Base.below_step HBJ2.out HBD.out);generalize W1.heap.size=gD at *;obtain ⟨n,hn⟩:∃n,(effL p b).length=n:=⟨_,rfl⟩;have HNL:=Lib.hid hn
    have HN30:=Lib.hid (show n≤30 from hn ▸ effL_le p b)
    have HRE:=Lib.hid (fun w=>show Calls Tryz.prog 10 #[.int .u32 (p:Int),.agg #[.int .i64 b.x0,.int .i64 b.x1,.int .i64 b.x2,.int .i64 b.x3,.int .i64 b.x4,.int .i64 b.x5,.int .i64 b.x6,.int .i64 b.x7,.bool b.ch,.bool b.od]] w fun e w'=>∃(A:Option Addr) (c:Nat),e=.returned (.slice A n c)∧Ints w' A n (effL p b)∧Below w.heap.size w w' from by have:=reff_any p HPP.out b w;rw [hn] at this;exact this)
    have HEF:=Lib.hid (fun w=>show Calls Tryz.prog 13 #[.int .u32 (p:Int),.agg #[.int .i64 b.x0,.int .i64 b.x1,.int .i64 b.x2,.int .i64 b.x3,.int .i64 b.x4,.int .i64 b.x5,.int .i64 b.x6,.int .i64 b.x7,.bool b.ch,.bool b.od]] w fun e w'=>∃(A:Option Addr) (c:Nat),e=.returned (.slice A n c)∧Ints w' A n (effL p b)∧Below w.heap.size w w' from by have:=eff_any p HPP.out b w;rw [hn] at this;exact this);obtain ⟨CO,hCO⟩:∃CO:Nat,Qk.ofL (effL p b)=CO:=⟨_,rfl⟩
    have HC1:=Lib.hid (fun w=>core_any p HPP.out b w);have HC2:=Lib.hid (fun w=>rcore_any p HPP.out b w);rw [hCO] at HC1 HC2
    have HDC:=Lib.hid (fun w=>decide_dc p HPP.out b w);obtain ⟨K,hK⟩:∃K,kindA p b=K:=⟨_,rfl⟩;obtain ⟨C,hC⟩:∃C,clA p b=C:=⟨_,rfl⟩;obtain ⟨E,hE⟩:∃E,errA p b=E:=⟨_,rfl⟩;rw [hK,hC,hE] at HDC;have HIN:Hid (∀(w1:World) (A:Option Addr) (c:Nat) (A0:Option Addr) (c0:Nat),Ints w1 A n (effL p b)→Ints w1 A0 n (effL p b)→Calls Tryz.prog 12 #[.slice A n c,.slice A0 n c0] w1 fun e w'=>e=.returned (.bool true)∧Below w1.heap.size w1 w'):=Lib.hid fun w1 A c A0 c0 h1 h2=>by
     have:=Help.ints_any A n c (effL p b) A0 n c0 (effL p b) w1 h1 h2 (by have:=HN30.out;unfold maxLen;omega);rw [decide_eq_true rfl] at this
     exact this.mono (by rintro e w' ⟨rfl,q,rfl⟩;exact ⟨rfl,Base.below_drewN (Below.refl _ _) q⟩)
    clear hCO hn;have y0:=HZD0.out.c 0 _ rfl;have y1:=HZD0.out.c 1 _ rfl;have y2:=HZD0.out.c 2 _ rfl;have y3:=HZD0.out.c 3 _ rfl;have y4:=HZD0.out.c 4 _ rfl;have y5:=HZD0.out.c 5 _ rfl;have y6:=HZD0.out.c 6 _ rfl;have y7:=HZD0.out.c 7 _ rfl;have y8:=HZD0.out.c 8 _ rfl;have y9:=HZD0.out.c 9 _ rfl
    go_upto_region 10 with (go_at_call 10;with_reducible refine (HRE.out _).mono ?_;rintro e w5 ⟨A0,c0,rfl,hi0,hb⟩;have HBE:=Lib.hid (Base.below_step HB1.out hb);have HZ5:=Lib.hid (HZD0.out.below hb);have HI5:=Lib.hid hi0;clear hb hi0)
    clear y0 y1 y2 y3 y4 y5 y6 y7 y8 y9;have y0:=HZ5.out.c 0 _ rfl;have y1:=HZ5.out.c 1 _ rfl;have y2:=HZ5.out.c 2 _ rfl;have y3:=HZ5.out.c 3 _ rfl;have y4:=HZ5.out.c 4 _ rfl;have y5:=HZ5.out.c 5 _ rfl;have y6:=HZ5.out.c 6 _ rfl;have y7:=HZ5.out.c 7 _ rfl;have y8:=HZ5.out.c 8 _ rfl;have y9:=HZ5.out.c 9 _ rfl
    go_upto_region 11 with (go_at_call 11;with_reducible refine (HDC.out _).mono ?_;rintro e w6 ⟨sa,sn,sc,rfl,hsh,hb⟩;have HBF:=Lib.hid (Base.below_step HBE.out hb);have HZ6:=Lib.hid (HZ5.out.below hb);have HI6:=Lib.hid (HI5.out.below hb);have HSH:=Lib.hid hsh;clear hb hsh)
    clear y0 y1 y2 y3 y4 y5 y6 y7 y8 y9 HRE HDC HI5 HZ5 HZD0
    have HA6:=Lib.hid (Rec.Bk.new w6 w6.heap.size rfl 36 [.int .i64 K,.int .i64 C,.slice sa sn sc])
    have HAL6:Hid (Below w6.heap.size w6 (w6.alloc (.cells #[.int .i64 K,.int .i64 C,.slice sa sn sc] 36))):=Lib.hid ((Below.refl _ _).alloc (Nat.le_refl _) _)
    have HBG:=Lib.hid (Base.below_step HBF.out HAL6.out)
    have HZ7:=Lib.hid (HZ6.out.below HAL6.out);have HI7:=Lib.hid (HI6.out.below HAL6.out);obtain ⟨WA,hWA⟩:∃x,w6.alloc (.cells #[.int .i64 K,.int .i64 C,.slice sa sn sc] 36)=x:=⟨_,rfl⟩;rw [hWA] at HA6 HAL6 HBG HZ7 HI7 ⊢;obtain ⟨gA,hgA⟩:∃x,w6.heap.size=x:=⟨_,rfl⟩;rw [hgA] at HA6 ⊢;clear hWA hgA HZ6 HI6;have hdw:Below WA.heap.size WA (WA.drewN 1):=Base.below_drewN (Below.refl WA.heap.size WA) 1
    have HZD:=Lib.hid (HZ7.out.below hdw);have HI0:=Lib.hid (HI7.out.below hdw);clear hdw;refine Each.region_all 15 [50,51,52,53,54,55,56,57,58,59,60,61,62,63,64]
     [Each.is (.int .u32 (p:Int)),
       Each.is (.agg #[.int .i64 b.x0,.int .i64 b.x1,.int .i64 b.x2,.int .i64 b.x3,.int .i64 b.x4,.int .i64 b.x5,.int .i64 b.x6,.int .i64 b.x7,.bool b.ch,.bool b.od]),
       fun v w=>∃(A:Option Addr) (c:Nat),v=.slice A n c∧Ints w A n (effL p b),
       Each.is (.slice A0 n c0),
       Each.is (.bool true),
       Each.is (.bool false),
       Each.is (.bool false),
       Each.When (false) false (fun v _=>v=.int .u32 (p:Int)),
       Each.When (false) false (fun v _=>v=.agg #[.int .i64 b.x0,.int .i64 b.x1,.int .i64 b.x2,.int .i64 b.x3,.int .i64 b.x4,.int .i64 b.x5,.int .i64 b.x6,.int .i64 b.x7,.bool b.ch,.bool b.od]),
       Each.When (false) false (fun v _=>v=.int .u32 (CO:Int)),
       Each.When (false) false (fun v _=>v=.int .u32 (p:Int)),
       Each.When (false) false (fun v _=>v=.agg #[.int .i64 b.x0,.int .i64 b.x1,.int .i64 b.x2,.int .i64 b.x3,.int .i64 b.x4,.int .i64 b.x5,.int .i64 b.x6,.int .i64 b.x7,.bool b.ch,.bool b.od]),
       Each.When (false) false (fun v _=>v=.int .u32 (CO:Int)),
       Each.When (false) false (fun v _=>v=.bool false),
       Each.is (.bool ((false&&true)))]
      (by kernel_rfl) (by kernel_rfl) (by kernel_rfl) (by kernel_rfl) (fun _ _ d _ _ h=>by cases d<;>exact h) (by rfl) (by rfl)
     ⟨Each.Lasts.eq _,Each.Lasts.eq _,(fun _ _ _ hb h=>by obtain ⟨A,c,e,h1⟩:=h;exact ⟨A,c,e,h1.below hb⟩),Each.Lasts.eq _,Each.Lasts.eq _,Each.Lasts.eq _,Each.Lasts.eq _,Each.Lasts.when (Each.Lasts.eq _),Each.Lasts.when (Each.Lasts.eq _),Each.Lasts.when (Each.Lasts.eq _),Each.Lasts.when (Each.Lasts.eq _),Each.Lasts.when (Each.Lasts.eq _),Each.Lasts.when (Each.Lasts.eq _),Each.Lasts.when (Each.Lasts.eq _),Each.Lasts.eq _,trivial⟩ ?_ ?_
    ·refine ⟨?_,?_,?_,?_,?_,?_,?_,?_,?_,?_,?_,?_,?_,?_,?_,trivial⟩
     ·refine Each.fine rfl (fun ev w1 hR hb hh=>?_);clear hh;have e8:=hR.old 8 rfl;simp only [qA,qT,qS,qZ,qO] at e8;refine Each.Goes.same ?_;go_simp;try with_reducible rfl
     ·refine Each.fine rfl (fun ev w1 hR hb hh=>?_);clear hh;have e10:=hR.old 10 rfl;simp only [qA,qT,qS,qZ,qO] at e10;have q0:=(HZD.out.below hb).c 0 _ rfl;have q1:=(HZD.out.below hb).c 1 _ rfl;have q2:=(HZD.out.below hb).c 2 _ rfl;have q3:=(HZD.out.below hb).c 3 _ rfl;have q4:=(HZD.out.below hb).c 4 _ rfl;have q5:=(HZD.out.below hb).c 5 _ rfl;have q6:=(HZD.out.below hb).c 6 _ rfl;have q7:=(HZD.out.below hb).c 7 _ rfl;have q8:=(HZD.out.below hb).c 8 _ rfl;have q9:=(HZD.out.below hb).c 9 _ rfl;refine Each.Goes.same ?_;go_simp;try with_reducible rfl
     ·refine Each.fine rfl (fun ev w1 hR hb hh=>?_);have e50:(ev (.tmp 50)=.int .u32 (p:Int)):=hh.at 0;have e51:(ev (.tmp 51)=.agg #[.int .i64 b.x0,.int .i64 b.x1,.int .i64 b.x2,.int .i64 b.x3,.int .i64 b.x4,.int .i64 b.x5,.int .i64 b.x6,.int .i64 b.x7,.bool b.ch,.bool b.od]):=hh.at 1;clear hh;have ef:=hR.func
      refine Each.Goes.enter 13 #[.int .u32 (p:Int),.agg #[.int .i64 b.x0,.int .i64 b.x1,.int .i64 b.x2,.int .i64 b.x3,.int .i64 b.x4,.int .i64 b.x5,.int .i64 b.x6,.int .i64 b.x7,.bool b.ch,.bool b.od]] (by go_simp) ((HEF.out w1).mono ?_);rintro r w2 ⟨A,c,rfl,h1,hb2⟩;exact ⟨_,rfl,hb2,A,c,rfl,h1⟩
     ·refine Each.fine rfl (fun ev w1 hR hb hh=>?_);clear hh;have e11:=hR.old 11 rfl;simp only [qA,qT,qS,qZ,qO] at e11;refine Each.Goes.same ?_;go_simp;try with_reducible rfl
     ·refine Each.fine rfl (fun ev w1 hR hb hh=>?_);have e52:((fun v w=>∃(A:Option Addr) (c:Nat),v=.slice A n c∧Ints w A n (effL p b)) (ev (.tmp 52)) w1):=hh.at 0;have e53:(ev (.tmp 53)=.slice A0 n c0):=hh.at 1;clear hh;have ef:=hR.func;obtain ⟨A,c,e52,hi⟩:=e52
      refine Each.Goes.enter 12 #[.slice A n c,.slice A0 n c0] (by go_simp) ((HIN.out w1 A c A0 c0 hi (HI0.out.below hb)).mono ?_);rintro r w2 ⟨rfl,hb2⟩;exact ⟨_,rfl,hb2,rfl⟩
     ·refine Each.fine rfl (fun ev w1 hR hb hh=>?_);have e54:(ev (.tmp 54)=.bool true):=hh.at 0;clear hh;refine Each.Goes.same ?_;go_simp;try with_reducible rfl
     ·refine Each.fine rfl (fun ev w1 hR hb hh=>?_);have e55:(ev (.tmp 55)=.bool false):=hh.at 0;clear hh;refine Each.Goes.same ?_;go_simp;try with_reducible rfl
     ·refine Each.fine_when 6 56 rfl rfl (fun ev w1 hh=>?_) (fun hg ev w1 hR hb hh=>?_)
      ·exact hh.at 0
      ·clear hh;have e8:=hR.old 8 rfl;simp only [qA,qT,qS,qZ,qO] at e8;refine Each.Goes.same ?_;go_simp;try with_reducible rfl
     ·refine Each.fine_when 6 56 rfl rfl (fun ev w1 hh=>?_) (fun hg ev w1 hR hb hh=>?_)
      ·exact hh.at 0
      ·clear hh;have e10:=hR.old 10 rfl;simp only [qA,qT,qS,qZ,qO] at e10;have q0:=(HZD.out.below hb).c 0 _ rfl;have q1:=(HZD.out.below hb).c 1 _ rfl;have q2:=(HZD.out.below hb).c 2 _ rfl;have q3:=(HZD.out.below hb).c 3 _ rfl;have q4:=(HZD.out.below hb).c 4 _ rfl;have q5:=(HZD.out.below hb).c 5 _ rfl;have q6:=(HZD.out.below hb).c 6 _ rfl;have q7:=(HZD.out.below hb).c 7 _ rfl;have q8:=(HZD.out.below hb).c 8 _ rfl;have q9:=(HZD.out.below hb).c 9 _ rfl;refine Each.Goes.same ?_;go_simp;try with_reducible rfl
     ·refine Each.fine_when 6 56 rfl rfl (fun ev w1 hh=>?_) (fun hg ev w1 hR hb hh=>?_)
      ·exact hh.at 2
      ·have e57:=(show ((false)=false→ev (.tmp 57)=.int .u32 (p:Int)) from hh.at 0) hg;have e58:=(show ((false)=false→ev (.tmp 58)=.agg #[.int .i64 b.x0,.int .i64 b.x1,.int .i64 b.x2,.int .i64 b.x3,.int .i64 b.x4,.int .i64 b.x5,.int .i64 b.x6,.int .i64 b.x7,.bool b.ch,.bool b.od]) from hh.at 1) hg;clear hh;have ef:=hR.func
       refine Each.Goes.enter 14 #[.int .u32 (p:Int),.agg #[.int .i64 b.x0,.int .i64 b.x1,.int .i64 b.x2,.int .i64 b.x3,.int .i64 b.x4,.int .i64 b.x5,.int .i64 b.x6,.int .i64 b.x7,.bool b.ch,.bool b.od]] (by go_simp) ((HC1.out w1).mono ?_);rintro r w2 ⟨rfl,hb2⟩;exact ⟨_,rfl,hb2,rfl⟩
     ·refine Each.fine_when 6 56 rfl rfl (fun ev w1 hh=>?_) (fun hg ev w1 hR hb hh=>?_)
      ·exact hh.at 0
      ·clear hh;have e8:=hR.old 8 rfl;simp only [qA,qT,qS,qZ,qO] at e8;refine Each.Goes.same ?_;go_simp;try with_reducible rfl
     ·refine Each.fine_when 6 56 rfl rfl (fun ev w1 hh=>?_) (fun hg ev w1 hR hb hh=>?_)
      ·exact hh.at 0
      ·clear hh;have e10:=hR.old 10 rfl;simp only [qA,qT,qS,qZ,qO] at e10;have q0:=(HZD.out.below hb).c 0 _ rfl;have q1:=(HZD.out.below hb).c 1 _ rfl;have q2:=(HZD.out.below hb).c 2 _ rfl;have q3:=(HZD.out.below hb).c 3 _ rfl;have q4:=(HZD.out.below hb).c 4 _ rfl;have q5:=(HZD.out.below hb).c 5 _ rfl;have q6:=(HZD.out.below hb).c 6 _ rfl;have q7:=(HZD.out.below hb).c 7 _ rfl;have q8:=(HZD.out.below hb).c 8 _ rfl;have q9:=(HZD.out.below hb).c 9 _ rfl;refine Each.Goes.same ?_;go_simp;try with_reducible rfl
     ·refine Each.fine_when 6 56 rfl rfl (fun ev w1 hh=>?_) (fun hg ev w1 hR hb hh=>?_)
      ·exact hh.at 3
      ·have e60:=(show ((false)=false→ev (.tmp 60)=.int .u32 (p:Int)) from hh.at 0) hg;have e61:=(show ((false)=false→ev (.tmp 61)=.agg #[.int .i64 b.x0,.int .i64 b.x1,.int .i64 b.x2,.int .i64 b.x3,.int .i64 b.x4,.int .i64 b.x5,.int .i64 b.x6,.int .i64 b.x7,.bool b.ch,.bool b.od]) from hh.at 1) hg;clear hh;have ef:=hR.func
       refine Each.Goes.enter 15 #[.int .u32 (p:Int),.agg #[.int .i64 b.x0,.int .i64 b.x1,.int .i64 b.x2,.int .i64 b.x3,.int .i64 b.x4,.int .i64 b.x5,.int .i64 b.x6,.int .i64 b.x7,.bool b.ch,.bool b.od]] (by go_simp) ((HC2.out w1).mono ?_);rintro r w2 ⟨rfl,hb2⟩;exact ⟨_,rfl,hb2,rfl⟩
     ·refine Each.fine_when 6 56 rfl rfl (fun ev w1 hh=>?_) (fun hg ev w1 hR hb hh=>?_)
      ·exact hh.at 2
      ·have e59:=(show ((false)=false→ev (.tmp 59)=.int .u32 (CO:Int)) from hh.at 0) hg;have e62:=(show ((false)=false→ev (.tmp 62)=.int .u32 (CO:Int)) from hh.at 1) hg;clear hh;refine Each.Goes.same ?_;go_simp;try with_reducible rfl
     ·refine Each.fine rfl (fun ev w1 hR hb hh=>?_);have e56:(ev (.tmp 56)=.bool false):=hh.at 0;have h63:((false)=false→ev (.tmp 63)=.bool false):=hh.at 1;clear hh;have ec:=hR.const;refine Each.Goes.same ?_;have e63:=h63 rfl;go_simp;try with_reducible rfl
    intro gb w7 hb7 hf;have z64:gb 64=.bool false:=hf.at 14;clear hf;simp only [Each.putg,Act.put,qI,qY,qX];rw [z64];clear z64
    have HBH:=Lib.hid (Base.below_step HBG.out hb7)
    have HZ8:=Lib.hid (HZ7.out.below hb7);have HI8:=Lib.hid (HI7.out.below hb7);have HA8:=Lib.hid (HA6.out.below hb7)
    have HB67:=Lib.hid (Base.below_step HAL6.out hb7);clear hb7 HEF HC1 HC2 HIN HZD HI0 HI7 HZ7 HA6 HAL6 HBG HBF HBE HB1 HBD;obtain ⟨RB,hRB⟩:∃RB,b.right=RB:=⟨_,rfl⟩;obtain ⟨PB,hPB⟩:∃PB,decide (p<1073741824)=PB:=⟨_,rfl⟩
    have HRR:=Lib.hid (fun w=>show Calls Tryz.prog 16 #[.agg #[.int .i64 b.x0,.int .i64 b.x1,.int .i64 b.x2,.int .i64 b.x3,.int .i64 b.x4,.int .i64 b.x5,.int .i64 b.x6,.int .i64 b.x7,.bool b.ch,.bool b.od]] w fun e w'=>e=.returned (.bool RB)∧Below w.heap.size w w' from by rw [←hRB];exact Bnd.rright_any b.x0 b.x1 b.x2 b.x3 b.x4 b.x5 b.x6 b.x7 b.ch b.od w)
    have HRP:=Lib.hid (fun w=>show Calls Tryz.prog 17 #[.int .u32 (p:Int)] w fun e w'=>e=.returned (.bool PB)∧w'=w from by rw [←hPB];exact Qk.rright_any p HPP.out w);have c0':=HZ8.out.c 0 _ rfl;have c1':=HZ8.out.c 1 _ rfl;have c2':=HZ8.out.c 2 _ rfl;have c3':=HZ8.out.c 3 _ rfl;have c4':=HZ8.out.c 4 _ rfl;have c5':=HZ8.out.c 5 _ rfl;have c6':=HZ8.out.c 6 _ rfl;have c7':=HZ8.out.c 7 _ rfl;have c8':=HZ8.out.c 8 _ rfl;have c9':=HZ8.out.c 9 _ rfl;by_cases hok:(PB&&RB)=true
    case neg=>
     have hK0:K=0:=by rw [←hK];unfold kindA;rw [hPB,hRB,if_neg hok]
     have hE0:E=20:=by rw [←hE];unfold errA;rw [hPB,hRB,if_neg hok]
     subst hK0 hE0;have hz:RB=false∨(RB=true∧PB=false):=by revert hok;cases RB<;>cases PB<;>simp
     clear hok hK hE hC hRB hPB HSH;rcases hz with rfl | ⟨rfl,rfl⟩;all_goals
      go_wp2_with (first
       |(go_at_call 16;with_reducible refine (HRR.out _).mono ?_;rintro e w8 ⟨rfl,hb8⟩
         have a0:=(HA8.out.below hb8).c 0 _ rfl
         have HB8:=Lib.hid (Base.below_step HBH.out hb8);clear hb8)
       |(go_at_call 17;with_reducible refine (HRP.out _).mono ?_;rintro e w9 ⟨rfl,hw⟩;rw [hw];clear hw))
      go_roundw
      case rel=>exact ⟨j2+1,HJ2.out,by go_num,Lib.hid HB8.out⟩
      case measure=>have:=HJ2.out;simp [intOf];omega
    obtain ⟨rfl,rfl⟩:PB=true∧RB=true:=by simpa using hok
    have HE0:=Lib.hid (show E=0 by rw [←hE];unfold errA;rw [hPB,hRB,if_pos hok]);obtain rfl:E=0:=HE0.out
    have HRT:=Lib.hid hRB;have HPT:=Lib.hid (of_decide_eq_true hPB);by_cases hL:effL p b= []
    ·have hn0:n=0:=by rw [←HNL.out,hL];rfl
     have hK1:K=1:=by rw [←hK];unfold kindA;rw [hPB,hRB,if_pos hok,if_pos hL]
     have hC0:C=0:=by rw [←hC];unfold clA;rw [hL];rfl
     have hsl:=HSH.out;unfold Shown at hsl;rw [if_pos hL] at hsl;cases hsl;subst hn0 hK1 hC0;clear hok hK hE hC hRB hPB HSH hL
     go_upto_region 18 with (first
      |(go_at_call 16;with_reducible refine (HRR.out _).mono ?_;rintro e w8 ⟨rfl,hb8⟩
        have a0:=(HA8.out.below hb8).c 0 _ rfl;have a1:=(HA8.out.below hb8).c 1 _ rfl;have a2:=(HA8.out.below hb8).c 2 _ rfl
        have HB8:=Lib.hid (Base.below_step HBH.out hb8);clear hb8)
      |(go_at_call 17;with_reducible refine (HRP.out _).mono ?_;rintro e w9 ⟨rfl,hw⟩;rw [hw];clear hw))
     go_region;all_goals
      go_wp2;go_roundw
      case rel=>exact ⟨j2+1,HJ2.out,by go_num,Lib.hid (by first | exact HB8.out | exact Base.below_drewN HB8.out _ | exact HB8.out.drew)⟩
      case measure=>have:=HJ2.out;simp [intOf];omega
    obtain ⟨y0,ys,hys⟩:∃y ys,effL p b=y::ys:=by
     cases h:effL p b with
     | nil=>exact absurd h hL
     | cons y ys=>exact ⟨y,ys,rfl⟩
    obtain ⟨n1,rfl⟩:∃n1,n=n1+1:=⟨ys.length,by rw [←HNL.out,hys];rfl⟩;have hK2:K=2:=by rw [←hK];unfold kindA;rw [hPB,hRB,if_pos hok,if_neg hL]
    have hCy:y0=C:=by rw [←hC];unfold clA;rw [hys];rfl
    subst hK2 hCy;have hmem:clA p b∈effL p b:=by unfold clA;rw [hys];simp
    have hlast:=lw (of_decide_eq_true hPB) hRB hmem;have hcl:=may_of hmem;have hsl:=HSH.out;unfold Shown at hsl;rw [if_neg hL] at hsl;obtain ⟨gW,cW,e,h1,h2, -⟩:=hsl.v
    have hle:(Wit.W (clA p b).toNat b.ch (Qk.has p 19)).size≤1000:=wit_le ⟨(clA p b).toNat,by omega⟩ b.ch (Qk.has p 19);obtain ⟨S,hS⟩:∃S,Wit.W (clA p b).toNat b.ch (Qk.has p 19)=S:=⟨_,rfl⟩;rw [hS] at hlast e h1 h2 hle;have e1:sa=some ⟨gW,0,none⟩∧sn=S.size∧sc=cW:=by cases e;exact ⟨rfl,rfl,rfl⟩
    clear e hS hsl;obtain ⟨e1,e2,e3⟩:=e1;subst e1 e3;have HSL:=Lib.hid e2;have HLA:Hid (∀w1,Below w7.heap.size w7 w1→Calls Tryz.prog 18 #[.slice (some ⟨gW,0,none⟩) sn sc,.int .u32 (p:Int),.agg #[.int .i64 b.x0,.int .i64 b.x1,.int .i64 b.x2,.int .i64 b.x3,.int .i64 b.x4,.int .i64 b.x5,.int .i64 b.x6,.int .i64 b.x7,.bool b.ch,.bool b.od]] w1 fun r w'=>r=.returned (.bool true)∧Below w1.heap.size w1 w'):=Lib.hid fun w1 hb=>by
     have hl:S.data.toList.length=S.size:=by simp
     have:=DF.last_any (b:=b) HPP.out (some ⟨gW,0,none⟩) sc S.data.toList (h2.step (Step.of_below (Base.below_step HB67.out hb))) (by omega) (by omega);rw [hlast,hl,←e2] at this;exact this
    clear h1 h2 hle e2 hlast hcl hmem
    obtain ⟨bk,of,rfl,hbk,hcc⟩:=HI8.out.2 (Nat.succ_pos n1)
    have hc0:=hcc 0 (Nat.succ_pos n1);rw [Nat.add_zero,hys] at hc0
    have HBK7:=Lib.hid hbk;have HC07:=Lib.hid (show w7.cell? ⟨bk,of,none⟩=some (.int .i64 y0) from hc0);have tn:¬((n1+1:Nat):Int)=0:=by omega
    have tn2:¬(n1:Int)+1=0:=by omega
    clear hcc hbk hc0 hok hK hE hC hRB hPB HSH hL hys
    go_upto_region 18 with (first
     |(go_at_call 16;with_reducible refine (HRR.out _).mono ?_;rintro e w8 ⟨rfl,hb8⟩
       have a0:=(HA8.out.below hb8).c 0 _ rfl;have a1:=(HA8.out.below hb8).c 1 _ rfl;have a2:=(HA8.out.below hb8).c 2 _ rfl;have HB78:=Lib.hid hb8
       have HB8:=Lib.hid (Base.below_step HBH.out hb8);clear hb8)
     |(go_at_call 17;with_reducible refine (HRP.out _).mono ?_;rintro e w9 ⟨rfl,hw⟩;rw [hw];clear hw))
    clear a0 a1 a2 tn tn2 c0' c1' c2' c3' c4' c5' c6' c7' c8' c9';have hdw:Below w8.heap.size w8 (w8.drewN 1):=Base.below_drewN (Below.refl w8.heap.size w8) 1;have h78:=Base.below_step HB78.out hdw
    have HZE:=Lib.hid (HZ8.out.below h78);have HAE:=Lib.hid (HA8.out.below h78)
    have HBK:=Lib.hid (show bk<(w8.drewN 1).heap.size from Nat.lt_of_lt_of_le HBK7.out h78.size)
    have HY0:=Lib.hid ((h78.cell (p:=⟨bk,of,none⟩) HBK7.out).trans HC07.out);have H78:=Lib.hid h78;clear hdw h78;refine Each.region_all 24 [107,108,109,110,111,112,113,114,115,116,117,118,119,120,121,122,123,124,125,126,127,128,129,130]
     [Each.is (.slice (some ⟨bk,of,none⟩) (n1+1) c0),
       Each.is (.int .i64 ((n1+1:Nat):Int)),
       Each.is (.bool true),
       Each.is (.bool true),
       Each.When (true) true (fun v _=>v=.pointer (some ⟨gA,0,none⟩)),
       Each.When (true) true (fun v _=>v=.int .i64 2),
       Each.When (true) true (fun v _=>v=.bool false),
       Each.When (true) true (fun v _=>v=.bool false),
       Each.When (false) false (fun v _=>v=.pointer (some ⟨gA,1,none⟩)),
       Each.When (false) false (fun v _=>v=.int .i64 y0),
       Each.When (false) false (fun v _=>v=.slice (some ⟨bk,of,none⟩) (n1+1) c0),
       Each.When (false) false (fun v _=>v=.pointer (some ⟨bk,of,none⟩)),
       Each.When (false) false (fun v _=>v=.int .i64 y0),
       Each.When (false) false (fun v _=>v=.bool false),
       Each.When (true) true (fun v _=>v=.bool false),
       Each.When (true) true (fun v _=>v=.bool false),
       Each.When (false) false (fun v _=>v=.pointer (some ⟨gA,2,none⟩)),
       Each.When (false) false (fun v _=>v=.slice (some ⟨gW,0,none⟩) sn sc),
       Each.When (false) false (fun v _=>v=.int .u32 (p:Int)),
       Each.When (false) false (fun v _=>v=.agg #[.int .i64 b.x0,.int .i64 b.x1,.int .i64 b.x2,.int .i64 b.x3,.int .i64 b.x4,.int .i64 b.x5,.int .i64 b.x6,.int .i64 b.x7,.bool b.ch,.bool b.od]),
       Each.When (false) false (fun v _=>v=.bool true),
       Each.When (false) false (fun v _=>v=.bool false),
       Each.When (true) true (fun v _=>v=.bool false),
       Each.is (.bool false)]
      (by kernel_rfl) (by kernel_rfl) (by kernel_rfl) (by kernel_rfl) (fun _ _ d _ _ h=>by cases d<;>exact h) (by rfl) (by rfl)
     ⟨Each.Lasts.eq _,Each.Lasts.eq _,Each.Lasts.eq _,Each.Lasts.eq _,Each.Lasts.when (Each.Lasts.eq _),Each.Lasts.when (Each.Lasts.eq _),Each.Lasts.when (Each.Lasts.eq _),Each.Lasts.when (Each.Lasts.eq _),Each.Lasts.when (Each.Lasts.eq _),Each.Lasts.when (Each.Lasts.eq _),Each.Lasts.when (Each.Lasts.eq _),Each.Lasts.when (Each.Lasts.eq _),Each.Lasts.when (Each.Lasts.eq _),Each.Lasts.when (Each.Lasts.eq _),Each.Lasts.when (Each.Lasts.eq _),Each.Lasts.when (Each.Lasts.eq _),Each.Lasts.when (Each.Lasts.eq _),Each.Lasts.when (Each.Lasts.eq _),Each.Lasts.when (Each.Lasts.eq _),Each.Lasts.when (Each.Lasts.eq _),Each.Lasts.when (Each.Lasts.eq _),Each.Lasts.when (Each.Lasts.eq _),Each.Lasts.when (Each.Lasts.eq _),Each.Lasts.eq _,trivial⟩ ?_ ?_
    ·refine ⟨?_,?_,?_,?_,?_,?_,?_,?_,?_,?_,?_,?_,?_,?_,?_,?_,?_,?_,?_,?_,?_,?_,?_,?_,trivial⟩
     ·refine Each.fine rfl (fun ev w1 hR hb hh=>?_);clear hh;have e11:=hR.old 11 rfl;simp only [qA,qT,qS,qZ,qO] at e11;refine Each.Goes.same ?_;go_simp;try with_reducible rfl
     ·refine Each.fine rfl (fun ev w1 hR hb hh=>?_);have e107:(ev (.tmp 107)=.slice (some ⟨bk,of,none⟩) (n1+1) c0):=hh.at 0;clear hh;refine Each.Goes.same ?_;go_simp;try with_reducible rfl
     ·refine Each.fine rfl (fun ev w1 hR hb hh=>?_);have e108:(ev (.tmp 108)=.int .i64 ((n1+1:Nat):Int)):=hh.at 0;clear hh;have ec:=hR.const;refine Each.Goes.same ?_;go_simp
      first | done | omega |(simp;omega)
     ·refine Each.fine rfl (fun ev w1 hR hb hh=>?_);have e109:(ev (.tmp 109)=.bool true):=hh.at 0;clear hh;refine Each.Goes.same ?_;go_simp;try with_reducible rfl
     ·refine Each.fine_when 3 110 rfl rfl (fun ev w1 hh=>?_) (fun hg ev w1 hR hb hh=>?_)
      ·exact hh.at 0
      ·clear hh;have e12:=hR.old 12 rfl;simp only [qA,qT,qS,qZ,qO] at e12;refine Each.Goes.same ?_;go_simp;try with_reducible rfl
     ·refine Each.fine_when 3 110 rfl rfl (fun ev w1 hh=>?_) (fun hg ev w1 hR hb hh=>?_)
      ·exact hh.at 1
      ·have e111:=(show ((true)=true→ev (.tmp 111)=.pointer (some ⟨gA,0,none⟩)) from hh.at 0) hg;clear hh;have q0:=(HAE.out.below hb).c 0 _ rfl;refine Each.Goes.same ?_;go_simp;try with_reducible rfl
     ·refine Each.fine_when 3 110 rfl rfl (fun ev w1 hh=>?_) (fun hg ev w1 hR hb hh=>?_)
      ·exact hh.at 1
      ·have e112:=(show ((true)=true→ev (.tmp 112)=.int .i64 2) from hh.at 0) hg;clear hh;have ec:=hR.const;refine Each.Goes.same ?_;go_simp;try with_reducible rfl
     ·refine Each.fine_when 3 110 rfl rfl (fun ev w1 hh=>?_) (fun hg ev w1 hR hb hh=>?_)
      ·exact hh.at 1
      ·have e113:=(show ((true)=true→ev (.tmp 113)=.bool false) from hh.at 0) hg;clear hh;refine Each.Goes.same ?_;go_simp;try with_reducible rfl
     ·refine Each.fine_when 7 114 rfl rfl (fun ev w1 hh=>?_) (fun hg ev w1 hR hb hh=>?_)
      ·exact (show ((true)=true→ev (.tmp 114)=.bool false) from hh.at 0) rfl
      ·clear hh;have e12:=hR.old 12 rfl;simp only [qA,qT,qS,qZ,qO] at e12;refine Each.Goes.same ?_;go_simp;try with_reducible rfl
     ·refine Each.fine_when 7 114 rfl rfl (fun ev w1 hh=>?_) (fun hg ev w1 hR hb hh=>?_)
      ·exact (show ((true)=true→ev (.tmp 114)=.bool false) from hh.at 1) rfl
      ·have e115:=(show ((false)=false→ev (.tmp 115)=.pointer (some ⟨gA,1,none⟩)) from hh.at 0) hg;clear hh;have q1:=(HAE.out.below hb).c 1 _ rfl;refine Each.Goes.same ?_;go_simp;try with_reducible rfl
     ·refine Each.fine_when 7 114 rfl rfl (fun ev w1 hh=>?_) (fun hg ev w1 hR hb hh=>?_)
      ·exact (show ((true)=true→ev (.tmp 114)=.bool false) from hh.at 0) rfl
      ·clear hh;have e11:=hR.old 11 rfl;simp only [qA,qT,qS,qZ,qO] at e11;refine Each.Goes.same ?_;go_simp;try with_reducible rfl
     ·refine Each.fine_when 7 114 rfl rfl (fun ev w1 hh=>?_) (fun hg ev w1 hR hb hh=>?_)
      ·exact (show ((true)=true→ev (.tmp 114)=.bool false) from hh.at 1) rfl
      ·have e117:=(show ((false)=false→ev (.tmp 117)=.slice (some ⟨bk,of,none⟩) (n1+1) c0) from hh.at 0) hg;clear hh;have ec:=hR.const;have h0n:(0:Int)<((n1+1:Nat):Int):=by omega
       refine Each.Goes.same ?_;go_simp;try with_reducible rfl
     ·refine Each.fine_when 7 114 rfl rfl (fun ev w1 hh=>?_) (fun hg ev w1 hR hb hh=>?_)
      ·exact (show ((true)=true→ev (.tmp 114)=.bool false) from hh.at 1) rfl
      ·have e118:=(show ((false)=false→ev (.tmp 118)=.pointer (some ⟨bk,of,none⟩)) from hh.at 0) hg;clear hh;have qy:=(hb.cell (p:=⟨bk,of,none⟩) HBK.out).trans HY0.out;refine Each.Goes.same ?_;go_simp;try with_reducible rfl
     ·refine Each.fine_when 7 114 rfl rfl (fun ev w1 hh=>?_) (fun hg ev w1 hR hb hh=>?_)
      ·exact (show ((true)=true→ev (.tmp 114)=.bool false) from hh.at 2) rfl
      ·have e116:=(show ((false)=false→ev (.tmp 116)=.int .i64 y0) from hh.at 0) hg;have e119:=(show ((false)=false→ev (.tmp 119)=.int .i64 y0) from hh.at 1) hg;clear hh;refine Each.Goes.same ?_;go_simp;try with_reducible rfl
     ·refine Each.fine_when 3 110 rfl rfl (fun ev w1 hh=>?_) (fun hg ev w1 hR hb hh=>?_)
      ·exact hh.at 2
      ·have e114:=(show ((true)=true→ev (.tmp 114)=.bool false) from hh.at 0) hg;have h120:((false)=false→ev (.tmp 120)=.bool false):=hh.at 1;clear hh;have ec:=hR.const;refine Each.Goes.same ?_;have e120:=h120 rfl;go_simp;try with_reducible rfl
     ·refine Each.fine_when 3 110 rfl rfl (fun ev w1 hh=>?_) (fun hg ev w1 hR hb hh=>?_)
      ·exact hh.at 2
      ·have e121:=(show ((true)=true→ev (.tmp 121)=.bool false) from hh.at 0) hg;clear hh;refine Each.Goes.same ?_;go_simp;try with_reducible rfl
     ·refine Each.fine_when 15 122 rfl rfl (fun ev w1 hh=>?_) (fun hg ev w1 hR hb hh=>?_)
      ·exact (show ((true)=true→ev (.tmp 122)=.bool false) from hh.at 0) rfl
      ·clear hh;have e12:=hR.old 12 rfl;simp only [qA,qT,qS,qZ,qO] at e12;refine Each.Goes.same ?_;go_simp;try with_reducible rfl
     ·refine Each.fine_when 15 122 rfl rfl (fun ev w1 hh=>?_) (fun hg ev w1 hR hb hh=>?_)
      ·exact (show ((true)=true→ev (.tmp 122)=.bool false) from hh.at 1) rfl
      ·have e123:=(show ((false)=false→ev (.tmp 123)=.pointer (some ⟨gA,2,none⟩)) from hh.at 0) hg;clear hh;have q2:=(HAE.out.below hb).c 2 _ rfl;refine Each.Goes.same ?_;go_simp;try with_reducible rfl
     ·refine Each.fine_when 15 122 rfl rfl (fun ev w1 hh=>?_) (fun hg ev w1 hR hb hh=>?_)
      ·exact (show ((true)=true→ev (.tmp 122)=.bool false) from hh.at 0) rfl
      ·clear hh;have e8:=hR.old 8 rfl;simp only [qA,qT,qS,qZ,qO] at e8;refine Each.Goes.same ?_;go_simp;try with_reducible rfl
     ·refine Each.fine_when 15 122 rfl rfl (fun ev w1 hh=>?_) (fun hg ev w1 hR hb hh=>?_)
      ·exact (show ((true)=true→ev (.tmp 122)=.bool false) from hh.at 0) rfl
      ·clear hh;have e10:=hR.old 10 rfl;simp only [qA,qT,qS,qZ,qO] at e10;have q0:=(HZE.out.below hb).c 0 _ rfl;have q1:=(HZE.out.below hb).c 1 _ rfl;have q2:=(HZE.out.below hb).c 2 _ rfl;have q3:=(HZE.out.below hb).c 3 _ rfl;have q4:=(HZE.out.below hb).c 4 _ rfl;have q5:=(HZE.out.below hb).c 5 _ rfl;have q6:=(HZE.out.below hb).c 6 _ rfl;have q7:=(HZE.out.below hb).c 7 _ rfl;have q8:=(HZE.out.below hb).c 8 _ rfl;have q9:=(HZE.out.below hb).c 9 _ rfl;refine Each.Goes.same ?_;go_simp;try with_reducible rfl
     ·refine Each.fine_when 15 122 rfl rfl (fun ev w1 hh=>?_) (fun hg ev w1 hR hb hh=>?_)
      ·exact (show ((true)=true→ev (.tmp 122)=.bool false) from hh.at 3) rfl
      ·have e124:=(show ((false)=false→ev (.tmp 124)=.slice (some ⟨gW,0,none⟩) sn sc) from hh.at 0) hg;have e125:=(show ((false)=false→ev (.tmp 125)=.int .u32 (p:Int)) from hh.at 1) hg;have e126:=(show ((false)=false→ev (.tmp 126)=.agg #[.int .i64 b.x0,.int .i64 b.x1,.int .i64 b.x2,.int .i64 b.x3,.int .i64 b.x4,.int .i64 b.x5,.int .i64 b.x6,.int .i64 b.x7,.bool b.ch,.bool b.od]) from hh.at 2) hg;clear hh;have ef:=hR.func
       refine Each.Goes.enter 18 #[.slice (some ⟨gW,0,none⟩) sn sc,.int .u32 (p:Int),.agg #[.int .i64 b.x0,.int .i64 b.x1,.int .i64 b.x2,.int .i64 b.x3,.int .i64 b.x4,.int .i64 b.x5,.int .i64 b.x6,.int .i64 b.x7,.bool b.ch,.bool b.od]] (by go_simp) ((HLA.out w1 (Base.below_step H78.out hb)).mono ?_);rintro r w2 ⟨rfl,hb2⟩;exact ⟨_,rfl,hb2,rfl⟩
     ·refine Each.fine_when 15 122 rfl rfl (fun ev w1 hh=>?_) (fun hg ev w1 hR hb hh=>?_)
      ·exact (show ((true)=true→ev (.tmp 122)=.bool false) from hh.at 1) rfl
      ·have e127:=(show ((false)=false→ev (.tmp 127)=.bool true) from hh.at 0) hg;clear hh;refine Each.Goes.same ?_;go_simp;try with_reducible rfl
     ·refine Each.fine_when 3 110 rfl rfl (fun ev w1 hh=>?_) (fun hg ev w1 hR hb hh=>?_)
      ·exact hh.at 2
      ·have e122:=(show ((true)=true→ev (.tmp 122)=.bool false) from hh.at 0) hg;have h128:((false)=false→ev (.tmp 128)=.bool false):=hh.at 1;clear hh;have ec:=hR.const;refine Each.Goes.same ?_;have e128:=h128 rfl;go_simp;try with_reducible rfl
     ·refine Each.fine rfl (fun ev w1 hR hb hh=>?_);have e110:(ev (.tmp 110)=.bool true):=hh.at 0;have h129:((true)=true→ev (.tmp 129)=.bool false):=hh.at 1;clear hh;have ec:=hR.const;refine Each.Goes.same ?_;have e129:=h129 rfl;go_simp;try with_reducible rfl
    intro gc w10 hb10 hf;have z130:gc 130=.bool false:=hf.at 23;clear hf;simp only [Each.putg,Act.put,qI,qY,qX];rw [z130];clear z130
    have HB10:=Lib.hid (Base.below_step HB8.out hb10);clear hb10;go_wp2_with fail;go_roundw
    case rel=>exact ⟨j2+1,HJ2.out,by go_num,Lib.hid HB10.out⟩
    case measure=>have:=HJ2.out;simp [intOf];omega
theorem analyseDecides_law (a k x0 x1 x2 x3 x4 x5 x6 x7:Int) (c d:Bool) (w:World) (ha:0≤a∧a≤4294967295) (hk:0≤k∧k≤255) :
 Calls Tryz.prog 3 #[.int .u32 a,.int .u8 k,.agg #[.int .i64 x0,.int .i64 x1,.int .i64 x2,.int .i64 x3,.int .i64 x4,.int .i64 x5,.int .i64 x6,.int .i64 x7,.bool c,.bool d]] w fun e w'=>e=.returned (.bool true)∧Below w.heap.size w w':=by
 obtain ⟨a,rfl⟩:=Int.eq_ofNat_of_zero_le ha.1;obtain ⟨k,rfl⟩:=Int.eq_ofNat_of_zero_le hk.1
 exact analyseDecides_any a k ⟨x0,x1,x2,x3,x4,x5,x6,x7,c,d⟩ w (by omega) (by omega)
end code
end Go.Proofs.YtimoakmcelocfaaGreat.An
