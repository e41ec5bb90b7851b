import Derived.Test.YtnabkcglnbdfeaaGreatDoorFeg
namespace Go.Proofs.YtnabkcglnbdfeaaGreatDoor.Frm
open Go.RowKit Base Txt
abbrev hostN:ByteArray:=⟨#[72,111,115,116]⟩
abbrev teN:ByteArray:=⟨#[84,114,97,110,115,102,101,114,45,69,110,99,111,100,105,110,103]⟩
abbrev clN:ByteArray:=⟨#[67,111,110,116,101,110,116,45,76,101,110,103,116,104]⟩
abbrev chunked:ByteArray:=⟨#[99,104,117,110,107,101,100]⟩
abbrev blanksOf:ByteArray:=⟨#[11,12,32,9]⟩
def hostsV (nh mh:Bool) (minor:Int) (h:List ByteArray):Int:=
 if ((decide (minor=1)&&(decide (h.length=0) && !nh))|| (decide (1<h.length) && !mh))=true then 400
 else if (h.all fun v=>Tgt.hostB v.data.toList)=true then 0 else 400
def isC (tb:Bool) (v:ByteArray):Bool:=same (if tb=true then trimOf v blanksOf else v) chunked
def onlyLast:List Bool→Bool
 | []=>false
 | [b]=>b
 | b::c::r=>!b&&onlyLast (c::r)
def coding (tb tl:Bool) (vs:List ByteArray):Bool:=onlyLast ((list vs).map (isC tb))&&(decide ((list vs).length=1)||tl)
def alikeL (l:List ByteArray):Bool:=l.all fun v=>decide (v=l.headD ByteArray.empty)
def counts (lc lf ll:Bool) (l:List ByteArray):Option ByteArray:=
 if (decide (l.length=1)|| ((lc&&alikeL l)||lf))=true then some (l.headD ByteArray.empty)
 else if ll=true then some (l.getLastD ByteArray.empty) else none
def unplus (lp:Bool) (s:ByteArray):ByteArray:=if (lp&&decide (s.data.toList.head?=some 43))=true then ba (s.data.toList.drop 1) else s
def numV (r:Int × Int):Int × Int:=if r.2=22 then (0,400) else if r.2=23 then (0,413) else (r.1,0)
def lengthV (lp lc lf ll:Bool) (most:Int) (vs:List ByteArray):Int × Int:=
 if vs= [] then (0,0) else
 match counts lc lf ll (if lc=true then list vs else vs) with
 | none=>(0,400)
 | some s=>numV (Num.readOf 10 most (unplus lp s).data.toList)
def winsV (td ti tw lw:Bool) (minor:Int) (nte ncl:Nat) (cod:Bool):Bool × Int:=
 if nte=0 then (false,0)
 else if (decide (minor=0) && !td)=true then (false,400)
 else if cod=false then (false,if ti=true then 0 else 501)
 else if (decide (0<ncl) && !tw)=true then (false,if lw=true then 0 else 400)
 else (true,0)
def fixedV (r:Int × Int):Int × Int × Int:=if r.2=0 then (1,r.1,0) else (0,0,r.2)
def bodyV (hs:Int) (ch:Bool) (wins:Bool × Int) (len:Int × Int):Int × Int × Int:=
 if hs≠0 then (0,0,hs) else if wins.2≠0 then (0,0,wins.2)
 else if wins.1=true then (if ch=true then (2,0,0) else (0,0,501)) else fixedV len
structure Cl where
 nh:Bool
 mh:Bool
 tb:Bool
 tl:Bool
 ti:Bool
 td:Bool
 tw:Bool
 lw:Bool
 lp:Bool
 lc:Bool
 lf:Bool
 ll:Bool
def clOf (p:Nat):Cl:=⟨Qk.has p 15,Qk.has p 16,Qk.has p 17,Qk.has p 18,Qk.has p 19,Qk.has p 20,Qk.has p 21,Qk.has p 22,Qk.has p 23,Qk.has p 24,Qk.has p 25,Qk.has p 26⟩
def decideV (c:Cl) (ch:Bool) (body minor:Int) (fs:List Fld):Int × Int × Int:=
 bodyV (hostsV c.nh c.mh minor (find fs hostN)) ch (winsV c.td c.ti c.tw c.lw minor (find fs teN).length (find fs clN).length (coding c.tb c.tl (find fs teN)))
  (lengthV c.lp c.lc c.lf c.ll body (find fs clN))
theorem only_step (bs:List Bool) (k:Nat) (h:k+1<bs.length) (hb:bs[k]'(by omega)=false):onlyLast (bs.drop k)=onlyLast (bs.drop (k+1)):=by rw [List.drop_eq_getElem_cons (show k<bs.length by omega),hb,List.drop_eq_getElem_cons h];rfl
theorem only_hit (bs:List Bool) (k:Nat) (h:k+1<bs.length) (hb:bs[k]'(by omega)=true):onlyLast (bs.drop k)=false:=by rw [List.drop_eq_getElem_cons (show k<bs.length by omega),hb,List.drop_eq_getElem_cons h];rfl
theorem only_end (bs:List Bool) (k:Nat) (h:k+1=bs.length):onlyLast (bs.drop k)=bs[k]'(by omega):=by rw [List.drop_eq_getElem_cons (show k<bs.length by omega),List.drop_eq_nil_of_le (by omega)];rfl
theorem list_mem_size (vs:List ByteArray) (x:ByteArray) (hx:x∈list vs):x.size≤room vs:=by
 unfold list at hx;obtain ⟨v,hv,hx⟩:=List.mem_flatMap.1 hx;unfold partsOf at hx;obtain ⟨l,hl,rfl⟩:=List.mem_map.1 hx
 have h1:=trim_size Txt.blank (ba l);have h2:=parts_size 44 v.data.toList l hl;have h3:=room_mem vs v hv;rw [ba_size] at h1;rw [len] at h2;show (trimB Txt.blank (ba l)).size≤_;omega
theorem list_ne_nil (vs:List ByteArray) (h:vs≠ []):0<(list vs).length:=by
 cases vs with
 | nil=>exact absurd rfl h
 | cons v r=>
   have:(list (v::r)).length=(partsOf v).length+(list r).length:=by simp [list]
   have h2:0<(partsOf v).length:=by unfold partsOf;rw [List.length_map,parts_length];omega
   omega
theorem find_sizes (fs:List Fld) (name:ByteArray) (B:Nat) (h:∀f∈fs,f.2.size≤B):∀v∈find fs name,v.size≤B:=by intro v hv;unfold find at hv;obtain ⟨f,hf,rfl⟩:=List.mem_map.1 hv;exact h f (List.mem_filter.1 hf).1
theorem room_le:∀(vs:List ByteArray) (B:Nat),(∀v∈vs,v.size≤B)→room vs≤vs.length*(B+1)
 | [],_,_=>Nat.zero_le _
 | v::r,B,h=>by
   have ih:=room_le r B fun x hx=>h x (List.mem_cons_of_mem _ hx)
   have h1:=h v (List.mem_cons_self ..);have:room (v::r)=v.size+1+room r:=by simp [room]
   rw [this,List.length_cons,Nat.succ_mul];omega
end Go.Proofs.YtnabkcglnbdfeaaGreatDoor.Frm
namespace Go.Proofs.YtnabkcglnbdfeaaGreatDoor.Frm
open Go.RowKit Base Txt
structure Gb (w:World) (g:Nat) (k l:Int):Prop where
 c0:w.cell? ⟨g,0,none⟩=some (.int .i64 k)
 c1:w.cell? ⟨g,1,none⟩=some (.int .i64 l)
 z0:w.frozen? ⟨g,0,none⟩=false
 z1:w.frozen? ⟨g,1,none⟩=false
theorem Gb.new (w:World) (t:TypeId) (k l:Int):Gb (w.alloc (.cells #[.int .i64 k,.int .i64 l] t)) w.heap.size k l:=by
 have hh:=heap_alloc_new w (.cells #[.int .i64 k,.int .i64 l] t);have c:∀j u,(#[Value.int .i64 k,.int .i64 l]:Array Value)[j]?=some u→(w.alloc (.cells #[.int .i64 k,.int .i64 l] t)).cell? ⟨w.heap.size,j,none⟩=some u:=
  fun j u e=>(cell_of_row (w.alloc _) w.heap.size j _ t (0,0) hh).trans e
 have z:∀j,(w.alloc (.cells #[.int .i64 k,.int .i64 l] t)).frozen? ⟨w.heap.size,j,none⟩=false:=fun j=>by unfold World.frozen?;simp only [hh];simp
 exact ⟨c 0 _ rfl,c 1 _ rfl,z 0,z 1⟩
theorem Gb.below {w w':World} {g:Nat} {k l:Int} (h:Gb w g k l) (hg:g<w.heap.size) (hb:Below w.heap.size w w'):Gb w' g k l:=
 ⟨(hb.cell (p:=⟨g,0,none⟩) hg).trans h.c0,(hb.cell (p:=⟨g,1,none⟩) hg).trans h.c1,(hb.frozen (p:=⟨g,0,none⟩) hg).trans h.z0,(hb.frozen (p:=⟨g,1,none⟩) hg).trans h.z1⟩
theorem Gb.put {B:Nat} {w0 w:World} {g:Nat} {k l:Int} (H:Gb w g k l) (hb:Below B w0 w) (hg:B≤g) (k' l':Int) :
 ∃W,(w.setCell ⟨g,0,none⟩ (.int .i64 k')).setCell ⟨g,1,none⟩ (.int .i64 l')=W∧Gb W g k' l'∧Below B w0 W:=by
 obtain ⟨c0,c1,z0,z1⟩:=H;refine ⟨_,rfl,⟨?_,?_,?_,?_⟩,(hb.setCell hg _).setCell hg _⟩;all_goals go_simp
abbrev fr (k l:Int):Value:=.agg #[.int .i64 k,.int .i64 l]
theorem find_at (a:Option Addr) (n cap:Nat) (fs:List Fld) (name:ByteArray) (w:World) (hv:Flds w a n fs) (hn:n≤1000000000) (hs:∀f∈fs,f.1.size≤maxLen) :
 Calls Tryz.prog 102 #[.slice a n cap,.string name] w fun e w'=>∃b c,e=.returned (.slice b (find fs name).length c)∧Strs w' b (find fs name).length (find fs name)∧Below w.heap.size w w':=
 (find_any a n cap fs name w hv hn hs).mono (by rintro e w' ⟨b,m,c,rfl,rfl,hS,hb⟩;exact ⟨b,c,rfl,hS,hb⟩)
theorem list_at (a:Option Addr) (n cap:Nat) (vs:List ByteArray) (w:World) (hv:Strs w a n vs) (hr:room vs≤1000000000) :
 Calls Tryz.prog 166 #[.slice a n cap] w fun e w'=>∃b c,e=.returned (.slice b (list vs).length c)∧Strs w' b (list vs).length (list vs)∧Below w.heap.size w w':=
 (list_any a n cap vs w hv hr).mono (by rintro e w' ⟨b,m,c,rfl,rfl,hS,hb⟩;exact ⟨b,c,rfl,hS,hb⟩)
section code
set_option maxHeartbeats 2000000
attribute [local go_sem] Base.some_undef
theorem unless_any (p:Nat) (hp:p<4294967296) (c e0:Int) (w:World):Calls Tryz.prog 295 #[.int .u32 (p:Nat),.int .i64 c,.int .i64 e0] w fun e w'=>e=.returned (.int .i64 (if Qk.has p c=true then 0 else e0))∧w'=w:=by
 have H:=Lib.hid (fun w=>Qk.has_any p hp c w);generalize Qk.has p c=b at *;cases b;all_goals
  go_enter Tryz.func295,Tryz.ntmps295
  go_wp2_with (go_at_call 92;with_reducible refine (H.out _).mono ?_;rintro e w1 ⟨rfl,hw⟩;rw [hw];clear hw);go_ret;exact ⟨rfl,rfl⟩
theorem isChunked_any (v:ByteArray) (p:Nat) (hp:p<4294967296) (w:World) (hs:v.size≤maxLen):Calls Tryz.prog 314 #[.string v,.int .u32 (p:Nat)] w fun e w'=>e=.returned (.bool (isC (Qk.has p 17) v))∧Below w.heap.size w w':=by
 have H:=Lib.hid (fun w=>Qk.has_any p hp 17 w)
 have HT:=Lib.hid (fun w=>trimOf_any v ⟨#[11,12,32,9]⟩ w hs (by decide));have hz:(trimOf v ⟨#[11,12,32,9]⟩).size≤maxLen:=Nat.le_trans (trim_size _ _) hs;obtain ⟨T,hT⟩:∃T,trimOf v ⟨#[11,12,32,9]⟩=T:=⟨_,rfl⟩;rw [hT] at HT hz;cases hb:Qk.has p 17 with
 | false=>
   rw [hb] at H
   have HS:=Lib.hid (fun w=>same_any v ⟨#[99,104,117,110,107,101,100]⟩ w hs);rw [show isC false v=same v ⟨#[99,104,117,110,107,101,100]⟩ from rfl];generalize same v ⟨#[99,104,117,110,107,101,100]⟩=r at *;clear hT hb;go_enter Tryz.func314,Tryz.ntmps314
   go_wp2_with (first
    |(go_at_call 92;with_reducible refine (H.out _).mono ?_;rintro e w1 ⟨rfl,hw⟩;rw [hw];clear hw)
    |(go_at_call 148;with_reducible refine (HS.out _).mono ?_;rintro e w1 ⟨rfl,hb⟩))
   go_ret;exact ⟨rfl,hb⟩
 | true=>
   rw [hb] at H
   have HS:=Lib.hid (fun w=>same_any T ⟨#[99,104,117,110,107,101,100]⟩ w hz);rw [show isC true v=same T ⟨#[99,104,117,110,107,101,100]⟩ from by rw [←hT];rfl];generalize same T ⟨#[99,104,117,110,107,101,100]⟩=r at *;clear hT hb;go_enter Tryz.func314,Tryz.ntmps314
   go_wp2_with (first
    |(go_at_call 92;with_reducible refine (H.out _).mono ?_;rintro e w1 ⟨rfl,hw⟩;rw [hw];clear hw)
    |(go_at_call 329;with_reducible refine (HT.out _).mono ?_;rintro e w1 ⟨rfl,hb1⟩)
    |(go_at_call 148;with_reducible refine (HS.out _).mono ?_;rintro e w2 ⟨rfl,hb⟩))
   go_ret;exact ⟨rfl,Base.below_step hb1 hb⟩
theorem coding_any (p:Nat) (hp:p<4294967296) (a:Option Addr) (n cap:Nat) (vs:List ByteArray) (w:World) (hv:Strs w a n vs) (hr:room vs≤1000000000) :
 Calls Tryz.prog 297 #[.int .u32 (p:Nat),.slice a n cap] w fun e w'=>e=.returned (.bool (coding (Qk.has p 17) (Qk.has p 18) vs))∧Below w.heap.size w w':=by
 have HL:=Lib.hid (list_at a n cap vs w hv hr)
 have H18:=Lib.hid (fun w=>Qk.has_any p hp 18 w)
 have HM:=Lib.hid (fun x hx=>Nat.le_trans (list_mem_size vs x hx) hr)
 have HI:=Lib.hid (fun v hs w=>isChunked_any v p hp w hs);have hlr:=Nat.le_trans (list_le vs) hr;have HX:coding (Qk.has p 17) (Qk.has p 18) vs=(onlyLast ((list vs).map (isC (Qk.has p 17)))&&(decide ((list vs).length=1)||Qk.has p 18)):=rfl;rw [HX];clear HX hv hr hp;generalize list vs=ls at *;generalize Qk.has p 17=tb at *;generalize Qk.has p 18=tl at *;obtain ⟨m,hm⟩:∃m,ls.length=m:=⟨_,rfl⟩;rw [hm] at HL hlr ⊢;obtain ⟨bs,hbs⟩:∃bs,ls.map (isC tb)=bs:=⟨_,rfl⟩;rw [hbs]
 have HBL:=Lib.hid (show bs.length=m by rw [←hbs,List.length_map,hm])
 have HBA:=Lib.hid (fun k (hk:k<m)=>show bs[k]'(by rw [HBL.out];exact hk)=isC tb (ls[k]?.getD ByteArray.empty) by simp only [←hbs,List.getElem_map];rw [List.getElem?_eq_getElem (by omega)];rfl)
 have HSZ:=Lib.hid (fun k (hk:k<m)=>show (ls[k]?.getD ByteArray.empty).size≤maxLen by
  rw [List.getElem?_eq_getElem (by omega)]
  exact Nat.le_trans (HM.out _ (List.getElem_mem _)) (by decide))
 clear HM hbs hm
 have c1:IntKind.i64.wrap ((m:Int)-1)=(m:Int)-1:=Base.wrap_in _ (by omega) (by omega);have c2:wrap64 ((m:Int)-1)=(m:Int)-1:=by unfold wrap64;omega
 go_enter Tryz.func297,Tryz.ntmps297
 go_wp2_with (go_at_call 166;with_reducible refine (HL.out).mono ?_;rintro e w1 ⟨b,c,rfl,hS,hb⟩
              have HS:=Lib.hid hS;have HB:=Lib.hid hb;clear hS hb)
 go_loopw [16] (fun i wr=>∃k:Nat,k≤m∧i=.int .i64 k∧Hid (Below w1.heap.size w1 wr)∧Hid (k<m→onlyLast bs=onlyLast (bs.drop k))∧Hid (k=m→0<m→onlyLast bs=true)) (fun i _=>m-(intOf i).toNat)
 case atStart=>exact ⟨0,Nat.zero_le _,rfl,Lib.hid (Below.refl _ _),Lib.hid (fun _=>rfl),Lib.hid (fun h h2=>absurd h2 (by omega))⟩
 case round=>
  obtain ⟨k,hk,rfl,hbr,H1,H2⟩:=hrel;rcases Nat.lt_or_ge k m with hlt | hge
  ·obtain ⟨bl,off,rfl,hbl,hc⟩:=(HS.out.below hbr.out).2 (by omega);have hck:=hc k hlt
   have HBk:=Lib.hid (HBA.out k hlt)
   have HC:=Lib.hid (HI.out _ (HSZ.out k hlt));clear hc;generalize ls[k]?.getD ByteArray.empty=x at *;generalize isC tb x=q at *;have i1:(k:Int)<(m:Int):=by omega
   rcases (by omega:k+1<m∨k+1=m) with hn | hn
   ·have i2:((k:Int)==(m:Int)-1)=false:=beq_eq_false_iff_ne.2 (by omega);cases q with
    | false=>
      have H3:=Lib.hid (show k+1<m→onlyLast bs=onlyLast (bs.drop (k+1)) from fun _=>(H1.out hlt).trans (only_step bs k (by rw [HBL.out];exact hn) HBk.out))
      go_wp2_with (go_at_call 314;with_reducible refine (HC.out _).mono ?_;rintro e w2 ⟨rfl,hb⟩)
      have HB2:=Lib.hid (Base.below_step hbr.out hb);clear hb;go_roundw
      case rel=>exact ⟨k+1,by omega,by go_num,HB2,H3,Lib.hid (fun h=>absurd h (by omega))⟩
      case measure=>simp [intOf];omega
    | true=>
      have H3:=Lib.hid (show onlyLast bs=false from (H1.out hlt).trans (only_hit bs k (by rw [HBL.out];exact hn) HBk.out))
      go_wp2_with (go_at_call 314;with_reducible refine (HC.out _).mono ?_;rintro e w2 ⟨rfl,hb⟩)
      have HB2:=Lib.hid (Base.below_step (Base.below_step HB.out hbr.out) hb);clear hb;go_ret;exact ⟨by rw [H3.out];rfl,HB2.out⟩
   ·have i2:((k:Int)==(m:Int)-1)=true:=beq_iff_eq.2 (by omega)
    have H3:=Lib.hid (show onlyLast bs=q from ((H1.out hlt).trans (only_end bs k (by rw [HBL.out];exact hn))).trans HBk.out);cases q with
    | true=>
      go_wp2_with (go_at_call 314;with_reducible refine (HC.out _).mono ?_;rintro e w2 ⟨rfl,hb⟩)
      have HB2:=Lib.hid (Base.below_step hbr.out hb);clear hb;go_roundw
      case rel=>exact ⟨k+1,by omega,by go_num,HB2,Lib.hid (fun h=>absurd h (by omega)),Lib.hid (fun _ _=>H3.out)⟩
      case measure=>simp [intOf];omega
    | false=>
      go_wp2_with (go_at_call 314;with_reducible refine (HC.out _).mono ?_;rintro e w2 ⟨rfl,hb⟩)
      have HB2:=Lib.hid (Base.below_step (Base.below_step HB.out hbr.out) hb);clear hb;go_ret;exact ⟨by rw [H3.out];rfl,HB2.out⟩
  ·obtain rfl:k=m:=by omega
   have HB2:=Lib.hid (Base.below_step HB.out hbr.out)
   have H3:=Lib.hid (H2.out rfl);clear H1 H2 hbr;rcases (by omega:k=0∨k=1∨1<k) with rfl | rfl | hk1
   ·have H4:=Lib.hid (show onlyLast bs=false by rw [List.eq_nil_of_length_eq_zero HBL.out];rfl);go_wp2_with fail;go_ret;exact ⟨by rw [H4.out];rfl,HB2.out⟩
   ·have H4:=Lib.hid (H3.out (by omega));go_wp2_with fail;go_ret;exact ⟨by rw [H4.out];rfl,HB2.out⟩
   ·have H4:=Lib.hid (H3.out (by omega))
    have i3:((k:Int)-1==0)=false:=beq_eq_false_iff_ne.2 (by omega);have i4:(0:Int)<(k:Int)-1:=by omega
    have H5:=Lib.hid (show decide (k=1)=false from decide_eq_false (by omega))
    go_wp2_with (go_at_call 92;with_reducible refine (H18.out _).mono ?_;rintro e w1 ⟨rfl,hw⟩;rw [hw];clear hw);go_ret;exact ⟨by rw [H4.out,H5.out];rfl,HB2.out⟩
end code
end Go.Proofs.YtnabkcglnbdfeaaGreatDoor.Frm
namespace Go.Proofs.YtnabkcglnbdfeaaGreatDoor.Frm
open Go.RowKit Base Txt
theorem take_all_snoc {α:Type} (P:α→Bool) (d:α) (l:List α) (k:Nat) (h:k<l.length):(l.take (k+1)).all P=((l.take k).all P&&P (l[k]?.getD d)):=by rw [List.take_succ_eq_append_getElem h,List.all_append,List.getElem?_eq_getElem h];simp
theorem all_of_miss {α:Type} (P:α→Bool) (d:α) (l:List α) (k:Nat) (h:k<l.length) (hp:P (l[k]?.getD d)=false):l.all P=false:=by rw [List.getElem?_eq_getElem h] at hp;exact List.all_eq_false.2 ⟨_,List.getElem_mem h,by simpa using hp⟩
theorem hosts_none (nh mh:Bool):hostsV nh mh 1 []=if nh=true then 0 else 400:=by cases nh<;>cases mh<;>rfl
theorem hosts_loop (nh mh:Bool) (minor:Int) (h:List ByteArray) (h1:¬(minor=1∧h.length=0)) (h2:h.length≤1∨mh=true):hostsV nh mh minor h=if (h.all fun v=>Tgt.hostB v.data.toList)=true then 0 else 400:=by
 unfold hostsV;rw [if_neg];simp only [Bool.or_eq_true,Bool.and_eq_true,decide_eq_true_eq,Bool.not_eq_true']
 rintro (⟨a,b,_⟩ | ⟨a,b⟩)
 ·exact h1 ⟨a,b⟩
 ·rcases h2 with h2 | h2
  ·omega
  ·rw [h2] at b;cases b
theorem hosts_many (nh:Bool) (minor:Int) (h:List ByteArray) (h2:1<h.length):hostsV nh false minor h=400:=by unfold hostsV;rw [if_pos];rw [decide_eq_true h2];simp
theorem counts_mem (lc lf ll:Bool) (l:List ByteArray) (s:ByteArray) (h:counts lc lf ll l=some s) (hl:l≠ []):s∈l:=by
 unfold counts at h;have hd:l.headD ByteArray.empty∈l:=by
  cases l with
  | nil=>exact absurd rfl hl
  | cons x r=>exact List.mem_cons_self ..
 have hz:l.getLastD ByteArray.empty∈l:=by rw [List.getLastD_eq_getLast?,List.getLast?_eq_some_getLast hl];exact List.getLast_mem hl
 split at h
 ·cases h;exact hd
 ·split at h
  ·cases h;exact hz
  ·cases h
def ansC:Option ByteArray→Value
 | none=>.tuple #[.string ByteArray.empty,.bool false]
 | some s=>.tuple #[.string s,.bool true]
theorem plus_trim (s:ByteArray):(⟨(Lib.trimPrefix s.data.toList [43]).toArray⟩:ByteArray)=unplus true s:=by
 unfold unplus;rw [Bool.true_and];have h:Lib.hasPrefix s.data.toList [43]=decide (s.data.toList.head?=some 43):=by
  cases s.data.toList with
  | nil=>rfl
  | cons c r=>
    have:Lib.hasPrefix (c::r) [43]=(43==c):=by simp [Lib.hasPrefix,List.isPrefixOf]
    rw [this,List.head?_cons];by_cases h:c=43
    ·subst h;rfl
    ·rw [decide_eq_false (fun e=>h (Option.some.inj e)),beq_eq_false_iff_ne];exact fun e=>h e.symm
 unfold Lib.trimPrefix;rw [h];split
 ·rfl
 ·rfl
theorem unplus_size (lp:Bool) (s:ByteArray):(unplus lp s).size≤s.size:=by
 unfold unplus;split
 ·rw [ba_size,List.length_drop,len];omega
 ·exact Nat.le_refl _
section code
set_option maxHeartbeats 4000000
set_option maxRecDepth 10000
attribute [local go_sem] Base.some_undef
theorem hosts_any (p:Nat) (hp:p<4294967296) (minor:Int) (a:Option Addr) (n cap:Nat) (fs:List Fld) (w:World) (hv:Flds w a n fs) (hn:n≤1000000000) (hs:∀f∈fs,f.1.size≤1000000000∧f.2.size≤1000000000) :
 Calls Tryz.prog 271 #[.int .u32 (p:Nat),.int .i64 minor,.slice a n cap] w fun e w'=>e=.returned (.int .i64 (hostsV (Qk.has p 15) (Qk.has p 16) minor (find fs hostN)))∧Below w.heap.size w w':=by
 have HF:=Lib.hid (find_at a n cap fs ⟨#[72,111,115,116]⟩ w hv hn (fun f hf=>Nat.le_trans (hs f hf).1 (by decide)))
 have HU:=Lib.hid (fun w=>unless_any p hp 15 400 w)
 have H16:=Lib.hid (fun w=>Qk.has_any p hp 16 w)
 have hsz:=find_sizes fs ⟨#[72,111,115,116]⟩ 1000000000 (fun f hf=>(hs f hf).2);have hle:=find_le fs ⟨#[72,111,115,116]⟩;rw [hv.1] at hle
 have HT:=Lib.hid (fun v (hv:v.size≤1000000000) w=>Tgt.host_any v w hv);obtain ⟨R,hR⟩:∃R,hostsV (Qk.has p 15) (Qk.has p 16) minor (find fs ⟨#[72,111,115,116]⟩)=R:=⟨_,rfl⟩;rw [show hostsV (Qk.has p 15) (Qk.has p 16) minor (find fs hostN)=R from hR];clear hv hs hp;generalize find fs ⟨#[72,111,115,116]⟩=H at *;generalize Qk.has p 15=nh at *;obtain ⟨mh,hmh⟩:∃mh,Qk.has p 16=mh:=⟨_,rfl⟩;rw [hmh] at H16 hR;clear hmh;obtain ⟨m,hm⟩:∃m,H.length=m:=⟨_,rfl⟩;rw [hm] at HF hle
 have HSZ:=Lib.hid (fun k (hk:k<m)=>show (H[k]?.getD ByteArray.empty).size≤1000000000 by
  rw [List.getElem?_eq_getElem (by omega)]
  exact hsz _ (List.getElem_mem _))
 have HM:=Lib.hid hm;clear hsz;by_cases hA:minor=1∧m=0
 ·obtain ⟨rfl,rfl⟩:=hA;obtain rfl:=List.eq_nil_of_length_eq_zero hm;rw [hosts_none] at hR;rw [hR] at HU;clear hR hm HSZ HM;go_enter Tryz.func271,Tryz.ntmps271
  go_wp2_with (first
   |(go_at_call 102;with_reducible refine (HF.out).mono ?_;rintro e w1 ⟨b,c,rfl,hS,hb⟩;clear hS)
   |(go_at_call 295;with_reducible refine (HU.out _).mono ?_;rintro e w2 ⟨rfl,hw⟩;rw [hw];clear hw))
  go_ret;exact ⟨rfl,hb⟩
 by_cases hB:1<m∧mh=false
 ·obtain ⟨h1,rfl⟩:=hB;rw [hosts_many nh minor H (by omega)] at hR;subst hR;have t0:¬(m:Int)=0:=by omega
  have t1:(1:Int)<(m:Int):=by omega
  clear hm hA HSZ HM;go_enter Tryz.func271,Tryz.ntmps271
  go_wp2_with (first
   |(go_at_call 102;with_reducible refine (HF.out).mono ?_;rintro e w1 ⟨b,c,rfl,hS,hb⟩;clear hS)
   |(go_at_call 92;with_reducible refine (H16.out _).mono ?_;rintro e w2 ⟨rfl,hw⟩;rw [hw];clear hw))
  go_ret;exact ⟨rfl,hb⟩
 have hR2:=hosts_loop nh mh minor H (by rw [hm];exact hA) (by
  rcases (by omega:m≤1∨1<m) with h | h
  ·exact .inl (by omega)
  ·right;cases mh
   ·exact absurd ⟨h,rfl⟩ hB
   ·rfl)
 rw [hR] at hR2;have HR:=Lib.hid hR2;clear hR hR2 hm;have hcase:(m=0∧¬minor=1)∨m=1∨(1<m∧mh=true):=by
  rcases (by omega:m=0∨m=1∨1<m) with h | h | h
  ·exact .inl ⟨h,fun e=>hA ⟨e,h⟩⟩
  ·exact .inr (.inl h)
  ·refine .inr (.inr ⟨h,?_⟩);cases mh
   ·exact absurd ⟨h,rfl⟩ hB
   ·rfl
 clear hA hB;rcases hcase with ⟨h0,t2⟩ | h0 | ⟨h0,rfl⟩
 ·have t0:(m:Int)=0:=by omega
  have t1:¬(1:Int)<(m:Int):=by omega
  obtain rfl:=h0;clear t0 t1
  have H3:=Lib.hid (show R=0 from by rw [HR.out,List.eq_nil_of_length_eq_zero HM.out];rfl);go_enter Tryz.func271,Tryz.ntmps271
  go_wp2_with (go_at_call 102;with_reducible refine (HF.out).mono ?_;rintro e w1 ⟨b,c,rfl,hS,hb⟩;clear hS
               have HB:=Lib.hid hb;clear hb)
  go_loopw [34] (fun i wr=>i=.int .i64 0∧wr=w1) (fun i _=>0)
  case atStart=>exact ⟨rfl,rfl⟩
  case round=>obtain ⟨rfl,rfl⟩:=hrel;go_wp2_with fail;go_ret;exact ⟨by rw [H3.out];rfl,HB.out⟩
 all_goals
  have t0:¬(m:Int)=0:=by omega
  have t1:(1:Int)<(m:Int)∨¬(1:Int)<(m:Int):=by omega
  first
   |(have t2:(1:Int)<(m:Int):=by omega)
   |(have t2:¬(1:Int)<(m:Int):=by omega)
  clear t1 h0;go_enter Tryz.func271,Tryz.ntmps271
  go_wp2_with (first
   |(go_at_call 102;with_reducible refine (HF.out).mono ?_;rintro e w1 ⟨b,c,rfl,hS,hb⟩
     have HS:=Lib.hid hS;have HB:=Lib.hid hb;clear hS hb)
   |(go_at_call 92;with_reducible refine (H16.out _).mono ?_;rintro e w2 ⟨rfl,hw⟩;rw [hw];clear hw))
  go_loopw [34] (fun i wr=>∃k:Nat,k≤m∧i=.int .i64 k∧Hid (Below w1.heap.size w1 wr)∧Hid ((H.take k).all (fun v=>Tgt.hostB v.data.toList)=true)) (fun i _=>m-(intOf i).toNat)
  case atStart=>exact ⟨0,Nat.zero_le _,rfl,Lib.hid (Below.refl _ _),Lib.hid rfl⟩
  case round=>
   obtain ⟨k,hk,rfl,hbr,H1⟩:=hrel;rcases Nat.lt_or_ge k m with hlt | hge
   ·obtain ⟨bl,off,rfl,hbl,hc⟩:=(HS.out.below hbr.out).2 (by omega);have hck:=hc k hlt
    have HN:=Lib.hid (take_all_snoc (fun v:ByteArray=>Tgt.hostB v.data.toList) ByteArray.empty H k (by rw [HM.out];exact hlt))
    have HZ:=Lib.hid (all_of_miss (fun v:ByteArray=>Tgt.hostB v.data.toList) ByteArray.empty H k (by rw [HM.out];exact hlt))
    have HC:=Lib.hid (HT.out _ (HSZ.out k hlt));clear hc;generalize H[k]?.getD ByteArray.empty=x at *;have i1:(k:Int)<(m:Int):=by omega
    generalize Tgt.hostB x.data.toList=q at *;cases q with
    | true=>
      have H2:=Lib.hid (show (H.take (k+1)).all (fun v=>Tgt.hostB v.data.toList)=true by rw [HN.out,H1.out];rfl);clear HN HZ
      go_wp2_with (go_at_call 296;with_reducible refine (HC.out _).mono ?_;rintro e w2 ⟨rfl,hb⟩)
      have HB2:=Lib.hid (Base.below_step hbr.out hb);clear hb;go_roundw
      case rel=>exact ⟨k+1,by omega,by go_num,HB2,H2⟩
      case measure=>simp [intOf];omega
    | false=>
      have H2:=Lib.hid (show R=400 by rw [HR.out,HZ.out rfl];rfl);clear HN HZ
      go_wp2_with (go_at_call 296;with_reducible refine (HC.out _).mono ?_;rintro e w2 ⟨rfl,hb⟩)
      have HB2:=Lib.hid (Base.below_step (Base.below_step HB.out hbr.out) hb);clear hb;go_ret;exact ⟨by rw [H2.out];rfl,HB2.out⟩
   ·obtain rfl:k=m:=by omega
    have H2:=Lib.hid (show R=0 by have:=H1.out;rw [List.take_of_length_le (by rw [HM.out];exact Nat.le_refl _)] at this;rw [HR.out,this];rfl)
    have HB2:=Lib.hid (Base.below_step HB.out hbr.out);go_wp2_with fail;go_ret;exact ⟨by rw [H2.out];rfl,HB2.out⟩
theorem alike_any (a:Option Addr) (n cap:Nat) (vs:List ByteArray) (w:World) (hv:Strs w a n vs) (hn:n≤1000000000) :
 Calls Tryz.prog 315 #[.slice a n cap] w fun e w'=>e=.returned (.bool (alikeL vs))∧w'=w:=by
 have HV:=Lib.hid hv;have HM:=Lib.hid hv.1;obtain ⟨R,hR⟩:∃R,alikeL vs=R:=⟨_,rfl⟩;rw [hR];have HR:=Lib.hid hR;clear hv hR;go_enter Tryz.func315,Tryz.ntmps315;go_wp2
 go_loop [7] (fun i=>∃k:Nat,k≤n∧i=.int .i64 k∧Hid ((vs.take k).all (fun v=>decide (v=vs.headD ByteArray.empty))=true)) (fun i=>n-(intOf i).toNat)
 case atStart=>exact ⟨0,Nat.zero_le _,rfl,Lib.hid rfl⟩
 case round=>
  obtain ⟨k,hk,rfl,H1⟩:=hrel;rcases Nat.lt_or_ge k n with hlt | hge
  ·obtain ⟨bl,off,rfl,hbl,hc⟩:=HV.out.2 (by omega);have hck:=hc k hlt
   have hc0:=hc 0 (by omega);rw [Nat.add_zero] at hc0
   have HN:=Lib.hid (take_all_snoc (fun v:ByteArray=>decide (v=vs.headD ByteArray.empty)) ByteArray.empty vs k (by rw [HM.out];exact hlt))
   have HZ:=Lib.hid (all_of_miss (fun v:ByteArray=>decide (v=vs.headD ByteArray.empty)) ByteArray.empty vs k (by rw [HM.out];exact hlt));have hh:vs[0]?.getD ByteArray.empty=vs.headD ByteArray.empty:=by cases vs<;>rfl
   rw [hh] at hc0;clear hc hh;have i1:(k:Int)<(n:Int):=by omega
   have i0:(0:Int)<(n:Int):=by omega
   by_cases he:vs[k]?.getD ByteArray.empty=vs.headD ByteArray.empty
   ·have H2:=Lib.hid (show (vs.take (k+1)).all (fun v=>decide (v=vs.headD ByteArray.empty))=true by rw [HN.out,H1.out,he];simp);rw [he] at hck;clear he HN HZ;generalize vs.headD ByteArray.empty=y at *;go_wp2_with fail;go_round
    case rel=>exact ⟨k+1,by omega,by go_num,H2⟩
    case measure=>simp [intOf];omega
   ·have H2:=Lib.hid (show R=false by rw [←HR.out];exact HZ.out (decide_eq_false he));clear HN HZ;generalize vs[k]?.getD ByteArray.empty=x at *;generalize vs.headD ByteArray.empty=y at *
    have he2:¬x.toList=y.toList:=fun h=>he ((toList_iff x y).1 h);have he3:(x.toList==y.toList)=false:=by simpa using he2
    go_wp2_with fail;go_ret;exact ⟨by rw [H2.out];rfl,rfl⟩
  ·obtain rfl:k=n:=by omega
   have H2:=Lib.hid (show R=true by have:=H1.out;rw [List.take_of_length_le (by rw [HM.out];exact Nat.le_refl _)] at this;rw [←HR.out];exact this)
   go_wp2_with fail;go_ret;exact ⟨by rw [H2.out];rfl,rfl⟩
end code
end Go.Proofs.YtnabkcglnbdfeaaGreatDoor.Frm
namespace Go.Proofs.YtnabkcglnbdfeaaGreatDoor.Frm
open Go.RowKit Base Txt
theorem counts_one (lc lf ll:Bool) (l:List ByteArray) (h:l.length=1):counts lc lf ll l=some (l.headD ByteArray.empty):=by unfold counts;rw [decide_eq_true h];rfl
theorem counts_alike (lf ll:Bool) (l:List ByteArray) (h:alikeL l=true):counts true lf ll l=some (l.headD ByteArray.empty):=by unfold counts;rw [h];simp
theorem counts_first (lc ll:Bool) (l:List ByteArray):counts lc true ll l=some (l.headD ByteArray.empty):=by unfold counts;simp
theorem counts_last (lc:Bool) (l:List ByteArray) (h:¬l.length=1) (h2:(lc&&alikeL l)=false):counts lc false true l=some (l.getLastD ByteArray.empty):=by unfold counts;rw [decide_eq_false h,h2];rfl
theorem counts_none (lc:Bool) (l:List ByteArray) (h:¬l.length=1) (h2:(lc&&alikeL l)=false):counts lc false false l=none:=by unfold counts;rw [decide_eq_false h,h2];rfl
theorem strs_ends {w:World} {a:Option Addr} {K:Nat} {l:List ByteArray} (h:Strs w a (K+1) l) :
 ∃bl off,a=some ⟨bl,off,none⟩∧w.cell? ⟨bl,off,none⟩=some (.string (l.headD ByteArray.empty))∧w.cell? ⟨bl,off+K,none⟩=some (.string (l.getLastD ByteArray.empty)):=by
 obtain ⟨bl,off,rfl,_,hc⟩:=h.2 (by omega)
 have h0:=hc 0 (by omega)
 have hK:=hc K (by omega);rw [Nat.add_zero] at h0;have hl:=h.1;refine ⟨bl,off,rfl,?_,?_⟩
 ·rw [h0];cases l<;>rfl
 ·rw [hK,List.getLastD_eq_getLast?,List.getLast?_eq_getElem?,hl];rfl
structure Kp (w0:World) (ch:Bool) (body:Int) (w:World):Prop where
 q3:w.cell? ⟨w0.heap.size,3,none⟩=some (.int .i64 body)
 q8:w.cell? ⟨w0.heap.size,8,none⟩=some (.bool ch)
 f:Gb w (w0.heap.size+1) 0 0
 lt:w0.heap.size+1<w.heap.size
 b:Below w0.heap.size w0 w
theorem Kp.new (w:World) (t t2:TypeId) (x0 x1 x2 x3 x4 x5 x6 x7:Int) (c d:Bool) :
 Kp w c x3 ((w.alloc (.cells #[.int .i64 x0,.int .i64 x1,.int .i64 x2,.int .i64 x3,.int .i64 x4,.int .i64 x5,.int .i64 x6,.int .i64 x7,.bool c,.bool d] t)).alloc (.cells #[.int .i64 0,.int .i64 0] t2)):=by
 have hA:=Bnd.At.new w t x0 x1 x2 x3 x4 x5 x6 x7 c d;have hb:Below (w.alloc (.cells #[.int .i64 x0,.int .i64 x1,.int .i64 x2,.int .i64 x3,.int .i64 x4,.int .i64 x5,.int .i64 x6,.int .i64 x7,.bool c,.bool d] t)).heap.size _ _:=
  (Below.refl _ _).alloc (Nat.le_refl _) (.cells #[.int .i64 0,.int .i64 0] t2)
 have hB:=hA.below (by simp) hb;have hG:=Gb.new (w.alloc (.cells #[.int .i64 x0,.int .i64 x1,.int .i64 x2,.int .i64 x3,.int .i64 x4,.int .i64 x5,.int .i64 x6,.int .i64 x7,.bool c,.bool d] t)) t2 0 0;rw [show (w.alloc (.cells #[.int .i64 x0,.int .i64 x1,.int .i64 x2,.int .i64 x3,.int .i64 x4,.int .i64 x5,.int .i64 x6,.int .i64 x7,.bool c,.bool d] t)).heap.size=w.heap.size+1 by simp] at hG;exact ⟨hB.q3,hB.q8,hG,by simp,((Below.refl _ _).alloc (Nat.le_refl _) _).alloc (by simp) _⟩
theorem Kp.step {w0 w w':World} {ch:Bool} {body:Int} (h:Kp w0 ch body w) (hb:Below w.heap.size w w'):Kp w0 ch body w':=
 ⟨(hb.cell (p:=⟨w0.heap.size,3,none⟩) (by have:=h.lt;simp;omega)).trans h.q3,(hb.cell (p:=⟨w0.heap.size,8,none⟩) (by have:=h.lt;simp;omega)).trans h.q8,
  h.f.below h.lt hb,Nat.lt_of_lt_of_le h.lt hb.size,Base.below_step h.b hb⟩
section code
set_option maxHeartbeats 4000000
set_option maxRecDepth 10000
attribute [local go_sem] Base.some_undef
theorem pick_any (p:Nat) (hp:p<4294967296) (a:Option Addr) (n cap:Nat) (vs:List ByteArray) (w:World) (hv:Strs w a n vs) (hr:room vs≤1000000000) (hne:0<n) :
 Calls Tryz.prog 298 #[.int .u32 (p:Nat),.slice a n cap] w fun e w'=>e=.returned (ansC (counts (Qk.has p 24) (Qk.has p 25) (Qk.has p 26) (if Qk.has p 24=true then list vs else vs)))∧Below w.heap.size w w':=by
 have H24:=Lib.hid (fun w=>Qk.has_any p hp 24 w)
 have H25:=Lib.hid (fun w=>Qk.has_any p hp 25 w)
 have H26:=Lib.hid (fun w=>Qk.has_any p hp 26 w)
 have HL:=Lib.hid (list_at a n cap vs w hv hr);have hll:=Nat.le_trans (list_le vs) hr
 have hlp:=list_ne_nil vs (fun e=>by have:=hv.1;rw [e] at this;simp at this;omega);have hnr:=Nat.le_trans (len_room vs) hr;rw [hv.1] at hnr;clear hp hr;generalize Qk.has p 24=lc at *;generalize Qk.has p 25=lf at *;generalize Qk.has p 26=ll at *;cases lc with
 | false=>
   rw [if_neg (by decide)];clear HL hll hlp;obtain ⟨K,rfl⟩:∃K,n=K+1:=⟨n-1,by omega⟩;obtain ⟨bl,off,rfl,hd,hz⟩:=strs_ends hv;have hl:=hv.1;have c1:IntKind.i64.wrap (((K+1:Nat):Int)-1)=(K:Int):=by rw [wrap_in _ (by omega) (by omega)];omega
   have c2:wrap64 (((K+1:Nat):Int)-1)=(K:Int):=by unfold wrap64;omega
   have i0:(0:Int)<((K+1:Nat):Int):=by omega
   have iK:(K:Int)<((K+1:Nat):Int):=by omega
   by_cases hK:K=0
   ·rw [counts_one _ _ _ _ (by omega)]
    have t0:((K:Int)==0)=true:=beq_iff_eq.2 (by omega);clear hv hl hK;generalize vs.headD ByteArray.empty=y at *;generalize vs.getLastD ByteArray.empty=z at *;go_enter Tryz.func298,Tryz.ntmps298
    go_wp2_with (go_at_call 92;with_reducible refine (H24.out _).mono ?_;rintro e w1 ⟨rfl,hw⟩;rw [hw];clear hw);go_ret2;exact ⟨rfl,Below.refl _ _⟩
   ·have t0:((K:Int)==0)=false:=beq_eq_false_iff_ne.2 (by omega);obtain ⟨O,hO⟩:∃O,counts false lf ll vs=O:=⟨_,rfl⟩;rw [hO];cases lf with
    | true=>
      rw [counts_first] at hO;subst hO;clear hv hl hK;generalize vs.headD ByteArray.empty=y at *;generalize vs.getLastD ByteArray.empty=z at *;go_enter Tryz.func298,Tryz.ntmps298
      go_wp2_with (first
       |(go_at_call 92;with_reducible refine (H24.out _).mono ?_;rintro e w1 ⟨rfl,hw⟩;rw [hw];clear hw)
       |(go_at_call 92;with_reducible refine (H25.out _).mono ?_;rintro e w1 ⟨rfl,hw⟩;rw [hw];clear hw))
      go_ret2;exact ⟨rfl,Below.refl _ _⟩
    | false=>
      cases ll
      ·rw [counts_none false vs (by omega) rfl] at hO;subst hO;clear hv hl hK;generalize vs.headD ByteArray.empty=y at *;generalize vs.getLastD ByteArray.empty=z at *;go_enter Tryz.func298,Tryz.ntmps298
       go_wp2_with (first
        |(go_at_call 92;with_reducible refine (H24.out _).mono ?_;rintro e w1 ⟨rfl,hw⟩;rw [hw];clear hw)
        |(go_at_call 92;with_reducible refine (H25.out _).mono ?_;rintro e w1 ⟨rfl,hw⟩;rw [hw];clear hw)
        |(go_at_call 92;with_reducible refine (H26.out _).mono ?_;rintro e w1 ⟨rfl,hw⟩;rw [hw];clear hw))
       go_ret2;exact ⟨rfl,Below.refl _ _⟩
      ·rw [counts_last false vs (by omega) rfl] at hO;subst hO;clear hv hl hK;generalize vs.headD ByteArray.empty=y at *;generalize vs.getLastD ByteArray.empty=z at *;go_enter Tryz.func298,Tryz.ntmps298
       go_wp2_with (first
        |(go_at_call 92;with_reducible refine (H24.out _).mono ?_;rintro e w1 ⟨rfl,hw⟩;rw [hw];clear hw)
        |(go_at_call 92;with_reducible refine (H25.out _).mono ?_;rintro e w1 ⟨rfl,hw⟩;rw [hw];clear hw)
        |(go_at_call 92;with_reducible refine (H26.out _).mono ?_;rintro e w1 ⟨rfl,hw⟩;rw [hw];clear hw))
       go_ret2;exact ⟨rfl,Below.refl _ _⟩
 | true=>
   rw [if_pos rfl];clear hv;generalize list vs=U at *;obtain ⟨K,hK1⟩:∃K,U.length=K+1:=⟨U.length-1,by omega⟩;rw [hK1] at HL hll
   have HE:=Lib.hid (fun (a':Option Addr) (w':World) (hS:Strs w' a' (K+1) U)=>strs_ends hS)
   have HA:=Lib.hid (fun a c w hS=>alike_any a (K+1) c U w hS (by omega));have c1:IntKind.i64.wrap (((K+1:Nat):Int)-1)=(K:Int):=by rw [wrap_in _ (by omega) (by omega)];omega
   have c2:wrap64 (((K+1:Nat):Int)-1)=(K:Int):=by unfold wrap64;omega
   have i0:(0:Int)<((K+1:Nat):Int):=by omega
   have iK:(K:Int)<((K+1:Nat):Int):=by omega
   obtain ⟨O,hO⟩:∃O,counts true lf ll U=O:=⟨_,rfl⟩;rw [hO];by_cases hK:K=0
   ·rw [counts_one _ _ _ _ (by omega)] at hO;subst hO
    have t0:((K:Int)==0)=true:=beq_iff_eq.2 (by omega);clear hK1 hK;generalize U.headD ByteArray.empty=y at *;generalize U.getLastD ByteArray.empty=z at *;go_enter Tryz.func298,Tryz.ntmps298
    go_wp2_with (first
     |(go_at_call 92;with_reducible refine (H24.out _).mono ?_;rintro e w1 ⟨rfl,hw⟩;rw [hw];clear hw)
     |(go_at_call 166;with_reducible refine (HL.out).mono ?_;rintro e w1 ⟨b,c,rfl,hS,hb⟩
       obtain ⟨bl,off,rfl,hd,hz⟩:=HE.out _ _ hS;have HB:=Lib.hid hb;clear hS hb))
    go_ret2;exact ⟨rfl,HB.out⟩
   have t0:((K:Int)==0)=false:=beq_eq_false_iff_ne.2 (by omega);have hne1:¬U.length=1:=by omega
   cases hq:alikeL U with
   | true=>
     rw [counts_alike _ _ _ hq] at hO;rw [hq] at HA;subst hO;clear hK1 hK hq;generalize U.headD ByteArray.empty=y at *;generalize U.getLastD ByteArray.empty=z at *;go_enter Tryz.func298,Tryz.ntmps298
     go_wp2_with (first
      |(go_at_call 315;with_reducible refine (HA.out _ _ _ HS.out).mono ?_;rintro e w2 ⟨rfl,hw⟩;rw [hw];clear hw)
      |(go_at_call 92;with_reducible refine (H24.out _).mono ?_;rintro e w1 ⟨rfl,hw⟩;rw [hw];clear hw)
      |(go_at_call 166;with_reducible refine (HL.out).mono ?_;rintro e w1 ⟨b,c,rfl,hS,hb⟩
        obtain ⟨bl,off,rfl,hd,hz⟩:=HE.out _ _ hS;have HS:=Lib.hid hS;have HB:=Lib.hid hb;clear hS hb))
     go_ret2;exact ⟨rfl,HB.out⟩
   | false=>
     rw [hq] at HA;have hO2:O=if lf=true then some (U.headD ByteArray.empty) else if ll=true then some (U.getLastD ByteArray.empty) else none:=by
      rw [←hO];cases lf
      ·cases ll
       ·rw [counts_none true U hne1 hq];rfl
       ·rw [counts_last true U hne1 hq];rfl
      ·rw [counts_first];rfl
     clear hO hK1 hK hq hne1;generalize U.headD ByteArray.empty=y at *;generalize U.getLastD ByteArray.empty=z at *;cases lf<;>cases ll;all_goals
      subst hO2;go_enter Tryz.func298,Tryz.ntmps298
      go_wp2_with (first
       |(go_at_call 315;with_reducible refine (HA.out _ _ _ HS.out).mono ?_;rintro e w2 ⟨rfl,hw⟩;rw [hw];clear hw)
       |(go_at_call 92;with_reducible refine (H24.out _).mono ?_;rintro e w1 ⟨rfl,hw⟩;rw [hw];clear hw)
       |(go_at_call 92;with_reducible refine (H25.out _).mono ?_;rintro e w1 ⟨rfl,hw⟩;rw [hw];clear hw)
       |(go_at_call 92;with_reducible refine (H26.out _).mono ?_;rintro e w1 ⟨rfl,hw⟩;rw [hw];clear hw)
       |(go_at_call 166;with_reducible refine (HL.out).mono ?_;rintro e w1 ⟨b,c,rfl,hS,hb⟩
         obtain ⟨bl,off,rfl,hd,hz⟩:=HE.out _ _ hS;have HS:=Lib.hid hS;have HB:=Lib.hid hb;clear hS hb))
      go_ret2;exact ⟨rfl,HB.out⟩
theorem length_any (p:Nat) (hp:p<4294967296) (most:Int) (hM:most≤9223372036854775807) (a:Option Addr) (n cap:Nat) (vs:List ByteArray) (w:World) (hv:Strs w a n vs) (hr:room vs≤1000000000) :
 Calls Tryz.prog 273 #[.int .u32 (p:Nat),.int .i64 most,.slice a n cap] w fun e w'=>e=.returned (.tuple #[.int .i64 (lengthV (Qk.has p 23) (Qk.has p 24) (Qk.has p 25) (Qk.has p 26) most vs).1,.int .i64 (lengthV (Qk.has p 23) (Qk.has p 24) (Qk.has p 25) (Qk.has p 26) most vs).2])∧Below w.heap.size w w':=by
 obtain ⟨R,hR⟩:∃R,lengthV (Qk.has p 23) (Qk.has p 24) (Qk.has p 25) (Qk.has p 26) most vs=R:=⟨_,rfl⟩;rw [hR];unfold lengthV at hR;have hl:=hv.1;by_cases hn:n=0
 ·subst hn;obtain rfl:=List.eq_nil_of_length_eq_zero hl;rw [if_pos rfl] at hR;subst hR;go_enter Tryz.func273,Tryz.ntmps273;go_wp2_with fail;go_ret2;exact ⟨rfl,Below.refl _ _⟩
 rw [if_neg (fun e=>hn (by rw [←hl,e];rfl))] at hR
 have HP:=Lib.hid (pick_any p hp a n cap vs w hv hr (by omega))
 have H23:=Lib.hid (fun w=>Qk.has_any p hp 23 w)
 have HM:=Lib.hid (fun s (h:counts (Qk.has p 24) (Qk.has p 25) (Qk.has p 26) (if Qk.has p 24=true then list vs else vs)=some s)=>show s.size≤1000000000 by
  have hne:vs≠ []:=fun e=>hn (by rw [←hl,e];rfl);by_cases hc:Qk.has p 24=true
  ·rw [if_pos hc] at h
   have:=list_mem_size vs s (counts_mem _ _ _ _ _ h (fun e=>by have:=list_ne_nil vs hne;rw [e] at this;exact absurd this (by decide)));omega
  ·rw [if_neg hc] at h
   have:=room_mem vs s (counts_mem _ _ _ _ _ h hne);omega)
 have t0:((n:Int)==0)=false:=beq_eq_false_iff_ne.2 (by omega);generalize counts (Qk.has p 24) (Qk.has p 25) (Qk.has p 26) (if Qk.has p 24=true then list vs else vs)=O at *;generalize Qk.has p 23=lp at *;clear hv hr hl;cases O with
 | none=>
   simp only at hR;subst hR;clear HM;unfold ansC at HP;go_enter Tryz.func273,Tryz.ntmps273
   go_wp2_with (go_at_call 298;with_reducible refine (HP.out).mono ?_;rintro e w1 ⟨rfl,hb⟩);go_ret2;exact ⟨rfl,hb⟩
 | some s=>
   simp only at hR;have hs:=HM.out s rfl
   have HT:=Lib.hid (fun w=>Tryz.strings_TrimPrefix s ⟨#[43]⟩ w);rw [show (ByteArray.mk #[43]).data.toList= [43] from rfl,plus_trim s] at HT
   have HD:=Lib.hid (fun w=>Num.dec_any most hM (unplus lp s) w (Nat.le_trans (unplus_size lp s) (Nat.le_trans hs (by decide))));generalize Num.readOf 10 most (unplus lp s).data.toList=N at *;obtain ⟨N1,N2⟩:=N;unfold ansC at HP;simp only at HD HP;unfold numV at hR;simp only at hR;clear HM hs;have hcase:(N2=22∧R=(0,400))∨((N2==22)=false∧N2=23∧R=(0,413))∨((N2==22)=false∧(N2==23)=false∧R=(N1,0)):=by
    by_cases h1:N2=22
    ·rw [if_pos h1] at hR;exact .inl ⟨h1,hR.symm⟩
    ·rw [if_neg h1] at hR;by_cases h2:N2=23
     ·rw [if_pos h2] at hR;exact .inr (.inl ⟨beq_eq_false_iff_ne.2 h1,h2,hR.symm⟩)
     ·rw [if_neg h2] at hR;exact .inr (.inr ⟨beq_eq_false_iff_ne.2 h1,beq_eq_false_iff_ne.2 h2,hR.symm⟩)
   clear hR;cases lp with
   | false=>
     rw [show unplus false s=s from rfl] at HD;clear HT;rcases hcase with ⟨rfl,rfl⟩ | ⟨t1,rfl,rfl⟩ | ⟨t1,t2,rfl⟩;all_goals
      go_enter Tryz.func273,Tryz.ntmps273
      go_wp2_with (first
       |(go_at_call 298;with_reducible refine (HP.out).mono ?_;rintro e w1 ⟨rfl,hb⟩)
       |(go_at_call 92;with_reducible refine (H23.out _).mono ?_;rintro e w2 ⟨rfl,hw⟩;rw [hw];clear hw)
       |(go_at_call 300;with_reducible refine (HD.out _).mono ?_;rintro e w3 ⟨rfl,hb3⟩))
      go_ret2;exact ⟨rfl,Base.below_step hb hb3⟩
   | true=>
     generalize unplus true s=T at *;rcases hcase with ⟨rfl,rfl⟩ | ⟨t1,rfl,rfl⟩ | ⟨t1,t2,rfl⟩;all_goals
      go_enter Tryz.func273,Tryz.ntmps273
      go_wp2_with (first
       |(go_at_call 298;with_reducible refine (HP.out).mono ?_;rintro e w1 ⟨rfl,hb⟩)
       |(go_at_call 92;with_reducible refine (H23.out _).mono ?_;rintro e w2 ⟨rfl,hw⟩;rw [hw];clear hw)
       |(go_at_call 299;with_reducible refine (HT.out _).mono ?_;rintro e w2 ⟨rfl,hw⟩;rw [hw];clear hw)
       |(go_at_call 300;with_reducible refine (HD.out _).mono ?_;rintro e w3 ⟨rfl,hb3⟩))
      go_ret2;exact ⟨rfl,Base.below_step hb hb3⟩
end code
end Go.Proofs.YtnabkcglnbdfeaaGreatDoor.Frm
namespace Go.Proofs.YtnabkcglnbdfeaaGreatDoor.Frm
open Go.RowKit Base Txt
section code
set_option maxHeartbeats 4000000
set_option maxRecDepth 10000
attribute [local go_sem] Base.some_undef
theorem wins_any (p:Nat) (hp:p<4294967296) (minor:Int) (a:Option Addr) (n cap:Nat) (vs:List ByteArray) (b:Option Addr) (m cap2:Nat) (w:World) (hv:Strs w a n vs) (hr:room vs≤1000000000) :
 Calls Tryz.prog 272 #[.int .u32 (p:Nat),.int .i64 minor,.slice a n cap,.slice b m cap2] w fun e w'=>e=.returned (.tuple #[.bool (winsV (Qk.has p 20) (Qk.has p 19) (Qk.has p 21) (Qk.has p 22) minor n m (coding (Qk.has p 17) (Qk.has p 18) vs)).1,.int .i64 (winsV (Qk.has p 20) (Qk.has p 19) (Qk.has p 21) (Qk.has p 22) minor n m (coding (Qk.has p 17) (Qk.has p 18) vs)).2])∧Below w.heap.size w w':=by
 have HC:=Lib.hid (coding_any p hp a n cap vs w hv hr)
 have H20:=Lib.hid (fun w=>Qk.has_any p hp 20 w)
 have H21:=Lib.hid (fun w=>Qk.has_any p hp 21 w)
 have U19:=Lib.hid (fun w=>unless_any p hp 19 501 w)
 have U22:=Lib.hid (fun w=>unless_any p hp 22 400 w);generalize coding (Qk.has p 17) (Qk.has p 18) vs=cod at *;generalize Qk.has p 20=td at *;generalize Qk.has p 21=tw at *;have hti:∀ti:Bool,(if ti=true then (0:Int) else 501)=if ti=true then 0 else 501:=fun _=>rfl
 generalize Qk.has p 19=ti at *;generalize Qk.has p 22=lw at *;clear hv hr hp hti;obtain ⟨R,hR⟩:∃R,winsV td ti tw lw minor n m cod=R:=⟨_,rfl⟩;rw [hR];unfold winsV at hR;by_cases hn:n=0
 ·rw [if_pos hn] at hR;subst hR
  have t0:((n:Int)==0)=true:=beq_iff_eq.2 (by omega);clear hn;go_enter Tryz.func272,Tryz.ntmps272;go_wp2_with fail;go_ret2;exact ⟨rfl,Below.refl _ _⟩
 rw [if_neg hn] at hR
 have t0:((n:Int)==0)=false:=beq_eq_false_iff_ne.2 (by omega);clear hn;by_cases hO:minor=0∧td=false
 ·obtain ⟨rfl,rfl⟩:=hO;rw [if_pos (by decide)] at hR;subst hR;go_enter Tryz.func272,Tryz.ntmps272
  go_wp2_with (go_at_call 92;with_reducible refine (H20.out _).mono ?_;rintro e w1 ⟨rfl,hw⟩;rw [hw];clear hw);go_ret2;exact ⟨rfl,Below.refl _ _⟩
 have hO2:(minor=0∧td=true)∨(minor==0)=false:=by
  by_cases h:minor=0
  ·cases td
   ·exact absurd ⟨h,rfl⟩ hO
   ·exact .inl ⟨h,rfl⟩
  ·exact .inr (beq_eq_false_iff_ne.2 h)
 rw [if_neg (by
  rintro h;rw [Bool.and_eq_true,decide_eq_true_eq,Bool.not_eq_true'] at h
  exact hO h)] at hR
 clear hO;cases cod with
 | false=>
   rw [if_pos rfl] at hR;generalize (if ti=true then (0:Int) else 501)=E1 at *;subst hR;rcases hO2 with ⟨rfl,rfl⟩ | t1;all_goals
    go_enter Tryz.func272,Tryz.ntmps272
    go_wp2_with (first
     |(go_at_call 92;with_reducible refine (H20.out _).mono ?_;rintro e w1 ⟨rfl,hw⟩;rw [hw];clear hw)
     |(go_at_call 297;with_reducible refine (HC.out).mono ?_;rintro e w1 ⟨rfl,hb⟩)
     |(go_at_call 295;with_reducible refine (U19.out _).mono ?_;rintro e w2 ⟨rfl,hw⟩;rw [hw];clear hw))
    go_ret2;exact ⟨rfl,hb⟩
 | true=>
   rw [if_neg (by decide)] at hR;by_cases hB:0<m∧tw=false
   ·obtain ⟨h0,rfl⟩:=hB;rw [if_pos (by rw [decide_eq_true h0];rfl)] at hR;generalize (if lw=true then (0:Int) else 400)=E1 at *;subst hR;have t2:(0:Int)<(m:Int):=by omega
    clear h0;rcases hO2 with ⟨rfl,rfl⟩ | t1;all_goals
     go_enter Tryz.func272,Tryz.ntmps272
     go_wp2_with (first
      |(go_at_call 92;with_reducible refine (H20.out _).mono ?_;rintro e w1 ⟨rfl,hw⟩;rw [hw];clear hw)
      |(go_at_call 92;with_reducible refine (H21.out _).mono ?_;rintro e w1 ⟨rfl,hw⟩;rw [hw];clear hw)
      |(go_at_call 297;with_reducible refine (HC.out).mono ?_;rintro e w1 ⟨rfl,hb⟩)
      |(go_at_call 295;with_reducible refine (U22.out _).mono ?_;rintro e w2 ⟨rfl,hw⟩;rw [hw];clear hw))
     go_ret2;exact ⟨rfl,hb⟩
   ·rw [if_neg (by
     rintro h;rw [Bool.and_eq_true,decide_eq_true_eq,Bool.not_eq_true'] at h
     exact hB h)] at hR
    subst hR;have hB2:(m=0)∨(0<m∧tw=true):=by
     rcases Nat.eq_zero_or_pos m with h | h
     ·exact .inl h
     ·right;cases tw
      ·exact absurd ⟨h,rfl⟩ hB
      ·exact ⟨h,rfl⟩
    clear hB;rcases hO2 with ⟨rfl,rfl⟩ | t1<;>rcases hB2 with rfl | ⟨h0,rfl⟩;all_goals
     try (have t2:(0:Int)<(m:Int):=by omega)
     go_enter Tryz.func272,Tryz.ntmps272
     go_wp2_with (first
      |(go_at_call 92;with_reducible refine (H20.out _).mono ?_;rintro e w1 ⟨rfl,hw⟩;rw [hw];clear hw)
      |(go_at_call 92;with_reducible refine (H21.out _).mono ?_;rintro e w1 ⟨rfl,hw⟩;rw [hw];clear hw)
      |(go_at_call 297;with_reducible refine (HC.out).mono ?_;rintro e w1 ⟨rfl,hb⟩))
     go_ret2;exact ⟨rfl,hb⟩
theorem decide_any (p:Nat) (hp:p<4294967296) (x0 x1 x2 x3 x4 x5 x6 x7:Int) (ch od:Bool) (hx:x3≤9223372036854775807) (minor:Int) (a:Option Addr) (n cap:Nat) (fs:List Fld) (w:World) (hv:Flds w a n fs) (hn:n≤500) (hs:∀f∈fs,f.1.size≤1000000∧f.2.size≤1000000) :
 Calls Tryz.prog 247 #[.int .u32 (p:Nat),Bnd.bnd x0 x1 x2 x3 x4 x5 x6 x7 ch od,.int .i64 minor,.slice a n cap] w fun e w'=>e=.returned (.tuple #[fr (decideV (clOf p) ch x3 minor fs).1 (decideV (clOf p) ch x3 minor fs).2.1,.int .i64 (decideV (clOf p) ch x3 minor fs).2.2])∧Below w.heap.size w w':=by
 have HV:=Lib.hid (fun w' hb=>hv.below (w':=w') hb)
 have HH:=Lib.hid (fun w' hb=>hosts_any p hp minor a n cap fs w' (hv.below (w':=w') hb) (by omega) (fun f hf=>by have:=hs f hf;omega))
 have HF1:=Lib.hid (fun w' hb=>find_at a n cap fs ⟨#[84,114,97,110,115,102,101,114,45,69,110,99,111,100,105,110,103]⟩ w' (hv.below (w':=w') hb) (by omega) (fun f hf=>by have:=hs f hf;unfold maxLen;omega))
 have HF2:=Lib.hid (fun w' hb=>find_at a n cap fs ⟨#[67,111,110,116,101,110,116,45,76,101,110,103,116,104]⟩ w' (hv.below (w':=w') hb) (by omega) (fun f hf=>by have:=hs f hf;unfold maxLen;omega));have hrm:∀name,room (find fs name)≤1000000000:=fun name=>by
  have h1:=room_le (find fs name) 1000000 (find_sizes fs name 1000000 fun f hf=>(hs f hf).2);have h2:=find_le fs name;rw [hv.1] at h2
  have h3:(find fs name).length*(1000000+1)≤500*1000001:=Nat.mul_le_mul (by omega) (by omega);omega
 have hrm1:=hrm ⟨#[84,114,97,110,115,102,101,114,45,69,110,99,111,100,105,110,103]⟩;have hrm2:=hrm ⟨#[67,111,110,116,101,110,116,45,76,101,110,103,116,104]⟩;obtain ⟨R,hR⟩:∃R,decideV (clOf p) ch x3 minor fs=R:=⟨_,rfl⟩;rw [hR]
 replace hR:bodyV (hostsV (Qk.has p 15) (Qk.has p 16) minor (find fs ⟨#[72,111,115,116]⟩)) ch
  (winsV (Qk.has p 20) (Qk.has p 19) (Qk.has p 21) (Qk.has p 22) minor (find fs ⟨#[84,114,97,110,115,102,101,114,45,69,110,99,111,100,105,110,103]⟩).length (find fs ⟨#[67,111,110,116,101,110,116,45,76,101,110,103,116,104]⟩).length (coding (Qk.has p 17) (Qk.has p 18) (find fs ⟨#[84,114,97,110,115,102,101,114,45,69,110,99,111,100,105,110,103]⟩)))
  (lengthV (Qk.has p 23) (Qk.has p 24) (Qk.has p 25) (Qk.has p 26) x3 (find fs ⟨#[67,111,110,116,101,110,116,45,76,101,110,103,116,104]⟩))=R:=hR
 rw [show find fs hostN=find fs ⟨#[72,111,115,116]⟩ from rfl] at HH;generalize find fs ⟨#[72,111,115,116]⟩=LH at *;generalize find fs ⟨#[84,114,97,110,115,102,101,114,45,69,110,99,111,100,105,110,103]⟩=LT at *;generalize find fs ⟨#[67,111,110,116,101,110,116,45,76,101,110,103,116,104]⟩=LC at *
 have HW:=Lib.hid (fun a' c' b' c2 w' hS=>wins_any p hp minor a' LT.length c' LT b' LC.length c2 w' hS hrm1)
 have HL:=Lib.hid (fun a' c' w' hS=>length_any p hp x3 hx a' LC.length c' LC w' hS hrm2);generalize hostsV (Qk.has p 15) (Qk.has p 16) minor LH=Z at *;generalize winsV (Qk.has p 20) (Qk.has p 19) (Qk.has p 21) (Qk.has p 22) minor LT.length LC.length (coding (Qk.has p 17) (Qk.has p 18) LT)=WV at *;generalize lengthV (Qk.has p 23) (Qk.has p 24) (Qk.has p 25) (Qk.has p 26) x3 LC=LV at *;generalize LT.length=nT at *;generalize LC.length=nC at *;obtain ⟨wb,we⟩:=WV;obtain ⟨ln,le⟩:=LV;unfold bodyV fixedV at hR;simp only at hR HW HL;clear hrm hrm1 hrm2 hv hs hp hx hn HV
 have HK0:=Lib.hid (Kp.new w 29 217 x0 x1 x2 x3 x4 x5 x6 x7 ch od);by_cases hZ:Z≠0
 ·rw [if_pos hZ] at hR;subst hR;have tz:(Z==0)=false:=beq_eq_false_iff_ne.2 hZ;clear hZ;go_enter Tryz.func247,Tryz.ntmps247
  go_wp2_with (go_at_call 271;(with_reducible refine (HH.out _ HK0.out.b).mono ?_);rintro e w1 ⟨rfl,hb⟩
               have HK:=Lib.hid (HK0.out.step hb);obtain ⟨q3,q8,⟨c0,c1,z0,z1⟩,hlt,hbk⟩:=HK.out;clear hlt hbk hb)
  obtain ⟨W,hW,⟨d0,d1,_,_⟩,hbW⟩:=Gb.put HK.out.f HK.out.b (Nat.le_succ _) 0 0;rw [hW];exact bodyPost_ret (v:=.tuple #[fr 0 0,.int .i64 Z]) (by simp [results,Tryz.results247,go_sem,d0,d1]) rfl ⟨rfl,hbW⟩
 rw [if_neg hZ] at hR;obtain rfl:Z=0:=Decidable.not_not.1 hZ;clear hZ;by_cases hE:we≠0
 ·rw [if_pos hE] at hR;subst hR;have tz:(we==0)=false:=beq_eq_false_iff_ne.2 hE;clear hE;go_enter Tryz.func247,Tryz.ntmps247
  go_wp2_with (first
   |(go_at_call 272;(with_reducible refine (HW.out _ _ _ _ _ HS1.out).mono ?_);rintro e w4 ⟨rfl,hb⟩
     replace HK:=Lib.hid (HK.out.step hb)
     obtain ⟨q3,q8,⟨c0,c1,z0,z1⟩,hlt,hbk⟩:=HK.out;clear hlt hbk hb)
   |(go_at_call 102;(with_reducible refine (HF2.out _ HK.out.b).mono ?_);rintro e w3 ⟨b3,k3,rfl,hS,hb⟩
     replace HK:=Lib.hid (HK.out.step hb)
     replace HS1:=Lib.hid (HS1.out.below hb)
     clear hS hb)
   |(go_at_call 102;(with_reducible refine (HF1.out _ HK.out.b).mono ?_);rintro e w2 ⟨b2,k2,rfl,hS,hb⟩
     replace HK:=Lib.hid (HK.out.step hb)
     have HS1:=Lib.hid hS;clear hS hb)
   |(go_at_call 271;(with_reducible refine (HH.out _ HK0.out.b).mono ?_);rintro e w1 ⟨rfl,hb⟩
     have HK:=Lib.hid (HK0.out.step hb);clear hb))
  obtain ⟨W,hW,⟨d0,d1,_,_⟩,hbW⟩:=Gb.put HK.out.f HK.out.b (Nat.le_succ _) 0 0;rw [hW];exact bodyPost_ret (v:=.tuple #[fr 0 0,.int .i64 we]) (by simp [results,Tryz.results247,go_sem,d0,d1]) rfl ⟨rfl,hbW⟩
 rw [if_neg hE] at hR;obtain rfl:we=0:=Decidable.not_not.1 hE;clear hE;cases wb with
 | true=>
   rw [if_pos rfl] at hR;cases ch;all_goals
    first | rw [if_pos rfl] at hR | rw [if_neg (by decide)] at hR
    subst hR;go_enter Tryz.func247,Tryz.ntmps247
    go_wp2_with (first
     |(go_at_call 272;(with_reducible refine (HW.out _ _ _ _ _ HS1.out).mono ?_);rintro e w4 ⟨rfl,hb⟩
       replace HK:=Lib.hid (HK.out.step hb)
       obtain ⟨q3,q8,⟨c0,c1,z0,z1⟩,hlt,hbk⟩:=HK.out;clear hlt hbk hb)
     |(go_at_call 102;(with_reducible refine (HF2.out _ HK.out.b).mono ?_);rintro e w3 ⟨b3,k3,rfl,hS,hb⟩
       replace HK:=Lib.hid (HK.out.step hb)
       replace HS1:=Lib.hid (HS1.out.below hb)
       clear hS hb)
     |(go_at_call 102;(with_reducible refine (HF1.out _ HK.out.b).mono ?_);rintro e w2 ⟨b2,k2,rfl,hS,hb⟩
       replace HK:=Lib.hid (HK.out.step hb)
       have HS1:=Lib.hid hS;clear hS hb)
     |(go_at_call 271;(with_reducible refine (HH.out _ HK0.out.b).mono ?_);rintro e w1 ⟨rfl,hb⟩
       have HK:=Lib.hid (HK0.out.step hb);clear hb))
   ·obtain ⟨W,hW,⟨d0,d1,_,_⟩,hbW⟩:=Gb.put HK.out.f HK.out.b (Nat.le_succ _) 0 0;rw [hW];exact bodyPost_ret (v:=.tuple #[fr 0 0,.int .i64 501]) (by simp [results,Tryz.results247,go_sem,d0,d1]) rfl ⟨rfl,hbW⟩
   ·obtain ⟨W,hW,⟨d0,d1,_,_⟩,hbW⟩:=Gb.put HK.out.f HK.out.b (Nat.le_succ _) 2 0;rw [hW];exact bodyPost_ret (v:=.tuple #[fr 2 0,.int .i64 0]) (by simp [results,Tryz.results247,go_sem,d0,d1]) rfl ⟨rfl,hbW⟩
 | false=>
   rw [if_neg (by decide)] at hR;have hcase:(le=0∧R=(1,ln,0))∨((le==0)=false∧R=(0,0,le)):=by
    by_cases h:le=0
    ·rw [if_pos h] at hR;exact .inl ⟨h,hR.symm⟩
    ·rw [if_neg h] at hR;exact .inr ⟨beq_eq_false_iff_ne.2 h,hR.symm⟩
   clear hR;rcases hcase with ⟨rfl,rfl⟩ | ⟨tz,rfl⟩;all_goals
    go_enter Tryz.func247,Tryz.ntmps247
    go_wp2_with (first
     |(go_at_call 273;(with_reducible refine (HL.out _ _ _ HS2.out).mono ?_);rintro e w5 ⟨rfl,hb⟩;clear q3 q8
       replace HK:=Lib.hid (HK.out.step hb)
       obtain ⟨q3,q8,⟨c0,c1,z0,z1⟩,hlt,hbk⟩:=HK.out;clear hlt hbk hb)
     |(go_at_call 272;(with_reducible refine (HW.out _ _ _ _ _ HS1.out).mono ?_);rintro e w4 ⟨rfl,hb⟩
       replace HK:=Lib.hid (HK.out.step hb)
       replace HS2:=Lib.hid (HS2.out.below hb)
       obtain ⟨q3,q8,hgb,hlt,hbk⟩:=HK.out;clear hlt hbk hb hgb)
     |(go_at_call 102;(with_reducible refine (HF2.out _ HK.out.b).mono ?_);rintro e w3 ⟨b3,k3,rfl,hS,hb⟩
       replace HK:=Lib.hid (HK.out.step hb)
       replace HS1:=Lib.hid (HS1.out.below hb)
       have HS2:=Lib.hid hS;clear hS hb)
     |(go_at_call 102;(with_reducible refine (HF1.out _ HK.out.b).mono ?_);rintro e w2 ⟨b2,k2,rfl,hS,hb⟩
       replace HK:=Lib.hid (HK.out.step hb)
       have HS1:=Lib.hid hS;clear hS hb)
     |(go_at_call 271;(with_reducible refine (HH.out _ HK0.out.b).mono ?_);rintro e w1 ⟨rfl,hb⟩
       have HK:=Lib.hid (HK0.out.step hb);clear hb))
   ·obtain ⟨W,hW,⟨d0,d1,_,_⟩,hbW⟩:=Gb.put HK.out.f HK.out.b (Nat.le_succ _) 1 ln;rw [hW];exact bodyPost_ret (v:=.tuple #[fr 1 ln,.int .i64 0]) (by simp [results,Tryz.results247,go_sem,d0,d1]) rfl ⟨rfl,hbW⟩
   ·obtain ⟨W,hW,⟨d0,d1,_,_⟩,hbW⟩:=Gb.put HK.out.f HK.out.b (Nat.le_succ _) 0 0;rw [hW];exact bodyPost_ret (v:=.tuple #[fr 0 0,.int .i64 le]) (by simp [results,Tryz.results247,go_sem,d0,d1]) rfl ⟨rfl,hbW⟩
end code
end Go.Proofs.YtnabkcglnbdfeaaGreatDoor.Frm
