import Derived.Test.YtimoakmcelocfaaGreatAyf
namespace Go.Proofs.YtimoakmcelocfaaGreat.Pg
open Go.RowKit Base Txt Par
section
variable {p:Nat} {b:Bd} {t t':T}
theorem feed_nil (x:Q):x.feed p b []=x:=rfl
theorem feed_cons (x:Q) (c:UInt8) (l:List UInt8):x.feed p b (c::l)=(x.byte p b c).feed p b l:=rfl
theorem feed_app (x:Q) (l l':List UInt8):x.feed p b (l++l')=(x.feed p b l).feed p b l':=List.foldl_append
theorem feed_dead (e:Nat) (o:List Rec.R) (l:List UInt8):(Q.dead e o).feed p b l=.dead e o:=by
 induction l with
 | nil=>rfl
 | cons c l ih=>rw [feed_cons];exact ih
def T.room (b:Bd) (t:T) (n:Nat):Prop:=headed t.st=true→((t.size+n:Nat):Int)≤b.x2
structure T.Open (t:T):Prop where
 st:bodied t.st=false
 pend:t.rd.pend=false
 nf:Ln.failed t.rd.last=false
def T.went (t:T) (rd:Ln.M) (n:Nat):T:={t with rd:=rd,size:=if headed t.st=true then t.size+n else t.size,cnt:=headed t.st}
theorem take_line (h:bodied t.st=false) (c:UInt8) (hr:t.room b 1):t.take p b c=(match ({t with size:=if headed t.st=true then t.size+1 else t.size,cnt:=headed t.st}:T).inLine p b c with
 |(.live t1,false)=>(t1.look p b c).1
 |(x,_)=>x):=by
 unfold T.take T.look;have e:¬bodied ({t with cnt:=false}:T).st=true:=by rw [show ({t with cnt:=false}:T).st=t.st from rfl,h];decide
 rw [if_neg e];by_cases hh:headed t.st=true
 ·have hr':=hr hh;rw [if_pos (show headed ({t with cnt:=false}:T).st=true from hh)];have e2:T.counted {t with cnt:=false}={t with size:=if headed t.st=true then t.size+1 else t.size,cnt:=headed t.st}:=by
   unfold T.counted;rw [if_pos hh,hh];rfl
  rw [e2,if_neg (by show¬b.x2<((if headed t.st=true then t.size+1 else t.size:Nat):Int);rw [if_pos hh];omega)];rfl
 ·rw [if_neg (show¬headed ({t with cnt:=false}:T).st=true from hh)];have e2:headed t.st=false:=by simpa using hh
  rw [if_neg hh,e2];rfl
theorem take_plain (h:t.Open) (c:UInt8) (h10:c≠10) (h13:c≠13) (hm:t.rd.clear.buf.length<t.rd.most) (hr:t.room b 1) :
 t.take p b c=.live (t.went {t.rd with buf:=t.rd.clear.buf ++ [c],last:=0,pend:=false} 1):=by
 rw [take_line h.st c hr];have e0:t.rd.clear.next c=0:=by unfold Ln.M.next;rw [show t.rd.clear.last=t.rd.last from rfl,show t.rd.clear.pend=t.rd.pend from rfl,h.nf,h.pend,if_neg (by decide),if_neg (by decide),if_neg h10,if_neg h13,if_neg (by rw [show t.rd.clear.most=t.rd.most from rfl];omega)]
 have ek:t.rd.clear.keeps c=true:=by unfold Ln.M.keeps;rw [show t.rd.clear.last=t.rd.last from rfl,show t.rd.clear.pend=t.rd.pend from rfl,h.nf,h.pend,if_neg (by decide),if_neg (by decide),if_neg h10,if_neg h13,if_neg (by rw [show t.rd.clear.most=t.rd.most from rfl];omega)]
 have eb:t.rd.byte c={t.rd with buf:=t.rd.clear.buf ++ [c],last:=0,pend:=false}:=by unfold Ln.M.byte Ln.M.told;rw [e0,ek,if_pos rfl,beq_eq_false_iff_ne.2 h13];rfl
 unfold T.inLine;dsimp only;rw [e0,if_pos rfl,eb];rfl
theorem went_open (h:bodied t.st=false) {rd:Ln.M} (h1:rd.pend=false) (h2:Ln.failed rd.last=false) (n:Nat):(t.went rd n).Open:=⟨h,h1,h2⟩
theorem went_went (rd rd':Ln.M) (n k:Nat):(t.went rd n).went rd' k=t.went rd' (n+k):=by unfold T.went;dsimp only;split<;>simp [Nat.add_assoc]
theorem went_room {rd:Ln.M} {n k:Nat} (h:t.room b (n+k)):(t.went rd n).room b k:=by intro hh;have:=h hh;show ((((if headed t.st=true then t.size+n else t.size)+k:Nat)):Int)≤b.x2;rw [if_pos (show headed t.st=true from hh)];omega
theorem room_le {n k:Nat} (h:t.room b k) (hn:n≤k):t.room b n:=fun hh=>by have:=h hh;omega
theorem feed_plain (l:List UInt8):∀t:T,l≠ []→t.Open→(∀c∈l,c≠10∧c≠13)→t.rd.clear.buf.length+l.length≤t.rd.most→t.room b l.length→
 (Q.live t).feed p b l=.live (t.went {t.rd with buf:=t.rd.clear.buf++l,last:=0,pend:=false} l.length):=by
 induction l with
 | nil=>intro t h;exact absurd rfl h
 | cons c l ih=>
   intro t _ ho hc hm hr
   have h1:=hc c (by simp);simp only [List.length_cons] at hm hr ⊢;rw [feed_cons];show ((t.take p b c).feed p b l)= _;rw [take_plain ho c h1.1 h1.2 (by omega) (room_le hr (by omega))];rcases List.eq_nil_or_concat l with rfl | ⟨_,_,_⟩
   ·rfl
   ·have hne:l≠ []:=by rename_i h;rw [h];simp
    rw [ih _ hne (went_open ho.st rfl rfl 1) (fun x hx=>hc x (by simp [hx])) ?_ (went_room (by rw [Nat.add_comm];exact hr)),went_went]
    ·rw [Nat.add_comm 1];show Q.live (t.went {t.rd with buf:=(t.rd.clear.buf ++ [c])++l,last:=0,pend:=false} (l.length+1))= _;rw [List.append_assoc];rfl
    ·show (t.rd.clear.buf ++ [c]).length+l.length≤t.rd.most;rw [List.length_append,List.length_singleton];omega
theorem take_cr (h:t.Open) (hr:t.room b 1):t.take p b 13=.live (t.went {t.rd with buf:=t.rd.clear.buf,last:=0,pend:=true} 1):=by
 rw [take_line h.st 13 hr];have e0:t.rd.clear.next 13=0:=by unfold Ln.M.next;rw [show t.rd.clear.last=t.rd.last from rfl,show t.rd.clear.pend=t.rd.pend from rfl,h.nf,h.pend,if_neg (by decide),if_neg (by decide),if_neg (by decide),if_pos rfl]
 have ek:t.rd.clear.keeps 13=false:=by unfold Ln.M.keeps;rw [show t.rd.clear.last=t.rd.last from rfl,show t.rd.clear.pend=t.rd.pend from rfl,h.nf,h.pend,if_neg (by decide),if_neg (by decide),if_neg (by decide),if_pos rfl]
 have eb:t.rd.byte 13={t.rd with buf:=t.rd.clear.buf,last:=0,pend:=true}:=by unfold Ln.M.byte Ln.M.told;rw [e0,ek,if_neg (by decide),List.append_nil];rfl
 unfold T.inLine;dsimp only;rw [e0,if_pos rfl,eb];rfl
theorem take_lf (hs:bodied t.st=false) (hp:t.rd.pend=true) (hl:t.rd.last=0) (hr:t.room b 1) :
 t.take p b 10=ends (T.line p b (t.went {t.rd with last:=1,pend:=false} 1) t.rd.buf):=by
 rw [take_line hs 10 hr]
 have ec:t.rd.clear=t.rd:=Ln.clear_of (by rw [hl];rfl);have e0:t.rd.clear.next 10=1:=by unfold Ln.M.next;rw [ec,hl,hp];rfl
 have ek:t.rd.clear.keeps 10=false:=by unfold Ln.M.keeps;rw [ec,hl,hp];rfl
 have eb:t.rd.byte 10={t.rd with last:=1,pend:=false}:=by unfold Ln.M.byte Ln.M.told;rw [e0,ek,if_neg (by decide),List.append_nil,ec];rfl
 unfold T.inLine;dsimp only;rw [e0,if_neg (by decide),if_neg (by decide),if_neg (by decide),eb];have el:({t.rd with last:=1,pend:=false}:Ln.M).line=t.rd.buf:=rfl;rw [el];unfold T.went;obtain ⟨x,hx⟩:∃x,ends (T.line p b {t with rd:={t.rd with last:=1,pend:=false},size:=if headed t.st=true then t.size+1 else t.size,cnt:=headed t.st} t.rd.buf)=x:=⟨_,rfl⟩;rw [hx];cases x<;>rfl
theorem feed_line (l:List UInt8) (h:t.Open) (h0:t.rd.clear.buf= []) (hc:∀c∈l,c≠10∧c≠13) (hm:l.length≤t.rd.most) (hr:t.room b (l.length+2)) :
 (Q.live t).feed p b (l ++ [13,10])=ends (T.line p b (t.went {t.rd with buf:=l,last:=1,pend:=false} (l.length+2)) l):=by
 rw [feed_app];have key:∀(t1:T) (k:Nat),t1.Open→t1.room b 2→t1.rd.clear.buf=l→(Q.live t1).feed p b [13,10]=ends (T.line p b (t1.went {t1.rd with buf:=l,last:=1,pend:=false} 2) l):=by
  intro t1 k ho hr hb;rw [feed_cons,feed_cons];show ((Q.byte p b (t1.take p b 13) 10).feed p b [])= _;rw [take_cr ho (room_le hr (by omega)),feed_nil];show T.take p b _ 10= _
  have e:=take_lf (p:=p) (b:=b) (t:=t1.went {t1.rd with buf:=t1.rd.clear.buf,last:=0,pend:=true} 1) ho.st rfl rfl (went_room hr);rw [e,went_went];show ends (T.line p b (t1.went {t1.rd with buf:=t1.rd.clear.buf,last:=1,pend:=false} 2) t1.rd.clear.buf)= _;rw [hb]
 rcases List.eq_nil_or_concat l with rfl | ⟨_,_,_⟩
 ·rw [feed_nil,key t 0 h hr h0];rfl
 ·have hne:l≠ []:=by rename_i h;rw [h];simp
  rw [feed_plain l t hne h hc (by rw [h0];simpa using hm) (room_le hr (by omega)),h0,List.nil_append,key _ 0 (went_open h.st rfl rfl _) (went_room hr) rfl,went_went];rfl
theorem take_body (h:bodied t.st=true) (c:UInt8):t.take p b c=.live (if t.left=1 then ({t with cnt:=false}:T).keep c |>.endData p else ({t with cnt:=false}:T).keep c):=by unfold T.take T.look;rw [if_pos (show bodied ({t with cnt:=false}:T).st=true from h)]
end
end Go.Proofs.YtimoakmcelocfaaGreat.Pg
namespace Go.Proofs.YtimoakmcelocfaaGreat.Pg
open Go.RowKit Base Txt Mem Par
def Q.Ok (b:Bd):Q→Prop
 | .live t=>t.Ok∧b.right=true
 | .dead _ _=>True
section
variable {p:Nat} {b:Bd} {t t':T} {s:List UInt8}
theorem line_out (t:T) (s:List UInt8):(t.line p b s).2.out.length≤t.out.length+1:=by
 have hf:t.fin.out.length≤t.out.length+1:=by show (t.out ++ [t.r]).length≤_;simp
 unfold T.line T.first T.fields T.endHead T.chunk T.trail;split
 ·split
  ·exact Nat.le_succ _
  ·dsimp only;split<;>exact Nat.le_succ _
 ·split
  ·split
   ·dsimp only;split
    ·exact Nat.le_succ _
    ·split
     ·exact Nat.le_succ _
     ·split
      ·exact hf
      ·exact Nat.le_succ _
   ·exact Nat.le_succ _
  ·split
   ·dsimp only;split
    ·exact Nat.le_succ _
    ·split
     ·exact Nat.le_succ _
     ·split<;>exact Nat.le_succ _
   ·split
    ·split
     ·exact hf
     ·exact Nat.le_succ _
    ·exact Nat.le_succ _
theorem inLine_out (t:T) (c:UInt8):(t.inLine p b c).1.out.length≤t.out.length+1:=by
 unfold T.inLine;dsimp only;split
 ·exact Nat.le_succ _
 ·split
  ·exact Nat.le_succ _
  ·split
   ·split<;>exact Nat.le_succ _
   ·have h:=line_out (p:=p) (b:=b) {t with rd:=t.rd.byte c} (t.rd.byte c).line;unfold ends;split<;>exact h
theorem look_out (t:T) (c:UInt8):(t.look p b c).1.out.length≤t.out.length+1:=by
 unfold T.look;split
 ·split
  ·show (T.endData p (t.keep c)).out.length≤_;unfold T.endData;split
   ·exact Nat.le_succ _
   ·show (t.out ++ [_]).length≤_;simp
  ·exact Nat.le_succ _
 ·split
  ·split
   ·exact Nat.le_succ _
   ·have h:=inLine_out (p:=p) (b:=b) t.counted c;rw [counted_out] at h;exact h
  ·exact inLine_out t c
theorem take_out (t:T) (c:UInt8):(t.take p b c).out.length≤t.out.length+2:=by
 have h:=look_out (p:=p) (b:=b) {t with cnt:=false} c;have e:({t with cnt:=false}:T).out=t.out:=rfl;rw [e] at h;unfold T.take;rcases hx:({t with cnt:=false}:T).look p b c with ⟨t1 | ⟨e,o⟩,u⟩
 ·rw [hx] at h;have h:t1.out.length≤t.out.length+1:=h;cases u with
  | true=>show t1.out.length≤_;omega
  | false=>
    have h2:=look_out (p:=p) (b:=b) t1 c;show (t1.look p b c).1.out.length≤_;omega
 ·rw [hx] at h;have h:o.length≤t.out.length+1:=h
  cases u<;> (show o.length≤_;omega)
theorem Q.byte_out (x:Q) (c:UInt8):(x.byte p b c).out.length≤x.out.length+2:=by
 cases x with
 | live t=>exact take_out t c
 | dead e o=>show o.length≤o.length+2;omega
theorem Q.feed_out:∀(l:List UInt8) (x:Q),(x.feed p b l).out.length≤x.out.length+2*l.length
 | [],_=>Nat.le_refl _
 | c::l,x=>by
   have h1:=Q.byte_out (p:=p) (b:=b) x c
   have h2:=Q.feed_out l (x.byte p b c);rw [feed_cons,List.length_cons];omega
end
structure Bts (L:List (Option Nat)) (w:World) (a:Option Addr) (l:List UInt8):Prop where
 nums:Nums .u8 w a l.length (l.map fun c=>(c.toNat:Int))
 far:∀ad,a=some ad→some ad.block∉L∧ad.block<w.heap.size
structure Parts (L:List (Option Nat)) (w:World) (a:Option Addr) (ls:List (List UInt8)):Prop where
 cells:0<ls.length→∃bk off,a=some ⟨bk,off,none⟩∧bk<w.heap.size∧some bk∉L∧∀k (hk:k<ls.length),∃ak ck,w.cell? ⟨bk,off+k,none⟩=some (.slice ak ls[k].length ck)∧Bts L w ak ls[k]
theorem Bts.step {L L':List (Option Nat)} {w w':World} {a:Option Addr} {l:List UInt8} (h:Bts L w a l) (hs:Step L L' w w'):Bts L' w' a l:=by
 refine ⟨nums_keeps h.nums hs.keeps (fun c=>?_),fun ad e=>⟨fun hm=>?_,Nat.lt_of_lt_of_le (h.far ad e).2 hs.keeps.size⟩⟩
 ·cases ha:a with
  | none=>exact .inl rfl
  | some ad=>exact .inr ⟨ad.block,rfl,(h.far ad ha).1⟩
 ·rcases hs.of _ hm with h1 | h1
  ·exact (h.far ad e).1 h1
  ·have:=(h.far ad e).2;omega
theorem Parts.step {L L':List (Option Nat)} {w w':World} {a:Option Addr} {ls:List (List UInt8)} (h:Parts L w a ls) (hs:Step L L' w w'):Parts L' w' a ls:=by
 refine ⟨fun h0=>?_⟩;obtain ⟨bk,off,e,hlt,hn,hc⟩:=h.cells h0;refine ⟨bk,off,e,Nat.lt_of_lt_of_le hlt hs.keeps.size,fun hm=>?_,fun k hk=>?_⟩
 ·rcases hs.of _ hm with h1 | h1
  ·exact hn h1
  ·omega
 ·obtain ⟨ak,ck,h1,h2⟩:=hc k hk;exact ⟨ak,ck,(hs.keeps.cell (p:=⟨bk,off+k,none⟩) hlt hn).trans h1,h2.step hs⟩
section code
set_option maxHeartbeats 4000000
set_option maxRecDepth 20000
attribute [local go_sem] Base.some_undef
variable {w:World} {B:Zone} {g q:Nat} {v f bd t o:Value} {p:Nat} {b:Bd} {s:T}
end code
end Go.Proofs.YtimoakmcelocfaaGreat.Pg
namespace Go.Proofs.YtimoakmcelocfaaGreat.Pg
open Go.RowKit Base Txt Mem Par
structure Told (L:List (Option Nat)) (B:Zone) (w:World) (o:Value) (out:List Rec.R):Prop where
 outs:Outs L B w o out
 far:∀k,o.ownBlock=some k→some k∉L∧k<w.heap.size
 off:∀k,o.ownBlock=some k→some k∉B.z
section code
set_option maxHeartbeats 4000000
set_option maxRecDepth 20000
attribute [local go_sem] Base.some_undef
variable {w:World} {B:Zone} {g q:Nat} {v f bd t o:Value} {p:Nat} {b:Bd} {s:T}
end code
end Go.Proofs.YtimoakmcelocfaaGreat.Pg
namespace Go.Proofs.YtimoakmcelocfaaGreat.Pg
open Go.RowKit Base Txt Mem Par
section code
set_option maxHeartbeats 4000000
set_option maxRecDepth 20000
attribute [local go_sem] Base.some_undef
variable {w:World} {B:Zone} {g q:Nat} {v f bd t o:Value} {p:Nat} {b:Bd} {s:T}
theorem T.new_ok (p:Nat) (b:Bd):(T.new p b).Ok:=
 ⟨Ln.M.new_ok _ _ _ (Ln.mid_le _),rfl,⟨Nat.le_refl _,by show 1≤7;omega⟩,Nat.zero_le _,Nat.zero_le _,Nat.le_refl _,Nat.le_refl _,(by intro y hy;cases hy),(by intro y hy;cases hy),Nat.zero_le _,Nat.zero_le _,Nat.zero_le _,fun h=>(by cases h),fun _=>rfl,Nat.zero_le _⟩
theorem Q.new_ok (p:Nat) (b:Bd):(Q.new p b).Ok b:=by
 unfold Q.new;split
 ·rename_i h;simp only [Bool.and_eq_true] at h;exact ⟨T.new_ok p b,h.1⟩
 ·trivial
end code
end Go.Proofs.YtimoakmcelocfaaGreat.Pg
namespace Go.Proofs.YtimoakmcelocfaaGreat.Pg
open Go.RowKit Base Txt Mem Par
theorem told_out (x:Q):x.told.out= []:=by cases x<;>rfl
theorem Parts.one {L:List (Option Nat)} {w:World} {a:Option Addr} {c:Nat} {l:List UInt8} (h:Bts L w a l) (hin:In w L) (ty:TypeId):Parts L (w.alloc (.cells #[.slice a l.length c] ty)) (some ⟨w.heap.size,0,none⟩) [l]:=by
 have hb:Below w.heap.size w (w.alloc (.cells #[.slice a l.length c] ty)):=(Below.refl _ _).alloc (Nat.le_refl _) _;refine ⟨fun _=>⟨w.heap.size,0,rfl,by simp,fun hm=>by have:=hin _ hm;omega,fun k hk=>?_⟩⟩;have hk:k<1:=hk;obtain rfl:k=0:=by omega
 refine ⟨a,c,?_,?_⟩
 ·have:=cell_of_row (w.alloc (.cells #[.slice a l.length c] ty)) w.heap.size 0 _ ty (0,0) (heap_alloc_new w _);exact this.trans rfl
 ·exact h.step (Step.of_below hb)
section code
set_option maxHeartbeats 4000000
set_option maxRecDepth 20000
attribute [local go_sem] Base.some_undef
variable {w:World} {B:Zone} {g q:Nat} {v f bd t o:Value} {p:Nat} {b:Bd} {s:T}
end code
theorem flat_at:∀(ps:List (Array Value × Rec.R)),(∀x∈ps,x.1.size=7)→∀k (hk:k<ps.length) j,j<7→(ps.flatMap (·.1.toList))[k*7+j]?=ps[k].1.toList[j]?
 | [],_,k,hk,_,_=>by cases hk
 | x::ps,h,0,_,j,hj=>by
   have hx:x.1.toList.length=7:=by simpa using h x (by simp)
   rw [List.flatMap_cons,List.getElem?_append_left (by omega),Nat.zero_mul,Nat.zero_add];rfl
 | x::ps,h,k+1,hk,j,hj=>by
   have hx:x.1.toList.length=7:=by simpa using h x (by simp)
   rw [List.flatMap_cons,List.getElem?_append_right (by omega),hx,show (k+1)*7+j-7=k*7+j by omega];exact flat_at ps (fun y hy=>h y (by simp [hy])) k (by simpa using hk) j hj
theorem Told.at {L:List (Option Nat)} {B:Zone} {w:World} {o:Value} {out:List Rec.R} (h:Told L B w o out):∃a c,o=.slice a out.length c∧(0<out.length→∃bk,a=some ⟨bk,0,none⟩∧bk<w.heap.size∧
 ∀k (hk:k<out.length),∃fa fc ba bc ta tc,Flds w fa out[k].fs.length out[k].fs∧Nums .u8 w ba out[k].body.length (out[k].body.map fun c=>(c.toNat:Int))∧Flds w ta out[k].ts.length out[k].ts∧
  w.cell? ⟨bk,k*7,none⟩=some (.string out[k].m)∧w.cell? ⟨bk,k*7+1,none⟩=some (.string out[k].x)∧w.cell? ⟨bk,k*7+2,none⟩=some (.int .i64 out[k].k)∧w.cell? ⟨bk,k*7+3,none⟩=some (.slice fa out[k].fs.length fc)∧
  w.cell? ⟨bk,k*7+4,none⟩=some (.bool out[k].ch)∧w.cell? ⟨bk,k*7+5,none⟩=some (.slice ba out[k].body.length bc)∧w.cell? ⟨bk,k*7+6,none⟩=some (.slice ta out[k].ts.length tc)):=by
 obtain ⟨ps,h1,h2,h3⟩:=h.outs;obtain ⟨a,c,e, -⟩:=Ln.own_slice h3;subst e;refine ⟨a,c,rfl,fun h0=>?_⟩;obtain ⟨bk,cf,hform, -,hlt⟩:=h3.form h0;simp only [Value.slice.injEq,true_and] at hform;obtain ⟨rfl,rfl⟩:=hform;refine ⟨bk,rfl,hlt,fun k hk=>?_⟩;have hkp:k<ps.length:=by rw [←h1,List.length_map] at hk;exact hk
 have hr:out[k]=ps[k].2:=by simp [←h1]
 obtain ⟨h7,hF⟩:=h2 ps[k] (List.getElem_mem hkp);obtain ⟨fa,fc,ba,bc,ta,tc,hV,f1,f2,f3⟩:=hF.reads;have hcs:ps[k].1= #[.string ps[k].2.m,.string ps[k].2.x,.int .i64 ps[k].2.k,.slice fa ps[k].2.fs.length fc,.bool ps[k].2.ch,.slice ba ps[k].2.body.length bc,.slice ta ps[k].2.ts.length tc]:=by injection hV
 have key:∀j,j<7→w.cell? ⟨bk,k*7+j,none⟩=ps[k].1.toList[j]?:=by
  intro j hj
  have hc:=h3.cellAt (k*7+j) (by omega);have e:(ps.flatMap (·.1.toList))[k*7+j]?=ps[k].1.toList[j]?:=flat_at ps (fun x hx=>(h2 x hx).1) k hkp j hj;exact hc.trans e
 rw [hr];rw [hcs] at key;exact ⟨fa,fc,ba,bc,ta,tc,f1,f2,f3,key 0 (by decide),key 1 (by decide),key 2 (by decide),key 3 (by decide),key 4 (by decide),key 5 (by decide),key 6 (by decide)⟩
end Go.Proofs.YtimoakmcelocfaaGreat.Pg
namespace Go.Proofs.YtimoakmcelocfaaGreat.Pg
open Go.RowKit Base Txt Mem Par
abbrev usual:Bd:=⟨1024,32,8192,65536,32,8,4,20,true,true⟩
abbrev bdV (b:Bd):Value:=.agg #[.int .i64 b.x0,.int .i64 b.x1,.int .i64 b.x2,.int .i64 b.x3,.int .i64 b.x4,.int .i64 b.x5,.int .i64 b.x6,.int .i64 b.x7,.bool b.ch,.bool b.od]
def RecAt (w:World) (bk j:Nat) (r:Rec.R):Prop:=∃fa fc ba bc ta tc,Flds w fa r.fs.length r.fs∧Nums .u8 w ba r.body.length (r.body.map fun c=>(c.toNat:Int))∧Flds w ta r.ts.length r.ts∧
 w.cell? ⟨bk,j,none⟩=some (.string r.m)∧w.cell? ⟨bk,j+1,none⟩=some (.string r.x)∧w.cell? ⟨bk,j+2,none⟩=some (.int .i64 r.k)∧w.cell? ⟨bk,j+3,none⟩=some (.slice fa r.fs.length fc)∧
 w.cell? ⟨bk,j+4,none⟩=some (.bool r.ch)∧w.cell? ⟨bk,j+5,none⟩=some (.slice ba r.body.length bc)∧w.cell? ⟨bk,j+6,none⟩=some (.slice ta r.ts.length tc)
def Said (w:World) (o:Value) (out:List Rec.R):Prop:=∃a c,o=.slice a out.length c∧(0<out.length→∃bk,a=some ⟨bk,0,none⟩∧bk<w.heap.size∧∀k (hk:k<out.length),RecAt w bk (k*7) out[k])
abbrev bytesV (l:List UInt8):Array Value:=(l.map fun c=>Value.int .u8 (c.toNat:Int)).toArray
theorem Bts.lit {L:List (Option Nat)} {w:World} (hin:In w L) (l:List UInt8) (V:Array Value) (hV:V=bytesV l) (ty:TypeId) (fr:Nat × Nat):Bts L (w.alloc (.cells V ty fr)) (some ⟨w.heap.size,0,none⟩) l:=by
 subst hV;refine ⟨⟨by simp,fun h0=>⟨w.heap.size,0,rfl,by simp,fun k hk=>?_⟩⟩,fun ad e=>?_⟩
 ·rw [Nat.zero_add,cell_of_row _ _ k _ ty fr (heap_alloc_new _ _)];simp [bytesV,hk]
 ·obtain rfl:ad=⟨w.heap.size,0,none⟩:=by simpa using e.symm
  exact ⟨fun hm=>by have:w.heap.size<w.heap.size:=hin _ hm;omega,by simp⟩
theorem Bts.alloc {L:List (Option Nat)} {w:World} {a:Option Addr} {l:List UInt8} (h:Bts L w a l) (o:Obj):Bts L (w.alloc o) a l:=h.step (Step.of_below ((Below.refl _ _).alloc (Nat.le_refl _) _))
theorem Bts.conv {L:List (Option Nat)} {w W:World} (hin:In w L) (s:ByteArray) (hb:By.Bytes W w.heap.size s.data.toList) (hlt:w.heap.size<W.heap.size):Bts L W (some ⟨w.heap.size,0,none⟩) s.data.toList:=by
 refine ⟨⟨by simp,fun h0=>⟨w.heap.size,0,rfl,hlt,fun k hk=>?_⟩⟩,fun ad e=>?_⟩
 ·rw [Nat.zero_add,(hb k hk).1,List.getElem?_map,List.getElem?_eq_getElem hk];rfl
 ·obtain rfl:ad=⟨w.heap.size,0,none⟩:=by simpa using e.symm
  exact ⟨fun hm=>by have:w.heap.size<w.heap.size:=hin _ hm;omega,hlt⟩
end Go.Proofs.YtimoakmcelocfaaGreat.Pg
namespace Go.Proofs.YtimoakmcelocfaaGreat.Rq
open Go.RowKit Base Txt Rec
section code
set_option maxHeartbeats 8000000
set_option maxRecDepth 20000
attribute [local go_sem] Base.some_undef
end code
end Go.Proofs.YtimoakmcelocfaaGreat.Rq
namespace Go.Proofs.YtimoakmcelocfaaGreat.Rq
open Go.RowKit Base Txt
section code
set_option maxHeartbeats 4000000
set_option maxRecDepth 20000
attribute [local go_sem] Base.some_undef
theorem conv_cap (s:ByteArray) (w:World):∃W cap,(convert 9 34 (.string s)).run Tryz.prog w=.ok (.slice (some ⟨w.heap.size,0,none⟩) s.size cap) W∧s.size≤cap∧By.Bytes W w.heap.size s.data.toList∧w.heap.size<W.heap.size∧Below w.heap.size w W:=by have hcv:=run_bytes_of_string (P:=Tryz.prog) w 9 34 5 s Tryz.underlying9 Tryz.underlying34 Tryz.underlying5;obtain ⟨W,cap,h1,h2,h3,h4⟩:=By.conv_bytes s w;have e:=h1.symm.trans hcv;simp only [Result.ok.injEq,Value.slice.injEq,true_and] at e;exact ⟨W,cap,h1,by rw [e.1];exact grownCap_ge _ _ _ _,h2,h3,h4⟩
end code
end Go.Proofs.YtimoakmcelocfaaGreat.Rq
namespace Go.Proofs.YtimoakmcelocfaaGreat.Wit
open Go.RowKit Base Txt Mem Par Each
def textOf (s:Option ByteArray) (ch ti:Bool):ByteArray:=match s with
 | some s=>s
 | none=>oldW ch ti
def W (c:Nat) (ch ti:Bool):ByteArray:=textOf (texts[c]?.getD none) ch ti
abbrev bndV (b:Bd):Value:=.agg #[.int .i64 b.x0,.int .i64 b.x1,.int .i64 b.x2,.int .i64 b.x3,.int .i64 b.x4,.int .i64 b.x5,.int .i64 b.x6,.int .i64 b.x7,.bool b.ch,.bool b.od]
def may (c:Int) (p:Nat) (b:Bd):Bool:=decide (p<1073741824)&&(b.right&&(Qk.has p c&&Qk.needs c p b.ch b.od))
theorem run_index_fn {P:Program} {t e:TypeId} {n:Nat} {cs:Array Value} {ti:TypeInfo} (h:P.underlying t=some (.array n e)) (hd:∀w:World,(isAgg e).run P w=.ok false w) (hi:P.info? e=some ti) (hs:P.cellsOf e=1)
 (k:IntKind) (i:Nat) (hlt:i<n) (v:Value) (hv:cs[i]?=some v) (w:World):(Instr.index t (.agg cs) (.int k i)).run P w=.ok v w:=by
 simp [Instr.index,run_underlying h,asIntOf,hlt,run_sizeOf w hi,hs,part,hd,hv,go_sem]
theorem bstep {B:Nat} {w w1 w2:World} (hB:w.heap.size=B) (h:Below B w w1) (hb:Below w1.heap.size w1 w2):Below B w w2:=h.trans (hb.mono (by have:=h.size;omega))
structure Said (w w':World) (v:Value) (S:ByteArray):Prop where
 v:∃(g c:Nat),v=.slice (some ⟨g,0,none⟩) S.size c∧S.size≤c∧Pg.Bts [] w' (some ⟨g,0,none⟩) S.data.toList∧w.heap.size≤g
section code
set_option maxHeartbeats 8000000
set_option maxRecDepth 20000
attribute [local go_sem] Base.some_undef
theorem of_any (c:Int) (p:Nat) (hp:p<4294967296) (b:Bd) (w:World):Calls Tryz.prog 29 #[.int .i64 c,.int .u32 (p:Int),bndV b] w fun e w'=>
 ∃v,e=.returned (.tuple #[v,.bool (may c p b)])∧Below w.heap.size w w'∧(if may c p b=true then Said w w' v (W c.toNat b.ch (Qk.has p 19)) else v=.slice none 0 0):=by
 have H1:=Lib.hid (fun w=>Qk.right_any p hp w)
 have H2:=Lib.hid (fun w=>show Calls Tryz.prog 41 #[bndV b] w fun e w'=>e=.returned (.bool b.right)∧Below w.heap.size w w' from Bnd.right_any b.x0 b.x1 b.x2 b.x3 b.x4 b.x5 b.x6 b.x7 b.ch b.od w)
 have H3:=Lib.hid (fun w=>Qk.has_any p hp c w)
 have H4:=Lib.hid (fun w=>show Calls Tryz.prog 31 #[.int .i64 c,.int .u32 (p:Int),bndV b] w fun e w'=>e=.returned (.bool (Qk.needs c p b.ch b.od))∧Below w.heap.size w w' from Qk.needs_any c p hp b.x0 b.x1 b.x2 b.x3 b.x4 b.x5 b.x6 b.x7 b.ch b.od w)
 have HK:Hid (Qk.has p c=true→0≤c∧c<30):=Lib.hid (fun h=>(Qk.known_iff c).1 (by unfold Qk.has at h;rw [Bool.and_eq_true] at h;exact h.1));unfold may;obtain ⟨a1,ha1⟩:∃a,decide (p<1073741824)=a:=⟨_,rfl⟩;obtain ⟨a2,ha2⟩:∃a,b.right=a:=⟨_,rfl⟩;obtain ⟨a4,ha4⟩:∃a,Qk.needs c p b.ch b.od=a:=⟨_,rfl⟩;rw [ha1] at H1 ⊢;rw [ha2] at H2 ⊢;rw [ha4] at H4 ⊢;obtain ⟨a3,ha3⟩:∃a,Qk.has p c=a:=⟨_,rfl⟩;rw [ha3] at H3 HK ⊢;clear ha1 ha2 ha3 ha4
 have HB0:=Lib.hid (((Below.refl _ _).alloc (Nat.le_refl _) (.cells #[.int .i64 b.x0,.int .i64 b.x1,.int .i64 b.x2,.int .i64 b.x3,.int .i64 b.x4,.int .i64 b.x5,.int .i64 b.x6,.int .i64 b.x7,.bool b.ch,.bool b.od] 24)):Below w.heap.size w _)
 have HZ0:=Lib.hid (Rec.Bk.new w w.heap.size rfl 24 [.int .i64 b.x0,.int .i64 b.x1,.int .i64 b.x2,.int .i64 b.x3,.int .i64 b.x4,.int .i64 b.x5,.int .i64 b.x6,.int .i64 b.x7,.bool b.ch,.bool b.od]);by_cases hall:(a1&&(a2&&(a3&&a4)))=true
 ·obtain ⟨rfl,rfl,rfl,rfl⟩:a1=true∧a2=true∧a3=true∧a4=true:=by simpa using hall
  clear hall;obtain ⟨hc0,hc1⟩:=HK.out rfl;obtain ⟨c,rfl⟩:∃n:Nat,c=n:=⟨c.toNat,by omega⟩
  have HC:=Lib.hid (show c<30 by omega);obtain ⟨s0,hs0⟩:∃s0,texts[c]?=some s0:=⟨_,List.getElem?_eq_getElem (show c<texts.length from HC.out)⟩;have hW:W c b.ch (Qk.has p 19)=textOf s0 b.ch (Qk.has p 19):=by unfold W;rw [hs0];rfl
  obtain ⟨S,hS⟩:∃S,textOf s0 b.ch (Qk.has p 19)=S:=⟨_,rfl⟩;have HS0:=Lib.hid hs0;have HSS:=Lib.hid hS;have HP:=Lib.hid hp;have hW2:W ((c:Int)).toNat b.ch (Qk.has p 19)=S:=by rw [Int.toNat_natCast,hW,hS]
  simp only [Bool.and_self,if_true,hW2];clear hs0 hW hS hW2 hc0 hc1 HK;obtain ⟨ti,hi⟩:∃ti,Tryz.prog.info? 77=some ti:=by
   have:(Tryz.prog.info? 77).isSome=true:=by kernel_rfl
   exact Option.isSome_iff_exists.1 this
  have HI:=Lib.hid hi;clear hi;have x0:=HZ0.out.c 0 _ rfl;have x1:=HZ0.out.c 1 _ rfl;have x2:=HZ0.out.c 2 _ rfl;have x3:=HZ0.out.c 3 _ rfl;have x4:=HZ0.out.c 4 _ rfl;have x5:=HZ0.out.c 5 _ rfl;have x6:=HZ0.out.c 6 _ rfl;have x7:=HZ0.out.c 7 _ rfl;have x8:=HZ0.out.c 8 _ rfl;have x9:=HZ0.out.c 9 _ rfl;go_enter Tryz.func29,Tryz.ntmps29;go_upto_region 1 with fail
  generalize w.alloc (.cells #[.int .i64 b.x0,.int .i64 b.x1,.int .i64 b.x2,.int .i64 b.x3,.int .i64 b.x4,.int .i64 b.x5,.int .i64 b.x6,.int .i64 b.x7,.bool b.ch,.bool b.od] 24)=W0 at *;generalize hgB:w.heap.size=g at *;have HGB:=Lib.hid hgB;clear hgB
  go_upto_region 3 with (first
   |(go_at_call 31;with_reducible refine (H4.out _).mono ?_;rintro r w3 ⟨rfl,hb3⟩;have HB3:=Lib.hid hb3;clear hb3)
   |(go_at_call 42;with_reducible refine (H3.out _).mono ?_;rintro r w2 ⟨rfl,hw2⟩;rw [hw2];clear hw2)
   |(go_at_call 41;with_reducible refine (H2.out _).mono ?_;rintro r w2 ⟨rfl,hb2⟩;have HB2:=Lib.hid hb2;have HZ2:=Lib.hid (HZ0.out.below hb2)
     have y0:=HZ2.out.c 0 _ rfl;have y1:=HZ2.out.c 1 _ rfl;have y2:=HZ2.out.c 2 _ rfl;have y3:=HZ2.out.c 3 _ rfl;have y4:=HZ2.out.c 4 _ rfl;have y5:=HZ2.out.c 5 _ rfl;have y6:=HZ2.out.c 6 _ rfl;have y7:=HZ2.out.c 7 _ rfl;have y8:=HZ2.out.c 8 _ rfl;have y9:=HZ2.out.c 9 _ rfl;clear hb2)
   |(go_at_call 40;with_reducible refine (H1.out _).mono ?_;rintro r w1 ⟨rfl,hw1⟩;rw [hw1];clear hw1))
  have HZ:=Lib.hid ((HZ2.out.below HB3.out).below (Base.below_drewN (Below.refl w3.heap.size w3) 1))
  have HBB:=Lib.hid (bstep HGB.out (bstep HGB.out HB0.out HB2.out) HB3.out);obtain ⟨B0,hB0⟩:∃B0,w3.heap.size=B0:=⟨_,rfl⟩
  have HB0:=Lib.hid (show B0≤(w3.drewN 1).heap.size by rw [←hB0];simp)
  have HBB2:=Lib.hid (show w.heap.size≤B0 by rw [←hB0];exact HBB.out.size);clear x0 x1 x2 x3 x4 x5 x6 x7 x8 x9 y0 y1 y2 y3 y4 y5 y6 y7 y8 y9 hB0;refine Each.region_all 9 [29,30,31,32,33,34,35,6,7]
   [fun v w=>∃vs:List Value,v=.agg vs.toArray∧Each2 w vs texts,
     Each.is (.int .i64 (c:Int)),
     fun v w=>IsMk w v s0,
     Each.is (.int .u32 (p:Int)),
     Each.is (.agg #[.int .i64 b.x0,.int .i64 b.x1,.int .i64 b.x2,.int .i64 b.x3,.int .i64 b.x4,.int .i64 b.x5,.int .i64 b.x6,.int .i64 b.x7,.bool b.ch,.bool b.od]),
     Each.is (.string S),
     fun v w=>∃(g c:Nat),v=.slice (some ⟨g,0,none⟩) S.size c∧S.size≤c∧Pg.Bts [] w (some ⟨g,0,none⟩) S.data.toList∧B0≤g,
     fun v w=>∃(g c:Nat),v=.slice (some ⟨g,0,none⟩) S.size c∧S.size≤c∧Pg.Bts [] w (some ⟨g,0,none⟩) S.data.toList∧B0≤g,
     Each.is (.bool true)]
    (by kernel_rfl) (by kernel_rfl) (by kernel_rfl) (by kernel_rfl) (fun _ _ d _ _ h=>by cases d<;>exact h) (by rfl) (by rfl)
   ⟨((fun _ _ _ hb h=>by obtain ⟨vs,e,h⟩:=h;exact ⟨vs,e,h.below hb⟩)),Each.Lasts.eq _,((fun _ _ _ hb h=>IsMk.below h hb)),Each.Lasts.eq _,Each.Lasts.eq _,Each.Lasts.eq _,((fun _ _ _ hb h=>by obtain ⟨g,c,e,h1,h2,h3⟩:=h;exact ⟨g,c,e,h1,h2.step (Step.of_below hb),h3⟩)),((fun _ _ _ hb h=>by obtain ⟨g,c,e,h1,h2,h3⟩:=h;exact ⟨g,c,e,h1,h2.step (Step.of_below hb),h3⟩)),Each.Lasts.eq _,trivial⟩ ?_ ?_
  ·refine ⟨?_,?_,?_,?_,?_,?_,?_,?_,?_,trivial⟩
   ·refine Each.fine rfl (fun ev w1 hR hb hh=>?_);clear hh;have ef:=hR.func
    refine Each.Goes.enter 43 #[] (by go_simp) ((makers_any w1).mono ?_);rintro r w2 ⟨vs,rfl,hv,hb2⟩;exact ⟨_,rfl,hb2,vs,rfl,hv⟩
   ·refine Each.fine rfl (fun ev w1 hR hb hh=>?_);clear hh;have e0:=hR.old 0 rfl;simp only [qA,qT,qZ,qO] at e0;refine Each.Goes.same ?_;go_simp;try with_reducible rfl
   ·refine Each.fine rfl (fun ev w1 hR hb hh=>?_);have e29:((fun v w=>∃vs:List Value,v=.agg vs.toArray∧Each2 w vs texts) (ev (.tmp 29)) w1):=hh.at 0;have e30:(ev (.tmp 30)=.int .i64 (c:Int)):=hh.at 1;clear hh;obtain ⟨vs,e29,hv⟩:=e29;obtain ⟨hl,hv⟩:=hv.at;obtain ⟨v,s,h1,h2,h3⟩:=hv c HC.out
    have es:s=s0:=Option.some.inj (h2.symm.trans HS0.out);subst es;have hcl:c<vs.length:=by rw [hl];exact HC.out
    have h4:vs[c]=v:=by rw [List.getElem?_eq_getElem hcl] at h1;exact Option.some.inj h1
    refine Each.Goes.value v w1 ?_ (Below.refl _ _) h3;have hm:∃f l,v=.func f #[] l:=by
     cases s with
     | none=>exact ⟨_,_,h3⟩
     | some s=>obtain ⟨g,e, -⟩:=h3;exact ⟨_,_,e⟩
    go_simp;rw [run_index_fn Tryz.underlying78 (fun w=>by simp [isAgg,run_underlying Tryz.underlying77,go_sem]) HI.out (by kernel_rfl) .i64 c HC.out v (by rw [List.getElem?_toArray];exact h1) w1];rfl
   ·refine Each.fine rfl (fun ev w1 hR hb hh=>?_);clear hh;have e1:=hR.old 1 rfl;simp only [qA,qT,qS,qZ,qO] at e1;refine Each.Goes.same ?_;go_simp;try with_reducible rfl
   ·refine Each.fine rfl (fun ev w1 hR hb hh=>?_);clear hh;have e5:=hR.old 5 rfl;simp only [qA,qT,qS,qZ,qO] at e5;have q0:=(HZ.out.below hb).c 0 _ rfl;have q1:=(HZ.out.below hb).c 1 _ rfl;have q2:=(HZ.out.below hb).c 2 _ rfl;have q3:=(HZ.out.below hb).c 3 _ rfl;have q4:=(HZ.out.below hb).c 4 _ rfl;have q5:=(HZ.out.below hb).c 5 _ rfl;have q6:=(HZ.out.below hb).c 6 _ rfl;have q7:=(HZ.out.below hb).c 7 _ rfl;have q8:=(HZ.out.below hb).c 8 _ rfl;have q9:=(HZ.out.below hb).c 9 _ rfl;refine Each.Goes.same ?_;go_simp;try with_reducible rfl
   ·refine Each.fine rfl (fun ev w1 hR hb hh=>?_);have e31:((fun v w=>IsMk w v s0) (ev (.tmp 31)) w1):=hh.at 0;have e32:(ev (.tmp 32)=.int .u32 (p:Int)):=hh.at 1;have e33:(ev (.tmp 33)=.agg #[.int .i64 b.x0,.int .i64 b.x1,.int .i64 b.x2,.int .i64 b.x3,.int .i64 b.x4,.int .i64 b.x5,.int .i64 b.x6,.int .i64 b.x7,.bool b.ch,.bool b.od]):=hh.at 2;clear hh;rw [←HSS.out];cases s0 with
    | none=>
      have e31:ev (.tmp 31)=mkO:=e31
      refine Each.Goes.enter 64 #[.int .u32 (p:Int),.agg #[.int .i64 b.x0,.int .i64 b.x1,.int .i64 b.x2,.int .i64 b.x3,.int .i64 b.x4,.int .i64 b.x5,.int .i64 b.x6,.int .i64 b.x7,.bool b.ch,.bool b.od]] (by go_simp) ((old_any p HP.out b.x0 b.x1 b.x2 b.x3 b.x4 b.x5 b.x6 b.x7 b.ch b.od w1).mono ?_);rintro r w2 ⟨rfl,hb2⟩;exact ⟨_,rfl,hb2,rfl⟩
    | some s=>
      obtain ⟨gk,e31,hgk⟩:=e31
      refine Each.Goes.enter 75 #[.int .u32 (p:Int),.agg #[.int .i64 b.x0,.int .i64 b.x1,.int .i64 b.x2,.int .i64 b.x3,.int .i64 b.x4,.int .i64 b.x5,.int .i64 b.x6,.int .i64 b.x7,.bool b.ch,.bool b.od],.pointer (some ⟨gk,0,none⟩)] (by go_simp) ((made_any p b.x0 b.x1 b.x2 b.x3 b.x4 b.x5 b.x6 b.x7 b.ch b.od gk s w1 hgk).mono ?_);rintro r w2 ⟨rfl,hb2⟩;exact ⟨_,rfl,hb2,rfl⟩
   ·refine Each.fine rfl (fun ev w1 hR hb hh=>?_);have e34:(ev (.tmp 34)=.string S):=hh.at 0;clear hh;obtain ⟨W5,cap5,hcv,hcap5,hby,hlt5,hb5⟩:=Rq.conv_cap S w1;refine Each.Goes.value _ W5 (by go_simp) hb5 ⟨_,cap5,rfl,hcap5,Pg.Bts.conv (L:= []) (by intro k hk;cases hk) S hby hlt5,?_⟩;have:=hb.size;exact Nat.le_trans HB0.out this
   ·refine Each.fine rfl (fun ev w1 hR hb hh=>?_);have e35:((fun v w=>∃(g c:Nat),v=.slice (some ⟨g,0,none⟩) S.size c∧S.size≤c∧Pg.Bts [] w (some ⟨g,0,none⟩) S.data.toList∧B0≤g) (ev (.tmp 35)) w1):=hh.at 0;clear hh;exact Each.Goes.value (ev (.tmp 35)) w1 (by go_simp) (Below.refl _ _) e35
   ·refine Each.fine rfl (fun ev w1 hR hb hh=>?_);clear hh;have ec:=hR.const;refine Each.Goes.same ?_;go_simp;try with_reducible rfl
  intro ga w4 hb4 hf;have z6:((fun v w=>∃(g c:Nat),v=.slice (some ⟨g,0,none⟩) S.size c∧S.size≤c∧Pg.Bts [] w (some ⟨g,0,none⟩) S.data.toList∧B0≤g) (ga 6) w4):=hf.at 7;have z7:(ga 7=.bool true):=hf.at 8;clear hf;simp only [Each.putg,Act.put,qI,qY,qX];rw [z7];obtain ⟨gs,cs,e6,k1,k2,k3⟩:=z6;rw [e6];have HB4:=Lib.hid hb4;clear hb4;go_wp2;go_ret2;refine ⟨_,rfl,?_,⟨gs,cs,rfl,k1,k2,Nat.le_trans HBB2.out k3⟩⟩;rw [HGB.out];exact bstep HGB.out HBB.out HB4.out
 ·rw [Bool.not_eq_true] at hall;rw [hall];simp only [Bool.false_eq_true,if_false];have hz:a1=false∨(a1=true∧a2=false)∨(a1=true∧a2=true∧a3=false)∨(a1=true∧a2=true∧a3=true∧a4=false):=by
   revert hall;cases a1<;>cases a2<;>cases a3<;>cases a4<;>simp
  clear hall HK;have x0:=HZ0.out.c 0 _ rfl;have x1:=HZ0.out.c 1 _ rfl;have x2:=HZ0.out.c 2 _ rfl;have x3:=HZ0.out.c 3 _ rfl;have x4:=HZ0.out.c 4 _ rfl;have x5:=HZ0.out.c 5 _ rfl;have x6:=HZ0.out.c 6 _ rfl;have x7:=HZ0.out.c 7 _ rfl;have x8:=HZ0.out.c 8 _ rfl;have x9:=HZ0.out.c 9 _ rfl;rcases hz with rfl | ⟨rfl,rfl⟩ | ⟨rfl,rfl,rfl⟩ | ⟨rfl,rfl,rfl,rfl⟩;all_goals
   go_enter Tryz.func29,Tryz.ntmps29;go_upto_region 1 with fail
   generalize w.alloc (.cells #[.int .i64 b.x0,.int .i64 b.x1,.int .i64 b.x2,.int .i64 b.x3,.int .i64 b.x4,.int .i64 b.x5,.int .i64 b.x6,.int .i64 b.x7,.bool b.ch,.bool b.od] 24)=W0 at *;generalize hgB:w.heap.size=g at *;have HGB:=Lib.hid hgB;clear hgB;have HY:=Lib.hid HB0.out
   go_wp2_with (first
    |(go_at_call 31;with_reducible refine (H4.out _).mono ?_;rintro r w3 ⟨rfl,hb3⟩;replace HY:=Lib.hid (bstep HGB.out HY.out hb3);clear hb3)
    |(go_at_call 42;with_reducible refine (H3.out _).mono ?_;rintro r w2 ⟨rfl,hw2⟩;rw [hw2];clear hw2)
    |(go_at_call 41;with_reducible refine (H2.out _).mono ?_;rintro r w2 ⟨rfl,hb2⟩;replace HY:=Lib.hid (bstep HGB.out HY.out hb2);have HZ2:=Lib.hid (HZ0.out.below hb2)
      have y0:=HZ2.out.c 0 _ rfl;have y1:=HZ2.out.c 1 _ rfl;have y2:=HZ2.out.c 2 _ rfl;have y3:=HZ2.out.c 3 _ rfl;have y4:=HZ2.out.c 4 _ rfl;have y5:=HZ2.out.c 5 _ rfl;have y6:=HZ2.out.c 6 _ rfl;have y7:=HZ2.out.c 7 _ rfl;have y8:=HZ2.out.c 8 _ rfl;have y9:=HZ2.out.c 9 _ rfl;clear hb2)
    |(go_at_call 40;with_reducible refine (H1.out _).mono ?_;rintro r w1 ⟨rfl,hw1⟩;rw [hw1];clear hw1))
   go_ret2;exact ⟨_,rfl,by rw [HGB.out];exact HY.out,rfl⟩
end code
end Go.Proofs.YtimoakmcelocfaaGreat.Wit
namespace Go.Proofs.YtimoakmcelocfaaGreat.An
open Go.RowKit Base Txt Mem Par
def kindA (p:Nat) (b:Bd):Int:=if (decide (p<1073741824)&&b.right)=true then (if effL p b= [] then 1 else 2) else 0
def errA (p:Nat) (b:Bd):Int:=if (decide (p<1073741824)&&b.right)=true then 0 else 20
def clA (p:Nat) (b:Bd):Int:=(effL p b).headD 0
def Shown (w w':World) (p:Nat) (b:Bd) (v:Value):Prop:=if effL p b= [] then v=.slice none 0 0 else Wit.Said w w' v (Wit.W (clA p b).toNat b.ch (Qk.has p 19))
theorem eff_bad {p:Nat} {b:Bd} (h:¬(decide (p<1073741824)&&b.right)=true):effL p b= []:=by unfold effL;rw [if_neg];intro h2;rw [Bool.and_comm] at h2;exact h h2
theorem may_of {p:Nat} {b:Bd} {c:Int} (h:c∈effL p b):Wit.may c p b=true∧0≤c∧c<30:=by
 unfold effL at h;split at h
 ·rename_i h1;obtain ⟨h2,h3⟩:=List.mem_filter.1 h;unfold Qk.upTo at h2;obtain ⟨n,h4,rfl⟩:=List.mem_map.1 h2;obtain ⟨h5,h6⟩:=List.mem_filter.1 h4;rw [List.mem_range] at h5;have hk:Qk.has p (n:Int)=true:=by
   unfold Qk.has;rw [show Qk.known (n:Int)=true from (Qk.known_iff _).2 (by omega),Int.toNat_natCast,h6];rfl
  refine ⟨?_,by omega,by omega⟩;unfold Wit.may;rw [hk,h3];simp only [Bool.and_true,Bool.and_eq_true,decide_eq_true_eq] at h1 ⊢;exact ⟨h1.2,h1.1⟩
 ·cases h
theorem bts_off {w w':World} {g gA:Nat} {l:List UInt8} (h:Pg.Bts [] w (some ⟨g,0,none⟩) l) (hk:Keeps [some gA] w w') (hne:g≠gA):Pg.Bts [] w' (some ⟨g,0,none⟩) l:=by
 have hlt:=(h.far _ rfl).2;refine ⟨⟨h.nums.1,fun h0=>?_⟩,fun ad e=>⟨fun hm=>(by cases hm),?_⟩⟩
 ·obtain ⟨b,off,e,hb,hc⟩:=h.nums.2 h0;cases e;exact ⟨g,0,rfl,Nat.lt_of_lt_of_le hb hk.size,fun k hkl=>(hk.cell (p:=⟨g,0+k,none⟩) hb (fun hm=>hne (by simpa using hm))).trans (hc k hkl)⟩
 ·cases e;exact Nat.lt_of_lt_of_le hlt hk.size
theorem said_off {w0 w1 w w':World} {gA:Nat} {v:Value} {S:ByteArray} (h:Wit.Said w0 w v S) (hk:Keeps [some gA] w w') (hA:gA<w0.heap.size) (hs:w1.heap.size≤w0.heap.size):Wit.Said w1 w' v S:=by obtain ⟨g,c,e,h1,h2,h3⟩:=h.v;exact ⟨⟨g,c,e,h1,bts_off h2 hk (by omega),by omega⟩⟩
section code
set_option maxHeartbeats 8000000
set_option maxRecDepth 20000
attribute [local go_sem] Base.some_undef
theorem core_any (p:Nat) (hp:p<4294967296) (b:Bd) (w:World):Calls Tryz.prog 14 #[.int .u32 (p:Int),.agg #[.int .i64 b.x0,.int .i64 b.x1,.int .i64 b.x2,.int .i64 b.x3,.int .i64 b.x4,.int .i64 b.x5,.int .i64 b.x6,.int .i64 b.x7,.bool b.ch,.bool b.od]] w fun e w'=>e=.returned (.int .u32 (Qk.ofL (effL p b):Nat))∧Below w.heap.size w w':=by
 have HB0:=Lib.hid (((Below.refl _ _).alloc (Nat.le_refl _) (.cells #[.int .i64 b.x0,.int .i64 b.x1,.int .i64 b.x2,.int .i64 b.x3,.int .i64 b.x4,.int .i64 b.x5,.int .i64 b.x6,.int .i64 b.x7,.bool b.ch,.bool b.od] 24)):Below w.heap.size w _)
 have HZ0:=Lib.hid (Rec.Bk.new w w.heap.size rfl 24 [.int .i64 b.x0,.int .i64 b.x1,.int .i64 b.x2,.int .i64 b.x3,.int .i64 b.x4,.int .i64 b.x5,.int .i64 b.x6,.int .i64 b.x7,.bool b.ch,.bool b.od]);have x0:=HZ0.out.c 0 _ rfl;have x1:=HZ0.out.c 1 _ rfl;have x2:=HZ0.out.c 2 _ rfl;have x3:=HZ0.out.c 3 _ rfl;have x4:=HZ0.out.c 4 _ rfl;have x5:=HZ0.out.c 5 _ rfl;have x6:=HZ0.out.c 6 _ rfl;have x7:=HZ0.out.c 7 _ rfl;have x8:=HZ0.out.c 8 _ rfl;have x9:=HZ0.out.c 9 _ rfl
 have HE:=Lib.hid (fun w=>eff_any p hp b w);have hle:=effL_le p b;obtain ⟨n,hn⟩:∃n,(effL p b).length=n:=⟨_,rfl⟩;rw [hn] at HE hle;clear hn;go_enter Tryz.func14,Tryz.ntmps14
 go_wp2_with (first
  |(go_at_call 32;with_reducible refine HOF.out.mono ?_;rintro r w6 ⟨rfl,hw⟩;rw [hw];clear hw)
  |(go_at_call 13;with_reducible refine (HE.out _).mono ?_;rintro r w1 ⟨A,ca,rfl,hi,hb1⟩
    have HB1:=Lib.hid hb1;have HOF:=Lib.hid (Qk.of_any A n ca (effL p b) w1 hi (by unfold maxLen;omega));clear hb1 hi))
 go_ret;exact ⟨rfl,Base.below_step HB0.out HB1.out⟩
theorem rcore_any (p:Nat) (hp:p<4294967296) (b:Bd) (w:World):Calls Tryz.prog 15 #[.int .u32 (p:Int),.agg #[.int .i64 b.x0,.int .i64 b.x1,.int .i64 b.x2,.int .i64 b.x3,.int .i64 b.x4,.int .i64 b.x5,.int .i64 b.x6,.int .i64 b.x7,.bool b.ch,.bool b.od]] w fun e w'=>e=.returned (.int .u32 (Qk.ofL (effL p b):Nat))∧Below w.heap.size w w':=by
 have HB0:=Lib.hid (((Below.refl _ _).alloc (Nat.le_refl _) (.cells #[.int .i64 b.x0,.int .i64 b.x1,.int .i64 b.x2,.int .i64 b.x3,.int .i64 b.x4,.int .i64 b.x5,.int .i64 b.x6,.int .i64 b.x7,.bool b.ch,.bool b.od] 24)):Below w.heap.size w _)
 have HZ0:=Lib.hid (Rec.Bk.new w w.heap.size rfl 24 [.int .i64 b.x0,.int .i64 b.x1,.int .i64 b.x2,.int .i64 b.x3,.int .i64 b.x4,.int .i64 b.x5,.int .i64 b.x6,.int .i64 b.x7,.bool b.ch,.bool b.od]);have x0:=HZ0.out.c 0 _ rfl;have x1:=HZ0.out.c 1 _ rfl;have x2:=HZ0.out.c 2 _ rfl;have x3:=HZ0.out.c 3 _ rfl;have x4:=HZ0.out.c 4 _ rfl;have x5:=HZ0.out.c 5 _ rfl;have x6:=HZ0.out.c 6 _ rfl;have x7:=HZ0.out.c 7 _ rfl;have x8:=HZ0.out.c 8 _ rfl;have x9:=HZ0.out.c 9 _ rfl
 have HE:=Lib.hid (fun w=>reff_any p hp b w);have hle:=effL_le p b;obtain ⟨n,hn⟩:∃n,(effL p b).length=n:=⟨_,rfl⟩;rw [hn] at HE hle;clear hn;go_enter Tryz.func15,Tryz.ntmps15
 go_wp2_with (first
  |(go_at_call 25;with_reducible refine HOF.out.mono ?_;rintro r w6 ⟨rfl,hw⟩;rw [hw];clear hw)
  |(go_at_call 10;with_reducible refine (HE.out _).mono ?_;rintro r w1 ⟨A,ca,rfl,hi,hb1⟩
    have HB1:=Lib.hid hb1;have HOF:=Lib.hid (Qk.rof_any A n ca (effL p b) w1 hi (by unfold maxLen;omega));clear hb1 hi))
 go_ret;exact ⟨rfl,Base.below_step HB0.out HB1.out⟩
theorem decide_any (p:Nat) (hp:p<4294967296) (b:Bd) (w:World):Calls Tryz.prog 11 #[.int .u32 (p:Int),.agg #[.int .i64 b.x0,.int .i64 b.x1,.int .i64 b.x2,.int .i64 b.x3,.int .i64 b.x4,.int .i64 b.x5,.int .i64 b.x6,.int .i64 b.x7,.bool b.ch,.bool b.od]] w fun e w'=>
 ∃v,e=.returned (.tuple #[.agg #[.int .i64 (kindA p b),.int .i64 (clA p b),v],.int .i64 (errA p b)])∧Shown w w' p b v∧Below w.heap.size w w':=by
 have HR:=Lib.hid (fun w=>right_any p hp b w)
 have HE:=Lib.hid (fun w=>eff_any p hp b w)
 have HB0:=Lib.hid ((((Below.refl _ _).alloc (Nat.le_refl _) (.cells #[.int .i64 b.x0,.int .i64 b.x1,.int .i64 b.x2,.int .i64 b.x3,.int .i64 b.x4,.int .i64 b.x5,.int .i64 b.x6,.int .i64 b.x7,.bool b.ch,.bool b.od] 24)).alloc (by simp) (.cells #[.int .i64 0,.int .i64 0,.slice none 0 0] 36)):Below w.heap.size w _)
 have HZ0:=Lib.hid ((Rec.Bk.new w w.heap.size rfl 24 [.int .i64 b.x0,.int .i64 b.x1,.int .i64 b.x2,.int .i64 b.x3,.int .i64 b.x4,.int .i64 b.x5,.int .i64 b.x6,.int .i64 b.x7,.bool b.ch,.bool b.od]).alloc (.cells #[.int .i64 0,.int .i64 0,.slice none 0 0] 36))
 have HA0:=Lib.hid (Rec.Bk.new (w.alloc (.cells #[.int .i64 b.x0,.int .i64 b.x1,.int .i64 b.x2,.int .i64 b.x3,.int .i64 b.x4,.int .i64 b.x5,.int .i64 b.x6,.int .i64 b.x7,.bool b.ch,.bool b.od] 24)) (w.heap.size+1) (by simp) 36 [.int .i64 0,.int .i64 0,.slice none 0 0])
 have HSZ:=Lib.hid (show w.heap.size+1<((w.alloc (.cells #[.int .i64 b.x0,.int .i64 b.x1,.int .i64 b.x2,.int .i64 b.x3,.int .i64 b.x4,.int .i64 b.x5,.int .i64 b.x6,.int .i64 b.x7,.bool b.ch,.bool b.od] 24)).alloc (.cells #[.int .i64 0,.int .i64 0,.slice none 0 0] 36)).heap.size by simp);obtain ⟨ok,hok⟩:∃ok,(decide (p<1073741824)&&b.right)=ok:=⟨_,rfl⟩;have hk:kindA p b=if ok=true then (if effL p b= [] then 1 else 2) else 0:=by unfold kindA;rw [hok]
 have he:errA p b=if ok=true then 0 else 20:=by unfold errA;rw [hok]
 have hbad:¬ok=true→effL p b= []:=fun h=>eff_bad (by rw [hok];exact h);rw [hok] at HR;rw [hk,he];clear hok hk he;cases ok with
 | false=>
   have hef:=hbad Bool.false_ne_true
   have HSH:Hid (∀w',Shown w w' p b (.slice none 0 0)):=Lib.hid (fun w'=>by unfold Shown;rw [if_pos hef]);have hc:clA p b=0:=by unfold clA;rw [hef];rfl
   rw [hc,if_neg Bool.false_ne_true,if_neg Bool.false_ne_true];clear hef hc hbad HE;go_enter Tryz.func11,Tryz.ntmps11;go_upto_region 1 with fail
   generalize (w.alloc (.cells #[.int .i64 b.x0,.int .i64 b.x1,.int .i64 b.x2,.int .i64 b.x3,.int .i64 b.x4,.int .i64 b.x5,.int .i64 b.x6,.int .i64 b.x7,.bool b.ch,.bool b.od] 24)).alloc (.cells #[.int .i64 0,.int .i64 0,.slice none 0 0] 36)=W0 at *;have x0:=HZ0.out.c 0 _ rfl;have x1:=HZ0.out.c 1 _ rfl;have x2:=HZ0.out.c 2 _ rfl;have x3:=HZ0.out.c 3 _ rfl;have x4:=HZ0.out.c 4 _ rfl;have x5:=HZ0.out.c 5 _ rfl;have x6:=HZ0.out.c 6 _ rfl;have x7:=HZ0.out.c 7 _ rfl;have x8:=HZ0.out.c 8 _ rfl;have x9:=HZ0.out.c 9 _ rfl
   go_upto_region 2 with (go_at_call 28;with_reducible refine (HR.out _).mono ?_;rintro r w1 ⟨rfl,hb1⟩;have HB1:=Lib.hid hb1;have HA1:=Lib.hid (HA0.out.below hb1);clear hb1)
   have d0:=HA1.out.c 0 _ rfl;have d1:=HA1.out.c 1 _ rfl;have d2:=HA1.out.c 2 _ rfl
   have m0:=HA1.out.z 0 (by decide);have m1:=HA1.out.z 1 (by decide);have m2:=HA1.out.z 2 (by decide);clear x0 x1 x2 x3 x4 x5 x6 x7 x8 x9
   have HBW:=Lib.hid (show Below w.heap.size w w1 from HB0.out.trans (HB1.out.mono (by have:=HB0.out.size;exact this)));go_wp2;refine bodyPost_ret (v:=.tuple #[.agg #[.int .i64 0,.int .i64 0,.slice none 0 0],.int .i64 20]) (by simp [results,Tryz.results11,go_sem,d0,d1,d2]) rfl ?_;refine ⟨_,rfl,HSH.out _,?_⟩;first | exact HBW.out |(repeat (refine Below.setCell ?_ (by simp) _));exact HBW.out
 | true=>
   rw [if_pos rfl,if_pos rfl];have hle:=effL_le p b;rcases hef:effL p b with _ | ⟨c0,cs⟩
   ·have HSH:Hid (∀w',Shown w w' p b (.slice none 0 0)):=Lib.hid (fun w'=>by unfold Shown;rw [if_pos hef]);have hc:clA p b=0:=by unfold clA;rw [hef];rfl
    rw [hc,if_pos rfl];rw [hef] at HE;clear hef hc hbad hle;go_enter Tryz.func11,Tryz.ntmps11;go_upto_region 1 with fail
    generalize (w.alloc (.cells #[.int .i64 b.x0,.int .i64 b.x1,.int .i64 b.x2,.int .i64 b.x3,.int .i64 b.x4,.int .i64 b.x5,.int .i64 b.x6,.int .i64 b.x7,.bool b.ch,.bool b.od] 24)).alloc (.cells #[.int .i64 0,.int .i64 0,.slice none 0 0] 36)=W0 at *;have x0:=HZ0.out.c 0 _ rfl;have x1:=HZ0.out.c 1 _ rfl;have x2:=HZ0.out.c 2 _ rfl;have x3:=HZ0.out.c 3 _ rfl;have x4:=HZ0.out.c 4 _ rfl;have x5:=HZ0.out.c 5 _ rfl;have x6:=HZ0.out.c 6 _ rfl;have x7:=HZ0.out.c 7 _ rfl;have x8:=HZ0.out.c 8 _ rfl;have x9:=HZ0.out.c 9 _ rfl
    go_upto_region 3 with (go_at_call 28;with_reducible refine (HR.out _).mono ?_;rintro r w1 ⟨rfl,hb1⟩;have HB1:=Lib.hid hb1;have HA1:=Lib.hid (HA0.out.below hb1);have HZ1:=Lib.hid (HZ0.out.below hb1);clear hb1)
    clear x0 x1 x2 x3 x4 x5 x6 x7 x8 x9;have y0:=HZ1.out.c 0 _ rfl;have y1:=HZ1.out.c 1 _ rfl;have y2:=HZ1.out.c 2 _ rfl;have y3:=HZ1.out.c 3 _ rfl;have y4:=HZ1.out.c 4 _ rfl;have y5:=HZ1.out.c 5 _ rfl;have y6:=HZ1.out.c 6 _ rfl;have y7:=HZ1.out.c 7 _ rfl;have y8:=HZ1.out.c 8 _ rfl;have y9:=HZ1.out.c 9 _ rfl
    go_upto_region 4 with (go_at_call 13;with_reducible refine (HE.out _).mono ?_;rintro r w2 ⟨A,ca,rfl,hi,hb2⟩;have HB2:=Lib.hid (Base.below_step HB1.out hb2);have HA2:=Lib.hid (HA1.out.below hb2);have HZ2:=Lib.hid (HZ1.out.below hb2);have HI:=Lib.hid hi;clear hb2 hi)
    clear y0 y1 y2 y3 y4 y5 y6 y7 y8 y9;have d0:=HA2.out.c 0 _ rfl;have d1:=HA2.out.c 1 _ rfl;have d2:=HA2.out.c 2 _ rfl
    have m0:=HA2.out.z 0 (by decide);have m1:=HA2.out.z 1 (by decide);have m2:=HA2.out.z 2 (by decide)
    have HBW:=Lib.hid (show Below w.heap.size w w2 from HB0.out.trans (HB2.out.mono (by have:=HB0.out.size;exact this)));simp only [List.length_nil] at *;go_wp2;refine bodyPost_ret (v:=.tuple #[.agg #[.int .i64 1,.int .i64 0,.slice none 0 0],.int .i64 0]) (by simp [results,Tryz.results11,go_sem,d0,d1,d2]) rfl ?_;refine ⟨_,rfl,HSH.out _,?_⟩;first | exact HBW.out |(repeat (refine Below.setCell ?_ (by simp) _));exact HBW.out
   ·have hm:=may_of (p:=p) (b:=b) (c:=c0) (by rw [hef];exact List.mem_cons_self ..);have hc:clA p b=c0:=by unfold clA;rw [hef];rfl
    have hof:=fun w=>Wit.of_any c0 p hp b w;rw [hm.1] at hof;have HOF:=Lib.hid hof
    have HSH:Hid (∀w' v,Wit.Said w w' v (Wit.W c0.toNat b.ch (Qk.has p 19))→Shown w w' p b v):=Lib.hid (fun w' v h=>by unfold Shown;rw [if_neg (by rw [hef];simp),hc];exact h);rw [hc,if_neg (by simp)];rw [hef] at HE hle;rw [List.length_cons] at hle;obtain ⟨n,hn⟩:∃n,(c0::cs).length=n:=⟨_,rfl⟩;rw [hn] at HE;have hn1:0<n∧n≤30:=by rw [←hn,List.length_cons];omega
    clear hc hbad hof hm;go_enter Tryz.func11,Tryz.ntmps11;go_upto_region 1 with fail
    generalize (w.alloc (.cells #[.int .i64 b.x0,.int .i64 b.x1,.int .i64 b.x2,.int .i64 b.x3,.int .i64 b.x4,.int .i64 b.x5,.int .i64 b.x6,.int .i64 b.x7,.bool b.ch,.bool b.od] 24)).alloc (.cells #[.int .i64 0,.int .i64 0,.slice none 0 0] 36)=W0 at *;have x0:=HZ0.out.c 0 _ rfl;have x1:=HZ0.out.c 1 _ rfl;have x2:=HZ0.out.c 2 _ rfl;have x3:=HZ0.out.c 3 _ rfl;have x4:=HZ0.out.c 4 _ rfl;have x5:=HZ0.out.c 5 _ rfl;have x6:=HZ0.out.c 6 _ rfl;have x7:=HZ0.out.c 7 _ rfl;have x8:=HZ0.out.c 8 _ rfl;have x9:=HZ0.out.c 9 _ rfl
    go_upto_region 3 with (go_at_call 28;with_reducible refine (HR.out _).mono ?_;rintro r w1 ⟨rfl,hb1⟩;have HB1:=Lib.hid hb1;have HA1:=Lib.hid (HA0.out.below hb1);have HZ1:=Lib.hid (HZ0.out.below hb1);clear hb1)
    clear x0 x1 x2 x3 x4 x5 x6 x7 x8 x9;have y0:=HZ1.out.c 0 _ rfl;have y1:=HZ1.out.c 1 _ rfl;have y2:=HZ1.out.c 2 _ rfl;have y3:=HZ1.out.c 3 _ rfl;have y4:=HZ1.out.c 4 _ rfl;have y5:=HZ1.out.c 5 _ rfl;have y6:=HZ1.out.c 6 _ rfl;have y7:=HZ1.out.c 7 _ rfl;have y8:=HZ1.out.c 8 _ rfl;have y9:=HZ1.out.c 9 _ rfl
    go_upto_region 4 with (go_at_call 13;with_reducible refine (HE.out _).mono ?_;rintro r w2 ⟨A,ca,rfl,hi,hb2⟩;have HB2:=Lib.hid (Base.below_step HB1.out hb2);have HA2:=Lib.hid (HA1.out.below hb2);have HZ2:=Lib.hid (HZ1.out.below hb2);have HI:=Lib.hid hi;clear hb2 hi)
    clear y0 y1 y2 y3 y4 y5 y6 y7 y8 y9;obtain ⟨ib,io,rfl,hib,hcs⟩:=HI.out.2 hn1.1;have ck:=hcs 0 hn1.1;rw [List.getElem?_cons_zero,Option.getD_some,Nat.add_zero] at ck;have z0:=HZ2.out.c 0 _ rfl;have z1:=HZ2.out.c 1 _ rfl;have z2:=HZ2.out.c 2 _ rfl;have z3:=HZ2.out.c 3 _ rfl;have z4:=HZ2.out.c 4 _ rfl;have z5:=HZ2.out.c 5 _ rfl;have z6:=HZ2.out.c 6 _ rfl;have z7:=HZ2.out.c 7 _ rfl;have z8:=HZ2.out.c 8 _ rfl;have z9:=HZ2.out.c 9 _ rfl
    have t0:((n:Int)==0)=false:=beq_eq_false_iff_ne.2 (by omega);have t1:¬(n:Int)=0:=by omega
    have t2:(0:Int)<(n:Int):=by omega
    have t3:0<n:=hn1.1;clear hcs hib
    go_upto_region 8 with (go_at_call 29;with_reducible refine (HOF.out _).mono ?_;rintro r w3 ⟨v,rfl,hb3,hs3⟩;have HB3:=Lib.hid (Base.below_step HB2.out hb3);have HA3:=Lib.hid (HA2.out.below hb3);have HS3:=Lib.hid hs3;clear hb3 hs3)
    clear z0 z1 z2 z3 z4 z5 z6 z7 z8 z9;have hs:=HS3.out;simp only [if_true] at hs;obtain ⟨gs,cc,rfl, -⟩:=hs.v;have HS:=Lib.hid hs;have d0:=HA3.out.c 0 _ rfl;have d1:=HA3.out.c 1 _ rfl;have d2:=HA3.out.c 2 _ rfl
    have m0:=HA3.out.z 0 (by decide);have m1:=HA3.out.z 1 (by decide);have m2:=HA3.out.z 2 (by decide)
    have HBW:=Lib.hid (show Below w.heap.size w w3 from HB0.out.trans (HB3.out.mono (by have:=HB0.out.size;exact this)))
    have HW2:=Lib.hid (show w.heap.size≤w2.heap.size∧w.heap.size+1<w2.heap.size from by have h1:=HB2.out.size;have h2:=HSZ.out;omega);clear hs HS3 ck;go_wp2;refine bodyPost_ret (v:=.tuple #[.agg #[.int .i64 2,.int .i64 c0,.slice (some ⟨gs,0,none⟩) (Wit.W c0.toNat b.ch (Qk.has p 19)).size cc],.int .i64 0]) (by simp [results,Tryz.results11,go_sem,d0,d1,d2]) rfl ?_;refine ⟨_,rfl,HSH.out _ _ (said_off (gA:=w.heap.size+1) HS.out ?_ HW2.out.2 HW2.out.1),?_⟩
    ·exact ((Keeps.set _ 0 _ (by simp)).trans (Keeps.set _ 1 _ (by simp)) Of.refl).trans (Keeps.set _ 2 _ (by simp)) Of.refl
    ·(repeat (refine Below.setCell ?_ (by simp) _));exact HBW.out
end code
end Go.Proofs.YtimoakmcelocfaaGreat.An
namespace Go.Proofs.YtimoakmcelocfaaGreat.Pg
open Go.RowKit Base Txt Par
theorem none0 (k:Int):Qk.has 0 k=false:=by unfold Qk.has;rw [Nat.zero_testBit,Bool.and_false]
theorem dw_none {q:UInt8→Bool}:∀{l:List UInt8},(∀x∈l,q x=false)→l.dropWhile q=l
 | [],_=>rfl
 | x::r,h=>dropWhile_stop (h x (by simp))
theorem trimL_none {q:UInt8→Bool} {l:List UInt8} (h:∀x∈l,q x=false):trimL q l=l:=by unfold trimL;rw [dw_none h,dw_none (fun x hx=>h x (by simpa using hx)),List.reverse_reverse]
theorem letters_tab:∀k:Fin 256,lowB (UInt8.ofNat k.val)∈ [99,104,117,110,107,101,100]→Frm.blanksOf.data.toList.contains (UInt8.ofNat k.val)=false:=by decide +kernel
theorem letter_of {x:UInt8} (h:lowB x∈ [99,104,117,110,107,101,100]):isIn Frm.blanksOf x=false:=by have:=letters_tab ⟨x.toNat,x.toNat_lt⟩ (by simpa using h);simpa [isIn] using this
theorem isC_wide {v:ByteArray} (h:Frm.isC false v=true) (tb:Bool):Frm.isC tb v=true:=by
 cases tb with
 | false=>exact h
 | true=>
   have h1:same v Frm.chunked=true:=h
   have h2:low v.data.toList= [99,104,117,110,107,101,100]:=(beq_iff_eq.1 h1).trans (by decide +kernel);have e:trimOf v Frm.blanksOf=v:=by apply ba_ext;show trimL (isIn Frm.blanksOf) v.data.toList= _;refine trimL_none fun x hx=>letter_of ?_;rw [←h2];exact List.mem_map.2 ⟨x,hx,rfl⟩
   show same (trimOf v Frm.blanksOf) Frm.chunked=true;rw [e];exact h1
theorem coding_wide {vs:List ByteArray} (h:Frm.coding false false vs=true) (tb tl:Bool):Frm.coding tb tl vs=true:=by unfold Frm.coding at h ⊢;rw [Bool.or_false,Bool.and_eq_true,decide_eq_true_eq] at h;obtain ⟨h1,h2⟩:=h;obtain ⟨v,hv⟩:=List.length_eq_one_iff.1 h2;rw [hv] at h1 ⊢;have h3:Frm.isC false v=true:=h1;rw [decide_eq_true (by simp),Bool.true_or,Bool.and_true];exact isC_wide h3 tb
theorem digit_tab:∀k:Fin 256,Num.digitOf 10 (UInt8.ofNat k.val)=true→UInt8.ofNat k.val≠44∧UInt8.ofNat k.val≠43∧Txt.blank (UInt8.ofNat k.val)=false:=by decide +kernel
theorem digit_of {x:UInt8} (h:Num.digitOf 10 x=true):x≠44∧x≠43∧Txt.blank x=false:=by simpa using digit_tab ⟨x.toNat,x.toNat_lt⟩ (by simpa using h)
theorem hex_tab:∀k:Fin 256,Num.digitOf 16 (UInt8.ofNat k.val)=true→lowB (UInt8.ofNat k.val)≠120∧Txt.blank (UInt8.ofNat k.val)=false:=by decide +kernel
theorem hex_of {x:UInt8} (h:Num.digitOf 16 x=true):lowB x≠120∧Txt.blank x=false:=by simpa using hex_tab ⟨x.toNat,x.toNat_lt⟩ (by simpa using h)
theorem read_digits {base most:Int} {l:List UInt8} (h:(Num.readOf base most l).2≠22):∀x∈l,Num.digitOf base x=true:=by
 unfold Num.readOf at h;split at h
 ·exact absurd rfl h
 ·rename_i h1;rw [Bool.or_eq_true,not_or,Bool.not_eq_true,Bool.not_eq_true,Bool.not_eq_false',List.all_eq_true] at h1;exact h1.2
theorem numV_digits {r:Int × Int} (h:(Frm.numV r).2=0):r.2≠22:=by
 intro e;unfold Frm.numV at h;rw [if_pos e] at h
 exact absurd h (by decide)
theorem length_wide {most:Int} {vs:List ByteArray} (h:(Frm.lengthV false false false false most vs).2=0) (lp lc lf ll:Bool) :
 Frm.lengthV lp lc lf ll most vs=Frm.lengthV false false false false most vs:=by
 unfold Frm.lengthV at h ⊢;by_cases h0:vs= []
 ·rw [if_pos h0,if_pos h0]
 rw [if_neg h0] at h ⊢;rw [if_neg h0];rw [if_neg Bool.false_ne_true] at h ⊢;by_cases h1:vs.length=1
 ·obtain ⟨v,rfl⟩:=List.length_eq_one_iff.1 h1;have hc:Frm.counts false false false [v]=some v:=rfl;rw [hc] at h ⊢;have hu:Frm.unplus false v=v:=rfl;simp only [hu] at h ⊢
  have hd:=read_digits (numV_digits h);have hl:list [v]= [v]:=by
   have e1:list [v]=partsOf v:=by simp [list]
   rw [e1];unfold partsOf;rw [parts_none 44 _ fun hm=>(digit_of (hd _ hm)).1 rfl];show [trim (ba v.data.toList)]= [v]
   congr 1
   apply ba_ext;show trimL Txt.blank (ba v.data.toList).data.toList= _;have e2:(ba v.data.toList).data.toList=v.data.toList:=by simp [ba]
   rw [e2];exact trimL_none fun x hx=>(digit_of (hd x hx)).2.2
  have hc':Frm.counts lc lf ll (if lc=true then list [v] else [v])=some v:=by
   have:(if lc=true then list [v] else [v])= [v]:=by cases lc<;>simp [hl]
   rw [this];unfold Frm.counts;rw [if_pos (by simp)];rfl
  rw [hc'];have hp:Frm.unplus lp v=v:=by
   unfold Frm.unplus;rw [if_neg];intro hh;rw [Bool.and_eq_true,decide_eq_true_eq] at hh
   have hm:(43:UInt8)∈v.data.toList:=List.mem_of_mem_head? (by rw [hh.2];rfl);exact (digit_of (hd _ hm)).2.1 rfl
  simp only [hp]
 ·have hc:Frm.counts false false false vs=none:=by
   unfold Frm.counts;rw [if_neg (by simp [h1]),if_neg Bool.false_ne_true]
  rw [hc] at h
  exact absurd (show (400:Int)=0 from h) (by decide)
theorem wins_wide {minor:Int} {nte ncl:Nat} {cod:Bool} (h:(Frm.winsV false false false false minor nte ncl cod).2=0) (td ti tw lw cod':Bool) (hc:cod=true→cod'=true) :
 Frm.winsV td ti tw lw minor nte ncl cod'=Frm.winsV false false false false minor nte ncl cod:=by
 unfold Frm.winsV at h ⊢;by_cases h0:nte=0
 ·simp only [if_pos h0]
 simp only [if_neg h0] at h ⊢;by_cases h1:minor=0
 ·rw [if_pos (by simp [h1])] at h
  exact absurd (show (400:Int)=0 from h) (by decide)
 have hm:∀td:Bool,¬(decide (minor=0) && !td)=true:=fun td=>by simp [h1]
 simp only [if_neg (hm _)] at h ⊢;cases cod with
 | false=>exact absurd (show (501:Int)=0 from h) (by decide)
 | true=>
   rw [hc rfl];by_cases h2:0<ncl
   ·simp [h2] at h
   ·simp [h2]
theorem hosts_wide {minor:Int} {hs:List ByteArray} (h:Frm.hostsV false false minor hs=0) (nh mh:Bool):Frm.hostsV nh mh minor hs=0:=by
 unfold Frm.hostsV at h ⊢;split at h
 ·exact absurd h (by decide)
 ·rename_i h1;rw [Bool.or_eq_true,not_or,Bool.not_false,Bool.and_true,Bool.and_true] at h1;rw [if_neg]
  ·exact h
  ·rw [Bool.or_eq_true,not_or];constructor
   ·intro hh;exact h1.1 (by cases nh<;>simp_all)
   ·intro hh;exact h1.2 (by cases mh<;>simp_all)
theorem decide_wide {ch:Bool} {body minor:Int} {fs:List Fld} (h:(Frm.decideV (Frm.clOf 0) ch body minor fs).2.2=0) (p:Nat) :
 Frm.decideV (Frm.clOf p) ch body minor fs=Frm.decideV (Frm.clOf 0) ch body minor fs:=by
 have e0:Frm.clOf 0=⟨false,false,false,false,false,false,false,false,false,false,false,false⟩:=by simp only [Frm.clOf,none0]
 rw [e0] at h ⊢;generalize Frm.clOf p=c;obtain ⟨nh,mh,tb,tl,ti,td,tw,lw,lp,lc,lf,ll⟩:=c;unfold Frm.decideV at h ⊢;simp only at h ⊢;unfold Frm.bodyV at h ⊢;by_cases h1:Frm.hostsV false false minor (find fs Frm.hostN)=0
 ·have h1':=hosts_wide h1 nh mh;rw [h1] at h ⊢;rw [h1'];simp only [ne_eq,not_true_eq_false,if_false] at h ⊢;by_cases h2:(Frm.winsV false false false false minor (find fs Frm.teN).length (find fs Frm.clN).length (Frm.coding false false (find fs Frm.teN))).2=0
  ·have h2':=wins_wide h2 td ti tw lw (Frm.coding tb tl (find fs Frm.teN)) (fun hc=>coding_wide hc tb tl);rw [h2'];simp only [h2,not_true_eq_false,if_false] at h ⊢;by_cases h3:(Frm.winsV false false false false minor (find fs Frm.teN).length (find fs Frm.clN).length (Frm.coding false false (find fs Frm.teN))).1=true
   ·simp only [if_pos h3]
   ·simp only [if_neg h3] at h ⊢;have h4:(Frm.lengthV false false false false body (find fs Frm.clN)).2=0:=by
     unfold Frm.fixedV at h;split at h
     ·assumption
     ·rename_i hn;exact absurd h hn
    rw [length_wide h4 lp lc lf ll]
  ·simp only [h2,not_false_eq_true,if_true] at h
 ·rw [if_pos h1] at h;exact absurd h h1
theorem piece_wide {z:List UInt8} (h:∀x∈z,Num.digitOf 16 x=true) (hex blanks:Bool):Chk.pieceL hex blanks z=z:=by
 have h1:trimL Txt.blank z=z:=trimL_none fun x hx=>(hex_of (h x hx)).2;have h2:Chk.bare z=z:=by
  unfold Chk.bare;rw [if_neg];intro hm;unfold Chk.marked at hm;rw [Bool.and_eq_true,decide_eq_true_eq] at hm;obtain ⟨hl,hs⟩:=hm
  match z,hl with
  | a::b::r,_=>
    have hs2:low [a,b]= [48,120]:=(beq_iff_eq.1 hs).trans (by decide +kernel);have hb:lowB b=120:=by simpa [low] using (List.cons.inj (List.cons.inj hs2).2).1
    exact (hex_of (h b (by simp))).1 hb
 unfold Chk.pieceL;cases hex<;>cases blanks<;>simp [h1,h2]
theorem chk_digits {r:Int × Int} (h:(Chk.numV r).2=0):r.2≠22:=by
 intro e;unfold Chk.numV at h;rw [if_pos e] at h
 exact absurd h (by decide)
theorem size_wide {ext body:Int} {l:List UInt8} (h:(Chk.sizeV false false ext body l).2=0) (hex blanks:Bool):Chk.sizeV hex blanks ext body l=Chk.sizeV false false ext body l:=by
 unfold Chk.sizeV at h ⊢;split at h
 ·rename_i h1;rw [if_pos h1,if_pos h1]
  have hd:∀x∈(Tgt.cutAt 59 l).1,Num.digitOf 16 x=true:=read_digits (chk_digits h);unfold Chk.sizeL;rw [piece_wide hd,piece_wide hd]
 ·exact absurd h (by decide)
theorem field_wide {lines:Nat} {l l':List Fld} {s:List UInt8} {most:Int} (h:fieldV 0 lines l s most=.inr l') (p:Nat):fieldV p lines l s most=.inr l':=by
 unfold fieldV at h ⊢
 by_cases h1:most<((lines+1:Nat):Int)
 ·rw [if_pos h1] at h;cases h
 simp only [if_neg h1] at h ⊢;have hg:Fd.goes 0 s=false:=by unfold Fd.goes;rw [none0,Bool.false_and]
 rw [if_neg (by rw [hg,Bool.false_and];exact Bool.false_ne_true)] at h;rw [Fd.clOf_zero] at h;rcases Fd.parse_zero s with h2 | ⟨n,v,h2⟩
 ·rw [h2] at h;cases h
 ·rw [h2] at h;have hs:=Fd.parse_strict h2;have hg2:Fd.goes p s=false:=by
   have hb:(!s.isEmpty&&Txt.blank (s.headD 0))=false:=by
    rcases Tgt.cut_cases 58 s with e | ⟨a,r,e,hn⟩
    ·rw [Tgt.cutAt_none 58 s e] at hs
     exact absurd (show false=true from hs.1) (by decide)
    ·rw [e,Tgt.cutAt_app 58 a r hn] at hs;obtain ⟨-,e1, -,e2,e3, -⟩:=hs;have e4:a=n:=e1;rw [e];rw [←e4] at e2 e3
     match a,e2,e3 with
     | y::t,_,e3=>
       have:=(Fd.token_of (Fd.all_of e3 y (by simp))).2.2.2;simp [this]
   unfold Fd.goes;rw [hb,Bool.and_false]
  rw [if_neg (by rw [hg2,Bool.false_and];exact Bool.false_ne_true),(Fd.parse_all h2).1 (Fd.clOf p)];exact h
def wideM (p:Nat) (m:Ln.M):Ln.M:={m with lf:=Qk.has p 1,cr:=Qk.has p 2}
def T.wide (p:Nat) (t:T):T:={t with rd:=wideM p t.rd}
structure T.Strict (t:T):Prop where
 lf:t.rd.lf=false
 cr:t.rd.cr=false
theorem decide_codes (ch:Bool) (body minor:Int) (fs:List Fld) (c:Frm.Cl):0≤(Frm.decideV c ch body minor fs).2.2:=by
 unfold Frm.decideV Frm.bodyV;split
 ·unfold Frm.hostsV;split
  ·decide
  ·split<;>decide
 ·split
  ·unfold Frm.winsV
   repeat' split
   all_goals decide
  ·split
   ·split<;>decide
   ·unfold Frm.fixedV;split
    ·exact Int.le_refl _
    ·show 0≤(Frm.lengthV c.lp c.lc c.lf c.ll body (find fs Frm.clN)).2;unfold Frm.lengthV;split
     ·decide
     ·split
      ·decide
      ·unfold Frm.numV;split
       ·decide
       ·split
        ·decide
        ·exact Int.le_refl _
theorem decide_pos {ch:Bool} {body minor:Int} {fs:List Fld} {c:Frm.Cl} {d:Int × Int × Int} (hd:d=Frm.decideV c ch body minor fs) (h1:d.2.2≠0):d.2.2.toNat≠0:=by have:=decide_codes ch body minor fs c;rw [←hd] at this;omega
theorem size_pos {hex blanks:Bool} {ext body:Int} {l:List UInt8} {z:Int × Int} (hz:z=Chk.sizeV hex blanks ext body l) (h1:z.2≠0):z.2.toNat≠0:=by
 have:0≤(Chk.sizeV hex blanks ext body l).2:=by
  unfold Chk.sizeV;split
  ·unfold Chk.numV;split
   ·decide
   ·split
    ·decide
    ·exact Int.le_refl _
  ·decide
 rw [←hz] at this;omega
section
variable {p:Nat} {b:Bd} {t t2:T} {s:List UInt8} {c:UInt8}
theorem of_strict (most:Int):(Ln.M.of 0 most).lf=false∧(Ln.M.of 0 most).cr=false:=⟨none0 1,none0 2⟩
theorem next_wide (m:Ln.M) (hl:m.lf=false) (hc:m.cr=false) (c:UInt8) (h:m.next c≠3):(wideM p m).next c=m.next c∧m.next c≠2:=by
 obtain ⟨lf,cr,most,buf,last,pend⟩:=m;obtain rfl:lf=false:=hl;obtain rfl:cr=false:=hc;unfold Ln.M.next at h ⊢;simp only [wideM] at h ⊢;by_cases h1:Ln.failed last=true
 ·rw [if_pos h1] at h;exact absurd rfl h
 ·have h1':Ln.failed last=false:=by simpa using h1
  simp only [h1',Bool.false_eq_true,if_false] at h ⊢;cases pend with
  | true=>
    by_cases h2:c=10
    ·subst h2;exact ⟨rfl,fun e=>absurd (show (1:Int)=2 from e) (by decide)⟩
    ·simp [h2] at h
  | false=>
    by_cases h2:c=10
    ·simp [h2] at h
    ·simp only [Bool.false_eq_true,if_false,if_neg h2];refine ⟨rfl,?_⟩;split
     ·decide
     ·split<;>decide
theorem byte_wide (m:Ln.M) (hl:m.lf=false) (hc:m.cr=false) (c:UInt8) (h:m.clear.next c≠3):(wideM p m).byte c=wideM p (m.byte c):=by have h1:=(next_wide (p:=p) m.clear hl hc c h).1;have e1:(wideM p m).clear=wideM p m.clear:=rfl;unfold Ln.M.byte;rw [e1,h1];rfl
theorem first_wide (h:(t.first 0 b s).1=0) (ht:t.Strict):(t.wide p).first p b s=(0,(t.first 0 b s).2.wide p)∧(t.first 0 b s).2.Strict:=by
 unfold T.first at h ⊢;by_cases h0:s= []
 ·rw [if_pos h0,none0] at h
  exact absurd (show (400:Nat)=0 from h) (by decide)
 ·rw [if_neg h0] at h ⊢;rw [if_neg h0];obtain ⟨m,x,k,e,hq⟩:∃m x k e,Rq.request (Rq.clOf 0) b.od s=(m,x,k,e):=⟨_,_,_,_,rfl⟩;rw [hq] at h ⊢;simp only at h ⊢;by_cases he:e=0
  ·subst he;rw [Rq.clOf_zero] at hq;rw [(Rq.extends_all hq).1 (Rq.clOf p)];exact ⟨rfl,ht.lf,ht.cr⟩
  ·rw [if_neg he] at h;exact absurd h he
theorem fin_wide (ht:t.Strict):(t.wide p).fin=t.fin.wide p∧t.fin.Strict:=⟨rfl,ht.lf,ht.cr⟩
theorem enter_wide (st:Nat) (most:Int):(t.wide p).enter p st most=(t.enter 0 st most).wide p∧(t.enter 0 st most).Strict:=⟨rfl,(of_strict most).1,(of_strict most).2⟩
theorem endHead_wide (h:(t.endHead 0 b).1=0) (hn:∀d:Int × Int × Int,d=Frm.decideV (Frm.clOf 0) b.ch b.x3 t.r.k t.r.fs→d.2.2≠0→d.2.2.toNat≠0) (ht:t.Strict) :
 (t.wide p).endHead p b=(0,(t.endHead 0 b).2.wide p)∧(t.endHead 0 b).2.Strict:=by
 unfold T.endHead at h ⊢;have hd:Frm.decideV (Frm.clOf p) b.ch b.x3 (t.wide p).r.k (t.wide p).r.fs=Frm.decideV (Frm.clOf p) b.ch b.x3 t.r.k t.r.fs:=rfl;rw [hd];by_cases h1:(Frm.decideV (Frm.clOf 0) b.ch b.x3 t.r.k t.r.fs).2.2=0
 ·rw [decide_wide h1 p];generalize Frm.decideV (Frm.clOf 0) b.ch b.x3 t.r.k t.r.fs=d at h h1 ⊢;simp only [ne_eq,h1,not_true_eq_false,if_false];by_cases h2:d.1=2
  ·simp only [if_pos h2];exact ⟨rfl,ht.lf,ht.cr⟩
  ·simp only [if_neg h2];by_cases h3:d.2.1=0
   ·simp only [if_pos h3];exact ⟨rfl,ht.lf,ht.cr⟩
   ·simp only [if_neg h3];exact ⟨rfl,ht.lf,ht.cr⟩
 ·have:=hn _ rfl h1;simp only [ne_eq,h1,not_false_eq_true,if_true] at h;exact absurd h this
theorem fields_wide (h:(t.fields 0 b s).1=0) (hn:∀d:Int × Int × Int,d=Frm.decideV (Frm.clOf 0) b.ch b.x3 t.r.k t.r.fs→d.2.2≠0→d.2.2.toNat≠0) (ht:t.Strict) :
 (t.wide p).fields p b s=(0,(t.fields 0 b s).2.wide p)∧(t.fields 0 b s).2.Strict:=by
 unfold T.fields at h ⊢;by_cases h0:s= []
 ·rw [if_pos h0] at h ⊢;rw [if_pos h0];exact endHead_wide h hn ht
 ·rw [if_neg h0] at h ⊢;rw [if_neg h0];obtain ⟨l,hl⟩:=listE_zero h fun e he=>fieldV_err he;have hl':fieldV p t.hl t.r.fs s b.x1=.inr l:=field_wide hl p;have e1:fieldV p (t.wide p).hl (t.wide p).r.fs s b.x1=.inr l:=hl';rw [e1,hl];exact ⟨rfl,ht.lf,ht.cr⟩
theorem trail_wide (h:(t.trail 0 b s).1=0) (ht:t.Strict):(t.wide p).trail p b s=(0,(t.trail 0 b s).2.wide p)∧(t.trail 0 b s).2.Strict:=by
 unfold T.trail at h ⊢;by_cases h0:s= []
 ·rw [if_pos h0,if_pos h0];exact ⟨rfl,ht.lf,ht.cr⟩
 ·rw [if_neg h0] at h ⊢;rw [if_neg h0];obtain ⟨l,hl⟩:=listE_zero h fun e he=>fieldV_err he;have e1:fieldV p (t.wide p).bl (t.wide p).r.ts s b.x5=.inr l:=field_wide hl p;rw [e1,hl];exact ⟨rfl,ht.lf,ht.cr⟩
theorem chunk_wide (h:(t.chunk 0 b s).1=0) (hn:∀z:Int × Int,z=Chk.sizeV false false b.x4 b.x3 s→z.2≠0→z.2.toNat≠0) (ht:t.Strict) :
 (t.wide p).chunk p b s=(0,(t.chunk 0 b s).2.wide p)∧(t.chunk 0 b s).2.Strict:=by
 unfold T.chunk at h ⊢;rw [none0,none0] at h ⊢;by_cases h1:(Chk.sizeV false false b.x4 b.x3 s).2=0
 ·rw [size_wide h1 (Qk.has p 27) (Qk.has p 28)];have hb:(t.wide p).r.body=t.r.body:=rfl;rw [hb];generalize Chk.sizeV false false b.x4 b.x3 s=z at h h1 ⊢;simp only [ne_eq,h1,not_true_eq_false,if_false] at h ⊢;by_cases h2:z.1=0
  ·simp only [if_pos h2];exact ⟨rfl,ht.lf,ht.cr⟩
  ·simp only [if_neg h2] at h ⊢;by_cases h3:b.x3-(t.r.body.length:Int)<z.1
   ·simp only [if_pos h3] at h
    exact absurd h (by decide)
   ·simp only [if_neg h3];exact ⟨rfl,ht.lf,ht.cr⟩
 ·have:=hn _ rfl h1;simp only [ne_eq,h1,not_false_eq_true,if_true] at h;exact absurd h this
theorem line_wide (h:(t.line 0 b s).1=0) (ht:t.Strict):(t.wide p).line p b s=(0,(t.line 0 b s).2.wide p)∧(t.line 0 b s).2.Strict:=by
 unfold T.line at h ⊢;have e:(t.wide p).st=t.st:=rfl;rw [e];by_cases h1:t.st=1
 ·simp only [if_pos h1] at h ⊢;exact first_wide h ht
 simp only [if_neg h1] at h ⊢;by_cases h2:t.st=2
 ·simp only [if_pos h2] at h ⊢;exact fields_wide h (fun d hd hn=>decide_pos hd hn) ht
 simp only [if_neg h2] at h ⊢;by_cases h3:t.st=4
 ·simp only [if_pos h3] at h ⊢;exact chunk_wide h (fun z hz hn=>size_pos hz hn) ht
 simp only [if_neg h3] at h ⊢;by_cases h4:t.st=7
 ·simp only [if_pos h4] at h ⊢;exact trail_wide h ht
 simp only [if_neg h4] at h ⊢;exact ⟨rfl,(enter_wide (p:=p) (t:=t) 4 b.x0).2⟩
theorem inLine_wide {u:Bool} (h:t.inLine 0 b c=(.live t2,u)) (ht:t.Strict):(t.wide p).inLine p b c=(.live (t2.wide p),u)∧t2.Strict:=by
 unfold T.inLine at h ⊢;have e1:(t.wide p).rd.clear=wideM p t.rd.clear:=rfl;have e2:(t.wide p).rd=wideM p t.rd:=rfl;by_cases h3:t.rd.clear.next c=3
 ·rw [h3] at h
  exact absurd (congrArg Prod.fst h) (by simp)
 obtain ⟨h1,h2⟩:=next_wide (p:=p) t.rd.clear ht.lf ht.cr c h3;have hb:=byte_wide (p:=p) t.rd ht.lf ht.cr c h3;rw [e1,e2,h1,hb];generalize hn:t.rd.clear.next c=n at h h1 h2 h3 ⊢;simp only at h ⊢;by_cases h0:n=0
 ·simp only [if_pos h0] at h ⊢;obtain ⟨rfl,rfl⟩:({t with rd:=t.rd.byte c}:T)=t2∧true=u:=by simpa using h
  exact ⟨rfl,ht.lf,ht.cr⟩
 simp only [if_neg h0,if_neg h3] at h ⊢;by_cases h4:n=4
 ·simp only [if_pos h4,none0,Bool.and_false,Bool.false_eq_true,if_false] at h
  exact absurd (congrArg Prod.fst h) (by simp)
 simp only [if_neg h4] at h ⊢;have hl:(wideM p (t.rd.byte c)).line=(t.rd.byte c).line:=rfl;rw [hl];have e5:({t.wide p with rd:=wideM p (t.rd.byte c)}:T)=({t with rd:=t.rd.byte c}:T).wide p:=rfl;rw [e5];have hs:({t with rd:=t.rd.byte c}:T).Strict:=⟨ht.lf,ht.cr⟩;generalize ({t with rd:=t.rd.byte c}:T)=t1 at h hs ⊢;generalize (t.rd.byte c).line=s at h ⊢;obtain ⟨hq,rfl⟩:=Prod.mk.inj h;by_cases hz:(t1.line 0 b s).1=0
 ·obtain ⟨k1,k2⟩:=line_wide (p:=p) hz hs;rw [k1];unfold ends at hq ⊢;rw [if_pos hz] at hq;obtain rfl:(t1.line 0 b s).2=t2:=by simpa using hq
  exact ⟨rfl,k2⟩
 ·unfold ends at hq;rw [if_neg hz] at hq;cases hq
theorem counted_wide:(t.wide p).counted=t.counted.wide p:=by unfold T.counted;have e:(t.wide p).cnt=t.cnt:=rfl;rw [e];cases t.cnt<;>rfl
theorem endData_wide (ht:t.Strict):(t.wide p).endData p=(t.endData 0).wide p∧(t.endData 0).Strict:=by
 unfold T.endData;have e:(t.wide p).r.ch=t.r.ch:=rfl;rw [e];cases t.r.ch with
 | true=>exact enter_wide 6 0
 | false=>exact fin_wide ht
theorem look_wide {u:Bool} (h:t.look 0 b c=(.live t2,u)) (ht:t.Strict):(t.wide p).look p b c=(.live (t2.wide p),u)∧t2.Strict:=by
 unfold T.look at h ⊢;have e:(t.wide p).st=t.st:=rfl;have e2:(t.wide p).left=t.left:=rfl;have e3:(t.wide p).keep c=(t.keep c).wide p:=rfl;rw [e,e2,e3];by_cases h1:bodied t.st=true
 ·simp only [if_pos h1] at h ⊢;have hk:(t.keep c).Strict:=⟨ht.lf,ht.cr⟩;by_cases h2:t.left=1
  ·simp only [if_pos h2] at h ⊢;obtain ⟨rfl,rfl⟩:(t.keep c).endData 0=t2∧true=u:=by simpa using h
   rw [(endData_wide (p:=p) hk).1];exact ⟨rfl,(endData_wide (p:=p) hk).2⟩
  ·simp only [if_neg h2] at h ⊢;obtain ⟨rfl,rfl⟩:t.keep c=t2∧true=u:=by simpa using h
   exact ⟨rfl,hk⟩
 ·simp only [if_neg h1] at h ⊢;by_cases h2:headed t.st=true
  ·simp only [if_pos h2] at h ⊢;rw [counted_wide];have e4:(t.counted.wide p).size=t.counted.size:=rfl;rw [e4]
   by_cases h3:b.x2<(t.counted.size:Int)
   ·simp only [if_pos h3] at h
    exact absurd (congrArg Prod.fst h) (by simp)
   ·simp only [if_neg h3] at h ⊢;exact inLine_wide h ⟨by rw [counted_rd];exact ht.lf,by rw [counted_rd];exact ht.cr⟩
  ·simp only [if_neg h2] at h ⊢;exact inLine_wide h ht
theorem take_wide (h:t.take 0 b c=.live t2) (ht:t.Strict):(t.wide p).take p b c=.live (t2.wide p)∧t2.Strict:=by
 unfold T.take at h ⊢;have e:({t.wide p with cnt:=false}:T)=({t with cnt:=false}:T).wide p:=rfl;have hs:({t with cnt:=false}:T).Strict:=⟨ht.lf,ht.cr⟩;rw [e];generalize ({t with cnt:=false}:T)=t0 at h hs ⊢;rcases hq:t0.look 0 b c with ⟨q,u⟩;rw [hq] at h;cases q with
 | dead e o=>cases u<;>cases h
 | live t1=>
   obtain ⟨k1,k2⟩:=look_wide (p:=p) hq hs;rw [k1];cases u with
   | true=>
     obtain rfl:t1=t2:=by simpa using h
     exact ⟨rfl,k2⟩
   | false=>
     simp only at h ⊢;rcases hq2:t1.look 0 b c with ⟨q2,u2⟩;rw [hq2] at h;simp only at h;subst h;obtain ⟨k3,k4⟩:=look_wide (p:=p) hq2 k2;rw [k3];exact ⟨rfl,k4⟩
theorem feed_wide (l:List UInt8):∀{t:T},t.Strict→(Q.live t).feed 0 b l=.live t2→(Q.live (t.wide p)).feed p b l=.live (t2.wide p)∧t2.Strict:=by
 induction l with
 | nil=>
   intro t ht h;obtain rfl:t=t2:=by simpa [Q.feed] using h
   exact ⟨rfl,ht⟩
 | cons c l ih=>
   intro t ht h;have h':(t.take 0 b c).feed 0 b l=.live t2:=h;cases hq:t.take 0 b c with
   | live t1=>
     obtain ⟨k1,k2⟩:=take_wide (p:=p) hq ht;rw [hq] at h';have:=ih k2 h';have e:(Q.live (t.wide p)).feed p b (c::l)=((t.wide p).take p b c).feed p b l:=rfl;rw [e,k1];exact this
   | dead e o=>
     rw [hq] at h';have:∀l:List UInt8,(Q.dead e o).feed 0 b l=.dead e o:=fun l=>by induction l with
      | nil=>rfl
      | cons c l ih=>exact ih
     rw [this] at h';cases h'
theorem new_wide:T.new p b=(T.new 0 b).wide p∧(T.new 0 b).Strict:=⟨rfl,none0 1,none0 2⟩
end
end Go.Proofs.YtimoakmcelocfaaGreat.Pg
