import Derived.Test.YtimoakmcelocfaaGreatAyc
namespace Go.Proofs.YtimoakmcelocfaaGreat.Ln
open Go.RowKit Base
def ended (x:Int):Bool:=x==1||x==2
def failed (x:Int):Bool:=x==3||x==4
theorem f0:failed 0=false:=rfl
theorem f1:failed 1=false:=rfl
theorem f2:failed 2=false:=rfl
theorem f3:failed 3=true:=rfl
theorem f4:failed 4=true:=rfl
theorem d0:ended 0=false:=rfl
theorem d1:ended 1=true:=rfl
theorem d2:ended 2=true:=rfl
theorem d3:ended 3=false:=rfl
theorem d4:ended 4=false:=rfl
structure M where
 lf:Bool
 cr:Bool
 most:Nat
 buf:List UInt8
 last:Int
 pend:Bool
structure M.Ok (m:M):Prop where
 last:m.last=0∨m.last=1∨m.last=2∨m.last=3∨m.last=4
 most:m.most≤4096
 len:m.buf.length≤m.most
 pend:m.pend=true→m.last=0
def M.line (m:M):List UInt8:=if ended m.last then m.buf else []
def M.len (m:M):Nat:=if ended m.last then 0 else m.buf.length
def M.clear (m:M):M:={m with buf:=if ended m.last then [] else m.buf}
def M.next (m:M) (c:UInt8):Int:=
 if failed m.last then 3 else if m.pend then (if c=10 then 1 else if m.cr then 2 else 3) else if c=10 then (if m.lf then 1 else 3) else if c=13 then 0 else if m.buf.length=m.most then 4 else 0
def M.keeps (m:M) (c:UInt8):Bool:=if failed m.last then false else if m.pend then false else if c=10 then false else if c=13 then false else if m.buf.length=m.most then false else true
def M.told (m:M) (c:UInt8):M:={m with buf:=m.buf++(if m.keeps c then [c] else [])}
def M.byte (m:M) (c:UInt8):M:={m.clear.told c with last:=m.clear.next c,pend:=m.clear.next c==0&&c==13}
theorem M.Ok.clear {m:M} (h:m.Ok):m.clear.Ok:=by
 obtain ⟨h1,h2,h3,h4⟩:=h;refine ⟨h1,h2,?_,h4⟩;show (if ended m.last then [] else m.buf).length≤m.most;split
 ·exact Nat.zero_le _
 ·exact h3
theorem M.next_is (m:M) (c:UInt8):m.next c=0∨m.next c=1∨m.next c=2∨m.next c=3∨m.next c=4:=by
 unfold M.next
 repeat' split
 all_goals simp
theorem M.Ok.told {m:M} (h:m.Ok) (c:UInt8):(m.told c).buf.length≤m.most:=by
 have h3:=h.len;show (m.buf++(if m.keeps c then [c] else [])).length≤m.most;by_cases hk:m.keeps c=true
 ·rw [if_pos hk,List.length_append];unfold M.keeps at hk
  repeat' split at hk
  all_goals first |(exact absurd hk (by decide)) |(rw [List.length_singleton];omega)
 ·rw [if_neg hk,List.append_nil];exact h3
theorem M.Ok.byte {m:M} (h:m.Ok) (c:UInt8):(m.byte c).Ok:=by refine ⟨M.next_is _ c,h.most,h.clear.told c,fun hp=>?_⟩;have:(m.clear.next c==0&&c==13)=true:=hp;simp only [Bool.and_eq_true,beq_iff_eq] at this;exact this.1
def M.new (lf cr:Bool) (most:Nat):M:=⟨lf,cr,most,[],0,false⟩
theorem M.new_ok (lf cr:Bool) (most:Nat) (h:most≤4096):(M.new lf cr most).Ok:=⟨.inl rfl,h,Nat.zero_le _,fun h=>by cases h⟩
structure R where
 lf:Bool
 cr:Bool
 most:Nat
 B:List UInt8
 CR:Bool
 L:List UInt8
 over:Bool
 dead:Bool
def R.start (q:R):R:={q with L:= [],over:=false}
def R.fin (q:R):R:={q with L:=q.B,B:= [],CR:=false,over:=true}
def R.die (q:R):R:={q with dead:=true}
def R.how (q:R) (c:UInt8):Int:=
 if q.dead then 3 else if q.CR&&c==10 then 1 else if q.CR&&q.cr then 2 else if q.CR then 3 else if c==10&&q.lf then 1 else if c==10 then 3 else if c==13 then 0 else if q.most≤q.B.length then 4 else 0
def R.byte (q:R) (c:UInt8):R:=
 if q.dead then q else if q.CR&&c==10 then q.start.fin else if q.CR&&q.cr then q.start.fin else if q.CR then q.start.die else if c==10&&q.lf then q.start.fin else if c==10 then q.start.die
 else if c==13 then {q.start with CR:=true} else if q.most≤q.B.length then q.start.die else {q.start with B:=q.B ++ [c]}
def R.new (lf cr:Bool) (most:Nat):R:=⟨lf,cr,most,[],false,[],false,false⟩
structure Rel (m:M) (q:R):Prop where
 lf:q.lf=m.lf
 cr:q.cr=m.cr
 most:q.most=m.most
 dead:q.dead=failed m.last
 L:q.L=m.line
 CR:failed m.last=false→q.CR=m.pend
 B:failed m.last=false→q.B=if ended m.last then [] else m.buf
theorem step_how {m:M} {q:R} (h:Rel m q) (hm:m.Ok) (c:UInt8):q.how c=m.clear.next c:=by
 obtain ⟨lf,cr,most,B,CR,L,over,dead⟩:=q;obtain ⟨h1,h2,h3,h4,h5,h6,h7⟩:=h;have hl:=hm.clear.len;simp only at h1 h2 h3 h4 h5 h6 h7;subst h1 h2 h3;unfold R.how M.next;simp only;have e1:m.clear.last=m.last:=rfl;have e2:m.clear.pend=m.pend:=rfl;have e3:m.clear.cr=m.cr:=rfl;have e4:m.clear.lf=m.lf:=rfl;have e5:m.clear.most=m.most:=rfl;rw [e1,e2,e3,e4,e5];rw [e5] at hl;cases hf:failed m.last with
 | true=>rw [h4,hf];simp
 | false=>
   have h8:B=m.clear.buf:=h7 hf;have h9:=h6 hf;subst h8 h9;rw [h4,hf];by_cases c10:c=10
   ·subst c10;cases m.pend<;>cases m.lf<;>cases m.cr<;>simp
   ·by_cases c13:c=13
    ·subst c13;cases m.pend<;>cases m.lf<;>cases m.cr<;>simp
    ·by_cases hq:m.clear.buf.length=m.most
     ·cases m.pend<;>cases m.cr<;>simp [c10,c13,hq]
     ·have:¬m.most≤m.clear.buf.length:=by omega
      cases m.pend<;>cases m.cr<;>simp [c10,c13,hq,this]
theorem step_rel {m:M} {q:R} (h:Rel m q) (hm:m.Ok) (c:UInt8):Rel (m.byte c) (q.byte c):=by
 obtain ⟨lf,cr,most,B,CR,L,over,dead⟩:=q;obtain ⟨h1,h2,h3,h4,h5,h6,h7⟩:=h;have hl:=hm.clear.len;have hp:=hm.pend;simp only at h1 h2 h3 h4 h5 h6 h7;subst h1 h2 h3 h5 h4;have e1:m.clear.last=m.last:=rfl;have e2:m.clear.pend=m.pend:=rfl;have e3:m.clear.cr=m.cr:=rfl;have e4:m.clear.lf=m.lf:=rfl;have e5:m.clear.most=m.most:=rfl;have e6:(m.byte c).last=m.clear.next c:=rfl;have e7:(m.byte c).buf=m.clear.buf++(if m.clear.keeps c then [c] else []):=rfl;have e8:(m.byte c).pend=(m.clear.next c==0&&c==13):=rfl;have e9:(m.byte c).lf=m.lf:=rfl;have e10:(m.byte c).cr=m.cr:=rfl;have e11:(m.byte c).most=m.most:=rfl;rw [e5] at hl;have key:∀(q':R),q'.lf=m.lf→q'.cr=m.cr→q'.most=m.most→q'.dead=failed (m.clear.next c)→(q'.L=if ended (m.clear.next c) then m.clear.buf++(if m.clear.keeps c then [c] else []) else [])→
  (failed (m.clear.next c)=false→q'.CR=(m.clear.next c==0&&c==13))→(failed (m.clear.next c)=false→q'.B=if ended (m.clear.next c) then [] else m.clear.buf++(if m.clear.keeps c then [c] else []))→Rel (m.byte c) q':=by
  intro q' a1 a2 a3 a4 a5 a6 a7;refine ⟨a1,a2,a3,by rw [e6];exact a4,?_,by rw [e6,e8];exact a6,by rw [e6,e7];exact a7⟩;rw [a5,M.line,e6,e7]
 unfold R.byte;simp only;cases hf:failed m.last with
 | true=>
   rw [if_pos rfl];have en:m.clear.next c=3:=by unfold M.next;rw [e1,hf,if_pos rfl]
   refine key _ rfl rfl rfl ?_ ?_ ?_ ?_
   ·rw [en];rfl
   ·rw [en];show m.line= _;have:ended m.last=false:=by
     unfold failed at hf;unfold ended;rcases hm.last with e | e | e | e | e<;>rw [e] at hf ⊢<;>first | rfl | cases hf
    rw [M.line,this];rfl
   ·rw [en];intro h;cases h
   ·rw [en];intro h;cases h
 | false=>
   have h8:B=m.clear.buf:=h7 hf;have h9:=h6 hf;subst h8 h9;rw [if_neg (by decide)];by_cases c10:c=10
   ·subst c10;cases hpe:m.pend<;>cases hlf:m.lf<;>cases hcr:m.cr<;>refine key _ ?_ ?_ ?_ ?_ ?_ ?_ ?_<;>simp [M.next,M.keeps,R.fin,R.die,R.start,e1,e2,e4,hf,hpe,hlf,hcr,f1,f3,d1,d3]<;>try rfl
   ·by_cases c13:c=13
    ·subst c13;cases hpe:m.pend<;>cases hlf:m.lf<;>cases hcr:m.cr<;>refine key _ ?_ ?_ ?_ ?_ ?_ ?_ ?_<;>simp [M.next,M.keeps,R.fin,R.die,R.start,e1,e2,e3,hf,hpe,hlf,hcr,f0,f2,f3,d0,d2,d3]<;>try rfl
    ·by_cases hq:m.clear.buf.length=m.most
     ·cases hpe:m.pend<;>cases hcr:m.cr<;>refine key _ ?_ ?_ ?_ ?_ ?_ ?_ ?_<;>simp [M.next,M.keeps,R.fin,R.die,R.start,e1,e2,e3,e5,hf,hpe,hcr,f2,f3,f4,d2,d3,d4,c10,c13,hq]<;>try rfl
     ·have:¬m.most≤m.clear.buf.length:=by omega
      cases hpe:m.pend<;>cases hcr:m.cr<;>refine key _ ?_ ?_ ?_ ?_ ?_ ?_ ?_<;>simp [M.next,M.keeps,R.fin,R.die,R.start,e1,e2,e3,e5,hf,hpe,hcr,f0,f2,f3,d0,d2,d3,c10,c13,hq,this]<;>try rfl
end Go.Proofs.YtimoakmcelocfaaGreat.Ln
namespace Go.Proofs.YtimoakmcelocfaaGreat.Ln
open Go.RowKit Base
section memory
variable {w w' w'':World} {g k B:Nat} {cs:Array Value} {ty:TypeId} {o o':Option Nat}
theorem row_lt (h:w.heap[g]?=some (.cells cs ty (0,0))):g<w.heap.size:=(Array.getElem?_eq_some_iff.1 h).1
theorem row_cell (h:w.heap[g]?=some (.cells cs ty (0,0))) {v:Value} (hk:cs[k]?=some v):w.cell? ⟨g,k,none⟩=some v:=(cell_of_row w g k cs ty (0,0) h).trans hk
theorem row_frozen (h:w.heap[g]?=some (.cells cs ty (0,0))) (k:Nat):w.frozen? ⟨g,k,none⟩=false:=by simp [World.frozen?,h]
theorem row_set (h:w.heap[g]?=some (.cells cs ty (0,0))) (k:Nat) (v:Value):(w.setCell ⟨g,k,none⟩ v).heap[g]?=some (.cells (cs.setIfInBounds k v) ty (0,0)):=by simp [World.setCell,Array.getElem?_modify,h]
structure Kept (g:Nat) (o:Option Nat) (w w':World):Prop where
 os:w'.os=w.os
 tape:w'.tape=w.tape
 output:w'.output=w.output
 size:w.heap.size≤w'.heap.size
 block:∀k,k<w.heap.size→k≠g→some k≠o→w'.heap[k]?=w.heap[k]?
theorem Kept.refl (g:Nat) (o:Option Nat) (w:World):Kept g o w w:=⟨rfl,rfl,rfl,Nat.le_refl _,fun _ _ _ _=>rfl⟩
def Moved (w:World) (o o':Option Nat):Prop:=o'=o∨o'=none∨∃k,o'=some k∧w.heap.size≤k
theorem Moved.refl (w:World) (o:Option Nat):Moved w o o:=.inl rfl
theorem Kept.trans (h:Kept g o w w') (h':Kept g o' w' w'') (hm:Moved w o o'):Kept g o w w'':=by
 refine ⟨h'.os.trans h.os,h'.tape.trans h.tape,h'.output.trans h.output,Nat.le_trans h.size h'.size,fun k hk h1 h2=>?_⟩
 refine (h'.block k (Nat.lt_of_lt_of_le hk h.size) h1 ?_).trans (h.block k hk h1 h2);rcases hm with rfl | rfl | ⟨j,rfl,hj⟩
 ·exact h2
 ·exact fun e=>by cases e
 ·intro e;have:k=j:=by simpa using e
  omega
theorem Kept.set (g:Nat) (o:Option Nat) (w:World) (k:Nat) (v:Value):Kept g o w (w.setCell ⟨g,k,none⟩ v):=⟨rfl,rfl,rfl,by simp,fun j _ h1 _=>Below.heap_setCell _ _ _ _ h1⟩
theorem Kept.grown (hg:w.grownBy w' o) (g:Nat):Kept g o w w':=⟨hg.os,hg.tape,hg.output,hg.size,fun k hk _ h2=>hg.block k hk h2⟩
theorem Kept.of_below (hb:Below w.heap.size w w') (g:Nat) (o:Option Nat):Kept g o w w':=⟨hb.os,hb.tape,hb.output,hb.size,fun k hk _ _=>hb.block k hk⟩
theorem Kept.own (h:Kept g o w w') {e:TypeId} {size:Nat} {v:Value} {n:Nat} {xs:List Value} (hv:w.ownsRow B e size v n xs) (h1:v.ownBlock≠some g) (h2:v.ownBlock=none∨v.ownBlock≠o):w'.ownsRow B e size v n xs:=by
 refine ⟨hv.1,?_⟩;rcases hv.2 with hn | ⟨b,cap,cur,rfl,hb,hgg,rest⟩
 ·exact .inl hn
 ·refine .inr ⟨b,cap,cur,rfl,hb,?_,rest⟩;rw [h.block b (row_lt hgg) (by simpa [Value.ownBlock] using h1) (by simpa [Value.ownBlock] using h2)];exact hgg
theorem own_set {e:TypeId} {size:Nat} {v:Value} {n:Nat} {xs:List Value} (hv:w.ownsRow B e size v n xs) (h1:v.ownBlock≠some g) (k:Nat) (u:Value):(w.setCell ⟨g,k,none⟩ u).ownsRow B e size v n xs:=
 (Kept.set g none w k u).own hv h1 (by cases v.ownBlock<;>simp)
theorem own_slice {e:TypeId} {size:Nat} {v:Value} {n:Nat} {xs:List Value} (hv:w.ownsRow B e size v n xs):∃b cap,v=.slice b n cap∧n≤cap∧cap≤maxLen∧(b=none∧n=0∧cap=0∨∃j,b=some ⟨j,0,none⟩):=by
 rcases hv.2 with ⟨rfl,rfl⟩ | ⟨b',cap',cur,rfl,hb,hg,hn,hc,hs,ht⟩
 ·exact ⟨none,0,rfl,Nat.le_refl _,Nat.zero_le _,.inl ⟨rfl,rfl,rfl⟩⟩
 ·exact ⟨_,cap',rfl,hn,hc,.inr ⟨b',rfl⟩⟩
end memory
def vals (l:List UInt8):List Value:=l.map fun b=>.int .u8 (b.toNat:Int)
theorem vals_app (a b:List UInt8):vals (a++b)=vals a++vals b:=List.map_append
abbrev ptr (g:Nat):Value:=.pointer (some ⟨g,0,none⟩)
abbrev byteV (c:UInt8):Value:=.int .u8 (c.toNat:Int)
abbrev ba (l:List UInt8):ByteArray:=⟨l.toArray⟩
abbrev cellsOf (m:M) (v:Value):Array Value:=#[.bool m.lf,.bool m.cr,.int .i64 (m.most:Int),v,.int .i64 m.last,.bool m.pend]
theorem conv_own {w:World} {B:Nat} {v:Value} {l:List UInt8} (h:w.ownsRow B 5 1 v l.length (vals l)):(convert 34 9 v).run Tryz.prog w=.ok (.string (ba l)) w:=by
 rcases h.2 with ⟨rfl,hn⟩ | ⟨b,cap,cur,rfl,hb,hg,_,_,_,ht⟩
 ·obtain rfl:l= []:=List.length_eq_zero_iff.1 hn;exact run_convert_bytes_nil w _ 5 Tryz.underlying34 Tryz.underlying5 0 0 _ Tryz.underlying9
 ·refine run_convert_bytes_back (P:=Tryz.prog) w 34 9 5 ⟨b,0,none⟩ cap l Tryz.underlying34 Tryz.underlying5 Tryz.underlying9 (fun j hj=>?_);refine h.cells (g:=b) rfl j _ ?_;rw [vals,List.getElem?_map,List.getElem?_eq_getElem hj];rfl
section code
set_option maxHeartbeats 1000000
set_option maxRecDepth 20000
attribute [local go_sem] Base.some_undef
variable {w:World} {g B:Nat} {m:M} {v:Value}
theorem ne10 {c:UInt8} (h:¬c=10):((c.toNat:Int)==10)=false:=by refine beq_eq_false_iff_ne.2 fun e=>h (UInt8.toNat_inj.1 ?_);show c.toNat=10;omega
theorem ne13 {c:UInt8} (h:¬c=13):((c.toNat:Int)==13)=false:=by refine beq_eq_false_iff_ne.2 fun e=>h (UInt8.toNat_inj.1 ?_);show c.toNat=13;omega
end code
end Go.Proofs.YtimoakmcelocfaaGreat.Ln
namespace Go.Proofs.YtimoakmcelocfaaGreat.Ln
open Go.RowKit Base
def mid (x:Int):Nat:=(min (max x 0) 4096).toNat
theorem mid_le (x:Int):mid x≤4096:=by unfold mid;omega
theorem mid_b (x:Int):((mid x:Nat):Int)=min (max x 0) 4096:=by unfold mid;omega
abbrev M.of (p:Nat) (most:Int):M:=M.new (Qk.has p 1) (Qk.has p 2) (mid most)
theorem byte_info:(Tryz.prog.info? 5).map (fun i=>(i.zero,i.size,i.bytes))=some (some (.int .u8 0),1,1):=by kernel_rfl
section code
set_option maxHeartbeats 2000000
set_option maxRecDepth 40000
attribute [local go_sem] Base.some_undef
theorem clear_of {m:M} (h:ended m.last=false):m.clear=m:=by obtain ⟨lf,cr,most,buf,last,pend⟩:=m;simp only at h;simp [M.clear,h]
end code
end Go.Proofs.YtimoakmcelocfaaGreat.Ln
namespace Go.Proofs.YtimoakmcelocfaaGreat.Ln
open Go.RowKit Base
abbrev rcells (p:Nat) (q:R) (v:Value):Array Value:=#[.int .u32 (p:Int),.int .i64 (q.most:Int),v,.bool q.CR,.string (ba q.L),.bool q.over,.bool q.dead]
structure Rr (w:World) (B g:Nat) (v:Value) (p:Nat) (q:R):Prop where
 row:w.heap[g]?=some (.cells (rcells p q v) 101 (0,0))
 own:w.ownsRow B 5 1 v q.B.length (vals q.B)
 ge:B≤g
 ne:v.ownBlock≠some g
theorem seven {w:World} {g:Nat} {v:Value} {p:Nat} {q:R} (h:w.heap[g]?=some (.cells (rcells p q v) 101 (0,0))) :
 w.cell? ⟨g,0,none⟩=some (.int .u32 (p:Int))∧w.cell? ⟨g,1,none⟩=some (.int .i64 (q.most:Int))∧w.cell? ⟨g,2,none⟩=some v∧w.cell? ⟨g,3,none⟩=some (.bool q.CR)∧w.cell? ⟨g,4,none⟩=some (.string (ba q.L))∧w.cell? ⟨g,5,none⟩=some (.bool q.over)∧w.cell? ⟨g,6,none⟩=some (.bool q.dead):=
 ⟨row_cell h rfl,row_cell h rfl,row_cell h rfl,row_cell h rfl,row_cell h rfl,row_cell h rfl,row_cell h rfl⟩
theorem start_rr {w:World} {B g:Nat} {v:Value} {p:Nat} {q:R} (h:Rr w B g v p q):Rr ((w.setCell ⟨g,4,none⟩ (.string ⟨#[]⟩)).setCell ⟨g,5,none⟩ (.bool false)) B g v p q.start:=
 ⟨(row_set (row_set h.row 4 _) 5 _).trans rfl,own_set (own_set h.own h.ne 4 _) h.ne 5 _,h.ge,h.ne⟩
theorem start_kept (w:World) (g:Nat) (o:Option Nat):Kept g o w ((w.setCell ⟨g,4,none⟩ (.string ⟨#[]⟩)).setCell ⟨g,5,none⟩ (.bool false)):=(Kept.set g o w 4 _).trans (Kept.set g o _ 5 _) (Moved.refl _ _)
theorem die_rr {w:World} {B g:Nat} {v:Value} {p:Nat} {q:R} (h:Rr w B g v p q):Rr (w.setCell ⟨g,6,none⟩ (.bool true)) B g v p q.die:=
 ⟨(row_set h.row 6 _).trans rfl,own_set h.own h.ne 6 _,h.ge,h.ne⟩
theorem cr_rr {w:World} {B g:Nat} {v:Value} {p:Nat} {q:R} (h:Rr w B g v p q):Rr (w.setCell ⟨g,3,none⟩ (.bool true)) B g v p {q with CR:=true}:=
 ⟨(row_set h.row 3 _).trans rfl,own_set h.own h.ne 3 _,h.ge,h.ne⟩
theorem fin_rr {w:World} {B g:Nat} {v:Value} {p:Nat} {q:R} (h:Rr w B g v p q) :
 Rr ((((w.setCell ⟨g,4,none⟩ (.string (ba q.B))).setCell ⟨g,2,none⟩ (.slice none 0 0)).setCell ⟨g,3,none⟩ (.bool false)).setCell ⟨g,5,none⟩ (.bool true)) B g (.slice none 0 0) p q.fin:=
 ⟨(row_set (row_set (row_set (row_set h.row 4 _) 2 _) 3 _) 5 _).trans rfl,⟨rfl,.inl ⟨rfl,rfl⟩⟩,h.ge,fun e=>by cases e⟩
theorem fin_kept (w:World) (g:Nat) (o:Option Nat) (s:Value):Kept g o w ((((w.setCell ⟨g,4,none⟩ s).setCell ⟨g,2,none⟩ (.slice none 0 0)).setCell ⟨g,3,none⟩ (.bool false)).setCell ⟨g,5,none⟩ (.bool true)):=
 (((Kept.set g o w 4 _).trans (Kept.set g o _ 2 _) (Moved.refl _ _)).trans (Kept.set g o _ 3 _) (Moved.refl _ _)).trans (Kept.set g o _ 5 _) (Moved.refl _ _)
section code
set_option maxHeartbeats 2000000
set_option maxRecDepth 40000
attribute [local go_sem] Base.some_undef
theorem rnew_any (p:Nat) (most:Int) (w:World):Calls Tryz.prog 55 #[.int .u32 p,.int .i64 most] w
 fun e w'=>e=.returned (ptr w.heap.size)∧w'=w.alloc (.cells (rcells p (R.new (Qk.has p 1) (Qk.has p 2) (mid most)) (.slice none 0 0)) 101):=by
 have HM:=Lib.hid (mid_b most);go_enter Tryz.func55,Tryz.ntmps55;go_wp2;go_ret;refine ⟨rfl,?_⟩;simp only [R.new,rcells,HM.out]
theorem rdie_any (x:Int) (w:World) (B g:Nat) (v:Value) (p:Nat) (q:R) (h:Rr w B g v p q):Calls Tryz.prog 79 #[ptr g,.int .i64 x] w fun e w'=>e=.returned (.int .i64 x)∧Rr w' B g v p q.die∧∀o,Kept g o w w':=by have HD:=Lib.hid (die_rr h);obtain ⟨q0,q1,q2,q3,q4,q5,q6⟩:=seven h.row;have z6:=row_frozen h.row 6;clear q0 q1 q2 q3 q4 q5 h;go_enter Tryz.func79,Tryz.ntmps79;go_wp2;go_ret;exact ⟨rfl,HD.out,fun o=>Kept.set g o w 6 _⟩
theorem rend_any (x:Int) (w:World) (B g:Nat) (v:Value) (p:Nat) (q:R) (h:Rr w B g v p q):Calls Tryz.prog 78 #[ptr g,.int .i64 x] w fun e w'=>e=.returned (.int .i64 x)∧Rr w' B g (.slice none 0 0) p q.fin∧∀o,Kept g o w w':=by have HD:=Lib.hid (fin_rr h);have hcv:=conv_own h.own;obtain ⟨q0,q1,q2,q3,q4,q5,q6⟩:=seven h.row;have z2:=row_frozen h.row 2;have z3:=row_frozen h.row 3;have z4:=row_frozen h.row 4;have z5:=row_frozen h.row 5;obtain ⟨b,cap,rfl,_⟩:=own_slice h.own;clear q0 q1 q6 h;go_enter Tryz.func78,Tryz.ntmps78;go_wp2;go_ret;exact ⟨rfl,HD.out,fun o=>fin_kept w g o _⟩
end code
end Go.Proofs.YtimoakmcelocfaaGreat.Ln
namespace Go.Proofs.YtimoakmcelocfaaGreat.Ln
open Go.RowKit Base
section code
set_option maxHeartbeats 4000000
set_option maxRecDepth 40000
attribute [local go_sem] Base.some_undef
theorem rbyte_any (c:UInt8) (q:R) (hq:q.most≤4096) (p:Nat) (hp:p<4294967296) (h1:q.lf=Qk.has p 1) (h2:q.cr=Qk.has p 2) (w:World) (B g:Nat) (v:Value) (h:Rr w B g v p q) :
 Calls Tryz.prog 70 #[ptr g,byteV c] w fun e w'=>∃v',e=.returned (.int .i64 (q.how c))∧Rr w' B g v' p (q.byte c)∧Kept g v.ownBlock w w'∧Moved w v.ownBlock v'.ownBlock:=by
 have HR:=Lib.hid h
 have HS:=Lib.hid (start_rr h)
 have HSK:=Lib.hid (start_kept w g v.ownBlock)
 have HEN:=Lib.hid (fun x=>rend_any x _ B g v p q.start HS.out)
 have HDI:=Lib.hid (fun x=>rdie_any x _ B g v p q.start HS.out)
 have HL:=Lib.hid (fun w=>Qk.rhas_any p hp 1 w);have HC:=Lib.hid (fun w=>Qk.rhas_any p hp 2 w);obtain ⟨q0,q1,q2,q3,q4,q5,q6⟩:=seven h.row;have z2:=row_frozen h.row 2;have z3:=row_frozen h.row 3;have z4:=row_frozen h.row 4;have z5:=row_frozen h.row 5;clear h;have HH:q.how c=q.how c:=rfl
 conv at HH=>rhs;unfold R.how
 have HB:q.byte c=q.byte c:=rfl
 conv at HB=>rhs;unfold R.byte
 generalize hd:q.dead=d at *;cases d with
 | true=>
   rw [if_pos rfl] at HH HB;rw [HH,HB];clear HH HB;go_enter Tryz.func70,Tryz.ntmps70;go_wp2;go_ret;exact ⟨v,rfl,HR.out,Kept.refl _ _ _,Moved.refl _ _⟩
 | false=>
   rw [if_neg (by decide)] at HH HB;rw [←h1] at HL;rw [←h2] at HC;clear h1 h2;generalize hCR:q.CR=CR at *;have hc:(c=10∧((c.toNat:Int)==10)=true∧(c==10)=true)∨(¬c=10∧((c.toNat:Int)==10)=false∧(c==10)=false):=by
    by_cases e:c=10
    ·subst e;exact .inl ⟨rfl,rfl,rfl⟩
    ·exact .inr ⟨e,ne10 e,beq_eq_false_iff_ne.2 e⟩
   obtain ⟨b,cap,rfl,hcap,hcm,hbb⟩:=own_slice HR.out.own;cases CR with
   | true=>
     rcases hc with ⟨hc0,hc1,hc2⟩ | ⟨hc0,hc1,hc2⟩
     ·rw [hc2] at HH HB;simp only [Bool.and_self,if_true] at HH HB;rw [HH,HB];clear HH HB hc0 hc2;go_enter Tryz.func70,Tryz.ntmps70
      go_wp2_with (go_at_call 78;with_reducible refine (HEN.out _).mono ?_;rintro e w2 ⟨rfl,hD,hK⟩);go_ret;exact ⟨_,rfl,hD,HSK.out.trans (hK _) (Moved.refl _ _),.inr (.inl rfl)⟩
     ·generalize q.cr=cr at *;rw [hc2] at HH HB;cases cr;all_goals
       simp only [Bool.and_false,Bool.false_eq_true,if_true,if_false] at HH HB;rw [HH,HB];clear HH HB hc0 hc2;go_enter Tryz.func70,Tryz.ntmps70
       go_wp2_with (first
        |(go_at_call 78;with_reducible refine (HEN.out _).mono ?_;rintro e w2 ⟨rfl,hD,hK⟩)
        |(go_at_call 79;with_reducible refine (HDI.out _).mono ?_;rintro e w2 ⟨rfl,hD,hK⟩)
        |(go_at_call 39;with_reducible refine (HC.out _).mono ?_;rintro e w3 ⟨rfl,hw⟩;rw [hw];clear hw))
       go_ret;first
        | exact ⟨_,rfl,hD,HSK.out.trans (hK _) (Moved.refl _ _),.inr (.inl rfl)⟩
        | exact ⟨_,rfl,hD,HSK.out.trans (hK _) (Moved.refl _ _),Moved.refl _ _⟩
        | exact ⟨rfl,_,hD,HSK.out.trans (hK _) (Moved.refl _ _),.inr (.inl rfl)⟩
        | exact ⟨rfl,_,hD,HSK.out.trans (hK _) (Moved.refl _ _),Moved.refl _ _⟩
   | false=>
     simp only [Bool.false_and,Bool.false_eq_true,if_false] at HH HB;rcases hc with ⟨hc0,hc1,hc2⟩ | ⟨hc0,hc1,hc2⟩
     ·generalize q.lf=lf at *;rw [hc2] at HH HB;cases lf;all_goals
       simp only [Bool.and_false,Bool.false_eq_true,if_true,if_false] at HH HB;rw [HH,HB];clear HH HB hc0 hc2;go_enter Tryz.func70,Tryz.ntmps70
       go_wp2_with (first
        |(go_at_call 78;with_reducible refine (HEN.out _).mono ?_;rintro e w2 ⟨rfl,hD,hK⟩)
        |(go_at_call 79;with_reducible refine (HDI.out _).mono ?_;rintro e w2 ⟨rfl,hD,hK⟩)
        |(go_at_call 39;with_reducible refine (HL.out _).mono ?_;rintro e w3 ⟨rfl,hw⟩;rw [hw];clear hw))
       go_ret;first
        | exact ⟨_,rfl,hD,HSK.out.trans (hK _) (Moved.refl _ _),.inr (.inl rfl)⟩
        | exact ⟨_,rfl,hD,HSK.out.trans (hK _) (Moved.refl _ _),Moved.refl _ _⟩
        | exact ⟨rfl,_,hD,HSK.out.trans (hK _) (Moved.refl _ _),.inr (.inl rfl)⟩
        | exact ⟨rfl,_,hD,HSK.out.trans (hK _) (Moved.refl _ _),Moved.refl _ _⟩
     ·rw [hc2] at HH HB;simp only [Bool.false_and,Bool.false_eq_true,if_false] at HH HB;by_cases h13:c=13
      ·have e13:((c.toNat:Int)==13)=true:=by rw [h13];rfl
       have e13':(c==13)=true:=by rw [h13];rfl
       rw [e13'] at HH HB;simp only [if_true] at HH HB
       have HX:=Lib.hid (cr_rr HS.out)
       have HXK:=Lib.hid (Kept.set g (Value.slice b q.B.length cap).ownBlock ((w.setCell ⟨g,4,none⟩ (.string ⟨#[]⟩)).setCell ⟨g,5,none⟩ (.bool false)) 3 (.bool true));rw [HH,HB];clear HH HB hc0 hc2 h13 e13';go_enter Tryz.func70,Tryz.ntmps70;go_wp2;go_ret;exact ⟨_,rfl,HX.out,HSK.out.trans HXK.out (Moved.refl _ _),Moved.refl _ _⟩
      ·have e13:=ne13 h13;have e13':(c==13)=false:=beq_eq_false_iff_ne.2 h13;rw [e13'] at HH HB;simp only [Bool.false_eq_true,if_false] at HH HB;by_cases hl:q.most≤q.B.length
       ·rw [if_pos hl] at HH HB;rw [HH,HB];have eL:(q.most:Int)≤(q.B.length:Int):=by omega
        clear HH HB hc0 hc2 h13 e13' hl;go_enter Tryz.func70,Tryz.ntmps70;go_wp2
        go_quiet (fail);rename_i nq
        have HDI2:=Lib.hid (fun x=>rdie_any x (((w.setCell ⟨g,4,none⟩ (.string ⟨#[]⟩)).setCell ⟨g,5,none⟩ (.bool false)).drewN nq) B g _ p q.start ⟨HS.out.row,HS.out.own,HS.out.ge,HS.out.ne⟩)
        go_wp2_with (go_at_call 79;with_reducible refine (HDI2.out _).mono ?_;rintro e w2 ⟨rfl,hD,hK⟩);go_ret;exact ⟨_,rfl,hD,(HSK.out.trans (Kept.of_below (Base.below_drewN (Below.refl _ _) nq) g _) (Moved.refl _ _)).trans (hK _) (Moved.refl _ _),Moved.refl _ _⟩
       ·rw [if_neg hl] at HH HB;rw [HH,HB];have eL:¬(q.most:Int)≤(q.B.length:Int):=by omega
        clear HH HB hc0 hc2 h13 e13' hl;obtain ⟨i0,hi,hz0,hz1,hz2⟩:=info_parts byte_info;have G1:=Lib.hid hi;have G2:=Lib.hid hz0;have G3:=Lib.hid hz1;have G4:=Lib.hid hz2;clear hi hz0 hz1 hz2;go_enter Tryz.func70,Tryz.ntmps70;go_wp2
        go_quiet (fail);rename_i nq
        have HK1:Hid (Kept g (Value.slice b q.B.length cap).ownBlock w (((w.setCell ⟨g,4,none⟩ (.string ⟨#[]⟩)).setCell ⟨g,5,none⟩ (.bool false)).drewN nq)):=Lib.hid (HSK.out.trans (Kept.of_below (Base.below_drewN (Below.refl _ _) nq) g _) (Moved.refl _ _));have HR1:Hid (Rr (((w.setCell ⟨g,4,none⟩ (.string ⟨#[]⟩)).setCell ⟨g,5,none⟩ (.bool false)).drewN nq) B g (.slice b q.B.length cap) p q.start):=Lib.hid ⟨HS.out.row,HS.out.own,HS.out.ge,HS.out.ne⟩;generalize ((w.setCell ⟨g,4,none⟩ (.string ⟨#[]⟩)).setCell ⟨g,5,none⟩ (.bool false)).drewN nq=w1 at *;have hg0:=row_lt HR.out.row;have hs0:=HK1.out.size;clear q0 q1 q2 q3 q4 q5 q6 z2 z3 z4 z5 HEN HDI HL HC HS HSK;obtain ⟨q0,q1,q2,q3,q4,q5,q6⟩:=seven HR1.out.row;clear q0 q1 q3 q4 q5 q6
        go_wp2_with (at_builtin;(refine wpList_append_own_at _ rfl _ _ 34 rfl B 5 i0 (.int .u8 0) 1 1 Tryz.underlying34 G1.out G2.out G3.out G4.out rfl (by decide) _ _ _ rfl (HR1.out.own.alloc _) ⟨w1.heap.size,0,none⟩ 1 1 [byteV c] rfl rfl ?c1 ?c2 ?c3 ?c4 ?c5 ?_))
        case c1=>exact fun j u hu=>by have:=news_one w1 (byteV c) 5 j u hu;simpa using this
        case c2=>intro u hu;obtain rfl:u=byteV c:=by simpa using hu
                 rfl
        case c3=>show q.B.length+1≤maxLen;unfold maxLen;omega
        case c4=>show (q.B.length+1)*1≤_;omega
        case c5=>have:=row_lt HR1.out.row;have:=HR1.out.ge;simp;omega
        intro v0 w2 hown hgr _ hmv
        replace hown:w2.ownsRow B 5 1 v0 (q.B.length+1) (vals q.B ++ [byteV c]):=hown
        obtain ⟨b2,cap2,hv2,_,_,_⟩:=own_slice hown;obtain ⟨v',hv'⟩:∃v',v'=Value.slice b2 (q.B.length+1) cap2:=⟨_,rfl⟩;rw [hv2] at hown hmv ⊢;rw [←hv'] at hown hmv;have hg1:=row_lt HR1.out.row;have hr2:w2.heap[g]?=some (.cells (rcells p q.start (.slice b q.B.length cap)) 101 (0,0)):=
         (hgr.block g (by simp;omega) (fun e=>HR1.out.ne e.symm)).trans ((Below.heap_alloc w1 _ g hg1).trans HR1.out.row)
        have HD:Hid (Rr (w2.setCell ⟨g,2,none⟩ v') B g v' p {q.start with B:=q.B ++ [c]}):=Lib.hid (by
         have ne':v'.ownBlock≠some g:=by
          rcases hmv with e | e
          ·rw [e];exact HR1.out.ne
          ·rw [e];intro h;simp at h;omega
         refine ⟨(row_set hr2 2 v').trans rfl,own_set ?_ ne' 2 v',HR1.out.ge,ne'⟩;rw [vals_app,List.length_append];exact hown)
        have HKK:Hid (Kept g (Value.slice b q.B.length cap).ownBlock w (w2.setCell ⟨g,2,none⟩ v')):=Lib.hid (
         ((HK1.out.trans (Kept.of_below ((Below.refl _ _).alloc (Nat.le_refl _) _) g _) (Moved.refl _ _)).trans (Kept.grown hgr g) (Moved.refl _ _)).trans (Kept.set g _ w2 2 v') (Moved.refl _ _))
        have HMV:Hid (Moved w (Value.slice b q.B.length cap).ownBlock v'.ownBlock):=Lib.hid (by
         rcases hmv with e | e
         ·exact .inl e
         ·refine .inr (.inr ⟨_,e,?_⟩)
          first | omega |(simp;omega))
        have q3:=(seven hr2).2.2.1;have z3:=row_frozen hr2 2;clear hown hgr hmv hr2 hv2;subst hv';go_wp2;go_ret;first | exact ⟨_,rfl,HD.out,HKK.out,HMV.out⟩ | exact ⟨rfl,_,HD.out,HKK.out,HMV.out⟩
end code
end Go.Proofs.YtimoakmcelocfaaGreat.Ln
namespace Go.Proofs.YtimoakmcelocfaaGreat.Ln
open Go.RowKit Base
section
variable {w w':World} {B g g' p:Nat} {m m':M} {q:R}
end
section code
variable {w:World} {B g g' p:Nat} {m m':M} {q:R}
end code
end Go.Proofs.YtimoakmcelocfaaGreat.Ln
namespace Go.Proofs.YtimoakmcelocfaaGreat.Ln
open Go.RowKit Base
abbrev k0:M:=⟨false,false,5,[],0,false⟩
abbrev k6:M:=⟨true,true,5,[],0,false⟩
section code
set_option maxHeartbeats 4000000
set_option maxRecDepth 40000
attribute [local go_sem] Base.some_undef
end code
end Go.Proofs.YtimoakmcelocfaaGreat.Ln
namespace Go.Proofs.YtimoakmcelocfaaGreat.Rec
open Go.RowKit Base Txt
theorem wrap64_in (x:Int) (h0: -9223372036854775808≤x) (h1:x≤9223372036854775807):wrap64 x=x:=by unfold wrap64;omega
theorem wraps (x:Int) (h: -9223372036854775808≤x∧x≤9223372036854775807):IntKind.i64.wrap x=x∧wrap64 x=x:=⟨wrap_in x h.1 h.2,wrap64_in x h.1 h.2⟩
structure R where
 m:ByteArray
 x:ByteArray
 k:Int
 fs:List Fld
 ch:Bool
 body:List UInt8
 ts:List Fld
def same (a b:R):Bool:=decide (a.m=b.m)&&(decide (a.x=b.x)&&(decide (a.k=b.k)&&(decide (a.fs=b.fs)&&(decide (a.ch=b.ch)&&(decide (a.body=b.body)&&decide (a.ts=b.ts))))))
def all:List R→List R→Bool
 | [],[]=>true
 | a::l,b::r=>same a b&&all l r
 | _,_=>false
def weigh (l:List Fld):Nat:=(l.map fun f=>f.1.size+f.2.size).sum
def size (r:R):Nat:=r.m.size+r.x.size+weigh r.fs+weigh r.ts+r.body.length
abbrev connN:ByteArray:=⟨#[67,111,110,110,101,99,116,105,111,110]⟩
abbrev closeW:ByteArray:=⟨#[99,108,111,115,101]⟩
abbrev keepW:ByteArray:=⟨#[107,101,101,112,45,97,108,105,118,101]⟩
abbrev expectN:ByteArray:=⟨#[69,120,112,101,99,116]⟩
abbrev contW:ByteArray:=⟨#[49,48,48,45,99,111,110,116,105,110,117,101]⟩
def closes (r:R):Bool:=one (list (find r.fs connN)) closeW|| (decide (r.k=0) && !one (list (find r.fs connN)) keepW)
def expects (r:R):Bool:=decide (r.k=1)&&one (list (find r.fs expectN)) contW
theorem same_iff (a b:R):same a b=true↔a=b:=by obtain ⟨m,x,k,fs,ch,body,ts⟩:=a;obtain ⟨m',x',k',fs',ch',body',ts'⟩:=b;simp only [same,Bool.and_eq_true,decide_eq_true_eq,R.mk.injEq]
def Reads (w:World) (V:Value) (r:R):Prop:=
 ∃(fa:Option Addr) (fc:Nat) (ba:Option Addr) (bc:Nat) (ta:Option Addr) (tc:Nat),
  V=.agg #[.string r.m,.string r.x,.int .i64 r.k,.slice fa r.fs.length fc,.bool r.ch,.slice ba r.body.length bc,.slice ta r.ts.length tc]∧
  Flds w fa r.fs.length r.fs∧Nums .u8 w ba r.body.length (nums r.body)∧Flds w ta r.ts.length r.ts
theorem Reads.below {w w':World} {V:Value} {r:R} (h:Reads w V r) (hb:Below w.heap.size w w'):Reads w' V r:=by obtain ⟨fa,fc,ba,bc,ta,tc,e,h1,h2,h3⟩:=h;exact ⟨fa,fc,ba,bc,ta,tc,e,h1.below hb,h2.below hb,h3.below hb⟩
structure Fit (r:R):Prop where
 m:r.m.size≤1000000000
 x:r.x.size≤1000000000
 fs:r.fs.length≤500
 f:∀f∈r.fs,f.1.size≤1000000∧f.2.size≤1000000
 body:r.body.length≤1000000000
 ts:r.ts.length≤500
 t:∀f∈r.ts,f.1.size≤1000000∧f.2.size≤1000000
structure Bk (w:World) (g:Nat) (vs:List Value):Prop where
 c:∀(k:Nat) (v:Value),vs[k]?=some v→w.cell? ⟨g,k,none⟩=some v
 z:∀k,k<vs.length→w.frozen? ⟨g,k,none⟩=false
 lt:g<w.heap.size
section
variable {w w':World} {g:Nat} {vs:List Value}
theorem Bk.below (h:Bk w g vs) (hb:Below w.heap.size w w'):Bk w' g vs:=
 ⟨fun k v hv=>(hb.cell (p:=⟨g,k,none⟩) h.lt).trans (h.c k v hv),fun k hk=>(hb.frozen (p:=⟨g,k,none⟩) h.lt).trans (h.z k hk),Nat.lt_of_lt_of_le h.lt hb.size⟩
theorem Bk.alloc (h:Bk w g vs) (o:Obj):Bk (w.alloc o) g vs:=h.below ((Below.refl _ _).alloc (Nat.le_refl _) _)
theorem Bk.new (w:World) (g:Nat) (hg:g=w.heap.size) (t:TypeId) (vs:List Value):Bk (w.alloc (.cells vs.toArray t)) g vs:=by
 subst hg
 have hh:=heap_alloc_new w (.cells vs.toArray t);refine ⟨fun k v hv=>(cell_of_row (w.alloc _) w.heap.size k _ t (0,0) hh).trans (by simpa using hv),fun k _=>?_,by simp⟩;unfold World.frozen?;simp only [hh];simp
theorem Bk.set (h:Bk w g vs) (k:Nat) (v:Value) (hk:k<vs.length):Bk (w.setCell ⟨g,k,none⟩ v) g (vs.set k v):=by
 have h1:=List.getElem?_eq_getElem hk;have hk1:=h.c k vs[k] h1;have hz1:=h.z k hk;refine ⟨fun j u hu=>?_,fun j hj=>?_,by have:=h.lt;simpa using this⟩
 ·by_cases e:k=j
  ·subst e;rw [List.getElem?_set_self hk] at hu;obtain rfl:v=u:=Option.some.inj hu;go_simp
  ·rw [List.getElem?_set_ne e] at hu;have hj1:=h.c j u hu;have e':¬j=k:=fun x=>e x.symm;go_simp
 ·rw [List.length_set] at hj;have hz2:=h.z j hj;go_simp
end
end Go.Proofs.YtimoakmcelocfaaGreat.Rec
namespace Go.Proofs.YtimoakmcelocfaaGreat.Par
open Go.RowKit Base Txt
structure Bd where
 x0:Int
 x1:Int
 x2:Int
 x3:Int
 x4:Int
 x5:Int
 x6:Int
 x7:Int
 ch:Bool
 od:Bool
def Bd.right (b:Bd):Bool:=Bnd.right b.x0 b.x1 b.x2 b.x3 b.x4 b.x5 b.x6 b.x7
structure S where
 st:Nat
 rd:Ln.R
 r:Rec.R
 lines:Nat
 head:Nat
 left:Nat
 fresh:Bool
 clean:Bool
 e:Nat
 out:List Rec.R
abbrev E0:ByteArray:=⟨#[]⟩
def zero:Rec.R:=⟨E0,E0,0,[],false,[],[]⟩
def nl (p:Nat) (most:Int):Ln.R:=Ln.R.new (Qk.has p 1) (Qk.has p 2) (Ln.mid most)
def headed (st:Nat):Bool:=st==0||st==1||st==6
def bodied (st:Nat):Bool:=st==2||st==4
def joinF (f:Fld) (ln:List UInt8):Fld:=(f.1,ba (Fd.joined f.2.data.toList ln))
def fieldV (p lines:Nat) (l:List Fld) (ln:List UInt8) (most:Int):Nat ⊕ List Fld:=
 if most<((lines+1:Nat):Int) then .inl 431
 else if (Fd.goes p ln && !l.isEmpty)=true then .inr (l.dropLast ++ [joinF (l.getLast?.getD dflt) ln])
 else match Fd.parse (Fd.clOf p) ln with
  | none=>.inl 400
  | some none=>.inr l
  | some (some (n,v))=>.inr (l ++ [(ba n,ba v)])
section
variable (p:Nat) (b:Bd)
def S.fail (s:S) (e:Nat):S:={s with e:=e,clean:=false,r:=zero}
def S.next (s:S):S:={s with r:=zero,st:=0,lines:=0,head:=0,fresh:=false,clean:=true,rd:=nl p b.x0}
def S.whole (s:S):S:=S.next p b {s with out:=s.out ++ [s.r]}
def S.over (s:S):S:=
 let d:=Frm.decideV (Frm.clOf p) b.ch b.x3 s.r.k s.r.fs
 if d.2.2≠0 then s.fail d.2.2.toNat
 else if d.1=2 then {s with r:={s.r with ch:=true},st:=3,fresh:=true,rd:=nl p b.x0}
 else if d.2.1=0 then s.whole p b
 else {s with st:=2,left:=d.2.1.toNat,fresh:=true}
def S.chunk (s:S) (ln:List UInt8):S:=
 let z:=Chk.sizeV (Qk.has p 27) (Qk.has p 28) b.x4 b.x3 ln
 if z.2≠0 then s.fail z.2.toNat
 else if z.1=0 then {s with st:=6,lines:=0,rd:=nl p b.x0}
 else if b.x3-(s.r.body.length:Int)<z.1 then s.fail 413
 else {s with st:=4,left:=z.1.toNat}
def S.first (s:S) (ln:List UInt8):S:=
 if ln= [] then (if Qk.has p 0=true then {s with clean:=true} else s.fail 400)
 else
  let q:=Rq.request (Rq.clOf p) b.od ln
  if q.2.2.2≠0 then s.fail q.2.2.2 else {s with r:={s.r with m:=ba q.1,x:=ba q.2.1,k:=(q.2.2.1:Int)},st:=1}
def S.fields (s:S) (ln:List UInt8):S:=
 if ln= [] then s.over p b
 else match fieldV p s.lines s.r.fs ln b.x1 with
  | .inl e=>S.fail {s with lines:=s.lines+1} e
  | .inr l=>{s with lines:=s.lines+1,r:={s.r with fs:=l}}
def S.trail (s:S) (ln:List UInt8):S:=
 if ln= [] then s.whole p b
 else match fieldV p s.lines s.r.ts ln b.x5 with
  | .inl e=>S.fail {s with lines:=s.lines+1} e
  | .inr l=>{s with lines:=s.lines+1,r:={s.r with ts:=l}}
def S.ended (s:S) (ln:List UInt8):S:=
 match s.st with
 | 0=>s.first p b ln
 | 1=>s.fields p b ln
 | 3=>s.chunk p b ln
 | 5=>{s with st:=3,rd:=nl p b.x0}
 | 6=>s.trail p b ln
 | _=>s
def S.bodyB (s:S) (c:UInt8):S:=
 let s1:={s with r:={s.r with body:=s.r.body ++ [c]},left:=s.left-1}
 if 1<s.left then s1 else if s.st=2 then s1.whole p b else {s1 with st:=5,rd:=nl p 0}
def longE (st:Nat):Nat:=if st=0 then 414 else if headed st=true then 431 else 400
def S.plain (s:S) (c:UInt8):S:=
 let s0:={s with fresh:=false}
 if bodied s.st=true then s0.bodyB p b c
 else
  let s1:={s0 with rd:=s.rd.byte c}
  if s.rd.how c=3 then s1.fail 400
  else if s.rd.how c=4 then s1.fail (longE s.st)
  else if s.rd.how c=0 then s1
  else s1.ended p b (s.rd.byte c).L
def S.count (f:S→S) (s:S):S:=
 if s.e≠0 then s
 else if headed s.st=true then (if b.x2<((s.head+1:Nat):Int) then S.fail {s with head:=s.head+1} 431 else f {s with head:=s.head+1,clean:=false})
 else f {s with clean:=false}
def S.again (s:S) (c:UInt8) (was:Nat):S:=
 if (s.st==0 && !(was==0))=true then s.count b (fun s=>s.plain p b c)
 else
  let s1:={s with clean:=false}
  if (!headed was&&s.st==6)=true then s1.count b (fun s=>s.plain p b c) else s1.plain p b c
def S.byte1 (s:S) (c:UInt8):S:=
 let s0:={s with fresh:=false}
 if bodied s.st=true then s0.bodyB p b c
 else
  let s1:={s0 with rd:=s.rd.byte c}
  if s.rd.how c=3 then s1.fail 400
  else if s.rd.how c=4 then (if (s.st==5&&Qk.has p 29)=true then S.plain p b {s1 with st:=3,rd:=nl p b.x0} c else s1.fail (longE s.st))
  else if s.rd.how c=0 then s1
  else if s.rd.how c=2 then (if (s1.ended p b (s.rd.byte c).L).e=0 then S.again p b (s1.ended p b (s.rd.byte c).L) c s.st else s1.ended p b (s.rd.byte c).L)
  else s1.ended p b (s.rd.byte c).L
def S.byte (s:S) (c:UInt8):S:=s.count b (fun s=>s.byte1 p b c)
def S.feed (s:S) (cs:List UInt8):S:=cs.foldl (S.byte p b) s
def S.new:S:=if (b.right&&decide (p<1073741824))=true then ⟨0,nl p b.x0,zero,0,0,0,false,true,0,[]⟩ else ⟨0,nl p b.x0,zero,0,0,0,false,false,20,[]⟩
def S.waits (s:S):Bool:=decide (s.e=0)&&(s.fresh&&Rec.expects s.r)
def S.held (s:S):Nat:=if s.e=0 then Rec.size s.r+(if bodied s.st=true then 0 else s.rd.B.length) else 0
def S.read (cs:List UInt8):S:=S.feed p b (S.new p b) cs
end
theorem S.feed_app (p:Nat) (b:Bd) (s:S) (xs ys:List UInt8):s.feed p b (xs++ys)=(s.feed p b xs).feed p b ys:=List.foldl_append
theorem S.count_dead {b:Bd} {f:S→S} {s:S} (h:s.e≠0):s.count b f=s:=by unfold S.count;rw [if_pos h]
theorem S.byte_dead {p:Nat} {b:Bd} {s:S} (h:s.e≠0) (c:UInt8):s.byte p b c=s:=S.count_dead h
end Go.Proofs.YtimoakmcelocfaaGreat.Par
namespace Go.Proofs.YtimoakmcelocfaaGreat.Each
open Go.RowKit Base
abbrev Fact:=Value→World→Prop
abbrev is (x:Value):Fact:=fun v _=>v=x
def Lasts (f:Fact):Prop:=∀v w w',Below w.heap.size w w'→f v w→f v w'
def has (l:List Oper) (fs:List Fact) (ev:Operand→Value) (w:World):List Edge→Prop
 | []=>True
 | e::es=>(if Region.binds .any e=true then (match l[e.on]?,fs[e.on]? with
    | some o,some f=>(match o.dst with
      | some d=>f (ev (.tmp d)) w
      | none=>True)
    | _,_=>True) else True)∧has l fs ev w es
def one (l:List Oper) (fs:List Fact) (ev:Operand→Value) (w:World):Option Edge→Prop
 | some e=>(if Region.binds .any e=true then (match l[e.on]?,fs[e.on]? with
    | some o,some f=>(match o.dst with
      | some d=>f (ev (.tmp d)) w
      | none=>True)
    | _,_=>True) else True)
 | none=>True
theorem has.at {l:List Oper} {fs:List Fact} {ev:Operand→Value} {w:World}:∀{es:List Edge},has l fs ev w es→∀n:Nat,one l fs ev w es[n]?
 | [],_,n=>by simp [one]
 | e::es,h,0=>by simpa [one] using h.1
 | e::es,h,n+1=>by simpa using has.at h.2 n
def yld (l:List Oper) (ev:Operand→Value) (j:Nat):Option Bool:=
 match (l[j]?).bind (·.dst) with
 | some d=>(match ev (.tmp d) with
   | .bool b=>some b
   | _=>none)
 | none=>none
structure Reads (a0:Act) (ds:List Nat) (ev:Operand→Value):Prop where
 const:∀v,ev (.const v)=v
 func:∀f,ev (.func f)=.func (.func f) #[] #[]
 global:∀g,ev (.global g)=.pointer (some ⟨g,0,none⟩)
 old:∀s,ds.contains s=false→ev (.tmp s)=a0.tmps.getD s undef
inductive Goes (P:Program) (o:Oper) (ev:Operand→Value) (f:Fact) (w:World):Prop
 | value (v:Value) (w':World) (h:(execOp ev o).run P w=.ok (.value v) w') (hb:Below w.heap.size w w') (hf:f v w'):Goes P o ev f w
 | enter (g:FuncId) (args:Array Value) (h:(execOp ev o).run P w=.ok (.enter g args) w) (hc:Calls P g args w fun e w'=>∃v,e=.returned v∧Below w.heap.size w w'∧f v w'):Goes P o ev f w
inductive GoesR (P:Program) (o:Oper) (ev:Operand→Value) (f:Fact) (R:World→World→Prop) (w:World):Prop
 | value (v:Value) (w':World) (h:(execOp ev o).run P w=.ok (.value v) w') (hb:R w w') (hf:f v w'):GoesR P o ev f R w
 | enter (g:FuncId) (args:Array Value) (h:(execOp ev o).run P w=.ok (.enter g args) w) (hc:Calls P g args w fun e w'=>∃v,e=.returned v∧R w w'∧f v w'):GoesR P o ev f R w
theorem Goes.gen {P:Program} {o:Oper} {ev:Operand→Value} {f:Fact} {w:World} (h:Goes P o ev f w) {R:World→World→Prop} (hR:∀w',Below w.heap.size w w'→R w w'):GoesR P o ev f R w:=by
 cases h with
 | value v w' hrun hb hfv=>exact .value v w' hrun (hR _ hb) hfv
 | enter g args hrun hc=>
   refine .enter g args hrun (hc.mono ?_);rintro e w' ⟨v,rfl,hb,hfv⟩;exact ⟨v,rfl,hR _ hb,hfv⟩
def FineR (P:Program) (l:List Oper) (fs:List Fact) (R:Nat→World→World→Prop) (K:Array Bool→World→Prop) (a0:Act) (ds:List Nat) (k:Nat) (o:Oper) (f:Fact):Prop:=
 ∀(ev:Operand→Value) (b:Array Bool) (w:World),Reads a0 ds ev→K b w→b.getD k false=false→has l fs ev w o.after.toList→
  (Region.wanted o (yld l ev)=true→GoesR P o ev f (R k) w)∧(Region.wanted o (yld l ev)=false→f undef w)
def Fine (P:Program) (l:List Oper) (fs:List Fact) (W:World) (a0:Act) (ds:List Nat) (o:Oper) (f:Fact):Prop:=
 ∀(ev:Operand→Value) (w:World),Reads a0 ds ev→Below W.heap.size W w→has l fs ev w o.after.toList→
  (Region.wanted o (yld l ev)=true→Goes P o ev f w)∧(Region.wanted o (yld l ev)=false→f undef w)
def marks (l:List Oper):Nat→Array Bool→Array Bool
 | 0,b=>b
 | k+1,b=>marks l k (if b.getD k false=true then (match l[k]? with
    | some o=>o.after.toList.foldl (fun b e=>if Region.binds .any e=true then b.setIfInBounds e.on true else b) b
    | none=>b) else b)
def fill (n m:Nat) (lm:List Bool):Array Bool:=((List.range n).map fun i=>decide (i<m) && !lm.getD i false).toArray
def good (l:List Oper) (m:Nat) (ds:List Nat) (lm:List Bool) (r:Nat):Bool:=
 decide (m≤l.length)&&(decide ((l.take m).map (·.dst)=ds.map some)&&(decide ds.Nodup &&
 ((List.range l.length).all (fun k=>match l[k]? with
   | some o=>o.after.toList.all fun e=>!Region.binds .any e|| (decide (e.on<k)&&(lm.getD k false||decide (m≤k) || !lm.getD e.on false))
   | none=>true) &&
 ((List.range l.length).all (fun i=>(decide (i<m) && !lm.getD i false)|| (List.range m).all fun k=>lm.getD k false|| (marks l l.length ((Array.replicate l.length false).setIfInBounds i true)).getD k false) &&
 decide ((List.range m).countP (fun k=>!lm.getD k false)+r≤l.length)))))
def putg (g:Nat→Value):List Nat→Act→Act
 | [],a=>a
 | d::ds,a=>putg g ds (a.put (some d) (g d))
def fone (g:Nat→Value) (w:World):Option Nat→Option Fact→Prop
 | some d,some f=>f (g d) w
 | _,_=>True
def facts (g:Nat→Value) (w:World):List Nat→List Fact→Prop
 | d::ds,f::fs=>f (g d) w∧facts g w ds fs
 | _,_=>True
theorem facts.at {g:Nat→Value} {w:World}:∀{ds:List Nat} {fs:List Fact},facts g w ds fs→∀n:Nat,fone g w ds[n]? fs[n]?
 | [],_,_,n=>by simp [fone]
 | _ :: _,[],_,n=>by simp [fone]
 | _ :: _,_ :: _,h,0=>by simpa [fone] using h.1
 | _ :: _,_ :: _,h,n+1=>by simpa using facts.at h.2 n
section
variable {P:Program} {l:List Oper} {Q:Exit→Act→World→Prop} {fs:List Fact} {W:World} {a0:Act} {m:Nat} {ds:List Nat} {lm:List Bool} {r:Nat} {K:Array Bool→World→Prop} {R:Nat→World→World→Prop}
structure Inv (l:List Oper) (fs:List Fact) (K:Array Bool→World→Prop) (a0:Act) (m:Nat) (ds:List Nat) (lm:List Bool) (b:Array Bool) (a:Act) (w:World):Prop where
 bel:K b w
 size:a.tmps.size=a0.tmps.size
 defs:a.defers=a0.defers
 old:∀s,s∉ds→a.tmps[s]?=a0.tmps[s]?
 fact:∀(k d:Nat) (f:Fact),ds[k]?=some d→fs[k]?=some f→b.getD k false=true→f (a.eval (.tmp d)) w
 down:∀(k:Nat) (o:Oper),l[k]?=some o→b.getD k false=true→∀e∈o.after.toList,Region.binds .any e=true→b.getD e.on false=true
 bsize:b.size=l.length
 rest:∀k,m≤k∨lm.getD k false=true→b.getD k false=false
theorem get_set (b:Array Bool) (i k:Nat) (hi:i<b.size):(b.setIfInBounds i true).getD k false=if k=i then true else b.getD k false:=by
 by_cases h:k=i
 ·subst h;simp [Array.getD_eq_getD_getElem?,hi]
 ·have h':¬i=k:=fun e=>h e.symm;simp [Array.getD_eq_getD_getElem?,h,h']
theorem get_set_sub (b:Array Bool) (i k:Nat) (h:(b.setIfInBounds i true).getD k false=true):k=i∨b.getD k false=true:=by
 rcases Nat.lt_or_ge i b.size with hi | hi
 ·rw [get_set b i k hi] at h;by_cases hk:k=i
  ·exact .inl hk
  ·rw [if_neg hk] at h;exact .inr h
 ·rw [Array.setIfInBounds_eq_of_size_le hi] at h;exact .inr h
theorem fold_sub (b0:Array Bool) (p:Nat→Prop) (es:List Edge) (hp:∀k,b0.getD k false=true→p k) (he:∀e∈es,Region.binds .any e=true→p e.on) :
 ∀k,(es.foldl (fun b e=>if Region.binds .any e=true then b.setIfInBounds e.on true else b) b0).getD k false=true→p k:=by
 induction es generalizing b0 with
 | nil=>exact hp
 | cons e es ih=>
   rw [List.foldl_cons]
   refine ih _ ?_ (fun x hx=>he x (by simp [hx]));intro k hk;by_cases hb:Region.binds .any e=true
   ·rw [if_pos hb] at hk;rcases get_set_sub _ _ _ hk with rfl | h
    ·exact he e (by simp) hb
    ·exact hp k h
   ·rw [if_neg hb] at hk;exact hp k hk
theorem marks_sub (b:Array Bool) (hdown:∀(k:Nat) (o:Oper),l[k]?=some o→b.getD k false=true→∀e∈o.after.toList,Region.binds .any e=true→b.getD e.on false=true) :
 ∀(n:Nat) (i:Nat) (c:Array Bool),(∀k,c.getD k false=true→k=i∨b.getD k false=true)→(∀o,l[i]?=some o→∀e∈o.after.toList,Region.binds .any e=true→b.getD e.on false=true)→
  ∀k,(marks l n c).getD k false=true→k=i∨b.getD k false=true
 | 0,_,_,h,_=>h
 | n+1,i,c,h,hi=>by
   rw [marks];refine marks_sub b hdown n i _ ?_ hi;by_cases hc:c.getD n false=true
   ·rw [if_pos hc];cases ho:l[n]? with
    | none=>exact h
    | some o=>
      refine fold_sub c (fun k=>k=i∨b.getD k false=true) _ h ?_;intro e he hb;rcases h n hc with rfl | hn
      ·exact .inr (hi o ho e he hb)
      ·exact .inr (hdown n o ho hn e he hb)
   ·rw [if_neg hc];exact h
theorem count_less (p:Nat→Bool) (i:Nat) (hi:p i=true):∀xs:List Nat,i∈xs→xs.countP (fun k=>p k && !(k==i))+1≤xs.countP p
 | [],h=>by simp at h
 | x::xs,h=>by
   have hle:∀ys:List Nat,ys.countP (fun k=>p k && !(k==i))≤ys.countP p:=fun ys=>List.countP_mono_left (fun k _ hk=>by simp at hk;exact hk.1);by_cases hx:x=i
   ·subst hx;rw [List.countP_cons,List.countP_cons];have:=hle xs;simp [hi];omega
   ·have hm:i∈xs:=by
     rcases List.mem_cons.1 h with h | h
     ·exact absurd h.symm hx
     ·exact h
    have ih:=count_less p i hi xs hm;rw [List.countP_cons,List.countP_cons];have hne:(x==i)=false:=by simp [hx]
    rw [hne];simp only [Bool.not_false,Bool.and_true];omega
theorem wpAnyH_more {ops:Array Oper} {S:World→Prop}:∀(n:Nat) (b:Array Bool) (a:Act) (w:World),wpAnyH P .any ops Q S n b a w→wpAnyH P .any ops Q S (n+1) b a w
 | 0,_,_,_,h=>⟨fun _=>h.2,by rw [h.1];simp⟩
 | n+1,_,_,_,h=>⟨h.1,fun i hi=>wpOp_mono (fun a' w' h'=>⟨h'.1,wpAnyH_more n _ a' w' h'.2⟩) (h.2 i hi)⟩
theorem wpAnyH_up {ops:Array Oper} {S:World→Prop} (n:Nat):∀(k:Nat) (b:Array Bool) (a:Act) (w:World),wpAnyH P .any ops Q S n b a w→wpAnyH P .any ops Q S (n+k) b a w
 | 0,_,_,_,h=>h
 | k+1,b,a,w,h=>wpAnyH_more (n+k) b a w (wpAnyH_up n k b a w h)
theorem yielded_eval (a:Act) (j:Nat):yielded l.toArray a.tmps j=yld l a.eval j:=by
 unfold yielded yld;have e:l.toArray[j]?=l[j]?:=by simp
 rw [e];cases (l[j]?).bind (·.dst) with
 | none=>rfl
 | some d=>
   simp only [Option.bind_some,Act.eval];rw [Array.getD_eq_getD_getElem?];cases h:a.tmps[d]? with
   | none=>rfl
   | some v=>cases v<;>rfl
theorem put_get (a:Act) (d s:Nat) (v:Value):(a.put (some d) v).tmps[s]?=if s=d then (if d<a.tmps.size then some v else none) else a.tmps[s]?:=by
 simp only [Act.put,Array.getElem?_setIfInBounds];by_cases h:s=d
 ·subst h;simp
 ·rw [if_neg h,if_neg (fun e=>h e.symm)]
theorem put_size (a:Act) (d:Nat) (v:Value):(a.put (some d) v).tmps.size=a.tmps.size:=by simp [Act.put]
theorem putg_size (g:Nat→Value):∀(ds:List Nat) (a:Act),(putg g ds a).tmps.size=a.tmps.size
 | [],_=>rfl
 | d::ds,a=>by rw [putg,putg_size g ds,put_size]
theorem putg_defers (g:Nat→Value):∀(ds:List Nat) (a:Act),(putg g ds a).defers=a.defers
 | [],_=>rfl
 | d::ds,a=>by rw [putg,putg_defers g ds];rfl
theorem putg_get (g:Nat→Value) (s:Nat):∀(ds:List Nat) (a:Act),s<a.tmps.size→(putg g ds a).tmps[s]?=if s∈ds then some (g s) else a.tmps[s]?
 | [],a,_=>by simp [putg]
 | d::ds,a,h=>by
   rw [putg,putg_get g s ds _ (by rw [put_size];exact h),put_get];by_cases h1:s∈ds
   ·simp [h1]
   ·by_cases h2:s=d
    ·subst h2;simp [h1,h]
    ·simp [h1,h2]
theorem act_of {b:Array Bool} {a:Act} {w:World} (hI:Inv l fs K a0 m ds lm b a w):a=putg (fun d=>a.eval (.tmp d)) ds a0:=by
 have h1:=hI.size;have h2:=hI.defs;have h3:=hI.old;generalize hg:(fun d=>a.eval (.tmp d))=g;have hg':∀d,g d=a.tmps.getD d undef:=fun d=>by rw [←hg];rfl
 have ht:a.tmps=(putg g ds a0).tmps:=by
  refine Array.ext (by rw [putg_size,h1]) fun i hi hi'=>?_;have e1:a.tmps[i]?=(putg g ds a0).tmps[i]?:=by
   rw [putg_get g i ds a0 (by omega)];by_cases h:i∈ds
   ·rw [if_pos h,hg',Array.getD_eq_getD_getElem?,Array.getElem?_eq_getElem hi];rfl
   ·rw [if_neg h,h3 i h]
  rw [Array.getElem?_eq_getElem hi,Array.getElem?_eq_getElem hi'] at e1;exact Option.some.inj e1
 cases a with
 | mk t df=>
   simp only at ht h2;have:putg g ds a0=⟨(putg g ds a0).tmps,(putg g ds a0).defers⟩:=rfl;rw [this,←ht,putg_defers,←h2]
theorem facts_of {w:World} (g:Nat→Value):∀(ds:List Nat) (fs:List Fact),(∀(k d:Nat) (f:Fact),ds[k]?=some d→fs[k]?=some f→f (g d) w)→facts g w ds fs
 | [],_,_=>by simp [facts]
 | _ :: _,[],_=>by simp [facts]
 | d::ds,f::fs,h=>⟨h 0 d f rfl rfl,facts_of g ds fs fun k d f hd hf=>h (k+1) d f (by simpa using hd) (by simpa using hf)⟩
theorem has_of {b:Array Bool} {a:Act} {w:World} (hdst:(l.take m).map (·.dst)=ds.map some) (hI:Inv l fs K a0 m ds lm b a w):∀es:List Edge,(∀e∈es,Region.binds .any e=true→b.getD e.on false=true)→has l fs a.eval w es
 | [],_=>trivial
 | e::es,h=>by
   refine ⟨?_,has_of hdst hI es fun x hx=>h x (by simp [hx])⟩;by_cases hb:Region.binds .any e=true
   ·rw [if_pos hb];have hl:=h e (by simp) hb;cases ho:l[e.on]? with
    | none=>simp
    | some o=>
      cases hf:fs[e.on]? with
      | none=>simp
      | some f=>
        cases hd:o.dst with
        | none=>simp [hd]
        | some d=>
          simp only [hd];have hm:e.on<m:=by
           rcases Nat.lt_or_ge e.on m with h | h
           ·exact h
           ·rw [hI.rest _ (.inl h)] at hl;cases hl
          have hk:ds[e.on]?=some d:=by
           have h1:=congrArg (fun x:List (Option Nat)=>x[e.on]?) hdst;simp only [List.getElem?_map,List.getElem?_take_of_lt hm,ho,Option.map_some,hd] at h1;cases h2:ds[e.on]? with
           | none=>rw [h2] at h1;simp at h1
           | some d'=>rw [h2] at h1;simp at h1;rw [h1]
          exact hI.fact _ _ _ hk hf hl
   ·rw [if_neg hb];trivial
theorem step (hm:m≤l.length) (hdst:(l.take m).map (·.dst)=ds.map some) (hnd:ds.Nodup) (hsz:∀d∈ds,d<a0.tmps.size) (hlen:fs.length=m)
 (hK:∀(b:Array Bool) (k:Nat) (w w':World),k<m→b.getD k false=false→K b w→R k w w'→K (b.setIfInBounds k true) w') (hid:∀k w,R k w w) (hlast:∀(k j:Nat) (f:Fact),fs[k]?=some f→j≠k→(∀o,l[k]?=some o→∀e∈o.after.toList,Region.binds .any e=true→e.on≠j)→∀v w w',R j w w'→f v w→f v w') (hfine:∀(k:Nat) (o:Oper) (f:Fact),l[k]?=some o→fs[k]?=some f→lm.getD k false=false→FineR P l fs R K a0 ds k o f)
 {b:Array Bool} {a:Act} {w:World} (hI:Inv l fs K a0 m ds lm b a w) {i:Nat} (him:i<m) (hil:lm.getD i false=false)
 (hr:i∈Region.ready .any l.toArray b):wpOp P l.toArray Q i (fun a' w'=>Inv l fs K a0 m ds lm (b.setIfInBounds i true) a' w') a w:=by
 obtain ⟨hun,o,ho,hall⟩:=mem_ready.1 hr;have ho':l[i]?=some o:=by simpa using ho
 have hfl:i<fs.length:=by omega
 obtain ⟨f,hf⟩:∃f,fs[i]?=some f:=⟨fs[i],by rw [List.getElem?_eq_getElem hfl]⟩;obtain ⟨d,hd,hod⟩:∃d,ds[i]?=some d∧o.dst=some d:=by
  have h1:=congrArg (fun x:List (Option Nat)=>x[i]?) hdst;simp only [List.getElem?_map,List.getElem?_take_of_lt him,ho',Option.map_some] at h1;cases h2:ds[i]? with
  | none=>rw [h2] at h1;simp at h1
  | some d=>rw [h2] at h1;exact ⟨d,rfl,by simpa using h1⟩
 have hbi:i<b.size:=by rw [hI.bsize];omega
 have hun':b.getD i false=false:=by rw [Array.getD_eq_getD_getElem?] at hun ⊢;simpa [hbi] using hun
 have hdm:d∈ds:=List.mem_of_getElem? hd;have hdlt:d<a.tmps.size:=by rw [hI.size];exact hsz d hdm
 have hev:Reads a0 ds a.eval:=⟨fun _=>rfl,fun _=>rfl,fun _=>rfl,fun s hs=>by
  have hs':s∉ds:=by simpa using hs
  have:=hI.old s hs'
  simp only [Act.eval,qA,this]⟩
 have hhas:=has_of hdst hI o.after.toList fun e he hb=>hall e (by simpa using he) hb;obtain ⟨h1,h2⟩:=hfine i o f ho' hf hil a.eval b w hev hI.bel hun' hhas;have hw:Region.wanted o (yielded l.toArray a.tmps)=Region.wanted o (yld l a.eval):=by have:yielded l.toArray a.tmps=yld l a.eval:=funext fun j=>yielded_eval a j;rw [this]
 have key:∀(v:Value) (w':World),R i w w'→f v w'→Inv l fs K a0 m ds lm (b.setIfInBounds i true) (a.put o.dst v) w':=by
  intro v w' hb hfv;rw [hod];refine ⟨hK b i w w' him hun' hI.bel hb,by rw [put_size];exact hI.size,hI.defs,?_,?_,?_,by simp [hI.bsize],?_⟩
  ·intro s hs;rw [put_get,if_neg (fun (e:s=d)=>hs (by rw [e];exact hdm))];exact hI.old s hs
  ·intro k d' f' hd' hf' hk;have hev':(a.put (some d) v).eval (.tmp d')=if d'=d then v else a.eval (.tmp d'):=by
    simp only [Act.eval,qA,put_get];by_cases h:d'=d
    ·simp [h,hdlt]
    ·simp [h]
   rw [get_set b i k hbi] at hk;rw [hev'];by_cases hki:k=i
   ·subst hki;obtain rfl:d=d':=by rw [hd] at hd';exact Option.some.inj hd'
    obtain rfl:f=f':=by rw [hf] at hf';exact Option.some.inj hf'
    rw [if_pos rfl];exact hfv
   ·rw [if_neg hki] at hk;have hne:d'≠d:=fun e=>by
     subst e;have hk1:k<ds.length:=(List.getElem?_eq_some_iff.1 hd').1
     exact hki ((List.getElem?_inj hk1 hnd).1 (hd'.trans hd.symm))
    rw [if_neg hne]
    exact hlast k i f' hf' (fun e=>hki e.symm) (fun o2 ho2 e he hbe hei=>by have:=hI.down k o2 ho2 hk e he hbe;rw [hei,hun'] at this;cases this) _ _ _ hb (hI.fact k d' f' hd' hf' hk)
  ·intro k o' hk hbk e he hbe;rw [get_set b i k hbi] at hbk;rw [get_set b i e.on hbi];by_cases hki:k=i
   ·subst hki;obtain rfl:o=o':=by rw [ho'] at hk;exact Option.some.inj hk
    have:=hall e (by simpa using he) hbe;by_cases h:e.on=k
    ·rw [if_pos h]
    ·rw [if_neg h];exact this
   ·rw [if_neg hki] at hbk;have:=hI.down k o' hk hbk e he hbe;by_cases h:e.on=i
    ·rw [if_pos h]
    ·rw [if_neg h];exact this
  ·intro k hk
   rw [get_set b i k hbi,if_neg (fun e=>by
    rcases hk with hk | hk
    ·omega
    ·rw [e,hil] at hk;cases hk)]
   exact hI.rest k hk
 unfold wpOp;simp only [ho];rw [hw];by_cases hwant:Region.wanted o (yld l a.eval)=true
 ·rw [if_pos hwant];refine .inl ?_;unfold Oper.wp;cases h1 hwant with
  | value v w' hrun hb hfv=>rw [hrun,Oper.upon_value];exact key v w' hb hfv
  | enter g args hrun hc=>
    rw [hrun,Oper.upon_enter];refine hc.mono ?_;rintro e w' ⟨v,rfl,hb,hfv⟩;exact key v w' hb hfv
 ·rw [if_neg hwant]
  exact key undef w (hid i w) (h2 (by simpa using hwant))
theorem all_of (hm:m≤l.length) (hdst:(l.take m).map (·.dst)=ds.map some) (hnd:ds.Nodup) (hsz:∀d∈ds,d<a0.tmps.size) (hlen:fs.length=m)
 (hK:∀(b:Array Bool) (k:Nat) (w w':World),k<m→b.getD k false=false→K b w→R k w w'→K (b.setIfInBounds k true) w') (hid:∀k w,R k w w) (hlast:∀(k j:Nat) (f:Fact),fs[k]?=some f→j≠k→(∀o,l[k]?=some o→∀e∈o.after.toList,Region.binds .any e=true→e.on≠j)→∀v w w',R j w w'→f v w→f v w') (hidle:∀(k:Nat) (f:Fact),fs[k]?=some f→lm.getD k false=true→∀v w,f v w)
 (hfine:∀(k:Nat) (o:Oper) (f:Fact),l[k]?=some o→fs[k]?=some f→lm.getD k false=false→FineR P l fs R K a0 ds k o f)
 (hback:∀(k:Nat) (o:Oper),l[k]?=some o→∀e∈o.after.toList,Region.binds .any e=true→e.on<k)
 (hfree:∀(k:Nat) (o:Oper),l[k]?=some o→k<m→lm.getD k false=false→∀e∈o.after.toList,Region.binds .any e=true→lm.getD e.on false=false)
 (hcov:∀i,i<l.length→m≤i∨lm.getD i false=true→∀k,k<m→lm.getD k false=false→(marks l l.length ((Array.replicate l.length false).setIfInBounds i true)).getD k false=true)
 (hrest:∀(g:Nat→Value) (w:World),K (fill l.length m lm) w→facts g w ds fs→wpAnyH P .any l.toArray Q (fun _=>True) r (fill l.length m lm) (putg g ds a0) w) :
 ∀(n:Nat) (b:Array Bool) (a:Act) (w:World),Inv l fs K a0 m ds lm b a w→(List.range m).countP (fun k=>!b.getD k false && !lm.getD k false)+r≤n→wpAnyH P .any l.toArray Q (fun _=>True) n b a w:=by
 have base:∀(b:Array Bool) (a:Act) (w:World),Inv l fs K a0 m ds lm b a w→(List.range m).countP (fun k=>!b.getD k false && !lm.getD k false)=0→wpAnyH P .any l.toArray Q (fun _=>True) r b a w:=by
  intro b a w hI hc;have hall:∀k,k<m→lm.getD k false=false→b.getD k false=true:=fun k hk hl=>by have:=List.countP_eq_zero.1 hc k (by simpa using hk);rw [hl] at this;simpa using this
  have hb:b=fill l.length m lm:=by
   refine Array.ext (by simp [fill,hI.bsize]) fun i h1 h2=>?_;have e:b.getD i false=b[i]:=by simp [Array.getD_eq_getD_getElem?,h1]
   rw [←e];have e2:(fill l.length m lm)[i]=(decide (i<m) && !lm.getD i false):=by simp [fill]
   rw [e2];rcases Nat.lt_or_ge i m with hi | hi
   ·cases hl:lm.getD i false with
    | true=>rw [hI.rest i (.inr hl)];simp
    | false=>rw [hall i hi hl];simp [hi]
   ·rw [hI.rest i (.inl hi)];simp [show¬i<m by omega]
  have:=hrest _ w (hb ▸ hI.bel) (facts_of (fun d=>a.eval (.tmp d)) ds fs fun k d f hd hf=>by
   cases hl:lm.getD k false with
   | true=>exact hidle k f hf hl _ _
   | false=>exact hI.fact k d f hd hf (hall k (by have:=(List.getElem?_eq_some_iff.1 hf).1;omega) hl))
  rw [←act_of hI,←hb] at this;exact this
 intro n
 induction n with
 | zero=>
   intro b a w hI hn
   have:=base b a w hI (by omega);rw [show r=0 by omega] at this;exact this
 | succ n ih=>
   intro b a w hI hn;by_cases hc:(List.range m).countP (fun k=>!b.getD k false && !lm.getD k false)=0
   ·have h2:=wpAnyH_up r (n+1-r) _ _ _ (base b a w hI hc);rw [show r+(n+1-r)=n+1 by omega] at h2;exact h2
   ·
    have hex:∃k,k<m∧lm.getD k false=false∧b.getD k false=false:=by
     rcases Classical.em (∃k,k<m∧lm.getD k false=false∧b.getD k false=false) with h | h
     ·exact h
     ·refine absurd ?_ hc;rw [List.countP_eq_zero];intro k hk;have hk':k<m:=by simpa using hk
      cases hl:lm.getD k false with
      | true=>simp
      | false=>
        cases hb:b.getD k false with
        | true=>simp
        | false=>exact absurd ⟨k,hk',hl,hb⟩ h
    have hin:∀i∈Region.ready .any l.toArray b,i<m∧lm.getD i false=false:=by
     intro i hi;obtain ⟨hun,o,ho,hal⟩:=mem_ready.1 hi;have ho':l[i]?=some o:=by simpa using ho
     have hil:i<l.length:=(List.getElem?_eq_some_iff.1 ho').1;have key:m≤i∨lm.getD i false=true→False:=by
      intro h;obtain ⟨k,hk,hlk,hbk⟩:=hex;have hmk:=hcov i hil h k hk hlk
      have:=marks_sub b hI.down l.length i _ (fun k hk=>(get_set_sub _ _ _ hk).imp_right fun h=>by
       rw [Array.getD_eq_getD_getElem?] at h;rcases Nat.lt_or_ge k l.length with hkl | hkl
       ·simp [hkl] at h
       ·simp [hkl] at h) (fun o2 ho2 e he hb=>by
        obtain rfl:o=o2:=by rw [ho'] at ho2;exact Option.some.inj ho2
        exact hal e (by simpa using he) hb) k hmk
      rcases this with h' | h'
      ·subst h';rcases h with h | h
       ·omega
       ·rw [hlk] at h;cases h
      ·rw [hbk] at h';cases h'
     refine ⟨?_,?_⟩
     ·rcases Nat.lt_or_ge i m with h | h
      ·exact h
      ·exact absurd (.inl h) key
     ·cases h:lm.getD i false with
      | false=>rfl
      | true=>exact absurd (.inr h) key
    have hne:Region.ready .any l.toArray b≠ []:=by
     have:∀k,k<m→lm.getD k false=false→b.getD k false=false→∃i,i∈Region.ready .any l.toArray b:=by
      intro k
      induction k using Nat.strongRecOn with
      | _ k ihk=>
        intro hk hlk hbk;have hkl:k<l.length:=by omega
        rcases Classical.em (∃e∈(l[k]).after.toList,Region.binds .any e=true∧b.getD e.on false=false) with h | h
        ·obtain ⟨e,he,hb,hbe⟩:=h;have:=hback k _ (List.getElem?_eq_getElem hkl) e he hb;exact ihk e.on this (by omega) (hfree k _ (List.getElem?_eq_getElem hkl) hk hlk e he hb) hbe
        ·refine ⟨k,mem_ready.2 ⟨?_,l[k],by simp [hkl],fun e he hb=>?_⟩⟩
         ·have:k<b.size:=by rw [hI.bsize];exact hkl
          rw [Array.getD_eq_getD_getElem?] at hbk ⊢;simpa [this] using hbk
         ·cases hbe:b.getD e.on false with
          | true=>rfl
          | false=>exact absurd ⟨e,by simpa using he,hb,hbe⟩ h
     obtain ⟨k,hk,hlk,hbk⟩:=hex;obtain ⟨i,hi⟩:=this k hk hlk hbk;intro h0;rw [h0] at hi;cases hi
    refine wpAnyH_all rfl hne ?_;intro i hi;obtain ⟨him,hil⟩:=hin i hi
    refine wpOp_mono (fun a' w' h'=>⟨trivial,ih _ a' w' h' ?_⟩) (step hm hdst hnd hsz hlen hK hid hlast hfine hI him hil hi);obtain ⟨hun,o,ho,hal⟩:=mem_ready.1 hi;have hbi:i<b.size:=by rw [hI.bsize];omega
    have hun':b.getD i false=false:=by rw [Array.getD_eq_getD_getElem?] at hun ⊢;simpa [hbi] using hun
    have e:(List.range m).countP (fun k=>!(b.setIfInBounds i true).getD k false && !lm.getD k false)=(List.range m).countP (fun k=>(!b.getD k false && !lm.getD k false) && !(k==i)):=by
     refine List.countP_congr fun k _=>?_;rw [get_set b i k hbi];by_cases h:k=i
     ·simp [h]
     ·simp [h]
    have:=count_less (fun k=>!b.getD k false && !lm.getD k false) i (by rw [hun',hil];rfl) (List.range m) (by simpa using him);rw [e];omega
theorem Goes.mono {o:Oper} {ev:Operand→Value} {f f':Fact} {w:World} (h:Goes P o ev f w) (hf:∀v w,f v w→f' v w):Goes P o ev f' w:=by
 cases h with
 | value v w' hrun hb hfv=>exact .value v w' hrun hb (hf _ _ hfv)
 | enter g args hrun hc=>
   refine .enter g args hrun (hc.mono ?_);rintro e w' ⟨v,rfl,hb,hfv⟩;exact ⟨v,rfl,hb,hf _ _ hfv⟩
theorem Goes.same {o:Oper} {ev:Operand→Value} {w:World} {v:Value} (h:(execOp ev o).run P w=.ok (.value v) w):Goes P o ev (fun x _=>x=v) w:=
 .value v w h (Below.refl _ _) rfl
def When (b want:Bool) (f:Fact):Fact:=fun v w=>b=want→f v w
theorem Lasts.when {b want:Bool} {f:Fact} (h:Lasts f):Lasts (When b want f):=fun v w w' hb hf e=>h v w w' hb (hf e)
theorem Lasts.eq (x:Value):Lasts (fun v _=>v=x):=fun _ _ _ _ h=>h
theorem fine {o:Oper} {f:Fact} (hg:o.guard=none) (h:∀(ev:Operand→Value) (w:World),Reads a0 ds ev→Below W.heap.size W w→has l fs ev w o.after.toList→Goes P o ev f w):Fine P l fs W a0 ds o f:=
 fun ev w h1 h2 h3=>⟨fun _=>h ev w h1 h2 h3,fun hw=>by simp [Region.wanted,hg] at hw⟩
theorem fine_when {o:Oper} {f:Fact} {b want:Bool} (j d:Nat) (hg:o.guard=some (j,want)) (hd:(l[j]?).bind (·.dst)=some d) (hb:∀(ev:Operand→Value) (w:World),has l fs ev w o.after.toList→ev (.tmp d)=.bool b)
 (h:b=want→∀(ev:Operand→Value) (w:World),Reads a0 ds ev→Below W.heap.size W w→has l fs ev w o.after.toList→Goes P o ev f w):Fine P l fs W a0 ds o (When b want f):=by
 intro ev w h1 h2 h3;have e:Region.wanted o (yld l ev)=(some b==some want):=by simp only [Region.wanted,hg,yld,hd,hb ev w h3]
 rw [e];refine ⟨fun hw=>?_,fun hw hbw=>?_⟩
 ·have hbw:b=want:=by simpa using hw
  exact (h hbw ev w h1 h2 h3).mono fun _ _ hf _=>hf
 ·rw [hbw] at hw;simp at hw
def All (P:Program) (l:List Oper) (fs:List Fact) (W:World) (a0:Act) (ds:List Nat):List Bool→List Oper→List Fact→Prop
 | [],o::os,f::gs=>Fine P l fs W a0 ds o f∧All P l fs W a0 ds [] os gs
 | false::bs,o::os,f::gs=>Fine P l fs W a0 ds o f∧All P l fs W a0 ds bs os gs
 | true::bs,_::os,_::gs=>True∧All P l fs W a0 ds bs os gs
 | _,_,_=>True
theorem all_at:∀{bs:List Bool} {os:List Oper} {gs:List Fact},All P l fs W a0 ds bs os gs→∀(k:Nat) (o:Oper) (f:Fact),os[k]?=some o→gs[k]?=some f→bs.getD k false=false→Fine P l fs W a0 ds o f
 | [],_ :: _,_ :: _,h,0,o,f,ho,hf,_=>by simp at ho hf;subst ho hf;exact h.1
 | [],_ :: _,_ :: _,h,k+1,o,f,ho,hf,hb=>all_at (bs:= []) h.2 k o f (by simpa using ho) (by simpa using hf) (by simp)
 | false :: _,_ :: _,_ :: _,h,0,o,f,ho,hf,_=>by simp at ho hf;subst ho hf;exact h.1
 | true :: _,_ :: _,_ :: _,h,0,o,f,ho,hf,hb=>by simp at hb
 | false :: _,_ :: _,_ :: _,h,k+1,o,f,ho,hf,hb=>all_at h.2 k o f (by simpa using ho) (by simpa using hf) (by simpa using hb)
 | true :: _,_ :: _,_ :: _,h,k+1,o,f,ho,hf,hb=>all_at h.2 k o f (by simpa using ho) (by simpa using hf) (by simpa using hb)
 | _,[],_,_,k,o,f,ho,hf,_=>by simp at ho
 | _,_ :: _,[],_,k,o,f,ho,hf,_=>by simp at hf
def Every (fs:List Fact):Prop:=match fs with
 | []=>True
 | f::fs=>Lasts f∧Every fs
theorem every_at:∀{fs:List Fact},Every fs→∀f∈fs,Lasts f
 | [],_,f,hf=>by simp at hf
 | g::fs,h,f,hf=>by
   rcases List.mem_cons.1 hf with rfl | hf
   ·exact h.1
   ·exact every_at h.2 f hf
def Idle:List Bool→List Fact→Prop
 | true::bs,f::fs=>(∀v w,f v w)∧Idle bs fs
 | false::bs,_::fs=>Idle bs fs
 | _,_=>True
theorem idle_at:∀{bs:List Bool} {fs:List Fact},Idle bs fs→∀(k:Nat) (f:Fact),fs[k]?=some f→bs.getD k false=true→∀v w,f v w
 | [],_,_,k,f,_,hb=>by simp at hb
 | true :: _,_ :: _,h,0,f,hf,_=>by simp at hf;subst hf;exact h.1
 | false :: _,_ :: _,_,0,f,_,hb=>by simp at hb
 | true :: _,_ :: _,h,k+1,f,hf,hb=>idle_at h.2 k f (by simpa using hf) (by simpa using hb)
 | false::bs,_::fs,h,k+1,f,hf,hb=>idle_at (bs:=bs) (fs:=fs) h k f (by simpa using hf) (by simpa using hb)
 | _ :: _,[],_,k,f,hf,_=>by simp at hf
theorem region_gen (m:Nat) (ds:List Nat) (fs:List Fact) (lm:List Bool) (r:Nat) (p:Tree.Plan) {id:Nat} {a0:Act} {w:World} (hmo:P.follows .mixedOrders=true) (hg:good l m ds lm r=true) (hns:Region.noSelect l.toArray=true)
 (hp:Tree.fits l.toArray p r (fill l.length m lm)=true) (hQ:∀c a d v w,Q (.panic c) (Act.put a d v) w→Q (.panic c) a w)
 (hsz:ds.all (fun d=>decide (d<a0.tmps.size))=true) (hlen:fs.length=m) (hK0:K (Array.replicate l.length false) (w.drewN 1)) (hK:∀(b:Array Bool) (k:Nat) (w w':World),k<m→b.getD k false=false→K b w→R k w w'→K (b.setIfInBounds k true) w') (hid:∀k w,R k w w) (hlast:∀(k j:Nat) (f:Fact),fs[k]?=some f→j≠k→(∀o,l[k]?=some o→∀e∈o.after.toList,Region.binds .any e=true→e.on≠j)→∀v w w',R j w w'→f v w→f v w') (hidle:Idle lm fs)
 (hfine:∀(k:Nat) (o:Oper) (f:Fact),l[k]?=some o→fs[k]?=some f→lm.getD k false=false→FineR P l fs R K a0 ds k o f)
 (hrest:∀(g:Nat→Value) (w':World),K (fill l.length m lm) w'→facts g w' ds fs→Tree.Step P l.toArray Q (fun _=>True) (Tree.grow l p) (putg g ds a0) w'):(Code.region id l.toArray true).wp P Q a0 w:=by
 simp only [good,Bool.and_eq_true,List.all_eq_true,decide_eq_true_eq,List.mem_range,Bool.or_eq_true] at hg;obtain ⟨h1,h2,h3,h4,h5,h6⟩:=hg;refine wp_region_held (S:=fun _=>True) hmo ?_;have hb4:∀(k:Nat) (o:Oper),l[k]?=some o→∀e∈o.after.toList,Region.binds .any e=true→e.on<k∧(k<m→lm.getD k false=false→lm.getD e.on false=false):=by
  intro k o hk e he hb;have:=h4 k (List.getElem?_eq_some_iff.1 hk).1;rw [hk] at this;simp only [List.all_eq_true,Bool.or_eq_true,Bool.and_eq_true,Bool.not_eq_true',decide_eq_true_eq] at this;rcases this e he with h | ⟨h,h'⟩
  ·rw [hb] at h;cases h
  ·refine ⟨h,fun hk hl=>?_⟩;rcases h' with (h' | h') | h'
   ·rw [hl] at h';cases h'
   ·omega
   ·exact h'
 have hcov:∀i,i<l.length→m≤i∨lm.getD i false=true→∀k,k<m→lm.getD k false=false→(marks l l.length ((Array.replicate l.length false).setIfInBounds i true)).getD k false=true:=by
  intro i hi hmi k hk hl;rcases h5 i hi with ⟨h,h'⟩ | h
  ·rcases hmi with hmi | hmi
   ·omega
   ·rw [hmi] at h';cases h'
  ·rcases h k hk with h | h
   ·rw [hl] at h;cases h
   ·exact h
 have hsz':∀d∈ds,d<a0.tmps.size:=by simpa using hsz
 have hI:Inv l fs K a0 m ds lm (Array.replicate l.length false) a0 (w.drewN 1):=by
  have hrep:∀k,(Array.replicate l.length false).getD k false=false:=fun k=>by rw [Array.getD_eq_getD_getElem?];rcases Nat.lt_or_ge k l.length with h | h<;>simp [h]
  refine ⟨hK0,rfl,rfl,fun _ _=>rfl,fun k d f _ _ h=>?_,fun k o _ h=>?_,by simp,fun k _=>hrep k⟩
  ·rw [hrep] at h;cases h
  ·rw [hrep] at h;cases h
 have:=all_of (P:=P) (Q:=Q) (r:=r) h1 h2 h3 hsz' hlen hK hid hlast (idle_at hidle) hfine (fun k o hk e he hb=>(hb4 k o hk e he hb).1)
  (fun k o hk hkm hl e he hb=>(hb4 k o hk e he hb).2 hkm hl) hcov
  (fun g w' hb hf=>Tree.held_of_walk hns hQ p _ _ _ w' hp trivial (hrest g w' hb hf).out) l.length _ a0 (w.drewN 1) hI (by
    have:(List.range m).countP (fun k=>!(Array.replicate l.length false).getD k false && !lm.getD k false)≤(List.range m).countP (fun k=>!lm.getD k false):=
     List.countP_mono_left fun k _ hk=>by simp at hk;simpa using hk.2
    omega)
 simpa [World.drewN] using this
theorem region_late (m:Nat) (ds:List Nat) (fs:List Fact) (lm:List Bool) (r:Nat) (p:Tree.Plan) {id:Nat} {a0:Act} {w:World} (hmo:P.follows .mixedOrders=true) (hg:good l m ds lm r=true) (hns:Region.noSelect l.toArray=true)
 (hp:Tree.fits l.toArray p r (fill l.length m lm)=true) (hQ:∀c a d v w,Q (.panic c) (Act.put a d v) w→Q (.panic c) a w)
 (hsz:ds.all (fun d=>decide (d<a0.tmps.size))=true) (hlen:fs.length=m) (hlast:Every fs) (hidle:Idle lm fs) (hfine:All P l fs (w.drewN 1) a0 ds lm l fs)
 (hrest:∀(g:Nat→Value) (w':World),Below w.heap.size w w'→facts g w' ds fs→Tree.Step P l.toArray Q (fun _=>True) (Tree.grow l p) (putg g ds a0) w'):(Code.region id l.toArray true).wp P Q a0 w:=
 region_gen (K:=fun _ w'=>Below (w.drewN 1).heap.size (w.drewN 1) w') (R:=fun _ w w'=>Below w.heap.size w w') m ds fs lm r p hmo hg hns hp hQ hsz hlen (Below.refl _ _)
  (fun _ _ _ _ _ _ h h'=>h.trans (h'.mono h.size)) (fun _ _=>Below.refl _ _) (fun _ _ f hf _ _=>every_at hlast f (List.mem_of_getElem? hf)) hidle
  (fun k o f ho hf hl ev _ w' h1 h2 _ h4=>⟨fun hw=>((all_at hfine k o f ho hf hl ev w' h1 h2 h4).1 hw).gen fun _ h=>h,(all_at hfine k o f ho hf hl ev w' h1 h2 h4).2⟩)
  fun g w' hb hf=>hrest g w' ((Base.below_drewN (Below.refl w.heap.size w) 1).trans hb) hf
theorem region (m:Nat) (ds:List Nat) (fs:List Fact) (p:Tree.Plan) {id:Nat} {a0:Act} {w:World} (hmo:P.follows .mixedOrders=true) (hg:good l m ds [] (l.length-m)=true) (hns:Region.noSelect l.toArray=true)
 (hp:Tree.fits l.toArray p (l.length-m) (fill l.length m [])=true) (hQ:∀c a d v w,Q (.panic c) (Act.put a d v) w→Q (.panic c) a w)
 (hsz:ds.all (fun d=>decide (d<a0.tmps.size))=true) (hlen:fs.length=m) (hlast:Every fs) (hfine:All P l fs (w.drewN 1) a0 ds [] l fs)
 (hrest:∀(g:Nat→Value) (w':World),Below w.heap.size w w'→facts g w' ds fs→Tree.Step P l.toArray Q (fun _=>True) (Tree.grow l p) (putg g ds a0) w'):(Code.region id l.toArray true).wp P Q a0 w:=
 region_late m ds fs [] (l.length-m) p hmo hg hns hp hQ hsz hlen hlast trivial hfine hrest
theorem region_all (m:Nat) (ds:List Nat) (fs:List Fact) {id:Nat} {a0:Act} {w:World} (hmo:P.follows .mixedOrders=true) (hg:good l m ds [] (l.length-m)=true) (hns:Region.noSelect l.toArray=true)
 (hp:Tree.fits l.toArray .done (l.length-m) (fill l.length m [])=true) (hQ:∀c a d v w,Q (.panic c) (Act.put a d v) w→Q (.panic c) a w)
 (hsz:ds.all (fun d=>decide (d<a0.tmps.size))=true) (hlen:fs.length=m) (hlast:Every fs) (hfine:All P l fs (w.drewN 1) a0 ds [] l fs)
 (hrest:∀(g:Nat→Value) (w':World),Below w.heap.size w w'→facts g w' ds fs→Q .normal (putg g ds a0) w'):(Code.region id l.toArray true).wp P Q a0 w:=
 region m ds fs .done hmo hg hns hp hQ hsz hlen hlast hfine fun g w' hb hf=>by rw [Tree.grow];exact Tree.done (hrest g w' hb hf)
end
end Go.Proofs.YtimoakmcelocfaaGreat.Each
namespace Go.Proofs.YtimoakmcelocfaaGreat.Rec
open Go.RowKit Base Txt
section code
set_option maxHeartbeats 1000000
end code
def plainEq (a b:R):Bool:=decide (a.m=b.m)&&(decide (a.x=b.x)&&(decide (a.k=b.k)&&decide (a.ch=b.ch)))
theorem ba_list_inj {a b:List UInt8}:ba a=ba b↔a=b:=⟨fun h=>by have:=congrArg (fun x:ByteArray=>x.data.toList) h;simpa [ba] using this,fun h=>by rw [h]⟩
section code
set_option maxHeartbeats 1000000
end code
end Go.Proofs.YtimoakmcelocfaaGreat.Rec
namespace Go.Proofs.YtimoakmcelocfaaGreat.Rec
open Go.RowKit Base Txt
abbrev byteV (c:UInt8):Value:=.int .u8 (c.toNat:Int)
def vals (l:List UInt8):List Value:=l.map byteV
theorem vals_app (a b:List UInt8):vals (a++b)=vals a++vals b:=List.map_append
theorem vals_length (a:List UInt8):(vals a).length=a.length:=List.length_map _
theorem nums_of_own {w:World} {base:Nat} {v:Value} {n:Nat} {bs:List UInt8} {e:TypeId} (h:w.ownsRow base e 1 v n (vals bs)):∃A c,v=.slice A n c∧Nums .u8 w A n (Txt.nums bs):=by
 have hl:bs.length=n:=by simpa [vals_length] using h.1
 rcases h.2 with ⟨rfl,rfl⟩ | ⟨g,cap,cur,rfl,_,hh,_,hc,_,ht⟩
 ·obtain rfl:bs= []:=List.length_eq_zero_iff.1 hl;exact ⟨none,0,rfl,Nums.nil _ _ _⟩
 ·refine ⟨_,_,rfl,⟨by rw [Txt.nums,List.length_map];exact hl,fun _=>⟨g,0,rfl,?_,fun k hk=>?_⟩⟩⟩
  ·rcases Nat.lt_or_ge g w.heap.size with hlt | hge
   ·exact hlt
   ·rw [Array.getElem?_eq_none hge] at hh;cases hh
  ·rw [Nat.zero_add,cell_of_row w g k cur e (0,0) hh,Txt.nums_at bs k (by omega)];have h1:(vals bs)[k]?=some (byteV bs[k]):=by
    rw [vals,List.getElem?_map,List.getElem?_eq_getElem (by omega)];rfl
   rw [←ht,List.getElem?_take_of_lt (by omega)] at h1;simpa using h1
structure Owns (w:World) (B:Nat) (fa:Option Addr) (fc:Nat) (ba:Option Addr) (bc:Nat) (ta:Option Addr) (tc:Nat) (r:R):Prop where
 f:w.ownsRow B 106 2 (.slice fa r.fs.length fc) r.fs.length (cells r.fs)
 b:w.ownsRow B 5 1 (.slice ba r.body.length bc) r.body.length (vals r.body)
 t:w.ownsRow B 106 2 (.slice ta r.ts.length tc) r.ts.length (cells r.ts)
 fb:∀g,(Value.slice fa r.fs.length fc).ownBlock=some g→(Value.slice ba r.body.length bc).ownBlock≠some g
 ft:∀g,(Value.slice fa r.fs.length fc).ownBlock=some g→(Value.slice ta r.ts.length tc).ownBlock≠some g
 bt:∀g,(Value.slice ba r.body.length bc).ownBlock=some g→(Value.slice ta r.ts.length tc).ownBlock≠some g
section code
set_option maxHeartbeats 1000000
end code
end Go.Proofs.YtimoakmcelocfaaGreat.Rec
