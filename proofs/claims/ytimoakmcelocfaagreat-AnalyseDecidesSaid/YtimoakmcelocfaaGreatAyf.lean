import Derived.Test.YtimoakmcelocfaaGreatAye
namespace Go.Proofs.YtimoakmcelocfaaGreat.By
open Go.RowKit Base
def Bytes (w:World) (g:Nat) (l:List UInt8):Prop:=∀j (h:j<l.length),w.cell? ⟨g,j,none⟩=some (.int .u8 (l[j].toNat:Int))∧w.frozen? ⟨g,j,none⟩=false
theorem conv_bytes (s:ByteArray) (w:World):∃W cap,(convert 9 34 (.string s)).run Tryz.prog w=.ok (.slice (some ⟨w.heap.size,0,none⟩) s.size cap) W∧Bytes W w.heap.size s.data.toList∧w.heap.size<W.heap.size∧Below w.heap.size w W:=by
 have hcv:=run_bytes_of_string (P:=Tryz.prog) w 9 34 5 s Tryz.underlying9 Tryz.underlying34 Tryz.underlying5;refine ⟨_,_,hcv,fun j hj=>?_,by simp,(Below.refl _ _).drew.alloc (Nat.le_refl _) _⟩;have hj':j<s.data.size:=by simpa using hj
 refine ⟨(World.cell?_alloc_mark w.drew _ _ _ j).trans (bytesRow_at s _ j hj'),(World.frozen?_alloc_mark w.drew _ _ _ _ j).trans ?_⟩;have:¬(bytesRow s (grownCap w s.size 0 5)).size≤j:=by unfold bytesRow;rw [Array.size_append,Array.size_map];omega
 simp [this]
end Go.Proofs.YtimoakmcelocfaaGreat.By
namespace Go.Proofs.YtimoakmcelocfaaGreat.Rq
open Go.RowKit Base Txt
section code
set_option maxHeartbeats 4000000
set_option maxRecDepth 10000
attribute [local go_sem] Base.some_undef
end code
end Go.Proofs.YtimoakmcelocfaaGreat.Rq
namespace Go.Proofs.YtimoakmcelocfaaGreat.Rq
open Go.RowKit Base Txt
section code
set_option maxHeartbeats 4000000
set_option maxRecDepth 10000
attribute [local go_sem] Base.some_undef
end code
end Go.Proofs.YtimoakmcelocfaaGreat.Rq
namespace Go.Proofs.YtimoakmcelocfaaGreat.Pg
open Go.RowKit Base Txt Par
structure T where
 st:Nat
 rd:Ln.M
 r:Rec.R
 hl:Nat
 bl:Nat
 size:Nat
 cnt:Bool
 left:Nat
 out:List Rec.R
inductive Q
 | live (t:T)
 | dead (e:Nat) (out:List Rec.R)
section
variable (p:Nat) (b:Bd)
def T.fin (t:T):T:={t with out:=t.out ++ [t.r],r:=zero,hl:=0,bl:=0,size:=0,cnt:=false,left:=0,st:=1}
def T.enter (t:T) (st:Nat) (most:Int):T:={t with st:=st,rd:=Ln.M.of p most}
def T.endData (t:T):T:=if t.r.ch=true then t.enter p 6 0 else t.fin
def T.keep (t:T) (c:UInt8):T:={t with r:={t.r with body:=t.r.body ++ [c]},left:=t.left-1}
def T.first (t:T) (s:List UInt8):Nat × T:=
 if s= [] then (if Qk.has p 0=true then 0 else 400,t)
 else
  let q:=Rq.request (Rq.clOf p) b.od s
  if q.2.2.2=0 then (0,{t with r:={t.r with m:=ba q.1,x:=ba q.2.1,k:=(q.2.2.1:Int)},st:=2}) else (q.2.2.2,t)
def T.endHead (t:T):Nat × T:=
 let d:=Frm.decideV (Frm.clOf p) b.ch b.x3 t.r.k t.r.fs
 if d.2.2≠0 then (d.2.2.toNat,t)
 else if d.1=2 then (0,{t with r:={t.r with ch:=true},st:=4})
 else if d.2.1=0 then (0,t.fin)
 else (0,{t with left:=d.2.1.toNat,st:=3})
def listE:Nat ⊕ List Fld→Nat
 | .inl e=>e
 | .inr _=>0
def listL (l:List Fld):Nat ⊕ List Fld→List Fld
 | .inl _=>l
 | .inr l'=>l'
def T.fields (t:T) (s:List UInt8):Nat × T:=
 if s= [] then t.endHead p b
 else (listE (fieldV p t.hl t.r.fs s b.x1),{t with hl:=t.hl+1,r:={t.r with fs:=listL t.r.fs (fieldV p t.hl t.r.fs s b.x1)}})
def T.trail (t:T) (s:List UInt8):Nat × T:=
 if s= [] then (0,t.fin)
 else (listE (fieldV p t.bl t.r.ts s b.x5),{t with bl:=t.bl+1,r:={t.r with ts:=listL t.r.ts (fieldV p t.bl t.r.ts s b.x5)}})
def T.chunk (t:T) (s:List UInt8):Nat × T:=
 let z:=Chk.sizeV (Qk.has p 27) (Qk.has p 28) b.x4 b.x3 s
 if z.2≠0 then (z.2.toNat,t)
 else if z.1=0 then (0,{t with st:=7})
 else if b.x3-(t.r.body.length:Int)<z.1 then (413,t)
 else (0,{t with left:=z.1.toNat,st:=5})
def T.line (t:T) (s:List UInt8):Nat × T:=
 if t.st=1 then t.first p b s else if t.st=2 then t.fields p b s else if t.st=4 then t.chunk p b s else if t.st=7 then t.trail p b s
 else (0,t.enter p 4 b.x0)
def longE (st:Nat):Nat:=if st=1 then 414 else if st=2∨st=7 then 431 else 400
def ends (x:Nat × T):Q:=if x.1=0 then .live x.2 else .dead x.1 x.2.out
def T.inLine (t:T) (c:UInt8):Q × Bool:=
 let t1:={t with rd:=t.rd.byte c}
 let how:=t.rd.clear.next c
 if how=0 then (.live t1,true)
 else if how=3 then (.dead 400 t.out,true)
 else if how=4 then (if (t.st==6&&Qk.has p 29)=true then (.live (t1.enter p 4 b.x0),false) else (.dead (longE t.st) t.out,true))
 else (ends (t1.line p b (t.rd.byte c).line),!(how==2))
def T.counted (t:T):T:=if t.cnt=true then t else {t with cnt:=true,size:=t.size+1}
def headed (st:Nat):Bool:=st==1||st==2||st==7
def bodied (st:Nat):Bool:=st==3||st==5
def T.look (t:T) (c:UInt8):Q × Bool:=
 if bodied t.st=true then (.live (if t.left=1 then (t.keep c).endData p else t.keep c),true)
 else if headed t.st=true then (if b.x2<(t.counted.size:Int) then (.dead 431 t.out,true) else t.counted.inLine p b c)
 else t.inLine p b c
def T.take (t:T) (c:UInt8):Q:=
 match ({t with cnt:=false}:T).look p b c with
 |(.live t1,false)=>(t1.look p b c).1
 |(x,_)=>x
def Q.byte (x:Q) (c:UInt8):Q:=
 match x with
 | .live t=>t.take p b c
 | x=>x
def Q.feed (x:Q) (cs:List UInt8):Q:=cs.foldl (Q.byte p b) x
def T.new:T:=⟨1,Ln.M.of p b.x0,zero,0,0,0,false,0,[]⟩
def Q.new:Q:=if (b.right&&decide (p<1073741824))=true then .live (T.new p b) else .dead 20 []
def Q.read (cs:List UInt8):Q:=(Q.new p b).feed p b cs
end
def Q.err:Q→Nat
 | .live _=>0
 | .dead e _=>e
def Q.out:Q→List Rec.R
 | .live t=>t.out
 | .dead _ out=>out
def Q.told:Q→Q
 | .live t=>.live {t with out:= []}
 | .dead e _=>.dead e []
def T.isNew (t:T):Bool:=decide (t.rd.len=0) && !t.rd.pend
def T.next (t:T):Bool:=(t.st==3||t.st==4)&&(t.r.body.isEmpty&&t.isNew)
def Q.waits:Q→Bool
 | .live t=>t.next&&Rec.expects t.r
 | .dead _ _=>false
def Q.held:Q→Nat
 | .live t=>t.rd.len+Rec.size t.r
 | .dead _ _=>0
def Q.clean:Q→Bool
 | .live t=>t.st==1&&t.isNew
 | .dead _ _=>false
end Go.Proofs.YtimoakmcelocfaaGreat.Pg
namespace Go.Proofs.YtimoakmcelocfaaGreat.Par
open Go.RowKit Base Txt Mem
theorem row_cellL {w:World} {g k:Nat} {l:List Value} {ty:TypeId} (h:w.heap[g]?=some (.cells l.toArray ty (0,0))) {v:Value} (hk:l[k]?=some v):w.cell? ⟨g,k,none⟩=some v:=Ln.row_cell h (by rw [List.getElem?_toArray];exact hk)
theorem row_setL {w:World} {g:Nat} {l:List Value} {ty:TypeId} (h:w.heap[g]?=some (.cells l.toArray ty (0,0))) (k:Nat) (v:Value):(w.setCell ⟨g,k,none⟩ v).heap[g]?=some (.cells (l.set k v).toArray ty (0,0)):=by rw [←List.setIfInBounds_toArray];exact Ln.row_set h k v
abbrev ptr (g:Nat):Value:=.pointer (some ⟨g,0,none⟩)
abbrev pcells (p:Nat) (b:Bd) (s:S) (q:Nat) (f bd t o:Value):List Value:=
 [.int .u32 (p:Int),.int .i64 b.x0,.int .i64 b.x1,.int .i64 b.x2,.int .i64 b.x3,.int .i64 b.x4,.int .i64 b.x5,.int .i64 b.x6,.int .i64 b.x7,.bool b.ch,.bool b.od,.int .i64 (s.st:Int),ptr q,
   .string s.r.m,.string s.r.x,.int .i64 s.r.k,f,.bool s.r.ch,bd,t,.int .i64 (s.lines:Int),.int .i64 (s.head:Int),.int .i64 (s.left:Int),.bool s.fresh,.bool s.clean,.int .i64 (s.e:Int),o]
abbrev blks (g q:Nat) (v f bd t o:Value):List (Option Nat):= [some g,some q,v.ownBlock,f.ownBlock,bd.ownBlock,t.ownBlock,o.ownBlock]
def Outs (L:List (Option Nat)) (B:Zone) (w:World) (o:Value) (out:List Rec.R):Prop:=
 ∃ps:List (Array Value × Rec.R),ps.map (·.2)=out∧(∀x∈ps,x.1.size=7∧Far L B.z w (.agg x.1) x.2)∧w.ownsRow B 57 7 o out.length (ps.flatMap (·.1.toList))
structure Own (w:World) (B:Zone) (g q:Nat) (v f bd t o:Value) (p:Nat) (rd:Ln.R) (fs:List Fld) (body:List UInt8) (ts:List Fld) (out:List Rec.R):Prop where
 R:Ln.Rr w B q v p rd
 F:w.ownsRow B 106 2 f fs.length (cells fs)
 D:w.ownsRow B 5 1 bd body.length (Rec.vals body)
 T:w.ownsRow B 106 2 t ts.length (cells ts)
 O:Outs (blks g q v f bd t o) B w o out
 lone:Lone (blks g q v f bd t o)
 ge:B≤g
 lt:g<w.heap.size
 zone:Clear w B.z (blks g q v f bd t o)
structure PR (w:World) (B:Zone) (g q:Nat) (v f bd t o:Value) (p:Nat) (b:Bd) (s:S):Prop where
 row:w.heap[g]?=some (.cells (pcells p b s q f bd t o).toArray 59 (0,0))
 own:Own w B g q v f bd t o p s.rd s.r.fs s.r.body s.r.ts s.out
section
variable {w w':World} {B:Zone} {g q:Nat} {v f bd t o:Value} {p:Nat} {b:Bd} {s:S} {rd:Ln.R} {fs ts:List Fld} {body:List UInt8} {out:List Rec.R} {L:List (Option Nat)}
theorem Outs.keeps (h:Outs L B w o out) {L2:List (Option Nat)} (hk:Keeps L2 w w') (hs:∀k,some k∈L2→some k∈L) (ho:∀k,o.ownBlock=some k→some k∉L2):Outs L B w' o out:=by obtain ⟨ps,h1,h2,h3⟩:=h;exact ⟨ps,h1,fun x hx=>⟨(h2 x hx).1,(h2 x hx).2.keeps (hk.mono hs)⟩,hk.own h3 ho⟩
theorem Own.in (h:Own w B g q v f bd t o p rd fs body ts out):In w (blks g q v f bd t o):=by
 intro k hk;simp only [List.mem_cons,List.not_mem_nil,or_false,Option.some.injEq] at hk;obtain ⟨ps,h1,h2,h3⟩:=h.O;rcases hk with rfl | rfl | hk | hk | hk | hk | hk
 ·exact h.lt
 ·exact Ln.row_lt h.R.row
 ·exact (World.ownsRow.lt h.R.own k hk.symm).2
 ·exact (World.ownsRow.lt h.F k hk.symm).2
 ·exact (World.ownsRow.lt h.D k hk.symm).2
 ·exact (World.ownsRow.lt h.T k hk.symm).2
 ·exact (World.ownsRow.lt h3 k hk.symm).2
theorem Own.low (h:Own w B g q v f bd t o p rd fs body ts out):∀k,some k∈blks g q v f bd t o→B≤k:=by
 intro k hk;simp only [List.mem_cons,List.not_mem_nil,or_false,Option.some.injEq] at hk;obtain ⟨ps,h1,h2,h3⟩:=h.O;rcases hk with rfl | rfl | hk | hk | hk | hk | hk
 ·exact h.ge
 ·exact h.R.ge
 ·exact (World.ownsRow.lt h.R.own k hk.symm).1
 ·exact (World.ownsRow.lt h.F k hk.symm).1
 ·exact (World.ownsRow.lt h.D k hk.symm).1
 ·exact (World.ownsRow.lt h.T k hk.symm).1
 ·exact (World.ownsRow.lt h3 k hk.symm).1
theorem Own.set (h:Own w B g q v f bd t o p rd fs body ts out) (k:Nat) (u:Value):Own (w.setCell ⟨g,k,none⟩ u) B g q v f bd t o p rd fs body ts out:=by
 have hk:Keeps [some g] w (w.setCell ⟨g,k,none⟩ u):=Keeps.set g k u (by simp);have hn:∀i j,i≠0→(blks g q v f bd t o)[i]?=some (some j)→some j∉ [some g]:=fun i j hi hj hm=>by
  have e:j=g:=by simpa using hm
  rw [e] at hj
  exact hi (h.lone i 0 g hj rfl)
 exact ⟨⟨hk.row h.R.row (hn 1 q (by decide) rfl),hk.own h.R.own fun j e=>hn 2 j (by decide) (by rw [←e];rfl),h.R.ge,h.R.ne⟩,
  hk.own h.F fun j e=>hn 3 j (by decide) (by rw [←e];rfl),hk.own h.D fun j e=>hn 4 j (by decide) (by rw [←e];rfl),hk.own h.T fun j e=>hn 5 j (by decide) (by rw [←e];rfl),
  h.O.keeps hk (fun j hj=>by obtain rfl:j=g:=by simpa using hj
                             simp) fun j e=>hn 6 j (by decide) (by rw [←e];rfl),
  h.lone,h.ge,by simpa using h.lt,h.zone.of hk.size Of.refl⟩
theorem Own.below (h:Own w B g q v f bd t o p rd fs body ts out) (hb:Below w.heap.size w w'):Own w' B g q v f bd t o p rd fs body ts out:=by have hk:Keeps [] w w':=Keeps.of_below hb;refine ⟨⟨hk.row h.R.row (by simp),hk.own h.R.own (by simp),h.R.ge,h.R.ne⟩,hk.own h.F (by simp),hk.own h.D (by simp),hk.own h.T (by simp),h.O.keeps hk (by simp) (by simp),h.lone,h.ge,Nat.lt_of_lt_of_le h.lt hb.size,h.zone.of hb.size Of.refl⟩
theorem PR.below (h:PR w B g q v f bd t o p b s) (hb:Below w.heap.size w w'):PR w' B g q v f bd t o p b s:=
 ⟨(hb.block g h.own.lt).trans h.row,h.own.below hb⟩
theorem PR.drew (h:PR w B g q v f bd t o p b s) (n:Nat):PR (w.drewN n) B g q v f bd t o p b s:=h.below (Base.below_drewN (Below.refl _ _) n)
theorem PR.put (h:PR w B g q v f bd t o p b s) (k:Nat) (u:Value) (s':S) (hc:(pcells p b s q f bd t o).set k u=pcells p b s' q f bd t o) (hd:s'.rd=s.rd) (h1:s'.r.fs=s.r.fs) (h2:s'.r.body=s.r.body) (h3:s'.r.ts=s.r.ts) (h4:s'.out=s.out) :
 PR (w.setCell ⟨g,k,none⟩ u) B g q v f bd t o p b s':=by
 refine ⟨?_,?_⟩
 ·rw [←hc,←List.setIfInBounds_toArray];exact Ln.row_set h.row k u
 ·rw [hd,h1,h2,h3,h4];exact h.own.set k u
theorem Own.zero (h:Own w B g q v f bd t o p rd fs body ts out):Own w B g q v (.slice none 0 0) (.slice none 0 0) (.slice none 0 0) o p rd [] [] [] out:=by
 have hsub:∀k,some k∈blks g q v (.slice none 0 0) (.slice none 0 0) (.slice none 0 0) o→some k∈blks g q v f bd t o:=by
  intro k hk;simp only [List.mem_cons,List.not_mem_nil,or_false,Value.ownBlock,reduceCtorEq,false_or] at hk ⊢;rcases hk with hk | hk | hk | hk
  ·exact .inl hk
  ·exact .inr (.inl hk)
  ·exact .inr (.inr (.inl hk))
  ·exact .inr (.inr (.inr (.inr (.inr (.inr hk)))))
 obtain ⟨ps,h1,h2,h3⟩:=h.O;refine ⟨h.R,World.ownsRow_nil _ _ _ _,World.ownsRow_nil _ _ _ _,World.ownsRow_nil _ _ _ _,⟨ps,h1,fun x hx=>⟨(h2 x hx).1,(h2 x hx).2.of fun k hk=>.inl (hsub k hk)⟩,h3⟩,?_,h.ge,h.lt,h.zone.of (Nat.le_refl _) fun k hk=>.inl (hsub k hk)⟩;have e:blks g q v (.slice none 0 0) (.slice none 0 0) (.slice none 0 0) o=(((blks g q v f bd t o).set 3 none).set 4 none).set 5 none:=rfl;rw [e]
 exact ((h.lone.set h.in 3 none (.inl rfl)).set (fun k hk=>h.in k (by
  rcases List.mem_or_eq_of_mem_set hk with hk | hk
  ·exact hk
  ·cases hk)) 4 none (.inl rfl)).set (fun k hk=>h.in k (by
  rcases List.mem_or_eq_of_mem_set hk with hk | hk
  ·rcases List.mem_or_eq_of_mem_set hk with hk | hk
   ·exact hk
   ·cases hk
  ·cases hk)) 5 none (.inl rfl)
theorem Own.line (h:Own w B g q v f bd t o p rd fs body ts out) (hb:Below w.heap.size w w') {q1:Nat} {rd1:Ln.R} (hr:Ln.Rr w' B q1 (.slice none 0 0) p rd1) (hq:w.heap.size≤q1):Own w' B g q1 (.slice none 0 0) f bd t o p rd1 fs body ts out:=by
 have e:blks g q1 (.slice none 0 0) f bd t o=((blks g q v f bd t o).set 1 (some q1)).set 2 none:=rfl;have hof:Of w (blks g q v f bd t o) (blks g q1 (.slice none 0 0) f bd t o):=by
  rw [e]
  exact (Of.set 1 (some q1) (.inr (.inr ⟨q1,rfl,hq⟩))).trans (Of.set 2 none (.inl rfl)) (Nat.le_refl _)
 have hw:=h.below hb;obtain ⟨ps,h1,h2,h3⟩:=h.O;have hk:Keeps (blks g q1 (.slice none 0 0) f bd t o) w w':=Keeps.of_below hb;refine ⟨hr,hw.F,hw.D,hw.T,⟨ps,h1,fun x hx=>⟨(h2 x hx).1,((h2 x hx).2.of hof).keeps hk⟩,by obtain ⟨ps',h1',h2',h3'⟩:=hw.O;exact (Keeps.of_below hb:Keeps [] w w').own h3 (by simp)⟩,?_,h.ge,hw.lt,h.zone.of hb.size hof⟩;rw [e];intro i j k hi hj
 have hL:=h.lone.set h.in 1 (some q1) (.inr (.inr ⟨q1,rfl,hq⟩));have hi':((blks g q v f bd t o).set 1 (some q1))[i]?=some (some k):=by
  by_cases e2:2=i
  ·subst e2;simp at hi
  ·rwa [List.getElem?_set_ne e2] at hi
 have hj':((blks g q v f bd t o).set 1 (some q1))[j]?=some (some k):=by
  by_cases e2:2=j
  ·subst e2;simp at hj
  ·rwa [List.getElem?_set_ne e2] at hj
 exact hL i j k hi' hj'
theorem PR.line (h:PR w B g q v f bd t o p b s) (hb:Below w.heap.size w w') {q1:Nat} {rd1:Ln.R} (hr:Ln.Rr w' B q1 (.slice none 0 0) p rd1) (hq:w.heap.size≤q1):PR (w'.setCell ⟨g,12,none⟩ (ptr q1)) B g q1 (.slice none 0 0) f bd t o p b {s with rd:=rd1}:=
 ⟨row_setL ((hb.block g h.own.lt).trans h.row) 12 (ptr q1),(h.own.line hb hr hq).set 12 (ptr q1)⟩
theorem slot_own {w:World} {B:Zone} {e:TypeId} {size:Nat} {v:Value} {n:Nat} {xs:List Value} (h:w.ownsRow B e size v n xs):slot v=v.ownBlock:=by rcases h.2 with ⟨rfl,_⟩ | ⟨g,cap,cur,rfl,_⟩<;>rfl
theorem Own.push {r:Rec.R} (h:Own w B g q v f bd t o p rd r.fs r.body r.ts out) (hg:w.grownBy w' o.ownBlock) {o':Value} (ps:List (Array Value × Rec.R)) (hps:ps.map (·.2)=out) (hfar:∀x∈ps,x.1.size=7∧Far (blks g q v f bd t o) B.z w (.agg x.1) x.2)
 (ho:w'.ownsRow B 57 7 o' (out.length+1) (ps.flatMap (·.1.toList) ++ [.string r.m,.string r.x,.int .i64 r.k,f,.bool r.ch,bd,t])) (hor:o'.ownBlock=o.ownBlock∨o'.ownBlock=some w.heap.size) :
 Own w' B g q v (.slice none 0 0) (.slice none 0 0) (.slice none 0 0) o' p rd [] [] [] (out ++ [r]):=by
 have hk:Keeps [o.ownBlock] w w':=Keeps.grown hg fun k e=>by simp [e]
 have hn:∀i j,i≠6→(blks g q v f bd t o)[i]?=some (some j)→some j∉ [o.ownBlock]:=fun i j hi hj hm=>by
  have e:some j=o.ownBlock:=by simpa using hm
  exact hi (h.lone i 6 j hj (by rw [e];rfl))
 have hin:=h.in
 have F':=hk.own h.F fun j e=>hn 3 j (by decide) (by rw [←e];rfl)
 have D':=hk.own h.D fun j e=>hn 4 j (by decide) (by rw [←e];rfl)
 have T':=hk.own h.T fun j e=>hn 5 j (by decide) (by rw [←e];rfl);have hsub:∀k,some k∈blks g q v (.slice none 0 0) (.slice none 0 0) (.slice none 0 0) o'→(some k=some g∨some k=some q∨some k=v.ownBlock∨some k=o.ownBlock)∨w.heap.size≤k:=by
  intro k hk
  replace hk:some k∈ [some g,some q,v.ownBlock,none,none,none,o'.ownBlock]:=hk
  simp only [List.mem_cons,List.not_mem_nil,or_false,reduceCtorEq,false_or] at hk;rcases hk with hk | hk | hk | hk
  ·exact .inl (.inl hk)
  ·exact .inl (.inr (.inl hk))
  ·exact .inl (.inr (.inr (.inl hk)))
  ·rcases hor with e | e
   ·exact .inl (.inr (.inr (.inr (by rw [←e];exact hk))))
   ·rw [e] at hk;cases hk;exact .inr (Nat.le_refl _)
 have hof:∀k,some k∈blks g q v (.slice none 0 0) (.slice none 0 0) (.slice none 0 0) o'→some k∈blks g q v f bd t o∨w.heap.size≤k:=fun k hk=>by
  rcases hsub k hk with (e | e | e | e) | e
  ·exact .inl (by simp [e])
  ·exact .inl (by simp [e])
  ·exact .inl (by simp [e])
  ·exact .inl (by simp [e])
  ·exact .inr e
 have hkL2:Keeps (blks g q v f bd t o) w w':=hk.mono fun k hk=>by
  have e:some k=o.ownBlock:=by simpa using hk
  simp [e]
 refine ⟨⟨hk.row h.R.row (hn 1 q (by decide) rfl),hk.own h.R.own fun j e=>hn 2 j (by decide) (by rw [←e];rfl),h.R.ge,h.R.ne⟩,World.ownsRow_nil _ _ _ _,World.ownsRow_nil _ _ _ _,World.ownsRow_nil _ _ _ _,
  ⟨ps ++ [(#[.string r.m,.string r.x,.int .i64 r.k,f,.bool r.ch,bd,t],r)],by rw [List.map_append,hps];rfl,fun x hx=>?_,by rw [List.length_append,List.flatMap_append];simpa using ho⟩,?_,h.ge,Nat.lt_of_lt_of_le h.lt hk.size,h.zone.of hk.size hof⟩
 ·rcases List.mem_append.1 hx with hx | hx
  ·exact ⟨(hfar x hx).1,by
    have h2:=((hfar x hx).2.keeps hkL2)
    exact ⟨h2.reads,fun k hb=>⟨fun hm=>by
     rcases hof k hm with e | e
     ·exact (h2.far k hb).1 e
     ·exact absurd ((hfar x hx).2.far k hb).2 (by omega),(h2.far k hb).2⟩,h2.off⟩⟩
  ·obtain rfl:x= _:=by simpa using hx
   refine ⟨rfl,?_,fun k hb=>?_,fun k hb=>?_⟩
   ·obtain ⟨A1,c1,e1,h1⟩:=Flds.of_own F';obtain ⟨A2,c2,e2,h2⟩:=Rec.nums_of_own D';obtain ⟨A3,c3,e3,h3⟩:=Flds.of_own T';subst e1 e2 e3;exact ⟨_,_,_,_,_,_,rfl,h1,h2,h3⟩
   ·have e1:=slot_own h.F;have e2:=slot_own h.D;have e3:=slot_own h.T
    replace hb:some k∈ [none,none,none,slot f,none,slot bd,slot t]:=hb
    simp only [List.mem_cons,List.not_mem_nil,or_false,reduceCtorEq,false_or] at hb;have key:∀i,i≠0→i≠1→i≠2→i≠6→(blks g q v f bd t o)[i]?=some (some k)→some k∉blks g q v (.slice none 0 0) (.slice none 0 0) (.slice none 0 0) o'∧k<w'.heap.size:=by
     intro i i0 i1 i2 i6 hi
     have hlt:=hin k (List.mem_of_getElem? hi);refine ⟨fun hm=>?_,Nat.lt_of_lt_of_le hlt hk.size⟩;rcases hsub k hm with (e | e | e | e) | e
     ·exact i0 (h.lone i 0 k hi (by rw [e];rfl))
     ·exact i1 (h.lone i 1 k hi (by rw [e];rfl))
     ·exact i2 (h.lone i 2 k hi (by rw [e];rfl))
     ·exact i6 (h.lone i 6 k hi (by rw [e];rfl))
     ·omega
    rcases hb with hb | hb | hb
    ·exact key 3 (by decide) (by decide) (by decide) (by decide) (by rw [hb,e1];rfl)
    ·exact key 4 (by decide) (by decide) (by decide) (by decide) (by rw [hb,e2];rfl)
    ·exact key 5 (by decide) (by decide) (by decide) (by decide) (by rw [hb,e3];rfl)
   ·have e1:=slot_own h.F;have e2:=slot_own h.D;have e3:=slot_own h.T
    replace hb:some k∈ [none,none,none,slot f,none,slot bd,slot t]:=hb
    simp only [List.mem_cons,List.not_mem_nil,or_false,reduceCtorEq,false_or] at hb;rcases hb with hb | hb | hb
    ·exact h.zone.off k (List.mem_of_getElem? (i:=3) (by rw [hb,e1];rfl))
    ·exact h.zone.off k (List.mem_of_getElem? (i:=4) (by rw [hb,e2];rfl))
    ·exact h.zone.off k (List.mem_of_getElem? (i:=5) (by rw [hb,e3];rfl))
 ·have hz:=h.zero;have e:blks g q v (.slice none 0 0) (.slice none 0 0) (.slice none 0 0) o'=(blks g q v (.slice none 0 0) (.slice none 0 0) (.slice none 0 0) o).set 6 o'.ownBlock:=rfl;rw [e];refine hz.lone.set hz.in 6 _ ?_;rcases hor with e | e
  ·exact .inr (.inl (by rw [e];rfl))
  ·exact .inr (.inr ⟨_,e,Nat.le_refl _⟩)
structure Step (L L':List (Option Nat)) (w w':World):Prop where
 keeps:Keeps L w w'
 of:Of w L L'
theorem Step.refl:Step L L w w:=⟨Keeps.refl,Of.refl⟩
theorem Step.trans {L' L'':List (Option Nat)} {w'':World} (h:Step L L' w w') (h':Step L' L'' w' w''):Step L L'' w w'':=⟨h.keeps.trans h'.keeps h.of,h.of.trans h'.of h.keeps.size⟩
theorem Step.set (g k:Nat) (u:Value) (hg:some g∈L):Step L L w (w.setCell ⟨g,k,none⟩ u):=⟨Keeps.set g k u hg,Of.refl⟩
theorem Step.of_below (hb:Below w.heap.size w w'):Step L L w w':=⟨Keeps.of_below hb,Of.refl⟩
theorem Step.zero:Step (blks g q v f bd t o) (blks g q v (.slice none 0 0) (.slice none 0 0) (.slice none 0 0) o) w w:=⟨Keeps.refl,fun k hk=>by
 simp only [List.mem_cons,List.not_mem_nil,or_false,Value.ownBlock,reduceCtorEq,false_or] at hk ⊢;rcases hk with hk | hk | hk | hk
 ·exact .inl (.inl hk)
 ·exact .inl (.inr (.inl hk))
 ·exact .inl (.inr (.inr (.inl hk)))
 ·exact .inl (.inr (.inr (.inr (.inr (.inr (.inr hk))))))⟩
theorem Step.line (hb:Below w.heap.size w w') {q1:Nat} (hq:w.heap.size≤q1):Step (blks g q v f bd t o) (blks g q1 (.slice none 0 0) f bd t o) w w':=⟨Keeps.of_below hb,by
 have e:blks g q1 (.slice none 0 0) f bd t o=((blks g q v f bd t o).set 1 (some q1)).set 2 none:=rfl;rw [e]
 exact (Of.set 1 (some q1) (.inr (.inr ⟨q1,rfl,hq⟩))).trans (Of.set 2 none (.inl rfl)) (Nat.le_refl _)⟩
theorem Step.push {o':Value} (hg:w.grownBy w' o.ownBlock) (hor:o'.ownBlock=o.ownBlock∨o'.ownBlock=some w.heap.size):Step (blks g q v f bd t o) (blks g q v (.slice none 0 0) (.slice none 0 0) (.slice none 0 0) o') w w':=⟨Keeps.grown hg fun k e=>by simp [e],fun k hk=>by
 replace hk:some k∈ [some g,some q,v.ownBlock,none,none,none,o'.ownBlock]:=hk
 simp only [List.mem_cons,List.not_mem_nil,or_false,reduceCtorEq,false_or] at hk;rcases hk with hk | hk | hk | hk
 ·exact .inl (by simp [hk])
 ·exact .inl (by simp [hk])
 ·exact .inl (by simp [hk])
 ·rcases hor with e | e
  ·rw [e] at hk;exact .inl (by simp [hk])
  ·rw [e] at hk;cases hk;exact .inr (Nat.le_refl _)⟩
theorem one_own {e:TypeId} {size:Nat} {u:Value} {n:Nat} {xs:List Value} (h:w.ownsRow B e size u n xs):u.oneCell'=true:=by rcases h.2 with ⟨rfl,_⟩ | ⟨g,cap,cur,rfl,_⟩<;>rfl
theorem Own.setF (h:Own w B g q v f bd t o p rd fs body ts out) {f':Value} {fs':List Fld} (hk:Keeps [f.ownBlock] w w') (hr:w'.ownsRow B 106 2 f' fs'.length (cells fs')) (hor:f'.ownBlock=f.ownBlock∨∃k,f'.ownBlock=some k∧w.heap.size≤k) :
 Own w' B g q v f' bd t o p rd fs' body ts out∧Step (blks g q v f bd t o) (blks g q v f' bd t o) w w':=by
 have hn:∀i j,i≠3→(blks g q v f bd t o)[i]?=some (some j)→some j∉ [f.ownBlock]:=fun i j hi hj hm=>by
  have e:some j=f.ownBlock:=by simpa using hm
  exact hi (h.lone i 3 j hj (by rw [e];rfl))
 have e:blks g q v f' bd t o=(blks g q v f bd t o).set 3 f'.ownBlock:=rfl;have ho:f'.ownBlock=none∨(blks g q v f bd t o)[3]?=some f'.ownBlock∨∃k,f'.ownBlock=some k∧w.heap.size≤k:=by
  rcases hor with e | e
  ·exact .inr (.inl (by rw [e];rfl))
  ·exact .inr (.inr e)
 have hof:Of w (blks g q v f bd t o) (blks g q v f' bd t o):=by rw [e];exact Of.set 3 _ ho
 have hkL:Keeps (blks g q v f bd t o) w w':=hk.mono fun k hk=>by
  have e:some k=f.ownBlock:=by simpa using hk
  simp [e]
 obtain ⟨ps,h1,h2,h3⟩:=h.O
 refine ⟨⟨⟨hk.row h.R.row (hn 1 q (by decide) rfl),hk.own h.R.own fun j e=>hn 2 j (by decide) (by rw [←e];rfl),h.R.ge,h.R.ne⟩,hr,hk.own h.D fun j e=>hn 4 j (by decide) (by rw [←e];rfl),hk.own h.T fun j e=>hn 5 j (by decide) (by rw [←e];rfl),
  ⟨ps,h1,fun x hx=>⟨(h2 x hx).1,by
    have hx2:=(h2 x hx).2.keeps hkL
    exact ⟨hx2.reads,fun k hb=>⟨fun hm=>by
     rcases hof k hm with e | e
     ·exact (hx2.far k hb).1 e
     ·exact absurd ((h2 x hx).2.far k hb).2 (by omega),(hx2.far k hb).2⟩,hx2.off⟩⟩,hk.own h3 fun j e=>hn 6 j (by decide) (by rw [←e];rfl)⟩,?_,h.ge,Nat.lt_of_lt_of_le h.lt hk.size,h.zone.of hk.size hof⟩,hkL,hof⟩
 rw [e];exact h.lone.set h.in 3 _ ho
theorem Own.setD (h:Own w B g q v f bd t o p rd fs body ts out) {bd':Value} {body':List UInt8} (hk:Keeps [bd.ownBlock] w w') (hr:w'.ownsRow B 5 1 bd' body'.length (Rec.vals body')) (hor:bd'.ownBlock=bd.ownBlock∨∃k,bd'.ownBlock=some k∧w.heap.size≤k) :
 Own w' B g q v f bd' t o p rd fs body' ts out∧Step (blks g q v f bd t o) (blks g q v f bd' t o) w w':=by
 have hn:∀i j,i≠4→(blks g q v f bd t o)[i]?=some (some j)→some j∉ [bd.ownBlock]:=fun i j hi hj hm=>by
  have e:some j=bd.ownBlock:=by simpa using hm
  exact hi (h.lone i 4 j hj (by rw [e];rfl))
 have e:blks g q v f bd' t o=(blks g q v f bd t o).set 4 bd'.ownBlock:=rfl;have ho:bd'.ownBlock=none∨(blks g q v f bd t o)[4]?=some bd'.ownBlock∨∃k,bd'.ownBlock=some k∧w.heap.size≤k:=by
  rcases hor with e | e
  ·exact .inr (.inl (by rw [e];rfl))
  ·exact .inr (.inr e)
 have hof:Of w (blks g q v f bd t o) (blks g q v f bd' t o):=by rw [e];exact Of.set 4 _ ho
 have hkL:Keeps (blks g q v f bd t o) w w':=hk.mono fun k hk=>by
  have e:some k=bd.ownBlock:=by simpa using hk
  simp [e]
 obtain ⟨ps,h1,h2,h3⟩:=h.O
 refine ⟨⟨⟨hk.row h.R.row (hn 1 q (by decide) rfl),hk.own h.R.own fun j e=>hn 2 j (by decide) (by rw [←e];rfl),h.R.ge,h.R.ne⟩,hk.own h.F fun j e=>hn 3 j (by decide) (by rw [←e];rfl),hr,hk.own h.T fun j e=>hn 5 j (by decide) (by rw [←e];rfl),
  ⟨ps,h1,fun x hx=>⟨(h2 x hx).1,by
    have hx2:=(h2 x hx).2.keeps hkL
    exact ⟨hx2.reads,fun k hb=>⟨fun hm=>by
     rcases hof k hm with e | e
     ·exact (hx2.far k hb).1 e
     ·exact absurd ((h2 x hx).2.far k hb).2 (by omega),(hx2.far k hb).2⟩,hx2.off⟩⟩,hk.own h3 fun j e=>hn 6 j (by decide) (by rw [←e];rfl)⟩,?_,h.ge,Nat.lt_of_lt_of_le h.lt hk.size,h.zone.of hk.size hof⟩,hkL,hof⟩
 rw [e];exact h.lone.set h.in 4 _ ho
theorem Own.setT (h:Own w B g q v f bd t o p rd fs body ts out) {t':Value} {ts':List Fld} (hk:Keeps [t.ownBlock] w w') (hr:w'.ownsRow B 106 2 t' ts'.length (cells ts')) (hor:t'.ownBlock=t.ownBlock∨∃k,t'.ownBlock=some k∧w.heap.size≤k) :
 Own w' B g q v f bd t' o p rd fs body ts' out∧Step (blks g q v f bd t o) (blks g q v f bd t' o) w w':=by
 have hn:∀i j,i≠5→(blks g q v f bd t o)[i]?=some (some j)→some j∉ [t.ownBlock]:=fun i j hi hj hm=>by
  have e:some j=t.ownBlock:=by simpa using hm
  exact hi (h.lone i 5 j hj (by rw [e];rfl))
 have e:blks g q v f bd t' o=(blks g q v f bd t o).set 5 t'.ownBlock:=rfl;have ho:t'.ownBlock=none∨(blks g q v f bd t o)[5]?=some t'.ownBlock∨∃k,t'.ownBlock=some k∧w.heap.size≤k:=by
  rcases hor with e | e
  ·exact .inr (.inl (by rw [e];rfl))
  ·exact .inr (.inr e)
 have hof:Of w (blks g q v f bd t o) (blks g q v f bd t' o):=by rw [e];exact Of.set 5 _ ho
 have hkL:Keeps (blks g q v f bd t o) w w':=hk.mono fun k hk=>by
  have e:some k=t.ownBlock:=by simpa using hk
  simp [e]
 obtain ⟨ps,h1,h2,h3⟩:=h.O
 refine ⟨⟨⟨hk.row h.R.row (hn 1 q (by decide) rfl),hk.own h.R.own fun j e=>hn 2 j (by decide) (by rw [←e];rfl),h.R.ge,h.R.ne⟩,hk.own h.F fun j e=>hn 3 j (by decide) (by rw [←e];rfl),hk.own h.D fun j e=>hn 4 j (by decide) (by rw [←e];rfl),hr,
  ⟨ps,h1,fun x hx=>⟨(h2 x hx).1,by
    have hx2:=(h2 x hx).2.keeps hkL
    exact ⟨hx2.reads,fun k hb=>⟨fun hm=>by
     rcases hof k hm with e | e
     ·exact (hx2.far k hb).1 e
     ·exact absurd ((h2 x hx).2.far k hb).2 (by omega),(hx2.far k hb).2⟩,hx2.off⟩⟩,hk.own h3 fun j e=>hn 6 j (by decide) (by rw [←e];rfl)⟩,?_,h.ge,Nat.lt_of_lt_of_le h.lt hk.size,h.zone.of hk.size hof⟩,hkL,hof⟩
 rw [e];exact h.lone.set h.in 5 _ ho
theorem PR.bk (h:PR w B g q v f bd t o p b s):Rec.Bk w g (pcells p b s q f bd t o):=⟨fun _ _ hu=>row_cellL h.row hu,fun k _=>Ln.row_frozen h.row k,h.own.lt⟩
theorem rr_below {q1:Nat} {rd1:Ln.R} (h:Ln.Rr w B q1 v p rd1) (hb:Below w.heap.size w w'):Ln.Rr w' B q1 v p rd1:=by have hk:Keeps [] w w':=Keeps.of_below hb;exact ⟨hk.row h.row (by simp),hk.own h.own (by simp),h.ge,h.ne⟩
def Par (w:World) (B:Zone) (g:Nat) (p:Nat) (b:Bd) (s:S) (L:List (Option Nat)):Prop:=∃q v f bd t o,L=blks g q v f bd t o∧PR w B g q v f bd t o p b s
end
end Go.Proofs.YtimoakmcelocfaaGreat.Par
namespace Go.Proofs.YtimoakmcelocfaaGreat.Pg
open Go.RowKit Base Txt Mem Par
abbrev pgcells (p:Nat) (b:Bd) (s:T) (q:Nat) (f bd t o:Value):List Value:=
 [.int .i64 0,.int .i64 (s.hl:Int),f,.string s.r.m,.string s.r.x,.int .i64 s.r.k,.int .i64 (s.size:Int),.bool s.cnt,.int .i64 (s.bl:Int),t,.bool s.r.ch,bd,.int .i64 (s.left:Int),
   .int .u32 (p:Int),.int .i64 b.x0,.int .i64 b.x1,.int .i64 b.x2,.int .i64 b.x3,.int .i64 b.x4,.int .i64 b.x5,.int .i64 b.x6,.int .i64 b.x7,.bool b.ch,.bool b.od,.int .i64 (s.st:Int),ptr q,o]
section
variable {w w':World} {B:Zone} {g q:Nat} {v f bd t o:Value} {p:Nat} {b:Bd} {s:T} {rd:Ln.M} {fs ts:List Fld} {body:List UInt8} {out:List Rec.R} {L:List (Option Nat)}
end
end Go.Proofs.YtimoakmcelocfaaGreat.Pg
namespace Go.Proofs.YtimoakmcelocfaaGreat.Par
open Go.RowKit Base Txt
theorem grow_facts {base most:Int} (hb:1≤base) (hm:0≤most):∀(l:List UInt8) (n k:Int),0≤n→n≤most→Num.grow base most n l=some k→0≤k∧k≤most
 | [],n,k,h0,h1,h=>by
   simp only [Num.grow,Option.some.injEq] at h;omega
 | c::r,n,k,h0,h1,h=>by
   unfold Num.grow at h;by_cases hc:most<Num.dig c∨(most-Num.dig c)/base<n
   ·rw [if_pos hc] at h;cases h
   ·rw [if_neg hc] at h;have hd:=Num.dig_nonneg c;have h2:n≤(most-Num.dig c)/base:=by omega
    have h3:n*base≤most-Num.dig c:=by
     have:=Int.mul_le_mul_of_nonneg_right h2 (by omega:0≤base)
     have h4:=Int.ediv_mul_le (most-Num.dig c) (by omega:base≠0);omega
    have h5:0≤n*base:=Int.mul_nonneg h0 (by omega);exact grow_facts hb hm r _ k (by omega) (by omega) h
theorem read_facts (base most:Int) (hb:1≤base) (l:List UInt8):((Num.readOf base most l).2=0∧0≤(Num.readOf base most l).1∧(Num.readOf base most l).1≤max most 0)∨(Num.readOf base most l).2=22∨(Num.readOf base most l).2=23:=by
 unfold Num.readOf;split
 ·exact .inr (.inl rfl)
 ·cases h:Num.grow base (max most 0) 0 l with
  | none=>exact .inr (.inr rfl)
  | some k=>
    have:=grow_facts hb (by omega) l 0 k (by omega) (by omega) h;exact .inl ⟨rfl,this.1,this.2⟩
theorem chunk_facts (hex blanks:Bool) (ext body:Int) (l:List UInt8):((Chk.sizeV hex blanks ext body l).2=0∧0≤(Chk.sizeV hex blanks ext body l).1∧(Chk.sizeV hex blanks ext body l).1≤max body 0)∨(Chk.sizeV hex blanks ext body l).2=400∨(Chk.sizeV hex blanks ext body l).2=413:=by
 unfold Chk.sizeV;split
 ·rcases read_facts 16 body (by decide) (Chk.sizeL hex blanks l) with ⟨h0,h1,h2⟩ | h | h
  ·unfold Chk.numV;rw [h0,if_neg (by decide),if_neg (by decide)];exact .inl ⟨rfl,h1,h2⟩
  ·unfold Chk.numV
   rw [h,if_pos rfl];exact .inr (.inl rfl)
  ·unfold Chk.numV
   rw [h,if_neg (by decide),if_pos rfl];exact .inr (.inr rfl)
 ·exact .inr (.inl rfl)
theorem length_facts (lp lc lf ll:Bool) (most:Int) (vs:List ByteArray):((Frm.lengthV lp lc lf ll most vs).2=0∧0≤(Frm.lengthV lp lc lf ll most vs).1∧(Frm.lengthV lp lc lf ll most vs).1≤max most 0)∨(Frm.lengthV lp lc lf ll most vs).2=400∨(Frm.lengthV lp lc lf ll most vs).2=413:=by
 unfold Frm.lengthV;split
 ·exact .inl ⟨rfl,by decide,by show (0:Int)≤_;omega⟩
 ·split
  ·exact .inr (.inl rfl)
  ·rename_i s _;rcases read_facts 10 most (by decide) (Frm.unplus lp s).data.toList with ⟨h0,h1,h2⟩ | h | h
   ·unfold Frm.numV;rw [h0,if_neg (by decide),if_neg (by decide)];exact .inl ⟨rfl,h1,h2⟩
   ·unfold Frm.numV
    rw [h,if_pos rfl];exact .inr (.inl rfl)
   ·unfold Frm.numV
    rw [h,if_neg (by decide),if_pos rfl];exact .inr (.inr rfl)
theorem decide_facts (c:Frm.Cl) (ch:Bool) (body minor:Int) (fs:List Fld) :
 Frm.decideV c ch body minor fs=(2,0,0)∨(∃n:Nat,(n:Int)≤max body 0∧Frm.decideV c ch body minor fs=(1,(n:Int),0))∨∃e:Nat,(e=400∨e=413∨e=501)∧Frm.decideV c ch body minor fs=(0,0,(e:Int)):=by
 unfold Frm.decideV Frm.bodyV;have hh:Frm.hostsV c.nh c.mh minor (find fs Frm.hostN)=0∨Frm.hostsV c.nh c.mh minor (find fs Frm.hostN)=400:=by
  unfold Frm.hostsV;split
  ·exact .inr rfl
  ·split
   ·exact .inl rfl
   ·exact .inr rfl
 rcases hh with h | h
 ·rw [h,if_neg (by decide)];obtain ⟨W,hW⟩:∃W,Frm.winsV c.td c.ti c.tw c.lw minor (find fs Frm.teN).length (find fs Frm.clN).length (Frm.coding c.tb c.tl (find fs Frm.teN))=W:=⟨_,rfl⟩;have hw:W.2=0∨W.2=400∨W.2=501:=by
   rw [←hW];unfold Frm.winsV
   repeat' split
   all_goals simp
  rw [hW];rcases hw with w | w | w
  ·rw [w,if_neg (by decide)];split
   ·split
    ·exact .inl rfl
    ·exact .inr (.inr ⟨501,by simp,rfl⟩)
   ·rcases length_facts c.lp c.lc c.lf c.ll body (find fs Frm.clN) with ⟨h0,h1,h2⟩ | h0 | h0
    ·refine .inr (.inl ⟨(Frm.lengthV c.lp c.lc c.lf c.ll body (find fs Frm.clN)).1.toNat,by omega,?_⟩);unfold Frm.fixedV;rw [h0,if_pos rfl,Int.toNat_of_nonneg h1]
    ·refine .inr (.inr ⟨400,by simp,?_⟩);unfold Frm.fixedV;rw [h0,if_neg (by decide)];rfl
    ·refine .inr (.inr ⟨413,by simp,?_⟩);unfold Frm.fixedV;rw [h0,if_neg (by decide)];rfl
  ·rw [w,if_pos (by decide)];exact .inr (.inr ⟨400,by simp,rfl⟩)
  ·rw [w,if_pos (by decide)];exact .inr (.inr ⟨501,by simp,rfl⟩)
 ·rw [h,if_pos (by decide)];exact .inr (.inr ⟨400,by simp,rfl⟩)
theorem request_facts (c:Rq.Cl) (old:Bool) (l:List UInt8):((Rq.request c old l).2.2.2=0∧(Rq.request c old l).1.length≤l.length∧(Rq.request c old l).2.1.length≤l.length∧(Rq.request c old l).2.2.1≤1)∨(Rq.request c old l).2.2.2=400∨(Rq.request c old l).2.2.2=505:=by
 unfold Rq.request;split
 ·exact .inr (.inl rfl)
 ·rename_i m t v hp;split
  ·split
   ·exact .inr (.inr rfl)
   ·rename_i k hk;split
    ·exact .inr (.inr rfl)
    ·obtain ⟨-,h1, -,h2, -⟩:=Rq.pick_some hp;refine .inl ⟨rfl,h1,h2,?_⟩;show k≤1;unfold Rq.verL at hk
     repeat' split at hk
     all_goals first |(cases hk;omega) | cases hk
  ·exact .inr (.inl rfl)
end Go.Proofs.YtimoakmcelocfaaGreat.Par
namespace Go.Proofs.YtimoakmcelocfaaGreat.Pg
open Go.RowKit Base Txt Par
structure T.Ok (t:T):Prop where
 rd:t.rd.Ok
 nf:Ln.failed t.rd.last=false
 st:1≤t.st∧t.st≤7
 hl:t.hl≤100
 bl:t.bl≤100
 fsl:t.r.fs.length≤t.hl
 tsl:t.r.ts.length≤t.bl
 fss:∀y∈t.r.fs,y.1.size≤5000*t.hl∧y.2.size≤5000*t.hl
 tss:∀y∈t.r.ts,y.1.size≤5000*t.bl∧y.2.size≤5000*t.bl
 m:t.r.m.size≤4096
 x:t.r.x.size≤4096
 body:t.r.body.length+t.left≤1048576
 left:bodied t.st=true→1≤t.left
 early:t.st≤2→t.r.body= []
 size:t.size≤65536
theorem Bd.edges {b:Bd} (h:b.right=true):(64≤b.x0∧b.x0≤4096)∧(4≤b.x1∧b.x1≤100)∧(256≤b.x2∧b.x2≤65536)∧(16≤b.x3∧b.x3≤1048576)∧(0≤b.x4∧b.x4≤256)∧(0≤b.x5∧b.x5≤100):=by unfold Bd.right Bnd.right Bnd.inside at h;simp only [Bool.and_eq_true,decide_eq_true_eq] at h;omega
theorem size_ba (l:List UInt8):(ba l).size=l.length:=by simp [ba,ByteArray.size]
theorem joinF_le (f:Fld) (ln:List UInt8):(joinF f ln).1.size=f.1.size∧(joinF f ln).2.size≤f.2.size+1+ln.length:=by refine ⟨rfl,?_⟩;unfold joinF;rw [size_ba];unfold Fd.joined;rw [List.length_append,List.length_cons,len];have:=trimL_length Txt.blank ln;omega
theorem fieldV_fit {p lines:Nat} {l l':List Fld} {ln:List UInt8} {most:Int} (h:fieldV p lines l ln most=.inr l') (hn:ln.length≤4096) (hl:l.length≤lines) (hs:∀y∈l,y.1.size≤5000*lines∧y.2.size≤5000*lines) :
 ((lines+1:Nat):Int)≤most∧l'.length≤lines+1∧∀y∈l',y.1.size≤5000*(lines+1)∧y.2.size≤5000*(lines+1):=by
 unfold fieldV at h
 by_cases hm:most<((lines+1:Nat):Int)
 ·rw [if_pos hm] at h;cases h
 ·rw [if_neg hm] at h;have h0:((lines+1:Nat):Int)≤most:=by omega
  by_cases hg:(Fd.goes p ln && !l.isEmpty)=true
  ·rw [if_pos hg] at h;have hne:l≠ []:=by
    simp only [Bool.and_eq_true,Bool.not_eq_true',List.isEmpty_eq_false_iff] at hg;exact hg.2
   obtain ⟨ini,last,rfl⟩:∃ini last,l=ini ++ [last]:=⟨_,_,(List.dropLast_concat_getLast hne).symm⟩;simp only [List.dropLast_concat,List.getLast?_concat,qO] at h;cases h;refine ⟨h0,by simpa using Nat.le_succ_of_le hl,fun y hy=>?_⟩;rcases List.mem_append.1 hy with hy | hy
   ·have:=hs y (List.mem_append_left _ hy);omega
   ·obtain rfl:y= _:=by simpa using hy
    have h1:=hs last (by simp);have h2:=joinF_le last ln;omega
  ·rw [if_neg hg] at h;rcases hp:Fd.parse (Fd.clOf p) ln with _ | _ | ⟨n,v⟩
   ·rw [hp] at h;cases h
   ·rw [hp] at h;cases h;exact ⟨h0,by omega,fun y hy=>by have:=hs y hy;omega⟩
   ·rw [hp] at h;cases h;have h2:=Fd.parse_le hp;refine ⟨h0,by simp;omega,fun y hy=>?_⟩;rcases List.mem_append.1 hy with hy | hy
    ·have:=hs y hy;omega
    ·obtain rfl:y= _:=by simpa using hy
     simp only [size_ba];omega
theorem fieldV_err {p lines:Nat} {l:List Fld} {ln:List UInt8} {most:Int} {e:Nat} (h:fieldV p lines l ln most=.inl e):e=400∨e=431:=by
 unfold fieldV at h
 by_cases hm:most<((lines+1:Nat):Int)
 ·rw [if_pos hm] at h;cases h;exact .inr rfl
 ·rw [if_neg hm] at h;by_cases hg:(Fd.goes p ln && !l.isEmpty)=true
  ·rw [if_pos hg] at h;cases h
  ·rw [if_neg hg] at h;rcases hp:Fd.parse (Fd.clOf p) ln with _ | _ | ⟨n,v⟩<;>rw [hp] at h<;>cases h;exact .inl rfl
section
variable {p:Nat} {b:Bd} {t t':T} {s:List UInt8}
theorem T.Ok.fin (h:t.Ok):t.fin.Ok:=
 ⟨h.rd,h.nf,⟨Nat.le_refl _,by show 1≤7;omega⟩,Nat.zero_le _,Nat.zero_le _,Nat.le_refl _,Nat.le_refl _,(by intro y hy;cases hy),(by intro y hy;cases hy),Nat.zero_le _,Nat.zero_le _,Nat.zero_le _,fun h=>(by cases h),fun _=>rfl,Nat.zero_le _⟩
theorem T.Ok.enter (h:t.Ok) {st:Nat} (hs:st=4∨st=6) (most:Int):(t.enter p st most).Ok:=
 ⟨Ln.M.new_ok _ _ _ (Ln.mid_le _),rfl,by show 1≤st∧st≤7;omega,h.hl,h.bl,h.fsl,h.tsl,h.fss,h.tss,h.m,h.x,h.body,fun hb=>(by rcases hs with rfl | rfl<;>cases hb),fun hle=>by have:st≤2:=hle;omega,h.size⟩
theorem T.Ok.first (h:t.Ok) (hst:t.st≤2) (hn:s.length≤4096) (h0:(t.first p b s).1=0):(t.first p b s).2.Ok:=by
 unfold T.first at h0 ⊢;by_cases he:s= []
 ·rw [if_pos he] at h0 ⊢;exact h
 ·rw [if_neg he] at h0 ⊢;rcases request_facts (Rq.clOf p) b.od s with ⟨h1,h2,h3,h4⟩ | h1 | h1
  ·simp only [h1,if_pos];exact ⟨h.rd,h.nf,by show 1≤2∧2≤7;omega,h.hl,h.bl,h.fsl,h.tsl,h.fss,h.tss,by show (ba _).size≤_;rw [size_ba];omega,by show (ba _).size≤_;rw [size_ba];omega,h.body,fun hb=>(by cases hb),fun _=>h.early hst,h.size⟩
  ·simp [h1] at h0
  ·simp [h1] at h0
theorem T.Ok.endHead (h:t.Ok) (hb:b.right=true) (hst:t.st≤2) (h0:(t.endHead p b).1=0):(t.endHead p b).2.Ok:=by
 have e3:=(Bd.edges hb).2.2.2.1;unfold T.endHead at h0 ⊢;rcases decide_facts (Frm.clOf p) b.ch b.x3 t.r.k t.r.fs with e | ⟨n,hn,e⟩ | ⟨x,hx,e⟩
 ·rw [e];dsimp only;rw [if_neg (by decide),if_pos rfl];exact ⟨h.rd,h.nf,by show 1≤4∧4≤7;omega,h.hl,h.bl,h.fsl,h.tsl,h.fss,h.tss,h.m,h.x,h.body,fun hb=>(by cases hb),fun hle=>by have:4≤2:=hle;omega,h.size⟩
 ·rw [e];dsimp only;rw [if_neg (by decide),if_neg (by decide)];by_cases hz:(n:Int)=0
  ·rw [if_pos hz];exact h.fin
  ·rw [if_neg hz];have hbd:=h.early hst;exact ⟨h.rd,h.nf,by show 1≤3∧3≤7;omega,h.hl,h.bl,h.fsl,h.tsl,h.fss,h.tss,h.m,h.x,by show t.r.body.length+(n:Int).toNat≤_;rw [hbd];simp only [List.length_nil];omega,fun _=>by show 1≤(n:Int).toNat;omega,fun hle=>by have:3≤2:=hle;omega,h.size⟩
 ·exfalso;rw [e] at h0;dsimp only at h0;rw [if_pos (by omega)] at h0;have:(x:Int).toNat=0:=h0;omega
theorem listE_zero {x:Nat ⊕ List Fld} (h:listE x=0) (h1:∀e,x=.inl e→e=400∨e=431):∃l,x=.inr l:=by
 cases x with
 | inl e=>
   have:e=0:=h;rcases h1 e rfl with h | h<;>omega
 | inr l=>exact ⟨l,rfl⟩
theorem T.Ok.fields (h:t.Ok) (hb:b.right=true) (hst:t.st≤2) (hn:s.length≤4096) (h0:(t.fields p b s).1=0):(t.fields p b s).2.Ok:=by
 have e1:=(Bd.edges hb).2.1;unfold T.fields at h0 ⊢;by_cases he:s= []
 ·rw [if_pos he] at h0 ⊢;exact h.endHead hb hst h0
 ·rw [if_neg he] at h0 ⊢;obtain ⟨l,hl⟩:=listE_zero h0 fun e he=>fieldV_err he;obtain ⟨f1,f2,f3⟩:=fieldV_fit hl hn h.fsl h.fss;rw [hl];exact ⟨h.rd,h.nf,h.st,by show t.hl+1≤100;omega,h.bl,f2,h.tsl,f3,h.tss,h.m,h.x,h.body,h.left,h.early,h.size⟩
theorem T.Ok.trail (h:t.Ok) (hb:b.right=true) (hn:s.length≤4096) (h0:(t.trail p b s).1=0):(t.trail p b s).2.Ok:=by
 have e1:=(Bd.edges hb).2.2.2.2.2;unfold T.trail at h0 ⊢;by_cases he:s= []
 ·rw [if_pos he] at h0 ⊢;exact h.fin
 ·rw [if_neg he] at h0 ⊢;obtain ⟨l,hl⟩:=listE_zero h0 fun e he=>fieldV_err he;obtain ⟨f1,f2,f3⟩:=fieldV_fit hl hn h.tsl h.tss;rw [hl];exact ⟨h.rd,h.nf,h.st,h.hl,by show t.bl+1≤100;omega,h.fsl,f2,h.fss,f3,h.m,h.x,h.body,h.left,h.early,h.size⟩
theorem T.Ok.chunk (h:t.Ok) (hb:b.right=true) (h0:(t.chunk p b s).1=0):(t.chunk p b s).2.Ok:=by
 have e3:=(Bd.edges hb).2.2.2.1;unfold T.chunk at h0 ⊢;rcases chunk_facts (Qk.has p 27) (Qk.has p 28) b.x4 b.x3 s with ⟨z2,z1,z3⟩ | z2 | z2
 ·dsimp only at h0 ⊢;rw [z2] at h0 ⊢;rw [if_neg (by decide)] at h0 ⊢;obtain ⟨z,hz⟩:∃z,(Chk.sizeV (Qk.has p 27) (Qk.has p 28) b.x4 b.x3 s).1=z:=⟨_,rfl⟩;rw [hz] at h0 z1 z3 ⊢;by_cases hz0:z=0
  ·rw [if_pos hz0];exact ⟨h.rd,h.nf,by show 1≤7∧7≤7;omega,h.hl,h.bl,h.fsl,h.tsl,h.fss,h.tss,h.m,h.x,h.body,fun hb=>(by cases hb),fun hle=>by have:7≤2:=hle;omega,h.size⟩
  ·rw [if_neg hz0] at h0 ⊢;by_cases hlt:b.x3-(t.r.body.length:Int)<z
   ·rw [if_pos hlt] at h0;cases h0
   ·rw [if_neg hlt];exact ⟨h.rd,h.nf,by show 1≤5∧5≤7;omega,h.hl,h.bl,h.fsl,h.tsl,h.fss,h.tss,h.m,h.x,by show t.r.body.length+z.toNat≤_;omega,fun _=>by show 1≤z.toNat;omega,fun hle=>by have:5≤2:=hle;omega,h.size⟩
 ·exfalso;dsimp only at h0;rw [z2] at h0;rw [if_pos (by decide)] at h0;cases h0
 ·exfalso;dsimp only at h0;rw [z2] at h0;rw [if_pos (by decide)] at h0;cases h0
theorem T.Ok.line (h:t.Ok) (hb:b.right=true) (hn:s.length≤4096) (h0:(t.line p b s).1=0):(t.line p b s).2.Ok:=by
 unfold T.line at h0 ⊢;by_cases h1:t.st=1
 ·rw [if_pos h1] at h0 ⊢;exact h.first (by omega) hn h0
 ·rw [if_neg h1] at h0 ⊢;by_cases h2:t.st=2
  ·rw [if_pos h2] at h0 ⊢;exact h.fields hb (by omega) hn h0
  ·rw [if_neg h2] at h0 ⊢;by_cases h4:t.st=4
   ·rw [if_pos h4] at h0 ⊢;exact h.chunk hb h0
   ·rw [if_neg h4] at h0 ⊢;by_cases h7:t.st=7
    ·rw [if_pos h7] at h0 ⊢;exact h.trail hb hn h0
    ·rw [if_neg h7];exact h.enter (.inl rfl) _
theorem T.Ok.byteR (h:t.Ok) (c:UInt8) (hf:Ln.failed (t.rd.clear.next c)=false):({t with rd:=t.rd.byte c}:T).Ok:=
 ⟨h.rd.byte c,hf,h.st,h.hl,h.bl,h.fsl,h.tsl,h.fss,h.tss,h.m,h.x,h.body,h.left,h.early,h.size⟩
theorem line_len (h:t.Ok) (c:UInt8):(t.rd.byte c).line.length≤4096:=by
 have h1:=(h.rd.byte c).len;have h2:=(h.rd.byte c).most;unfold Ln.M.line;split
 ·omega
 ·exact Nat.zero_le _
theorem T.Ok.inLine (h:t.Ok) (hb:b.right=true) (c:UInt8) (h0:(t.inLine p b c).1=.live t'):t'.Ok:=by
 unfold T.inLine at h0;obtain ⟨how,hh⟩:∃how,t.rd.clear.next c=how:=⟨_,rfl⟩;have hn:=Ln.M.next_is t.rd.clear c;have hk:=h.byteR c;simp only [hh] at h0 hn hk;by_cases e0:how=0
 ·rw [if_pos e0] at h0;cases h0;exact hk (by rw [e0];rfl)
 ·rw [if_neg e0] at h0;by_cases e3:how=3
  ·rw [if_pos e3] at h0;cases h0
  ·rw [if_neg e3] at h0;by_cases e4:how=4
   ·rw [if_pos e4] at h0;split at h0
    ·cases h0;exact ⟨Ln.M.new_ok _ _ _ (Ln.mid_le _),rfl,by show 1≤4∧4≤7;omega,h.hl,h.bl,h.fsl,h.tsl,h.fss,h.tss,h.m,h.x,h.body,fun hb=>(by cases hb),fun hle=>by have:4≤2:=hle;omega,h.size⟩
    ·cases h0
   ·rw [if_neg e4] at h0;have hf:Ln.failed how=false:=by rcases hn with e | e | e | e | e<;>first |(rw [e];rfl) | contradiction
    have hk1:=(hk hf).line (p:=p) hb (line_len h c);unfold ends at h0;split at h0
    ·rename_i hz;cases h0;exact hk1 hz
    ·cases h0
theorem T.Ok.counted (h:t.Ok) (hb:b.right=true) (hc:¬b.x2<(t.counted.size:Int)):t.counted.Ok:=by
 have e2:=(Bd.edges hb).2.2.1;have hs:t.counted.size≤65536:=by omega
 unfold T.counted at hs ⊢;split
 ·exact h
 ·rename_i hn;rw [if_neg hn] at hs;exact ⟨h.rd,h.nf,h.st,h.hl,h.bl,h.fsl,h.tsl,h.fss,h.tss,h.m,h.x,h.body,h.left,h.early,hs⟩
theorem counted_st (t:T):t.counted.st=t.st:=by unfold T.counted;split<;>rfl
theorem counted_rd (t:T):t.counted.rd=t.rd:=by unfold T.counted;split<;>rfl
theorem counted_out (t:T):t.counted.out=t.out:=by unfold T.counted;split<;>rfl
theorem T.Ok.keep (h:t.Ok) (hst:bodied t.st=true) (hl:t.left≠1) (c:UInt8):(t.keep c).Ok:=by have h1:=h.left hst;exact ⟨h.rd,h.nf,h.st,h.hl,h.bl,h.fsl,h.tsl,h.fss,h.tss,h.m,h.x,by have:=h.body;show (t.r.body ++ [c]).length+(t.left-1)≤_;rw [List.length_append,List.length_singleton];omega,fun _=>by show 1≤t.left-1;omega,fun hle=>by exfalso;have h2:t.st≤2:=hle;unfold bodied at hst;simp only [Bool.or_eq_true,beq_iff_eq] at hst;omega,h.size⟩
theorem T.Ok.endData (h:t.Ok) (hst:bodied t.st=true) (c:UInt8):((t.keep c).endData p).Ok:=by
 have h1:=h.left hst;unfold T.endData;split
 ·exact ⟨Ln.M.new_ok _ _ _ (Ln.mid_le _),rfl,by show 1≤6∧6≤7;omega,h.hl,h.bl,h.fsl,h.tsl,h.fss,h.tss,h.m,h.x,by have:=h.body;show (t.r.body ++ [c]).length+(t.left-1)≤_;rw [List.length_append,List.length_singleton];omega,fun hb=>(by cases hb),fun hle=>by have:6≤2:=hle;omega,h.size⟩
 ·exact ⟨h.rd,h.nf,⟨Nat.le_refl _,by show 1≤7;omega⟩,Nat.zero_le _,Nat.zero_le _,Nat.le_refl _,Nat.le_refl _,(by intro y hy;cases hy),(by intro y hy;cases hy),Nat.zero_le _,Nat.zero_le _,Nat.zero_le _,fun h=>(by cases h),fun _=>rfl,Nat.zero_le _⟩
theorem T.Ok.look (h:t.Ok) (hb:b.right=true) (c:UInt8) (h0:(t.look p b c).1=.live t'):t'.Ok:=by
 unfold T.look at h0;by_cases hd:bodied t.st=true
 ·rw [if_pos hd] at h0;cases h0;split
  ·exact h.endData hd c
  ·exact h.keep hd (by assumption) c
 ·rw [if_neg hd] at h0;split at h0
  ·split at h0
   ·cases h0
   ·exact (h.counted hb (by assumption)).inLine hb c h0
  ·exact h.inLine hb c h0
theorem line_keeps:((t.line p b s).2.rd=t.rd∨∃most,(t.line p b s).2.rd=Ln.M.of p most)∧(bodied t.st=false→(t.line p b s).1=0→(t.line p b s).2.st≠6):=by
 unfold T.line T.first T.fields T.endHead T.chunk T.trail;by_cases h1:t.st=1
 ·rw [if_pos h1];by_cases he:s= []
  ·rw [if_pos he];exact ⟨.inl rfl,fun _ _=>by show t.st≠6;omega⟩
  ·rw [if_neg he];dsimp only;split
   ·exact ⟨.inl rfl,fun _ _=>by show 2≠6;decide⟩
   ·exact ⟨.inl rfl,fun _ _=>by show t.st≠6;omega⟩
 ·rw [if_neg h1];by_cases h2:t.st=2
  ·rw [if_pos h2];by_cases he:s= []
   ·rw [if_pos he];dsimp only;split
    ·exact ⟨.inl rfl,fun _ _=>by show t.st≠6;omega⟩
    ·split
     ·exact ⟨.inl rfl,fun _ _=>by show 4≠6;decide⟩
     ·split
      ·exact ⟨.inl rfl,fun _ _=>by show 1≠6;decide⟩
      ·exact ⟨.inl rfl,fun _ _=>by show 3≠6;decide⟩
   ·rw [if_neg he];exact ⟨.inl rfl,fun _ _=>by show t.st≠6;omega⟩
  ·rw [if_neg h2];by_cases h4:t.st=4
   ·rw [if_pos h4];dsimp only;split
    ·exact ⟨.inl rfl,fun _ _=>by show t.st≠6;omega⟩
    ·split
     ·exact ⟨.inl rfl,fun _ _=>by show 7≠6;decide⟩
     ·split
      ·exact ⟨.inl rfl,fun _ _=>by show t.st≠6;omega⟩
      ·exact ⟨.inl rfl,fun _ _=>by show 5≠6;decide⟩
   ·rw [if_neg h4];by_cases h7:t.st=7
    ·rw [if_pos h7];by_cases he:s= []
     ·rw [if_pos he];exact ⟨.inl rfl,fun _ _=>by show 1≠6;decide⟩
     ·rw [if_neg he];exact ⟨.inl rfl,fun _ _=>by show t.st≠6;omega⟩
    ·rw [if_neg h7];exact ⟨.inr ⟨_,rfl⟩,fun _ _=>by show 4≠6;decide⟩
theorem inLine_again (hst:bodied t.st=false) (c:UInt8) (h0:t.inLine p b c=(.live t',false)):t'.rd.pend=false∧t'.st≠6:=by
 unfold T.inLine at h0;obtain ⟨how,hh⟩:∃how,t.rd.clear.next c=how:=⟨_,rfl⟩;simp only [hh] at h0;by_cases e0:how=0
 ·rw [if_pos e0] at h0;cases h0
 ·rw [if_neg e0] at h0;by_cases e3:how=3
  ·rw [if_pos e3] at h0;cases h0
  ·rw [if_neg e3] at h0;by_cases e4:how=4
   ·rw [if_pos e4] at h0;split at h0
    ·cases h0;exact ⟨rfl,by show 4≠6;decide⟩
    ·cases h0
   ·rw [if_neg e4] at h0;obtain ⟨h1,h2⟩:=Prod.mk.inj h0;unfold ends at h1;split at h1
    ·rename_i hz;cases h1
     obtain ⟨k1,k2⟩:=line_keeps (p:=p) (b:=b) (t:={t with rd:=t.rd.byte c}) (s:=(t.rd.byte c).line);refine ⟨?_,k2 hst hz⟩;have hpd:(t.rd.byte c).pend=false:=by show (t.rd.clear.next c==0&&c==13)=false;rw [hh,beq_eq_false_iff_ne.2 e0];rfl
     rcases k1 with k | ⟨most,k⟩
     ·rw [k];exact hpd
     ·rw [k];rfl
    ·cases h1
theorem T.Ok.cleared (h:t.Ok):({t with cnt:=false}:T).Ok:=⟨h.rd,h.nf,h.st,h.hl,h.bl,h.fsl,h.tsl,h.fss,h.tss,h.m,h.x,h.body,h.left,h.early,h.size⟩
theorem T.Ok.take (h:t.Ok) (hb:b.right=true) (c:UInt8) (h0:t.take p b c=.live t'):t'.Ok:=by
 unfold T.take at h0;rcases hx:({t with cnt:=false}:T).look p b c with ⟨t1 | ⟨e,o⟩,u⟩
 ·have h1:t1.Ok:=h.cleared.look hb c (by rw [hx]);rw [hx] at h0;cases u with
  | true=>cases h0;exact h1
  | false=>exact h1.look hb c h0
 ·rw [hx] at h0;cases u<;>cases h0
end
end Go.Proofs.YtimoakmcelocfaaGreat.Pg
namespace Go.Proofs.YtimoakmcelocfaaGreat.Each
open Go.RowKit Base
def goodF (l:List Oper) (m:Nat) (ds:List Nat) (lm:List Bool) (r:Nat) (f:Option Nat:=none):Bool:=
 decide (m≤l.length)&&(decide ((l.take m).map (·.dst)=ds.map some)&&(decide ds.Nodup &&
 ((List.range l.length).all (fun k=>match l[k]? with
   | some o=>o.after.toList.all fun e=>!Region.binds .any e|| (decide (e.on<k)&&(lm.getD k false||decide (m≤k) || !lm.getD e.on false))
   | none=>true) &&
 ((List.range l.length).all (fun i=>(decide (i<m) && !lm.getD i false)|| (List.range m).all fun k=>lm.getD k false|| (decide (f=some k)|| (marks l l.length ((Array.replicate l.length false).setIfInBounds i true)).getD k false)) &&
 decide ((List.range m).countP (fun k=>!lm.getD k false)+r≤l.length)))))
def floats (m:Nat) (lm:List Bool):Option Nat→Bool
 | none=>true
 | some k=>decide (k<m) && !lm.getD k false
section
variable {P:Program} {l:List Oper} {Q:Exit→Act→World→Prop} {fs:List Fact} {W:World} {a0:Act} {m:Nat} {ds:List Nat} {lm:List Bool} {r:Nat} {fl:Option Nat}
theorem all_float (hm:m≤l.length) (hdst:(l.take m).map (·.dst)=ds.map some) (hnd:ds.Nodup) (hsz:∀d∈ds,d<a0.tmps.size) (hlen:fs.length=m)
 (hlast:∀f∈fs,Lasts f) (hidle:∀(k:Nat) (f:Fact),fs[k]?=some f→lm.getD k false=true→∀v w,f v w)
 (hfine:∀(k:Nat) (o:Oper) (f:Fact),l[k]?=some o→fs[k]?=some f→lm.getD k false=false→Fine P l fs W a0 ds o f)
 (hback:∀(k:Nat) (o:Oper),l[k]?=some o→∀e∈o.after.toList,Region.binds .any e=true→e.on<k)
 (hfree:∀(k:Nat) (o:Oper),l[k]?=some o→k<m→lm.getD k false=false→∀e∈o.after.toList,Region.binds .any e=true→lm.getD e.on false=false)
 (hcov:∀i,i<l.length→m≤i∨lm.getD i false=true→∀k,k<m→lm.getD k false=false→fl≠some k→(marks l l.length ((Array.replicate l.length false).setIfInBounds i true)).getD k false=true)
 (hfl:∀k,fl=some k→k<m∧lm.getD k false=false)
 (hrest:∀(g:Nat→Value) (w:World),Below W.heap.size W w→facts g w ds fs→wpAnyH P .any l.toArray Q (fun _=>True) r (fill l.length m lm) (putg g ds a0) w)
 (hrest0:∀k0,fl=some k0→∀(g:Nat→Value) (w:World),Below W.heap.size W w→facts g w ds (fs.set k0 fun _ _=>True)→wpAnyH P .any l.toArray Q (fun _=>True) (r+1) ((fill l.length m lm).setIfInBounds k0 false) (putg g ds a0) w) :
 ∀(n:Nat) (b:Array Bool) (a:Act) (w:World),Inv l fs (fun _ w'=>Below W.heap.size W w') a0 m ds lm b a w→(List.range m).countP (fun k=>!b.getD k false && !lm.getD k false)+r≤n→wpAnyH P .any l.toArray Q (fun _=>True) n b a w:=by
 have base:∀(b:Array Bool) (a:Act) (w:World),Inv l fs (fun _ w'=>Below W.heap.size W w') a0 m ds lm b a w→(∀k,k<m→lm.getD k false=false→fl≠some k→b.getD k false=true)→
  ∃q,(q=r∨(q=r+1∧0<(List.range m).countP (fun k=>!b.getD k false && !lm.getD k false)))∧wpAnyH P .any l.toArray Q (fun _=>True) q b a w:=by
  intro b a w hI hall;rcases Classical.em (∃k0,fl=some k0∧b.getD k0 false=false) with ⟨k0,hk0,hbk0⟩ | hno
  ·obtain ⟨hkm,hkl⟩:=hfl k0 hk0
   have hall':∀k,k<m→lm.getD k false=false→¬k=k0→b.getD k false=true:=fun k h1 h2 h3=>hall k h1 h2 (fun e=>h3 (by rw [hk0] at e;exact (Option.some.inj e).symm));refine ⟨r+1,.inr ⟨rfl,?_⟩,?_⟩
   ·rw [List.countP_pos_iff];exact ⟨k0,by simpa using hkm,by rw [hbk0,hkl];rfl⟩
   have hb:b=(fill l.length m lm).setIfInBounds k0 false:=by
    refine Array.ext (by simp [fill,hI.bsize]) fun i h1 h2=>?_;have e:b.getD i false=b[i]:=by simp [Array.getD_eq_getD_getElem?,h1]
    rw [←e,Array.getElem_setIfInBounds (by simpa using h2)];by_cases hik:k0=i
    ·rw [if_pos hik,←hik,hbk0]
    ·rw [if_neg hik];have e2:∀h,(fill l.length m lm)[i]'h=(decide (i<m) && !lm.getD i false):=by intro h;simp [fill]
     rw [e2];rcases Nat.lt_or_ge i m with hi | hi
     ·cases hl:lm.getD i false with
      | true=>rw [hI.rest i (.inr hl)];simp
      | false=>rw [hall' i hi hl (fun e=>hik e.symm)];simp [hi]
     ·rw [hI.rest i (.inl hi)];simp [show¬i<m by omega]
   have:=hrest0 k0 hk0 _ w hI.bel (facts_of (fun d=>a.eval (.tmp d)) ds (fs.set k0 fun _ _=>True) fun k d f hd hf=>by
    by_cases hkk:k0=k
    ·subst hkk;have:k0<fs.length:=by rw [hlen];exact hkm
     rw [List.getElem?_set_self this] at hf;obtain rfl:=Option.some.inj hf
     trivial
    ·rw [List.getElem?_set_ne hkk] at hf;cases hl:lm.getD k false with
     | true=>exact hidle k f hf hl _ _
     | false=>exact hI.fact k d f hd hf (hall' k (by have:=(List.getElem?_eq_some_iff.1 hf).1;omega) hl (fun e=>hkk e.symm)))
   rw [←act_of hI,←hb] at this;exact this
  ·have hall':∀k,k<m→lm.getD k false=false→b.getD k false=true:=fun k h1 h2=>by
    rcases Classical.em (fl=some k) with h | h
    ·cases hb:b.getD k false with
     | true=>rfl
     | false=>exact absurd ⟨k,h,hb⟩ hno
    ·exact hall k h1 h2 h
   refine ⟨r,.inl rfl,?_⟩;have hb:b=fill l.length m lm:=by
    refine Array.ext (by simp [fill,hI.bsize]) fun i h1 h2=>?_;have e:b.getD i false=b[i]:=by simp [Array.getD_eq_getD_getElem?,h1]
    rw [←e];have e2:(fill l.length m lm)[i]=(decide (i<m) && !lm.getD i false):=by simp [fill]
    rw [e2];rcases Nat.lt_or_ge i m with hi | hi
    ·cases hl:lm.getD i false with
     | true=>rw [hI.rest i (.inr hl)];simp
     | false=>rw [hall' i hi hl];simp [hi]
    ·rw [hI.rest i (.inl hi)];simp [show¬i<m by omega]
   have:=hrest _ w hI.bel (facts_of (fun d=>a.eval (.tmp d)) ds fs fun k d f hd hf=>by
    cases hl:lm.getD k false with
    | true=>exact hidle k f hf hl _ _
    | false=>exact hI.fact k d f hd hf (hall' k (by have:=(List.getElem?_eq_some_iff.1 hf).1;omega) hl))
   rw [←act_of hI,←hb] at this;exact this
 intro n
 induction n with
 | zero=>
   intro b a w hI hn;have hc:(List.range m).countP (fun k=>!b.getD k false && !lm.getD k false)=0:=by omega
   obtain ⟨q,hq,h⟩:=base b a w hI (fun k hk hl _=>by have:=List.countP_eq_zero.1 hc k (by simpa using hk);rw [hl] at this;simpa using this)
   rw [show q=0 by omega] at h;exact h
 | succ n ih=>
   intro b a w hI hn;by_cases hc:∀k,k<m→lm.getD k false=false→fl≠some k→b.getD k false=true
   ·obtain ⟨q,hq,h⟩:=base b a w hI hc;have h2:=wpAnyH_up q (n+1-q) _ _ _ h;rw [show q+(n+1-q)=n+1 by omega] at h2;exact h2
   ·
    have hex:∃k,k<m∧lm.getD k false=false∧fl≠some k∧b.getD k false=false:=by
     rcases Classical.em (∃k,k<m∧lm.getD k false=false∧fl≠some k∧b.getD k false=false) with h | h
     ·exact h
     ·refine absurd (fun k hk hl hf=>?_) hc;cases hb:b.getD k false with
      | true=>rfl
      | false=>exact absurd ⟨k,hk,hl,hf,hb⟩ h
    have hin:∀i∈Region.ready .any l.toArray b,i<m∧lm.getD i false=false:=by
     intro i hi;obtain ⟨hun,o,ho,hal⟩:=mem_ready.1 hi;have ho':l[i]?=some o:=by simpa using ho
     have hil:i<l.length:=(List.getElem?_eq_some_iff.1 ho').1;have key:m≤i∨lm.getD i false=true→False:=by
      intro h;obtain ⟨k,hk,hlk,hfk,hbk⟩:=hex;have hmk:=hcov i hil h k hk hlk hfk
      have:=marks_sub b hI.down l.length i _ (fun k hk=>(get_set_sub _ _ _ hk).imp_right fun h=>by
       rw [Array.getD_eq_getD_getElem?] at h;rcases Nat.lt_or_ge k l.length with hkl | hkl
       ·simp [hkl] at h
       ·simp [hkl] at h) (fun o2 ho2 e he hb=>by
        obtain rfl:o=o2:=by rw [ho'] at ho2;exact Option.some.inj ho2
        exact hal e (by simpa using he) hb) k hmk
      rcases this with h' | h'
      ·subst h';rcases h with h | h
       ·omega
       ·rw [hlk] at h;cases h
      ·rw [hbk] at h';cases h'
     refine ⟨?_,?_⟩
     ·rcases Nat.lt_or_ge i m with h | h
      ·exact h
      ·exact absurd (.inl h) key
     ·cases h:lm.getD i false with
      | false=>rfl
      | true=>exact absurd (.inr h) key
    have hne:Region.ready .any l.toArray b≠ []:=by
     have:∀k,k<m→lm.getD k false=false→b.getD k false=false→∃i,i∈Region.ready .any l.toArray b:=by
      intro k
      induction k using Nat.strongRecOn with
      | _ k ihk=>
        intro hk hlk hbk;have hkl:k<l.length:=by omega
        rcases Classical.em (∃e∈(l[k]).after.toList,Region.binds .any e=true∧b.getD e.on false=false) with h | h
        ·obtain ⟨e,he,hb,hbe⟩:=h;have:=hback k _ (List.getElem?_eq_getElem hkl) e he hb;exact ihk e.on this (by omega) (hfree k _ (List.getElem?_eq_getElem hkl) hk hlk e he hb) hbe
        ·refine ⟨k,mem_ready.2 ⟨?_,l[k],by simp [hkl],fun e he hb=>?_⟩⟩
         ·have:k<b.size:=by rw [hI.bsize];exact hkl
          rw [Array.getD_eq_getD_getElem?] at hbk ⊢;simpa [this] using hbk
         ·cases hbe:b.getD e.on false with
          | true=>rfl
          | false=>exact absurd ⟨e,by simpa using he,hb,hbe⟩ h
     obtain ⟨k,hk,hlk,_,hbk⟩:=hex;obtain ⟨i,hi⟩:=this k hk hlk hbk;intro h0;rw [h0] at hi;cases hi
    refine wpAnyH_all rfl hne ?_;intro i hi;obtain ⟨him,hil⟩:=hin i hi
    refine wpOp_mono (fun a' w' h'=>⟨trivial,ih _ a' w' h' ?_⟩) (step (R:=fun _ w w'=>Below w.heap.size w w') hm hdst hnd hsz hlen (fun _ _ _ _ _ _ h h'=>h.trans (h'.mono h.size)) (fun _ _=>Below.refl _ _) (fun _ _ f hf _ _=>hlast f (List.mem_of_getElem? hf))
     (fun k o f ho hf hl ev _ w' h1 h2 _ h4=>⟨fun hw=>((hfine k o f ho hf hl ev w' h1 h2 h4).1 hw).gen fun _ h=>h,(hfine k o f ho hf hl ev w' h1 h2 h4).2⟩) hI him hil hi)
    obtain ⟨hun,o,ho,hal⟩:=mem_ready.1 hi;have hbi:i<b.size:=by rw [hI.bsize];omega
    have hun':b.getD i false=false:=by rw [Array.getD_eq_getD_getElem?] at hun ⊢;simpa [hbi] using hun
    have e:(List.range m).countP (fun k=>!(b.setIfInBounds i true).getD k false && !lm.getD k false)=(List.range m).countP (fun k=>(!b.getD k false && !lm.getD k false) && !(k==i)):=by
     refine List.countP_congr fun k _=>?_;rw [get_set b i k hbi];by_cases h:k=i
     ·simp [h]
     ·simp [h]
    have:=count_less (fun k=>!b.getD k false && !lm.getD k false) i (by rw [hun',hil];rfl) (List.range m) (by simpa using him);rw [e];omega
theorem region_float (m:Nat) (ds:List Nat) (fs:List Fact) (lm:List Bool) (r:Nat) (fl:Option Nat) (p p0:Tree.Plan) {id:Nat} {a0:Act} {w:World} (hmo:P.follows .mixedOrders=true) (hg:goodF l m ds lm r fl=true) (hns:Region.noSelect l.toArray=true)
 (hp:Tree.fits l.toArray p r (fill l.length m lm)=true) (hp0:∀k0,fl=some k0→Tree.fits l.toArray p0 (r+1) ((fill l.length m lm).setIfInBounds k0 false)=true) (hQ:∀c a d v w,Q (.panic c) (Act.put a d v) w→Q (.panic c) a w)
 (hsz:ds.all (fun d=>decide (d<a0.tmps.size))=true) (hlen:fs.length=m) (hlast:Every fs) (hidle:Idle lm fs) (hfloat:floats m lm fl=true) (hfine:All P l fs (w.drewN 1) a0 ds lm l fs)
 (hrest:∀(g:Nat→Value) (w':World),Below w.heap.size w w'→facts g w' ds fs→Tree.Step P l.toArray Q (fun _=>True) (Tree.grow l p) (putg g ds a0) w')
 (hrest0:∀k0,fl=some k0→∀(g:Nat→Value) (w':World),Below w.heap.size w w'→facts g w' ds (fs.set k0 fun _ _=>True)→Tree.Step P l.toArray Q (fun _=>True) (Tree.grow l p0) (putg g ds a0) w'):(Code.region id l.toArray true).wp P Q a0 w:=by
 simp only [goodF,Bool.and_eq_true,List.all_eq_true,decide_eq_true_eq,List.mem_range,Bool.or_eq_true] at hg;obtain ⟨h1,h2,h3,h4,h5,h6⟩:=hg;refine wp_region_held (S:=fun _=>True) hmo ?_;have hb4:∀(k:Nat) (o:Oper),l[k]?=some o→∀e∈o.after.toList,Region.binds .any e=true→e.on<k∧(k<m→lm.getD k false=false→lm.getD e.on false=false):=by
  intro k o hk e he hb;have:=h4 k (List.getElem?_eq_some_iff.1 hk).1;rw [hk] at this;simp only [List.all_eq_true,Bool.or_eq_true,Bool.and_eq_true,Bool.not_eq_true',decide_eq_true_eq] at this;rcases this e he with h | ⟨h,h'⟩
  ·rw [hb] at h;cases h
  ·refine ⟨h,fun hk hl=>?_⟩;rcases h' with (h' | h') | h'
   ·rw [hl] at h';cases h'
   ·omega
   ·exact h'
 have hcov:∀i,i<l.length→m≤i∨lm.getD i false=true→∀k,k<m→lm.getD k false=false→fl≠some k→(marks l l.length ((Array.replicate l.length false).setIfInBounds i true)).getD k false=true:=by
  intro i hi hmi k hk hl hf;rcases h5 i hi with ⟨h,h'⟩ | h
  ·rcases hmi with hmi | hmi
   ·omega
   ·rw [hmi] at h';cases h'
  ·rcases h k hk with h | h | h
   ·rw [hl] at h;cases h
   ·exact absurd h hf
   ·exact h
 have hfl:∀k,fl=some k→k<m∧lm.getD k false=false:=by intro k hk;subst hk;simp only [floats,Bool.and_eq_true,decide_eq_true_eq,Bool.not_eq_true'] at hfloat;exact hfloat
 have hsz':∀d∈ds,d<a0.tmps.size:=by simpa using hsz
 have hI:Inv l fs (fun _ w'=>Below (w.drewN 1).heap.size (w.drewN 1) w') a0 m ds lm (Array.replicate l.length false) a0 (w.drewN 1):=by
  have hrep:∀k,(Array.replicate l.length false).getD k false=false:=fun k=>by rw [Array.getD_eq_getD_getElem?];rcases Nat.lt_or_ge k l.length with h | h<;>simp [h]
  refine ⟨Below.refl _ _,rfl,rfl,fun _ _=>rfl,fun k d f _ _ h=>?_,fun k o _ h=>?_,by simp,fun k _=>hrep k⟩
  ·rw [hrep] at h;cases h
  ·rw [hrep] at h;cases h
 have:=all_float (P:=P) (Q:=Q) (r:=r) (fl:=fl) h1 h2 h3 hsz' hlen (every_at hlast) (idle_at hidle) (fun k o f ho hf hl=>all_at hfine k o f ho hf hl) (fun k o hk e he hb=>(hb4 k o hk e he hb).1)
  (fun k o hk hkm hl e he hb=>(hb4 k o hk e he hb).2 hkm hl) hcov hfl
  (fun g w' hb hf=>Tree.held_of_walk hns hQ p _ _ _ w' hp trivial (hrest g w' ((Base.below_drewN (Below.refl w.heap.size w) 1).trans hb) hf).out)
  (fun k0 hk0 g w' hb hf=>Tree.held_of_walk hns hQ p0 _ _ _ w' (hp0 k0 hk0) trivial (hrest0 k0 hk0 g w' ((Base.below_drewN (Below.refl w.heap.size w) 1).trans hb) hf).out) l.length _ a0 (w.drewN 1) hI (by
    have:(List.range m).countP (fun k=>!(Array.replicate l.length false).getD k false && !lm.getD k false)≤(List.range m).countP (fun k=>!lm.getD k false):=
     List.countP_mono_left fun k _ hk=>by simp at hk;simpa using hk.2
    omega)
 simpa [World.drewN] using this
end
section run
variable {P:Program} {o:Oper}
theorem exec_append {ev:Operand→Value} {w w':World} {v u v':Value} (s x:Operand) (t:TypeId) (ho:o.op=.call {callee:=.builtin .append,args:=#[s,x],argTypes:=#[t,t]}) (hs:ev s=v) (hx:ev x=u)
 (hr:(Builtin.append_ #[t,t] o.type #[v,u]).run P w=.ok v' w'):(execOp ev o).run P w=.ok (.value v') w':=by
 unfold execOp;simp only [ho,resolve,invoke,builtin,Sem.run_bind,Sem.run_pure,Result.andThen_ok,List.map_toArray,List.map_cons,List.map_nil,hs,hx,hr]
theorem oper_append {a:Act} {w w':World} {K:Act→World→Prop} {Q:Exit→Act→World→Prop} {v u v':Value} (s x:Operand) (t:TypeId) (ho:o.op=.call {callee:=.builtin .append,args:=#[s,x],argTypes:=#[t,t]}) (hs:a.eval s=v) (hx:a.eval x=u)
 (hr:(Builtin.append_ #[t,t] o.type #[v,u]).run P w=.ok v' w') (h:K (a.put o.dst v') w'):o.wp P a w K Q:=by
 unfold Oper.wp;rw [exec_append s x t ho hs hx hr,Oper.upon_value];exact h
theorem oper_enter {a:Act} {w:World} {K:Act→World→Prop} {Q:Exit→Act→World→Prop} {g:FuncId} {args:Array Value} (h:(execOp a.eval o).run P w=.ok (.enter g args) w) (hc:Calls P g args w fun e w'=>∃v,e=.returned v∧K (a.put o.dst v) w'):o.wp P a w K Q:=by unfold Oper.wp;rw [h,Oper.upon_enter];refine hc.mono ?_;rintro e w' ⟨v,rfl,hk⟩;exact hk
end run
end Go.Proofs.YtimoakmcelocfaaGreat.Each
namespace Go.Proofs.YtimoakmcelocfaaGreat.Pg
open Go.RowKit Base Txt Mem Par
abbrev nil:Value:=.slice none 0 0
structure Cs (w:World) (g:Nat) (p:Nat) (b:Bd) (s:T) (q:Nat) (f bd t o:Value):Prop where
 c0:w.cell? ⟨g,0,none⟩=some (.int .i64 0)
 c1:w.cell? ⟨g,1,none⟩=some (.int .i64 (s.hl:Int))
 c2:w.cell? ⟨g,2,none⟩=some (f)
 c3:w.cell? ⟨g,3,none⟩=some (.string s.r.m)
 c4:w.cell? ⟨g,4,none⟩=some (.string s.r.x)
 c5:w.cell? ⟨g,5,none⟩=some (.int .i64 s.r.k)
 c6:w.cell? ⟨g,6,none⟩=some (.int .i64 (s.size:Int))
 c7:w.cell? ⟨g,7,none⟩=some (.bool s.cnt)
 c8:w.cell? ⟨g,8,none⟩=some (.int .i64 (s.bl:Int))
 c9:w.cell? ⟨g,9,none⟩=some (t)
 c10:w.cell? ⟨g,10,none⟩=some (.bool s.r.ch)
 c11:w.cell? ⟨g,11,none⟩=some (bd)
 c12:w.cell? ⟨g,12,none⟩=some (.int .i64 (s.left:Int))
 c13:w.cell? ⟨g,13,none⟩=some (.int .u32 (p:Int))
 c14:w.cell? ⟨g,14,none⟩=some (.int .i64 b.x0)
 c15:w.cell? ⟨g,15,none⟩=some (.int .i64 b.x1)
 c16:w.cell? ⟨g,16,none⟩=some (.int .i64 b.x2)
 c17:w.cell? ⟨g,17,none⟩=some (.int .i64 b.x3)
 c18:w.cell? ⟨g,18,none⟩=some (.int .i64 b.x4)
 c19:w.cell? ⟨g,19,none⟩=some (.int .i64 b.x5)
 c20:w.cell? ⟨g,20,none⟩=some (.int .i64 b.x6)
 c21:w.cell? ⟨g,21,none⟩=some (.int .i64 b.x7)
 c22:w.cell? ⟨g,22,none⟩=some (.bool b.ch)
 c23:w.cell? ⟨g,23,none⟩=some (.bool b.od)
 c24:w.cell? ⟨g,24,none⟩=some (.int .i64 (s.st:Int))
 c25:w.cell? ⟨g,25,none⟩=some (ptr q)
 c26:w.cell? ⟨g,26,none⟩=some (o)
abbrev deadcells (e:Nat) (o:Value):List Value:= [.int .i64 (e:Int),.int .i64 0,nil,.string E0,.string E0,.int .i64 0,.int .i64 0,.bool false,.int .i64 0,nil,.bool false,nil,.int .i64 0,.int .u32 0,.int .i64 0,.int .i64 0,.int .i64 0,.int .i64 0,.int .i64 0,.int .i64 0,.int .i64 0,.int .i64 0,.bool false,.bool false,.int .i64 0,.pointer none,o]
section code
set_option maxHeartbeats 4000000
set_option maxRecDepth 20000
attribute [local go_sem] Base.some_undef
variable {w:World} {B:Zone} {g q:Nat} {v f bd t o:Value} {p:Nat} {b:Bd} {s:T}
end code
end Go.Proofs.YtimoakmcelocfaaGreat.Pg
namespace Go.Proofs.YtimoakmcelocfaaGreat.Pg
open Go.RowKit Base Txt Mem Par
theorem Outs.less {L L':List (Option Nat)} {B:Zone} {w:World} {o:Value} {out:List Rec.R} (h:Outs L B w o out) (hs:∀k,some k∈L'→some k∈L∨w.heap.size≤k):Outs L' B w o out:=by obtain ⟨ps,h1,h2,h3⟩:=h;exact ⟨ps,h1,fun x hx=>⟨(h2 x hx).1,(h2 x hx).2.of hs⟩,h3⟩
theorem record_info:(Tryz.prog.info? 57).map (fun i=>(i.zero,i.size,i.bytes))=some (some (.agg #[.string ByteArray.empty,.string ByteArray.empty,.int .i64 0,.slice none 0 0,.bool false,.slice none 0 0,.slice none 0 0]),7,120):=by kernel_rfl
section code
set_option maxHeartbeats 4000000
set_option maxRecDepth 20000
attribute [local go_sem] Base.some_undef
variable {w:World} {B:Zone} {g q:Nat} {v f bd t o:Value} {p:Nat} {b:Bd} {s:T}
end code
end Go.Proofs.YtimoakmcelocfaaGreat.Pg
namespace Go.Proofs.YtimoakmcelocfaaGreat.Pg
open Go.RowKit Base Txt Mem Par
section code
set_option maxHeartbeats 4000000
set_option maxRecDepth 20000
attribute [local go_sem] Base.some_undef
variable {w:World} {B:Zone} {g q:Nat} {v f bd t o:Value} {p:Nat} {b:Bd} {s:T}
end code
end Go.Proofs.YtimoakmcelocfaaGreat.Pg
namespace Go.Proofs.YtimoakmcelocfaaGreat.Pg
open Go.RowKit Base Txt Mem Par
section code
set_option maxHeartbeats 4000000
set_option maxRecDepth 20000
attribute [local go_sem] Base.some_undef
variable {w:World} {B:Zone} {g q:Nat} {v f bd t o:Value} {p:Nat} {b:Bd} {s:T}
end code
end Go.Proofs.YtimoakmcelocfaaGreat.Pg
namespace Go.Proofs.YtimoakmcelocfaaGreat.Pg
open Go.RowKit Base Txt Mem Par
section
variable {w w':World} {B:Zone} {g q:Nat} {v f bd t o:Value} {p:Nat} {rd:Ln.M} {fs ts:List Fld} {body:List UInt8} {out:List Rec.R}
end
section code
set_option maxHeartbeats 4000000
set_option maxRecDepth 20000
attribute [local go_sem] Base.some_undef
variable {w:World} {B:Zone} {g q:Nat} {v f bd t o:Value} {p:Nat} {b:Bd} {s:T}
end code
end Go.Proofs.YtimoakmcelocfaaGreat.Pg
