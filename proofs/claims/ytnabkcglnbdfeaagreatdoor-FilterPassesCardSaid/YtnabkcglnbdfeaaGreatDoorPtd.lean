import Derived.Test.YtnabkcglnbdfeaaGreatDoorPtc
set_option linter.unusedSimpArgs false
open Array renaming getD_eq_getD_getElem?→Ag,replicate→Aj
open Bool renaming and_eq_true→As,not_eq_true'→A7,or_eq_true→AB
open ByteArray renaming empty→AG
open Go.Act renaming put→Ab
open Go.Lib renaming hid→BN
open Go.Proofs.Tryz renaming prog→Gq,underlying22→GI
open Go.Proofs.YtnabkcglnbdfeaaGreatDoor.Base renaming below_drewN→Ak,below_step→Al,some_undef→An
open Go.Proofs.YtnabkcglnbdfeaaGreatDoor.Each renaming Goes→AO,fine→AY,putg→Be
open Go.Proofs.YtnabkcglnbdfeaaGreatDoor.Each.Goes renaming enter→AP
open Go.Proofs.YtnabkcglnbdfeaaGreatDoor.Each.Lasts renaming eq→AT
open Go.Proofs.YtnabkcglnbdfeaaGreatDoor.Ln renaming own_slice→Dw,row_frozen→Dy
open Go.Proofs.YtnabkcglnbdfeaaGreatDoor.Mem.Keeps renaming of_below→BD,set→BF
open Go.Proofs.YtnabkcglnbdfeaaGreatDoor.Mem.Of renaming refl→DT
open Go.Proofs.YtnabkcglnbdfeaaGreatDoor.Qk renaming has_any→Ej,has→Ei
open Go.Proofs.YtnabkcglnbdfeaaGreatDoor.Rec renaming Bk→El,R→Eo,byteV→Ep,wraps→Et
open Go.Proofs.YtnabkcglnbdfeaaGreatDoor.Rec.Bk renaming new→Em
open Go.Proofs.YtnabkcglnbdfeaaGreatDoor.Tree renaming change→Fi,done→Fj,grow→Fk,put1→Fl,quiet→Fm
open Go.Region renaming binds→Eu,ready→Ew,wanted→Ex
open Go.RowKit.Below renaming refl→Ao
open Go.World renaming ownsRow_nil→Hp
open Go.World.ownsRow renaming lt→Ho
open List renaming getElem?_cons_succ→Cy,getElem?_cons_zero→Cz,getElem?_eq_getElem→C0,getElem?_toArray→C6,length_append→CG,mem_append→CS,mem_cons→CV,mem_of_getElem?→CZ,mem_singleton→Dc,not_mem_nil→De,range→Df,setIfInBounds_toArray→Di,set_cons_succ→Dk,set_cons_zero→Dl
open Nat renaming eq_zero_or_pos→D3,le_of_lt→D4,le_refl→D5,le_trans→D7,lt_of_lt_of_le→D8,lt_or_ge→D9,zero_add→DB
open Option renaming getD_some→DV,some→DX
open Go.Value renaming int→ZZ,string→ZY,slice→ZX,bool→ZW,pointer→ZV,agg→ZU,tuple→ZT
open Go.IntKind renaming i64→ZS,u8→ZR,u32→ZQ
namespace Go.Proofs.YtnabkcglnbdfeaaGreatDoor.Par
open Go.RowKit Base Txt Mem
theorem row_cellL {w:World} {g k:Nat} {l:List Value} {ty:TypeId} (h:w.heap[g]?=some (.cells l.toArray ty (0,0))) {v:Value} (hk:l[k]?=some v):w.cell? ⟨g,k,none⟩=some v:=Ln.row_cell h (by rw [C6];exact hk)
theorem row_setL {w:World} {g:Nat} {l:List Value} {ty:TypeId} (h:w.heap[g]?=some (.cells l.toArray ty (0,0))) (k:Nat) (v:Value):(w.setCell ⟨g,k,none⟩ v).heap[g]?=some (.cells (l.set k v).toArray ty (0,0)):=by rw [←Di];exact Ln.row_set h k v
abbrev ptr (g:Nat):Value:=ZV (some ⟨g,0,none⟩)
abbrev pcells (p:Nat) (b:Bd) (s:S) (q:Nat) (f bd t o:Value):List Value:=
 [ZZ ZQ (p:Int),ZZ ZS b.x0,ZZ ZS b.x1,ZZ ZS b.x2,ZZ ZS b.x3,ZZ ZS b.x4,ZZ ZS b.x5,ZZ ZS b.x6,ZZ ZS b.x7,ZW b.ch,ZW b.od,ZZ ZS (s.st:Int),ptr q,
   ZY s.r.m,ZY s.r.x,ZZ ZS s.r.k,f,ZW s.r.ch,bd,t,ZZ ZS (s.lines:Int),ZZ ZS (s.head:Int),ZZ ZS (s.left:Int),ZW s.fresh,ZW s.clean,ZZ ZS (s.e:Int),o]
abbrev blks (g q:Nat) (v f bd t o:Value):List (Option Nat):= [some g,some q,v.ownBlock,f.ownBlock,bd.ownBlock,t.ownBlock,o.ownBlock]
def Outs (L:List (Option Nat)) (B:Zone) (w:World) (o:Value) (out:List Eo):Prop:=
 ∃ps:List (Array Value × Eo),ps.map (·.2)=out/\(∀x∈ps,x.1.size=7/\Far L B.z w (ZU x.1) x.2)/\w.ownsRow B 58 7 o out.length (ps.flatMap (·.1.toList))
structure Own (w:World) (B:Zone) (g q:Nat) (v f bd t o:Value) (p:Nat) (rd:Ln.R) (fs:List Fld) (body:List UInt8) (ts:List Fld) (out:List Eo):Prop where
 R:Ln.Rr w B q v p rd
 F:w.ownsRow B 126 2 f fs.length (cells fs)
 D:w.ownsRow B 5 1 bd body.length (Rec.vals body)
 T:w.ownsRow B 126 2 t ts.length (cells ts)
 O:Outs (blks g q v f bd t o) B w o out
 lone:Lone (blks g q v f bd t o)
 ge:B<=g
 lt:g<w.heap.size
 zone:Clear w B.z (blks g q v f bd t o)
structure PR (w:World) (B:Zone) (g q:Nat) (v f bd t o:Value) (p:Nat) (b:Bd) (s:S):Prop where
 row:w.heap[g]?=some (.cells (pcells p b s q f bd t o).toArray 60 (0,0))
 own:Own w B g q v f bd t o p s.rd s.r.fs s.r.body s.r.ts s.out
section
variable {w w':World} {B:Zone} {g q:Nat} {v f bd t o:Value} {p:Nat} {b:Bd} {s:S} {rd:Ln.R} {fs ts:List Fld} {body:List UInt8} {out:List Eo} {L:List (Option Nat)}
theorem Outs.keeps (h:Outs L B w o out) {L2:List (Option Nat)} (hk:Keeps L2 w w') (hs:∀k,some k∈L2->some k∈L) (ho:∀k,o.ownBlock=some k->some k∉L2):Outs L B w' o out:=by obtain ⟨ps,h1,h2,h3⟩:=h;exact ⟨ps,h1,λx hx=>⟨(h2 x hx).1,(h2 x hx).2.keeps (hk.mono hs)⟩,hk.own h3 ho⟩
theorem Own.in (h:Own w B g q v f bd t o p rd fs body ts out):In w (blks g q v f bd t o):=by
 intro k hk;simp only [CV,De,or_false,DX.injEq] at hk;obtain ⟨ps,h1,h2,h3⟩:=h.O;rcases hk with rfl | rfl | hk | hk | hk | hk | hk
 ·exact h.lt
 ·exact Ln.row_lt h.R.row
 ·exact (Ho h.R.own k hk.symm).2
 ·exact (Ho h.F k hk.symm).2
 ·exact (Ho h.D k hk.symm).2
 ·exact (Ho h.T k hk.symm).2
 ·exact (Ho h3 k hk.symm).2
theorem Own.low (h:Own w B g q v f bd t o p rd fs body ts out):∀k,some k∈blks g q v f bd t o->B<=k:=by
 intro k hk;simp only [CV,De,or_false,DX.injEq] at hk;obtain ⟨ps,h1,h2,h3⟩:=h.O;rcases hk with rfl | rfl | hk | hk | hk | hk | hk
 ·exact h.ge
 ·exact h.R.ge
 ·exact (Ho h.R.own k hk.symm).1
 ·exact (Ho h.F k hk.symm).1
 ·exact (Ho h.D k hk.symm).1
 ·exact (Ho h.T k hk.symm).1
 ·exact (Ho h3 k hk.symm).1
theorem Own.set (h:Own w B g q v f bd t o p rd fs body ts out) (k:Nat) (u:Value):Own (w.setCell ⟨g,k,none⟩ u) B g q v f bd t o p rd fs body ts out:=by
 have hk:Keeps [some g] w (w.setCell ⟨g,k,none⟩ u):=BF g k u (by simp);have hn:∀i j,i≠0->(blks g q v f bd t o)[i]?=some (some j)->some j∉ [some g]:=λi j hi hj hm=>by
  have e:j=g:=by simpa using hm
  rw [e] at hj
  exact hi (h.lone i 0 g hj rfl)
 exact ⟨⟨hk.row h.R.row (hn 1 q (by decide) rfl),hk.own h.R.own λj e=>hn 2 j (by decide) (by rw [←e];rfl),h.R.ge,h.R.ne⟩,
  hk.own h.F λj e=>hn 3 j (by decide) (by rw [←e];rfl),hk.own h.D λj e=>hn 4 j (by decide) (by rw [←e];rfl),hk.own h.T λj e=>hn 5 j (by decide) (by rw [←e];rfl),
  h.O.keeps hk (λj hj=>by obtain rfl:j=g:=by simpa using hj
                          simp) λj e=>hn 6 j (by decide) (by rw [←e];rfl),
  h.lone,h.ge,by simpa using h.lt,h.zone.of hk.size DT⟩
theorem Own.below (h:Own w B g q v f bd t o p rd fs body ts out) (hb:Below w.heap.size w w'):Own w' B g q v f bd t o p rd fs body ts out:=by have hk:Keeps [] w w':=BD hb;refine ⟨⟨hk.row h.R.row (by simp),hk.own h.R.own (by simp),h.R.ge,h.R.ne⟩,hk.own h.F (by simp),hk.own h.D (by simp),hk.own h.T (by simp),h.O.keeps hk (by simp) (by simp),h.lone,h.ge,D8 h.lt hb.size,h.zone.of hb.size DT⟩
theorem PR.below (h:PR w B g q v f bd t o p b s) (hb:Below w.heap.size w w'):PR w' B g q v f bd t o p b s:=
 ⟨(hb.block g h.own.lt).trans h.row,h.own.below hb⟩
theorem PR.drew (h:PR w B g q v f bd t o p b s) (n:Nat):PR (w.drewN n) B g q v f bd t o p b s:=h.below (Ak (Ao _ _) n)
theorem PR.put (h:PR w B g q v f bd t o p b s) (k:Nat) (u:Value) (s':S) (hc:(pcells p b s q f bd t o).set k u=pcells p b s' q f bd t o) (hd:s'.rd=s.rd) (h1:s'.r.fs=s.r.fs) (h2:s'.r.body=s.r.body) (h3:s'.r.ts=s.r.ts) (h4:s'.out=s.out) :
 PR (w.setCell ⟨g,k,none⟩ u) B g q v f bd t o p b s':=by
 refine ⟨?_,?_⟩
 ·rw [←hc,←Di];exact Ln.row_set h.row k u
 ·rw [hd,h1,h2,h3,h4];exact h.own.set k u
theorem _root_.Go.Proofs.YtnabkcglnbdfeaaGreatDoor.XXVVx {P:Prop} (h:P:=by
 have hsub:∀k,some k∈blks g q v (ZX none 0 0) (ZX none 0 0) (ZX none 0 0) o->some k∈blks g q v f bd t o:=by
  intro k hk;simp only [CV,De,or_false,Value.ownBlock,reduceCtorEq,false_or] at hk ⊢;rcases hk with hk | hk | hk | hk
  ·exact .inl hk
  ·exact .inr (.inl hk)
  ·exact .inr (.inr (.inl hk))
  ·exact .inr (.inr (.inr (.inr (.inr (.inr hk)))))
 obtain ⟨ps,h1,h2,h3⟩:=h.O;refine ⟨h.R,Hp _ _ _ _,Hp _ _ _ _,Hp _ _ _ _,⟨ps,h1,λx hx=>⟨(h2 x hx).1,(h2 x hx).2.of λk hk=>.inl (hsub k hk)⟩,h3⟩,?_,h.ge,h.lt,h.zone.of (D5 _) λk hk=>.inl (hsub k hk)⟩;have e:blks g q v (ZX none 0 0) (ZX none 0 0) (ZX none 0 0) o=(((blks g q v f bd t o).set 3 none).set 4 none).set 5 none:=rfl;rw [e]
 exact ((h.lone.set h.in 3 none (.inl rfl)).set (λk hk=>h.in k (by
  rcases List.mem_or_eq_of_mem_set hk with hk | hk
  ·exact hk
  ·cases hk)) 4 none (.inl rfl)).set (λk hk=>h.in k (by
  rcases List.mem_or_eq_of_mem_set hk with hk | hk
  ·rcases List.mem_or_eq_of_mem_set hk with hk | hk
   ·exact hk
   ·cases hk
  ·cases hk)) 5 none (.inl rfl)):P:=h
theorem Own.zero (h:Own w B g q v f bd t o p rd fs body ts out):Own w B g q v (ZX none 0 0) (ZX none 0 0) (ZX none 0 0) o p rd [] [] [] out:=by exact XXVVx
theorem _root_.Go.Proofs.YtnabkcglnbdfeaaGreatDoor.XXCuB {P:Prop} (h:P:=by
 rw [e];intro i j k hi hj
 have hL:=h.lone.set h.in 1 (some q1) (.inr (.inr ⟨q1,rfl,hq⟩));have hi':((blks g q v f bd t o).set 1 (some q1))[i]?=some (some k):=by
  by_cases e2:2=i
  ·subst e2;simp at hi
  ·rwa [List.getElem?_set_ne e2] at hi
 have hj':((blks g q v f bd t o).set 1 (some q1))[j]?=some (some k):=by
  by_cases e2:2=j
  ·subst e2;simp at hj
  ·rwa [List.getElem?_set_ne e2] at hj
 exact hL i j k hi' hj'):P:=h
theorem Own.line (h:Own w B g q v f bd t o p rd fs body ts out) (hb:Below w.heap.size w w') {q1:Nat} {rd1:Ln.R} (hr:Ln.Rr w' B q1 (ZX none 0 0) p rd1) (hq:w.heap.size<=q1):Own w' B g q1 (ZX none 0 0) f bd t o p rd1 fs body ts out:=by
 have e:blks g q1 (ZX none 0 0) f bd t o=((blks g q v f bd t o).set 1 (some q1)).set 2 none:=rfl;have hof:Of w (blks g q v f bd t o) (blks g q1 (ZX none 0 0) f bd t o):=by
  rw [e]
  exact (Of.set 1 (some q1) (.inr (.inr ⟨q1,rfl,hq⟩))).trans (Of.set 2 none (.inl rfl)) (D5 _)
 have hw:=h.below hb;obtain ⟨ps,h1,h2,h3⟩:=h.O;have hk:Keeps (blks g q1 (ZX none 0 0) f bd t o) w w':=BD hb;refine ⟨hr,hw.F,hw.D,hw.T,⟨ps,h1,λx hx=>⟨(h2 x hx).1,((h2 x hx).2.of hof).keeps hk⟩,by obtain ⟨ps',h1',h2',h3'⟩:=hw.O;exact (BD hb:Keeps [] w w').own h3 (by simp)⟩,?_,h.ge,hw.lt,h.zone.of hb.size hof⟩;exact XXCuB
theorem PR.line (h:PR w B g q v f bd t o p b s) (hb:Below w.heap.size w w') {q1:Nat} {rd1:Ln.R} (hr:Ln.Rr w' B q1 (ZX none 0 0) p rd1) (hq:w.heap.size<=q1):PR (w'.setCell ⟨g,12,none⟩ (ptr q1)) B g q1 (ZX none 0 0) f bd t o p b {s with rd:=rd1}:=
 ⟨row_setL ((hb.block g h.own.lt).trans h.row) 12 (ptr q1),(h.own.line hb hr hq).set 12 (ptr q1)⟩
theorem slot_own {w:World} {B:Zone} {e:TypeId} {size:Nat} {v:Value} {n:Nat} {xs:List Value} (h:w.ownsRow B e size v n xs):slot v=v.ownBlock:=by rcases h.2 with ⟨rfl,_⟩ | ⟨g,cap,cur,rfl,_⟩<;>rfl
theorem _root_.Go.Proofs.YtnabkcglnbdfeaaGreatDoor.XXJML {P:Prop} (h:P:=by
 simp only [CV,De,or_false,reduceCtorEq,false_or] at hb;have key:∀i,i≠0->i≠1->i≠2->i≠6->(blks g q v f bd t o)[i]?=some (some k)->some k∉blks g q v (ZX none 0 0) (ZX none 0 0) (ZX none 0 0) o'/\k<w'.heap.size:=by
  intro i i0 i1 i2 i6 hi
  have hlt:=hin k (CZ hi);refine ⟨λhm=>?_,D8 hlt hk.size⟩;rcases hsub k hm with (e | e | e | e) | e
  ·exact i0 (h.lone i 0 k hi (by rw [e];rfl))
  ·exact i1 (h.lone i 1 k hi (by rw [e];rfl))
  ·exact i2 (h.lone i 2 k hi (by rw [e];rfl))
  ·exact i6 (h.lone i 6 k hi (by rw [e];rfl))
  ·omega
 rcases hb with hb | hb | hb
 ·exact key 3 (by decide) (by decide) (by decide) (by decide) (by rw [hb,e1];rfl)
 ·exact key 4 (by decide) (by decide) (by decide) (by decide) (by rw [hb,e2];rfl)
 ·exact key 5 (by decide) (by decide) (by decide) (by decide) (by rw [hb,e3];rfl)):P:=h
theorem _root_.Go.Proofs.YtnabkcglnbdfeaaGreatDoor.XXlw6 {P:Prop} (h:P:=by
 intro k hk
 replace hk:some k∈ [some g,some q,v.ownBlock,none,none,none,o'.ownBlock]:=hk
 simp only [CV,De,or_false,reduceCtorEq,false_or] at hk;rcases hk with hk | hk | hk | hk
 ·exact .inl (.inl hk)
 ·exact .inl (.inr (.inl hk))
 ·exact .inl (.inr (.inr (.inl hk)))
 ·rcases hor with e | e
  ·exact .inl (.inr (.inr (.inr (by rw [←e];exact hk))))
  ·rw [e] at hk;cases hk;exact .inr (D5 _)):P:=h
theorem _root_.Go.Proofs.YtnabkcglnbdfeaaGreatDoor.XXyOi {P:Prop} (h:P:=by
 have hz:=h.zero;have e:blks g q v (ZX none 0 0) (ZX none 0 0) (ZX none 0 0) o'=(blks g q v (ZX none 0 0) (ZX none 0 0) (ZX none 0 0) o).set 6 o'.ownBlock:=rfl;rw [e];refine hz.lone.set hz.in 6 _ ?_;rcases hor with e | e
 ·exact .inr (.inl (by rw [e];rfl))
 ·exact .inr (.inr ⟨_,e,D5 _⟩)):P:=h
theorem _root_.Go.Proofs.YtnabkcglnbdfeaaGreatDoor.XXNov {P:Prop} (h:P:=by
 simp only [CV,De,or_false,reduceCtorEq,false_or] at hb;rcases hb with hb | hb | hb
 ·exact h.zone.off k (CZ (i:=3) (by rw [hb,e1];rfl))
 ·exact h.zone.off k (CZ (i:=4) (by rw [hb,e2];rfl))
 ·exact h.zone.off k (CZ (i:=5) (by rw [hb,e3];rfl))):P:=h
theorem _root_.Go.Proofs.YtnabkcglnbdfeaaGreatDoor.XXq2s {P:Prop} (h:P:=by
 exact ⟨(hfar x hx).1,by
  have h2:=((hfar x hx).2.keeps hkL2)
  exact ⟨h2.reads,λk hb=>⟨λhm=>by
   rcases hof k hm with e | e
   ·exact (h2.far k hb).1 e
   ·exact absurd ((hfar x hx).2.far k hb).2 (by omega),(h2.far k hb).2⟩,h2.off⟩⟩):P:=h
theorem _root_.Go.Proofs.YtnabkcglnbdfeaaGreatDoor.XXHi0 {P:Prop} (h:P:=by
 obtain ⟨A1,c1,e1,h1⟩:=Flds.of_own F';obtain ⟨A2,c2,e2,h2⟩:=Rec.nums_of_own D';obtain ⟨A3,c3,e3,h3⟩:=Flds.of_own T';subst e1 e2 e3
 exact ⟨_,_,_,_,_,_,rfl,h1,h2,h3⟩):P:=h
theorem _root_.Go.Proofs.YtnabkcglnbdfeaaGreatDoor.XXZgq {P:Prop} (h:P:=by
 rcases hsub k hk with (e | e | e | e) | e
 ·exact .inl (by simp [e])
 ·exact .inl (by simp [e])
 ·exact .inl (by simp [e])
 ·exact .inl (by simp [e])
 ·exact .inr e):P:=h
theorem Own.push {r:Eo} (h:Own w B g q v f bd t o p rd r.fs r.body r.ts out) (hg:w.grownBy w' o.ownBlock) {o':Value} (ps:List (Array Value × Eo)) (hps:ps.map (·.2)=out) (hfar:∀x∈ps,x.1.size=7/\Far (blks g q v f bd t o) B.z w (ZU x.1) x.2)
 (ho:w'.ownsRow B 58 7 o' (out.length+1) (ps.flatMap (·.1.toList) ++ [ZY r.m,ZY r.x,ZZ ZS r.k,f,ZW r.ch,bd,t])) (hor:o'.ownBlock=o.ownBlock∨o'.ownBlock=some w.heap.size) :
 Own w' B g q v (ZX none 0 0) (ZX none 0 0) (ZX none 0 0) o' p rd [] [] [] (out ++ [r]):=by
 have hk:Keeps [o.ownBlock] w w':=Keeps.grown hg λk e=>by simp [e]
 have hn:∀i j,i≠6->(blks g q v f bd t o)[i]?=some (some j)->some j∉ [o.ownBlock]:=λi j hi hj hm=>by
  have e:some j=o.ownBlock:=by simpa using hm
  exact hi (h.lone i 6 j hj (by rw [e];rfl))
 have hin:=h.in
 have F':=hk.own h.F λj e=>hn 3 j (by decide) (by rw [←e];rfl)
 have D':=hk.own h.D λj e=>hn 4 j (by decide) (by rw [←e];rfl)
 have T':=hk.own h.T λj e=>hn 5 j (by decide) (by rw [←e];rfl);have hsub:∀k,some k∈blks g q v (ZX none 0 0) (ZX none 0 0) (ZX none 0 0) o'->(some k=some g∨some k=some q∨some k=v.ownBlock∨some k=o.ownBlock)∨w.heap.size<=k:=by exact XXlw6
 have hof:∀k,some k∈blks g q v (ZX none 0 0) (ZX none 0 0) (ZX none 0 0) o'->some k∈blks g q v f bd t o∨w.heap.size<=k:=λk hk=>by exact XXZgq
 have hkL2:Keeps (blks g q v f bd t o) w w':=hk.mono λk hk=>by
  have e:some k=o.ownBlock:=by simpa using hk
  simp [e]
 refine ⟨⟨hk.row h.R.row (hn 1 q (by decide) rfl),hk.own h.R.own λj e=>hn 2 j (by decide) (by rw [←e];rfl),h.R.ge,h.R.ne⟩,Hp _ _ _ _,Hp _ _ _ _,Hp _ _ _ _,
  ⟨ps ++ [(#[ZY r.m,ZY r.x,ZZ ZS r.k,f,ZW r.ch,bd,t],r)],by rw [List.map_append,hps];rfl,λx hx=>?_,by rw [CG,List.flatMap_append];simpa using ho⟩,?_,h.ge,D8 h.lt hk.size,h.zone.of hk.size hof⟩
 ·rcases CS.1 hx with hx | hx
  ·exact XXq2s
  ·obtain rfl:x= _:=by simpa using hx
   refine ⟨rfl,?_,λk hb=>?_,λk hb=>?_⟩
   ·exact XXHi0
   ·have e1:=slot_own h.F;have e2:=slot_own h.D;have e3:=slot_own h.T
    replace hb:some k∈ [none,none,none,slot f,none,slot bd,slot t]:=hb
    exact XXJML
   ·have e1:=slot_own h.F;have e2:=slot_own h.D;have e3:=slot_own h.T
    replace hb:some k∈ [none,none,none,slot f,none,slot bd,slot t]:=hb
    exact XXNov
 ·exact XXyOi
structure Step (L L':List (Option Nat)) (w w':World):Prop where
 keeps:Keeps L w w'
 of:Of w L L'
theorem Step.refl:Step L L w w:=⟨Keeps.refl,DT⟩
theorem Step.trans {L' L'':List (Option Nat)} {w'':World} (h:Step L L' w w') (h':Step L' L'' w' w''):Step L L'' w w'':=⟨h.keeps.trans h'.keeps h.of,h.of.trans h'.of h.keeps.size⟩
theorem Step.set (g k:Nat) (u:Value) (hg:some g∈L):Step L L w (w.setCell ⟨g,k,none⟩ u):=⟨BF g k u hg,DT⟩
theorem Step.of_below (hb:Below w.heap.size w w'):Step L L w w':=⟨BD hb,DT⟩
theorem Step.zero:Step (blks g q v f bd t o) (blks g q v (ZX none 0 0) (ZX none 0 0) (ZX none 0 0) o) w w:=⟨Keeps.refl,λk hk=>by
 simp only [CV,De,or_false,Value.ownBlock,reduceCtorEq,false_or] at hk ⊢;rcases hk with hk | hk | hk | hk
 ·exact .inl (.inl hk)
 ·exact .inl (.inr (.inl hk))
 ·exact .inl (.inr (.inr (.inl hk)))
 ·exact .inl (.inr (.inr (.inr (.inr (.inr (.inr hk))))))⟩
theorem Step.line (hb:Below w.heap.size w w') {q1:Nat} (hq:w.heap.size<=q1):Step (blks g q v f bd t o) (blks g q1 (ZX none 0 0) f bd t o) w w':=⟨BD hb,by
 have e:blks g q1 (ZX none 0 0) f bd t o=((blks g q v f bd t o).set 1 (some q1)).set 2 none:=rfl;rw [e]
 exact (Of.set 1 (some q1) (.inr (.inr ⟨q1,rfl,hq⟩))).trans (Of.set 2 none (.inl rfl)) (D5 _)⟩
theorem Step.push {o':Value} (hg:w.grownBy w' o.ownBlock) (hor:o'.ownBlock=o.ownBlock∨o'.ownBlock=some w.heap.size):Step (blks g q v f bd t o) (blks g q v (ZX none 0 0) (ZX none 0 0) (ZX none 0 0) o') w w':=⟨Keeps.grown hg λk e=>by simp [e],λk hk=>by
 replace hk:some k∈ [some g,some q,v.ownBlock,none,none,none,o'.ownBlock]:=hk
 simp only [CV,De,or_false,reduceCtorEq,false_or] at hk;rcases hk with hk | hk | hk | hk
 ·exact .inl (by simp [hk])
 ·exact .inl (by simp [hk])
 ·exact .inl (by simp [hk])
 ·rcases hor with e | e
  ·rw [e] at hk;exact .inl (by simp [hk])
  ·rw [e] at hk;cases hk;exact .inr (D5 _)⟩
theorem one_own {e:TypeId} {size:Nat} {u:Value} {n:Nat} {xs:List Value} (h:w.ownsRow B e size u n xs):u.oneCell'=true:=by rcases h.2 with ⟨rfl,_⟩ | ⟨g,cap,cur,rfl,_⟩<;>rfl
theorem _root_.Go.Proofs.YtnabkcglnbdfeaaGreatDoor.XXNT9 {P:Prop} (h:P:=by
 rcases hor with e | e
 ·exact .inr (.inl (by rw [e];rfl))
 ·exact .inr (.inr e)):P:=h
theorem Own.setF (h:Own w B g q v f bd t o p rd fs body ts out) {f':Value} {fs':List Fld} (hk:Keeps [f.ownBlock] w w') (hr:w'.ownsRow B 126 2 f' fs'.length (cells fs')) (hor:f'.ownBlock=f.ownBlock∨∃k,f'.ownBlock=some k/\w.heap.size<=k) :
 Own w' B g q v f' bd t o p rd fs' body ts out/\Step (blks g q v f bd t o) (blks g q v f' bd t o) w w':=by
 have hn:∀i j,i≠3->(blks g q v f bd t o)[i]?=some (some j)->some j∉ [f.ownBlock]:=λi j hi hj hm=>by
  have e:some j=f.ownBlock:=by simpa using hm
  exact hi (h.lone i 3 j hj (by rw [e];rfl))
 have e:blks g q v f' bd t o=(blks g q v f bd t o).set 3 f'.ownBlock:=rfl;have ho:f'.ownBlock=none∨(blks g q v f bd t o)[3]?=some f'.ownBlock∨∃k,f'.ownBlock=some k/\w.heap.size<=k:=by exact XXNT9
 have hof:Of w (blks g q v f bd t o) (blks g q v f' bd t o):=by rw [e];exact Of.set 3 _ ho
 have hkL:Keeps (blks g q v f bd t o) w w':=hk.mono λk hk=>by
  have e:some k=f.ownBlock:=by simpa using hk
  simp [e]
 obtain ⟨ps,h1,h2,h3⟩:=h.O
 refine ⟨⟨⟨hk.row h.R.row (hn 1 q (by decide) rfl),hk.own h.R.own λj e=>hn 2 j (by decide) (by rw [←e];rfl),h.R.ge,h.R.ne⟩,hr,hk.own h.D λj e=>hn 4 j (by decide) (by rw [←e];rfl),hk.own h.T λj e=>hn 5 j (by decide) (by rw [←e];rfl),
  ⟨ps,h1,λx hx=>⟨(h2 x hx).1,by
    have hx2:=(h2 x hx).2.keeps hkL
    exact ⟨hx2.reads,λk hb=>⟨λhm=>by
     rcases hof k hm with e | e
     ·exact (hx2.far k hb).1 e
     ·exact absurd ((h2 x hx).2.far k hb).2 (by omega),(hx2.far k hb).2⟩,hx2.off⟩⟩,hk.own h3 λj e=>hn 6 j (by decide) (by rw [←e];rfl)⟩,?_,h.ge,D8 h.lt hk.size,h.zone.of hk.size hof⟩,hkL,hof⟩
 rw [e];exact h.lone.set h.in 3 _ ho
theorem Own.setD (h:Own w B g q v f bd t o p rd fs body ts out) {bd':Value} {body':List UInt8} (hk:Keeps [bd.ownBlock] w w') (hr:w'.ownsRow B 5 1 bd' body'.length (Rec.vals body')) (hor:bd'.ownBlock=bd.ownBlock∨∃k,bd'.ownBlock=some k/\w.heap.size<=k) :
 Own w' B g q v f bd' t o p rd fs body' ts out/\Step (blks g q v f bd t o) (blks g q v f bd' t o) w w':=by
 have hn:∀i j,i≠4->(blks g q v f bd t o)[i]?=some (some j)->some j∉ [bd.ownBlock]:=λi j hi hj hm=>by
  have e:some j=bd.ownBlock:=by simpa using hm
  exact hi (h.lone i 4 j hj (by rw [e];rfl))
 have e:blks g q v f bd' t o=(blks g q v f bd t o).set 4 bd'.ownBlock:=rfl;have ho:bd'.ownBlock=none∨(blks g q v f bd t o)[4]?=some bd'.ownBlock∨∃k,bd'.ownBlock=some k/\w.heap.size<=k:=by exact XXNT9
 have hof:Of w (blks g q v f bd t o) (blks g q v f bd' t o):=by rw [e];exact Of.set 4 _ ho
 have hkL:Keeps (blks g q v f bd t o) w w':=hk.mono λk hk=>by
  have e:some k=bd.ownBlock:=by simpa using hk
  simp [e]
 obtain ⟨ps,h1,h2,h3⟩:=h.O
 refine ⟨⟨⟨hk.row h.R.row (hn 1 q (by decide) rfl),hk.own h.R.own λj e=>hn 2 j (by decide) (by rw [←e];rfl),h.R.ge,h.R.ne⟩,hk.own h.F λj e=>hn 3 j (by decide) (by rw [←e];rfl),hr,hk.own h.T λj e=>hn 5 j (by decide) (by rw [←e];rfl),
  ⟨ps,h1,λx hx=>⟨(h2 x hx).1,by
    have hx2:=(h2 x hx).2.keeps hkL
    exact ⟨hx2.reads,λk hb=>⟨λhm=>by
     rcases hof k hm with e | e
     ·exact (hx2.far k hb).1 e
     ·exact absurd ((h2 x hx).2.far k hb).2 (by omega),(hx2.far k hb).2⟩,hx2.off⟩⟩,hk.own h3 λj e=>hn 6 j (by decide) (by rw [←e];rfl)⟩,?_,h.ge,D8 h.lt hk.size,h.zone.of hk.size hof⟩,hkL,hof⟩
 rw [e];exact h.lone.set h.in 4 _ ho
theorem Own.setT (h:Own w B g q v f bd t o p rd fs body ts out) {t':Value} {ts':List Fld} (hk:Keeps [t.ownBlock] w w') (hr:w'.ownsRow B 126 2 t' ts'.length (cells ts')) (hor:t'.ownBlock=t.ownBlock∨∃k,t'.ownBlock=some k/\w.heap.size<=k) :
 Own w' B g q v f bd t' o p rd fs body ts' out/\Step (blks g q v f bd t o) (blks g q v f bd t' o) w w':=by
 have hn:∀i j,i≠5->(blks g q v f bd t o)[i]?=some (some j)->some j∉ [t.ownBlock]:=λi j hi hj hm=>by
  have e:some j=t.ownBlock:=by simpa using hm
  exact hi (h.lone i 5 j hj (by rw [e];rfl))
 have e:blks g q v f bd t' o=(blks g q v f bd t o).set 5 t'.ownBlock:=rfl;have ho:t'.ownBlock=none∨(blks g q v f bd t o)[5]?=some t'.ownBlock∨∃k,t'.ownBlock=some k/\w.heap.size<=k:=by exact XXNT9
 have hof:Of w (blks g q v f bd t o) (blks g q v f bd t' o):=by rw [e];exact Of.set 5 _ ho
 have hkL:Keeps (blks g q v f bd t o) w w':=hk.mono λk hk=>by
  have e:some k=t.ownBlock:=by simpa using hk
  simp [e]
 obtain ⟨ps,h1,h2,h3⟩:=h.O
 refine ⟨⟨⟨hk.row h.R.row (hn 1 q (by decide) rfl),hk.own h.R.own λj e=>hn 2 j (by decide) (by rw [←e];rfl),h.R.ge,h.R.ne⟩,hk.own h.F λj e=>hn 3 j (by decide) (by rw [←e];rfl),hk.own h.D λj e=>hn 4 j (by decide) (by rw [←e];rfl),hr,
  ⟨ps,h1,λx hx=>⟨(h2 x hx).1,by
    have hx2:=(h2 x hx).2.keeps hkL
    exact ⟨hx2.reads,λk hb=>⟨λhm=>by
     rcases hof k hm with e | e
     ·exact (hx2.far k hb).1 e
     ·exact absurd ((h2 x hx).2.far k hb).2 (by omega),(hx2.far k hb).2⟩,hx2.off⟩⟩,hk.own h3 λj e=>hn 6 j (by decide) (by rw [←e];rfl)⟩,?_,h.ge,D8 h.lt hk.size,h.zone.of hk.size hof⟩,hkL,hof⟩
 rw [e];exact h.lone.set h.in 5 _ ho
theorem PR.bk (h:PR w B g q v f bd t o p b s):El w g (pcells p b s q f bd t o):=⟨λ_ _ hu=>row_cellL h.row hu,λk _=>Dy h.row k,h.own.lt⟩
theorem rr_below {q1:Nat} {rd1:Ln.R} (h:Ln.Rr w B q1 v p rd1) (hb:Below w.heap.size w w'):Ln.Rr w' B q1 v p rd1:=by have hk:Keeps [] w w':=BD hb;exact ⟨hk.row h.row (by simp),hk.own h.own (by simp),h.ge,h.ne⟩
def Par (w:World) (B:Zone) (g:Nat) (p:Nat) (b:Bd) (s:S) (L:List (Option Nat)):Prop:=∃q v f bd t o,L=blks g q v f bd t o/\PR w B g q v f bd t o p b s
end
end Go.Proofs.YtnabkcglnbdfeaaGreatDoor.Par
namespace Go.Proofs.YtnabkcglnbdfeaaGreatDoor.Pg
open Go.RowKit Base Txt Mem Par
abbrev pgcells (p:Nat) (b:Bd) (s:T) (q:Nat) (f bd t o:Value):List Value:=
 [ZZ ZS 0,ZZ ZS (s.hl:Int),f,ZY s.r.m,ZY s.r.x,ZZ ZS s.r.k,ZZ ZS (s.size:Int),ZW s.cnt,ZZ ZS (s.bl:Int),t,ZW s.r.ch,bd,ZZ ZS (s.left:Int),
   ZZ ZQ (p:Int),ZZ ZS b.x0,ZZ ZS b.x1,ZZ ZS b.x2,ZZ ZS b.x3,ZZ ZS b.x4,ZZ ZS b.x5,ZZ ZS b.x6,ZZ ZS b.x7,ZW b.ch,ZW b.od,ZZ ZS (s.st:Int),ptr q,o]
structure Own (w:World) (B:Zone) (g q:Nat) (v f bd t o:Value) (rd:Ln.M) (fs:List Fld) (body:List UInt8) (ts:List Fld) (out:List Eo):Prop where
 R:Ln.Rd w B q v rd
 F:w.ownsRow B 126 2 f fs.length (cells fs)
 D:w.ownsRow B 5 1 bd body.length (Rec.vals body)
 TR:w.ownsRow B 126 2 t ts.length (cells ts)
 O:Outs (blks g q v f bd t o) B w o out
 lone:Lone (blks g q v f bd t o)
 ge:B<=g
 lt:g<w.heap.size
 zone:Clear w B.z (blks g q v f bd t o)
structure PR (w:World) (B:Zone) (g q:Nat) (v f bd t o:Value) (p:Nat) (b:Bd) (s:T):Prop where
 row:w.heap[g]?=some (.cells (pgcells p b s q f bd t o).toArray 55 (0,0))
 own:Own w B g q v f bd t o s.rd s.r.fs s.r.body s.r.ts s.out
section
variable {w w':World} {B:Zone} {g q:Nat} {v f bd t o:Value} {p:Nat} {b:Bd} {s:T} {rd:Ln.M} {fs ts:List Fld} {body:List UInt8} {out:List Eo} {L:List (Option Nat)}
theorem Own.in (h:Own w B g q v f bd t o rd fs body ts out):In w (blks g q v f bd t o):=by
 intro k hk;simp only [CV,De,or_false,DX.injEq] at hk;obtain ⟨ps,h1,h2,h3⟩:=h.O;rcases hk with rfl | rfl | hk | hk | hk | hk | hk
 ·exact h.lt
 ·exact Ln.row_lt h.R.row
 ·exact (Ho h.R.own k hk.symm).2
 ·exact (Ho h.F k hk.symm).2
 ·exact (Ho h.D k hk.symm).2
 ·exact (Ho h.TR k hk.symm).2
 ·exact (Ho h3 k hk.symm).2
theorem Own.low (h:Own w B g q v f bd t o rd fs body ts out):∀k,some k∈blks g q v f bd t o->B<=k:=by
 intro k hk;simp only [CV,De,or_false,DX.injEq] at hk;obtain ⟨ps,h1,h2,h3⟩:=h.O;rcases hk with rfl | rfl | hk | hk | hk | hk | hk
 ·exact h.ge
 ·exact h.R.ge
 ·exact (Ho h.R.own k hk.symm).1
 ·exact (Ho h.F k hk.symm).1
 ·exact (Ho h.D k hk.symm).1
 ·exact (Ho h.TR k hk.symm).1
 ·exact (Ho h3 k hk.symm).1
theorem Own.set (h:Own w B g q v f bd t o rd fs body ts out) (k:Nat) (u:Value):Own (w.setCell ⟨g,k,none⟩ u) B g q v f bd t o rd fs body ts out:=by
 have hk:Keeps [some g] w (w.setCell ⟨g,k,none⟩ u):=BF g k u (by simp);have hn:∀i j,i≠0->(blks g q v f bd t o)[i]?=some (some j)->some j∉ [some g]:=λi j hi hj hm=>by
  have e:j=g:=by simpa using hm
  rw [e] at hj
  exact hi (h.lone i 0 g hj rfl)
 exact ⟨⟨hk.row h.R.row (hn 1 q (by decide) rfl),hk.own h.R.own λj e=>hn 2 j (by decide) (by rw [←e];rfl),h.R.ge,h.R.ne⟩,
  hk.own h.F λj e=>hn 3 j (by decide) (by rw [←e];rfl),hk.own h.D λj e=>hn 4 j (by decide) (by rw [←e];rfl),hk.own h.TR λj e=>hn 5 j (by decide) (by rw [←e];rfl),
  h.O.keeps hk (λj hj=>by obtain rfl:j=g:=by simpa using hj
                          simp) λj e=>hn 6 j (by decide) (by rw [←e];rfl),
  h.lone,h.ge,by simpa using h.lt,h.zone.of hk.size DT⟩
theorem Own.below (h:Own w B g q v f bd t o rd fs body ts out) (hb:Below w.heap.size w w'):Own w' B g q v f bd t o rd fs body ts out:=by have hk:Keeps [] w w':=BD hb;refine ⟨⟨hk.row h.R.row (by simp),hk.own h.R.own (by simp),h.R.ge,h.R.ne⟩,hk.own h.F (by simp),hk.own h.D (by simp),hk.own h.TR (by simp),h.O.keeps hk (by simp) (by simp),h.lone,h.ge,D8 h.lt hb.size,h.zone.of hb.size DT⟩
theorem PR.below (h:PR w B g q v f bd t o p b s) (hb:Below w.heap.size w w'):PR w' B g q v f bd t o p b s:=
 ⟨(hb.block g h.own.lt).trans h.row,h.own.below hb⟩
theorem PR.drew (h:PR w B g q v f bd t o p b s) (n:Nat):PR (w.drewN n) B g q v f bd t o p b s:=h.below (Ak (Ao _ _) n)
theorem PR.put (h:PR w B g q v f bd t o p b s) (k:Nat) (u:Value) (s':T) (hc:(pgcells p b s q f bd t o).set k u=pgcells p b s' q f bd t o) (hd:s'.rd=s.rd) (h1:s'.r.fs=s.r.fs) (h2:s'.r.body=s.r.body) (h3:s'.r.ts=s.r.ts) (h4:s'.out=s.out) :
 PR (w.setCell ⟨g,k,none⟩ u) B g q v f bd t o p b s':=by
 refine ⟨?_,?_⟩
 ·rw [←hc,←Di];exact Ln.row_set h.row k u
 ·rw [hd,h1,h2,h3,h4];exact h.own.set k u
theorem Own.zero (h:Own w B g q v f bd t o rd fs body ts out):Own w B g q v (ZX none 0 0) (ZX none 0 0) (ZX none 0 0) o rd [] [] [] out:=by exact XXVVx
theorem Own.line (h:Own w B g q v f bd t o rd fs body ts out) (hb:Below w.heap.size w w') {q1:Nat} {rd1:Ln.M} (hr:Ln.Rd w' B q1 (ZX none 0 0) rd1) (hq:w.heap.size<=q1):Own w' B g q1 (ZX none 0 0) f bd t o rd1 fs body ts out:=by
 have e:blks g q1 (ZX none 0 0) f bd t o=((blks g q v f bd t o).set 1 (some q1)).set 2 none:=rfl;have hof:Of w (blks g q v f bd t o) (blks g q1 (ZX none 0 0) f bd t o):=by
  rw [e]
  exact (Of.set 1 (some q1) (.inr (.inr ⟨q1,rfl,hq⟩))).trans (Of.set 2 none (.inl rfl)) (D5 _)
 have hw:=h.below hb;obtain ⟨ps,h1,h2,h3⟩:=h.O;have hk:Keeps (blks g q1 (ZX none 0 0) f bd t o) w w':=BD hb;refine ⟨hr,hw.F,hw.D,hw.TR,⟨ps,h1,λx hx=>⟨(h2 x hx).1,((h2 x hx).2.of hof).keeps hk⟩,by obtain ⟨ps',h1',h2',h3'⟩:=hw.O;exact (BD hb:Keeps [] w w').own h3 (by simp)⟩,?_,h.ge,hw.lt,h.zone.of hb.size hof⟩;exact XXCuB
theorem Own.push {r:Eo} (h:Own w B g q v f bd t o rd r.fs r.body r.ts out) (hg:w.grownBy w' o.ownBlock) {o':Value} (ps:List (Array Value × Eo)) (hps:ps.map (·.2)=out) (hfar:∀x∈ps,x.1.size=7/\Far (blks g q v f bd t o) B.z w (ZU x.1) x.2)
 (ho:w'.ownsRow B 58 7 o' (out.length+1) (ps.flatMap (·.1.toList) ++ [ZY r.m,ZY r.x,ZZ ZS r.k,f,ZW r.ch,bd,t])) (hor:o'.ownBlock=o.ownBlock∨o'.ownBlock=some w.heap.size) :
 Own w' B g q v (ZX none 0 0) (ZX none 0 0) (ZX none 0 0) o' rd [] [] [] (out ++ [r]):=by
 have hk:Keeps [o.ownBlock] w w':=Keeps.grown hg λk e=>by simp [e]
 have hn:∀i j,i≠6->(blks g q v f bd t o)[i]?=some (some j)->some j∉ [o.ownBlock]:=λi j hi hj hm=>by
  have e:some j=o.ownBlock:=by simpa using hm
  exact hi (h.lone i 6 j hj (by rw [e];rfl))
 have hin:=h.in
 have F':=hk.own h.F λj e=>hn 3 j (by decide) (by rw [←e];rfl)
 have D':=hk.own h.D λj e=>hn 4 j (by decide) (by rw [←e];rfl)
 have T':=hk.own h.TR λj e=>hn 5 j (by decide) (by rw [←e];rfl);have hsub:∀k,some k∈blks g q v (ZX none 0 0) (ZX none 0 0) (ZX none 0 0) o'->(some k=some g∨some k=some q∨some k=v.ownBlock∨some k=o.ownBlock)∨w.heap.size<=k:=by exact XXlw6
 have hof:∀k,some k∈blks g q v (ZX none 0 0) (ZX none 0 0) (ZX none 0 0) o'->some k∈blks g q v f bd t o∨w.heap.size<=k:=λk hk=>by exact XXZgq
 have hkL2:Keeps (blks g q v f bd t o) w w':=hk.mono λk hk=>by
  have e:some k=o.ownBlock:=by simpa using hk
  simp [e]
 refine ⟨⟨hk.row h.R.row (hn 1 q (by decide) rfl),hk.own h.R.own λj e=>hn 2 j (by decide) (by rw [←e];rfl),h.R.ge,h.R.ne⟩,Hp _ _ _ _,Hp _ _ _ _,Hp _ _ _ _,
  ⟨ps ++ [(#[ZY r.m,ZY r.x,ZZ ZS r.k,f,ZW r.ch,bd,t],r)],by rw [List.map_append,hps];rfl,λx hx=>?_,by rw [CG,List.flatMap_append];simpa using ho⟩,?_,h.ge,D8 h.lt hk.size,h.zone.of hk.size hof⟩
 ·rcases CS.1 hx with hx | hx
  ·exact XXq2s
  ·obtain rfl:x= _:=by simpa using hx
   refine ⟨rfl,?_,λk hb=>?_,λk hb=>?_⟩
   ·exact XXHi0
   ·have e1:=slot_own h.F;have e2:=slot_own h.D;have e3:=slot_own h.TR
    replace hb:some k∈ [none,none,none,slot f,none,slot bd,slot t]:=hb
    exact XXJML
   ·have e1:=slot_own h.F;have e2:=slot_own h.D;have e3:=slot_own h.TR
    replace hb:some k∈ [none,none,none,slot f,none,slot bd,slot t]:=hb
    exact XXNov
 ·exact XXyOi
theorem Own.setF (h:Own w B g q v f bd t o rd fs body ts out) {f':Value} {fs':List Fld} (hk:Keeps [f.ownBlock] w w') (hr:w'.ownsRow B 126 2 f' fs'.length (cells fs')) (hor:f'.ownBlock=f.ownBlock∨∃k,f'.ownBlock=some k/\w.heap.size<=k) :
 Own w' B g q v f' bd t o rd fs' body ts out/\Step (blks g q v f bd t o) (blks g q v f' bd t o) w w':=by
 have hn:∀i j,i≠3->(blks g q v f bd t o)[i]?=some (some j)->some j∉ [f.ownBlock]:=λi j hi hj hm=>by
  have e:some j=f.ownBlock:=by simpa using hm
  exact hi (h.lone i 3 j hj (by rw [e];rfl))
 have e:blks g q v f' bd t o=(blks g q v f bd t o).set 3 f'.ownBlock:=rfl;have ho:f'.ownBlock=none∨(blks g q v f bd t o)[3]?=some f'.ownBlock∨∃k,f'.ownBlock=some k/\w.heap.size<=k:=by exact XXNT9
 have hof:Of w (blks g q v f bd t o) (blks g q v f' bd t o):=by rw [e];exact Of.set 3 _ ho
 have hkL:Keeps (blks g q v f bd t o) w w':=hk.mono λk hk=>by
  have e:some k=f.ownBlock:=by simpa using hk
  simp [e]
 obtain ⟨ps,h1,h2,h3⟩:=h.O
 refine ⟨⟨⟨hk.row h.R.row (hn 1 q (by decide) rfl),hk.own h.R.own λj e=>hn 2 j (by decide) (by rw [←e];rfl),h.R.ge,h.R.ne⟩,hr,hk.own h.D λj e=>hn 4 j (by decide) (by rw [←e];rfl),hk.own h.TR λj e=>hn 5 j (by decide) (by rw [←e];rfl),
  ⟨ps,h1,λx hx=>⟨(h2 x hx).1,by
    have hx2:=(h2 x hx).2.keeps hkL
    exact ⟨hx2.reads,λk hb=>⟨λhm=>by
     rcases hof k hm with e | e
     ·exact (hx2.far k hb).1 e
     ·exact absurd ((h2 x hx).2.far k hb).2 (by omega),(hx2.far k hb).2⟩,hx2.off⟩⟩,hk.own h3 λj e=>hn 6 j (by decide) (by rw [←e];rfl)⟩,?_,h.ge,D8 h.lt hk.size,h.zone.of hk.size hof⟩,hkL,hof⟩
 rw [e];exact h.lone.set h.in 3 _ ho
theorem Own.setD (h:Own w B g q v f bd t o rd fs body ts out) {bd':Value} {body':List UInt8} (hk:Keeps [bd.ownBlock] w w') (hr:w'.ownsRow B 5 1 bd' body'.length (Rec.vals body')) (hor:bd'.ownBlock=bd.ownBlock∨∃k,bd'.ownBlock=some k/\w.heap.size<=k) :
 Own w' B g q v f bd' t o rd fs body' ts out/\Step (blks g q v f bd t o) (blks g q v f bd' t o) w w':=by
 have hn:∀i j,i≠4->(blks g q v f bd t o)[i]?=some (some j)->some j∉ [bd.ownBlock]:=λi j hi hj hm=>by
  have e:some j=bd.ownBlock:=by simpa using hm
  exact hi (h.lone i 4 j hj (by rw [e];rfl))
 have e:blks g q v f bd' t o=(blks g q v f bd t o).set 4 bd'.ownBlock:=rfl;have ho:bd'.ownBlock=none∨(blks g q v f bd t o)[4]?=some bd'.ownBlock∨∃k,bd'.ownBlock=some k/\w.heap.size<=k:=by exact XXNT9
 have hof:Of w (blks g q v f bd t o) (blks g q v f bd' t o):=by rw [e];exact Of.set 4 _ ho
 have hkL:Keeps (blks g q v f bd t o) w w':=hk.mono λk hk=>by
  have e:some k=bd.ownBlock:=by simpa using hk
  simp [e]
 obtain ⟨ps,h1,h2,h3⟩:=h.O
 refine ⟨⟨⟨hk.row h.R.row (hn 1 q (by decide) rfl),hk.own h.R.own λj e=>hn 2 j (by decide) (by rw [←e];rfl),h.R.ge,h.R.ne⟩,hk.own h.F λj e=>hn 3 j (by decide) (by rw [←e];rfl),hr,hk.own h.TR λj e=>hn 5 j (by decide) (by rw [←e];rfl),
  ⟨ps,h1,λx hx=>⟨(h2 x hx).1,by
    have hx2:=(h2 x hx).2.keeps hkL
    exact ⟨hx2.reads,λk hb=>⟨λhm=>by
     rcases hof k hm with e | e
     ·exact (hx2.far k hb).1 e
     ·exact absurd ((h2 x hx).2.far k hb).2 (by omega),(hx2.far k hb).2⟩,hx2.off⟩⟩,hk.own h3 λj e=>hn 6 j (by decide) (by rw [←e];rfl)⟩,?_,h.ge,D8 h.lt hk.size,h.zone.of hk.size hof⟩,hkL,hof⟩
 rw [e];exact h.lone.set h.in 4 _ ho
theorem Own.setT (h:Own w B g q v f bd t o rd fs body ts out) {t':Value} {ts':List Fld} (hk:Keeps [t.ownBlock] w w') (hr:w'.ownsRow B 126 2 t' ts'.length (cells ts')) (hor:t'.ownBlock=t.ownBlock∨∃k,t'.ownBlock=some k/\w.heap.size<=k) :
 Own w' B g q v f bd t' o rd fs body ts' out/\Step (blks g q v f bd t o) (blks g q v f bd t' o) w w':=by
 have hn:∀i j,i≠5->(blks g q v f bd t o)[i]?=some (some j)->some j∉ [t.ownBlock]:=λi j hi hj hm=>by
  have e:some j=t.ownBlock:=by simpa using hm
  exact hi (h.lone i 5 j hj (by rw [e];rfl))
 have e:blks g q v f bd t' o=(blks g q v f bd t o).set 5 t'.ownBlock:=rfl;have ho:t'.ownBlock=none∨(blks g q v f bd t o)[5]?=some t'.ownBlock∨∃k,t'.ownBlock=some k/\w.heap.size<=k:=by exact XXNT9
 have hof:Of w (blks g q v f bd t o) (blks g q v f bd t' o):=by rw [e];exact Of.set 5 _ ho
 have hkL:Keeps (blks g q v f bd t o) w w':=hk.mono λk hk=>by
  have e:some k=t.ownBlock:=by simpa using hk
  simp [e]
 obtain ⟨ps,h1,h2,h3⟩:=h.O
 refine ⟨⟨⟨hk.row h.R.row (hn 1 q (by decide) rfl),hk.own h.R.own λj e=>hn 2 j (by decide) (by rw [←e];rfl),h.R.ge,h.R.ne⟩,hk.own h.F λj e=>hn 3 j (by decide) (by rw [←e];rfl),hk.own h.D λj e=>hn 4 j (by decide) (by rw [←e];rfl),hr,
  ⟨ps,h1,λx hx=>⟨(h2 x hx).1,by
    have hx2:=(h2 x hx).2.keeps hkL
    exact ⟨hx2.reads,λk hb=>⟨λhm=>by
     rcases hof k hm with e | e
     ·exact (hx2.far k hb).1 e
     ·exact absurd ((h2 x hx).2.far k hb).2 (by omega),(hx2.far k hb).2⟩,hx2.off⟩⟩,hk.own h3 λj e=>hn 6 j (by decide) (by rw [←e];rfl)⟩,?_,h.ge,D8 h.lt hk.size,h.zone.of hk.size hof⟩,hkL,hof⟩
 rw [e];exact h.lone.set h.in 5 _ ho
theorem PR.bk (h:PR w B g q v f bd t o p b s):El w g (pgcells p b s q f bd t o):=⟨λ_ _ hu=>row_cellL h.row hu,λk _=>Dy h.row k,h.own.lt⟩
def Par (w:World) (B:Zone) (g:Nat) (p:Nat) (b:Bd) (s:T) (L:List (Option Nat)):Prop:=∃q v f bd t o,L=blks g q v f bd t o/\PR w B g q v f bd t o p b s
end
end Go.Proofs.YtnabkcglnbdfeaaGreatDoor.Pg
namespace Go.Proofs.YtnabkcglnbdfeaaGreatDoor.Each
open Go.RowKit Base
def goodF (l:List Oper) (m:Nat) (ds:List Nat) (lm:List Bool) (r:Nat) (f:Option Nat:=none):Bool:=
 decide (m<=l.length)&&(decide ((l.take m).map (·.dst)=ds.map some)&&(decide ds.Nodup &&
 ((Df l.length).all (λk=>match l[k]? with
   | some o=>o.after.toList.all λe=>!Region.binds .any e|| (decide (e.on<k)&&(lm.getD k false||decide (m<=k) || !lm.getD e.on false))
   | none=>true) &&
 ((Df l.length).all (λi=>(decide (i<m) && !lm.getD i false)|| (Df m).all λk=>lm.getD k false|| (decide (f=some k)|| (marks l l.length ((Aj l.length false).setIfInBounds i true)).getD k false)) &&
 decide ((Df m).countP (λk=>!lm.getD k false)+r<=l.length)))))
def floats (m:Nat) (lm:List Bool):Option Nat->Bool
 | none=>true
 | some k=>decide (k<m) && !lm.getD k false
section
variable {P:Program} {l:List Oper} {Q:Exit->Act->World->Prop} {fs:List Fact} {W:World} {a0:Act} {m:Nat} {ds:List Nat} {lm:List Bool} {r:Nat} {fl:Option Nat}
theorem all_float (hm:m<=l.length) (hdst:(l.take m).map (·.dst)=ds.map some) (hnd:ds.Nodup) (hsz:∀d∈ds,d<a0.tmps.size) (hlen:fs.length=m)
 (hlast:∀f∈fs,Lasts f) (hidle:∀(k:Nat) (f:Fact),fs[k]?=some f->lm.getD k false=true->∀v w,f v w)
 (hfine:∀(k:Nat) (o:Oper) (f:Fact),l[k]?=some o->fs[k]?=some f->lm.getD k false=false->Fine P l fs W a0 ds o f)
 (hback:∀(k:Nat) (o:Oper),l[k]?=some o->∀e∈o.after.toList,Eu .any e=true->e.on<k)
 (hfree:∀(k:Nat) (o:Oper),l[k]?=some o->k<m->lm.getD k false=false->∀e∈o.after.toList,Eu .any e=true->lm.getD e.on false=false)
 (hcov:∀i,i<l.length->m<=i∨lm.getD i false=true->∀k,k<m->lm.getD k false=false->fl≠some k->(marks l l.length ((Aj l.length false).setIfInBounds i true)).getD k false=true)
 (hfl:∀k,fl=some k->k<m/\lm.getD k false=false)
 (hrest:∀(g:Nat->Value) (w:World),Below W.heap.size W w->facts g w ds fs->wpAnyH P .any l.toArray Q (λ_=>True) r (fill l.length m lm) (putg g ds a0) w)
 (hrest0:∀k0,fl=some k0->∀(g:Nat->Value) (w:World),Below W.heap.size W w->facts g w ds (fs.set k0 λ_ _=>True)->wpAnyH P .any l.toArray Q (λ_=>True) (r+1) ((fill l.length m lm).setIfInBounds k0 false) (putg g ds a0) w) :
 ∀(n:Nat) (b:Array Bool) (a:Act) (w:World),Inv l fs (λ_ w'=>Below W.heap.size W w') a0 m ds lm b a w->(Df m).countP (λk=>!b.getD k false && !lm.getD k false)+r<=n->wpAnyH P .any l.toArray Q (λ_=>True) n b a w:=by
 have base:∀(b:Array Bool) (a:Act) (w:World),Inv l fs (λ_ w'=>Below W.heap.size W w') a0 m ds lm b a w->(∀k,k<m->lm.getD k false=false->fl≠some k->b.getD k false=true)->
  ∃q,(q=r∨(q=r+1/\0<(Df m).countP (λk=>!b.getD k false && !lm.getD k false)))/\wpAnyH P .any l.toArray Q (λ_=>True) q b a w:=by
  intro b a w hI hall;rcases Classical.em (∃k0,fl=some k0/\b.getD k0 false=false) with ⟨k0,hk0,hbk0⟩ | hno
  ·obtain ⟨hkm,hkl⟩:=hfl k0 hk0
   have hall':∀k,k<m->lm.getD k false=false->¬k=k0->b.getD k false=true:=λk h1 h2 h3=>hall k h1 h2 (λe=>h3 (by rw [hk0] at e;exact (DX.inj e).symm));refine ⟨r+1,.inr ⟨rfl,?_⟩,?_⟩
   ·rw [List.countP_pos_iff];exact ⟨k0,by simpa using hkm,by rw [hbk0,hkl];rfl⟩
   have hb:b=(fill l.length m lm).setIfInBounds k0 false:=by
    refine Array.ext (by simp [fill,hI.bsize]) λi h1 h2=>?_;have e:b.getD i false=b[i]:=by simp [Ag,h1]
    rw [←e,Array.getElem_setIfInBounds (by simpa using h2)];by_cases hik:k0=i
    ·rw [if_pos hik,←hik,hbk0]
    ·rw [if_neg hik];have e2:∀h,(fill l.length m lm)[i]'h=(decide (i<m) && !lm.getD i false):=by intro h;simp [fill]
     rw [e2];rcases D9 i m with hi | hi
     ·cases hl:lm.getD i false with
      | true=>rw [hI.rest i (.inr hl)];simp
      | false=>rw [hall' i hi hl (λe=>hik e.symm)];simp [hi]
     ·rw [hI.rest i (.inl hi)];simp [show¬i<m by omega]
   have:=hrest0 k0 hk0 _ w hI.bel (facts_of (λd=>a.eval (.tmp d)) ds (fs.set k0 λ_ _=>True) λk d f hd hf=>by
    by_cases hkk:k0=k
    ·subst hkk;have:k0<fs.length:=by rw [hlen];exact hkm
     rw [List.getElem?_set_self this] at hf;obtain rfl:=DX.inj hf
     trivial
    ·rw [List.getElem?_set_ne hkk] at hf;cases hl:lm.getD k false with
     | true=>exact hidle k f hf hl _ _
     | false=>exact hI.fact k d f hd hf (hall' k (by have:=(List.getElem?_eq_some_iff.1 hf).1;omega) hl (λe=>hkk e.symm)))
   rw [←act_of hI,←hb] at this;exact this
  ·have hall':∀k,k<m->lm.getD k false=false->b.getD k false=true:=λk h1 h2=>by
    rcases Classical.em (fl=some k) with h | h
    ·cases hb:b.getD k false with
     | true=>rfl
     | false=>exact absurd ⟨k,h,hb⟩ hno
    ·exact hall k h1 h2 h
   refine ⟨r,.inl rfl,?_⟩;have hb:b=fill l.length m lm:=by
    refine Array.ext (by simp [fill,hI.bsize]) λi h1 h2=>?_;have e:b.getD i false=b[i]:=by simp [Ag,h1]
    rw [←e];have e2:(fill l.length m lm)[i]=(decide (i<m) && !lm.getD i false):=by simp [fill]
    rw [e2];rcases D9 i m with hi | hi
    ·cases hl:lm.getD i false with
     | true=>rw [hI.rest i (.inr hl)];simp
     | false=>rw [hall' i hi hl];simp [hi]
    ·rw [hI.rest i (.inl hi)];simp [show¬i<m by omega]
   have:=hrest _ w hI.bel (facts_of (λd=>a.eval (.tmp d)) ds fs λk d f hd hf=>by
    cases hl:lm.getD k false with
    | true=>exact hidle k f hf hl _ _
    | false=>exact hI.fact k d f hd hf (hall' k (by have:=(List.getElem?_eq_some_iff.1 hf).1;omega) hl))
   rw [←act_of hI,←hb] at this;exact this
 intro n
 induction n with
 | zero=>
   intro b a w hI hn;have hc:(Df m).countP (λk=>!b.getD k false && !lm.getD k false)=0:=by omega
   obtain ⟨q,hq,h⟩:=base b a w hI (λk hk hl _=>by have:=List.countP_eq_zero.1 hc k (by simpa using hk);rw [hl] at this;simpa using this)
   rw [show q=0 by omega] at h;exact h
 | succ n ih=>
   intro b a w hI hn;by_cases hc:∀k,k<m->lm.getD k false=false->fl≠some k->b.getD k false=true
   ·obtain ⟨q,hq,h⟩:=base b a w hI hc;have h2:=wpAnyH_up q (n+1-q) _ _ _ h;rw [show q+(n+1-q)=n+1 by omega] at h2;exact h2
   ·
    have hex:∃k,k<m/\lm.getD k false=false/\fl≠some k/\b.getD k false=false:=by
     rcases Classical.em (∃k,k<m/\lm.getD k false=false/\fl≠some k/\b.getD k false=false) with h | h
     ·exact h
     ·refine absurd (λk hk hl hf=>?_) hc;cases hb:b.getD k false with
      | true=>rfl
      | false=>exact absurd ⟨k,hk,hl,hf,hb⟩ h
    have hin:∀i∈Ew .any l.toArray b,i<m/\lm.getD i false=false:=by
     intro i hi;obtain ⟨hun,o,ho,hal⟩:=mem_ready.1 hi;have ho':l[i]?=some o:=by simpa using ho
     have hil:i<l.length:=(List.getElem?_eq_some_iff.1 ho').1;have key:m<=i∨lm.getD i false=true->False:=by intro h;obtain ⟨k,hk,hlk,hfk,hbk⟩:=hex;have hmk:=hcov i hil h k hk hlk hfk;exact XX5Ks
     exact XXSDj
    have hne:Ew .any l.toArray b≠ []:=by
     have:∀k,k<m->lm.getD k false=false->b.getD k false=false->∃i,i∈Ew .any l.toArray b:=by
      intro k
      induction k using Nat.strongRecOn with
      | _ k ihk=>
        exact XXcCR
     obtain ⟨k,hk,hlk,_,hbk⟩:=hex;obtain ⟨i,hi⟩:=this k hk hlk hbk;intro h0;rw [h0] at hi;cases hi
    refine wpAnyH_all rfl hne ?_;intro i hi;obtain ⟨him,hil⟩:=hin i hi
    refine wpOp_mono (λa' w' h'=>⟨trivial,ih _ a' w' h' ?_⟩) (step (R:=λ_ w w'=>Below w.heap.size w w') hm hdst hnd hsz hlen (λ_ _ _ _ _ _ h h'=>h.trans (h'.mono h.size)) (λ_ _=>Ao _ _) (λ_ _ f hf _ _=>hlast f (CZ hf))
     (λk o f ho hf hl ev _ w' h1 h2 _ h4=>⟨λhw=>((hfine k o f ho hf hl ev w' h1 h2 h4).1 hw).gen λ_ h=>h,(hfine k o f ho hf hl ev w' h1 h2 h4).2⟩) hI him hil hi)
    exact XXuDq
theorem region_float (m:Nat) (ds:List Nat) (fs:List Fact) (lm:List Bool) (r:Nat) (fl:Option Nat) (p p0:Tree.Plan) {id:Nat} {a0:Act} {w:World} (hmo:P.follows .mixedOrders=true) (hg:goodF l m ds lm r fl=true) (hns:Region.noSelect l.toArray=true)
 (hp:Tree.fits l.toArray p r (fill l.length m lm)=true) (hp0:∀k0,fl=some k0->Tree.fits l.toArray p0 (r+1) ((fill l.length m lm).setIfInBounds k0 false)=true) (hQ:∀c a d v w,Q (.panic c) (Ab a d v) w->Q (.panic c) a w)
 (hsz:ds.all (λd=>decide (d<a0.tmps.size))=true) (hlen:fs.length=m) (hlast:Every fs) (hidle:Idle lm fs) (hfloat:floats m lm fl=true) (hfine:All P l fs (w.drewN 1) a0 ds lm l fs)
 (hrest:∀(g:Nat->Value) (w':World),Below w.heap.size w w'->facts g w' ds fs->Tree.Step P l.toArray Q (λ_=>True) (Fk l p) (putg g ds a0) w')
 (hrest0:∀k0,fl=some k0->∀(g:Nat->Value) (w':World),Below w.heap.size w w'->facts g w' ds (fs.set k0 λ_ _=>True)->Tree.Step P l.toArray Q (λ_=>True) (Fk l p0) (putg g ds a0) w'):(Code.region id l.toArray true).wp P Q a0 w:=by
 simp only [goodF,As,List.all_eq_true,decide_eq_true_eq,List.mem_range,AB] at hg;obtain ⟨h1,h2,h3,h4,h5,h6⟩:=hg;refine wp_region_held (S:=λ_=>True) hmo ?_;have hb4:∀(k:Nat) (o:Oper),l[k]?=some o->∀e∈o.after.toList,Eu .any e=true->e.on<k/\(k<m->lm.getD k false=false->lm.getD e.on false=false):=by exact XXjkq
 have hcov:∀i,i<l.length->m<=i∨lm.getD i false=true->∀k,k<m->lm.getD k false=false->fl≠some k->(marks l l.length ((Aj l.length false).setIfInBounds i true)).getD k false=true:=by
  intro i hi hmi k hk hl hf;rcases h5 i hi with ⟨h,h'⟩ | h
  ·rcases hmi with hmi | hmi
   ·omega
   ·rw [hmi] at h';cases h'
  ·rcases h k hk with h | h | h
   ·rw [hl] at h;cases h
   ·exact absurd h hf
   ·exact h
 have hfl:∀k,fl=some k->k<m/\lm.getD k false=false:=by intro k hk;subst hk;simp only [floats,As,decide_eq_true_eq,A7] at hfloat;exact hfloat
 have hsz':∀d∈ds,d<a0.tmps.size:=by simpa using hsz
 have hI:Inv l fs (λ_ w'=>Below (w.drewN 1).heap.size (w.drewN 1) w') a0 m ds lm (Aj l.length false) a0 (w.drewN 1):=by
  have hrep:∀k,(Aj l.length false).getD k false=false:=λk=>by rw [Ag];rcases D9 k l.length with h | h<;>simp [h]
  refine ⟨Ao _ _,rfl,rfl,λ_ _=>rfl,λk d f _ _ h=>?_,λk o _ h=>?_,by simp,λk _=>hrep k⟩
  ·rw [hrep] at h;cases h
  ·rw [hrep] at h;cases h
 have:=all_float (P:=P) (Q:=Q) (r:=r) (fl:=fl) h1 h2 h3 hsz' hlen (every_at hlast) (idle_at hidle) (λk o f ho hf hl=>all_at hfine k o f ho hf hl) (λk o hk e he hb=>(hb4 k o hk e he hb).1)
  (λk o hk hkm hl e he hb=>(hb4 k o hk e he hb).2 hkm hl) hcov hfl
  (λg w' hb hf=>Tree.held_of_walk hns hQ p _ _ _ w' hp trivial (hrest g w' ((Ak (Ao w.heap.size w) 1).trans hb) hf).out)
  (λk0 hk0 g w' hb hf=>Tree.held_of_walk hns hQ p0 _ _ _ w' (hp0 k0 hk0) trivial (hrest0 k0 hk0 g w' ((Ak (Ao w.heap.size w) 1).trans hb) hf).out) l.length _ a0 (w.drewN 1) hI (by
    have:(Df m).countP (λk=>!(Aj l.length false).getD k false && !lm.getD k false)<=(Df m).countP (λk=>!lm.getD k false):=
     List.countP_mono_left λk _ hk=>by simp at hk;simpa using hk.2
    omega)
 simpa [World.drewN] using this
end
section run
variable {P:Program} {o:Oper}
theorem exec_append {ev:Operand->Value} {w w':World} {v u v':Value} (s x:Operand) (t:TypeId) (ho:o.op=.call {callee:=.builtin .append,args:=#[s,x],argTypes:=#[t,t]}) (hs:ev s=v) (hx:ev x=u)
 (hr:(Builtin.append_ #[t,t] o.type #[v,u]).run P w=.ok v' w'):(execOp ev o).run P w=.ok (.value v') w':=by
 unfold execOp;simp only [ho,resolve,invoke,builtin,Sem.run_bind,Sem.run_pure,Result.andThen_ok,List.map_toArray,List.map_cons,List.map_nil,hs,hx,hr]
theorem oper_append {a:Act} {w w':World} {K:Act->World->Prop} {Q:Exit->Act->World->Prop} {v u v':Value} (s x:Operand) (t:TypeId) (ho:o.op=.call {callee:=.builtin .append,args:=#[s,x],argTypes:=#[t,t]}) (hs:a.eval s=v) (hx:a.eval x=u)
 (hr:(Builtin.append_ #[t,t] o.type #[v,u]).run P w=.ok v' w') (h:K (a.put o.dst v') w'):o.wp P a w K Q:=by
 unfold Oper.wp;rw [exec_append s x t ho hs hx hr,Oper.upon_value];exact h
theorem oper_enter {a:Act} {w:World} {K:Act->World->Prop} {Q:Exit->Act->World->Prop} {g:FuncId} {args:Array Value} (h:(execOp a.eval o).run P w=.ok (.enter g args) w) (hc:Calls P g args w λe w'=>∃v,e=.returned v/\K (a.put o.dst v) w'):o.wp P a w K Q:=by unfold Oper.wp;rw [h,Oper.upon_enter];refine hc.mono ?_;rintro e w' ⟨v,rfl,hk⟩;exact hk
end run
end Go.Proofs.YtnabkcglnbdfeaaGreatDoor.Each
namespace Go.Proofs.YtnabkcglnbdfeaaGreatDoor.Pg
open Go.RowKit Base Txt Mem Par
abbrev nil:Value:=ZX none 0 0
structure Cs (w:World) (g:Nat) (p:Nat) (b:Bd) (s:T) (q:Nat) (f bd t o:Value):Prop where
 c0:w.cell? ⟨g,0,none⟩=some (ZZ ZS 0)
 c1:w.cell? ⟨g,1,none⟩=some (ZZ ZS (s.hl:Int))
 c2:w.cell? ⟨g,2,none⟩=some (f)
 c3:w.cell? ⟨g,3,none⟩=some (ZY s.r.m)
 c4:w.cell? ⟨g,4,none⟩=some (ZY s.r.x)
 c5:w.cell? ⟨g,5,none⟩=some (ZZ ZS s.r.k)
 c6:w.cell? ⟨g,6,none⟩=some (ZZ ZS (s.size:Int))
 c7:w.cell? ⟨g,7,none⟩=some (ZW s.cnt)
 c8:w.cell? ⟨g,8,none⟩=some (ZZ ZS (s.bl:Int))
 c9:w.cell? ⟨g,9,none⟩=some (t)
 c10:w.cell? ⟨g,10,none⟩=some (ZW s.r.ch)
 c11:w.cell? ⟨g,11,none⟩=some (bd)
 c12:w.cell? ⟨g,12,none⟩=some (ZZ ZS (s.left:Int))
 c13:w.cell? ⟨g,13,none⟩=some (ZZ ZQ (p:Int))
 c14:w.cell? ⟨g,14,none⟩=some (ZZ ZS b.x0)
 c15:w.cell? ⟨g,15,none⟩=some (ZZ ZS b.x1)
 c16:w.cell? ⟨g,16,none⟩=some (ZZ ZS b.x2)
 c17:w.cell? ⟨g,17,none⟩=some (ZZ ZS b.x3)
 c18:w.cell? ⟨g,18,none⟩=some (ZZ ZS b.x4)
 c19:w.cell? ⟨g,19,none⟩=some (ZZ ZS b.x5)
 c20:w.cell? ⟨g,20,none⟩=some (ZZ ZS b.x6)
 c21:w.cell? ⟨g,21,none⟩=some (ZZ ZS b.x7)
 c22:w.cell? ⟨g,22,none⟩=some (ZW b.ch)
 c23:w.cell? ⟨g,23,none⟩=some (ZW b.od)
 c24:w.cell? ⟨g,24,none⟩=some (ZZ ZS (s.st:Int))
 c25:w.cell? ⟨g,25,none⟩=some (ptr q)
 c26:w.cell? ⟨g,26,none⟩=some (o)
theorem Cs.of {w:World} {g:Nat} {p:Nat} {b:Bd} {s:T} {q:Nat} {f bd t o:Value} (h:w.heap[g]?=some (.cells (pgcells p b s q f bd t o).toArray 55 (0,0))):Cs w g p b s q f bd t o:=⟨row_cellL h rfl,row_cellL h rfl,row_cellL h rfl,row_cellL h rfl,row_cellL h rfl,row_cellL h rfl,row_cellL h rfl,row_cellL h rfl,row_cellL h rfl,row_cellL h rfl,row_cellL h rfl,row_cellL h rfl,row_cellL h rfl,row_cellL h rfl,row_cellL h rfl,row_cellL h rfl,row_cellL h rfl,row_cellL h rfl,row_cellL h rfl,row_cellL h rfl,row_cellL h rfl,row_cellL h rfl,row_cellL h rfl,row_cellL h rfl,row_cellL h rfl,row_cellL h rfl,row_cellL h rfl⟩
abbrev deadcells (e:Nat) (o:Value):List Value:= [ZZ ZS (e:Int),ZZ ZS 0,nil,ZY E0,ZY E0,ZZ ZS 0,ZZ ZS 0,ZW false,ZZ ZS 0,nil,ZW false,nil,ZZ ZS 0,ZZ ZQ 0,ZZ ZS 0,ZZ ZS 0,ZZ ZS 0,ZZ ZS 0,ZZ ZS 0,ZZ ZS 0,ZZ ZS 0,ZZ ZS 0,ZW false,ZW false,ZZ ZS 0,ZV none,o]
structure Dead (w:World) (B:Zone) (g:Nat) (e:Nat) (o:Value) (out:List Eo):Prop where
 row:w.heap[g]?=some (.cells (deadcells e o).toArray 55 (0,0))
 O:Outs [some g,o.ownBlock] B w o out
 ne:o.ownBlock≠some g
 ge:B<=g
 lt:g<w.heap.size
 bad:e≠0
 zone:Clear w B.z [some g,o.ownBlock]
section
set_option maxHeartbeats 4000000
set_option maxRecDepth 20000
attribute [local go_sem] An
variable {w:World} {B:Zone} {g q:Nat} {v f bd t o:Value} {p:Nat} {b:Bd} {s:T}
theorem PR.cs (h:PR w B g q v f bd t o p b s):Cs w g p b s q f bd t o:=Cs.of h.row
theorem PR.marks (h:PR w B g q v f bd t o p b s) (k:Nat):w.frozen? ⟨g,k,none⟩=false:=Dy h.row k
theorem PR.line (h:PR w B g q v f bd t o p b s) {w':World} (hb:Below w.heap.size w w') {q1:Nat} {rd1:Ln.M} (hr:Ln.Rd w' B q1 (ZX none 0 0) rd1) (hq:w.heap.size<=q1):PR (w'.setCell ⟨g,25,none⟩ (ptr q1)) B g q1 (ZX none 0 0) f bd t o p b {s with rd:=rd1}:=
 ⟨row_setL ((hb.block g h.own.lt).trans h.row) 25 (ptr q1),(h.own.line hb hr hq).set 25 (ptr q1)⟩
theorem failed_live (h:w.cell? ⟨g,0,none⟩=some (ZZ ZS 0)):Calls Gq 81 #[ptr g] w λr w'=>r=.returned (ZW false)/\w'=w:=by go_enter Tryz.func81,Tryz.ntmps81;go_wp2;go_ret;exact ⟨rfl,rfl⟩
theorem failed_dead {e:Nat} (h:w.cell? ⟨g,0,none⟩=some (ZZ ZS (e:Int))) (hn:e≠0):Calls Gq 81 #[ptr g] w λr w'=>r=.returned (ZW true)/\w'=w:=by
 have h1:((e:Int)==0)=false:=beq_eq_false_iff_ne.2 (by omega);have h2:¬(e:Int)=0:=by omega
 have h3:((e:Int) != 0)=true:=bne_iff_ne.2 h2;go_enter Tryz.func81,Tryz.ntmps81;go_wp2;go_ret;exact ⟨by rw [←h3];rfl,rfl⟩
theorem err_any {x:Int} (h:w.cell? ⟨g,0,none⟩=some (ZZ ZS x)):Calls Gq 23 #[ptr g] w λr w'=>r=.returned (ZZ ZS x)/\w'=w:=by go_enter Tryz.func23,Tryz.ntmps23;go_wp2;go_ret;exact ⟨rfl,rfl⟩
theorem _root_.Go.Proofs.YtnabkcglnbdfeaaGreatDoor.XX8I9 {P:Prop} (h:P:=by
 rintro r w' ⟨rfl,rfl⟩
 exact ⟨_,rfl,D5 _,⟨heap_alloc_new w _,Hp _ _ _ _,hB,by simp [Value.ownBlock]⟩,(Ao _ _).alloc (D5 _) _⟩):P:=h
theorem line_new (hp:p<4294967296) (B:Zone) (most:Int) (w:World) (hB:B<=w.heap.size):Calls Gq 115 #[ZZ ZQ (p:Int),ZZ ZS most] w λr w'=>∃q1,r=.returned (ptr q1)/\w.heap.size<=q1/\Ln.Rd w' B q1 nil (Ln.M.of p most)/\Below w.heap.size w w':=by refine (Ln.new_any p hp most w).mono ?_;exact XX8I9
theorem enter_any (hp:p<4294967296) (h:PR w B g q v f bd t o p b s) (st:Nat) (x:Int) (hx:x=(st:Int)) (most:Int):Calls Gq 72 #[ptr g,ZZ ZS x,ZZ ZS most] w λr w'=>
 r=.returned (ZT #[])/\∃q1,PR w' B g q1 nil f bd t o p b (s.enter p st most)/\Step (blks g q v f bd t o) (blks g q1 nil f bd t o) w w':=by
 subst hx;have c24:=h.cs.c24;have z24:=h.marks 24
 have H1:=BN (h.put 24 (ZZ ZS (st:Int)) {s with st:=st} rfl rfl rfl rfl rfl rfl)
 have HS1:=BN (Step.set (w:=w) (L:=blks g q v f bd t o) g 24 (ZZ ZS (st:Int)) (by simp));clear h;go_enter Tryz.func72,Tryz.ntmps72;go_upto_region 1 with fail
 generalize w.setCell ⟨g,24,none⟩ (ZZ ZS (st:Int))=W1 at *;clear c24 z24;have c13:=H1.out.cs.c13;have e25:=H1.out.cs.c25;have z25:=H1.out.marks 25
 have HNL:=BN (line_new hp B most W1 (D7 H1.out.own.ge (D4 H1.out.own.lt)));go_wp2_with
  (go_at_call 115;with_reducible refine HNL.out.mono ?_;rintro r w8 ⟨q1,rfl,hq1,hr1,hb8⟩
   have d25:=(hb8.cell (p:=⟨g,25,none⟩) H1.out.own.lt).trans e25;have y25:=(hb8.frozen (p:=⟨g,25,none⟩) H1.out.own.lt).trans z25
   have HL8:=BN (H1.out.line hb8 hr1 hq1);have HS8:=BN (HS1.out.trans (Step.line hb8 hq1));clear hb8 hr1 hq1 e25 z25)
 go_end0;exact ⟨rfl,q1,HL8.out,HS8.out.trans (Step.set g 25 (ptr q1) (by simp))⟩
theorem draft_any (h:PR w B g q v f bd t o p b s):Calls Gq 79 #[ptr g] w λr w'=>r=.returned (ZU #[ZY s.r.m,ZY s.r.x,ZZ ZS s.r.k,f,ZW s.r.ch,bd,t])/\Below w.heap.size w w':=by
 obtain ⟨fo,fc,ef, -⟩:=Dw h.own.F;obtain ⟨bo,bc,eb, -⟩:=Dw h.own.D;obtain ⟨ta,tc,et, -⟩:=Dw h.own.TR;subst ef eb et
 have hb0:=((Ao _ _).alloc (D5 _) (.cells #[ZY ⟨#[]⟩,ZY ⟨#[]⟩,ZZ ZS 0,ZX none 0 0,ZW false,ZX none 0 0,ZX none 0 0] 58):Below w.heap.size w _)
 have H1:=BN (h.below hb0);obtain ⟨G1,hG1⟩:∃G1,G1=w.heap.size:=⟨_,rfl⟩
 have HZ:=BN (Em w G1 hG1 58 [ZY ⟨#[]⟩,ZY ⟨#[]⟩,ZZ ZS 0,ZX none 0 0,ZW false,ZX none 0 0,ZX none 0 0]);have HB0:=BN hb0;have HG1:=BN hG1;clear h hb0;go_enter Tryz.func79,Tryz.ntmps79;go_upto_region 1 with fail
 rw [←hG1];clear hG1;generalize w.alloc (.cells #[ZY ⟨#[]⟩,ZY ⟨#[]⟩,ZZ ZS 0,ZX none 0 0,ZW false,ZX none 0 0,ZX none 0 0] 58)=W1 at *
 have HQ:=BN ((H1.out.drew 1).bk);refine Each.region 38 [3,4,5,6,7,8,9,10,11,12,13,14,15,16,17,18,19,20,21,22,23,24,25,26,27,28,29,30,31,32,33,34,35,36,37,38,39,40] [eP g 0,eP g 0,eP g 1,eP g 3,eQ (ZY s.r.m),eP g 0,eP g 0,eP g 1,eP g 4,eQ (ZY s.r.x),eP g 0,eP g 0,eP g 1,eP g 5,eQ (ZZ ZS s.r.k),eP g 0,eP g 0,eP g 1,eP g 1,eP g 2,eQ (.slice fo s.r.fs.length fc),eP g 0,eP g 0,eP g 8,eP g 10,eQ (ZW s.r.ch),eP g 0,eP g 0,eP g 8,eP g 11,eQ (.slice bo s.r.body.length bc),eP g 0,eP g 0,eP g 8,eP g 8,eP g 9,eQ (.slice ta s.r.ts.length tc),eQ (ZU #[ZY s.r.m,ZY s.r.x,ZZ ZS s.r.k,.slice fo s.r.fs.length fc,ZW s.r.ch,.slice bo s.r.body.length bc,.slice ta s.r.ts.length tc])] (.act 38 .done) (by kernel_rfl) (by kernel_rfl) (by kernel_rfl) (by kernel_rfl) (λ_ _ d _ _ h=>by cases d<;>exact h) (by rfl) (by rfl) (by repeat first | exact trivial | refine ⟨AT _,?_⟩) ?_ ?_
 ·refine ⟨?_,?_,?_,?_,?_,?_,?_,?_,?_,?_,?_,?_,?_,?_,?_,?_,?_,?_,?_,?_,?_,?_,?_,?_,?_,?_,?_,?_,?_,?_,?_,?_,?_,?_,?_,?_,?_,?_,trivial⟩
  all_goals (refine AY rfl (λev w1 hR hb hh=>?_);have e0:=hR.old 0 rfl;simp only [Ag,C6,Cy,Cz,DV] at e0;have q3:=(HQ.out.below hb).c 3 _ rfl;have q4:=(HQ.out.below hb).c 4 _ rfl;have q5:=(HQ.out.below hb).c 5 _ rfl;have q2:=(HQ.out.below hb).c 2 _ rfl;have q10:=(HQ.out.below hb).c 10 _ rfl;have q11:=(HQ.out.below hb).c 11 _ rfl;have q9:=(HQ.out.below hb).c 9 _ rfl;exact Each.std)
 intro g1 w2 hb hf;have z40:g1 40= _:=hf.at 37;clear hf;simp only [Be,Ab,Di,Dl,Dk];rw [z40];simp only [Fk,Fl,Cz,Cy]
 have HZ2:=BN (HZ.out.below (Al (Ao _ _) hb))
 have HB2:=BN (Al HB0.out hb);have c0:=HZ2.out.c 0 _ rfl;have c1:=HZ2.out.c 1 _ rfl;have c2:=HZ2.out.c 2 _ rfl;have c3:=HZ2.out.c 3 _ rfl;have c4:=HZ2.out.c 4 _ rfl;have c5:=HZ2.out.c 5 _ rfl;have c6:=HZ2.out.c 6 _ rfl
 have z0:=HZ2.out.z 0 (by simp);have z1:=HZ2.out.z 1 (by simp);have z2:=HZ2.out.z 2 (by simp);have z3:=HZ2.out.z 3 (by simp);have z4:=HZ2.out.z 4 (by simp);have z5:=HZ2.out.z 5 (by simp);have z6:=HZ2.out.z 6 (by simp)
 refine Fi (by rfl) (λK hK=>?_);go_simp;refine hK _ _ trivial ?_;clear hK K;refine Fj ?_
 obtain ⟨X,hX,hBX,hbX, -, -, -⟩:=Rec.put7 HZ2.out (by simp) HB2.out (by rw [HG1.out];exact D5 _) (ZY s.r.m) (ZY s.r.x) (ZZ ZS s.r.k) (.slice fo s.r.fs.length fc) (ZW s.r.ch) (.slice bo s.r.body.length bc) (.slice ta s.r.ts.length tc);clear c0 c1 c2 c3 c4 c5 c6 z0 z1 z2 z3 z4 z5 z6;go_wp2;rw [hX];have d0:=hBX.c 0 _ rfl;have d1:=hBX.c 1 _ rfl;have d2:=hBX.c 2 _ rfl;have d3:=hBX.c 3 _ rfl;have d4:=hBX.c 4 _ rfl;have d5:=hBX.c 5 _ rfl;have d6:=hBX.c 6 _ rfl;refine bodyPost_ret (v:=ZU #[ZY s.r.m,ZY s.r.x,ZZ ZS s.r.k,.slice fo s.r.fs.length fc,ZW s.r.ch,.slice bo s.r.body.length bc,.slice ta s.r.ts.length tc]) (by simp [results,Tryz.results79,go_sem,d0,d1,d2,d3,d4,d5,d6]) rfl ⟨rfl,hbX⟩
theorem XXbmD {P:Prop} (h:P:=by
 go_enter Tryz.func187,Tryz.ntmps187;go_wp2;go_ret
 exact ⟨rfl,rfl⟩):P:=h
theorem tooLong_any (h:w.cell? ⟨g,24,none⟩=some (ZZ ZS (s.st:Int))):Calls Gq 187 #[ptr g] w λr w'=>r=.returned (ZZ ZS (longE s.st:Int))/\w'=w:=by
 unfold longE;generalize s.st=n at *;by_cases h1:n=1
 ·subst h1;exact XXbmD
 ·by_cases h2:n=2
  ·subst h2;exact XXbmD
  ·by_cases h7:n=7
   ·subst h7;exact XXbmD
   ·have t1:((n:Int)==1)=false:=beq_eq_false_iff_ne.2 (by omega)
    have t2:((n:Int)==2)=false:=beq_eq_false_iff_ne.2 (by omega)
    have t7:((n:Int)==7)=false:=beq_eq_false_iff_ne.2 (by omega);have m1:¬(n:Int)=1:=by omega
    have m2:¬(n:Int)=2:=by omega
    have m7:¬(n:Int)=7:=by omega
    rw [if_neg h1,if_neg (by omega)];clear h1 h2 h7;exact XXbmD
theorem emptyLine_any (hp:p<4294967296) (h:w.cell? ⟨g,13,none⟩=some (ZZ ZQ (p:Int))):Calls Gq 226 #[ptr g] w λr w'=>r=.returned (ZZ ZS ((if Ei p 0=true then 0 else 400:Nat):Int))/\w'=w:=by
 have HH0:=λw=>Ej p hp 0 w;generalize Ei p 0=e at *;have HH:=BN HH0;clear HH0
 cases e<;> (go_enter Tryz.func226,Tryz.ntmps226
             go_wp2_with (go_at_call 92;with_reducible refine Cm (HH.out _) ?_);go_ret;exact ⟨rfl,rfl⟩)
end
end Go.Proofs.YtnabkcglnbdfeaaGreatDoor.Pg
namespace Go.Proofs.YtnabkcglnbdfeaaGreatDoor.Pg
open Go.RowKit Base Txt Mem Par
theorem Outs.less {L L':List (Option Nat)} {B:Zone} {w:World} {o:Value} {out:List Eo} (h:Outs L B w o out) (hs:∀k,some k∈L'->some k∈L∨w.heap.size<=k):Outs L' B w o out:=by obtain ⟨ps,h1,h2,h3⟩:=h;exact ⟨ps,h1,λx hx=>⟨(h2 x hx).1,(h2 x hx).2.of hs⟩,h3⟩
theorem setRow_keeps (w:World) (g:Nat) (c:Array Value):Keeps [some g] w (w.setRow g c):=
 ⟨rfl,rfl,rfl,by simp [World.setRow],λk _ hn=>by
   unfold World.setRow;simp only [Array.getElem?_modify]
   rw [if_neg (λe=>hn (by rw [e];exact Dc.2 rfl))]⟩
theorem wl_val {P:Program} {ops:Array Oper} {Q:Exit->Act->World->Prop} {rest:List Oper} {o:Oper} {a:Act} {w:World} (hw:Ex o (yielded ops a.tmps)=true) (v:Value) (hv:(execOp a.eval o).run P w=.ok (.value v) w) (h:wpList P ops Q rest (a.put o.dst v) w):wpList P ops Q (o::rest) a w:=by unfold wpList;rw [if_pos hw];left;unfold Oper.wp;rw [hv,Oper.upon_value];exact h
theorem wl_act {P:Program} {ops:Array Oper} {Q:Exit->Act->World->Prop} {rest:List Oper} {o:Oper} {a:Act} {w:World} (hw:Ex o (yielded ops a.tmps)=true) (h:o.wp P a w (wpList P ops Q rest) Q):wpList P ops Q (o::rest) a w:=by unfold wpList;rw [if_pos hw];exact .inl h
theorem parser_info:(Gq.info? 55).map (·.size)=some 27:=by kernel_rfl
theorem byte_info:(Gq.info? 5).map (λi=>(i.zero,i.size,i.bytes))=some (some (ZZ ZR 0),1,1):=by kernel_rfl
theorem record_info:(Gq.info? 58).map (λi=>(i.zero,i.size,i.bytes))=some (some (ZU #[ZY AG,ZY AG,ZZ ZS 0,ZX none 0 0,ZW false,ZX none 0 0,ZX none 0 0]),7,120):=by kernel_rfl
section
set_option maxHeartbeats 4000000
set_option maxRecDepth 20000
attribute [local go_sem] An
variable {w:World} {B:Zone} {g q:Nat} {v f bd t o:Value} {p:Nat} {b:Bd} {s:T}
theorem keep_any (c:UInt8) (h:PR w B g q v f bd t o p b s) (hl:1<=s.left/\s.left<=2000000) (hbl:s.r.body.length<=2000000):Calls Gq 156 #[ZV (some ⟨g,8,none⟩),ZZ ZR (c.toNat:Int)] w λr w'=>
 r=.returned (ZW (decide (s.left=1)))/\∃bd1,PR w' B g q v f bd1 t o p b (s.keep c)/\Step (blks g q v f bd t o) (blks g q v f bd1 t o) w w':=by
 obtain ⟨iB,hi,hz0,hz1,hz2⟩:=info_parts byte_info;have I1:=BN hi;have I2:=BN hz0;have I3:=BN hz1;have I4:=BN hz2;obtain ⟨bb,cb,eb, -⟩:=Dw h.own.D;subst eb;have H:=BN h;have HBL:=BN hbl;have c11:=h.cs.c11;have z11:=h.marks 11;clear hi hz0 hz1 hz2 hbl h;by_cases hmore:1<s.left
 ·obtain ⟨k,hleft⟩:∃k,s.left=k+1:=⟨s.left-1,by omega⟩;have e:s.keep c={s with r:={s.r with body:=s.r.body ++ [c]},left:=k}:=by unfold T.keep;rw [hleft];rfl
  rw [e,decide_eq_false (show¬s.left=1 by omega)];obtain ⟨a1,a2⟩:=Et (k:Int) ⟨by omega,by omega⟩;have a3:(k:Int)+1-1=(k:Int):=by omega
  have t1:((k:Int)==0)=false:=beq_eq_false_iff_ne.2 (by omega);have t2:¬(k:Int)=0:=by omega
  have t3:¬k=0:=by omega
  clear e hmore;go_enter Tryz.func156,Tryz.ntmps156;have HLE:=BN hleft;clear hleft hl;go_upto_region 2 with
   (at_builtin;refine App.wpList_append_list _ rfl _ _ 22 rfl B 5 iB (.int .u8 0) 1 1 GI I1.out I2.out I3.out I4.out rfl (by decide) (.slice bb s.r.body.length cb) s.r.body.length (Rec.vals s.r.body) rfl (H.out.own.D.alloc (.cells #[Ep c] 5)) (some ⟨w.heap.size,0,none⟩) 1 1 [Ep c] rfl rfl (λ_=>⟨w.heap.size,0,rfl,λj u hu=>by rw [DB];exact (Em w _ rfl 5 [Ep c]).c j u hu⟩) (λu hu=>by rw [Dc.1 hu];rfl) (by have:=HBL.out;unfold maxLen;omega) (by have:=HBL.out;omega) (by have:=H.out.own.lt;have:=H.out.own.ge;simp;omega) ?_;intro v2 w5 hO5 hgr5 _ hor5;obtain ⟨b9,c9,e9, -⟩:=Dw hO5;subst e9;have hk5:Keeps [(.slice bb s.r.body.length cb:Value).ownBlock] (w.alloc (.cells #[Ep c] 5)) w5:=Keeps.grown hgr5 λk e=>by rw [e];exact Dc.2 rfl
    have h4:=H.out.below ((Ao _ _).alloc (D5 _) (.cells #[Ep c] 5));have hl:(s.r.body ++ [c]).length=s.r.body.length+1:=by simp
    obtain ⟨ho5,hs5⟩:=h4.own.setD (bd':=.slice b9 (s.r.body.length+1) c9) (body':=s.r.body ++ [c]) hk5 (by rw [hl,Rec.vals_app];exact hO5) (by
     rcases hor5 with e | e
     ·exact .inl e
     ·exact .inr ⟨_,e,D5 _⟩)
    have hrow:w5.heap[g]?= _:=hk5.row h4.row (λhm=>by
     have e:some g=(.slice bb s.r.body.length cb:Value).ownBlock:=by simpa using hm
     exact h4.own.lone.ne (i:=0) (j:=4) rfl (by decide) (by rw [e];rfl))
    have HR5:=BN hrow;have HO5:=BN ho5;have HS5:=BN ((Step.of_below ((Ao w.heap.size w).alloc (D5 _) (.cells #[Ep c] 5))).trans hs5);have d11:=row_cellL hrow (k:=11) rfl;have y11:=Dy hrow 11;clear hO5 hgr5 hor5 hk5 h4 hl ho5 hs5 hrow c11 z11)
  have H6:=BN (show PR (w5.setCell ⟨g,11,none⟩ (.slice b9 (s.r.body.length+1) c9)) B g q v f (.slice b9 (s.r.body.length+1) c9) t o p b {s with r:={s.r with body:=s.r.body ++ [c]}} from ⟨row_setL HR5.out 11 (.slice b9 (s.r.body.length+1) c9),HO5.out.set 11 (.slice b9 (s.r.body.length+1) c9)⟩)
  have HS6:=BN (HS5.out.trans (Step.set g 11 (.slice b9 (s.r.body.length+1) c9) (by simp)));clear HR5 HO5 HS5 d11 y11;generalize w5.setCell ⟨g,11,none⟩ (.slice b9 (s.r.body.length+1) c9)=W6 at *;have c12:W6.cell? ⟨g,12,none⟩=some (ZZ ZS ((k:Int)+1)):=by have:=H6.out.cs.c12;rw [HLE.out] at this;exact this
  have z12:=H6.out.marks 12
  have H7:=BN (H6.out.put 12 (ZZ ZS (k:Int)) {s with r:={s.r with body:=s.r.body ++ [c]},left:=k} rfl rfl rfl rfl rfl rfl)
  have HS7:=BN (HS6.out.trans (Step.set g 12 (ZZ ZS (k:Int)) (by simp)));clear HS6 H H6;go_wp2;go_ret;exact ⟨rfl,_,H7.out,HS7.out⟩
 ·have hleft:s.left=1:=by omega
  have e:s.keep c={s with r:={s.r with body:=s.r.body ++ [c]},left:=0}:=by unfold T.keep;rw [hleft]
  rw [e,decide_eq_true hleft];clear e hmore;go_enter Tryz.func156,Tryz.ntmps156;have HLE:=BN hleft;clear hleft hl;go_upto_region 2 with
   (at_builtin;refine App.wpList_append_list _ rfl _ _ 22 rfl B 5 iB (.int .u8 0) 1 1 GI I1.out I2.out I3.out I4.out rfl (by decide) (.slice bb s.r.body.length cb) s.r.body.length (Rec.vals s.r.body) rfl (H.out.own.D.alloc (.cells #[Ep c] 5)) (some ⟨w.heap.size,0,none⟩) 1 1 [Ep c] rfl rfl (λ_=>⟨w.heap.size,0,rfl,λj u hu=>by rw [DB];exact (Em w _ rfl 5 [Ep c]).c j u hu⟩) (λu hu=>by rw [Dc.1 hu];rfl) (by have:=HBL.out;unfold maxLen;omega) (by have:=HBL.out;omega) (by have:=H.out.own.lt;have:=H.out.own.ge;simp;omega) ?_;intro v2 w5 hO5 hgr5 _ hor5;obtain ⟨b9,c9,e9, -⟩:=Dw hO5;subst e9;have hk5:Keeps [(.slice bb s.r.body.length cb:Value).ownBlock] (w.alloc (.cells #[Ep c] 5)) w5:=Keeps.grown hgr5 λk e=>by rw [e];exact Dc.2 rfl
    have h4:=H.out.below ((Ao _ _).alloc (D5 _) (.cells #[Ep c] 5));have hl:(s.r.body ++ [c]).length=s.r.body.length+1:=by simp
    obtain ⟨ho5,hs5⟩:=h4.own.setD (bd':=.slice b9 (s.r.body.length+1) c9) (body':=s.r.body ++ [c]) hk5 (by rw [hl,Rec.vals_app];exact hO5) (by
     rcases hor5 with e | e
     ·exact .inl e
     ·exact .inr ⟨_,e,D5 _⟩)
    have hrow:w5.heap[g]?= _:=hk5.row h4.row (λhm=>by
     have e:some g=(.slice bb s.r.body.length cb:Value).ownBlock:=by simpa using hm
     exact h4.own.lone.ne (i:=0) (j:=4) rfl (by decide) (by rw [e];rfl))
    have HR5:=BN hrow;have HO5:=BN ho5;have HS5:=BN ((Step.of_below ((Ao w.heap.size w).alloc (D5 _) (.cells #[Ep c] 5))).trans hs5);have d11:=row_cellL hrow (k:=11) rfl;have y11:=Dy hrow 11;clear hO5 hgr5 hor5 hk5 h4 hl ho5 hs5 hrow c11 z11)
  have H6:=BN (show PR (w5.setCell ⟨g,11,none⟩ (.slice b9 (s.r.body.length+1) c9)) B g q v f (.slice b9 (s.r.body.length+1) c9) t o p b {s with r:={s.r with body:=s.r.body ++ [c]}} from ⟨row_setL HR5.out 11 (.slice b9 (s.r.body.length+1) c9),HO5.out.set 11 (.slice b9 (s.r.body.length+1) c9)⟩)
  have HS6:=BN (HS5.out.trans (Step.set g 11 (.slice b9 (s.r.body.length+1) c9) (by simp)));clear HR5 HO5 HS5 d11 y11;generalize w5.setCell ⟨g,11,none⟩ (.slice b9 (s.r.body.length+1) c9)=W6 at *;have c12:W6.cell? ⟨g,12,none⟩=some (ZZ ZS 1):=by have:=H6.out.cs.c12;rw [HLE.out] at this;exact this
  have z12:=H6.out.marks 12
  have H7:=BN (H6.out.put 12 (ZZ ZS 0) {s with r:={s.r with body:=s.r.body ++ [c]},left:=0} rfl rfl rfl rfl rfl rfl)
  have HS7:=BN (HS6.out.trans (Step.set g 12 (ZZ ZS 0) (by simp)));clear HS6 H H6;go_wp2;go_ret;exact ⟨rfl,_,H7.out,HS7.out⟩
theorem count_any (most:Int) (h:PR w B g q v f bd t o p b s) (hsz:s.size<=1000000):Calls Gq 158 #[ZV (some ⟨g,1,none⟩),ZZ ZS most] w λr w'=>
 r=.returned (ZW (!decide (most<(s.counted.size:Int))))/\PR w' B g q v f bd t o p b s.counted/\Step (blks g q v f bd t o) (blks g q v f bd t o) w w':=by
 obtain ⟨a1,a2⟩:=Et ((s.size:Int)+1) ⟨by omega,by omega⟩;have c6:=h.cs.c6;have z6:=h.marks 6;have c7:=h.cs.c7;have z7:=h.marks 7;have H:=BN h;unfold T.counted;cases hc:s.cnt with
 | true=>
   rw [hc] at c7;have HC:=BN hc;clear h hc;rw [if_pos rfl]
   by_cases hm:most<(s.size:Int)
   ·have t1:¬(s.size:Int)<=most:=by omega
    rw [decide_eq_true hm];clear hm;go_enter Tryz.func158,Tryz.ntmps158;go_wp2;go_ret;exact ⟨rfl,H.out,Step.refl⟩
   ·have t1:(s.size:Int)<=most:=by omega
    rw [decide_eq_false hm];clear hm;go_enter Tryz.func158,Tryz.ntmps158;go_wp2;go_ret;exact ⟨rfl,H.out,Step.refl⟩
 | false=>
   rw [hc] at c7
   have H2:=BN ((h.put 7 (ZW true) {s with cnt:=true} rfl rfl rfl rfl rfl rfl).put 6 (ZZ ZS ((s.size:Int)+1)) {s with cnt:=true,size:=s.size+1} rfl rfl rfl rfl rfl rfl)
   have HS2:=BN ((Step.set (w:=w) (L:=blks g q v f bd t o) g 7 (ZW true) (by simp)).trans (Step.set g 6 (ZZ ZS ((s.size:Int)+1)) (by simp)));clear h hc;rw [if_neg (by decide)]
   by_cases hm:most<((s.size+1:Nat):Int)
   ·have t1:¬(s.size:Int)+1<=most:=by omega
    rw [decide_eq_true hm];clear hm;go_enter Tryz.func158,Tryz.ntmps158;go_wp2;go_ret;exact ⟨rfl,H2.out,HS2.out⟩
   ·have t1:(s.size:Int)+1<=most:=by omega
    rw [decide_eq_false hm];clear hm;go_enter Tryz.func158,Tryz.ntmps158;go_wp2;go_ret;exact ⟨rfl,H2.out,HS2.out⟩
theorem fail_zero (w:World) (g:Nat):Calls Gq 159 #[ptr g,ZZ ZS 0] w λr w'=>r=.returned (ZT #[])/\w'=w:=by go_enter Tryz.func159,Tryz.ntmps159;go_wp2;go_end0;exact ⟨rfl,rfl⟩
theorem fail_any (h:PR w B g q v f bd t o p b s) (e:Nat) (he:e≠0) (x:Int) (hx:x=(e:Int)):Calls Gq 159 #[ptr g,ZZ ZS x] w λr w'=>
 r=.returned (ZT #[])/\Dead w' B g e o s.out/\Step (blks g q v f bd t o) [some g,o.ownBlock] w w':=by
 subst hx;obtain ⟨ps0, -, -,hrow0⟩:=h.own.O;obtain ⟨oo,oc,eo, -⟩:=Dw hrow0;subst eo;clear hrow0;obtain ⟨W1,hW1⟩:∃W1,w.setRow g (deadcells e (.slice oo s.out.length oc)).toArray=W1:=⟨_,rfl⟩;have hk:Keeps [some g] w W1:=by rw [←hW1];exact setRow_keeps _ _ _
 have hrow:W1.heap[g]?=some (.cells (deadcells e (.slice oo s.out.length oc)).toArray 55 (0,0)):=by rw [←hW1];exact setRow_heap w g _ _ _ _ h.row
 have hne:(Value.slice oo s.out.length oc).ownBlock≠some g:=λe=>h.own.lone.ne (i:=0) (j:=6) rfl (by decide) (by rw [←e];rfl);have hsub:∀k,some k∈ [some g,(Value.slice oo s.out.length oc).ownBlock]->some k∈blks g q v f bd t (.slice oo s.out.length oc):=λk hk=>by
  simp only [CV,De,or_false] at hk ⊢;rcases hk with hk | hk
  ·exact .inl hk
  ·exact .inr (.inr (.inr (.inr (.inr (.inr hk)))))
 have HD:=BN (show Dead W1 B g e (.slice oo s.out.length oc) s.out from ⟨hrow,Outs.less (h.own.O.keeps hk (λk hk=>by simp only [Dc] at hk;simp [hk]) (λk e hm=>hne (by rw [e,Dc.1 hm]))) (λk hk=>.inl (hsub k hk)),hne,h.own.ge,D8 h.own.lt hk.size,he,h.own.zone.of hk.size λk hk=>.inl (hsub k hk)⟩)
 have HS:=BN (show Step (blks g q v f bd t (.slice oo s.out.length oc)) [some g,(Value.slice oo s.out.length oc).ownBlock] w W1 from ⟨hk.mono (λk hk=>by simp only [Dc] at hk;simp [hk]),λk hk=>.inl (hsub k hk)⟩);have c26:=h.cs.c26;have HR:=BN h.row;have HW1:=BN hW1
 have t1:((e:Int)==0)=false:=beq_eq_false_iff_ne.2 (by omega);have t2:¬(e:Int)=0:=by omega
 have t3:((e:Int) != 0)=true:=bne_iff_ne.2 t2;clear hk hrow hne hsub h he hW1;go_enter Tryz.func159,Tryz.ntmps159;go_upto_region 1 with fail
 refine wp_region_lit ?_;refine wl_val (by rfl) (ptr g) (by go_simp) ?_;simp only [Ab,Di,Dl,Dk];refine wl_val (by rfl) (ZZ ZS (e:Int)) (by go_simp) ?_;simp only [Ab,Di,Dl,Dk];refine wl_val (by rfl) (ZU #[ZZ ZS (e:Int)]) (by go_simp) ?_;simp only [Ab,Di,Dl,Dk];refine wl_val (by rfl) (ptr g) (by go_simp) ?_;simp only [Ab,Di,Dl,Dk];refine wl_val (by rfl) (ptr g) (by go_simp) ?_;simp only [Ab,Di,Dl,Dk];refine wl_val (by rfl) (ZV (some ⟨g,26,none⟩)) (by go_simp) ?_;simp only [Ab,Di,Dl,Dk];refine wl_val (by rfl) (.slice oo s.out.length oc) (by go_simp) ?_;simp only [Ab,Di,Dl,Dk];refine wl_val (by rfl) (ZU (deadcells e (.slice oo s.out.length oc)).toArray) (by go_simp) ?_;simp only [Ab,Di,Dl,Dk];refine wl_val (by rfl) (ptr g) (by go_simp) ?_;simp only [Ab,Di,Dl,Dk]
 refine wl_act (by rfl) (wp_store_row 55 (.tmp 14) (.tmp 13) rfl g (deadcells e (.slice oo s.out.length oc)).toArray rfl rfl 55 _ HR.out parser_info rfl (Array.all_eq_true_iff_forall_mem.2 (by intro u hu;simp only [List.mem_toArray,CV,De,or_false] at hu;rcases hu with rfl | rfl | rfl | rfl | rfl | rfl | rfl | rfl | rfl | rfl | rfl | rfl | rfl | rfl | rfl | rfl | rfl | rfl | rfl | rfl | rfl | rfl | rfl | rfl | rfl | rfl | rfl<;>rfl)) ?_);rw [HW1.out];refine wpList_nil ?_;go_wp2;go_end0;exact ⟨rfl,HD.out,HS.out⟩
theorem XXU8h {P:Prop} (h:P:=by
 have H2:=H.out.below hb;obtain ⟨ps,hps,hfar,hrow⟩:=H2.own.O;obtain ⟨bo,co,eo, -⟩:=Dw hrow;subst eo
 obtain ⟨v',w3,hrun,ho,hgr,hor⟩:=App.run_append_list w2 39 39 B 58 iR (.agg #[.string AG,.string AG,.int .i64 0,.slice none 0 0,.bool false,.slice none 0 0,.slice none 0 0]) 7 120 Tryz.underlying39 I1.out I2.out I3.out I4.out rfl (by decide) (.slice bo s.out.length co) s.out.length (ps.flatMap (·.1.toList)) hrow (some ⟨gl,0,none⟩) 1 1 [.string s.r.m,.string s.r.x,.int .i64 s.r.k,f,.bool s.r.ch,bd,t] rfl (λ_=>⟨gl,0,rfl,λj u hu=>by rw [DB];exact hBl.c j u hu⟩) (by intro u hu;simp only [CV,De,or_false] at hu;rcases hu with rfl | rfl | rfl | rfl | rfl | rfl | rfl<;>first | rfl | exact one_own H2.own.F | exact one_own H2.own.D | exact one_own H2.own.TR) (by have:=HN.out;unfold maxLen;omega) (by have:=HN.out;omega) (D7 H2.own.ge (D4 H2.own.lt));obtain ⟨b9,c9,e9, -⟩:=Dw ho;subst e9;have HP:=H2.own.push hgr ps hps hfar ho hor;have hr3:w3.heap[g]?=some (.cells (pgcells p b s q f bd t (.slice bo s.out.length co)).toArray 55 (0,0)):=(hgr.block g H2.own.lt (λe=>H2.own.lone.ne (i:=0) (j:=6) rfl (by decide) (by rw [e];rfl))).trans H2.row
 refine Fi (by rfl) (λK hK=>?_);refine Each.oper_append _ _ _ rfl (by rfl) (by rfl) hrun ?_;refine hK _ _ trivial ?_;clear hK K hrun;simp only [Ab,Di,Dl,Dk];refine Fm (by rfl) (ptr g) (λ_ _=>by go_simp) ?_;simp only [Ab,Di,Dl,Dk];refine Fm (by rfl) (ZV (some ⟨g,26,none⟩)) (λ_ _=>by go_simp) ?_;simp only [Ab,Di,Dl,Dk];have c26:=(Cs.of hr3).c26;have z26:=Dy hr3 26
 refine Fi (by rfl) (λK hK=>?_);go_simp;refine hK _ _ trivial ?_;clear hK K;refine Fj ?_
 have HR4:=BN (row_setL hr3 26 (.slice b9 (s.out.length+1) c9))
 have HO4:=BN (HP.set 26 (.slice b9 (s.out.length+1) c9))
 have HS4:=BN (((Step.of_below hb (L:=blks g q v f bd t (.slice bo s.out.length co))).trans (Step.push hgr hor)).trans (Step.set g 26 (.slice b9 (s.out.length+1) c9) (by simp)));clear c26 z26 hr3 HP hgr ho hor hrow hfar hps H2 hBl;generalize w3.setCell ⟨g,26,none⟩ (.slice b9 (s.out.length+1) c9)=W4 at *;have cs:=Cs.of (s:={s with out:=s.out ++ [s.r]}) (o:=.slice b9 (s.out.length+1) c9) HR4.out;have c1:=cs.c1;have z1:=Dy HR4.out 1;have c2:=cs.c2;have z2:=Dy HR4.out 2;have c3:=cs.c3;have z3:=Dy HR4.out 3;have c4:=cs.c4;have z4:=Dy HR4.out 4;have c5:=cs.c5;have z5:=Dy HR4.out 5;have c6:=cs.c6;have z6:=Dy HR4.out 6;have c7:=cs.c7;have z7:=Dy HR4.out 7;have c8:=cs.c8;have z8:=Dy HR4.out 8;have c9:=cs.c9;have z9:=Dy HR4.out 9;have c10:=cs.c10;have z10:=Dy HR4.out 10;have c11:=cs.c11;have z11:=Dy HR4.out 11;have c12:=cs.c12;have z12:=Dy HR4.out 12;have c24:=cs.c24;have z24:=Dy HR4.out 24;clear cs;go_wp2;go_end0
 exact ⟨rfl,_,⟨row_setL (row_setL (row_setL (row_setL (row_setL (row_setL (row_setL (row_setL (row_setL (row_setL (row_setL (row_setL (row_setL (HR4.out) 1 (ZZ ZS 0)) 2 (nil)) 3 (ZY E0)) 4 (ZY E0)) 5 (ZZ ZS 0)) 6 (ZZ ZS 0)) 7 (ZW false)) 8 (ZZ ZS 0)) 9 (nil)) 10 (ZW false)) 11 (nil)) 12 (ZZ ZS 0)) 24 (ZZ ZS 1),(((((((((((((HO4.out).set 1 (ZZ ZS 0)).set 2 (nil)).set 3 (ZY E0)).set 4 (ZY E0)).set 5 (ZZ ZS 0)).set 6 (ZZ ZS 0)).set 7 (ZW false)).set 8 (ZZ ZS 0)).set 9 (nil)).set 10 (ZW false)).set 11 (nil)).set 12 (ZZ ZS 0)).set 24 (ZZ ZS 1)⟩,(((((((((((((HS4.out).trans (Step.set g 1 (ZZ ZS 0) (by simp))).trans (Step.set g 2 (nil) (by simp))).trans (Step.set g 3 (ZY E0) (by simp))).trans (Step.set g 4 (ZY E0) (by simp))).trans (Step.set g 5 (ZZ ZS 0) (by simp))).trans (Step.set g 6 (ZZ ZS 0) (by simp))).trans (Step.set g 7 (ZW false) (by simp))).trans (Step.set g 8 (ZZ ZS 0) (by simp))).trans (Step.set g 9 (nil) (by simp))).trans (Step.set g 10 (ZW false) (by simp))).trans (Step.set g 11 (nil) (by simp))).trans (Step.set g 12 (ZZ ZS 0) (by simp))).trans (Step.set g 24 (ZZ ZS 1) (by simp))⟩):P:=h
theorem XXATG {P:Prop} (h:P:=by refine AY rfl (λev w1 hR hb hh=>?_);have e0:=hR.old 0 rfl;simp only [Ag,C6,Cy,Cz,DV] at e0;have q26:=(HQ.out.below hb).c 26 _ rfl;exact Each.std):P:=h
theorem _root_.Go.Proofs.YtnabkcglnbdfeaaGreatDoor.XXUgj {P:Prop} (h:P:=by
 rintro r w2 ⟨rfl,hb2⟩
 exact ⟨_,rfl,hb2,rfl⟩):P:=h
theorem _root_.Go.Proofs.YtnabkcglnbdfeaaGreatDoor.XX4eD {P:Prop} (h:P:=by
 clear hh
 exact AO.value (ZX (some ⟨w1.heap.size,0,none⟩) 1 1) (w1.alloc (.cells #[ZY s.r.m,ZY s.r.x,ZZ ZS s.r.k,f,ZW s.r.ch,bd,t] 58)) (by go_simp) ((Ao _ _).alloc (D5 _) _) ⟨_,rfl,Em w1 _ rfl 58 [ZY s.r.m,ZY s.r.x,ZZ ZS s.r.k,f,ZW s.r.ch,bd,t]⟩):P:=h
theorem finish_any (h:PR w B g q v f bd t o p b s) (hn:s.out.length<=1000000000):Calls Gq 183 #[ptr g] w λr w'=>
 r=.returned (ZT #[])/\∃o1,PR w' B g q v nil nil nil o1 p b s.fin/\Step (blks g q v f bd t o) (blks g q v nil nil nil o1) w w':=by
 obtain ⟨iR,hi,hz0,hz1,hz2⟩:=info_parts record_info;have I1:=BN hi;have I2:=BN hz0;have I3:=BN hz1;have I4:=BN hz2;clear hi hz0 hz1 hz2
 have H:=BN h;have HN:=BN hn;have HD:=BN (h.drew 1)
 have HQ:=BN ((h.drew 1).bk);clear h hn;go_enter Tryz.func183,Tryz.ntmps183;go_upto_region 0 with fail
 refine Each.region_float 8 [2,3,4,5,6,7,8,9] [eP g 0,eP g 0,eP g 0,eP g 26,eQ (o),eP g 0,eQ (ZU #[ZY s.r.m,ZY s.r.x,ZZ ZS s.r.k,f,ZW s.r.ch,bd,t]),λv w=>∃g1,v=ZX (some ⟨g1,0,none⟩) 1 1/\El w g1 [ZY s.r.m,ZY s.r.x,ZZ ZS s.r.k,f,ZW s.r.ch,bd,t]] [] 4 (some 0) (.act 8 (.quiet 9 (.quiet 10 (.act 11 .done)))) (.quiet 0 (.act 8 (.quiet 9 (.quiet 10 (.act 11 .done))))) (by kernel_rfl) (by kernel_rfl) (by kernel_rfl) (by kernel_rfl) (λk0 h=>by cases h;kernel_rfl) (λ_ _ d _ _ h=>by cases d<;>exact h) (by rfl) (by rfl) ⟨AT _,AT _,AT _,AT _,AT _,AT _,AT _,((λ_ _ _ hb h=>by obtain ⟨g1,e1,hB⟩:=h;exact ⟨g1,e1,hB.below hb⟩)),trivial⟩ trivial (by rfl) ?_ ?_ ?_
 ·refine ⟨?_,?_,?_,?_,?_,?_,?_,?_,trivial⟩
  ·exact XXATG
  ·exact XXATG
  ·exact XXATG
  ·exact XXATG
  ·exact XXATG
  ·exact XXATG
  ·refine AY rfl (λev w1 hR hb hh=>?_);have e7:ev (.tmp 7)= _:=hh.at 0;clear hh;have ef:=hR.func
   refine AP 79 #[ptr g] (by go_simp) ((draft_any (HD.out.below hb)).mono ?_);exact XXUgj
  ·refine AY rfl (λev w1 hR hb hh=>?_);have e8:ev (.tmp 8)= _:=hh.at 0;exact XX4eD
 ·intro g1 w2 hb hf;have z2:g1 2= _:=hf.at 0;have z6:g1 6= _:=hf.at 4;have z9:=hf.at 7;clear hf;obtain ⟨gl,el,hBl⟩:=z9;simp only [Be,Ab,Di,Dl,Dk];rw [z2,z6,el];simp only [Fk,Fl,Cz,Cy];exact XXU8h
 ·intro k0 hk0 g1 w2 hb hf;cases hk0;have z6:g1 6= _:=hf.at 4;have z9:=hf.at 7;clear hf;obtain ⟨gl,el,hBl⟩:=z9;simp only [Be,Ab,Di,Dl,Dk];rw [z6,el];simp only [Fk,Fl,Cz,Cy];refine Fm (by rfl) (ptr g) (λ_ _=>by go_simp) ?_;simp only [Ab,Di,Dl,Dk];exact XXU8h
theorem endData_any (hp:p<4294967296) (h:PR w B g q v f bd t o p b s) (hn:s.out.length<=1000000000):Calls Gq 157 #[ptr g] w λr w'=>
 r=.returned (ZT #[])/\∃q1 v1 f1 bd1 t1 o1,PR w' B g q1 v1 f1 bd1 t1 o1 p b (s.endData p)/\Step (blks g q v f bd t o) (blks g q1 v1 f1 bd1 t1 o1) w w':=by
 have c10:=h.cs.c10;unfold T.endData;cases hc:s.r.ch with
 | true=>
   rw [hc] at c10
   have HE:=BN (enter_any hp h 6 6 rfl 0);rw [if_pos rfl];clear h hc;go_enter Tryz.func157,Tryz.ntmps157
   go_wp2_with (go_at_call 72;with_reducible refine HE.out.mono ?_;rintro r w2 ⟨rfl,q1,hP,hS⟩);first | go_end0 | refine bodyPost_ret (results_none rfl _ _ _) rfl ?_
   exact ⟨rfl,_,_,_,_,_,_,hP,hS⟩
 | false=>
   rw [hc] at c10
   have HE:=BN (finish_any h hn);rw [if_neg (by decide)];clear h hc;go_enter Tryz.func157,Tryz.ntmps157
   go_wp2_with (go_at_call 183;with_reducible refine HE.out.mono ?_;rintro r w2 ⟨rfl,o1,hP,hS⟩);first | go_end0 | refine bodyPost_ret (results_none rfl _ _ _) rfl ?_
   exact ⟨rfl,_,_,_,_,_,_,hP,hS⟩
end
end Go.Proofs.YtnabkcglnbdfeaaGreatDoor.Pg
namespace Go.Proofs.YtnabkcglnbdfeaaGreatDoor.Pg
open Go.RowKit Base Txt Mem Par
theorem _root_.Go.Proofs.YtnabkcglnbdfeaaGreatDoor.XXWvg {P:Prop} (h:P:=by
 have e:(cells ini).length=ini.length*2:=cells_length ini;have e2:cells [a]= [ZY a.1,ZY a.2]:=by simp [cells]
 rw [cells_append,e2];refine ⟨?_,?_⟩
 ·rw [List.getElem?_append_right (by omega),e,Nat.sub_self];rfl
 ·rw [List.getElem?_append_right (by omega),e,show ini.length*2+1-ini.length*2=1 by omega];rfl):P:=h
theorem cells_last (ini:List Fld) (a:Fld):(cells (ini ++ [a]))[ini.length*2]?=some (ZY a.1)/\(cells (ini ++ [a]))[ini.length*2+1]?=some (ZY a.2):=by exact XXWvg
theorem _root_.Go.Proofs.YtnabkcglnbdfeaaGreatDoor.XXysj {P:Prop} (h:P:=by
 have e:(cells ini).length=ini.length*2:=cells_length ini;have e2:∀d:Fld,cells [d]= [ZY d.1,ZY d.2]:=λd=>by simp [cells]
 rw [cells_append,cells_append,e2,e2,List.set_append_right _ _ (by omega),e,Nat.sub_self,List.set_append_right _ _ (by omega),e,show ini.length*2+1-ini.length*2=1 by omega]
 rfl):P:=h
theorem cells_put (ini:List Fld) (a c:Fld):((cells (ini ++ [a])).set (ini.length*2) (ZY c.1)).set (ini.length*2+1) (ZY c.2)=cells (ini ++ [c]):=by exact XXysj
section
set_option maxHeartbeats 4000000
set_option maxRecDepth 20000
attribute [local go_sem] An
variable {w:World} {B:Zone} {g q:Nat} {v f bd t o:Value} {p:Nat} {b:Bd} {s:T}
theorem XXDC0 {P:Prop} (h:P:=by
 have HB4:=BN (HB3.out.alloc HB3.out.size (.cells #[ZY (ba n),ZY (ba vv)] 126))
 have HL4:=BN (Em w3 w3.heap.size rfl 126 [ZY (ba n),ZY (ba vv)]);generalize w3.alloc (.cells #[ZY (ba n),ZY (ba vv)] 126)=W4 at *;generalize w3.heap.size=gL at *
 have H4:=BN (H1.out.below HB4.out);have HS4:=BN (HS1.out.trans (Step.of_below HB4.out))
 have HQ:=BN ((H4.out.drew 1).bk);have HQL:=BN (HL4.out.drew 1);clear b1 b2 b3 c2 H1 HS1 HB3 HB4 HL4;refine Each.region_float 7 [62,63,64,65,66,67,68] [eP g 1,eP g 1,eP g 1,eP g 2,eQ (.slice bo s.r.fs.length co),eQ (ZU #[ZY (ba n),ZY (ba vv)]),λv w=>∃g1,v=ZX (some ⟨g1,0,none⟩) 1 1/\El w g1 [ZY (ba n),ZY (ba vv)]] [] 4 (some 0) (.act 7 (.quiet 8 (.quiet 9 (.act 10 .done)))) (.quiet 0 (.act 7 (.quiet 8 (.quiet 9 (.act 10 .done))))) (by kernel_rfl) (by kernel_rfl) (by kernel_rfl) (by kernel_rfl) (λk0 h=>by cases h;kernel_rfl) (λ_ _ d _ _ h=>by cases d<;>exact h) (by rfl) (by rfl) ⟨AT _,AT _,AT _,AT _,AT _,AT _,((λ_ _ _ hb h=>by obtain ⟨g1,e1,hB⟩:=h;exact ⟨g1,e1,hB.below hb⟩)),trivial⟩ trivial (by rfl) ?_ ?_ ?_
 ·refine ⟨?_,?_,?_,?_,?_,?_,?_,trivial⟩
  ·refine AY rfl (λev w1 hR hb hh=>?_);have e0:=hR.old 0 rfl;have e10:=hR.old 10 rfl;simp only [Ag,C6,Cy,Cz,DV] at e0 e10;have q2:=(HQ.out.below hb).c 2 _ rfl;have q0:=(HQL.out.below hb).c 0 _ rfl;have q1:=(HQL.out.below hb).c 1 _ rfl;exact Each.std
  ·refine AY rfl (λev w1 hR hb hh=>?_);have e0:=hR.old 0 rfl;have e10:=hR.old 10 rfl;simp only [Ag,C6,Cy,Cz,DV] at e0 e10;have q2:=(HQ.out.below hb).c 2 _ rfl;have q0:=(HQL.out.below hb).c 0 _ rfl;have q1:=(HQL.out.below hb).c 1 _ rfl;exact Each.std
  ·refine AY rfl (λev w1 hR hb hh=>?_);have e0:=hR.old 0 rfl;have e10:=hR.old 10 rfl;simp only [Ag,C6,Cy,Cz,DV] at e0 e10;have q2:=(HQ.out.below hb).c 2 _ rfl;have q0:=(HQL.out.below hb).c 0 _ rfl;have q1:=(HQL.out.below hb).c 1 _ rfl;exact Each.std
  ·refine AY rfl (λev w1 hR hb hh=>?_);have e0:=hR.old 0 rfl;have e10:=hR.old 10 rfl;simp only [Ag,C6,Cy,Cz,DV] at e0 e10;have q2:=(HQ.out.below hb).c 2 _ rfl;have q0:=(HQL.out.below hb).c 0 _ rfl;have q1:=(HQL.out.below hb).c 1 _ rfl;exact Each.std
  ·refine AY rfl (λev w1 hR hb hh=>?_);have e0:=hR.old 0 rfl;have e10:=hR.old 10 rfl;simp only [Ag,C6,Cy,Cz,DV] at e0 e10;have q2:=(HQ.out.below hb).c 2 _ rfl;have q0:=(HQL.out.below hb).c 0 _ rfl;have q1:=(HQL.out.below hb).c 1 _ rfl;exact Each.std
  ·refine AY rfl (λev w1 hR hb hh=>?_);have e0:=hR.old 0 rfl;have e10:=hR.old 10 rfl;simp only [Ag,C6,Cy,Cz,DV] at e0 e10;have q2:=(HQ.out.below hb).c 2 _ rfl;have q0:=(HQL.out.below hb).c 0 _ rfl;have q1:=(HQL.out.below hb).c 1 _ rfl;exact Each.std
  ·refine AY rfl (λev w1 hR hb hh=>?_);have e67:ev (.tmp 67)= _:=hh.at 0;clear hh;exact AO.value (ZX (some ⟨w1.heap.size,0,none⟩) 1 1) (w1.alloc (.cells #[ZY (ba n),ZY (ba vv)] 126)) (by go_simp) ((Ao _ _).alloc (D5 _) _) ⟨_,rfl,Em w1 _ rfl 126 [ZY (ba n),ZY (ba vv)]⟩
 ·intro g1 w5 hb hf;have z62:g1 62= _:=hf.at 0;have z66:g1 66= _:=hf.at 4;have z68:=hf.at 6;clear hf;obtain ⟨gl,el,hBl⟩:=z68;simp only [Be,Ab,Di,Dl,Dk];rw [z62,z66,el];simp only [Fk,Fl,Cz,Cy]
  have H5:=H4.out.below (Al (Ao W4.heap.size W4) hb)
  obtain ⟨v',w6,hrun,hO5,hgr5,hor5⟩:=App.run_append_list w5 46 46 B 126 iF (.agg #[.string AG,.string AG]) 2 32 Tryz.underlying46 I1.out I2.out I3.out I4.out rfl (by decide) (.slice bo s.r.fs.length co) s.r.fs.length (cells s.r.fs) H5.own.F (some ⟨gl,0,none⟩) 1 1 [.string (ba n),.string (ba vv)] rfl (λ_=>⟨gl,0,rfl,λj u hu=>by rw [DB];exact hBl.c j u hu⟩) (by intro u hu;rcases (by simpa using hu:u=.string (ba n)∨u=.string (ba vv)) with rfl | rfl<;>rfl) (by have:=HLEN.out;unfold maxLen;omega) (by have:=HLEN.out;omega) (D7 H5.own.ge (D4 H5.own.lt));obtain ⟨bz,cz,ez, -⟩:=Dw hO5;subst ez;have hl5:(s.r.fs ++ [(ba n,ba vv)]).length=s.r.fs.length+1:=by simp
  have hk5:Keeps [(.slice bo s.r.fs.length co:Value).ownBlock] w5 w6:=Keeps.grown hgr5 λk e=>by rw [e];exact Dc.2 rfl
  obtain ⟨ho5,hs5⟩:=H5.own.setF (f':=.slice bz (s.r.fs.length+1) cz) (fs':=s.r.fs ++ [(ba n,ba vv)]) hk5 (by rw [hl5,cells_append];exact hO5) (by
   rcases hor5 with e | e
   ·exact .inl e
   ·exact .inr ⟨_,e,D5 _⟩)
  have hrow:w6.heap[g]?= _:=hk5.row H5.row (λhm=>by
   have e:some g=(.slice bo s.r.fs.length co:Value).ownBlock:=by simpa using hm
   exact H5.own.lone.ne (i:=0) (j:=3) rfl (by decide) (by rw [e];rfl))
  refine Fi (by rfl) (λK hK=>?_);refine Each.oper_append _ _ _ rfl (by rfl) (by rfl) hrun ?_;refine hK _ _ trivial ?_;clear hK K hrun;simp only [Ab,Di,Dl,Dk];refine Fm (by rfl) (ZV (some ⟨g,1,none⟩)) (λ_ _=>by go_simp) ?_;simp only [Ab,Di,Dl,Dk];refine Fm (by rfl) (ZV (some ⟨g,2,none⟩)) (λ_ _=>by go_simp) ?_;simp only [Ab,Di,Dl,Dk];have c2:=row_cellL hrow (k:=2) rfl;have z2:=Dy hrow 2
  refine Fi (by rfl) (λK hK=>?_);go_simp;refine hK _ _ trivial ?_;clear hK K;refine Fj ?_
  have HR6:=BN (row_setL hrow 2 (.slice bz (s.r.fs.length+1) cz));have HO6:=BN (ho5.set 2 (.slice bz (s.r.fs.length+1) cz))
  have HS6:=BN ((HS4.out.trans ((Step.of_below (Al (Ao W4.heap.size W4) hb)).trans hs5)).trans (Step.set g 2 (.slice bz (s.r.fs.length+1) cz) (by simp)));clear c2 z2 hrow ho5 hs5 hk5 hl5 hO5 hgr5 hor5 H5 hBl;go_wp2;go_ret;exact ⟨rfl,_,⟨HR6.out,HO6.out⟩,HS6.out⟩
 ·intro k0 hk0 g1 w5 hb hf;cases hk0;have z66:g1 66= _:=hf.at 4;have z68:=hf.at 6;clear hf;obtain ⟨gl,el,hBl⟩:=z68;simp only [Be,Ab,Di,Dl,Dk];rw [z66,el];simp only [Fk,Fl,Cz,Cy];refine Fm (by rfl) (ZV (some ⟨g,1,none⟩)) (λ_ _=>by go_simp) ?_;simp only [Ab,Di,Dl,Dk]
  have H5:=H4.out.below (Al (Ao W4.heap.size W4) hb)
  obtain ⟨v',w6,hrun,hO5,hgr5,hor5⟩:=App.run_append_list w5 46 46 B 126 iF (.agg #[.string AG,.string AG]) 2 32 Tryz.underlying46 I1.out I2.out I3.out I4.out rfl (by decide) (.slice bo s.r.fs.length co) s.r.fs.length (cells s.r.fs) H5.own.F (some ⟨gl,0,none⟩) 1 1 [.string (ba n),.string (ba vv)] rfl (λ_=>⟨gl,0,rfl,λj u hu=>by rw [DB];exact hBl.c j u hu⟩) (by intro u hu;rcases (by simpa using hu:u=.string (ba n)∨u=.string (ba vv)) with rfl | rfl<;>rfl) (by have:=HLEN.out;unfold maxLen;omega) (by have:=HLEN.out;omega) (D7 H5.own.ge (D4 H5.own.lt));obtain ⟨bz,cz,ez, -⟩:=Dw hO5;subst ez;have hl5:(s.r.fs ++ [(ba n,ba vv)]).length=s.r.fs.length+1:=by simp
  have hk5:Keeps [(.slice bo s.r.fs.length co:Value).ownBlock] w5 w6:=Keeps.grown hgr5 λk e=>by rw [e];exact Dc.2 rfl
  obtain ⟨ho5,hs5⟩:=H5.own.setF (f':=.slice bz (s.r.fs.length+1) cz) (fs':=s.r.fs ++ [(ba n,ba vv)]) hk5 (by rw [hl5,cells_append];exact hO5) (by
   rcases hor5 with e | e
   ·exact .inl e
   ·exact .inr ⟨_,e,D5 _⟩)
  have hrow:w6.heap[g]?= _:=hk5.row H5.row (λhm=>by
   have e:some g=(.slice bo s.r.fs.length co:Value).ownBlock:=by simpa using hm
   exact H5.own.lone.ne (i:=0) (j:=3) rfl (by decide) (by rw [e];rfl))
  refine Fi (by rfl) (λK hK=>?_);refine Each.oper_append _ _ _ rfl (by rfl) (by rfl) hrun ?_;refine hK _ _ trivial ?_;clear hK K hrun;simp only [Ab,Di,Dl,Dk];refine Fm (by rfl) (ZV (some ⟨g,1,none⟩)) (λ_ _=>by go_simp) ?_;simp only [Ab,Di,Dl,Dk];refine Fm (by rfl) (ZV (some ⟨g,2,none⟩)) (λ_ _=>by go_simp) ?_;simp only [Ab,Di,Dl,Dk];have c2:=row_cellL hrow (k:=2) rfl;have z2:=Dy hrow 2
  refine Fi (by rfl) (λK hK=>?_);go_simp;refine hK _ _ trivial ?_;clear hK K;refine Fj ?_
  have HR6:=BN (row_setL hrow 2 (.slice bz (s.r.fs.length+1) cz));have HO6:=BN (ho5.set 2 (.slice bz (s.r.fs.length+1) cz))
  have HS6:=BN ((HS4.out.trans ((Step.of_below (Al (Ao W4.heap.size W4) hb)).trans hs5)).trans (Step.set g 2 (.slice bz (s.r.fs.length+1) cz) (by simp)));clear c2 z2 hrow ho5 hs5 hk5 hl5 hO5 hgr5 hor5 H5 hBl;go_wp2;go_ret
  exact ⟨rfl,_,⟨HR6.out,HO6.out⟩,HS6.out⟩):P:=h
theorem XXNoy {P:Prop} (h:P:=by refine AY rfl (λev w1 hR hb hh=>?_);have e0:=hR.old 0 rfl;have e9:=hR.old 9 rfl;have e1:=hR.old 1 rfl;simp only [Ag,C6,Cy,Cz,DV] at e0 e9 e1;have q2:=(HQ.out.below hb).c 2 _ rfl;have y0:=((Al HD.out hb).cell (p:=⟨gf,k*2,none⟩) HGF.out).trans HQ0.out;have y1:=((Al HD.out hb).cell (p:=⟨gf,k*2+1,none⟩) HGF.out).trans HQ1.out;exact Each.std):P:=h
theorem _root_.Go.Proofs.YtnabkcglnbdfeaaGreatDoor.XXvfE {P:Prop} (h:P:=by
 go_ret
 have h4:=H1.out.below (HB3.out.alloc HB3.out.size (.cells #[ZY ⟨#[]⟩,ZY ⟨#[]⟩] 126));first
  |exact ⟨rfl,_,h4,HS1.out.trans (Step.of_below (HB3.out.alloc HB3.out.size (.cells #[.string ⟨#[]⟩,.string ⟨#[]⟩] 126)))⟩
  |exact ⟨_,rfl,h4.row,h4.own,HS1.out.trans (Step.of_below (HB3.out.alloc HB3.out.size (.cells #[.string ⟨#[]⟩,.string ⟨#[]⟩] 126)))⟩):P:=h
theorem _root_.Go.Proofs.YtnabkcglnbdfeaaGreatDoor.XXaNX {P:Prop} (h:P:=by
 have ho:(Value.slice (some ⟨gf,0,none⟩) s.r.fs.length co).ownBlock=some gf:=by simp [Value.ownBlock]
 have hk3:Keeps [(Value.slice (some ⟨gf,0,none⟩) s.r.fs.length co).ownBlock] w3 ((w3.setCell ⟨gf,k*2,none⟩ (ZY last.1)).setCell ⟨gf,k*2+1,none⟩ (ZY (ba (Fd.joined last.2.data.toList x.data.toList)))):=
  (BF gf (k*2) _ (by rw [ho];simp)).trans (BF gf (k*2+1) _ (by rw [ho];simp)) DT
 have hl3:(ini ++ [joinF last x.data.toList]).length=s.r.fs.length:=by rw [HEL.out];simp
 have hr3:=((h3.own.F.stored (k*2) (ZY last.1)).1.stored (k*2+1) (ZY (ba (Fd.joined last.2.data.toList x.data.toList)))).1
 obtain ⟨ho3,hs3⟩:=h3.own.setF (f':=ZX (some ⟨gf,0,none⟩) s.r.fs.length co) (fs':=ini ++ [joinF last x.data.toList]) hk3 (by
  rw [hl3,←cells_put ini last (joinF last x.data.toList),HK.out];have e:cells (ini ++ [last])=cells s.r.fs:=by rw [HEL.out]
  rw [e];exact hr3) (.inl rfl)
 have hrow:((w3.setCell ⟨gf,k*2,none⟩ (ZY last.1)).setCell ⟨gf,k*2+1,none⟩ (ZY (ba (Fd.joined last.2.data.toList x.data.toList)))).heap[g]?= _:=hk3.row h3.row (λhm=>by
  have e:some g=some gf:=by rw [←ho];simpa using hm
  exact h3.own.lone.ne (i:=0) (j:=3) rfl (by decide) (by rw [e,←ho];rfl))
 first
  |exact ⟨rfl,_,⟨hrow,ho3⟩,HS1.out.trans ((Step.of_below HB4.out).trans hs3)⟩
  |exact ⟨_,rfl,hrow,ho3,HS1.out.trans ((Step.of_below HB3.out).trans hs3)⟩):P:=h
theorem _root_.Go.Proofs.YtnabkcglnbdfeaaGreatDoor.XX098 {P:Prop} (h:P:=by
 unfold fieldV;have e1:(Fd.goes p x.data.toList && !s.r.fs.isEmpty)=true:=by rw [hg,el];simp
 rw [if_neg hm,if_pos e1,el]
 simp):P:=h
theorem addF_any (hp:p<4294967296) (x:ByteArray) (hx:x.size<=5000) (most:Int) (h:PR w B g q v f bd t o p b s) (hl:s.hl<=1000) (hsz:∀y∈s.r.fs,y.1.size<=1000000/\y.2.size<=1000000) (hlen:s.r.fs.length<=500) :
 Calls Gq 229 #[ZV (some ⟨g,1,none⟩),ZY x,ZZ ZQ (p:Int),ZZ ZS most] w λr w'=>r=.returned (ZZ ZS (listE (fieldV p s.hl s.r.fs x.data.toList most):Int))/\∃f1,PR w' B g q v f1 bd t o p b {s with hl:=s.hl+1,r:={s.r with fs:=listL s.r.fs (fieldV p s.hl s.r.fs x.data.toList most)}}/\Step (blks g q v f bd t o) (blks g q v f1 bd t o) w w':=by
 obtain ⟨a1,a2⟩:=Et ((s.hl:Int)+1) ⟨by omega,by omega⟩
 have H1:=BN (h.put 1 (ZZ ZS ((s.hl:Int)+1)) {s with hl:=s.hl+1} rfl rfl rfl rfl rfl rfl)
 have HS1:=BN (Step.set (w:=w) (L:=blks g q v f bd t o) g 1 (ZZ ZS ((s.hl:Int)+1)) (by simp));have c1:=h.cs.c1;have z1:=h.marks 1;have HSZ:=BN hsz;have HLEN:=BN hlen;clear hsz hlen
 by_cases hm:most<((s.hl+1:Nat):Int)
 ·have e:fieldV p s.hl s.r.fs x.data.toList most=.inl 431:=by unfold fieldV;rw [if_pos hm]
  rw [e];have t0:most<(s.hl:Int)+1:=by omega
  clear e hm h hl hx;go_enter Tryz.func229,Tryz.ntmps229;go_wp2;go_ret;exact ⟨rfl,_,H1.out,HS1.out⟩
 ·have t0:¬most<(s.hl:Int)+1:=by omega
  obtain ⟨bo,co,eo, -⟩:=Dw h.own.F;have hgo:=λw=>Fd.goes_any x p hp w;have HSZx:=BN hx;have hnn:(s.r.fs.length:Int)<=500:=by have:=HLEN.out;omega
  subst eo;obtain ⟨S1,hS1⟩:∃S1:T,{s with hl:=s.hl+1}=S1:=⟨_,rfl⟩;have HS:=BN hS1;clear h hl hx;by_cases hj:(Fd.goes p x.data.toList && !s.r.fs.isEmpty)=true
  ·simp only [As,A7,List.isEmpty_eq_false_iff] at hj;obtain ⟨hg,hne⟩:=hj;rw [hg] at hgo;have HGo:=BN hgo;obtain ⟨ini,last,el⟩:∃ini last,s.r.fs=ini ++ [last]:=⟨_,_,(List.dropLast_concat_getLast hne).symm⟩;have hn1:s.r.fs.length=ini.length+1:=by rw [el];simp
   have e:fieldV p s.hl s.r.fs x.data.toList most=.inr (ini ++ [joinF last x.data.toList]):=by exact XX098
   rw [e]
   obtain ⟨gf,cf,hform,hgl,hgf⟩:=H1.out.own.F.form (by show 0<s.r.fs.length;omega);simp only [Value.slice.injEq,true_and] at hform;obtain ⟨rfl,rfl⟩:=hform
   have hq0:=(H1.out.own.F.cellAt (ini.length*2) (by show ini.length*2<s.r.fs.length*2;omega)).trans (show (cells s.r.fs)[ini.length*2]?=some (ZY last.1) by rw [el];exact (cells_last ini last).1)
   have hq1:=(H1.out.own.F.cellAt (ini.length*2+1) (by show ini.length*2+1<s.r.fs.length*2;omega)).trans (show (cells s.r.fs)[ini.length*2+1]?=some (ZY last.2) by rw [el];exact (cells_last ini last).2)
   have hz0:=H1.out.own.F.frozenAt (ini.length*2);have hz1:=H1.out.own.F.frozenAt (ini.length*2+1)
   have HJ:=BN (show∀w,Calls Gq 249 #[ZU #[ZY last.1,ZY last.2],ZY x] w λe w'=>e=.returned (ZU #[ZY last.1,ZY (ba (Fd.joined last.2.data.toList x.data.toList))])/\Below w.heap.size w w' from
    λw=>Fd.join_any last.1 last.2 x w (by have:=HSZx.out;omega) (by have:=(HSZ.out last (by rw [el];simp)).2;omega))
   obtain ⟨k,hk⟩:∃k,ini.length=k:=⟨_,rfl⟩;have HK:=BN hk;rw [hk] at hn1 hq0 hq1 hz0 hz1;have t1:(0:Int)<=(k:Int):=by omega
   have i1:(k:Int)<(s.r.fs.length:Int):=by omega
   have i2:k<s.r.fs.length:=by omega
   obtain ⟨b1,b2⟩:=Et ((s.r.fs.length:Int)-1) ⟨by omega,by omega⟩;have b3:(s.r.fs.length:Int)-1=(k:Int):=by omega
   rw [b3] at b1 b2;have HEL:=BN el;have HN1:=BN hn1;have HGL:=BN hgl;have HQ0:=BN hq0;have HQ1:=BN hq1;have HGF:=BN hgf;have HZ0:=BN hz0;have HZ1:=BN hz1;have HB3:=BN b3;have HI2:=BN i2;clear hne e hk hnn el hn1 hg hgo hm hgl hq0 hq1 hgf hz0 hz1;go_enter Tryz.func229,Tryz.ntmps229;go_upto_region 4 with fail
   generalize w.setCell ⟨g,1,none⟩ (ZZ ZS ((s.hl:Int)+1))=W1 at *;clear c1 z1 a1 a2 t0;have c2:=H1.out.cs.c2
   go_upto_region 6 with (go_at_call 248;with_reducible refine Cm (HGo.out _) ?_)
   have HQ:=BN ((H1.out.drew 1).bk)
   have HD:=BN (Ak (Ao W1.heap.size W1) 1);clear b1 b2 b3 c2;refine Each.region 15 [39,40,41,42,43,44,45,46,47,48,49,50,51,52,53] [eP g 1,eP g 1,eP g 2,eQ (ZX (some ⟨gf,0,none⟩) s.r.fs.length co),eQ (ZZ ZS (k:Int)),eP g 1,eP g 1,eP g 2,eQ (ZX (some ⟨gf,0,none⟩) s.r.fs.length co),eQ (ZZ ZS (k:Int)),eP gf (k*2),eQ (ZU #[ZY last.1,ZY last.2]),eQ (ZY x),eQ (ZU #[ZY last.1,ZY (ba (Fd.joined last.2.data.toList x.data.toList))]),eP gf (k*2)] (.act 15 .done) (by kernel_rfl) (by kernel_rfl) (by kernel_rfl) (by kernel_rfl) (λ_ _ d _ _ h=>by cases d<;>exact h) (by rfl) (by rfl) (by repeat first | exact trivial | refine ⟨AT _,?_⟩) ?_ ?_
   ·refine ⟨?_,?_,?_,?_,?_,?_,?_,?_,?_,?_,?_,?_,?_,?_,?_,trivial⟩
    ·exact XXNoy
    ·exact XXNoy
    ·exact XXNoy
    ·exact XXNoy
    ·exact XXNoy
    ·exact XXNoy
    ·exact XXNoy
    ·exact XXNoy
    ·exact XXNoy
    ·exact XXNoy
    ·refine AY rfl (λev w1 hR hb hh=>?_);have e47:ev (.tmp 47)= _:=hh.at 0;have e48:ev (.tmp 48)= _:=hh.at 1;clear hh;have d1:=HI2.out;have d2:(k:Int)<(s.r.fs.length:Int):=by omega
     exact XXqTe
    ·exact XXNoy
    ·exact XXNoy
    ·refine AY rfl (λev w1 hR hb hh=>?_);have e50:ev (.tmp 50)= _:=hh.at 0;have e51:ev (.tmp 51)= _:=hh.at 1;clear hh;have ef:=hR.func
     refine AP 249 #[ZU #[ZY last.1,ZY last.2],ZY x] (by go_simp) ((HJ.out w1).mono ?_);exact XXUgj
    ·refine AY rfl (λev w1 hR hb hh=>?_);have e42:ev (.tmp 42)= _:=hh.at 0;have e43:ev (.tmp 43)= _:=hh.at 1;clear hh;have d1:=HI2.out;have d2:(k:Int)<(s.r.fs.length:Int):=by omega
     exact XXqTe
   intro g1 w3 hb hf;have z52:g1 52= _:=hf.at 13;have z53:g1 53= _:=hf.at 14;clear hf;simp only [Be,Ab,Di,Dl,Dk];rw [z52,z53];simp only [Fk,Fl,Cz,Cy];have HB4:=BN hb;have y0:=(HB4.out.cell (p:=⟨gf,k*2,none⟩) HGF.out).trans HQ0.out;have y1:=(HB4.out.cell (p:=⟨gf,k*2+1,none⟩) HGF.out).trans HQ1.out;have x0:=(HB4.out.frozen (p:=⟨gf,k*2,none⟩) HGF.out).trans HZ0.out;have x1:=(HB4.out.frozen (p:=⟨gf,k*2+1,none⟩) HGF.out).trans HZ1.out
   refine Fi (by rfl) (λK hK=>?_);go_simp;refine hK _ _ trivial ?_;clear hK K y0 y1 x0 x1;refine Fj ?_;go_wp2;go_ret;have h3:=H1.out.below HB4.out;exact XXaNX
  ·have hgt:s.r.fs.length=0∨Fd.goes p x.data.toList=false/\∃k,s.r.fs.length=k+1:=by
    rcases D3 s.r.fs.length with h0 | h0
    ·exact .inl h0
    ·refine .inr ⟨?_,s.r.fs.length-1,by omega⟩;cases hg:Fd.goes p x.data.toList with
     | false=>rfl
     | true=>
       rw [hg] at hj;have:s.r.fs= []:=by simpa using hj
       rw [this] at h0;cases h0
   have hp:=λw=>Fd.parse_any x p hp w (by have:=HSZx.out;omega);obtain ⟨iF,hi,hz0,hz1,hz2⟩:=info_parts field_info;have I1:=BN hi;have I2:=BN hz0;have I3:=BN hz1;have I4:=BN hz2;clear hi hz0 hz1 hz2;rcases hpar:Fd.parse (Fd.clOf p) x.data.toList with _ | _ | ⟨n,vv⟩
   ·have e:fieldV p s.hl s.r.fs x.data.toList most=.inl 400:=by unfold fieldV;rw [if_neg hm,if_neg hj,hpar]
    rw [e];rw [hpar] at hp;simp only [Fd.rv,Fd.fv] at hp;have HP:=BN hp;clear e hpar hp hm hj;rcases hgt with h0 | hgk
    ·have b3:(s.r.fs.length:Int)-1= -1:=by omega
     obtain ⟨b1,b2⟩:=Et ((s.r.fs.length:Int)-1) ⟨by omega,by omega⟩;rw [b3] at b1 b2;clear hgo hnn h0;go_enter Tryz.func229,Tryz.ntmps229;go_upto_region 4 with fail
     generalize w.setCell ⟨g,1,none⟩ (ZZ ZS ((s.hl:Int)+1))=W1 at *;clear c1 z1 a1 a2 t0;have c2:=H1.out.cs.c2;go_wp2_with
      (go_at_call 250;with_reducible refine (HP.out _).mono ?_;rintro r w3 ⟨rfl,hb3⟩
       have HB3:=BN hb3;clear hb3)
     exact XXvfE
    ·obtain ⟨hg,k,hk⟩:=hgk;rw [hg] at hgo;have HGo:=BN hgo;have t1:(0:Int)<=(k:Int):=by omega
     have b3:(s.r.fs.length:Int)-1=(k:Int):=by omega
     obtain ⟨b1,b2⟩:=Et ((s.r.fs.length:Int)-1) ⟨by omega,by omega⟩;rw [b3] at b1 b2;clear hgo hg hk hnn;go_enter Tryz.func229,Tryz.ntmps229;go_upto_region 4 with fail
     generalize w.setCell ⟨g,1,none⟩ (ZZ ZS ((s.hl:Int)+1))=W1 at *;clear c1 z1 a1 a2 t0;have c2:=H1.out.cs.c2
     go_wp2_with (first
      |(go_at_call 250;with_reducible refine (HP.out _).mono ?_;rintro r w3 ⟨rfl,hb3⟩
        have HB3:=BN hb3;clear hb3)
      |(go_at_call 248;with_reducible refine Cm (HGo.out _) ?_))
     exact XXvfE
   ·have e:fieldV p s.hl s.r.fs x.data.toList most=.inr s.r.fs:=by unfold fieldV;rw [if_neg hm,if_neg hj,hpar]
    rw [e];rw [hpar] at hp;simp only [Fd.rv,Fd.fv] at hp;have HP:=BN hp;clear e hpar hp hm hj;rcases hgt with h0 | hgk
    ·have b3:(s.r.fs.length:Int)-1= -1:=by omega
     obtain ⟨b1,b2⟩:=Et ((s.r.fs.length:Int)-1) ⟨by omega,by omega⟩;rw [b3] at b1 b2;clear hgo hnn h0;go_enter Tryz.func229,Tryz.ntmps229;go_upto_region 4 with fail
     generalize w.setCell ⟨g,1,none⟩ (ZZ ZS ((s.hl:Int)+1))=W1 at *;clear c1 z1 a1 a2 t0;have c2:=H1.out.cs.c2;go_wp2_with
      (go_at_call 250;with_reducible refine (HP.out _).mono ?_;rintro r w3 ⟨rfl,hb3⟩
       have HB3:=BN hb3;clear hb3)
     exact XXvfE
    ·obtain ⟨hg,k,hk⟩:=hgk;rw [hg] at hgo;have HGo:=BN hgo;have t1:(0:Int)<=(k:Int):=by omega
     have b3:(s.r.fs.length:Int)-1=(k:Int):=by omega
     obtain ⟨b1,b2⟩:=Et ((s.r.fs.length:Int)-1) ⟨by omega,by omega⟩;rw [b3] at b1 b2;clear hgo hg hk hnn;go_enter Tryz.func229,Tryz.ntmps229;go_upto_region 4 with fail
     generalize w.setCell ⟨g,1,none⟩ (ZZ ZS ((s.hl:Int)+1))=W1 at *;clear c1 z1 a1 a2 t0;have c2:=H1.out.cs.c2
     go_wp2_with (first
      |(go_at_call 250;with_reducible refine (HP.out _).mono ?_;rintro r w3 ⟨rfl,hb3⟩
        have HB3:=BN hb3;clear hb3)
      |(go_at_call 248;with_reducible refine Cm (HGo.out _) ?_))
     exact XXvfE
   ·have e:fieldV p s.hl s.r.fs x.data.toList most=.inr (s.r.fs ++ [(ba n,ba vv)]):=by unfold fieldV;rw [if_neg hm,if_neg hj,hpar]
    rw [e];rw [hpar] at hp;simp only [Fd.rv,Fd.fv] at hp;have HP:=BN hp;clear e hpar hp hm hj;rcases hgt with h0 | hgk
    ·have b3:(s.r.fs.length:Int)-1= -1:=by omega
     obtain ⟨b1,b2⟩:=Et ((s.r.fs.length:Int)-1) ⟨by omega,by omega⟩;rw [b3] at b1 b2;clear hgo hnn h0;go_enter Tryz.func229,Tryz.ntmps229;go_upto_region 4 with fail
     generalize w.setCell ⟨g,1,none⟩ (ZZ ZS ((s.hl:Int)+1))=W1 at *;clear c1 z1 a1 a2 t0;have c2:=H1.out.cs.c2;go_upto_region 10 with
      (go_at_call 250;with_reducible refine (HP.out _).mono ?_;rintro r w3 ⟨rfl,hb3⟩
       have HB3:=BN hb3;clear hb3)
     exact XXDC0
    ·obtain ⟨hg,k,hk⟩:=hgk;rw [hg] at hgo;have HGo:=BN hgo;have t1:(0:Int)<=(k:Int):=by omega
     have b3:(s.r.fs.length:Int)-1=(k:Int):=by omega
     obtain ⟨b1,b2⟩:=Et ((s.r.fs.length:Int)-1) ⟨by omega,by omega⟩;rw [b3] at b1 b2;clear hgo hg hk hnn;go_enter Tryz.func229,Tryz.ntmps229;go_upto_region 4 with fail
     generalize w.setCell ⟨g,1,none⟩ (ZZ ZS ((s.hl:Int)+1))=W1 at *;clear c1 z1 a1 a2 t0;have c2:=H1.out.cs.c2
     go_upto_region 10 with (first
      |(go_at_call 250;with_reducible refine (HP.out _).mono ?_;rintro r w3 ⟨rfl,hb3⟩
        have HB3:=BN hb3;clear hb3)
      |(go_at_call 248;with_reducible refine Cm (HGo.out _) ?_))
     exact XXDC0
theorem XXLci {P:Prop} (h:P:=by
 have HB4:=BN (HB3.out.alloc HB3.out.size (.cells #[ZY (ba n),ZY (ba vv)] 126))
 have HL4:=BN (Em w3 w3.heap.size rfl 126 [ZY (ba n),ZY (ba vv)]);generalize w3.alloc (.cells #[ZY (ba n),ZY (ba vv)] 126)=W4 at *;generalize w3.heap.size=gL at *
 have H4:=BN (H1.out.below HB4.out);have HS4:=BN (HS1.out.trans (Step.of_below HB4.out))
 have HQ:=BN ((H4.out.drew 1).bk);have HQL:=BN (HL4.out.drew 1);clear b1 b2 b3 c9 H1 HS1 HB3 HB4 HL4;refine Each.region_float 7 [62,63,64,65,66,67,68] [eP g 8,eP g 8,eP g 8,eP g 9,eQ (.slice bo s.r.ts.length co),eQ (ZU #[ZY (ba n),ZY (ba vv)]),λv w=>∃g1,v=ZX (some ⟨g1,0,none⟩) 1 1/\El w g1 [ZY (ba n),ZY (ba vv)]] [] 4 (some 0) (.act 7 (.quiet 8 (.quiet 9 (.act 10 .done)))) (.quiet 0 (.act 7 (.quiet 8 (.quiet 9 (.act 10 .done))))) (by kernel_rfl) (by kernel_rfl) (by kernel_rfl) (by kernel_rfl) (λk0 h=>by cases h;kernel_rfl) (λ_ _ d _ _ h=>by cases d<;>exact h) (by rfl) (by rfl) ⟨AT _,AT _,AT _,AT _,AT _,AT _,((λ_ _ _ hb h=>by obtain ⟨g1,e1,hB⟩:=h;exact ⟨g1,e1,hB.below hb⟩)),trivial⟩ trivial (by rfl) ?_ ?_ ?_
 ·refine ⟨?_,?_,?_,?_,?_,?_,?_,trivial⟩
  ·refine AY rfl (λev w1 hR hb hh=>?_);have e0:=hR.old 0 rfl;have e10:=hR.old 10 rfl;simp only [Ag,C6,Cy,Cz,DV] at e0 e10;have q9:=(HQ.out.below hb).c 9 _ rfl;have q0:=(HQL.out.below hb).c 0 _ rfl;have q1:=(HQL.out.below hb).c 1 _ rfl;exact Each.std
  ·refine AY rfl (λev w1 hR hb hh=>?_);have e0:=hR.old 0 rfl;have e10:=hR.old 10 rfl;simp only [Ag,C6,Cy,Cz,DV] at e0 e10;have q9:=(HQ.out.below hb).c 9 _ rfl;have q0:=(HQL.out.below hb).c 0 _ rfl;have q1:=(HQL.out.below hb).c 1 _ rfl;exact Each.std
  ·refine AY rfl (λev w1 hR hb hh=>?_);have e0:=hR.old 0 rfl;have e10:=hR.old 10 rfl;simp only [Ag,C6,Cy,Cz,DV] at e0 e10;have q9:=(HQ.out.below hb).c 9 _ rfl;have q0:=(HQL.out.below hb).c 0 _ rfl;have q1:=(HQL.out.below hb).c 1 _ rfl;exact Each.std
  ·refine AY rfl (λev w1 hR hb hh=>?_);have e0:=hR.old 0 rfl;have e10:=hR.old 10 rfl;simp only [Ag,C6,Cy,Cz,DV] at e0 e10;have q9:=(HQ.out.below hb).c 9 _ rfl;have q0:=(HQL.out.below hb).c 0 _ rfl;have q1:=(HQL.out.below hb).c 1 _ rfl;exact Each.std
  ·refine AY rfl (λev w1 hR hb hh=>?_);have e0:=hR.old 0 rfl;have e10:=hR.old 10 rfl;simp only [Ag,C6,Cy,Cz,DV] at e0 e10;have q9:=(HQ.out.below hb).c 9 _ rfl;have q0:=(HQL.out.below hb).c 0 _ rfl;have q1:=(HQL.out.below hb).c 1 _ rfl;exact Each.std
  ·refine AY rfl (λev w1 hR hb hh=>?_);have e0:=hR.old 0 rfl;have e10:=hR.old 10 rfl;simp only [Ag,C6,Cy,Cz,DV] at e0 e10;have q9:=(HQ.out.below hb).c 9 _ rfl;have q0:=(HQL.out.below hb).c 0 _ rfl;have q1:=(HQL.out.below hb).c 1 _ rfl;exact Each.std
  ·refine AY rfl (λev w1 hR hb hh=>?_);have e67:ev (.tmp 67)= _:=hh.at 0;clear hh;exact AO.value (ZX (some ⟨w1.heap.size,0,none⟩) 1 1) (w1.alloc (.cells #[ZY (ba n),ZY (ba vv)] 126)) (by go_simp) ((Ao _ _).alloc (D5 _) _) ⟨_,rfl,Em w1 _ rfl 126 [ZY (ba n),ZY (ba vv)]⟩
 ·intro g1 w5 hb hf;have z62:g1 62= _:=hf.at 0;have z66:g1 66= _:=hf.at 4;have z68:=hf.at 6;clear hf;obtain ⟨gl,el,hBl⟩:=z68;simp only [Be,Ab,Di,Dl,Dk];rw [z62,z66,el];simp only [Fk,Fl,Cz,Cy]
  have H5:=H4.out.below (Al (Ao W4.heap.size W4) hb)
  obtain ⟨v',w6,hrun,hO5,hgr5,hor5⟩:=App.run_append_list w5 46 46 B 126 iF (.agg #[.string AG,.string AG]) 2 32 Tryz.underlying46 I1.out I2.out I3.out I4.out rfl (by decide) (.slice bo s.r.ts.length co) s.r.ts.length (cells s.r.ts) H5.own.TR (some ⟨gl,0,none⟩) 1 1 [.string (ba n),.string (ba vv)] rfl (λ_=>⟨gl,0,rfl,λj u hu=>by rw [DB];exact hBl.c j u hu⟩) (by intro u hu;rcases (by simpa using hu:u=.string (ba n)∨u=.string (ba vv)) with rfl | rfl<;>rfl) (by have:=HLEN.out;unfold maxLen;omega) (by have:=HLEN.out;omega) (D7 H5.own.ge (D4 H5.own.lt));obtain ⟨bz,cz,ez, -⟩:=Dw hO5;subst ez;have hl5:(s.r.ts ++ [(ba n,ba vv)]).length=s.r.ts.length+1:=by simp
  have hk5:Keeps [(.slice bo s.r.ts.length co:Value).ownBlock] w5 w6:=Keeps.grown hgr5 λk e=>by rw [e];exact Dc.2 rfl
  obtain ⟨ho5,hs5⟩:=H5.own.setT (t':=.slice bz (s.r.ts.length+1) cz) (ts':=s.r.ts ++ [(ba n,ba vv)]) hk5 (by rw [hl5,cells_append];exact hO5) (by
   rcases hor5 with e | e
   ·exact .inl e
   ·exact .inr ⟨_,e,D5 _⟩)
  have hrow:w6.heap[g]?= _:=hk5.row H5.row (λhm=>by
   have e:some g=(.slice bo s.r.ts.length co:Value).ownBlock:=by simpa using hm
   exact H5.own.lone.ne (i:=0) (j:=5) rfl (by decide) (by rw [e];rfl))
  refine Fi (by rfl) (λK hK=>?_);refine Each.oper_append _ _ _ rfl (by rfl) (by rfl) hrun ?_;refine hK _ _ trivial ?_;clear hK K hrun;simp only [Ab,Di,Dl,Dk];refine Fm (by rfl) (ZV (some ⟨g,8,none⟩)) (λ_ _=>by go_simp) ?_;simp only [Ab,Di,Dl,Dk];refine Fm (by rfl) (ZV (some ⟨g,9,none⟩)) (λ_ _=>by go_simp) ?_;simp only [Ab,Di,Dl,Dk];have c9:=row_cellL hrow (k:=9) rfl;have z9:=Dy hrow 9
  refine Fi (by rfl) (λK hK=>?_);go_simp;refine hK _ _ trivial ?_;clear hK K;refine Fj ?_
  have HR6:=BN (row_setL hrow 9 (.slice bz (s.r.ts.length+1) cz));have HO6:=BN (ho5.set 9 (.slice bz (s.r.ts.length+1) cz))
  have HS6:=BN ((HS4.out.trans ((Step.of_below (Al (Ao W4.heap.size W4) hb)).trans hs5)).trans (Step.set g 9 (.slice bz (s.r.ts.length+1) cz) (by simp)));clear c9 z9 hrow ho5 hs5 hk5 hl5 hO5 hgr5 hor5 H5 hBl;go_wp2;go_ret;exact ⟨rfl,_,⟨HR6.out,HO6.out⟩,HS6.out⟩
 ·intro k0 hk0 g1 w5 hb hf;cases hk0;have z66:g1 66= _:=hf.at 4;have z68:=hf.at 6;clear hf;obtain ⟨gl,el,hBl⟩:=z68;simp only [Be,Ab,Di,Dl,Dk];rw [z66,el];simp only [Fk,Fl,Cz,Cy];refine Fm (by rfl) (ZV (some ⟨g,8,none⟩)) (λ_ _=>by go_simp) ?_;simp only [Ab,Di,Dl,Dk]
  have H5:=H4.out.below (Al (Ao W4.heap.size W4) hb)
  obtain ⟨v',w6,hrun,hO5,hgr5,hor5⟩:=App.run_append_list w5 46 46 B 126 iF (.agg #[.string AG,.string AG]) 2 32 Tryz.underlying46 I1.out I2.out I3.out I4.out rfl (by decide) (.slice bo s.r.ts.length co) s.r.ts.length (cells s.r.ts) H5.own.TR (some ⟨gl,0,none⟩) 1 1 [.string (ba n),.string (ba vv)] rfl (λ_=>⟨gl,0,rfl,λj u hu=>by rw [DB];exact hBl.c j u hu⟩) (by intro u hu;rcases (by simpa using hu:u=.string (ba n)∨u=.string (ba vv)) with rfl | rfl<;>rfl) (by have:=HLEN.out;unfold maxLen;omega) (by have:=HLEN.out;omega) (D7 H5.own.ge (D4 H5.own.lt));obtain ⟨bz,cz,ez, -⟩:=Dw hO5;subst ez;have hl5:(s.r.ts ++ [(ba n,ba vv)]).length=s.r.ts.length+1:=by simp
  have hk5:Keeps [(.slice bo s.r.ts.length co:Value).ownBlock] w5 w6:=Keeps.grown hgr5 λk e=>by rw [e];exact Dc.2 rfl
  obtain ⟨ho5,hs5⟩:=H5.own.setT (t':=.slice bz (s.r.ts.length+1) cz) (ts':=s.r.ts ++ [(ba n,ba vv)]) hk5 (by rw [hl5,cells_append];exact hO5) (by
   rcases hor5 with e | e
   ·exact .inl e
   ·exact .inr ⟨_,e,D5 _⟩)
  have hrow:w6.heap[g]?= _:=hk5.row H5.row (λhm=>by
   have e:some g=(.slice bo s.r.ts.length co:Value).ownBlock:=by simpa using hm
   exact H5.own.lone.ne (i:=0) (j:=5) rfl (by decide) (by rw [e];rfl))
  refine Fi (by rfl) (λK hK=>?_);refine Each.oper_append _ _ _ rfl (by rfl) (by rfl) hrun ?_;refine hK _ _ trivial ?_;clear hK K hrun;simp only [Ab,Di,Dl,Dk];refine Fm (by rfl) (ZV (some ⟨g,8,none⟩)) (λ_ _=>by go_simp) ?_;simp only [Ab,Di,Dl,Dk];refine Fm (by rfl) (ZV (some ⟨g,9,none⟩)) (λ_ _=>by go_simp) ?_;simp only [Ab,Di,Dl,Dk];have c9:=row_cellL hrow (k:=9) rfl;have z9:=Dy hrow 9
  refine Fi (by rfl) (λK hK=>?_);go_simp;refine hK _ _ trivial ?_;clear hK K;refine Fj ?_
  have HR6:=BN (row_setL hrow 9 (.slice bz (s.r.ts.length+1) cz));have HO6:=BN (ho5.set 9 (.slice bz (s.r.ts.length+1) cz))
  have HS6:=BN ((HS4.out.trans ((Step.of_below (Al (Ao W4.heap.size W4) hb)).trans hs5)).trans (Step.set g 9 (.slice bz (s.r.ts.length+1) cz) (by simp)));clear c9 z9 hrow ho5 hs5 hk5 hl5 hO5 hgr5 hor5 H5 hBl;go_wp2;go_ret
  exact ⟨rfl,_,⟨HR6.out,HO6.out⟩,HS6.out⟩):P:=h
theorem XXOsI {P:Prop} (h:P:=by refine AY rfl (λev w1 hR hb hh=>?_);have e0:=hR.old 0 rfl;have e9:=hR.old 9 rfl;have e1:=hR.old 1 rfl;simp only [Ag,C6,Cy,Cz,DV] at e0 e9 e1;have q9:=(HQ.out.below hb).c 9 _ rfl;have y0:=((Al HD.out hb).cell (p:=⟨gf,k*2,none⟩) HGF.out).trans HQ0.out;have y1:=((Al HD.out hb).cell (p:=⟨gf,k*2+1,none⟩) HGF.out).trans HQ1.out;exact Each.std):P:=h
theorem _root_.Go.Proofs.YtnabkcglnbdfeaaGreatDoor.XXKim {P:Prop} (h:P:=by
 obtain ⟨ho3,hs3⟩:=h3.own.setT (t':=ZX (some ⟨gf,0,none⟩) s.r.ts.length co) (ts':=ini ++ [joinF last x.data.toList]) hk3 (by
  rw [hl3,←cells_put ini last (joinF last x.data.toList),HK.out];have e:cells (ini ++ [last])=cells s.r.ts:=by rw [HEL.out]
  rw [e];exact hr3) (.inl rfl)
 have hrow:((w3.setCell ⟨gf,k*2,none⟩ (ZY last.1)).setCell ⟨gf,k*2+1,none⟩ (ZY (ba (Fd.joined last.2.data.toList x.data.toList)))).heap[g]?= _:=hk3.row h3.row (λhm=>by
  have e:some g=some gf:=by rw [←ho];simpa using hm
  exact h3.own.lone.ne (i:=0) (j:=5) rfl (by decide) (by rw [e,←ho];rfl))
 first
  |exact ⟨rfl,_,⟨hrow,ho3⟩,HS1.out.trans ((Step.of_below HB4.out).trans hs3)⟩
  |exact ⟨_,rfl,hrow,ho3,HS1.out.trans ((Step.of_below HB3.out).trans hs3)⟩):P:=h
theorem _root_.Go.Proofs.YtnabkcglnbdfeaaGreatDoor.XXTMq {P:Prop} (h:P:=by
 unfold fieldV;have e1:(Fd.goes p x.data.toList && !s.r.ts.isEmpty)=true:=by rw [hg,el];simp
 rw [if_neg hm,if_pos e1,el]
 simp):P:=h
theorem addTR_any (hp:p<4294967296) (x:ByteArray) (hx:x.size<=5000) (most:Int) (h:PR w B g q v f bd t o p b s) (hl:s.bl<=1000) (hsz:∀y∈s.r.ts,y.1.size<=1000000/\y.2.size<=1000000) (hlen:s.r.ts.length<=500) :
 Calls Gq 229 #[ZV (some ⟨g,8,none⟩),ZY x,ZZ ZQ (p:Int),ZZ ZS most] w λr w'=>r=.returned (ZZ ZS (listE (fieldV p s.bl s.r.ts x.data.toList most):Int))/\∃t1,PR w' B g q v f bd t1 o p b {s with bl:=s.bl+1,r:={s.r with ts:=listL s.r.ts (fieldV p s.bl s.r.ts x.data.toList most)}}/\Step (blks g q v f bd t o) (blks g q v f bd t1 o) w w':=by
 obtain ⟨a1,a2⟩:=Et ((s.bl:Int)+1) ⟨by omega,by omega⟩
 have H1:=BN (h.put 8 (ZZ ZS ((s.bl:Int)+1)) {s with bl:=s.bl+1} rfl rfl rfl rfl rfl rfl)
 have HS1:=BN (Step.set (w:=w) (L:=blks g q v f bd t o) g 8 (ZZ ZS ((s.bl:Int)+1)) (by simp));have c8:=h.cs.c8;have z8:=h.marks 8;have HSZ:=BN hsz;have HLEN:=BN hlen;clear hsz hlen
 by_cases hm:most<((s.bl+1:Nat):Int)
 ·have e:fieldV p s.bl s.r.ts x.data.toList most=.inl 431:=by unfold fieldV;rw [if_pos hm]
  rw [e];have t0:most<(s.bl:Int)+1:=by omega
  clear e hm h hl hx;go_enter Tryz.func229,Tryz.ntmps229;go_wp2;go_ret;exact ⟨rfl,_,H1.out,HS1.out⟩
 ·have t0:¬most<(s.bl:Int)+1:=by omega
  obtain ⟨bo,co,eo, -⟩:=Dw h.own.TR;have hgo:=λw=>Fd.goes_any x p hp w;have HSZx:=BN hx;have hnn:(s.r.ts.length:Int)<=500:=by have:=HLEN.out;omega
  subst eo;obtain ⟨S1,hS1⟩:∃S1:T,{s with bl:=s.bl+1}=S1:=⟨_,rfl⟩;have HS:=BN hS1;clear h hl hx;by_cases hj:(Fd.goes p x.data.toList && !s.r.ts.isEmpty)=true
  ·simp only [As,A7,List.isEmpty_eq_false_iff] at hj;obtain ⟨hg,hne⟩:=hj;rw [hg] at hgo;have HGo:=BN hgo;obtain ⟨ini,last,el⟩:∃ini last,s.r.ts=ini ++ [last]:=⟨_,_,(List.dropLast_concat_getLast hne).symm⟩;have hn1:s.r.ts.length=ini.length+1:=by rw [el];simp
   have e:fieldV p s.bl s.r.ts x.data.toList most=.inr (ini ++ [joinF last x.data.toList]):=by exact XXTMq
   rw [e]
   obtain ⟨gf,cf,hform,hgl,hgf⟩:=H1.out.own.TR.form (by show 0<s.r.ts.length;omega);simp only [Value.slice.injEq,true_and] at hform;obtain ⟨rfl,rfl⟩:=hform
   have hq0:=(H1.out.own.TR.cellAt (ini.length*2) (by show ini.length*2<s.r.ts.length*2;omega)).trans (show (cells s.r.ts)[ini.length*2]?=some (ZY last.1) by rw [el];exact (cells_last ini last).1)
   have hq1:=(H1.out.own.TR.cellAt (ini.length*2+1) (by show ini.length*2+1<s.r.ts.length*2;omega)).trans (show (cells s.r.ts)[ini.length*2+1]?=some (ZY last.2) by rw [el];exact (cells_last ini last).2)
   have hz0:=H1.out.own.TR.frozenAt (ini.length*2);have hz1:=H1.out.own.TR.frozenAt (ini.length*2+1)
   have HJ:=BN (show∀w,Calls Gq 249 #[ZU #[ZY last.1,ZY last.2],ZY x] w λe w'=>e=.returned (ZU #[ZY last.1,ZY (ba (Fd.joined last.2.data.toList x.data.toList))])/\Below w.heap.size w w' from
    λw=>Fd.join_any last.1 last.2 x w (by have:=HSZx.out;omega) (by have:=(HSZ.out last (by rw [el];simp)).2;omega))
   obtain ⟨k,hk⟩:∃k,ini.length=k:=⟨_,rfl⟩;have HK:=BN hk;rw [hk] at hn1 hq0 hq1 hz0 hz1;have t1:(0:Int)<=(k:Int):=by omega
   have i1:(k:Int)<(s.r.ts.length:Int):=by omega
   have i2:k<s.r.ts.length:=by omega
   obtain ⟨b1,b2⟩:=Et ((s.r.ts.length:Int)-1) ⟨by omega,by omega⟩;have b3:(s.r.ts.length:Int)-1=(k:Int):=by omega
   rw [b3] at b1 b2;have HEL:=BN el;have HN1:=BN hn1;have HGL:=BN hgl;have HQ0:=BN hq0;have HQ1:=BN hq1;have HGF:=BN hgf;have HZ0:=BN hz0;have HZ1:=BN hz1;have HB3:=BN b3;have HI2:=BN i2;clear hne e hk hnn el hn1 hg hgo hm hgl hq0 hq1 hgf hz0 hz1;go_enter Tryz.func229,Tryz.ntmps229;go_upto_region 4 with fail
   generalize w.setCell ⟨g,8,none⟩ (ZZ ZS ((s.bl:Int)+1))=W1 at *;clear c8 z8 a1 a2 t0;have c9:=H1.out.cs.c9
   go_upto_region 6 with (go_at_call 248;with_reducible refine Cm (HGo.out _) ?_)
   have HQ:=BN ((H1.out.drew 1).bk)
   have HD:=BN (Ak (Ao W1.heap.size W1) 1);clear b1 b2 b3 c9;refine Each.region 15 [39,40,41,42,43,44,45,46,47,48,49,50,51,52,53] [eP g 8,eP g 8,eP g 9,eQ (ZX (some ⟨gf,0,none⟩) s.r.ts.length co),eQ (ZZ ZS (k:Int)),eP g 8,eP g 8,eP g 9,eQ (ZX (some ⟨gf,0,none⟩) s.r.ts.length co),eQ (ZZ ZS (k:Int)),eP gf (k*2),eQ (ZU #[ZY last.1,ZY last.2]),eQ (ZY x),eQ (ZU #[ZY last.1,ZY (ba (Fd.joined last.2.data.toList x.data.toList))]),eP gf (k*2)] (.act 15 .done) (by kernel_rfl) (by kernel_rfl) (by kernel_rfl) (by kernel_rfl) (λ_ _ d _ _ h=>by cases d<;>exact h) (by rfl) (by rfl) (by repeat first | exact trivial | refine ⟨AT _,?_⟩) ?_ ?_
   ·refine ⟨?_,?_,?_,?_,?_,?_,?_,?_,?_,?_,?_,?_,?_,?_,?_,trivial⟩
    ·exact XXOsI
    ·exact XXOsI
    ·exact XXOsI
    ·exact XXOsI
    ·exact XXOsI
    ·exact XXOsI
    ·exact XXOsI
    ·exact XXOsI
    ·exact XXOsI
    ·exact XXOsI
    ·refine AY rfl (λev w1 hR hb hh=>?_);have e47:ev (.tmp 47)= _:=hh.at 0;have e48:ev (.tmp 48)= _:=hh.at 1;clear hh;have d1:=HI2.out;have d2:(k:Int)<(s.r.ts.length:Int):=by omega
     exact XXqTe
    ·exact XXOsI
    ·exact XXOsI
    ·refine AY rfl (λev w1 hR hb hh=>?_);have e50:ev (.tmp 50)= _:=hh.at 0;have e51:ev (.tmp 51)= _:=hh.at 1;clear hh;have ef:=hR.func
     refine AP 249 #[ZU #[ZY last.1,ZY last.2],ZY x] (by go_simp) ((HJ.out w1).mono ?_);exact XXUgj
    ·refine AY rfl (λev w1 hR hb hh=>?_);have e42:ev (.tmp 42)= _:=hh.at 0;have e43:ev (.tmp 43)= _:=hh.at 1;clear hh;have d1:=HI2.out;have d2:(k:Int)<(s.r.ts.length:Int):=by omega
     exact XXqTe
   intro g1 w3 hb hf;have z52:g1 52= _:=hf.at 13;have z53:g1 53= _:=hf.at 14;clear hf;simp only [Be,Ab,Di,Dl,Dk];rw [z52,z53];simp only [Fk,Fl,Cz,Cy];have HB4:=BN hb;have y0:=(HB4.out.cell (p:=⟨gf,k*2,none⟩) HGF.out).trans HQ0.out;have y1:=(HB4.out.cell (p:=⟨gf,k*2+1,none⟩) HGF.out).trans HQ1.out;have x0:=(HB4.out.frozen (p:=⟨gf,k*2,none⟩) HGF.out).trans HZ0.out;have x1:=(HB4.out.frozen (p:=⟨gf,k*2+1,none⟩) HGF.out).trans HZ1.out
   refine Fi (by rfl) (λK hK=>?_);go_simp;refine hK _ _ trivial ?_;clear hK K y0 y1 x0 x1;refine Fj ?_;go_wp2;go_ret;have h3:=H1.out.below HB4.out;have ho:(Value.slice (some ⟨gf,0,none⟩) s.r.ts.length co).ownBlock=some gf:=by simp [Value.ownBlock]
   have hk3:Keeps [(Value.slice (some ⟨gf,0,none⟩) s.r.ts.length co).ownBlock] w3 ((w3.setCell ⟨gf,k*2,none⟩ (ZY last.1)).setCell ⟨gf,k*2+1,none⟩ (ZY (ba (Fd.joined last.2.data.toList x.data.toList)))):=
    (BF gf (k*2) _ (by rw [ho];simp)).trans (BF gf (k*2+1) _ (by rw [ho];simp)) DT
   have hl3:(ini ++ [joinF last x.data.toList]).length=s.r.ts.length:=by rw [HEL.out];simp
   have hr3:=((h3.own.TR.stored (k*2) (ZY last.1)).1.stored (k*2+1) (ZY (ba (Fd.joined last.2.data.toList x.data.toList)))).1;exact XXKim
  ·have hgt:s.r.ts.length=0∨Fd.goes p x.data.toList=false/\∃k,s.r.ts.length=k+1:=by
    rcases D3 s.r.ts.length with h0 | h0
    ·exact .inl h0
    ·refine .inr ⟨?_,s.r.ts.length-1,by omega⟩;cases hg:Fd.goes p x.data.toList with
     | false=>rfl
     | true=>
       rw [hg] at hj;have:s.r.ts= []:=by simpa using hj
       rw [this] at h0;cases h0
   have hp:=λw=>Fd.parse_any x p hp w (by have:=HSZx.out;omega);obtain ⟨iF,hi,hz0,hz1,hz2⟩:=info_parts field_info;have I1:=BN hi;have I2:=BN hz0;have I3:=BN hz1;have I4:=BN hz2;clear hi hz0 hz1 hz2;rcases hpar:Fd.parse (Fd.clOf p) x.data.toList with _ | _ | ⟨n,vv⟩
   ·have e:fieldV p s.bl s.r.ts x.data.toList most=.inl 400:=by unfold fieldV;rw [if_neg hm,if_neg hj,hpar]
    rw [e];rw [hpar] at hp;simp only [Fd.rv,Fd.fv] at hp;have HP:=BN hp;clear e hpar hp hm hj;rcases hgt with h0 | hgk
    ·have b3:(s.r.ts.length:Int)-1= -1:=by omega
     obtain ⟨b1,b2⟩:=Et ((s.r.ts.length:Int)-1) ⟨by omega,by omega⟩;rw [b3] at b1 b2;clear hgo hnn h0;go_enter Tryz.func229,Tryz.ntmps229;go_upto_region 4 with fail
     generalize w.setCell ⟨g,8,none⟩ (ZZ ZS ((s.bl:Int)+1))=W1 at *;clear c8 z8 a1 a2 t0;have c9:=H1.out.cs.c9;go_wp2_with
      (go_at_call 250;with_reducible refine (HP.out _).mono ?_;rintro r w3 ⟨rfl,hb3⟩
       have HB3:=BN hb3;clear hb3)
     exact XXvfE
    ·obtain ⟨hg,k,hk⟩:=hgk;rw [hg] at hgo;have HGo:=BN hgo;have t1:(0:Int)<=(k:Int):=by omega
     have b3:(s.r.ts.length:Int)-1=(k:Int):=by omega
     obtain ⟨b1,b2⟩:=Et ((s.r.ts.length:Int)-1) ⟨by omega,by omega⟩;rw [b3] at b1 b2;clear hgo hg hk hnn;go_enter Tryz.func229,Tryz.ntmps229;go_upto_region 4 with fail
     generalize w.setCell ⟨g,8,none⟩ (ZZ ZS ((s.bl:Int)+1))=W1 at *;clear c8 z8 a1 a2 t0;have c9:=H1.out.cs.c9
     go_wp2_with (first
      |(go_at_call 250;with_reducible refine (HP.out _).mono ?_;rintro r w3 ⟨rfl,hb3⟩
        have HB3:=BN hb3;clear hb3)
      |(go_at_call 248;with_reducible refine Cm (HGo.out _) ?_))
     exact XXvfE
   ·have e:fieldV p s.bl s.r.ts x.data.toList most=.inr s.r.ts:=by unfold fieldV;rw [if_neg hm,if_neg hj,hpar]
    rw [e];rw [hpar] at hp;simp only [Fd.rv,Fd.fv] at hp;have HP:=BN hp;clear e hpar hp hm hj;rcases hgt with h0 | hgk
    ·have b3:(s.r.ts.length:Int)-1= -1:=by omega
     obtain ⟨b1,b2⟩:=Et ((s.r.ts.length:Int)-1) ⟨by omega,by omega⟩;rw [b3] at b1 b2;clear hgo hnn h0;go_enter Tryz.func229,Tryz.ntmps229;go_upto_region 4 with fail
     generalize w.setCell ⟨g,8,none⟩ (ZZ ZS ((s.bl:Int)+1))=W1 at *;clear c8 z8 a1 a2 t0;have c9:=H1.out.cs.c9;go_wp2_with
      (go_at_call 250;with_reducible refine (HP.out _).mono ?_;rintro r w3 ⟨rfl,hb3⟩
       have HB3:=BN hb3;clear hb3)
     exact XXvfE
    ·obtain ⟨hg,k,hk⟩:=hgk;rw [hg] at hgo;have HGo:=BN hgo;have t1:(0:Int)<=(k:Int):=by omega
     have b3:(s.r.ts.length:Int)-1=(k:Int):=by omega
     obtain ⟨b1,b2⟩:=Et ((s.r.ts.length:Int)-1) ⟨by omega,by omega⟩;rw [b3] at b1 b2;clear hgo hg hk hnn;go_enter Tryz.func229,Tryz.ntmps229;go_upto_region 4 with fail
     generalize w.setCell ⟨g,8,none⟩ (ZZ ZS ((s.bl:Int)+1))=W1 at *;clear c8 z8 a1 a2 t0;have c9:=H1.out.cs.c9
     go_wp2_with (first
      |(go_at_call 250;with_reducible refine (HP.out _).mono ?_;rintro r w3 ⟨rfl,hb3⟩
        have HB3:=BN hb3;clear hb3)
      |(go_at_call 248;with_reducible refine Cm (HGo.out _) ?_))
     exact XXvfE
   ·have e:fieldV p s.bl s.r.ts x.data.toList most=.inr (s.r.ts ++ [(ba n,ba vv)]):=by unfold fieldV;rw [if_neg hm,if_neg hj,hpar]
    rw [e];rw [hpar] at hp;simp only [Fd.rv,Fd.fv] at hp;have HP:=BN hp;clear e hpar hp hm hj;rcases hgt with h0 | hgk
    ·have b3:(s.r.ts.length:Int)-1= -1:=by omega
     obtain ⟨b1,b2⟩:=Et ((s.r.ts.length:Int)-1) ⟨by omega,by omega⟩;rw [b3] at b1 b2;clear hgo hnn h0;go_enter Tryz.func229,Tryz.ntmps229;go_upto_region 4 with fail
     generalize w.setCell ⟨g,8,none⟩ (ZZ ZS ((s.bl:Int)+1))=W1 at *;clear c8 z8 a1 a2 t0;have c9:=H1.out.cs.c9;go_upto_region 10 with
      (go_at_call 250;with_reducible refine (HP.out _).mono ?_;rintro r w3 ⟨rfl,hb3⟩
       have HB3:=BN hb3;clear hb3)
     exact XXLci
    ·obtain ⟨hg,k,hk⟩:=hgk;rw [hg] at hgo;have HGo:=BN hgo;have t1:(0:Int)<=(k:Int):=by omega
     have b3:(s.r.ts.length:Int)-1=(k:Int):=by omega
     obtain ⟨b1,b2⟩:=Et ((s.r.ts.length:Int)-1) ⟨by omega,by omega⟩;rw [b3] at b1 b2;clear hgo hg hk hnn;go_enter Tryz.func229,Tryz.ntmps229;go_upto_region 4 with fail
     generalize w.setCell ⟨g,8,none⟩ (ZZ ZS ((s.bl:Int)+1))=W1 at *;clear c8 z8 a1 a2 t0;have c9:=H1.out.cs.c9
     go_upto_region 10 with (first
      |(go_at_call 250;with_reducible refine (HP.out _).mono ?_;rintro r w3 ⟨rfl,hb3⟩
        have HB3:=BN hb3;clear hb3)
      |(go_at_call 248;with_reducible refine Cm (HGo.out _) ?_))
     exact XXLci
end
end Go.Proofs.YtnabkcglnbdfeaaGreatDoor.Pg
