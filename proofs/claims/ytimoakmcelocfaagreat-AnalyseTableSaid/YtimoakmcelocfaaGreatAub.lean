import Derived.Test.YtimoakmcelocfaaGreatAua
namespace Go.Proofs.YtimoakmcelocfaaGreat.Mem
open Go.RowKit Base
def Lone (L:List (Option Nat)):Prop:=∀i j k:Nat,L[i]?=some (some k)→L[j]?=some (some k)→i=j
def In (w:World) (L:List (Option Nat)):Prop:=∀k,some k∈L→k<w.heap.size
def Of (w:World) (L L':List (Option Nat)):Prop:=∀k,some k∈L'→some k∈L∨w.heap.size≤k
structure Keeps (L:List (Option Nat)) (w w':World):Prop where
 os:w'.os=w.os
 tape:w'.tape=w.tape
 output:w'.output=w.output
 size:w.heap.size≤w'.heap.size
 block:∀k,k<w.heap.size→some k∉L→w'.heap[k]?=w.heap[k]?
section
variable {L L' L'':List (Option Nat)} {w w' w'':World} {B:Nat}
theorem Lone.ne (h:Lone L) {i j k:Nat} (hi:L[i]?=some (some k)) (hij:i≠j):L[j]?≠some (some k):=fun hj=>hij (h i j k hi hj)
theorem Lone.set (h:Lone L) (hin:In w L) (i:Nat) (o:Option Nat) (ho:o=none∨L[i]?=some o∨∃k,o=some k∧w.heap.size≤k):Lone (L.set i o):=by
 have key:∀a b k,a≠b→(L.set i o)[a]?=some (some k)→(L.set i o)[b]?=some (some k)→a=i→False:=by
  intro a b k hab ha hb hai;subst hai;rw [List.getElem?_set_ne hab] at hb;have hlt:a<L.length:=by
   rcases Nat.lt_or_ge a L.length with h | h
   ·exact h
   ·rw [List.getElem?_eq_none (by simpa using h)] at ha;cases ha
  rw [List.getElem?_set_self hlt] at ha;obtain rfl:o=some k:=Option.some.inj ha;rcases ho with ho | ho | ⟨k',ho,hk⟩
  ·cases ho
  ·exact hab (h a b k ho hb)
  ·obtain rfl:k=k':=Option.some.inj ho
   have:=hin k (List.mem_of_getElem? hb);omega
 intro a b k ha hb;by_cases hab:a=b
 ·exact hab
 ·by_cases hai:a=i
  ·exact (key a b k hab ha hb hai).elim
  ·by_cases hbi:b=i
   ·exact (key b a k (fun e=>hab e.symm) hb ha hbi).elim
   ·rw [List.getElem?_set_ne (fun e=>hai e.symm)] at ha;rw [List.getElem?_set_ne (fun e=>hbi e.symm)] at hb;exact h a b k ha hb
theorem Of.refl:Of w L L:=fun _ h=>.inl h
theorem Of.trans (h:Of w L L') (h':Of w' L' L'') (hs:w.heap.size≤w'.heap.size):Of w L L'':=fun k hk=>by
 rcases h' k hk with h1 | h1
 ·exact h k h1
 ·exact .inr (by omega)
theorem Of.set (i:Nat) (o:Option Nat) (ho:o=none∨L[i]?=some o∨∃k,o=some k∧w.heap.size≤k):Of w L (L.set i o):=fun k hk=>by
 rcases List.mem_or_eq_of_mem_set hk with h | h
 ·exact .inl h
 ·rcases ho with ho | ho | ⟨k',ho,hk⟩
  ·rw [ho] at h;cases h
  ·exact .inl (by rw [h];exact List.mem_of_getElem? ho)
  ·rw [ho] at h;cases h;exact .inr hk
theorem Keeps.refl:Keeps L w w:=⟨rfl,rfl,rfl,Nat.le_refl _,fun _ _ _=>rfl⟩
theorem Keeps.trans (h:Keeps L w w') (h':Keeps L' w' w'') (ho:Of w L L'):Keeps L w w'':=by
 refine ⟨h'.os.trans h.os,h'.tape.trans h.tape,h'.output.trans h.output,Nat.le_trans h.size h'.size,fun k hk hn=>?_⟩
 refine (h'.block k (Nat.lt_of_lt_of_le hk h.size) fun hm=>?_).trans (h.block k hk hn);rcases ho k hm with h1 | h1
 ·exact hn h1
 ·omega
theorem Keeps.mono (h:Keeps L w w') (hs:∀k,some k∈L→some k∈L'):Keeps L' w w':=⟨h.os,h.tape,h.output,h.size,fun k hk hn=>h.block k hk fun hm=>hn (hs k hm)⟩
theorem Keeps.below (h:Keeps L w w') (hB:B≤w.heap.size) (hL:∀k,some k∈L→B≤k):Below B w w':=
 ⟨h.os,h.tape,h.output,h.size,fun k hk=>h.block k (by omega) fun hm=>by have:=hL k hm;omega⟩
theorem Keeps.of_below (h:Below w.heap.size w w'):Keeps L w w':=⟨h.os,h.tape,h.output,h.size,fun k hk _=>h.block k hk⟩
theorem Keeps.set (g k:Nat) (v:Value) (hg:some g∈L):Keeps L w (w.setCell ⟨g,k,none⟩ v):=
 ⟨rfl,rfl,rfl,by simp,fun j _ hn=>Below.heap_setCell _ _ _ _ (fun e=>hn (by rw [e];exact hg))⟩
theorem Keeps.grown {o:Option Nat} (h:w.grownBy w' o) (ho:∀k,o=some k→some k∈L):Keeps L w w':=
 ⟨h.os,h.tape,h.output,h.size,fun k hk hn=>h.block k hk fun e=>hn (ho k e.symm)⟩
theorem Keeps.of_kept {g:Nat} {o:Option Nat} (h:Ln.Kept g o w w') (hg:some g∈L) (ho:∀k,o=some k→some k∈L):Keeps L w w':=
 ⟨h.os,h.tape,h.output,h.size,fun k hk hn=>h.block k hk (fun e=>hn (by rw [e];exact hg)) fun e=>hn (ho k e.symm)⟩
theorem Keeps.cell (h:Keeps L w w') {p:Addr} (hp:p.block<w.heap.size) (hn:some p.block∉L):w'.cell? p=w.cell? p:=by unfold World.cell?;rw [h.block _ hp hn]
theorem Keeps.row (h:Keeps L w w') {j:Nat} {cs:Array Value} {ty:TypeId} (hr:w.heap[j]?=some (.cells cs ty (0,0))) (hn:some j∉L):w'.heap[j]?=some (.cells cs ty (0,0)):=(h.block j (Ln.row_lt hr) hn).trans hr
theorem Keeps.own (h:Keeps L w w') {e:TypeId} {size:Nat} {v:Value} {n:Nat} {xs:List Value} (hv:w.ownsRow B e size v n xs) (hn:∀k,v.ownBlock=some k→some k∉L):w'.ownsRow B e size v n xs:=by
 refine ⟨hv.1,?_⟩;rcases hv.2 with h0 | ⟨b,cap,cur,rfl,hb,hgg,rest⟩
 ·exact .inl h0
 ·refine .inr ⟨b,cap,cur,rfl,hb,?_,rest⟩;rw [h.block b (Ln.row_lt hgg) (hn b (by simp [Value.ownBlock]))];exact hgg
end
structure Zone where
 b:Nat
 z:List (Option Nat)
instance:CoeOut Zone Nat:=⟨Zone.b⟩
structure Clear (w:World) (Z L:List (Option Nat)):Prop where
 inz:∀k,some k∈Z→k<w.heap.size
 off:∀k,some k∈L→some k∉Z
theorem Clear.of {w w':World} {Z L L':List (Option Nat)} (h:Clear w Z L) (hs:w.heap.size≤w'.heap.size) (ho:Of w L L'):Clear w' Z L':=
 ⟨fun k hk=>Nat.lt_of_lt_of_le (h.inz k hk) hs,fun k hk hz=>by
   rcases ho k hk with e | e
   ·exact h.off k e hz
   ·have:=h.inz k hz;omega⟩
theorem Clear.nil {w:World} {L:List (Option Nat)}:Clear w [] L:=⟨(fun k hk=>by cases hk),(fun k _ hz=>by cases hz)⟩
def slot:Value→Option Nat
 | .slice (some a) _ _=>some a.block
 | _=>none
def blocks:Value→List (Option Nat)
 | .agg cs=>cs.toList.map slot
 | _=> []
structure Far (L Z:List (Option Nat)) (w:World) (V:Value) (r:Rec.R):Prop where
 reads:Rec.Reads w V r
 far:∀k,some k∈blocks V→some k∉L∧k<w.heap.size
 off:∀k,some k∈blocks V→some k∉Z
section
variable {L L' Z:List (Option Nat)} {w w':World} {V:Value} {r:Rec.R}
theorem flds_keeps {a:Option Addr} {n:Nat} {fs:List Txt.Fld} (h:Txt.Flds w a n fs) (hk:Keeps L w w') (hn:∀c,slot (.slice a n c)=none∨∃k,slot (.slice a n c)=some k∧some k∉L):Txt.Flds w' a n fs:=by
 refine ⟨h.1,fun h0=>?_⟩;obtain ⟨b,off,rfl,hlt,hc⟩:=h.2 h0;have hb:some b∉L:=by
  rcases hn 0 with e | ⟨k,e,hk⟩
  ·cases e
  ·cases e;exact hk
 exact ⟨b,off,rfl,Nat.lt_of_lt_of_le hlt hk.size,fun k hkn=>⟨(hk.cell (p:=⟨b,off+k*2,none⟩) hlt hb).trans (hc k hkn).1,(hk.cell (p:=⟨b,off+k*2+1,none⟩) hlt hb).trans (hc k hkn).2⟩⟩
theorem nums_keeps {a:Option Addr} {n:Nat} {kd:IntKind} {zs:List Int} (h:Nums kd w a n zs) (hk:Keeps L w w') (hn:∀c,slot (.slice a n c)=none∨∃k,slot (.slice a n c)=some k∧some k∉L):Nums kd w' a n zs:=by
 refine ⟨h.1,fun h0=>?_⟩;obtain ⟨b,off,rfl,hlt,hc⟩:=h.2 h0;have hb:some b∉L:=by
  rcases hn 0 with e | ⟨k,e,hk⟩
  ·cases e
  ·cases e;exact hk
 exact ⟨b,off,rfl,Nat.lt_of_lt_of_le hlt hk.size,fun k hkn=>(hk.cell (p:=⟨b,off+k,none⟩) hlt hb).trans (hc k hkn)⟩
theorem Far.keeps (h:Far L Z w V r) (hk:Keeps L w w'):Far L Z w' V r:=by
 refine ⟨?_,fun k hb=>⟨(h.far k hb).1,Nat.lt_of_lt_of_le (h.far k hb).2 hk.size⟩,h.off⟩;obtain ⟨fa,fc,ba,bc,ta,tc,rfl,h1,h2,h3⟩:=h.reads;have hf:=h.far;simp only [blocks,List.map_cons,List.map_nil,List.mem_cons,List.not_mem_nil,or_false] at hf;have key:∀(a:Option Addr) (n c:Nat),(∀k,some k=slot (.slice a n c)→some k∉L∧k<w.heap.size)→∀c',slot (.slice a n c')=none∨∃k,slot (.slice a n c')=some k∧some k∉L:=by
  intro a n c h c';cases a with
  | none=>exact .inl rfl
  | some a=>exact .inr ⟨a.block,rfl,(h a.block rfl).1⟩
 refine ⟨fa,fc,ba,bc,ta,tc,rfl,flds_keeps h1 hk (key _ _ fc fun k e=>hf k ?_),nums_keeps h2 hk (key _ _ bc fun k e=>hf k ?_),flds_keeps h3 hk (key _ _ tc fun k e=>hf k ?_)⟩
 ·rw [e];simp
 ·rw [e];simp
 ·rw [e];simp
theorem Far.of (h:Far L Z w V r) (ho:∀k,some k∈L'→some k∈L∨w.heap.size≤k):Far L' Z w V r:=
 ⟨h.reads,fun k hb=>⟨fun hm=>by
   have:=h.far k hb;rcases ho k hm with h1 | h1
   ·exact this.1 h1
   ·omega,(h.far k hb).2⟩,h.off⟩
end
end Go.Proofs.YtimoakmcelocfaaGreat.Mem
namespace Go.Proofs.YtimoakmcelocfaaGreat.An
open Go.RowKit Base Par
def effL (p:Nat) (b:Bd):List Int:=if (b.right&&decide (p<1073741824))=true then (Qk.upTo p 30).filter (fun c=>Qk.needs c p b.ch b.od) else []
theorem effL_le (p:Nat) (b:Bd):(effL p b).length≤30:=by
 unfold effL;split
 ·exact Nat.le_trans (List.length_filter_le _ _) (Qk.upTo_le p 30)
 ·exact Nat.zero_le _
theorem take_filter (zs:List Int) (q:Int→Bool) (k:Nat) (h:k<zs.length):(zs.take (k+1)).filter q=(zs.take k).filter q++(if q zs[k]=true then [zs[k]] else []):=by
 rw [List.take_succ_eq_append_getElem h,List.filter_append]
 congr 1
 rw [List.filter_cons];split<;>simp
theorem bstep {B:Nat} {w w1 w2:World} (hB:w.heap.size=B) (h:Below B w w1) (hb:Below w1.heap.size w1 w2):Below B w w2:=h.trans (hb.mono (by have:=h.size;omega))
section code
set_option maxHeartbeats 8000000
set_option maxRecDepth 20000
attribute [local go_sem] Base.some_undef
theorem right_any (p:Nat) (hp:p<4294967296) (b:Bd) (w:World):Calls Tryz.prog 28 #[.int .u32 (p:Int),.agg #[.int .i64 b.x0,.int .i64 b.x1,.int .i64 b.x2,.int .i64 b.x3,.int .i64 b.x4,.int .i64 b.x5,.int .i64 b.x6,.int .i64 b.x7,.bool b.ch,.bool b.od]] w fun e w'=>e=.returned (.bool (decide (p<1073741824)&&b.right))∧Below w.heap.size w w':=by
 have HBR:=Lib.hid (fun w=>show Calls Tryz.prog 41 #[.agg #[.int .i64 b.x0,.int .i64 b.x1,.int .i64 b.x2,.int .i64 b.x3,.int .i64 b.x4,.int .i64 b.x5,.int .i64 b.x6,.int .i64 b.x7,.bool b.ch,.bool b.od]] w fun e w'=>e=.returned (.bool b.right)∧Below w.heap.size w w' from Bnd.right_any b.x0 b.x1 b.x2 b.x3 b.x4 b.x5 b.x6 b.x7 b.ch b.od w)
 have HPR:=Lib.hid (fun w=>Qk.right_any p hp w)
 have HB0:=Lib.hid (((Below.refl _ _).alloc (Nat.le_refl _) (.cells #[.int .i64 b.x0,.int .i64 b.x1,.int .i64 b.x2,.int .i64 b.x3,.int .i64 b.x4,.int .i64 b.x5,.int .i64 b.x6,.int .i64 b.x7,.bool b.ch,.bool b.od] 24)):Below w.heap.size w _)
 have HZ0:=Lib.hid (Rec.Bk.new w w.heap.size rfl 24 [.int .i64 b.x0,.int .i64 b.x1,.int .i64 b.x2,.int .i64 b.x3,.int .i64 b.x4,.int .i64 b.x5,.int .i64 b.x6,.int .i64 b.x7,.bool b.ch,.bool b.od]);have x0:=HZ0.out.c 0 _ rfl;have x1:=HZ0.out.c 1 _ rfl;have x2:=HZ0.out.c 2 _ rfl;have x3:=HZ0.out.c 3 _ rfl;have x4:=HZ0.out.c 4 _ rfl;have x5:=HZ0.out.c 5 _ rfl;have x6:=HZ0.out.c 6 _ rfl;have x7:=HZ0.out.c 7 _ rfl;have x8:=HZ0.out.c 8 _ rfl;have x9:=HZ0.out.c 9 _ rfl;obtain ⟨a1,ha1⟩:∃a,decide (p<1073741824)=a:=⟨_,rfl⟩;obtain ⟨a2,ha2⟩:∃a,b.right=a:=⟨_,rfl⟩;rw [ha1] at HPR ⊢;rw [ha2] at HBR ⊢;clear ha1 ha2;cases a1;all_goals
  go_enter Tryz.func28,Tryz.ntmps28
  go_wp2_with (first
   |(go_at_call 41;with_reducible refine (HBR.out _).mono ?_;rintro r w1 ⟨rfl,hb1⟩;have HB1:=Lib.hid hb1;clear hb1)
   |(go_at_call 40;with_reducible refine (HPR.out _).mono ?_;rintro r w6 ⟨rfl,hw⟩;rw [hw];clear hw))
  go_ret;first | exact ⟨rfl,Base.below_step HB0.out HB1.out⟩ | exact ⟨rfl,HB0.out⟩ | exact ⟨by simp,Base.below_step HB0.out HB1.out⟩
theorem eff_any (p:Nat) (hp:p<4294967296) (b:Bd) (w:World):Calls Tryz.prog 13 #[.int .u32 (p:Int),.agg #[.int .i64 b.x0,.int .i64 b.x1,.int .i64 b.x2,.int .i64 b.x3,.int .i64 b.x4,.int .i64 b.x5,.int .i64 b.x6,.int .i64 b.x7,.bool b.ch,.bool b.od]] w fun e w'=>∃(A:Option Addr) (c:Nat),e=.returned (.slice A (effL p b).length c)∧Ints w' A (effL p b).length (effL p b)∧Below w.heap.size w w':=by
 obtain ⟨i0,hi,hz0,hz1,hz2⟩:=info_parts Qk.int_info;have G1:=Lib.hid hi;have G2:=Lib.hid hz0;have G3:=Lib.hid hz1;have G4:=Lib.hid hz2;clear hi hz0 hz1 hz2
 have HB0:=Lib.hid (((Below.refl _ _).alloc (Nat.le_refl _) (.cells #[.int .i64 b.x0,.int .i64 b.x1,.int .i64 b.x2,.int .i64 b.x3,.int .i64 b.x4,.int .i64 b.x5,.int .i64 b.x6,.int .i64 b.x7,.bool b.ch,.bool b.od] 24)):Below w.heap.size w _)
 have HZ0:=Lib.hid (Rec.Bk.new w w.heap.size rfl 24 [.int .i64 b.x0,.int .i64 b.x1,.int .i64 b.x2,.int .i64 b.x3,.int .i64 b.x4,.int .i64 b.x5,.int .i64 b.x6,.int .i64 b.x7,.bool b.ch,.bool b.od]);obtain ⟨a1,ha1⟩:∃a,decide (p<1073741824)=a:=⟨_,rfl⟩;obtain ⟨a2,ha2⟩:∃a,b.right=a:=⟨_,rfl⟩
 have HR:=Lib.hid (fun w=>right_any p hp b w);rw [ha1,ha2] at HR;have hef:effL p b=if (a2&&a1)=true then (Qk.upTo p 30).filter (fun c=>Qk.needs c p b.ch b.od) else []:=by unfold effL;rw [ha1,ha2]
 by_cases hok:(a2&&a1)=true
 ·obtain ⟨rfl,rfl⟩:a2=true∧a1=true:=by simpa using hok
  rw [if_pos hok] at hef;rw [hef];clear hok ha1 ha2 hef
  have HLI:=Lib.hid (fun w=>Qk.list_any p hp w);have hle:=Qk.upTo_le p 30;obtain ⟨zs,hzs⟩:∃zs,Qk.upTo p 30=zs:=⟨_,rfl⟩;rw [hzs] at HLI hle ⊢
  have HND:Hid (∀(z:Int) (w:World),Calls Tryz.prog 31 #[.int .i64 z,.int .u32 (p:Int),.agg #[.int .i64 b.x0,.int .i64 b.x1,.int .i64 b.x2,.int .i64 b.x3,.int .i64 b.x4,.int .i64 b.x5,.int .i64 b.x6,.int .i64 b.x7,.bool b.ch,.bool b.od]] w fun e w'=>e=.returned (.bool (Qk.needs z p b.ch b.od))∧Below w.heap.size w w'):=Lib.hid (fun z w=>Qk.needs_any z p hp b.x0 b.x1 b.x2 b.x3 b.x4 b.x5 b.x6 b.x7 b.ch b.od w);obtain ⟨fl,hfl⟩:∃fl:Nat→List Int,fl=fun k=>(zs.take k).filter (fun c=>Qk.needs c p b.ch b.od):=⟨_,rfl⟩;have HFL:=Lib.hid hfl;have hall:zs.filter (fun c=>Qk.needs c p b.ch b.od)=fl zs.length:=by rw [hfl];simp
  have hfll:∀k,(fl k).length≤k:=fun k=>by
   rw [hfl]
   exact Nat.le_trans (List.length_filter_le _ _) (by rw [List.length_take];omega)
  have hf0:fl 0= []:=by rw [hfl];rfl
  have HALL:=Lib.hid hall;have HF0:=Lib.hid hf0;have HFLL:=Lib.hid hfll;rw [hall];clear hzs hfl hall hf0 hfll;go_enter Tryz.func13,Tryz.ntmps13;go_upto_region 1 with fail
  generalize w.alloc (.cells #[.int .i64 b.x0,.int .i64 b.x1,.int .i64 b.x2,.int .i64 b.x3,.int .i64 b.x4,.int .i64 b.x5,.int .i64 b.x6,.int .i64 b.x7,.bool b.ch,.bool b.od] 24)=W0 at *;generalize hgB:w.heap.size=g at *;have HGB:=Lib.hid hgB;clear hgB;have x0:=HZ0.out.c 0 _ rfl;have x1:=HZ0.out.c 1 _ rfl;have x2:=HZ0.out.c 2 _ rfl;have x3:=HZ0.out.c 3 _ rfl;have x4:=HZ0.out.c 4 _ rfl;have x5:=HZ0.out.c 5 _ rfl;have x6:=HZ0.out.c 6 _ rfl;have x7:=HZ0.out.c 7 _ rfl;have x8:=HZ0.out.c 8 _ rfl;have x9:=HZ0.out.c 9 _ rfl
  go_upto_region 4 with (first
   |(go_at_call 28;with_reducible refine (HR.out _).mono ?_;rintro r w1 ⟨rfl,hb1⟩;have HB1:=Lib.hid hb1;clear hb1))
  have HZ1:=Lib.hid (HZ0.out.below HB1.out)
  have HBA:=Lib.hid (bstep HGB.out HB0.out HB1.out);clear x0 x1 x2 x3 x4 x5 x6 x7 x8 x9
  go_upto_region 5 with (go_at_call 30;with_reducible refine (HLI.out _).mono ?_;rintro r w3 ⟨v,rfl,hv,hb3⟩;have HB3:=Lib.hid (bstep HGB.out HBA.out hb3);have HZ3:=Lib.hid (HZ1.out.below hb3);obtain ⟨A,ca,rfl,hints⟩:=Ints.of_own hv;have HI:=Lib.hid hints;clear hv hb3 hints)
  obtain ⟨W1,hW1⟩:∃W1,W1=w3:=⟨_,rfl⟩;subst hW1;obtain ⟨n,hnn⟩:∃n,zs.length=n:=⟨_,rfl⟩;have HN:=Lib.hid hnn;rw [hnn] at HI HALL hle ⊢;clear hnn
  go_loopw [5,15] (fun v i wr=>∃k:Nat,k≤n∧i=.int .i64 k∧Hid (wr.ownsRow W1.heap.size 3 1 v (fl k).length ((fl k).map (Value.int .i64)))∧Hid (Below W1.heap.size W1 wr)) (fun _ i _=>n-(intOf i).toNat)
  case atStart=>exact ⟨0,Nat.zero_le _,rfl,Lib.hid (by rw [HF0.out];exact ⟨rfl,.inl ⟨rfl,rfl⟩⟩),Lib.hid (Below.refl _ _)⟩
  case round=>
   obtain ⟨k,hk,rfl,hown,hbr⟩:=hrel;have hflk:=HFLL.out k;rcases Nat.lt_or_ge k n with hlt | hge
   ·have t1:(k:Int)<(n:Int):=by omega
    have hkl:k<zs.length:=by rw [HN.out];exact hlt
    have hIk:=HI.out
    obtain ⟨ib,io,rfl,hib,hcs⟩:=hIk.2 (by omega);have ck0:=hcs k hlt;rw [List.getElem?_eq_getElem hkl,Option.getD_some] at ck0;have hsn:fl (k+1)=fl k++(if Qk.needs zs[k] p b.ch b.od=true then [zs[k]] else []):=by rw [HFL.out];exact take_filter zs _ k hkl
    obtain ⟨z,hzk⟩:∃z,zs[k]=z:=⟨_,rfl⟩;rw [hzk] at ck0 hsn;have hib2:ib<wr.heap.size:=Nat.lt_of_lt_of_le hib hbr.out.size;have ck:wr.cell? ⟨ib,io+k,none⟩=some (.int .i64 z):=(hbr.out.cell (p:=⟨ib,io+k,none⟩) hib).trans ck0
    have HZr:=Lib.hid (HZ3.out.below hbr.out);have y0:=HZr.out.c 0 _ rfl;have y1:=HZr.out.c 1 _ rfl;have y2:=HZr.out.c 2 _ rfl;have y3:=HZr.out.c 3 _ rfl;have y4:=HZr.out.c 4 _ rfl;have y5:=HZr.out.c 5 _ rfl;have y6:=HZr.out.c 6 _ rfl;have y7:=HZr.out.c 7 _ rfl;have y8:=HZr.out.c 8 _ rfl;have y9:=HZr.out.c 9 _ rfl
    have HNE:=Lib.hid (HND.out z);have HS:=Lib.hid hsn;clear hsn hcs hIk ck0 hzk hkl;obtain ⟨nb,hnb⟩:∃nb,Qk.needs z p b.ch b.od=nb:=⟨_,rfl⟩;cases nb with
    | false=>
      rw [hnb] at HNE HS;rw [if_neg Bool.false_ne_true,List.append_nil] at HS;clear hnb
      go_wp2_with (first
       |(go_at_call 31;with_reducible refine (HNE.out _).mono ?_;rintro r w5 ⟨rfl,hb5⟩
         have HB5:=Lib.hid (Base.below_step hbr.out hb5)
         have HOW:=Lib.hid ((Mem.Keeps.of_below hb5:Mem.Keeps [] _ _).own hown.out (fun _ _ hm=>by cases hm));have ck5:w5.cell? ⟨ib,io+k,none⟩=some (.int .i64 z):=(hb5.cell (p:=⟨ib,io+k,none⟩) hib2).trans ck;clear hb5))
      go_roundw
      case rel=>exact ⟨k+1,by omega,by go_num,Lib.hid (by rw [HS.out];exact HOW.out),HB5⟩
      case measure=>simp [intOf];omega
    | true=>
      rw [hnb] at HNE HS;rw [if_pos rfl] at HS;clear hnb
      go_wp2_with (first
       |(go_at_call 31;with_reducible refine (HNE.out _).mono ?_;rintro r w5 ⟨rfl,hb5⟩
         have HB5:=Lib.hid (Base.below_step hbr.out hb5)
         have HOW:=Lib.hid ((Mem.Keeps.of_below hb5:Mem.Keeps [] _ _).own hown.out (fun _ _ hm=>by cases hm));have ck5:w5.cell? ⟨ib,io+k,none⟩=some (.int .i64 z):=(hb5.cell (p:=⟨ib,io+k,none⟩) hib2).trans ck;clear hb5)
       |(at_builtin;refine wpList_append_own _ rfl _ _ 32 rfl W1.heap.size 3 i0 (.int .i64 0) 1 8 Tryz.underlying32 G1.out G2.out G3.out G4.out rfl (by decide) _ _ _ rfl (HOW.out.alloc _) ⟨w5.heap.size,0,none⟩ 1 1 [.int .i64 z] rfl rfl ?c1 ?c2 ?c3 ?c4 ?c5 ?_))
      case c1=>exact news_one w5 _ _
      case c2=>intro u hu;obtain rfl:u=.int .i64 z:=by simpa using hu
               rfl
      case c3=>unfold maxLen;omega
      case c4=>omega
      case c5=>have:=HB5.out.size;simp;omega
      intro v' w' hown' hgr _
      have H2:Hid (w'.ownsRow W1.heap.size 3 1 v' (fl (k+1)).length ((fl (k+1)).map (Value.int .i64))):=Lib.hid (by rw [HS.out];simpa using hown')
      have H3:Hid (Below W1.heap.size W1 w'):=Lib.hid ((HB5.out.alloc HB5.out.size _).grown hgr (by have:=HB5.out.size;simp;omega) (own_base HOW.out));clear hown' hgr;go_wp2;go_roundw
      case rel=>exact ⟨k+1,by omega,by go_num,H2,H3⟩
      case measure=>simp [intOf];omega
   ·obtain rfl:k=n:=by omega
    have t1:¬(k:Int)<(k:Int):=by omega
    go_wp2_with fail;go_ret;obtain ⟨A2,c2,rfl,hI2⟩:=Ints.of_own hown.out;rw [HN.out,HGB.out];exact ⟨A2,⟨c2,rfl⟩,hI2,HB3.out.trans (hbr.out.mono (by have:=HB3.out.size;have:=HGB.out;omega))⟩
 ·rw [if_neg hok] at hef;rw [hef];have hz:a1=false∨(a1=true∧a2=false):=by
   revert hok;cases a2<;>cases a1<;>simp
  clear hok ha1 ha2 hef;go_enter Tryz.func13,Tryz.ntmps13;go_upto_region 1 with fail
  generalize w.alloc (.cells #[.int .i64 b.x0,.int .i64 b.x1,.int .i64 b.x2,.int .i64 b.x3,.int .i64 b.x4,.int .i64 b.x5,.int .i64 b.x6,.int .i64 b.x7,.bool b.ch,.bool b.od] 24)=W0 at *;generalize hgB:w.heap.size=g at *;have HGB:=Lib.hid hgB;clear hgB;have x0:=HZ0.out.c 0 _ rfl;have x1:=HZ0.out.c 1 _ rfl;have x2:=HZ0.out.c 2 _ rfl;have x3:=HZ0.out.c 3 _ rfl;have x4:=HZ0.out.c 4 _ rfl;have x5:=HZ0.out.c 5 _ rfl;have x6:=HZ0.out.c 6 _ rfl;have x7:=HZ0.out.c 7 _ rfl;have x8:=HZ0.out.c 8 _ rfl;have x9:=HZ0.out.c 9 _ rfl;rcases hz with rfl | ⟨rfl,rfl⟩
  ·go_wp2_with (first
   |(go_at_call 28;with_reducible refine (HR.out _).mono ?_;rintro r w1 ⟨rfl,hb1⟩;have HB1:=Lib.hid hb1;clear hb1))
   all_goals (first | done | skip)
   go_ret;refine ⟨none,0,rfl,Ints.nil _ _,?_⟩;rw [HGB.out];first | exact bstep HGB.out HB0.out HB1.out | exact HB0.out
  ·go_wp2_with (first
   |(go_at_call 28;with_reducible refine (HR.out _).mono ?_;rintro r w1 ⟨rfl,hb1⟩;have HB1:=Lib.hid hb1;clear hb1))
   go_ret;refine ⟨none,0,rfl,Ints.nil _ _,?_⟩;rw [HGB.out];first | exact bstep HGB.out HB0.out HB1.out | exact HB0.out
end code
end Go.Proofs.YtimoakmcelocfaaGreat.An
namespace Go.Proofs.YtimoakmcelocfaaGreat.Bld
open Go.RowKit
abbrev T:TypeId:=116
abbrev E:TypeId:=5
theorem infoB:(Tryz.prog.info? 5).map (fun i=>(i.zero,i.size,i.bytes))=some (some (.int .u8 0),1,1):=by kernel_rfl
theorem infoT:(Tryz.prog.info? 116).map (·.size)=some 2:=by kernel_rfl
theorem liesT:liesAt Tryz.prog Tryz.prog.depth 116 (2/Tryz.prog.cellsOf 116) 0 116 1=true:=by kernel_rfl
section code
set_option maxHeartbeats 2000000
set_option maxRecDepth 100000
theorem check_any (B b:Nat) (bs:List Value) (w:World) (h:Lib.IsBuilderF T E B b bs w) :
 Calls Tryz.prog 96 #[.pointer (some ⟨b,0,none⟩)] w fun e w'=>e=.returned (.tuple #[])∧(Lib.BuilderAtF T E B b (.pointer (some ⟨b,0,none⟩)) bs w'∧Below B w w'):=by
 obtain ⟨j,hj,hjs⟩:=Option.map_eq_some_iff.1 infoT;rcases h with h | h
 ·have h0:=h.cell0;have hsh:=h.shape;have hfz:=h.frozen0;have HH:=Lib.hid h;go_enter Tryz.func96,Tryz.ntmps96;go_wp2;rw [Lib.run_to_unsafe w ⟨b,0,none⟩ Tryz.underlying114 Tryz.underlying158 hj (by rw [hjs];decide) hsh (Nat.zero_lt_succ 1)];simp only [Result.andThen];rw [Oper.upon_value];go_wp2;rw [run_callFunc_extern Tryz.func113 (by kernel_rfl) (by kernel_rfl) (by kernel_rfl) (e:=Extern.AbiNoEscape.same) (by kernel_rfl)];rw [Lib.run_noEscape];simp only [Result.andThen];rw [Oper.upon_value];go_wp2;rw [Lib.run_from_unsafe w ⟨b,0,none⟩ Tryz.underlying158 Tryz.underlying114 hj hsh liesT];simp only [Result.andThen];rw [Oper.upon_value];go_wp2;go_end0;exact ⟨rfl,HH.out.used _,(Below.refl B w).setCell (p:=⟨b,0,none⟩) HH.out.1 _⟩
 ·have h0:=h.cell0;have HH:=Lib.hid h;go_enter Tryz.func96,Tryz.ntmps96;go_wp2;rw [Lib.run_neq_ptr_same w _ Tryz.underlying114 hj];go_wp2;go_end0;exact ⟨rfl,HH.out,Below.refl B _⟩
theorem write_any (B b:Nat) (bs:List Value) (s:ByteArray) (w:World) (h:Lib.IsBuilderF T E B b bs w) (hlen:bs.length+s.size≤140737488355328) (hBw:B≤w.heap.size) :
 Calls Tryz.prog 84 #[.pointer (some ⟨b,0,none⟩),.string s] w fun e w'=>e=.returned (.tuple #[.int .i64 s.size,.nilIface])∧(Lib.BuilderAtF T E B b (.pointer (some ⟨b,0,none⟩)) (bs++Lib.strCells s) w'∧Below B w w'):=by
 obtain ⟨i0,hi,hz0,hz1,hz2⟩:=info_parts infoB
 have HC:=Lib.hid (check_any B b bs w h);clear h;go_enter Tryz.func84,Tryz.ntmps84
 go_wp2_with (go_at_call 96;with_reducible refine HC.out.mono ?_);rintro e w1 ⟨rfl,h1⟩;obtain ⟨⟨hB,v,hbk,hown,hne⟩,hb1⟩:=h1;have c0:w1.cell? ⟨b,0,none⟩=some (.pointer (some ⟨b,0,none⟩)):=by rw [Lib.cell_of_heap hbk];rfl
 have c1:w1.cell? ⟨b,1,none⟩=some v:=by rw [Lib.cell_of_heap hbk];rfl
 go_wp2_with (at_builtin;refine Lib.wpList_append_own_stringF _ rfl _ _ 34 9 rfl B 5 i0 Tryz.underlying34 Tryz.underlying9 hi hz0 hz1 hz2 _ _ _ rfl hown s rfl ?c3 ?c4 ?c5 ?_)
 case c3=>unfold maxLen;omega
 case c4=>omega
 case c5=>have:=hb1.size;omega
 intro v' w2 hown' hgrow _;have hlt:b<w1.heap.size:=by
  rcases Nat.lt_or_ge b w1.heap.size with h' | h'
  ·exact h'
  ·simp [Array.getElem?_eq_none h'] at hbk
 have hb2:w2.heap[b]?=some (.cells #[.pointer (some ⟨b,0,none⟩),v] T (0,0)):=by rw [hgrow.block b hlt (fun e=>hne e.symm)];exact hbk
 have d0:w2.cell? ⟨b,0,none⟩=some (.pointer (some ⟨b,0,none⟩)):=by rw [Lib.cell_of_heap hb2];rfl
 have d1:w2.cell? ⟨b,1,none⟩=some v:=by rw [Lib.cell_of_heap hb2];rfl
 have f1:w2.frozen? ⟨b,1,none⟩=false:=Lib.frozen_of_heap hb2 1;obtain ⟨ao,n',cap,rfl⟩:∃ao n' cap,v'=.slice ao n' cap:=by
  rcases hown'.2 with ⟨hv,_⟩ | ⟨g,cap,cur,fz,hv,_⟩
  ·exact ⟨_,_,_,hv⟩
  ·exact ⟨_,_,_,hv⟩
 go_wp2;go_ret2;refine ⟨rfl,?_,?_⟩
 ·exact Lib.BuilderAtF.put (T:=T) (e:=E) hB hb2 (bs':=bs++Lib.strCells s) (by simpa [Lib.strCells_length] using hown') (by decide)
 ·exact (hb1.grown hgrow (by have:=hb1.size;omega) (fun k hk=>(hown.lt k hk).1)).setCell (p:=⟨b,1,none⟩) hB _
end code
end Go.Proofs.YtimoakmcelocfaaGreat.Bld
namespace Go.Proofs.YtimoakmcelocfaaGreat.Wit
open Go.RowKit Base Txt
theorem isB_fresh (w:World):Lib.IsBuilderF Bld.T Bld.E w.heap.size w.heap.size [] (w.alloc (.cells #[.pointer none,.slice none 0 0] Bld.T)):=
 .inl ⟨Nat.le_refl _,.slice none 0 0,heap_alloc_new w _,World.ownsRowF_nil _ _ _ _,by simp [Value.ownBlock]⟩
abbrev E2:ByteArray:=⟨#[13,10]⟩
def linesB (vs:List ByteArray):List UInt8:=vs.flatMap fun v=>v.data.toList ++ [13,10]
theorem linesB_snoc (vs:List ByteArray) (k:Nat) (h:k<vs.length):linesB (vs.take (k+1))=linesB (vs.take k)++(vs[k].data.toList ++ [13,10]):=by rw [List.take_succ_eq_append_getElem h];unfold linesB;rw [List.flatMap_append];simp
theorem linesB_le (vs:List ByteArray) (k:Nat) (h:k<vs.length):(linesB (vs.take k)).length+(vs[k].size+2)≤(linesB vs).length:=by
 have e:linesB vs=linesB (vs.take (k+1))++linesB (vs.drop (k+1)):=by unfold linesB;rw [←List.flatMap_append,List.take_append_drop]
 rw [e,linesB_snoc vs k h];simp only [List.length_append,len,List.length_cons,List.length_nil];omega
section code
set_option maxHeartbeats 4000000
set_option maxRecDepth 20000
attribute [local go_sem] Base.some_undef
theorem lines_any (a:Option Addr) (n cap:Nat) (vs:List ByteArray) (w:World) (hv:Strs w a n vs) (hn:n≤1000000) (hz:(linesB vs).length≤1000000) :
 Calls Tryz.prog 76 #[.slice a n cap] w fun e w'=>e=.returned (.string (ba (linesB vs)))∧Below w.heap.size w w':=by
 have HV:=Lib.hid hv;have HL:=Lib.hid hv.1;have HZ:=Lib.hid hz;clear hv hz
 have HW:=Lib.hid (fun (bs:List Value) (s:ByteArray) (wz:World) h hl hw=>Bld.write_any w.heap.size w.heap.size bs s wz h hl hw);obtain ⟨R,hR⟩:∃R,ba (linesB vs)=R:=⟨_,rfl⟩;rw [hR];have HR:=Lib.hid hR;clear hR;go_enter Tryz.func76,Tryz.ntmps76;go_wp2
 go_loopw [8] (fun i wr=>∃k:Nat,k≤n∧i=.int .i64 k∧Hid (Lib.IsBuilderF Bld.T Bld.E w.heap.size w.heap.size (Lib.byteCells (linesB (vs.take k))) wr)∧Hid (Below w.heap.size w wr)) (fun i _=>n-(intOf i).toNat)
 case atStart=>exact ⟨0,Nat.zero_le _,rfl,Lib.hid (isB_fresh w),Lib.hid ((Below.refl _ _).alloc (Nat.le_refl _) _)⟩
 case round=>
  obtain ⟨k,hk,rfl,HB,hbr⟩:=hrel;rcases Nat.lt_or_ge k n with hlt | hge
  ·obtain ⟨bl,off,rfl,hbl,hc⟩:=(HV.out.below hbr.out).2 (by omega);have hc0:=hc k hlt;have hkl:k<vs.length:=by rw [HL.out];exact hlt
   have hsn:=Lib.hid (linesB_snoc vs k hkl);have hle:=linesB_le vs k hkl;have hz:=HZ.out;clear hc;have e1:vs[k]?.getD ByteArray.empty=vs[k]:=by rw [List.getElem?_eq_getElem hkl];rfl
   generalize hs:vs[k]=s at *;try rw [e1] at hc0
   have hlen:=Lib.hid (show (Lib.byteCells (linesB (vs.take k))).length+(s++E2).size≤140737488355328 by rw [Lib.byteCells_length,ByteArray.size_append];show _+(s.size+2)≤_;omega);have v1:¬9223372036854775807<s.size+2:=by omega
   have hcells:Lib.byteCells (linesB (vs.take k))++Lib.strCells (s++E2)=Lib.byteCells (linesB (vs.take (k+1))):=by rw [Lib.strCells_eq,show (s++E2).data.toList=s.data.toList ++ [13,10] by simp [E2,ByteArray.data_append],←Lib.byteCells_append,←hsn.out]
   have HCl:=Lib.hid hcells;clear hcells hle hz hsn hkl e1 hs;have hBw:w.heap.size≤wr.heap.size:=hbr.out.size
   go_wp2_with (go_at_call 84;with_reducible refine (HW.out _ (s++E2) _ HB.out hlen.out ?hbw).mono ?_)
   case hbw=>omega
   rintro e w2 ⟨rfl,hat,hb2⟩
   have H2:Hid (Lib.IsBuilderF Bld.T Bld.E w.heap.size w.heap.size (Lib.byteCells (linesB (vs.take (k+1)))) w2):=Lib.hid (by rw [←HCl.out];exact .inr hat)
   have H3:Hid (Below w.heap.size w w2):=Lib.hid (hbr.out.trans hb2);clear hat hb2 HB hbr HCl hlen;go_wp2;go_roundw
   case rel=>exact ⟨k+1,by omega,by go_num,H2,H3⟩
   case measure=>simp [intOf];omega
  ·obtain rfl:k=n:=by omega
   have hput:vs.take k=vs:=List.take_of_length_le (by rw [HL.out];exact Nat.le_refl _);rw [hput] at HB
   have HS:=Lib.hid (Tryz.Builder_String_any_f w.heap.size w.heap.size (linesB vs) wr HB.out hbr.out.size);clear HB hput
   go_wp2_with (go_at_call 85;with_reducible refine HS.out.mono ?_;rintro e w2 ⟨rfl,hx,hb2⟩);go_ret;exact ⟨by rw [←HR.out];rfl,hbr.out.trans hb2⟩
end code
end Go.Proofs.YtimoakmcelocfaaGreat.Wit
namespace Go.Proofs.YtimoakmcelocfaaGreat.Wit
open Go.RowKit Base Txt
abbrev mk (g:Nat):Value:=.func (.func 75) #[] #[.pointer (some ⟨g,0,none⟩)]
structure Has (w:World) (g:Nat) (s:ByteArray):Prop where
 lt:g<w.heap.size
 c:w.cell? ⟨g,0,none⟩=some (.string s)
theorem Has.below {w w':World} {g:Nat} {s:ByteArray} (h:Has w g s) (hb:Below w.heap.size w w'):Has w' g s:=
 ⟨Nat.lt_of_lt_of_le h.lt hb.size,(hb.cell (p:=⟨g,0,none⟩) h.lt).trans h.c⟩
theorem Has.new (w:World) (ty:TypeId) (s:ByteArray):Has (w.alloc (.cells #[.string s] ty)) w.heap.size s:=
 ⟨by simp,by
   rw [Lib.cell_of_heap (heap_alloc_new w _)];rfl⟩
theorem strs_lit (w:World) (vs:List ByteArray) (cs:Array Value) (ty:TypeId) (h:cs.toList=vs.map Value.string):Strs (w.alloc (.cells cs ty)) (some ⟨w.heap.size,0,none⟩) vs.length vs:=
 ⟨rfl,fun _=>⟨w.heap.size,0,rfl,by simp,fun k hk=>by
   rw [Nat.zero_add,Lib.cell_of_heap (heap_alloc_new w _)];show cs[k]?= _
   rw [←Array.getElem?_toList,h,List.getElem?_map,List.getElem?_eq_getElem hk];rfl⟩⟩
section code
set_option maxHeartbeats 4000000
set_option maxRecDepth 20000
attribute [local go_sem] Base.some_undef
theorem exactly_any (s:ByteArray) (w:World):Calls Tryz.prog 61 #[.string s] w fun e w'=>∃g,e=.returned (mk g)∧Has w' g s∧Below w.heap.size w w':=by go_enter Tryz.func61,Tryz.ntmps61;go_wp2;go_ret;exact ⟨w.heap.size,rfl,Has.new w _ s,(Below.refl _ _).alloc (Nat.le_refl _) _⟩
theorem made_any (p:Nat) (x0 x1 x2 x3 x4 x5 x6 x7:Int) (c d:Bool) (g:Nat) (s:ByteArray) (w:World) (h:Has w g s) :
 Calls Tryz.prog 75 #[.int .u32 (p:Int),Bnd.bnd x0 x1 x2 x3 x4 x5 x6 x7 c d,.pointer (some ⟨g,0,none⟩)] w fun e w'=>e=.returned (.string s)∧Below w.heap.size w w':=by
 have c0:=h.c;have hlt:=h.lt;clear h;go_enter Tryz.func75,Tryz.ntmps75;go_wp2;go_ret;exact ⟨rfl,(Below.refl _ _).alloc (Nat.le_refl _) _⟩
theorem first_any (s:ByteArray) (w:World) (hs:s.size≤1000000):Calls Tryz.prog 60 #[.string s] w fun e w'=>∃g,e=.returned (mk g)∧Has w' g (s++E2)∧Below w.heap.size w w':=by
 have v1:¬9223372036854775807<s.size+2:=by omega
 have HE:=Lib.hid (exactly_any (s++E2));go_enter Tryz.func60,Tryz.ntmps60
 go_wp2_with (go_at_call 61;with_reducible refine (HE.out _).mono ?_;rintro e w1 ⟨g,rfl,hh,hb⟩);go_ret;exact ⟨g,rfl,hh,hb⟩
abbrev topB:ByteArray:=⟨#[71,69,84,32,47,32,72,84,84,80,47,49,46,49,13,10]⟩
abbrev oldB:ByteArray:=⟨#[71,69,84,32,47,32,72,84,84,80,47,49,46,48,13,10]⟩
theorem fields_any (a:Option Addr) (n cap:Nat) (vs:List ByteArray) (w:World) (hv:Strs w a n vs) (hn:n≤1000000) (hz:(linesB vs).length≤1000000) :
 Calls Tryz.prog 62 #[.slice a n cap] w fun e w'=>∃g,e=.returned (mk g)∧Has w' g (topB++ba (linesB vs))∧Below w.heap.size w w':=by
 have HL:=Lib.hid (lines_any a n cap vs w hv hn hz)
 have HE:=Lib.hid (exactly_any (topB++ba (linesB vs)));have v1:¬9223372036854775807<16+(ba (linesB vs)).size:=by simp [ba,ByteArray.size];omega
 clear hv;generalize ba (linesB vs)=R at *;go_enter Tryz.func62,Tryz.ntmps62
 go_wp2_with (first
  |(go_at_call 61;with_reducible refine (HE.out _).mono ?_;rintro e w2 ⟨g,rfl,hh,hb2⟩)
  |(go_at_call 76;with_reducible refine HL.out.mono ?_;rintro e w1 ⟨rfl,hb⟩))
 go_ret;exact ⟨g,rfl,hh,Base.below_step hb hb2⟩
theorem head_any (a:Option Addr) (n cap:Nat) (vs:List ByteArray) (w:World) (hv:Strs w a n vs) (hn:n≤1000000) (hz:(linesB vs).length≤1000000) :
 Calls Tryz.prog 63 #[.slice a n cap] w fun e w'=>∃g,e=.returned (mk g)∧Has w' g (topB++ba (linesB vs)++E2)∧Below w.heap.size w w':=by
 have HL:=Lib.hid (lines_any a n cap vs w hv hn hz)
 have HE:=Lib.hid (exactly_any (topB++ba (linesB vs)++E2));have hsz:(ba (linesB vs)).size≤1000000:=by simpa [ba,ByteArray.size] using hz
 have v1:¬9223372036854775807<16+(ba (linesB vs)).size:=by omega
 have v2:¬9223372036854775807<16+(ba (linesB vs)).size+2:=by omega
 clear hv hsz;generalize ba (linesB vs)=R at *;go_enter Tryz.func63,Tryz.ntmps63
 go_wp2_with (first
  |(go_at_call 61;with_reducible refine (HE.out _).mono ?_;rintro e w2 ⟨g,rfl,hh,hb2⟩)
  |(go_at_call 76;with_reducible refine HL.out.mono ?_;rintro e w1 ⟨rfl,hb⟩))
 go_ret;exact ⟨g,rfl,hh,Base.below_step hb hb2⟩
abbrev hostB:ByteArray:=⟨#[72,111,115,116,58,32,97]⟩
abbrev chkB:ByteArray:=⟨#[84,114,97,110,115,102,101,114,45,69,110,99,111,100,105,110,103,58,32,99,104,117,110,107,101,100]⟩
abbrev unkB:ByteArray:=⟨#[84,114,97,110,115,102,101,114,45,69,110,99,111,100,105,110,103,58,32,103,122,105,112]⟩
abbrev nobB:ByteArray:=⟨#[67,111,110,116,101,110,116,45,76,101,110,103,116,104,58,32,48]⟩
theorem chunks_any (s:ByteArray) (w:World) (hs:s.size≤1000000) :
 Calls Tryz.prog 65 #[.string s] w fun e w'=>∃g,e=.returned (mk g)∧Has w' g (topB++ba (linesB [hostB,chkB])++E2++s)∧Below w.heap.size w w':=by
 have HL:=Lib.hid (lines_any (some ⟨w.heap.size,0,none⟩) 2 2 [hostB,chkB] (w.alloc (.cells #[.string hostB,.string chkB] 9)) (strs_lit w [hostB,chkB] _ _ rfl) (by decide) (by decide))
 have HE:=Lib.hid (exactly_any (topB++ba (linesB [hostB,chkB])++E2++s));have hz:(ba (linesB [hostB,chkB])).size=37:=by decide +kernel
 have v1:¬9223372036854775807<16+(ba (linesB [hostB,chkB])).size:=by omega
 have v2:¬9223372036854775807<16+(ba (linesB [hostB,chkB])).size+2:=by omega
 have v3:¬9223372036854775807<16+(ba (linesB [hostB,chkB])).size+2+s.size:=by omega
 clear hz;generalize ba (linesB [hostB,chkB])=R at *
 have HB0:=Lib.hid ((Below.refl w.heap.size w).alloc (Nat.le_refl _) (.cells #[.string hostB,.string chkB] 9));go_enter Tryz.func65,Tryz.ntmps65
 go_wp2_with (first
  |(go_at_call 61;with_reducible refine (HE.out _).mono ?_;rintro e w2 ⟨g,rfl,hh,hb2⟩)
  |(go_at_call 76;with_reducible refine HL.out.mono ?_;rintro e w1 ⟨rfl,hb⟩))
 go_ret;exact ⟨g,rfl,hh,Base.below_step (Base.below_step HB0.out hb) hb2⟩
end code
end Go.Proofs.YtimoakmcelocfaaGreat.Wit
namespace Go.Proofs.YtimoakmcelocfaaGreat.Wit
open Go.RowKit Base Txt
def oldW (ch ti:Bool):ByteArray:=oldB++ba (linesB (if ch=true then [chkB] else if ti=true then [unkB] else [chkB,nobB]))++E2
abbrev mkO:Value:=.func (.func 64) #[] #[]
def IsMk (w:World) (v:Value):Option ByteArray→Prop
 | some s=>∃g,v=mk g∧Has w g s
 | none=>v=mkO
theorem IsMk.below {w w':World} {v:Value} {s:Option ByteArray} (h:IsMk w v s) (hb:Below w.heap.size w w'):IsMk w' v s:=by
 cases s with
 | none=>exact h
 | some s=>
   obtain ⟨g,e,h⟩:=h;exact ⟨g,e,h.below hb⟩
structure Ms (w0 w:World) (g0:Nat) (old:Array Value) (ty:TypeId) (l:List (Value × Option ByteArray)):Prop where
 ms:∀x∈l,IsMk w x.1 x.2
 row:w.heap[g0]?=some (.cells old ty (0,0))
 bel:Below w0.heap.size w0 w
 ge:w0.heap.size≤g0
theorem Ms.step {w0 w w':World} {g0:Nat} {old:Array Value} {ty:TypeId} {l:List (Value × Option ByteArray)} (h:Ms w0 w g0 old ty l) {v:Value} {s:Option ByteArray} (hv:IsMk w' v s) (hb:Below w.heap.size w w'):Ms w0 w' g0 old ty ((v,s)::l):=
 ⟨fun x hx=>by
   rcases List.mem_cons.1 hx with e | hx
   ·rw [e];exact hv
   ·exact (h.ms x hx).below hb,by
   have hlt:g0<w.heap.size:=(Array.getElem?_eq_some_iff.1 h.row).1
   rw [←h.row];exact hb.block g0 hlt,Base.below_step h.bel hb,h.ge⟩
section code
set_option maxHeartbeats 8000000
set_option maxRecDepth 20000
attribute [local go_sem] Base.some_undef
theorem old_any (p:Nat) (hp:p<4294967296) (x0 x1 x2 x3 x4 x5 x6 x7:Int) (c d:Bool) (w:World) :
 Calls Tryz.prog 64 #[.int .u32 (p:Int),Bnd.bnd x0 x1 x2 x3 x4 x5 x6 x7 c d] w fun e w'=>e=.returned (.string (oldW c (Qk.has p 19)))∧Below w.heap.size w w':=by
 have HH:=Lib.hid (fun w=>Qk.has_any p hp 19 w);have key:∀(vs:List ByteArray) (w:World) (cs:Array Value),cs.toList=vs.map Value.string→vs.length≤2→(linesB vs).length≤100→Calls Tryz.prog 76 #[.slice (some ⟨w.heap.size,0,none⟩) vs.length vs.length] (w.alloc (.cells cs 9)) fun e w'=>e=.returned (.string (ba (linesB vs)))∧Below w.heap.size w w':=by intro vs w cs h1 h2 h3;refine (lines_any _ _ _ vs (w.alloc (.cells cs 9)) (strs_lit w vs cs _ h1) (by omega) (by omega)).mono ?_;rintro e w' ⟨rfl,hb⟩;exact ⟨rfl,Base.below_step ((Below.refl _ _).alloc (Nat.le_refl _) _) hb⟩
 have hsz:(w.alloc (.cells #[.int .i64 x0,.int .i64 x1,.int .i64 x2,.int .i64 x3,.int .i64 x4,.int .i64 x5,.int .i64 x6,.int .i64 x7,.bool c,.bool d] 24)).heap.size=w.heap.size+1:=by simp
 have H1:=Lib.hid (show Calls Tryz.prog 76 #[.slice (some ⟨w.heap.size+1,0,none⟩) 1 1] ((w.alloc (.cells #[.int .i64 x0,.int .i64 x1,.int .i64 x2,.int .i64 x3,.int .i64 x4,.int .i64 x5,.int .i64 x6,.int .i64 x7,.bool c,.bool d] 24)).alloc (.cells #[.string chkB] 9)) fun e w'=>e=.returned (.string (ba (linesB [chkB])))∧Below (w.heap.size+1) (w.alloc (.cells #[.int .i64 x0,.int .i64 x1,.int .i64 x2,.int .i64 x3,.int .i64 x4,.int .i64 x5,.int .i64 x6,.int .i64 x7,.bool c,.bool d] 24)) w' from hsz ▸ key [chkB] (w.alloc (.cells #[.int .i64 x0,.int .i64 x1,.int .i64 x2,.int .i64 x3,.int .i64 x4,.int .i64 x5,.int .i64 x6,.int .i64 x7,.bool c,.bool d] 24)) _ rfl (by decide) (by decide))
 have H2:=Lib.hid (show Calls Tryz.prog 76 #[.slice (some ⟨w.heap.size+1,0,none⟩) 1 1] ((w.alloc (.cells #[.int .i64 x0,.int .i64 x1,.int .i64 x2,.int .i64 x3,.int .i64 x4,.int .i64 x5,.int .i64 x6,.int .i64 x7,.bool c,.bool d] 24)).alloc (.cells #[.string unkB] 9)) fun e w'=>e=.returned (.string (ba (linesB [unkB])))∧Below (w.heap.size+1) (w.alloc (.cells #[.int .i64 x0,.int .i64 x1,.int .i64 x2,.int .i64 x3,.int .i64 x4,.int .i64 x5,.int .i64 x6,.int .i64 x7,.bool c,.bool d] 24)) w' from hsz ▸ key [unkB] (w.alloc (.cells #[.int .i64 x0,.int .i64 x1,.int .i64 x2,.int .i64 x3,.int .i64 x4,.int .i64 x5,.int .i64 x6,.int .i64 x7,.bool c,.bool d] 24)) _ rfl (by decide) (by decide))
 have H3:=Lib.hid (show Calls Tryz.prog 76 #[.slice (some ⟨w.heap.size+1,0,none⟩) 2 2] ((w.alloc (.cells #[.int .i64 x0,.int .i64 x1,.int .i64 x2,.int .i64 x3,.int .i64 x4,.int .i64 x5,.int .i64 x6,.int .i64 x7,.bool c,.bool d] 24)).alloc (.cells #[.string chkB,.string nobB] 9)) fun e w'=>e=.returned (.string (ba (linesB [chkB,nobB])))∧Below (w.heap.size+1) (w.alloc (.cells #[.int .i64 x0,.int .i64 x1,.int .i64 x2,.int .i64 x3,.int .i64 x4,.int .i64 x5,.int .i64 x6,.int .i64 x7,.bool c,.bool d] 24)) w' from hsz ▸ key [chkB,nobB] (w.alloc (.cells #[.int .i64 x0,.int .i64 x1,.int .i64 x2,.int .i64 x3,.int .i64 x4,.int .i64 x5,.int .i64 x6,.int .i64 x7,.bool c,.bool d] 24)) _ rfl (by decide) (by decide));clear hsz;have z1:(ba (linesB [chkB])).size=28:=by decide +kernel
 have z2:(ba (linesB [unkB])).size=25:=by decide +kernel
 have z3:(ba (linesB [chkB,nobB])).size=47:=by decide +kernel
 unfold oldW
 have HB0:=Lib.hid ((Below.refl w.heap.size w).alloc (Nat.le_refl _) (.cells #[.int .i64 x0,.int .i64 x1,.int .i64 x2,.int .i64 x3,.int .i64 x4,.int .i64 x5,.int .i64 x6,.int .i64 x7,.bool c,.bool d] 24));clear key;cases c with
 | true=>
   rw [if_pos rfl];generalize ba (linesB [chkB])=R at *;have v1:¬9223372036854775807<16+R.size:=by omega
   have v2:¬9223372036854775807<16+R.size+2:=by omega
   go_enter Tryz.func64,Tryz.ntmps64
   go_wp2_with (go_at_call 76;with_reducible refine H1.out.mono ?_;rintro e w1 ⟨rfl,hb⟩);go_ret;exact ⟨rfl,HB0.out.trans (hb.mono (Nat.le_succ _))⟩
 | false=>
   rw [if_neg Bool.false_ne_true];generalize Qk.has p 19=ti at *;cases ti with
   | true=>
     rw [if_pos rfl];generalize ba (linesB [unkB])=R at *;have v1:¬9223372036854775807<16+R.size:=by omega
     have v2:¬9223372036854775807<16+R.size+2:=by omega
     go_enter Tryz.func64,Tryz.ntmps64
     go_wp2_with (first
      |(go_at_call 76;with_reducible refine H2.out.mono ?_;rintro e w1 ⟨rfl,hb⟩)
      |(go_at_call 42;with_reducible refine (HH.out _).mono ?_;rintro e w1 ⟨rfl,hw⟩;rw [hw];clear hw))
     go_ret;exact ⟨rfl,HB0.out.trans (hb.mono (Nat.le_succ _))⟩
   | false=>
     rw [if_neg Bool.false_ne_true];generalize ba (linesB [chkB,nobB])=R at *;have v1:¬9223372036854775807<16+R.size:=by omega
     have v2:¬9223372036854775807<16+R.size+2:=by omega
     go_enter Tryz.func64,Tryz.ntmps64
     go_wp2_with (first
      |(go_at_call 76;with_reducible refine H3.out.mono ?_;rintro e w1 ⟨rfl,hb⟩)
      |(go_at_call 42;with_reducible refine (HH.out _).mono ?_;rintro e w1 ⟨rfl,hw⟩;rw [hw];clear hw))
     go_ret;exact ⟨rfl,HB0.out.trans (hb.mono (Nat.le_succ _))⟩
theorem exactly_mk (s:ByteArray) (w:World):Calls Tryz.prog 61 #[.string s] w fun e w'=>∃v,e=.returned v∧IsMk w' v (some s)∧Below w.heap.size w w':=
 (exactly_any s w).mono (by rintro e w' ⟨g,rfl,h,hb⟩;exact ⟨_,rfl,⟨g,rfl,h⟩,hb⟩)
theorem first_mk (s:ByteArray) (w:World) (hs:s.size≤1000000):Calls Tryz.prog 60 #[.string s] w fun e w'=>∃v,e=.returned v∧IsMk w' v (some (s++E2))∧Below w.heap.size w w':=
 (first_any s w hs).mono (by rintro e w' ⟨g,rfl,h,hb⟩;exact ⟨_,rfl,⟨g,rfl,h⟩,hb⟩)
theorem chunks_mk (s:ByteArray) (w:World) (hs:s.size≤1000000):Calls Tryz.prog 65 #[.string s] w fun e w'=>∃v,e=.returned v∧IsMk w' v (some (topB++ba (linesB [hostB,chkB])++E2++s))∧Below w.heap.size w w':=
 (chunks_any s w hs).mono (by rintro e w' ⟨g,rfl,h,hb⟩;exact ⟨_,rfl,⟨g,rfl,h⟩,hb⟩)
theorem fields_mk (vs:List ByteArray) (w:World) (cs:Array Value) (h1:cs.toList=vs.map Value.string) (h2:vs.length≤3) (h3:(linesB vs).length≤200) :
 Calls Tryz.prog 62 #[.slice (some ⟨w.heap.size,0,none⟩) vs.length vs.length] (w.alloc (.cells cs 9)) fun e w'=>∃v,e=.returned v∧IsMk w' v (some (topB++ba (linesB vs)))∧Below w.heap.size w w':=
 (fields_any _ _ _ vs _ (strs_lit w vs cs _ h1) (by omega) (by omega)).mono (by rintro e w' ⟨g,rfl,h,hb⟩;exact ⟨_,rfl,⟨g,rfl,h⟩,Base.below_step ((Below.refl _ _).alloc (Nat.le_refl _) _) hb⟩)
theorem head_mk (vs:List ByteArray) (w:World) (cs:Array Value) (h1:cs.toList=vs.map Value.string) (h2:vs.length≤3) (h3:(linesB vs).length≤200) :
 Calls Tryz.prog 63 #[.slice (some ⟨w.heap.size,0,none⟩) vs.length vs.length] (w.alloc (.cells cs 9)) fun e w'=>∃v,e=.returned v∧IsMk w' v (some (topB++ba (linesB vs)++E2))∧Below w.heap.size w w':=
 (head_any _ _ _ vs _ (strs_lit w vs cs _ h1) (by omega) (by omega)).mono (by rintro e w' ⟨g,rfl,h,hb⟩;exact ⟨_,rfl,⟨g,rfl,h⟩,Base.below_step ((Below.refl _ _).alloc (Nat.le_refl _) _) hb⟩)
theorem head_none (w:World):Calls Tryz.prog 63 #[.slice none 0 0] w fun e w'=>∃v,e=.returned v∧IsMk w' v (some (topB++ba (linesB [])++E2))∧Below w.heap.size w w':=
 (head_any _ _ _ [] w (Strs.nil w none) (by omega) (by decide)).mono (by rintro e w' ⟨g,rfl,h,hb⟩;exact ⟨_,rfl,⟨g,rfl,h⟩,hb⟩)
end code
end Go.Proofs.YtimoakmcelocfaaGreat.Wit
namespace Go.Proofs.YtimoakmcelocfaaGreat.Wit
open Go.RowKit Base Txt
def T0:ByteArray:=(((⟨#[]⟩:ByteArray))++E2)
def T1:ByteArray:=(⟨#[71,69,84,32,47,32,72,84,84,80,47,49,46,49,10]⟩:ByteArray)
def T2:ByteArray:=(⟨#[71,69,84,32,47,32,72,84,84,80,47,49,46,49,13,72]⟩:ByteArray)
def T3:ByteArray:=(((⟨#[71,69,84,32,32,47,32,72,84,84,80,47,49,46,49]⟩:ByteArray))++E2)
def T4:ByteArray:=(((⟨#[71,69,84,32,47,32,72,84,84,80,47,49,46,50]⟩:ByteArray))++E2)
def T5:ByteArray:=(((⟨#[71,69,84,32,47,32,104,116,116,112,47,49,46,49]⟩:ByteArray))++E2)
def T6:ByteArray:=(((⟨#[71,69,84,32,47]⟩:ByteArray))++E2)
def T7:ByteArray:=(((⟨#[71,69,84,32,47,97,32,98,32,72,84,84,80,47,49,46,49]⟩:ByteArray))++E2)
def T8:ByteArray:=(((⟨#[71,69,84,32,47,1,32,72,84,84,80,47,49,46,49]⟩:ByteArray))++E2)
def T9:ByteArray:=(topB++ba (linesB [⟨#[72,111,115,116,32,58,32,97]⟩]))
def T10:ByteArray:=(topB++ba (linesB [⟨#[40,58,32,97]⟩]))
def T11:ByteArray:=(topB++ba (linesB [⟨#[97]⟩]))
def T12:ByteArray:=(topB++ba (linesB [⟨#[58,32,97]⟩]))
def T13:ByteArray:=(topB++ba (linesB [⟨#[72,111,115,116,58,32,97]⟩,⟨#[32,98]⟩]))
def T14:ByteArray:=(topB++ba (linesB [⟨#[65,58,32,1]⟩]))
def T15:ByteArray:=(topB++ba (linesB [])++E2)
def T16:ByteArray:=(topB++ba (linesB [⟨#[72,111,115,116,58,32,97]⟩,⟨#[72,111,115,116,58,32,97]⟩])++E2)
def T17:ByteArray:=(topB++ba (linesB [⟨#[84,114,97,110,115,102,101,114,45,69,110,99,111,100,105,110,103,58,32,11,99,104,117,110,107,101,100]⟩]))
def T18:ByteArray:=(topB++ba (linesB [⟨#[72,111,115,116,58,32,97]⟩,⟨#[84,114,97,110,115,102,101,114,45,69,110,99,111,100,105,110,103,58,32,103,122,105,112,44,32,99,104,117,110,107,101,100]⟩])++E2)
def T19:ByteArray:=(topB++ba (linesB [⟨#[72,111,115,116,58,32,97]⟩,⟨#[84,114,97,110,115,102,101,114,45,69,110,99,111,100,105,110,103,58,32,103,122,105,112]⟩])++E2)
def T21:ByteArray:=(topB++ba (linesB [⟨#[72,111,115,116,58,32,97]⟩,⟨#[84,114,97,110,115,102,101,114,45,69,110,99,111,100,105,110,103,58,32,99,104,117,110,107,101,100]⟩,⟨#[67,111,110,116,101,110,116,45,76,101,110,103,116,104,58,32,48]⟩])++E2)
def T22:ByteArray:=(topB++ba (linesB [⟨#[72,111,115,116,58,32,97]⟩,⟨#[84,114,97,110,115,102,101,114,45,69,110,99,111,100,105,110,103,58,32,99,104,117,110,107,101,100]⟩,⟨#[67,111,110,116,101,110,116,45,76,101,110,103,116,104,58,32,48]⟩])++E2)
def T23:ByteArray:=(topB++ba (linesB [⟨#[72,111,115,116,58,32,97]⟩,⟨#[67,111,110,116,101,110,116,45,76,101,110,103,116,104,58,32,43,48]⟩])++E2)
def T24:ByteArray:=(topB++ba (linesB [⟨#[72,111,115,116,58,32,97]⟩,⟨#[67,111,110,116,101,110,116,45,76,101,110,103,116,104,58,32,48,44,32,48]⟩])++E2)
def T25:ByteArray:=(topB++ba (linesB [⟨#[72,111,115,116,58,32,97]⟩,⟨#[67,111,110,116,101,110,116,45,76,101,110,103,116,104,58,32,48]⟩,⟨#[67,111,110,116,101,110,116,45,76,101,110,103,116,104,58,32,49]⟩])++E2)
def T26:ByteArray:=(topB++ba (linesB [⟨#[72,111,115,116,58,32,97]⟩,⟨#[67,111,110,116,101,110,116,45,76,101,110,103,116,104,58,32,48]⟩,⟨#[67,111,110,116,101,110,116,45,76,101,110,103,116,104,58,32,49]⟩])++E2)
def T27:ByteArray:=(topB++ba (linesB [hostB,chkB])++E2 ++⟨#[48,120,49,13,10]⟩)
def T28:ByteArray:=(topB++ba (linesB [hostB,chkB])++E2 ++⟨#[32,49,13,10]⟩)
def T29:ByteArray:=(topB++ba (linesB [hostB,chkB])++E2 ++⟨#[49,13,10,97,48]⟩)
def texts:List (Option ByteArray):= [some T0,some T1,some T2,some T3,some T4,some T5,some T6,some T7,some T8,some T9,some T10,some T11,some T12,some T13,some T14,some T15,some T16,some T17,some T18,some T19,none,some T21,some T22,some T23,some T24,some T25,some T26,some T27,some T28,some T29]
def Each2 (w:World):List Value→List (Option ByteArray)→Prop
 | [],[]=>True
 | v::vs,s::ss=>IsMk w v s∧Each2 w vs ss
 | _,_=>False
theorem Each2.at {w:World}:∀{vs:List Value} {ss:List (Option ByteArray)},Each2 w vs ss→vs.length=ss.length∧∀k,k<ss.length→∃v s,vs[k]?=some v∧ss[k]?=some s∧IsMk w v s
 | [],[],_=>⟨rfl,fun k hk=>absurd hk (Nat.not_lt_zero _)⟩
 | v::vs,s::ss,h=>by
   obtain ⟨h1,h2⟩:=Each2.at h.2;refine ⟨by rw [List.length_cons,List.length_cons,h1],fun k hk=>?_⟩;cases k with
   | zero=>exact ⟨v,s,rfl,rfl,h.1⟩
   | succ k=>exact h2 k (by rw [List.length_cons] at hk;omega)
theorem Each2.below {w w':World} (hb:Below w.heap.size w w'):∀{vs:List Value} {ss:List (Option ByteArray)},Each2 w vs ss→Each2 w' vs ss
 | [],[],_=>trivial
 | _ :: _,_ :: _,h=>⟨h.1.below hb,Each2.below hb h.2⟩
theorem Has.setRow {w:World} {g g0:Nat} {s:ByteArray} {n:Nat} {ty:TypeId} (hr:w.heap[g0]?=some (.cells (Array.replicate n .nilFunc) ty (0,0))) (cs:Array Value) (h:Has w g s):Has (w.setRow g0 cs) g s:=by
 have hne:g≠g0:=by
  intro e;have h1:=h.c;rw [e,Lib.cell_of_heap hr] at h1;cases n with
  | zero=>simp at h1
  | succ n=>simp at h1
 refine ⟨?_,?_⟩
 ·have:=h.lt;simpa [World.setRow] using this
 ·rw [cell_setRow_other w g0 cs ⟨g,0,none⟩ hne];exact h.c
theorem wpList_build' {P:Program} {ops:Array Oper} {rest:List Oper} {o:Oper} {a:Act} {w:World} {Q:Exit→Act→World→Prop} (hg:o.guard=none) (t:TypeId) (parts:Array (Nat × Operand)) (ho:o.op=.build t parts) (cells:Array Value)
 (hf:P.built t (parts.map fun (i,x)=>(i,a.eval x)).toList=some cells) (h:wpList P ops Q rest (a.put o.dst (.agg cells)) w):wpList P ops Q (o::rest) a w:=
 wpList_build hg t parts ho (by rw [hf];rfl) (by rw [hf];exact h)
section code
set_option maxHeartbeats 16000000
set_option maxRecDepth 20000
attribute [local go_sem] Base.some_undef
theorem makers_any (w:World):Calls Tryz.prog 43 #[] w fun e w'=>∃vs:List Value,e=.returned (.agg vs.toArray)∧Each2 w' vs texts∧Below w.heap.size w w':=by
 have K0:=Lib.hid (fun w:World=>show Calls Tryz.prog 60 #[.string ⟨#[]⟩] w fun e w'=>∃v,e=.returned v∧IsMk w' v (some T0)∧Below w.heap.size w w' from first_mk _ w (by decide))
 have K1:=Lib.hid (fun w:World=>show Calls Tryz.prog 61 #[.string ⟨#[71,69,84,32,47,32,72,84,84,80,47,49,46,49,10]⟩] w fun e w'=>∃v,e=.returned v∧IsMk w' v (some T1)∧Below w.heap.size w w' from exactly_mk _ w)
 have K2:=Lib.hid (fun w:World=>show Calls Tryz.prog 61 #[.string ⟨#[71,69,84,32,47,32,72,84,84,80,47,49,46,49,13,72]⟩] w fun e w'=>∃v,e=.returned v∧IsMk w' v (some T2)∧Below w.heap.size w w' from exactly_mk _ w)
 have K3:=Lib.hid (fun w:World=>show Calls Tryz.prog 60 #[.string ⟨#[71,69,84,32,32,47,32,72,84,84,80,47,49,46,49]⟩] w fun e w'=>∃v,e=.returned v∧IsMk w' v (some T3)∧Below w.heap.size w w' from first_mk _ w (by decide))
 have K4:=Lib.hid (fun w:World=>show Calls Tryz.prog 60 #[.string ⟨#[71,69,84,32,47,32,72,84,84,80,47,49,46,50]⟩] w fun e w'=>∃v,e=.returned v∧IsMk w' v (some T4)∧Below w.heap.size w w' from first_mk _ w (by decide))
 have K5:=Lib.hid (fun w:World=>show Calls Tryz.prog 60 #[.string ⟨#[71,69,84,32,47,32,104,116,116,112,47,49,46,49]⟩] w fun e w'=>∃v,e=.returned v∧IsMk w' v (some T5)∧Below w.heap.size w w' from first_mk _ w (by decide))
 have K6:=Lib.hid (fun w:World=>show Calls Tryz.prog 60 #[.string ⟨#[71,69,84,32,47]⟩] w fun e w'=>∃v,e=.returned v∧IsMk w' v (some T6)∧Below w.heap.size w w' from first_mk _ w (by decide))
 have K7:=Lib.hid (fun w:World=>show Calls Tryz.prog 60 #[.string ⟨#[71,69,84,32,47,97,32,98,32,72,84,84,80,47,49,46,49]⟩] w fun e w'=>∃v,e=.returned v∧IsMk w' v (some T7)∧Below w.heap.size w w' from first_mk _ w (by decide))
 have K8:=Lib.hid (fun w:World=>show Calls Tryz.prog 60 #[.string ⟨#[71,69,84,32,47,1,32,72,84,84,80,47,49,46,49]⟩] w fun e w'=>∃v,e=.returned v∧IsMk w' v (some T8)∧Below w.heap.size w w' from first_mk _ w (by decide))
 have K9:=Lib.hid (fun w:World=>show Calls Tryz.prog 62 #[.slice (some ⟨w.heap.size,0,none⟩) 1 1] (w.alloc (.cells #[.string ⟨#[72,111,115,116,32,58,32,97]⟩] 9)) fun e w'=>∃v,e=.returned v∧IsMk w' v (some T9)∧Below w.heap.size w w' from fields_mk [⟨#[72,111,115,116,32,58,32,97]⟩] w _ rfl (by decide) (by decide))
 have K10:=Lib.hid (fun w:World=>show Calls Tryz.prog 62 #[.slice (some ⟨w.heap.size,0,none⟩) 1 1] (w.alloc (.cells #[.string ⟨#[40,58,32,97]⟩] 9)) fun e w'=>∃v,e=.returned v∧IsMk w' v (some T10)∧Below w.heap.size w w' from fields_mk [⟨#[40,58,32,97]⟩] w _ rfl (by decide) (by decide))
 have K11:=Lib.hid (fun w:World=>show Calls Tryz.prog 62 #[.slice (some ⟨w.heap.size,0,none⟩) 1 1] (w.alloc (.cells #[.string ⟨#[97]⟩] 9)) fun e w'=>∃v,e=.returned v∧IsMk w' v (some T11)∧Below w.heap.size w w' from fields_mk [⟨#[97]⟩] w _ rfl (by decide) (by decide))
 have K12:=Lib.hid (fun w:World=>show Calls Tryz.prog 62 #[.slice (some ⟨w.heap.size,0,none⟩) 1 1] (w.alloc (.cells #[.string ⟨#[58,32,97]⟩] 9)) fun e w'=>∃v,e=.returned v∧IsMk w' v (some T12)∧Below w.heap.size w w' from fields_mk [⟨#[58,32,97]⟩] w _ rfl (by decide) (by decide))
 have K13:=Lib.hid (fun w:World=>show Calls Tryz.prog 62 #[.slice (some ⟨w.heap.size,0,none⟩) 2 2] (w.alloc (.cells #[.string ⟨#[72,111,115,116,58,32,97]⟩,.string ⟨#[32,98]⟩] 9)) fun e w'=>∃v,e=.returned v∧IsMk w' v (some T13)∧Below w.heap.size w w' from fields_mk [⟨#[72,111,115,116,58,32,97]⟩,⟨#[32,98]⟩] w _ rfl (by decide) (by decide))
 have K14:=Lib.hid (fun w:World=>show Calls Tryz.prog 62 #[.slice (some ⟨w.heap.size,0,none⟩) 1 1] (w.alloc (.cells #[.string ⟨#[65,58,32,1]⟩] 9)) fun e w'=>∃v,e=.returned v∧IsMk w' v (some T14)∧Below w.heap.size w w' from fields_mk [⟨#[65,58,32,1]⟩] w _ rfl (by decide) (by decide))
 have K15:=Lib.hid (fun w:World=>show Calls Tryz.prog 63 #[.slice none 0 0] w fun e w'=>∃v,e=.returned v∧IsMk w' v (some T15)∧Below w.heap.size w w' from head_none w)
 have K16:=Lib.hid (fun w:World=>show Calls Tryz.prog 63 #[.slice (some ⟨w.heap.size,0,none⟩) 2 2] (w.alloc (.cells #[.string ⟨#[72,111,115,116,58,32,97]⟩,.string ⟨#[72,111,115,116,58,32,97]⟩] 9)) fun e w'=>∃v,e=.returned v∧IsMk w' v (some T16)∧Below w.heap.size w w' from head_mk [⟨#[72,111,115,116,58,32,97]⟩,⟨#[72,111,115,116,58,32,97]⟩] w _ rfl (by decide) (by decide))
 have K17:=Lib.hid (fun w:World=>show Calls Tryz.prog 62 #[.slice (some ⟨w.heap.size,0,none⟩) 1 1] (w.alloc (.cells #[.string ⟨#[84,114,97,110,115,102,101,114,45,69,110,99,111,100,105,110,103,58,32,11,99,104,117,110,107,101,100]⟩] 9)) fun e w'=>∃v,e=.returned v∧IsMk w' v (some T17)∧Below w.heap.size w w' from fields_mk [⟨#[84,114,97,110,115,102,101,114,45,69,110,99,111,100,105,110,103,58,32,11,99,104,117,110,107,101,100]⟩] w _ rfl (by decide) (by decide))
 have K18:=Lib.hid (fun w:World=>show Calls Tryz.prog 63 #[.slice (some ⟨w.heap.size,0,none⟩) 2 2] (w.alloc (.cells #[.string ⟨#[72,111,115,116,58,32,97]⟩,.string ⟨#[84,114,97,110,115,102,101,114,45,69,110,99,111,100,105,110,103,58,32,103,122,105,112,44,32,99,104,117,110,107,101,100]⟩] 9)) fun e w'=>∃v,e=.returned v∧IsMk w' v (some T18)∧Below w.heap.size w w' from head_mk [⟨#[72,111,115,116,58,32,97]⟩,⟨#[84,114,97,110,115,102,101,114,45,69,110,99,111,100,105,110,103,58,32,103,122,105,112,44,32,99,104,117,110,107,101,100]⟩] w _ rfl (by decide) (by decide))
 have K19:=Lib.hid (fun w:World=>show Calls Tryz.prog 63 #[.slice (some ⟨w.heap.size,0,none⟩) 2 2] (w.alloc (.cells #[.string ⟨#[72,111,115,116,58,32,97]⟩,.string ⟨#[84,114,97,110,115,102,101,114,45,69,110,99,111,100,105,110,103,58,32,103,122,105,112]⟩] 9)) fun e w'=>∃v,e=.returned v∧IsMk w' v (some T19)∧Below w.heap.size w w' from head_mk [⟨#[72,111,115,116,58,32,97]⟩,⟨#[84,114,97,110,115,102,101,114,45,69,110,99,111,100,105,110,103,58,32,103,122,105,112]⟩] w _ rfl (by decide) (by decide))
 have K21:=Lib.hid (fun w:World=>show Calls Tryz.prog 63 #[.slice (some ⟨w.heap.size,0,none⟩) 3 3] (w.alloc (.cells #[.string ⟨#[72,111,115,116,58,32,97]⟩,.string ⟨#[84,114,97,110,115,102,101,114,45,69,110,99,111,100,105,110,103,58,32,99,104,117,110,107,101,100]⟩,.string ⟨#[67,111,110,116,101,110,116,45,76,101,110,103,116,104,58,32,48]⟩] 9)) fun e w'=>∃v,e=.returned v∧IsMk w' v (some T21)∧Below w.heap.size w w' from head_mk [⟨#[72,111,115,116,58,32,97]⟩,⟨#[84,114,97,110,115,102,101,114,45,69,110,99,111,100,105,110,103,58,32,99,104,117,110,107,101,100]⟩,⟨#[67,111,110,116,101,110,116,45,76,101,110,103,116,104,58,32,48]⟩] w _ rfl (by decide) (by decide))
 have K22:=Lib.hid (fun w:World=>show Calls Tryz.prog 63 #[.slice (some ⟨w.heap.size,0,none⟩) 3 3] (w.alloc (.cells #[.string ⟨#[72,111,115,116,58,32,97]⟩,.string ⟨#[84,114,97,110,115,102,101,114,45,69,110,99,111,100,105,110,103,58,32,99,104,117,110,107,101,100]⟩,.string ⟨#[67,111,110,116,101,110,116,45,76,101,110,103,116,104,58,32,48]⟩] 9)) fun e w'=>∃v,e=.returned v∧IsMk w' v (some T22)∧Below w.heap.size w w' from head_mk [⟨#[72,111,115,116,58,32,97]⟩,⟨#[84,114,97,110,115,102,101,114,45,69,110,99,111,100,105,110,103,58,32,99,104,117,110,107,101,100]⟩,⟨#[67,111,110,116,101,110,116,45,76,101,110,103,116,104,58,32,48]⟩] w _ rfl (by decide) (by decide))
 have K23:=Lib.hid (fun w:World=>show Calls Tryz.prog 63 #[.slice (some ⟨w.heap.size,0,none⟩) 2 2] (w.alloc (.cells #[.string ⟨#[72,111,115,116,58,32,97]⟩,.string ⟨#[67,111,110,116,101,110,116,45,76,101,110,103,116,104,58,32,43,48]⟩] 9)) fun e w'=>∃v,e=.returned v∧IsMk w' v (some T23)∧Below w.heap.size w w' from head_mk [⟨#[72,111,115,116,58,32,97]⟩,⟨#[67,111,110,116,101,110,116,45,76,101,110,103,116,104,58,32,43,48]⟩] w _ rfl (by decide) (by decide))
 have K24:=Lib.hid (fun w:World=>show Calls Tryz.prog 63 #[.slice (some ⟨w.heap.size,0,none⟩) 2 2] (w.alloc (.cells #[.string ⟨#[72,111,115,116,58,32,97]⟩,.string ⟨#[67,111,110,116,101,110,116,45,76,101,110,103,116,104,58,32,48,44,32,48]⟩] 9)) fun e w'=>∃v,e=.returned v∧IsMk w' v (some T24)∧Below w.heap.size w w' from head_mk [⟨#[72,111,115,116,58,32,97]⟩,⟨#[67,111,110,116,101,110,116,45,76,101,110,103,116,104,58,32,48,44,32,48]⟩] w _ rfl (by decide) (by decide))
 have K25:=Lib.hid (fun w:World=>show Calls Tryz.prog 63 #[.slice (some ⟨w.heap.size,0,none⟩) 3 3] (w.alloc (.cells #[.string ⟨#[72,111,115,116,58,32,97]⟩,.string ⟨#[67,111,110,116,101,110,116,45,76,101,110,103,116,104,58,32,48]⟩,.string ⟨#[67,111,110,116,101,110,116,45,76,101,110,103,116,104,58,32,49]⟩] 9)) fun e w'=>∃v,e=.returned v∧IsMk w' v (some T25)∧Below w.heap.size w w' from head_mk [⟨#[72,111,115,116,58,32,97]⟩,⟨#[67,111,110,116,101,110,116,45,76,101,110,103,116,104,58,32,48]⟩,⟨#[67,111,110,116,101,110,116,45,76,101,110,103,116,104,58,32,49]⟩] w _ rfl (by decide) (by decide))
 have K26:=Lib.hid (fun w:World=>show Calls Tryz.prog 63 #[.slice (some ⟨w.heap.size,0,none⟩) 3 3] (w.alloc (.cells #[.string ⟨#[72,111,115,116,58,32,97]⟩,.string ⟨#[67,111,110,116,101,110,116,45,76,101,110,103,116,104,58,32,48]⟩,.string ⟨#[67,111,110,116,101,110,116,45,76,101,110,103,116,104,58,32,49]⟩] 9)) fun e w'=>∃v,e=.returned v∧IsMk w' v (some T26)∧Below w.heap.size w w' from head_mk [⟨#[72,111,115,116,58,32,97]⟩,⟨#[67,111,110,116,101,110,116,45,76,101,110,103,116,104,58,32,48]⟩,⟨#[67,111,110,116,101,110,116,45,76,101,110,103,116,104,58,32,49]⟩] w _ rfl (by decide) (by decide))
 have K27:=Lib.hid (fun w:World=>show Calls Tryz.prog 65 #[.string ⟨#[48,120,49,13,10]⟩] w fun e w'=>∃v,e=.returned v∧IsMk w' v (some T27)∧Below w.heap.size w w' from chunks_mk _ w (by decide))
 have K28:=Lib.hid (fun w:World=>show Calls Tryz.prog 65 #[.string ⟨#[32,49,13,10]⟩] w fun e w'=>∃v,e=.returned v∧IsMk w' v (some T28)∧Below w.heap.size w w' from chunks_mk _ w (by decide))
 have K29:=Lib.hid (fun w:World=>show Calls Tryz.prog 65 #[.string ⟨#[49,13,10,97,48]⟩] w fun e w'=>∃v,e=.returned v∧IsMk w' v (some T29)∧Below w.heap.size w w' from chunks_mk _ w (by decide))
 have HM:=Lib.hid (show Ms w (w.alloc (.cells (Array.replicate 30 .nilFunc) 78)) w.heap.size (Array.replicate 30 .nilFunc) 78 [] from ⟨(by intro x hx;cases hx),heap_alloc_new w _,(Below.refl _ _).alloc (Nat.le_refl _) _,Nat.le_refl _⟩);go_enter Tryz.func43,Tryz.ntmps43;go_upto_region 1 with fail
 go_wp2_with (first
  |(go_at_call 60;with_reducible refine (K0.out _).mono ?_;rintro e wn ⟨v,rfl,hv,hb⟩
    replace HM:=Lib.hid (HM.out.step hv hb);clear hv hb)
  |(go_at_call 61;with_reducible refine (K1.out _).mono ?_;rintro e wn ⟨v,rfl,hv,hb⟩
    replace HM:=Lib.hid (HM.out.step hv hb);clear hv hb)
  |(go_at_call 61;with_reducible refine (K2.out _).mono ?_;rintro e wn ⟨v,rfl,hv,hb⟩
    replace HM:=Lib.hid (HM.out.step hv hb);clear hv hb)
  |(go_at_call 60;with_reducible refine (K3.out _).mono ?_;rintro e wn ⟨v,rfl,hv,hb⟩
    replace HM:=Lib.hid (HM.out.step hv hb);clear hv hb)
  |(go_at_call 60;with_reducible refine (K4.out _).mono ?_;rintro e wn ⟨v,rfl,hv,hb⟩
    replace HM:=Lib.hid (HM.out.step hv hb);clear hv hb)
  |(go_at_call 60;with_reducible refine (K5.out _).mono ?_;rintro e wn ⟨v,rfl,hv,hb⟩
    replace HM:=Lib.hid (HM.out.step hv hb);clear hv hb)
  |(go_at_call 60;with_reducible refine (K6.out _).mono ?_;rintro e wn ⟨v,rfl,hv,hb⟩
    replace HM:=Lib.hid (HM.out.step hv hb);clear hv hb)
  |(go_at_call 60;with_reducible refine (K7.out _).mono ?_;rintro e wn ⟨v,rfl,hv,hb⟩
    replace HM:=Lib.hid (HM.out.step hv hb);clear hv hb)
  |(go_at_call 60;with_reducible refine (K8.out _).mono ?_;rintro e wn ⟨v,rfl,hv,hb⟩
    replace HM:=Lib.hid (HM.out.step hv hb);clear hv hb)
  |(go_at_call 62;with_reducible refine (K9.out _).mono ?_;rintro e wn ⟨v,rfl,hv,hb⟩
    replace HM:=Lib.hid (HM.out.step hv hb);clear hv hb)
  |(go_at_call 62;with_reducible refine (K10.out _).mono ?_;rintro e wn ⟨v,rfl,hv,hb⟩
    replace HM:=Lib.hid (HM.out.step hv hb);clear hv hb)
  |(go_at_call 62;with_reducible refine (K11.out _).mono ?_;rintro e wn ⟨v,rfl,hv,hb⟩
    replace HM:=Lib.hid (HM.out.step hv hb);clear hv hb)
  |(go_at_call 62;with_reducible refine (K12.out _).mono ?_;rintro e wn ⟨v,rfl,hv,hb⟩
    replace HM:=Lib.hid (HM.out.step hv hb);clear hv hb)
  |(go_at_call 62;with_reducible refine (K13.out _).mono ?_;rintro e wn ⟨v,rfl,hv,hb⟩
    replace HM:=Lib.hid (HM.out.step hv hb);clear hv hb)
  |(go_at_call 62;with_reducible refine (K14.out _).mono ?_;rintro e wn ⟨v,rfl,hv,hb⟩
    replace HM:=Lib.hid (HM.out.step hv hb);clear hv hb)
  |(go_at_call 63;with_reducible refine (K15.out _).mono ?_;rintro e wn ⟨v,rfl,hv,hb⟩
    replace HM:=Lib.hid (HM.out.step hv hb);clear hv hb)
  |(go_at_call 63;with_reducible refine (K16.out _).mono ?_;rintro e wn ⟨v,rfl,hv,hb⟩
    replace HM:=Lib.hid (HM.out.step hv hb);clear hv hb)
  |(go_at_call 62;with_reducible refine (K17.out _).mono ?_;rintro e wn ⟨v,rfl,hv,hb⟩
    replace HM:=Lib.hid (HM.out.step hv hb);clear hv hb)
  |(go_at_call 63;with_reducible refine (K18.out _).mono ?_;rintro e wn ⟨v,rfl,hv,hb⟩
    replace HM:=Lib.hid (HM.out.step hv hb);clear hv hb)
  |(go_at_call 63;with_reducible refine (K19.out _).mono ?_;rintro e wn ⟨v,rfl,hv,hb⟩
    replace HM:=Lib.hid (HM.out.step hv hb);clear hv hb)
  |(go_at_call 63;with_reducible refine (K21.out _).mono ?_;rintro e wn ⟨v,rfl,hv,hb⟩
    replace HM:=Lib.hid (HM.out.step hv hb);clear hv hb)
  |(go_at_call 63;with_reducible refine (K22.out _).mono ?_;rintro e wn ⟨v,rfl,hv,hb⟩
    replace HM:=Lib.hid (HM.out.step hv hb);clear hv hb)
  |(go_at_call 63;with_reducible refine (K23.out _).mono ?_;rintro e wn ⟨v,rfl,hv,hb⟩
    replace HM:=Lib.hid (HM.out.step hv hb);clear hv hb)
  |(go_at_call 63;with_reducible refine (K24.out _).mono ?_;rintro e wn ⟨v,rfl,hv,hb⟩
    replace HM:=Lib.hid (HM.out.step hv hb);clear hv hb)
  |(go_at_call 63;with_reducible refine (K25.out _).mono ?_;rintro e wn ⟨v,rfl,hv,hb⟩
    replace HM:=Lib.hid (HM.out.step hv hb);clear hv hb)
  |(go_at_call 63;with_reducible refine (K26.out _).mono ?_;rintro e wn ⟨v,rfl,hv,hb⟩
    replace HM:=Lib.hid (HM.out.step hv hb);clear hv hb)
  |(go_at_call 65;with_reducible refine (K27.out _).mono ?_;rintro e wn ⟨v,rfl,hv,hb⟩
    replace HM:=Lib.hid (HM.out.step hv hb);clear hv hb)
  |(go_at_call 65;with_reducible refine (K28.out _).mono ?_;rintro e wn ⟨v,rfl,hv,hb⟩
    replace HM:=Lib.hid (HM.out.step hv hb);clear hv hb))
 refine (K29.out _).mono ?_;rintro e wn ⟨v,rfl,hv,hb⟩
 replace HM:=Lib.hid (HM.out.step hv hb)
 clear hv hb;clear K0 K1 K2 K3 K4 K5 K6 K7 K8 K9 K10 K11 K12 K13 K14 K15 K16 K17 K18 K19 K21 K22 K23 K24 K25 K26 K27 K28 K29;rename_i hK;revert hK;have HR:=Lib.hid HM.out.row;have HB:=Lib.hid HM.out.bel;have hms:=HM.out.ms;clear HM;simp only [List.forall_mem_cons] at hms;obtain ⟨⟨g29,rfl,h29⟩,⟨g28,rfl,h28⟩,⟨g27,rfl,h27⟩,⟨g26,rfl,h26⟩,⟨g25,rfl,h25⟩,⟨g24,rfl,h24⟩,⟨g23,rfl,h23⟩,⟨g22,rfl,h22⟩,⟨g21,rfl,h21⟩,⟨g19,rfl,h19⟩,⟨g18,rfl,h18⟩,⟨g17,rfl,h17⟩,⟨g16,rfl,h16⟩,⟨g15,rfl,h15⟩,⟨g14,rfl,h14⟩,⟨g13,rfl,h13⟩,⟨g12,rfl,h12⟩,⟨g11,rfl,h11⟩,⟨g10,rfl,h10⟩,⟨g9,rfl,h9⟩,⟨g8,rfl,h8⟩,⟨g7,rfl,h7⟩,⟨g6,rfl,h6⟩,⟨g5,rfl,h5⟩,⟨g4,rfl,h4⟩,⟨g3,rfl,h3⟩,⟨g2,rfl,h2⟩,⟨g1,rfl,h1⟩,⟨g0,rfl,h0⟩, -⟩:=hms;intro hK;have HS:∀(g:Nat) (s:ByteArray),Has wn g s→Has (wn.setRow w.heap.size #[mk g0,mk g1,mk g2,mk g3,mk g4,mk g5,mk g6,mk g7,mk g8,mk g9,mk g10,mk g11,mk g12,mk g13,mk g14,mk g15,mk g16,mk g17,mk g18,mk g19,mkO,mk g21,mk g22,mk g23,mk g24,mk g25,mk g26,mk g27,mk g28,mk g29]) g s:=fun g s h=>h.setRow HR.out _;refine hK _ _ ?_;refine wpList_build' rfl 78 _ rfl #[mk g0,mk g1,mk g2,mk g3,mk g4,mk g5,mk g6,mk g7,mk g8,mk g9,mk g10,mk g11,mk g12,mk g13,mk g14,mk g15,mk g16,mk g17,mk g18,mk g19,mkO,mk g21,mk g22,mk g23,mk g24,mk g25,mk g26,mk g27,mk g28,mk g29] (by kernel_rfl) ?_;refine wpList_store_row rfl 78 (.tmp 0) (.tmp 46) rfl w.heap.size #[mk g0,mk g1,mk g2,mk g3,mk g4,mk g5,mk g6,mk g7,mk g8,mk g9,mk g10,mk g11,mk g12,mk g13,mk g14,mk g15,mk g16,mk g17,mk g18,mk g19,mkO,mk g21,mk g22,mk g23,mk g24,mk g25,mk g26,mk g27,mk g28,mk g29] rfl rfl 78 _ HR.out (by kernel_rfl) (by rfl) (by kernel_rfl) ?_;refine wpList_nil ?_
 have HF:=Lib.hid (setRow_heap wn w.heap.size _ #[mk g0,mk g1,mk g2,mk g3,mk g4,mk g5,mk g6,mk g7,mk g8,mk g9,mk g10,mk g11,mk g12,mk g13,mk g14,mk g15,mk g16,mk g17,mk g18,mk g19,mkO,mk g21,mk g22,mk g23,mk g24,mk g25,mk g26,mk g27,mk g28,mk g29] 78 (0,0) HR.out);clear hK;refine (‹∀(a:Act) (w:World),Code.wp _ Code.ret _ a w→_›:∀(a:Act) (w:World),Code.wp _ Code.ret _ a w→_) _ _ ?_;refine wp_ret ?_;refine bodyPost_ret (results_cell_row rfl _ _ w.heap.size 78 #[mk g0,mk g1,mk g2,mk g3,mk g4,mk g5,mk g6,mk g7,mk g8,mk g9,mk g10,mk g11,mk g12,mk g13,mk g14,mk g15,mk g16,mk g17,mk g18,mk g19,mkO,mk g21,mk g22,mk g23,mk g24,mk g25,mk g26,mk g27,mk g28,mk g29] (0,0) _ rfl HF.out Tryz.underlying78 rfl (by kernel_rfl)) rfl ?_;exact ⟨[mk g0,mk g1,mk g2,mk g3,mk g4,mk g5,mk g6,mk g7,mk g8,mk g9,mk g10,mk g11,mk g12,mk g13,mk g14,mk g15,mk g16,mk g17,mk g18,mk g19,mkO,mk g21,mk g22,mk g23,mk g24,mk g25,mk g26,mk g27,mk g28,mk g29],rfl,⟨⟨g0,rfl,HS _ _ h0⟩,⟨g1,rfl,HS _ _ h1⟩,⟨g2,rfl,HS _ _ h2⟩,⟨g3,rfl,HS _ _ h3⟩,⟨g4,rfl,HS _ _ h4⟩,⟨g5,rfl,HS _ _ h5⟩,⟨g6,rfl,HS _ _ h6⟩,⟨g7,rfl,HS _ _ h7⟩,⟨g8,rfl,HS _ _ h8⟩,⟨g9,rfl,HS _ _ h9⟩,⟨g10,rfl,HS _ _ h10⟩,⟨g11,rfl,HS _ _ h11⟩,⟨g12,rfl,HS _ _ h12⟩,⟨g13,rfl,HS _ _ h13⟩,⟨g14,rfl,HS _ _ h14⟩,⟨g15,rfl,HS _ _ h15⟩,⟨g16,rfl,HS _ _ h16⟩,⟨g17,rfl,HS _ _ h17⟩,⟨g18,rfl,HS _ _ h18⟩,⟨g19,rfl,HS _ _ h19⟩,rfl,⟨g21,rfl,HS _ _ h21⟩,⟨g22,rfl,HS _ _ h22⟩,⟨g23,rfl,HS _ _ h23⟩,⟨g24,rfl,HS _ _ h24⟩,⟨g25,rfl,HS _ _ h25⟩,⟨g26,rfl,HS _ _ h26⟩,⟨g27,rfl,HS _ _ h27⟩,⟨g28,rfl,HS _ _ h28⟩,⟨g29,rfl,HS _ _ h29⟩,trivial⟩,below_setRow HB.out (Nat.le_refl _) _⟩
end code
end Go.Proofs.YtimoakmcelocfaaGreat.Wit
namespace Go.Proofs.YtimoakmcelocfaaGreat.Rq
open Go.RowKit Base Txt
section code
set_option maxHeartbeats 1000000
attribute [local go_sem] Base.some_undef
end code
end Go.Proofs.YtimoakmcelocfaaGreat.Rq
namespace Go.Proofs.YtimoakmcelocfaaGreat.By
open Go.RowKit Base
def Bytes (w:World) (g:Nat) (l:List UInt8):Prop:=∀j (h:j<l.length),w.cell? ⟨g,j,none⟩=some (.int .u8 (l[j].toNat:Int))∧w.frozen? ⟨g,j,none⟩=false
theorem conv_bytes (s:ByteArray) (w:World):∃W cap,(convert 9 34 (.string s)).run Tryz.prog w=.ok (.slice (some ⟨w.heap.size,0,none⟩) s.size cap) W∧Bytes W w.heap.size s.data.toList∧w.heap.size<W.heap.size∧Below w.heap.size w W:=by
 have hcv:=run_bytes_of_string (P:=Tryz.prog) w 9 34 5 s Tryz.underlying9 Tryz.underlying34 Tryz.underlying5;refine ⟨_,_,hcv,fun j hj=>?_,by simp,(Below.refl _ _).drew.alloc (Nat.le_refl _) _⟩;have hj':j<s.data.size:=by simpa using hj
 refine ⟨(World.cell?_alloc_mark w.drew _ _ _ j).trans (bytesRow_at s _ j hj'),(World.frozen?_alloc_mark w.drew _ _ _ _ j).trans ?_⟩;have:¬(bytesRow s (grownCap w s.size 0 5)).size≤j:=by unfold bytesRow;rw [Array.size_append,Array.size_map];omega
 simp [this]
end Go.Proofs.YtimoakmcelocfaaGreat.By
namespace Go.Proofs.YtimoakmcelocfaaGreat.Rq
open Go.RowKit Base Txt
section code
set_option maxHeartbeats 4000000
set_option maxRecDepth 10000
attribute [local go_sem] Base.some_undef
end code
end Go.Proofs.YtimoakmcelocfaaGreat.Rq
namespace Go.Proofs.YtimoakmcelocfaaGreat.Rq
open Go.RowKit Base Txt
section code
set_option maxHeartbeats 4000000
set_option maxRecDepth 10000
attribute [local go_sem] Base.some_undef
end code
end Go.Proofs.YtimoakmcelocfaaGreat.Rq
namespace Go.Proofs.YtimoakmcelocfaaGreat.Pg
open Go.RowKit Base Txt Par
structure T where
 st:Nat
 rd:Ln.M
 r:Rec.R
 hl:Nat
 bl:Nat
 size:Nat
 cnt:Bool
 left:Nat
 out:List Rec.R
inductive Q
 | live (t:T)
 | dead (e:Nat) (out:List Rec.R)
section
variable (p:Nat) (b:Bd)
def T.fin (t:T):T:={t with out:=t.out ++ [t.r],r:=zero,hl:=0,bl:=0,size:=0,cnt:=false,left:=0,st:=1}
def T.enter (t:T) (st:Nat) (most:Int):T:={t with st:=st,rd:=Ln.M.of p most}
def T.endData (t:T):T:=if t.r.ch=true then t.enter p 6 0 else t.fin
def T.keep (t:T) (c:UInt8):T:={t with r:={t.r with body:=t.r.body ++ [c]},left:=t.left-1}
def T.first (t:T) (s:List UInt8):Nat × T:=
 if s= [] then (if Qk.has p 0=true then 0 else 400,t)
 else
  let q:=Rq.request (Rq.clOf p) b.od s
  if q.2.2.2=0 then (0,{t with r:={t.r with m:=ba q.1,x:=ba q.2.1,k:=(q.2.2.1:Int)},st:=2}) else (q.2.2.2,t)
def T.endHead (t:T):Nat × T:=
 let d:=Frm.decideV (Frm.clOf p) b.ch b.x3 t.r.k t.r.fs
 if d.2.2≠0 then (d.2.2.toNat,t)
 else if d.1=2 then (0,{t with r:={t.r with ch:=true},st:=4})
 else if d.2.1=0 then (0,t.fin)
 else (0,{t with left:=d.2.1.toNat,st:=3})
def listE:Nat ⊕ List Fld→Nat
 | .inl e=>e
 | .inr _=>0
def listL (l:List Fld):Nat ⊕ List Fld→List Fld
 | .inl _=>l
 | .inr l'=>l'
def T.fields (t:T) (s:List UInt8):Nat × T:=
 if s= [] then t.endHead p b
 else (listE (fieldV p t.hl t.r.fs s b.x1),{t with hl:=t.hl+1,r:={t.r with fs:=listL t.r.fs (fieldV p t.hl t.r.fs s b.x1)}})
def T.trail (t:T) (s:List UInt8):Nat × T:=
 if s= [] then (0,t.fin)
 else (listE (fieldV p t.bl t.r.ts s b.x5),{t with bl:=t.bl+1,r:={t.r with ts:=listL t.r.ts (fieldV p t.bl t.r.ts s b.x5)}})
def T.chunk (t:T) (s:List UInt8):Nat × T:=
 let z:=Chk.sizeV (Qk.has p 27) (Qk.has p 28) b.x4 b.x3 s
 if z.2≠0 then (z.2.toNat,t)
 else if z.1=0 then (0,{t with st:=7})
 else if b.x3-(t.r.body.length:Int)<z.1 then (413,t)
 else (0,{t with left:=z.1.toNat,st:=5})
def T.line (t:T) (s:List UInt8):Nat × T:=
 if t.st=1 then t.first p b s else if t.st=2 then t.fields p b s else if t.st=4 then t.chunk p b s else if t.st=7 then t.trail p b s
 else (0,t.enter p 4 b.x0)
def longE (st:Nat):Nat:=if st=1 then 414 else if st=2∨st=7 then 431 else 400
def ends (x:Nat × T):Q:=if x.1=0 then .live x.2 else .dead x.1 x.2.out
def T.inLine (t:T) (c:UInt8):Q × Bool:=
 let t1:={t with rd:=t.rd.byte c}
 let how:=t.rd.clear.next c
 if how=0 then (.live t1,true)
 else if how=3 then (.dead 400 t.out,true)
 else if how=4 then (if (t.st==6&&Qk.has p 29)=true then (.live (t1.enter p 4 b.x0),false) else (.dead (longE t.st) t.out,true))
 else (ends (t1.line p b (t.rd.byte c).line),!(how==2))
def T.counted (t:T):T:=if t.cnt=true then t else {t with cnt:=true,size:=t.size+1}
def headed (st:Nat):Bool:=st==1||st==2||st==7
def bodied (st:Nat):Bool:=st==3||st==5
def T.look (t:T) (c:UInt8):Q × Bool:=
 if bodied t.st=true then (.live (if t.left=1 then (t.keep c).endData p else t.keep c),true)
 else if headed t.st=true then (if b.x2<(t.counted.size:Int) then (.dead 431 t.out,true) else t.counted.inLine p b c)
 else t.inLine p b c
def T.take (t:T) (c:UInt8):Q:=
 match ({t with cnt:=false}:T).look p b c with
 |(.live t1,false)=>(t1.look p b c).1
 |(x,_)=>x
def Q.byte (x:Q) (c:UInt8):Q:=
 match x with
 | .live t=>t.take p b c
 | x=>x
def Q.feed (x:Q) (cs:List UInt8):Q:=cs.foldl (Q.byte p b) x
def T.new:T:=⟨1,Ln.M.of p b.x0,zero,0,0,0,false,0,[]⟩
def Q.new:Q:=if (b.right&&decide (p<1073741824))=true then .live (T.new p b) else .dead 20 []
def Q.read (cs:List UInt8):Q:=(Q.new p b).feed p b cs
end
def Q.err:Q→Nat
 | .live _=>0
 | .dead e _=>e
def Q.out:Q→List Rec.R
 | .live t=>t.out
 | .dead _ out=>out
def Q.told:Q→Q
 | .live t=>.live {t with out:= []}
 | .dead e _=>.dead e []
def T.isNew (t:T):Bool:=decide (t.rd.len=0) && !t.rd.pend
def T.next (t:T):Bool:=(t.st==3||t.st==4)&&(t.r.body.isEmpty&&t.isNew)
def Q.waits:Q→Bool
 | .live t=>t.next&&Rec.expects t.r
 | .dead _ _=>false
def Q.held:Q→Nat
 | .live t=>t.rd.len+Rec.size t.r
 | .dead _ _=>0
def Q.clean:Q→Bool
 | .live t=>t.st==1&&t.isNew
 | .dead _ _=>false
end Go.Proofs.YtimoakmcelocfaaGreat.Pg
namespace Go.Proofs.YtimoakmcelocfaaGreat.Par
open Go.RowKit Base Txt Mem
theorem row_cellL {w:World} {g k:Nat} {l:List Value} {ty:TypeId} (h:w.heap[g]?=some (.cells l.toArray ty (0,0))) {v:Value} (hk:l[k]?=some v):w.cell? ⟨g,k,none⟩=some v:=Ln.row_cell h (by rw [List.getElem?_toArray];exact hk)
theorem row_setL {w:World} {g:Nat} {l:List Value} {ty:TypeId} (h:w.heap[g]?=some (.cells l.toArray ty (0,0))) (k:Nat) (v:Value):(w.setCell ⟨g,k,none⟩ v).heap[g]?=some (.cells (l.set k v).toArray ty (0,0)):=by rw [←List.setIfInBounds_toArray];exact Ln.row_set h k v
abbrev ptr (g:Nat):Value:=.pointer (some ⟨g,0,none⟩)
abbrev pcells (p:Nat) (b:Bd) (s:S) (q:Nat) (f bd t o:Value):List Value:=
 [.int .u32 (p:Int),.int .i64 b.x0,.int .i64 b.x1,.int .i64 b.x2,.int .i64 b.x3,.int .i64 b.x4,.int .i64 b.x5,.int .i64 b.x6,.int .i64 b.x7,.bool b.ch,.bool b.od,.int .i64 (s.st:Int),ptr q,
   .string s.r.m,.string s.r.x,.int .i64 s.r.k,f,.bool s.r.ch,bd,t,.int .i64 (s.lines:Int),.int .i64 (s.head:Int),.int .i64 (s.left:Int),.bool s.fresh,.bool s.clean,.int .i64 (s.e:Int),o]
abbrev blks (g q:Nat) (v f bd t o:Value):List (Option Nat):= [some g,some q,v.ownBlock,f.ownBlock,bd.ownBlock,t.ownBlock,o.ownBlock]
def Outs (L:List (Option Nat)) (B:Zone) (w:World) (o:Value) (out:List Rec.R):Prop:=
 ∃ps:List (Array Value × Rec.R),ps.map (·.2)=out∧(∀x∈ps,x.1.size=7∧Far L B.z w (.agg x.1) x.2)∧w.ownsRow B 57 7 o out.length (ps.flatMap (·.1.toList))
structure Own (w:World) (B:Zone) (g q:Nat) (v f bd t o:Value) (p:Nat) (rd:Ln.R) (fs:List Fld) (body:List UInt8) (ts:List Fld) (out:List Rec.R):Prop where
 R:Ln.Rr w B q v p rd
 F:w.ownsRow B 106 2 f fs.length (cells fs)
 D:w.ownsRow B 5 1 bd body.length (Rec.vals body)
 T:w.ownsRow B 106 2 t ts.length (cells ts)
 O:Outs (blks g q v f bd t o) B w o out
 lone:Lone (blks g q v f bd t o)
 ge:B≤g
 lt:g<w.heap.size
 zone:Clear w B.z (blks g q v f bd t o)
structure PR (w:World) (B:Zone) (g q:Nat) (v f bd t o:Value) (p:Nat) (b:Bd) (s:S):Prop where
 row:w.heap[g]?=some (.cells (pcells p b s q f bd t o).toArray 59 (0,0))
 own:Own w B g q v f bd t o p s.rd s.r.fs s.r.body s.r.ts s.out
section
variable {w w':World} {B:Zone} {g q:Nat} {v f bd t o:Value} {p:Nat} {b:Bd} {s:S} {rd:Ln.R} {fs ts:List Fld} {body:List UInt8} {out:List Rec.R} {L:List (Option Nat)}
theorem Outs.keeps (h:Outs L B w o out) {L2:List (Option Nat)} (hk:Keeps L2 w w') (hs:∀k,some k∈L2→some k∈L) (ho:∀k,o.ownBlock=some k→some k∉L2):Outs L B w' o out:=by obtain ⟨ps,h1,h2,h3⟩:=h;exact ⟨ps,h1,fun x hx=>⟨(h2 x hx).1,(h2 x hx).2.keeps (hk.mono hs)⟩,hk.own h3 ho⟩
theorem Own.in (h:Own w B g q v f bd t o p rd fs body ts out):In w (blks g q v f bd t o):=by
 intro k hk;simp only [List.mem_cons,List.not_mem_nil,or_false,Option.some.injEq] at hk;obtain ⟨ps,h1,h2,h3⟩:=h.O;rcases hk with rfl | rfl | hk | hk | hk | hk | hk
 ·exact h.lt
 ·exact Ln.row_lt h.R.row
 ·exact (World.ownsRow.lt h.R.own k hk.symm).2
 ·exact (World.ownsRow.lt h.F k hk.symm).2
 ·exact (World.ownsRow.lt h.D k hk.symm).2
 ·exact (World.ownsRow.lt h.T k hk.symm).2
 ·exact (World.ownsRow.lt h3 k hk.symm).2
theorem Own.low (h:Own w B g q v f bd t o p rd fs body ts out):∀k,some k∈blks g q v f bd t o→B≤k:=by
 intro k hk;simp only [List.mem_cons,List.not_mem_nil,or_false,Option.some.injEq] at hk;obtain ⟨ps,h1,h2,h3⟩:=h.O;rcases hk with rfl | rfl | hk | hk | hk | hk | hk
 ·exact h.ge
 ·exact h.R.ge
 ·exact (World.ownsRow.lt h.R.own k hk.symm).1
 ·exact (World.ownsRow.lt h.F k hk.symm).1
 ·exact (World.ownsRow.lt h.D k hk.symm).1
 ·exact (World.ownsRow.lt h.T k hk.symm).1
 ·exact (World.ownsRow.lt h3 k hk.symm).1
theorem Own.set (h:Own w B g q v f bd t o p rd fs body ts out) (k:Nat) (u:Value):Own (w.setCell ⟨g,k,none⟩ u) B g q v f bd t o p rd fs body ts out:=by
 have hk:Keeps [some g] w (w.setCell ⟨g,k,none⟩ u):=Keeps.set g k u (by simp);have hn:∀i j,i≠0→(blks g q v f bd t o)[i]?=some (some j)→some j∉ [some g]:=fun i j hi hj hm=>by
  have e:j=g:=by simpa using hm
  rw [e] at hj
  exact hi (h.lone i 0 g hj rfl)
 exact ⟨⟨hk.row h.R.row (hn 1 q (by decide) rfl),hk.own h.R.own fun j e=>hn 2 j (by decide) (by rw [←e];rfl),h.R.ge,h.R.ne⟩,
  hk.own h.F fun j e=>hn 3 j (by decide) (by rw [←e];rfl),hk.own h.D fun j e=>hn 4 j (by decide) (by rw [←e];rfl),hk.own h.T fun j e=>hn 5 j (by decide) (by rw [←e];rfl),
  h.O.keeps hk (fun j hj=>by obtain rfl:j=g:=by simpa using hj
                             simp) fun j e=>hn 6 j (by decide) (by rw [←e];rfl),
  h.lone,h.ge,by simpa using h.lt,h.zone.of hk.size Of.refl⟩
theorem Own.below (h:Own w B g q v f bd t o p rd fs body ts out) (hb:Below w.heap.size w w'):Own w' B g q v f bd t o p rd fs body ts out:=by have hk:Keeps [] w w':=Keeps.of_below hb;refine ⟨⟨hk.row h.R.row (by simp),hk.own h.R.own (by simp),h.R.ge,h.R.ne⟩,hk.own h.F (by simp),hk.own h.D (by simp),hk.own h.T (by simp),h.O.keeps hk (by simp) (by simp),h.lone,h.ge,Nat.lt_of_lt_of_le h.lt hb.size,h.zone.of hb.size Of.refl⟩
theorem PR.below (h:PR w B g q v f bd t o p b s) (hb:Below w.heap.size w w'):PR w' B g q v f bd t o p b s:=
 ⟨(hb.block g h.own.lt).trans h.row,h.own.below hb⟩
theorem PR.drew (h:PR w B g q v f bd t o p b s) (n:Nat):PR (w.drewN n) B g q v f bd t o p b s:=h.below (Base.below_drewN (Below.refl _ _) n)
theorem PR.put (h:PR w B g q v f bd t o p b s) (k:Nat) (u:Value) (s':S) (hc:(pcells p b s q f bd t o).set k u=pcells p b s' q f bd t o) (hd:s'.rd=s.rd) (h1:s'.r.fs=s.r.fs) (h2:s'.r.body=s.r.body) (h3:s'.r.ts=s.r.ts) (h4:s'.out=s.out) :
 PR (w.setCell ⟨g,k,none⟩ u) B g q v f bd t o p b s':=by
 refine ⟨?_,?_⟩
 ·rw [←hc,←List.setIfInBounds_toArray];exact Ln.row_set h.row k u
 ·rw [hd,h1,h2,h3,h4];exact h.own.set k u
theorem Own.zero (h:Own w B g q v f bd t o p rd fs body ts out):Own w B g q v (.slice none 0 0) (.slice none 0 0) (.slice none 0 0) o p rd [] [] [] out:=by
 have hsub:∀k,some k∈blks g q v (.slice none 0 0) (.slice none 0 0) (.slice none 0 0) o→some k∈blks g q v f bd t o:=by
  intro k hk;simp only [List.mem_cons,List.not_mem_nil,or_false,Value.ownBlock,reduceCtorEq,false_or] at hk ⊢;rcases hk with hk | hk | hk | hk
  ·exact .inl hk
  ·exact .inr (.inl hk)
  ·exact .inr (.inr (.inl hk))
  ·exact .inr (.inr (.inr (.inr (.inr (.inr hk)))))
 obtain ⟨ps,h1,h2,h3⟩:=h.O;refine ⟨h.R,World.ownsRow_nil _ _ _ _,World.ownsRow_nil _ _ _ _,World.ownsRow_nil _ _ _ _,⟨ps,h1,fun x hx=>⟨(h2 x hx).1,(h2 x hx).2.of fun k hk=>.inl (hsub k hk)⟩,h3⟩,?_,h.ge,h.lt,h.zone.of (Nat.le_refl _) fun k hk=>.inl (hsub k hk)⟩;have e:blks g q v (.slice none 0 0) (.slice none 0 0) (.slice none 0 0) o=(((blks g q v f bd t o).set 3 none).set 4 none).set 5 none:=rfl;rw [e]
 exact ((h.lone.set h.in 3 none (.inl rfl)).set (fun k hk=>h.in k (by
  rcases List.mem_or_eq_of_mem_set hk with hk | hk
  ·exact hk
  ·cases hk)) 4 none (.inl rfl)).set (fun k hk=>h.in k (by
  rcases List.mem_or_eq_of_mem_set hk with hk | hk
  ·rcases List.mem_or_eq_of_mem_set hk with hk | hk
   ·exact hk
   ·cases hk
  ·cases hk)) 5 none (.inl rfl)
theorem Own.line (h:Own w B g q v f bd t o p rd fs body ts out) (hb:Below w.heap.size w w') {q1:Nat} {rd1:Ln.R} (hr:Ln.Rr w' B q1 (.slice none 0 0) p rd1) (hq:w.heap.size≤q1):Own w' B g q1 (.slice none 0 0) f bd t o p rd1 fs body ts out:=by
 have e:blks g q1 (.slice none 0 0) f bd t o=((blks g q v f bd t o).set 1 (some q1)).set 2 none:=rfl;have hof:Of w (blks g q v f bd t o) (blks g q1 (.slice none 0 0) f bd t o):=by
  rw [e]
  exact (Of.set 1 (some q1) (.inr (.inr ⟨q1,rfl,hq⟩))).trans (Of.set 2 none (.inl rfl)) (Nat.le_refl _)
 have hw:=h.below hb;obtain ⟨ps,h1,h2,h3⟩:=h.O;have hk:Keeps (blks g q1 (.slice none 0 0) f bd t o) w w':=Keeps.of_below hb;refine ⟨hr,hw.F,hw.D,hw.T,⟨ps,h1,fun x hx=>⟨(h2 x hx).1,((h2 x hx).2.of hof).keeps hk⟩,by obtain ⟨ps',h1',h2',h3'⟩:=hw.O;exact (Keeps.of_below hb:Keeps [] w w').own h3 (by simp)⟩,?_,h.ge,hw.lt,h.zone.of hb.size hof⟩;rw [e];intro i j k hi hj
 have hL:=h.lone.set h.in 1 (some q1) (.inr (.inr ⟨q1,rfl,hq⟩));have hi':((blks g q v f bd t o).set 1 (some q1))[i]?=some (some k):=by
  by_cases e2:2=i
  ·subst e2;simp at hi
  ·rwa [List.getElem?_set_ne e2] at hi
 have hj':((blks g q v f bd t o).set 1 (some q1))[j]?=some (some k):=by
  by_cases e2:2=j
  ·subst e2;simp at hj
  ·rwa [List.getElem?_set_ne e2] at hj
 exact hL i j k hi' hj'
theorem PR.line (h:PR w B g q v f bd t o p b s) (hb:Below w.heap.size w w') {q1:Nat} {rd1:Ln.R} (hr:Ln.Rr w' B q1 (.slice none 0 0) p rd1) (hq:w.heap.size≤q1):PR (w'.setCell ⟨g,12,none⟩ (ptr q1)) B g q1 (.slice none 0 0) f bd t o p b {s with rd:=rd1}:=
 ⟨row_setL ((hb.block g h.own.lt).trans h.row) 12 (ptr q1),(h.own.line hb hr hq).set 12 (ptr q1)⟩
theorem slot_own {w:World} {B:Zone} {e:TypeId} {size:Nat} {v:Value} {n:Nat} {xs:List Value} (h:w.ownsRow B e size v n xs):slot v=v.ownBlock:=by rcases h.2 with ⟨rfl,_⟩ | ⟨g,cap,cur,rfl,_⟩<;>rfl
theorem Own.push {r:Rec.R} (h:Own w B g q v f bd t o p rd r.fs r.body r.ts out) (hg:w.grownBy w' o.ownBlock) {o':Value} (ps:List (Array Value × Rec.R)) (hps:ps.map (·.2)=out) (hfar:∀x∈ps,x.1.size=7∧Far (blks g q v f bd t o) B.z w (.agg x.1) x.2)
 (ho:w'.ownsRow B 57 7 o' (out.length+1) (ps.flatMap (·.1.toList) ++ [.string r.m,.string r.x,.int .i64 r.k,f,.bool r.ch,bd,t])) (hor:o'.ownBlock=o.ownBlock∨o'.ownBlock=some w.heap.size) :
 Own w' B g q v (.slice none 0 0) (.slice none 0 0) (.slice none 0 0) o' p rd [] [] [] (out ++ [r]):=by
 have hk:Keeps [o.ownBlock] w w':=Keeps.grown hg fun k e=>by simp [e]
 have hn:∀i j,i≠6→(blks g q v f bd t o)[i]?=some (some j)→some j∉ [o.ownBlock]:=fun i j hi hj hm=>by
  have e:some j=o.ownBlock:=by simpa using hm
  exact hi (h.lone i 6 j hj (by rw [e];rfl))
 have hin:=h.in
 have F':=hk.own h.F fun j e=>hn 3 j (by decide) (by rw [←e];rfl)
 have D':=hk.own h.D fun j e=>hn 4 j (by decide) (by rw [←e];rfl)
 have T':=hk.own h.T fun j e=>hn 5 j (by decide) (by rw [←e];rfl);have hsub:∀k,some k∈blks g q v (.slice none 0 0) (.slice none 0 0) (.slice none 0 0) o'→(some k=some g∨some k=some q∨some k=v.ownBlock∨some k=o.ownBlock)∨w.heap.size≤k:=by
  intro k hk
  replace hk:some k∈ [some g,some q,v.ownBlock,none,none,none,o'.ownBlock]:=hk
  simp only [List.mem_cons,List.not_mem_nil,or_false,reduceCtorEq,false_or] at hk;rcases hk with hk | hk | hk | hk
  ·exact .inl (.inl hk)
  ·exact .inl (.inr (.inl hk))
  ·exact .inl (.inr (.inr (.inl hk)))
  ·rcases hor with e | e
   ·exact .inl (.inr (.inr (.inr (by rw [←e];exact hk))))
   ·rw [e] at hk;cases hk;exact .inr (Nat.le_refl _)
 have hof:∀k,some k∈blks g q v (.slice none 0 0) (.slice none 0 0) (.slice none 0 0) o'→some k∈blks g q v f bd t o∨w.heap.size≤k:=fun k hk=>by
  rcases hsub k hk with (e | e | e | e) | e
  ·exact .inl (by simp [e])
  ·exact .inl (by simp [e])
  ·exact .inl (by simp [e])
  ·exact .inl (by simp [e])
  ·exact .inr e
 have hkL2:Keeps (blks g q v f bd t o) w w':=hk.mono fun k hk=>by
  have e:some k=o.ownBlock:=by simpa using hk
  simp [e]
 refine ⟨⟨hk.row h.R.row (hn 1 q (by decide) rfl),hk.own h.R.own fun j e=>hn 2 j (by decide) (by rw [←e];rfl),h.R.ge,h.R.ne⟩,World.ownsRow_nil _ _ _ _,World.ownsRow_nil _ _ _ _,World.ownsRow_nil _ _ _ _,
  ⟨ps ++ [(#[.string r.m,.string r.x,.int .i64 r.k,f,.bool r.ch,bd,t],r)],by rw [List.map_append,hps];rfl,fun x hx=>?_,by rw [List.length_append,List.flatMap_append];simpa using ho⟩,?_,h.ge,Nat.lt_of_lt_of_le h.lt hk.size,h.zone.of hk.size hof⟩
 ·rcases List.mem_append.1 hx with hx | hx
  ·exact ⟨(hfar x hx).1,by
    have h2:=((hfar x hx).2.keeps hkL2)
    exact ⟨h2.reads,fun k hb=>⟨fun hm=>by
     rcases hof k hm with e | e
     ·exact (h2.far k hb).1 e
     ·exact absurd ((hfar x hx).2.far k hb).2 (by omega),(h2.far k hb).2⟩,h2.off⟩⟩
  ·obtain rfl:x= _:=by simpa using hx
   refine ⟨rfl,?_,fun k hb=>?_,fun k hb=>?_⟩
   ·obtain ⟨A1,c1,e1,h1⟩:=Flds.of_own F';obtain ⟨A2,c2,e2,h2⟩:=Rec.nums_of_own D';obtain ⟨A3,c3,e3,h3⟩:=Flds.of_own T';subst e1 e2 e3;exact ⟨_,_,_,_,_,_,rfl,h1,h2,h3⟩
   ·have e1:=slot_own h.F;have e2:=slot_own h.D;have e3:=slot_own h.T
    replace hb:some k∈ [none,none,none,slot f,none,slot bd,slot t]:=hb
    simp only [List.mem_cons,List.not_mem_nil,or_false,reduceCtorEq,false_or] at hb;have key:∀i,i≠0→i≠1→i≠2→i≠6→(blks g q v f bd t o)[i]?=some (some k)→some k∉blks g q v (.slice none 0 0) (.slice none 0 0) (.slice none 0 0) o'∧k<w'.heap.size:=by
     intro i i0 i1 i2 i6 hi
     have hlt:=hin k (List.mem_of_getElem? hi);refine ⟨fun hm=>?_,Nat.lt_of_lt_of_le hlt hk.size⟩;rcases hsub k hm with (e | e | e | e) | e
     ·exact i0 (h.lone i 0 k hi (by rw [e];rfl))
     ·exact i1 (h.lone i 1 k hi (by rw [e];rfl))
     ·exact i2 (h.lone i 2 k hi (by rw [e];rfl))
     ·exact i6 (h.lone i 6 k hi (by rw [e];rfl))
     ·omega
    rcases hb with hb | hb | hb
    ·exact key 3 (by decide) (by decide) (by decide) (by decide) (by rw [hb,e1];rfl)
    ·exact key 4 (by decide) (by decide) (by decide) (by decide) (by rw [hb,e2];rfl)
    ·exact key 5 (by decide) (by decide) (by decide) (by decide) (by rw [hb,e3];rfl)
   ·have e1:=slot_own h.F;have e2:=slot_own h.D;have e3:=slot_own h.T
    replace hb:some k∈ [none,none,none,slot f,none,slot bd,slot t]:=hb
    simp only [List.mem_cons,List.not_mem_nil,or_false,reduceCtorEq,false_or] at hb;rcases hb with hb | hb | hb
    ·exact h.zone.off k (List.mem_of_getElem? (i:=3) (by rw [hb,e1];rfl))
    ·exact h.zone.off k (List.mem_of_getElem? (i:=4) (by rw [hb,e2];rfl))
    ·exact h.zone.off k (List.mem_of_getElem? (i:=5) (by rw [hb,e3];rfl))
 ·have hz:=h.zero;have e:blks g q v (.slice none 0 0) (.slice none 0 0) (.slice none 0 0) o'=(blks g q v (.slice none 0 0) (.slice none 0 0) (.slice none 0 0) o).set 6 o'.ownBlock:=rfl;rw [e];refine hz.lone.set hz.in 6 _ ?_;rcases hor with e | e
  ·exact .inr (.inl (by rw [e];rfl))
  ·exact .inr (.inr ⟨_,e,Nat.le_refl _⟩)
structure Step (L L':List (Option Nat)) (w w':World):Prop where
 keeps:Keeps L w w'
 of:Of w L L'
theorem Step.refl:Step L L w w:=⟨Keeps.refl,Of.refl⟩
theorem Step.trans {L' L'':List (Option Nat)} {w'':World} (h:Step L L' w w') (h':Step L' L'' w' w''):Step L L'' w w'':=⟨h.keeps.trans h'.keeps h.of,h.of.trans h'.of h.keeps.size⟩
theorem Step.set (g k:Nat) (u:Value) (hg:some g∈L):Step L L w (w.setCell ⟨g,k,none⟩ u):=⟨Keeps.set g k u hg,Of.refl⟩
theorem Step.of_below (hb:Below w.heap.size w w'):Step L L w w':=⟨Keeps.of_below hb,Of.refl⟩
theorem Step.zero:Step (blks g q v f bd t o) (blks g q v (.slice none 0 0) (.slice none 0 0) (.slice none 0 0) o) w w:=⟨Keeps.refl,fun k hk=>by
 simp only [List.mem_cons,List.not_mem_nil,or_false,Value.ownBlock,reduceCtorEq,false_or] at hk ⊢;rcases hk with hk | hk | hk | hk
 ·exact .inl (.inl hk)
 ·exact .inl (.inr (.inl hk))
 ·exact .inl (.inr (.inr (.inl hk)))
 ·exact .inl (.inr (.inr (.inr (.inr (.inr (.inr hk))))))⟩
theorem Step.line (hb:Below w.heap.size w w') {q1:Nat} (hq:w.heap.size≤q1):Step (blks g q v f bd t o) (blks g q1 (.slice none 0 0) f bd t o) w w':=⟨Keeps.of_below hb,by
 have e:blks g q1 (.slice none 0 0) f bd t o=((blks g q v f bd t o).set 1 (some q1)).set 2 none:=rfl;rw [e]
 exact (Of.set 1 (some q1) (.inr (.inr ⟨q1,rfl,hq⟩))).trans (Of.set 2 none (.inl rfl)) (Nat.le_refl _)⟩
theorem Step.push {o':Value} (hg:w.grownBy w' o.ownBlock) (hor:o'.ownBlock=o.ownBlock∨o'.ownBlock=some w.heap.size):Step (blks g q v f bd t o) (blks g q v (.slice none 0 0) (.slice none 0 0) (.slice none 0 0) o') w w':=⟨Keeps.grown hg fun k e=>by simp [e],fun k hk=>by
 replace hk:some k∈ [some g,some q,v.ownBlock,none,none,none,o'.ownBlock]:=hk
 simp only [List.mem_cons,List.not_mem_nil,or_false,reduceCtorEq,false_or] at hk;rcases hk with hk | hk | hk | hk
 ·exact .inl (by simp [hk])
 ·exact .inl (by simp [hk])
 ·exact .inl (by simp [hk])
 ·rcases hor with e | e
  ·rw [e] at hk;exact .inl (by simp [hk])
  ·rw [e] at hk;cases hk;exact .inr (Nat.le_refl _)⟩
theorem one_own {e:TypeId} {size:Nat} {u:Value} {n:Nat} {xs:List Value} (h:w.ownsRow B e size u n xs):u.oneCell'=true:=by rcases h.2 with ⟨rfl,_⟩ | ⟨g,cap,cur,rfl,_⟩<;>rfl
theorem Own.setF (h:Own w B g q v f bd t o p rd fs body ts out) {f':Value} {fs':List Fld} (hk:Keeps [f.ownBlock] w w') (hr:w'.ownsRow B 106 2 f' fs'.length (cells fs')) (hor:f'.ownBlock=f.ownBlock∨∃k,f'.ownBlock=some k∧w.heap.size≤k) :
 Own w' B g q v f' bd t o p rd fs' body ts out∧Step (blks g q v f bd t o) (blks g q v f' bd t o) w w':=by
 have hn:∀i j,i≠3→(blks g q v f bd t o)[i]?=some (some j)→some j∉ [f.ownBlock]:=fun i j hi hj hm=>by
  have e:some j=f.ownBlock:=by simpa using hm
  exact hi (h.lone i 3 j hj (by rw [e];rfl))
 have e:blks g q v f' bd t o=(blks g q v f bd t o).set 3 f'.ownBlock:=rfl;have ho:f'.ownBlock=none∨(blks g q v f bd t o)[3]?=some f'.ownBlock∨∃k,f'.ownBlock=some k∧w.heap.size≤k:=by
  rcases hor with e | e
  ·exact .inr (.inl (by rw [e];rfl))
  ·exact .inr (.inr e)
 have hof:Of w (blks g q v f bd t o) (blks g q v f' bd t o):=by rw [e];exact Of.set 3 _ ho
 have hkL:Keeps (blks g q v f bd t o) w w':=hk.mono fun k hk=>by
  have e:some k=f.ownBlock:=by simpa using hk
  simp [e]
 obtain ⟨ps,h1,h2,h3⟩:=h.O
 refine ⟨⟨⟨hk.row h.R.row (hn 1 q (by decide) rfl),hk.own h.R.own fun j e=>hn 2 j (by decide) (by rw [←e];rfl),h.R.ge,h.R.ne⟩,hr,hk.own h.D fun j e=>hn 4 j (by decide) (by rw [←e];rfl),hk.own h.T fun j e=>hn 5 j (by decide) (by rw [←e];rfl),
  ⟨ps,h1,fun x hx=>⟨(h2 x hx).1,by
    have hx2:=(h2 x hx).2.keeps hkL
    exact ⟨hx2.reads,fun k hb=>⟨fun hm=>by
     rcases hof k hm with e | e
     ·exact (hx2.far k hb).1 e
     ·exact absurd ((h2 x hx).2.far k hb).2 (by omega),(hx2.far k hb).2⟩,hx2.off⟩⟩,hk.own h3 fun j e=>hn 6 j (by decide) (by rw [←e];rfl)⟩,?_,h.ge,Nat.lt_of_lt_of_le h.lt hk.size,h.zone.of hk.size hof⟩,hkL,hof⟩
 rw [e];exact h.lone.set h.in 3 _ ho
theorem Own.setD (h:Own w B g q v f bd t o p rd fs body ts out) {bd':Value} {body':List UInt8} (hk:Keeps [bd.ownBlock] w w') (hr:w'.ownsRow B 5 1 bd' body'.length (Rec.vals body')) (hor:bd'.ownBlock=bd.ownBlock∨∃k,bd'.ownBlock=some k∧w.heap.size≤k) :
 Own w' B g q v f bd' t o p rd fs body' ts out∧Step (blks g q v f bd t o) (blks g q v f bd' t o) w w':=by
 have hn:∀i j,i≠4→(blks g q v f bd t o)[i]?=some (some j)→some j∉ [bd.ownBlock]:=fun i j hi hj hm=>by
  have e:some j=bd.ownBlock:=by simpa using hm
  exact hi (h.lone i 4 j hj (by rw [e];rfl))
 have e:blks g q v f bd' t o=(blks g q v f bd t o).set 4 bd'.ownBlock:=rfl;have ho:bd'.ownBlock=none∨(blks g q v f bd t o)[4]?=some bd'.ownBlock∨∃k,bd'.ownBlock=some k∧w.heap.size≤k:=by
  rcases hor with e | e
  ·exact .inr (.inl (by rw [e];rfl))
  ·exact .inr (.inr e)
 have hof:Of w (blks g q v f bd t o) (blks g q v f bd' t o):=by rw [e];exact Of.set 4 _ ho
 have hkL:Keeps (blks g q v f bd t o) w w':=hk.mono fun k hk=>by
  have e:some k=bd.ownBlock:=by simpa using hk
  simp [e]
 obtain ⟨ps,h1,h2,h3⟩:=h.O
 refine ⟨⟨⟨hk.row h.R.row (hn 1 q (by decide) rfl),hk.own h.R.own fun j e=>hn 2 j (by decide) (by rw [←e];rfl),h.R.ge,h.R.ne⟩,hk.own h.F fun j e=>hn 3 j (by decide) (by rw [←e];rfl),hr,hk.own h.T fun j e=>hn 5 j (by decide) (by rw [←e];rfl),
  ⟨ps,h1,fun x hx=>⟨(h2 x hx).1,by
    have hx2:=(h2 x hx).2.keeps hkL
    exact ⟨hx2.reads,fun k hb=>⟨fun hm=>by
     rcases hof k hm with e | e
     ·exact (hx2.far k hb).1 e
     ·exact absurd ((h2 x hx).2.far k hb).2 (by omega),(hx2.far k hb).2⟩,hx2.off⟩⟩,hk.own h3 fun j e=>hn 6 j (by decide) (by rw [←e];rfl)⟩,?_,h.ge,Nat.lt_of_lt_of_le h.lt hk.size,h.zone.of hk.size hof⟩,hkL,hof⟩
 rw [e];exact h.lone.set h.in 4 _ ho
theorem Own.setT (h:Own w B g q v f bd t o p rd fs body ts out) {t':Value} {ts':List Fld} (hk:Keeps [t.ownBlock] w w') (hr:w'.ownsRow B 106 2 t' ts'.length (cells ts')) (hor:t'.ownBlock=t.ownBlock∨∃k,t'.ownBlock=some k∧w.heap.size≤k) :
 Own w' B g q v f bd t' o p rd fs body ts' out∧Step (blks g q v f bd t o) (blks g q v f bd t' o) w w':=by
 have hn:∀i j,i≠5→(blks g q v f bd t o)[i]?=some (some j)→some j∉ [t.ownBlock]:=fun i j hi hj hm=>by
  have e:some j=t.ownBlock:=by simpa using hm
  exact hi (h.lone i 5 j hj (by rw [e];rfl))
 have e:blks g q v f bd t' o=(blks g q v f bd t o).set 5 t'.ownBlock:=rfl;have ho:t'.ownBlock=none∨(blks g q v f bd t o)[5]?=some t'.ownBlock∨∃k,t'.ownBlock=some k∧w.heap.size≤k:=by
  rcases hor with e | e
  ·exact .inr (.inl (by rw [e];rfl))
  ·exact .inr (.inr e)
 have hof:Of w (blks g q v f bd t o) (blks g q v f bd t' o):=by rw [e];exact Of.set 5 _ ho
 have hkL:Keeps (blks g q v f bd t o) w w':=hk.mono fun k hk=>by
  have e:some k=t.ownBlock:=by simpa using hk
  simp [e]
 obtain ⟨ps,h1,h2,h3⟩:=h.O
 refine ⟨⟨⟨hk.row h.R.row (hn 1 q (by decide) rfl),hk.own h.R.own fun j e=>hn 2 j (by decide) (by rw [←e];rfl),h.R.ge,h.R.ne⟩,hk.own h.F fun j e=>hn 3 j (by decide) (by rw [←e];rfl),hk.own h.D fun j e=>hn 4 j (by decide) (by rw [←e];rfl),hr,
  ⟨ps,h1,fun x hx=>⟨(h2 x hx).1,by
    have hx2:=(h2 x hx).2.keeps hkL
    exact ⟨hx2.reads,fun k hb=>⟨fun hm=>by
     rcases hof k hm with e | e
     ·exact (hx2.far k hb).1 e
     ·exact absurd ((h2 x hx).2.far k hb).2 (by omega),(hx2.far k hb).2⟩,hx2.off⟩⟩,hk.own h3 fun j e=>hn 6 j (by decide) (by rw [←e];rfl)⟩,?_,h.ge,Nat.lt_of_lt_of_le h.lt hk.size,h.zone.of hk.size hof⟩,hkL,hof⟩
 rw [e];exact h.lone.set h.in 5 _ ho
theorem PR.bk (h:PR w B g q v f bd t o p b s):Rec.Bk w g (pcells p b s q f bd t o):=⟨fun _ _ hu=>row_cellL h.row hu,fun k _=>Ln.row_frozen h.row k,h.own.lt⟩
theorem rr_below {q1:Nat} {rd1:Ln.R} (h:Ln.Rr w B q1 v p rd1) (hb:Below w.heap.size w w'):Ln.Rr w' B q1 v p rd1:=by have hk:Keeps [] w w':=Keeps.of_below hb;exact ⟨hk.row h.row (by simp),hk.own h.own (by simp),h.ge,h.ne⟩
def Par (w:World) (B:Zone) (g:Nat) (p:Nat) (b:Bd) (s:S) (L:List (Option Nat)):Prop:=∃q v f bd t o,L=blks g q v f bd t o∧PR w B g q v f bd t o p b s
end
end Go.Proofs.YtimoakmcelocfaaGreat.Par
namespace Go.Proofs.YtimoakmcelocfaaGreat.Pg
open Go.RowKit Base Txt Mem Par
abbrev pgcells (p:Nat) (b:Bd) (s:T) (q:Nat) (f bd t o:Value):List Value:=
 [.int .i64 0,.int .i64 (s.hl:Int),f,.string s.r.m,.string s.r.x,.int .i64 s.r.k,.int .i64 (s.size:Int),.bool s.cnt,.int .i64 (s.bl:Int),t,.bool s.r.ch,bd,.int .i64 (s.left:Int),
   .int .u32 (p:Int),.int .i64 b.x0,.int .i64 b.x1,.int .i64 b.x2,.int .i64 b.x3,.int .i64 b.x4,.int .i64 b.x5,.int .i64 b.x6,.int .i64 b.x7,.bool b.ch,.bool b.od,.int .i64 (s.st:Int),ptr q,o]
section
variable {w w':World} {B:Zone} {g q:Nat} {v f bd t o:Value} {p:Nat} {b:Bd} {s:T} {rd:Ln.M} {fs ts:List Fld} {body:List UInt8} {out:List Rec.R} {L:List (Option Nat)}
end
end Go.Proofs.YtimoakmcelocfaaGreat.Pg
namespace Go.Proofs.YtimoakmcelocfaaGreat.Par
open Go.RowKit Base Txt
theorem grow_facts {base most:Int} (hb:1≤base) (hm:0≤most):∀(l:List UInt8) (n k:Int),0≤n→n≤most→Num.grow base most n l=some k→0≤k∧k≤most
 | [],n,k,h0,h1,h=>by
   simp only [Num.grow,Option.some.injEq] at h;omega
 | c::r,n,k,h0,h1,h=>by
   unfold Num.grow at h;by_cases hc:most<Num.dig c∨(most-Num.dig c)/base<n
   ·rw [if_pos hc] at h;cases h
   ·rw [if_neg hc] at h;have hd:=Num.dig_nonneg c;have h2:n≤(most-Num.dig c)/base:=by omega
    have h3:n*base≤most-Num.dig c:=by
     have:=Int.mul_le_mul_of_nonneg_right h2 (by omega:0≤base)
     have h4:=Int.ediv_mul_le (most-Num.dig c) (by omega:base≠0);omega
    have h5:0≤n*base:=Int.mul_nonneg h0 (by omega);exact grow_facts hb hm r _ k (by omega) (by omega) h
theorem read_facts (base most:Int) (hb:1≤base) (l:List UInt8):((Num.readOf base most l).2=0∧0≤(Num.readOf base most l).1∧(Num.readOf base most l).1≤max most 0)∨(Num.readOf base most l).2=22∨(Num.readOf base most l).2=23:=by
 unfold Num.readOf;split
 ·exact .inr (.inl rfl)
 ·cases h:Num.grow base (max most 0) 0 l with
  | none=>exact .inr (.inr rfl)
  | some k=>
    have:=grow_facts hb (by omega) l 0 k (by omega) (by omega) h;exact .inl ⟨rfl,this.1,this.2⟩
theorem chunk_facts (hex blanks:Bool) (ext body:Int) (l:List UInt8):((Chk.sizeV hex blanks ext body l).2=0∧0≤(Chk.sizeV hex blanks ext body l).1∧(Chk.sizeV hex blanks ext body l).1≤max body 0)∨(Chk.sizeV hex blanks ext body l).2=400∨(Chk.sizeV hex blanks ext body l).2=413:=by
 unfold Chk.sizeV;split
 ·rcases read_facts 16 body (by decide) (Chk.sizeL hex blanks l) with ⟨h0,h1,h2⟩ | h | h
  ·unfold Chk.numV;rw [h0,if_neg (by decide),if_neg (by decide)];exact .inl ⟨rfl,h1,h2⟩
  ·unfold Chk.numV
   rw [h,if_pos rfl];exact .inr (.inl rfl)
  ·unfold Chk.numV
   rw [h,if_neg (by decide),if_pos rfl];exact .inr (.inr rfl)
 ·exact .inr (.inl rfl)
theorem length_facts (lp lc lf ll:Bool) (most:Int) (vs:List ByteArray):((Frm.lengthV lp lc lf ll most vs).2=0∧0≤(Frm.lengthV lp lc lf ll most vs).1∧(Frm.lengthV lp lc lf ll most vs).1≤max most 0)∨(Frm.lengthV lp lc lf ll most vs).2=400∨(Frm.lengthV lp lc lf ll most vs).2=413:=by
 unfold Frm.lengthV;split
 ·exact .inl ⟨rfl,by decide,by show (0:Int)≤_;omega⟩
 ·split
  ·exact .inr (.inl rfl)
  ·rename_i s _;rcases read_facts 10 most (by decide) (Frm.unplus lp s).data.toList with ⟨h0,h1,h2⟩ | h | h
   ·unfold Frm.numV;rw [h0,if_neg (by decide),if_neg (by decide)];exact .inl ⟨rfl,h1,h2⟩
   ·unfold Frm.numV
    rw [h,if_pos rfl];exact .inr (.inl rfl)
   ·unfold Frm.numV
    rw [h,if_neg (by decide),if_pos rfl];exact .inr (.inr rfl)
theorem decide_facts (c:Frm.Cl) (ch:Bool) (body minor:Int) (fs:List Fld) :
 Frm.decideV c ch body minor fs=(2,0,0)∨(∃n:Nat,(n:Int)≤max body 0∧Frm.decideV c ch body minor fs=(1,(n:Int),0))∨∃e:Nat,(e=400∨e=413∨e=501)∧Frm.decideV c ch body minor fs=(0,0,(e:Int)):=by
 unfold Frm.decideV Frm.bodyV;have hh:Frm.hostsV c.nh c.mh minor (find fs Frm.hostN)=0∨Frm.hostsV c.nh c.mh minor (find fs Frm.hostN)=400:=by
  unfold Frm.hostsV;split
  ·exact .inr rfl
  ·split
   ·exact .inl rfl
   ·exact .inr rfl
 rcases hh with h | h
 ·rw [h,if_neg (by decide)];obtain ⟨W,hW⟩:∃W,Frm.winsV c.td c.ti c.tw c.lw minor (find fs Frm.teN).length (find fs Frm.clN).length (Frm.coding c.tb c.tl (find fs Frm.teN))=W:=⟨_,rfl⟩;have hw:W.2=0∨W.2=400∨W.2=501:=by
   rw [←hW];unfold Frm.winsV
   repeat' split
   all_goals simp
  rw [hW];rcases hw with w | w | w
  ·rw [w,if_neg (by decide)];split
   ·split
    ·exact .inl rfl
    ·exact .inr (.inr ⟨501,by simp,rfl⟩)
   ·rcases length_facts c.lp c.lc c.lf c.ll body (find fs Frm.clN) with ⟨h0,h1,h2⟩ | h0 | h0
    ·refine .inr (.inl ⟨(Frm.lengthV c.lp c.lc c.lf c.ll body (find fs Frm.clN)).1.toNat,by omega,?_⟩);unfold Frm.fixedV;rw [h0,if_pos rfl,Int.toNat_of_nonneg h1]
    ·refine .inr (.inr ⟨400,by simp,?_⟩);unfold Frm.fixedV;rw [h0,if_neg (by decide)];rfl
    ·refine .inr (.inr ⟨413,by simp,?_⟩);unfold Frm.fixedV;rw [h0,if_neg (by decide)];rfl
  ·rw [w,if_pos (by decide)];exact .inr (.inr ⟨400,by simp,rfl⟩)
  ·rw [w,if_pos (by decide)];exact .inr (.inr ⟨501,by simp,rfl⟩)
 ·rw [h,if_pos (by decide)];exact .inr (.inr ⟨400,by simp,rfl⟩)
theorem request_facts (c:Rq.Cl) (old:Bool) (l:List UInt8):((Rq.request c old l).2.2.2=0∧(Rq.request c old l).1.length≤l.length∧(Rq.request c old l).2.1.length≤l.length∧(Rq.request c old l).2.2.1≤1)∨(Rq.request c old l).2.2.2=400∨(Rq.request c old l).2.2.2=505:=by
 unfold Rq.request;split
 ·exact .inr (.inl rfl)
 ·rename_i m t v hp;split
  ·split
   ·exact .inr (.inr rfl)
   ·rename_i k hk;split
    ·exact .inr (.inr rfl)
    ·obtain ⟨-,h1, -,h2, -⟩:=Rq.pick_some hp;refine .inl ⟨rfl,h1,h2,?_⟩;show k≤1;unfold Rq.verL at hk
     repeat' split at hk
     all_goals first |(cases hk;omega) | cases hk
  ·exact .inr (.inl rfl)
end Go.Proofs.YtimoakmcelocfaaGreat.Par
namespace Go.Proofs.YtimoakmcelocfaaGreat.Pg
open Go.RowKit Base Txt Par
structure T.Ok (t:T):Prop where
 rd:t.rd.Ok
 nf:Ln.failed t.rd.last=false
 st:1≤t.st∧t.st≤7
 hl:t.hl≤100
 bl:t.bl≤100
 fsl:t.r.fs.length≤t.hl
 tsl:t.r.ts.length≤t.bl
 fss:∀y∈t.r.fs,y.1.size≤5000*t.hl∧y.2.size≤5000*t.hl
 tss:∀y∈t.r.ts,y.1.size≤5000*t.bl∧y.2.size≤5000*t.bl
 m:t.r.m.size≤4096
 x:t.r.x.size≤4096
 body:t.r.body.length+t.left≤1048576
 left:bodied t.st=true→1≤t.left
 early:t.st≤2→t.r.body= []
 size:t.size≤65536
theorem Bd.edges {b:Bd} (h:b.right=true):(64≤b.x0∧b.x0≤4096)∧(4≤b.x1∧b.x1≤100)∧(256≤b.x2∧b.x2≤65536)∧(16≤b.x3∧b.x3≤1048576)∧(0≤b.x4∧b.x4≤256)∧(0≤b.x5∧b.x5≤100):=by unfold Bd.right Bnd.right Bnd.inside at h;simp only [Bool.and_eq_true,decide_eq_true_eq] at h;omega
theorem size_ba (l:List UInt8):(ba l).size=l.length:=by simp [ba,ByteArray.size]
theorem joinF_le (f:Fld) (ln:List UInt8):(joinF f ln).1.size=f.1.size∧(joinF f ln).2.size≤f.2.size+1+ln.length:=by refine ⟨rfl,?_⟩;unfold joinF;rw [size_ba];unfold Fd.joined;rw [List.length_append,List.length_cons,len];have:=trimL_length Txt.blank ln;omega
theorem fieldV_fit {p lines:Nat} {l l':List Fld} {ln:List UInt8} {most:Int} (h:fieldV p lines l ln most=.inr l') (hn:ln.length≤4096) (hl:l.length≤lines) (hs:∀y∈l,y.1.size≤5000*lines∧y.2.size≤5000*lines) :
 ((lines+1:Nat):Int)≤most∧l'.length≤lines+1∧∀y∈l',y.1.size≤5000*(lines+1)∧y.2.size≤5000*(lines+1):=by
 unfold fieldV at h
 by_cases hm:most<((lines+1:Nat):Int)
 ·rw [if_pos hm] at h;cases h
 ·rw [if_neg hm] at h;have h0:((lines+1:Nat):Int)≤most:=by omega
  by_cases hg:(Fd.goes p ln && !l.isEmpty)=true
  ·rw [if_pos hg] at h;have hne:l≠ []:=by
    simp only [Bool.and_eq_true,Bool.not_eq_true',List.isEmpty_eq_false_iff] at hg;exact hg.2
   obtain ⟨ini,last,rfl⟩:∃ini last,l=ini ++ [last]:=⟨_,_,(List.dropLast_concat_getLast hne).symm⟩;simp only [List.dropLast_concat,List.getLast?_concat,Option.getD_some] at h;cases h;refine ⟨h0,by simpa using Nat.le_succ_of_le hl,fun y hy=>?_⟩;rcases List.mem_append.1 hy with hy | hy
   ·have:=hs y (List.mem_append_left _ hy);omega
   ·obtain rfl:y= _:=by simpa using hy
    have h1:=hs last (by simp);have h2:=joinF_le last ln;omega
  ·rw [if_neg hg] at h;rcases hp:Fd.parse (Fd.clOf p) ln with _ | _ | ⟨n,v⟩
   ·rw [hp] at h;cases h
   ·rw [hp] at h;cases h;exact ⟨h0,by omega,fun y hy=>by have:=hs y hy;omega⟩
   ·rw [hp] at h;cases h;have h2:=Fd.parse_le hp;refine ⟨h0,by simp;omega,fun y hy=>?_⟩;rcases List.mem_append.1 hy with hy | hy
    ·have:=hs y hy;omega
    ·obtain rfl:y= _:=by simpa using hy
     simp only [size_ba];omega
theorem fieldV_err {p lines:Nat} {l:List Fld} {ln:List UInt8} {most:Int} {e:Nat} (h:fieldV p lines l ln most=.inl e):e=400∨e=431:=by
 unfold fieldV at h
 by_cases hm:most<((lines+1:Nat):Int)
 ·rw [if_pos hm] at h;cases h;exact .inr rfl
 ·rw [if_neg hm] at h;by_cases hg:(Fd.goes p ln && !l.isEmpty)=true
  ·rw [if_pos hg] at h;cases h
  ·rw [if_neg hg] at h;rcases hp:Fd.parse (Fd.clOf p) ln with _ | _ | ⟨n,v⟩<;>rw [hp] at h<;>cases h;exact .inl rfl
section
variable {p:Nat} {b:Bd} {t t':T} {s:List UInt8}
theorem T.Ok.fin (h:t.Ok):t.fin.Ok:=
 ⟨h.rd,h.nf,⟨Nat.le_refl _,by show 1≤7;omega⟩,Nat.zero_le _,Nat.zero_le _,Nat.le_refl _,Nat.le_refl _,(by intro y hy;cases hy),(by intro y hy;cases hy),Nat.zero_le _,Nat.zero_le _,Nat.zero_le _,fun h=>(by cases h),fun _=>rfl,Nat.zero_le _⟩
theorem T.Ok.enter (h:t.Ok) {st:Nat} (hs:st=4∨st=6) (most:Int):(t.enter p st most).Ok:=
 ⟨Ln.M.new_ok _ _ _ (Ln.mid_le _),rfl,by show 1≤st∧st≤7;omega,h.hl,h.bl,h.fsl,h.tsl,h.fss,h.tss,h.m,h.x,h.body,fun hb=>(by rcases hs with rfl | rfl<;>cases hb),fun hle=>by have:st≤2:=hle;omega,h.size⟩
theorem T.Ok.first (h:t.Ok) (hst:t.st≤2) (hn:s.length≤4096) (h0:(t.first p b s).1=0):(t.first p b s).2.Ok:=by
 unfold T.first at h0 ⊢;by_cases he:s= []
 ·rw [if_pos he] at h0 ⊢;exact h
 ·rw [if_neg he] at h0 ⊢;rcases request_facts (Rq.clOf p) b.od s with ⟨h1,h2,h3,h4⟩ | h1 | h1
  ·simp only [h1,if_pos];exact ⟨h.rd,h.nf,by show 1≤2∧2≤7;omega,h.hl,h.bl,h.fsl,h.tsl,h.fss,h.tss,by show (ba _).size≤_;rw [size_ba];omega,by show (ba _).size≤_;rw [size_ba];omega,h.body,fun hb=>(by cases hb),fun _=>h.early hst,h.size⟩
  ·simp [h1] at h0
  ·simp [h1] at h0
theorem T.Ok.endHead (h:t.Ok) (hb:b.right=true) (hst:t.st≤2) (h0:(t.endHead p b).1=0):(t.endHead p b).2.Ok:=by
 have e3:=(Bd.edges hb).2.2.2.1;unfold T.endHead at h0 ⊢;rcases decide_facts (Frm.clOf p) b.ch b.x3 t.r.k t.r.fs with e | ⟨n,hn,e⟩ | ⟨x,hx,e⟩
 ·rw [e];dsimp only;rw [if_neg (by decide),if_pos rfl];exact ⟨h.rd,h.nf,by show 1≤4∧4≤7;omega,h.hl,h.bl,h.fsl,h.tsl,h.fss,h.tss,h.m,h.x,h.body,fun hb=>(by cases hb),fun hle=>by have:4≤2:=hle;omega,h.size⟩
 ·rw [e];dsimp only;rw [if_neg (by decide),if_neg (by decide)];by_cases hz:(n:Int)=0
  ·rw [if_pos hz];exact h.fin
  ·rw [if_neg hz];have hbd:=h.early hst;exact ⟨h.rd,h.nf,by show 1≤3∧3≤7;omega,h.hl,h.bl,h.fsl,h.tsl,h.fss,h.tss,h.m,h.x,by show t.r.body.length+(n:Int).toNat≤_;rw [hbd];simp only [List.length_nil];omega,fun _=>by show 1≤(n:Int).toNat;omega,fun hle=>by have:3≤2:=hle;omega,h.size⟩
 ·exfalso;rw [e] at h0;dsimp only at h0;rw [if_pos (by omega)] at h0;have:(x:Int).toNat=0:=h0;omega
theorem listE_zero {x:Nat ⊕ List Fld} (h:listE x=0) (h1:∀e,x=.inl e→e=400∨e=431):∃l,x=.inr l:=by
 cases x with
 | inl e=>
   have:e=0:=h;rcases h1 e rfl with h | h<;>omega
 | inr l=>exact ⟨l,rfl⟩
theorem T.Ok.fields (h:t.Ok) (hb:b.right=true) (hst:t.st≤2) (hn:s.length≤4096) (h0:(t.fields p b s).1=0):(t.fields p b s).2.Ok:=by
 have e1:=(Bd.edges hb).2.1;unfold T.fields at h0 ⊢;by_cases he:s= []
 ·rw [if_pos he] at h0 ⊢;exact h.endHead hb hst h0
 ·rw [if_neg he] at h0 ⊢;obtain ⟨l,hl⟩:=listE_zero h0 fun e he=>fieldV_err he;obtain ⟨f1,f2,f3⟩:=fieldV_fit hl hn h.fsl h.fss;rw [hl];exact ⟨h.rd,h.nf,h.st,by show t.hl+1≤100;omega,h.bl,f2,h.tsl,f3,h.tss,h.m,h.x,h.body,h.left,h.early,h.size⟩
theorem T.Ok.trail (h:t.Ok) (hb:b.right=true) (hn:s.length≤4096) (h0:(t.trail p b s).1=0):(t.trail p b s).2.Ok:=by
 have e1:=(Bd.edges hb).2.2.2.2.2;unfold T.trail at h0 ⊢;by_cases he:s= []
 ·rw [if_pos he] at h0 ⊢;exact h.fin
 ·rw [if_neg he] at h0 ⊢;obtain ⟨l,hl⟩:=listE_zero h0 fun e he=>fieldV_err he;obtain ⟨f1,f2,f3⟩:=fieldV_fit hl hn h.tsl h.tss;rw [hl];exact ⟨h.rd,h.nf,h.st,h.hl,by show t.bl+1≤100;omega,h.fsl,f2,h.fss,f3,h.m,h.x,h.body,h.left,h.early,h.size⟩
theorem T.Ok.chunk (h:t.Ok) (hb:b.right=true) (h0:(t.chunk p b s).1=0):(t.chunk p b s).2.Ok:=by
 have e3:=(Bd.edges hb).2.2.2.1;unfold T.chunk at h0 ⊢;rcases chunk_facts (Qk.has p 27) (Qk.has p 28) b.x4 b.x3 s with ⟨z2,z1,z3⟩ | z2 | z2
 ·dsimp only at h0 ⊢;rw [z2] at h0 ⊢;rw [if_neg (by decide)] at h0 ⊢;obtain ⟨z,hz⟩:∃z,(Chk.sizeV (Qk.has p 27) (Qk.has p 28) b.x4 b.x3 s).1=z:=⟨_,rfl⟩;rw [hz] at h0 z1 z3 ⊢;by_cases hz0:z=0
  ·rw [if_pos hz0];exact ⟨h.rd,h.nf,by show 1≤7∧7≤7;omega,h.hl,h.bl,h.fsl,h.tsl,h.fss,h.tss,h.m,h.x,h.body,fun hb=>(by cases hb),fun hle=>by have:7≤2:=hle;omega,h.size⟩
  ·rw [if_neg hz0] at h0 ⊢;by_cases hlt:b.x3-(t.r.body.length:Int)<z
   ·rw [if_pos hlt] at h0;cases h0
   ·rw [if_neg hlt];exact ⟨h.rd,h.nf,by show 1≤5∧5≤7;omega,h.hl,h.bl,h.fsl,h.tsl,h.fss,h.tss,h.m,h.x,by show t.r.body.length+z.toNat≤_;omega,fun _=>by show 1≤z.toNat;omega,fun hle=>by have:5≤2:=hle;omega,h.size⟩
 ·exfalso;dsimp only at h0;rw [z2] at h0;rw [if_pos (by decide)] at h0;cases h0
 ·exfalso;dsimp only at h0;rw [z2] at h0;rw [if_pos (by decide)] at h0;cases h0
theorem T.Ok.line (h:t.Ok) (hb:b.right=true) (hn:s.length≤4096) (h0:(t.line p b s).1=0):(t.line p b s).2.Ok:=by
 unfold T.line at h0 ⊢;by_cases h1:t.st=1
 ·rw [if_pos h1] at h0 ⊢;exact h.first (by omega) hn h0
 ·rw [if_neg h1] at h0 ⊢;by_cases h2:t.st=2
  ·rw [if_pos h2] at h0 ⊢;exact h.fields hb (by omega) hn h0
  ·rw [if_neg h2] at h0 ⊢;by_cases h4:t.st=4
   ·rw [if_pos h4] at h0 ⊢;exact h.chunk hb h0
   ·rw [if_neg h4] at h0 ⊢;by_cases h7:t.st=7
    ·rw [if_pos h7] at h0 ⊢;exact h.trail hb hn h0
    ·rw [if_neg h7];exact h.enter (.inl rfl) _
theorem T.Ok.byteR (h:t.Ok) (c:UInt8) (hf:Ln.failed (t.rd.clear.next c)=false):({t with rd:=t.rd.byte c}:T).Ok:=
 ⟨h.rd.byte c,hf,h.st,h.hl,h.bl,h.fsl,h.tsl,h.fss,h.tss,h.m,h.x,h.body,h.left,h.early,h.size⟩
theorem line_len (h:t.Ok) (c:UInt8):(t.rd.byte c).line.length≤4096:=by
 have h1:=(h.rd.byte c).len;have h2:=(h.rd.byte c).most;unfold Ln.M.line;split
 ·omega
 ·exact Nat.zero_le _
theorem T.Ok.inLine (h:t.Ok) (hb:b.right=true) (c:UInt8) (h0:(t.inLine p b c).1=.live t'):t'.Ok:=by
 unfold T.inLine at h0;obtain ⟨how,hh⟩:∃how,t.rd.clear.next c=how:=⟨_,rfl⟩;have hn:=Ln.M.next_is t.rd.clear c;have hk:=h.byteR c;simp only [hh] at h0 hn hk;by_cases e0:how=0
 ·rw [if_pos e0] at h0;cases h0;exact hk (by rw [e0];rfl)
 ·rw [if_neg e0] at h0;by_cases e3:how=3
  ·rw [if_pos e3] at h0;cases h0
  ·rw [if_neg e3] at h0;by_cases e4:how=4
   ·rw [if_pos e4] at h0;split at h0
    ·cases h0;exact ⟨Ln.M.new_ok _ _ _ (Ln.mid_le _),rfl,by show 1≤4∧4≤7;omega,h.hl,h.bl,h.fsl,h.tsl,h.fss,h.tss,h.m,h.x,h.body,fun hb=>(by cases hb),fun hle=>by have:4≤2:=hle;omega,h.size⟩
    ·cases h0
   ·rw [if_neg e4] at h0;have hf:Ln.failed how=false:=by rcases hn with e | e | e | e | e<;>first |(rw [e];rfl) | contradiction
    have hk1:=(hk hf).line (p:=p) hb (line_len h c);unfold ends at h0;split at h0
    ·rename_i hz;cases h0;exact hk1 hz
    ·cases h0
theorem T.Ok.counted (h:t.Ok) (hb:b.right=true) (hc:¬b.x2<(t.counted.size:Int)):t.counted.Ok:=by
 have e2:=(Bd.edges hb).2.2.1;have hs:t.counted.size≤65536:=by omega
 unfold T.counted at hs ⊢;split
 ·exact h
 ·rename_i hn;rw [if_neg hn] at hs;exact ⟨h.rd,h.nf,h.st,h.hl,h.bl,h.fsl,h.tsl,h.fss,h.tss,h.m,h.x,h.body,h.left,h.early,hs⟩
theorem counted_st (t:T):t.counted.st=t.st:=by unfold T.counted;split<;>rfl
theorem counted_rd (t:T):t.counted.rd=t.rd:=by unfold T.counted;split<;>rfl
theorem counted_out (t:T):t.counted.out=t.out:=by unfold T.counted;split<;>rfl
theorem T.Ok.keep (h:t.Ok) (hst:bodied t.st=true) (hl:t.left≠1) (c:UInt8):(t.keep c).Ok:=by have h1:=h.left hst;exact ⟨h.rd,h.nf,h.st,h.hl,h.bl,h.fsl,h.tsl,h.fss,h.tss,h.m,h.x,by have:=h.body;show (t.r.body ++ [c]).length+(t.left-1)≤_;rw [List.length_append,List.length_singleton];omega,fun _=>by show 1≤t.left-1;omega,fun hle=>by exfalso;have h2:t.st≤2:=hle;unfold bodied at hst;simp only [Bool.or_eq_true,beq_iff_eq] at hst;omega,h.size⟩
theorem T.Ok.endData (h:t.Ok) (hst:bodied t.st=true) (c:UInt8):((t.keep c).endData p).Ok:=by
 have h1:=h.left hst;unfold T.endData;split
 ·exact ⟨Ln.M.new_ok _ _ _ (Ln.mid_le _),rfl,by show 1≤6∧6≤7;omega,h.hl,h.bl,h.fsl,h.tsl,h.fss,h.tss,h.m,h.x,by have:=h.body;show (t.r.body ++ [c]).length+(t.left-1)≤_;rw [List.length_append,List.length_singleton];omega,fun hb=>(by cases hb),fun hle=>by have:6≤2:=hle;omega,h.size⟩
 ·exact ⟨h.rd,h.nf,⟨Nat.le_refl _,by show 1≤7;omega⟩,Nat.zero_le _,Nat.zero_le _,Nat.le_refl _,Nat.le_refl _,(by intro y hy;cases hy),(by intro y hy;cases hy),Nat.zero_le _,Nat.zero_le _,Nat.zero_le _,fun h=>(by cases h),fun _=>rfl,Nat.zero_le _⟩
theorem T.Ok.look (h:t.Ok) (hb:b.right=true) (c:UInt8) (h0:(t.look p b c).1=.live t'):t'.Ok:=by
 unfold T.look at h0;by_cases hd:bodied t.st=true
 ·rw [if_pos hd] at h0;cases h0;split
  ·exact h.endData hd c
  ·exact h.keep hd (by assumption) c
 ·rw [if_neg hd] at h0;split at h0
  ·split at h0
   ·cases h0
   ·exact (h.counted hb (by assumption)).inLine hb c h0
  ·exact h.inLine hb c h0
theorem line_keeps:((t.line p b s).2.rd=t.rd∨∃most,(t.line p b s).2.rd=Ln.M.of p most)∧(bodied t.st=false→(t.line p b s).1=0→(t.line p b s).2.st≠6):=by
 unfold T.line T.first T.fields T.endHead T.chunk T.trail;by_cases h1:t.st=1
 ·rw [if_pos h1];by_cases he:s= []
  ·rw [if_pos he];exact ⟨.inl rfl,fun _ _=>by show t.st≠6;omega⟩
  ·rw [if_neg he];dsimp only;split
   ·exact ⟨.inl rfl,fun _ _=>by show 2≠6;decide⟩
   ·exact ⟨.inl rfl,fun _ _=>by show t.st≠6;omega⟩
 ·rw [if_neg h1];by_cases h2:t.st=2
  ·rw [if_pos h2];by_cases he:s= []
   ·rw [if_pos he];dsimp only;split
    ·exact ⟨.inl rfl,fun _ _=>by show t.st≠6;omega⟩
    ·split
     ·exact ⟨.inl rfl,fun _ _=>by show 4≠6;decide⟩
     ·split
      ·exact ⟨.inl rfl,fun _ _=>by show 1≠6;decide⟩
      ·exact ⟨.inl rfl,fun _ _=>by show 3≠6;decide⟩
   ·rw [if_neg he];exact ⟨.inl rfl,fun _ _=>by show t.st≠6;omega⟩
  ·rw [if_neg h2];by_cases h4:t.st=4
   ·rw [if_pos h4];dsimp only;split
    ·exact ⟨.inl rfl,fun _ _=>by show t.st≠6;omega⟩
    ·split
     ·exact ⟨.inl rfl,fun _ _=>by show 7≠6;decide⟩
     ·split
      ·exact ⟨.inl rfl,fun _ _=>by show t.st≠6;omega⟩
      ·exact ⟨.inl rfl,fun _ _=>by show 5≠6;decide⟩
   ·rw [if_neg h4];by_cases h7:t.st=7
    ·rw [if_pos h7];by_cases he:s= []
     ·rw [if_pos he];exact ⟨.inl rfl,fun _ _=>by show 1≠6;decide⟩
     ·rw [if_neg he];exact ⟨.inl rfl,fun _ _=>by show t.st≠6;omega⟩
    ·rw [if_neg h7];exact ⟨.inr ⟨_,rfl⟩,fun _ _=>by show 4≠6;decide⟩
theorem inLine_again (hst:bodied t.st=false) (c:UInt8) (h0:t.inLine p b c=(.live t',false)):t'.rd.pend=false∧t'.st≠6:=by
 unfold T.inLine at h0;obtain ⟨how,hh⟩:∃how,t.rd.clear.next c=how:=⟨_,rfl⟩;simp only [hh] at h0;by_cases e0:how=0
 ·rw [if_pos e0] at h0;cases h0
 ·rw [if_neg e0] at h0;by_cases e3:how=3
  ·rw [if_pos e3] at h0;cases h0
  ·rw [if_neg e3] at h0;by_cases e4:how=4
   ·rw [if_pos e4] at h0;split at h0
    ·cases h0;exact ⟨rfl,by show 4≠6;decide⟩
    ·cases h0
   ·rw [if_neg e4] at h0;obtain ⟨h1,h2⟩:=Prod.mk.inj h0;unfold ends at h1;split at h1
    ·rename_i hz;cases h1
     obtain ⟨k1,k2⟩:=line_keeps (p:=p) (b:=b) (t:={t with rd:=t.rd.byte c}) (s:=(t.rd.byte c).line);refine ⟨?_,k2 hst hz⟩;have hpd:(t.rd.byte c).pend=false:=by show (t.rd.clear.next c==0&&c==13)=false;rw [hh,beq_eq_false_iff_ne.2 e0];rfl
     rcases k1 with k | ⟨most,k⟩
     ·rw [k];exact hpd
     ·rw [k];rfl
    ·cases h1
theorem T.Ok.cleared (h:t.Ok):({t with cnt:=false}:T).Ok:=⟨h.rd,h.nf,h.st,h.hl,h.bl,h.fsl,h.tsl,h.fss,h.tss,h.m,h.x,h.body,h.left,h.early,h.size⟩
theorem T.Ok.take (h:t.Ok) (hb:b.right=true) (c:UInt8) (h0:t.take p b c=.live t'):t'.Ok:=by
 unfold T.take at h0;rcases hx:({t with cnt:=false}:T).look p b c with ⟨t1 | ⟨e,o⟩,u⟩
 ·have h1:t1.Ok:=h.cleared.look hb c (by rw [hx]);rw [hx] at h0;cases u with
  | true=>cases h0;exact h1
  | false=>exact h1.look hb c h0
 ·rw [hx] at h0;cases u<;>cases h0
end
end Go.Proofs.YtimoakmcelocfaaGreat.Pg
namespace Go.Proofs.YtimoakmcelocfaaGreat.Each
open Go.RowKit Base
def goodF (l:List Oper) (m:Nat) (ds:List Nat) (lm:List Bool) (r:Nat) (f:Option Nat:=none):Bool:=
 decide (m≤l.length)&&(decide ((l.take m).map (·.dst)=ds.map some)&&(decide ds.Nodup &&
 ((List.range l.length).all (fun k=>match l[k]? with
   | some o=>o.after.toList.all fun e=>!Region.binds .any e|| (decide (e.on<k)&&(lm.getD k false||decide (m≤k) || !lm.getD e.on false))
   | none=>true) &&
 ((List.range l.length).all (fun i=>(decide (i<m) && !lm.getD i false)|| (List.range m).all fun k=>lm.getD k false|| (decide (f=some k)|| (marks l l.length ((Array.replicate l.length false).setIfInBounds i true)).getD k false)) &&
 decide ((List.range m).countP (fun k=>!lm.getD k false)+r≤l.length)))))
def floats (m:Nat) (lm:List Bool):Option Nat→Bool
 | none=>true
 | some k=>decide (k<m) && !lm.getD k false
section
variable {P:Program} {l:List Oper} {Q:Exit→Act→World→Prop} {fs:List Fact} {W:World} {a0:Act} {m:Nat} {ds:List Nat} {lm:List Bool} {r:Nat} {fl:Option Nat}
theorem all_float (hm:m≤l.length) (hdst:(l.take m).map (·.dst)=ds.map some) (hnd:ds.Nodup) (hsz:∀d∈ds,d<a0.tmps.size) (hlen:fs.length=m)
 (hlast:∀f∈fs,Lasts f) (hidle:∀(k:Nat) (f:Fact),fs[k]?=some f→lm.getD k false=true→∀v w,f v w)
 (hfine:∀(k:Nat) (o:Oper) (f:Fact),l[k]?=some o→fs[k]?=some f→lm.getD k false=false→Fine P l fs W a0 ds o f)
 (hback:∀(k:Nat) (o:Oper),l[k]?=some o→∀e∈o.after.toList,Region.binds .any e=true→e.on<k)
 (hfree:∀(k:Nat) (o:Oper),l[k]?=some o→k<m→lm.getD k false=false→∀e∈o.after.toList,Region.binds .any e=true→lm.getD e.on false=false)
 (hcov:∀i,i<l.length→m≤i∨lm.getD i false=true→∀k,k<m→lm.getD k false=false→fl≠some k→(marks l l.length ((Array.replicate l.length false).setIfInBounds i true)).getD k false=true)
 (hfl:∀k,fl=some k→k<m∧lm.getD k false=false)
 (hrest:∀(g:Nat→Value) (w:World),Below W.heap.size W w→facts g w ds fs→wpAnyH P .any l.toArray Q (fun _=>True) r (fill l.length m lm) (putg g ds a0) w)
 (hrest0:∀k0,fl=some k0→∀(g:Nat→Value) (w:World),Below W.heap.size W w→facts g w ds (fs.set k0 fun _ _=>True)→wpAnyH P .any l.toArray Q (fun _=>True) (r+1) ((fill l.length m lm).setIfInBounds k0 false) (putg g ds a0) w) :
 ∀(n:Nat) (b:Array Bool) (a:Act) (w:World),Inv l fs (fun _ w'=>Below W.heap.size W w') a0 m ds lm b a w→(List.range m).countP (fun k=>!b.getD k false && !lm.getD k false)+r≤n→wpAnyH P .any l.toArray Q (fun _=>True) n b a w:=by
 have base:∀(b:Array Bool) (a:Act) (w:World),Inv l fs (fun _ w'=>Below W.heap.size W w') a0 m ds lm b a w→(∀k,k<m→lm.getD k false=false→fl≠some k→b.getD k false=true)→
  ∃q,(q=r∨(q=r+1∧0<(List.range m).countP (fun k=>!b.getD k false && !lm.getD k false)))∧wpAnyH P .any l.toArray Q (fun _=>True) q b a w:=by
  intro b a w hI hall;rcases Classical.em (∃k0,fl=some k0∧b.getD k0 false=false) with ⟨k0,hk0,hbk0⟩ | hno
  ·obtain ⟨hkm,hkl⟩:=hfl k0 hk0
   have hall':∀k,k<m→lm.getD k false=false→¬k=k0→b.getD k false=true:=fun k h1 h2 h3=>hall k h1 h2 (fun e=>h3 (by rw [hk0] at e;exact (Option.some.inj e).symm));refine ⟨r+1,.inr ⟨rfl,?_⟩,?_⟩
   ·rw [List.countP_pos_iff];exact ⟨k0,by simpa using hkm,by rw [hbk0,hkl];rfl⟩
   have hb:b=(fill l.length m lm).setIfInBounds k0 false:=by
    refine Array.ext (by simp [fill,hI.bsize]) fun i h1 h2=>?_;have e:b.getD i false=b[i]:=by simp [Array.getD_eq_getD_getElem?,h1]
    rw [←e,Array.getElem_setIfInBounds (by simpa using h2)];by_cases hik:k0=i
    ·rw [if_pos hik,←hik,hbk0]
    ·rw [if_neg hik];have e2:∀h,(fill l.length m lm)[i]'h=(decide (i<m) && !lm.getD i false):=by intro h;simp [fill]
     rw [e2];rcases Nat.lt_or_ge i m with hi | hi
     ·cases hl:lm.getD i false with
      | true=>rw [hI.rest i (.inr hl)];simp
      | false=>rw [hall' i hi hl (fun e=>hik e.symm)];simp [hi]
     ·rw [hI.rest i (.inl hi)];simp [show¬i<m by omega]
   have:=hrest0 k0 hk0 _ w hI.bel (facts_of (fun d=>a.eval (.tmp d)) ds (fs.set k0 fun _ _=>True) fun k d f hd hf=>by
    by_cases hkk:k0=k
    ·subst hkk;have:k0<fs.length:=by rw [hlen];exact hkm
     rw [List.getElem?_set_self this] at hf;obtain rfl:=Option.some.inj hf
     trivial
    ·rw [List.getElem?_set_ne hkk] at hf;cases hl:lm.getD k false with
     | true=>exact hidle k f hf hl _ _
     | false=>exact hI.fact k d f hd hf (hall' k (by have:=(List.getElem?_eq_some_iff.1 hf).1;omega) hl (fun e=>hkk e.symm)))
   rw [←act_of hI,←hb] at this;exact this
  ·have hall':∀k,k<m→lm.getD k false=false→b.getD k false=true:=fun k h1 h2=>by
    rcases Classical.em (fl=some k) with h | h
    ·cases hb:b.getD k false with
     | true=>rfl
     | false=>exact absurd ⟨k,h,hb⟩ hno
    ·exact hall k h1 h2 h
   refine ⟨r,.inl rfl,?_⟩;have hb:b=fill l.length m lm:=by
    refine Array.ext (by simp [fill,hI.bsize]) fun i h1 h2=>?_;have e:b.getD i false=b[i]:=by simp [Array.getD_eq_getD_getElem?,h1]
    rw [←e];have e2:(fill l.length m lm)[i]=(decide (i<m) && !lm.getD i false):=by simp [fill]
    rw [e2];rcases Nat.lt_or_ge i m with hi | hi
    ·cases hl:lm.getD i false with
     | true=>rw [hI.rest i (.inr hl)];simp
     | false=>rw [hall' i hi hl];simp [hi]
    ·rw [hI.rest i (.inl hi)];simp [show¬i<m by omega]
   have:=hrest _ w hI.bel (facts_of (fun d=>a.eval (.tmp d)) ds fs fun k d f hd hf=>by
    cases hl:lm.getD k false with
    | true=>exact hidle k f hf hl _ _
    | false=>exact hI.fact k d f hd hf (hall' k (by have:=(List.getElem?_eq_some_iff.1 hf).1;omega) hl))
   rw [←act_of hI,←hb] at this;exact this
 intro n
 induction n with
 | zero=>
   intro b a w hI hn;have hc:(List.range m).countP (fun k=>!b.getD k false && !lm.getD k false)=0:=by omega
   obtain ⟨q,hq,h⟩:=base b a w hI (fun k hk hl _=>by have:=List.countP_eq_zero.1 hc k (by simpa using hk);rw [hl] at this;simpa using this)
   rw [show q=0 by omega] at h;exact h
 | succ n ih=>
   intro b a w hI hn;by_cases hc:∀k,k<m→lm.getD k false=false→fl≠some k→b.getD k false=true
   ·obtain ⟨q,hq,h⟩:=base b a w hI hc;have h2:=wpAnyH_up q (n+1-q) _ _ _ h;rw [show q+(n+1-q)=n+1 by omega] at h2;exact h2
   ·
    have hex:∃k,k<m∧lm.getD k false=false∧fl≠some k∧b.getD k false=false:=by
     rcases Classical.em (∃k,k<m∧lm.getD k false=false∧fl≠some k∧b.getD k false=false) with h | h
     ·exact h
     ·refine absurd (fun k hk hl hf=>?_) hc;cases hb:b.getD k false with
      | true=>rfl
      | false=>exact absurd ⟨k,hk,hl,hf,hb⟩ h
    have hin:∀i∈Region.ready .any l.toArray b,i<m∧lm.getD i false=false:=by
     intro i hi;obtain ⟨hun,o,ho,hal⟩:=mem_ready.1 hi;have ho':l[i]?=some o:=by simpa using ho
     have hil:i<l.length:=(List.getElem?_eq_some_iff.1 ho').1;have key:m≤i∨lm.getD i false=true→False:=by
      intro h;obtain ⟨k,hk,hlk,hfk,hbk⟩:=hex;have hmk:=hcov i hil h k hk hlk hfk
      have:=marks_sub b hI.down l.length i _ (fun k hk=>(get_set_sub _ _ _ hk).imp_right fun h=>by
       rw [Array.getD_eq_getD_getElem?] at h;rcases Nat.lt_or_ge k l.length with hkl | hkl
       ·simp [hkl] at h
       ·simp [hkl] at h) (fun o2 ho2 e he hb=>by
        obtain rfl:o=o2:=by rw [ho'] at ho2;exact Option.some.inj ho2
        exact hal e (by simpa using he) hb) k hmk
      rcases this with h' | h'
      ·subst h';rcases h with h | h
       ·omega
       ·rw [hlk] at h;cases h
      ·rw [hbk] at h';cases h'
     refine ⟨?_,?_⟩
     ·rcases Nat.lt_or_ge i m with h | h
      ·exact h
      ·exact absurd (.inl h) key
     ·cases h:lm.getD i false with
      | false=>rfl
      | true=>exact absurd (.inr h) key
    have hne:Region.ready .any l.toArray b≠ []:=by
     have:∀k,k<m→lm.getD k false=false→b.getD k false=false→∃i,i∈Region.ready .any l.toArray b:=by
      intro k
      induction k using Nat.strongRecOn with
      | _ k ihk=>
        intro hk hlk hbk;have hkl:k<l.length:=by omega
        rcases Classical.em (∃e∈(l[k]).after.toList,Region.binds .any e=true∧b.getD e.on false=false) with h | h
        ·obtain ⟨e,he,hb,hbe⟩:=h;have:=hback k _ (List.getElem?_eq_getElem hkl) e he hb;exact ihk e.on this (by omega) (hfree k _ (List.getElem?_eq_getElem hkl) hk hlk e he hb) hbe
        ·refine ⟨k,mem_ready.2 ⟨?_,l[k],by simp [hkl],fun e he hb=>?_⟩⟩
         ·have:k<b.size:=by rw [hI.bsize];exact hkl
          rw [Array.getD_eq_getD_getElem?] at hbk ⊢;simpa [this] using hbk
         ·cases hbe:b.getD e.on false with
          | true=>rfl
          | false=>exact absurd ⟨e,by simpa using he,hb,hbe⟩ h
     obtain ⟨k,hk,hlk,_,hbk⟩:=hex;obtain ⟨i,hi⟩:=this k hk hlk hbk;intro h0;rw [h0] at hi;cases hi
    refine wpAnyH_all rfl hne ?_;intro i hi;obtain ⟨him,hil⟩:=hin i hi
    refine wpOp_mono (fun a' w' h'=>⟨trivial,ih _ a' w' h' ?_⟩) (step (R:=fun _ w w'=>Below w.heap.size w w') hm hdst hnd hsz hlen (fun _ _ _ _ _ _ h h'=>h.trans (h'.mono h.size)) (fun _ _=>Below.refl _ _) (fun _ _ f hf _ _=>hlast f (List.mem_of_getElem? hf))
     (fun k o f ho hf hl ev _ w' h1 h2 _ h4=>⟨fun hw=>((hfine k o f ho hf hl ev w' h1 h2 h4).1 hw).gen fun _ h=>h,(hfine k o f ho hf hl ev w' h1 h2 h4).2⟩) hI him hil hi)
    obtain ⟨hun,o,ho,hal⟩:=mem_ready.1 hi;have hbi:i<b.size:=by rw [hI.bsize];omega
    have hun':b.getD i false=false:=by rw [Array.getD_eq_getD_getElem?] at hun ⊢;simpa [hbi] using hun
    have e:(List.range m).countP (fun k=>!(b.setIfInBounds i true).getD k false && !lm.getD k false)=(List.range m).countP (fun k=>(!b.getD k false && !lm.getD k false) && !(k==i)):=by
     refine List.countP_congr fun k _=>?_;rw [get_set b i k hbi];by_cases h:k=i
     ·simp [h]
     ·simp [h]
    have:=count_less (fun k=>!b.getD k false && !lm.getD k false) i (by rw [hun',hil];rfl) (List.range m) (by simpa using him);rw [e];omega
theorem region_float (m:Nat) (ds:List Nat) (fs:List Fact) (lm:List Bool) (r:Nat) (fl:Option Nat) (p p0:Tree.Plan) {id:Nat} {a0:Act} {w:World} (hmo:P.follows .mixedOrders=true) (hg:goodF l m ds lm r fl=true) (hns:Region.noSelect l.toArray=true)
 (hp:Tree.fits l.toArray p r (fill l.length m lm)=true) (hp0:∀k0,fl=some k0→Tree.fits l.toArray p0 (r+1) ((fill l.length m lm).setIfInBounds k0 false)=true) (hQ:∀c a d v w,Q (.panic c) (Act.put a d v) w→Q (.panic c) a w)
 (hsz:ds.all (fun d=>decide (d<a0.tmps.size))=true) (hlen:fs.length=m) (hlast:Every fs) (hidle:Idle lm fs) (hfloat:floats m lm fl=true) (hfine:All P l fs (w.drewN 1) a0 ds lm l fs)
 (hrest:∀(g:Nat→Value) (w':World),Below w.heap.size w w'→facts g w' ds fs→Tree.Step P l.toArray Q (fun _=>True) (Tree.grow l p) (putg g ds a0) w')
 (hrest0:∀k0,fl=some k0→∀(g:Nat→Value) (w':World),Below w.heap.size w w'→facts g w' ds (fs.set k0 fun _ _=>True)→Tree.Step P l.toArray Q (fun _=>True) (Tree.grow l p0) (putg g ds a0) w'):(Code.region id l.toArray true).wp P Q a0 w:=by
 simp only [goodF,Bool.and_eq_true,List.all_eq_true,decide_eq_true_eq,List.mem_range,Bool.or_eq_true] at hg;obtain ⟨h1,h2,h3,h4,h5,h6⟩:=hg;refine wp_region_held (S:=fun _=>True) hmo ?_;have hb4:∀(k:Nat) (o:Oper),l[k]?=some o→∀e∈o.after.toList,Region.binds .any e=true→e.on<k∧(k<m→lm.getD k false=false→lm.getD e.on false=false):=by
  intro k o hk e he hb;have:=h4 k (List.getElem?_eq_some_iff.1 hk).1;rw [hk] at this;simp only [List.all_eq_true,Bool.or_eq_true,Bool.and_eq_true,Bool.not_eq_true',decide_eq_true_eq] at this;rcases this e he with h | ⟨h,h'⟩
  ·rw [hb] at h;cases h
  ·refine ⟨h,fun hk hl=>?_⟩;rcases h' with (h' | h') | h'
   ·rw [hl] at h';cases h'
   ·omega
   ·exact h'
 have hcov:∀i,i<l.length→m≤i∨lm.getD i false=true→∀k,k<m→lm.getD k false=false→fl≠some k→(marks l l.length ((Array.replicate l.length false).setIfInBounds i true)).getD k false=true:=by
  intro i hi hmi k hk hl hf;rcases h5 i hi with ⟨h,h'⟩ | h
  ·rcases hmi with hmi | hmi
   ·omega
   ·rw [hmi] at h';cases h'
  ·rcases h k hk with h | h | h
   ·rw [hl] at h;cases h
   ·exact absurd h hf
   ·exact h
 have hfl:∀k,fl=some k→k<m∧lm.getD k false=false:=by intro k hk;subst hk;simp only [floats,Bool.and_eq_true,decide_eq_true_eq,Bool.not_eq_true'] at hfloat;exact hfloat
 have hsz':∀d∈ds,d<a0.tmps.size:=by simpa using hsz
 have hI:Inv l fs (fun _ w'=>Below (w.drewN 1).heap.size (w.drewN 1) w') a0 m ds lm (Array.replicate l.length false) a0 (w.drewN 1):=by
  have hrep:∀k,(Array.replicate l.length false).getD k false=false:=fun k=>by rw [Array.getD_eq_getD_getElem?];rcases Nat.lt_or_ge k l.length with h | h<;>simp [h]
  refine ⟨Below.refl _ _,rfl,rfl,fun _ _=>rfl,fun k d f _ _ h=>?_,fun k o _ h=>?_,by simp,fun k _=>hrep k⟩
  ·rw [hrep] at h;cases h
  ·rw [hrep] at h;cases h
 have:=all_float (P:=P) (Q:=Q) (r:=r) (fl:=fl) h1 h2 h3 hsz' hlen (every_at hlast) (idle_at hidle) (fun k o f ho hf hl=>all_at hfine k o f ho hf hl) (fun k o hk e he hb=>(hb4 k o hk e he hb).1)
  (fun k o hk hkm hl e he hb=>(hb4 k o hk e he hb).2 hkm hl) hcov hfl
  (fun g w' hb hf=>Tree.held_of_walk hns hQ p _ _ _ w' hp trivial (hrest g w' ((Base.below_drewN (Below.refl w.heap.size w) 1).trans hb) hf).out)
  (fun k0 hk0 g w' hb hf=>Tree.held_of_walk hns hQ p0 _ _ _ w' (hp0 k0 hk0) trivial (hrest0 k0 hk0 g w' ((Base.below_drewN (Below.refl w.heap.size w) 1).trans hb) hf).out) l.length _ a0 (w.drewN 1) hI (by
    have:(List.range m).countP (fun k=>!(Array.replicate l.length false).getD k false && !lm.getD k false)≤(List.range m).countP (fun k=>!lm.getD k false):=
     List.countP_mono_left fun k _ hk=>by simp at hk;simpa using hk.2
    omega)
 simpa [World.drewN] using this
end
section run
variable {P:Program} {o:Oper}
theorem exec_append {ev:Operand→Value} {w w':World} {v u v':Value} (s x:Operand) (t:TypeId) (ho:o.op=.call {callee:=.builtin .append,args:=#[s,x],argTypes:=#[t,t]}) (hs:ev s=v) (hx:ev x=u)
 (hr:(Builtin.append_ #[t,t] o.type #[v,u]).run P w=.ok v' w'):(execOp ev o).run P w=.ok (.value v') w':=by
 unfold execOp;simp only [ho,resolve,invoke,builtin,Sem.run_bind,Sem.run_pure,Result.andThen_ok,List.map_toArray,List.map_cons,List.map_nil,hs,hx,hr]
theorem oper_append {a:Act} {w w':World} {K:Act→World→Prop} {Q:Exit→Act→World→Prop} {v u v':Value} (s x:Operand) (t:TypeId) (ho:o.op=.call {callee:=.builtin .append,args:=#[s,x],argTypes:=#[t,t]}) (hs:a.eval s=v) (hx:a.eval x=u)
 (hr:(Builtin.append_ #[t,t] o.type #[v,u]).run P w=.ok v' w') (h:K (a.put o.dst v') w'):o.wp P a w K Q:=by
 unfold Oper.wp;rw [exec_append s x t ho hs hx hr,Oper.upon_value];exact h
theorem oper_enter {a:Act} {w:World} {K:Act→World→Prop} {Q:Exit→Act→World→Prop} {g:FuncId} {args:Array Value} (h:(execOp a.eval o).run P w=.ok (.enter g args) w) (hc:Calls P g args w fun e w'=>∃v,e=.returned v∧K (a.put o.dst v) w'):o.wp P a w K Q:=by unfold Oper.wp;rw [h,Oper.upon_enter];refine hc.mono ?_;rintro e w' ⟨v,rfl,hk⟩;exact hk
end run
end Go.Proofs.YtimoakmcelocfaaGreat.Each
namespace Go.Proofs.YtimoakmcelocfaaGreat.Pg
open Go.RowKit Base Txt Mem Par
abbrev nil:Value:=.slice none 0 0
structure Cs (w:World) (g:Nat) (p:Nat) (b:Bd) (s:T) (q:Nat) (f bd t o:Value):Prop where
 c0:w.cell? ⟨g,0,none⟩=some (.int .i64 0)
 c1:w.cell? ⟨g,1,none⟩=some (.int .i64 (s.hl:Int))
 c2:w.cell? ⟨g,2,none⟩=some (f)
 c3:w.cell? ⟨g,3,none⟩=some (.string s.r.m)
 c4:w.cell? ⟨g,4,none⟩=some (.string s.r.x)
 c5:w.cell? ⟨g,5,none⟩=some (.int .i64 s.r.k)
 c6:w.cell? ⟨g,6,none⟩=some (.int .i64 (s.size:Int))
 c7:w.cell? ⟨g,7,none⟩=some (.bool s.cnt)
 c8:w.cell? ⟨g,8,none⟩=some (.int .i64 (s.bl:Int))
 c9:w.cell? ⟨g,9,none⟩=some (t)
 c10:w.cell? ⟨g,10,none⟩=some (.bool s.r.ch)
 c11:w.cell? ⟨g,11,none⟩=some (bd)
 c12:w.cell? ⟨g,12,none⟩=some (.int .i64 (s.left:Int))
 c13:w.cell? ⟨g,13,none⟩=some (.int .u32 (p:Int))
 c14:w.cell? ⟨g,14,none⟩=some (.int .i64 b.x0)
 c15:w.cell? ⟨g,15,none⟩=some (.int .i64 b.x1)
 c16:w.cell? ⟨g,16,none⟩=some (.int .i64 b.x2)
 c17:w.cell? ⟨g,17,none⟩=some (.int .i64 b.x3)
 c18:w.cell? ⟨g,18,none⟩=some (.int .i64 b.x4)
 c19:w.cell? ⟨g,19,none⟩=some (.int .i64 b.x5)
 c20:w.cell? ⟨g,20,none⟩=some (.int .i64 b.x6)
 c21:w.cell? ⟨g,21,none⟩=some (.int .i64 b.x7)
 c22:w.cell? ⟨g,22,none⟩=some (.bool b.ch)
 c23:w.cell? ⟨g,23,none⟩=some (.bool b.od)
 c24:w.cell? ⟨g,24,none⟩=some (.int .i64 (s.st:Int))
 c25:w.cell? ⟨g,25,none⟩=some (ptr q)
 c26:w.cell? ⟨g,26,none⟩=some (o)
abbrev deadcells (e:Nat) (o:Value):List Value:= [.int .i64 (e:Int),.int .i64 0,nil,.string E0,.string E0,.int .i64 0,.int .i64 0,.bool false,.int .i64 0,nil,.bool false,nil,.int .i64 0,.int .u32 0,.int .i64 0,.int .i64 0,.int .i64 0,.int .i64 0,.int .i64 0,.int .i64 0,.int .i64 0,.int .i64 0,.bool false,.bool false,.int .i64 0,.pointer none,o]
section code
set_option maxHeartbeats 4000000
set_option maxRecDepth 20000
attribute [local go_sem] Base.some_undef
variable {w:World} {B:Zone} {g q:Nat} {v f bd t o:Value} {p:Nat} {b:Bd} {s:T}
end code
end Go.Proofs.YtimoakmcelocfaaGreat.Pg
namespace Go.Proofs.YtimoakmcelocfaaGreat.Pg
open Go.RowKit Base Txt Mem Par
theorem Outs.less {L L':List (Option Nat)} {B:Zone} {w:World} {o:Value} {out:List Rec.R} (h:Outs L B w o out) (hs:∀k,some k∈L'→some k∈L∨w.heap.size≤k):Outs L' B w o out:=by obtain ⟨ps,h1,h2,h3⟩:=h;exact ⟨ps,h1,fun x hx=>⟨(h2 x hx).1,(h2 x hx).2.of hs⟩,h3⟩
theorem record_info:(Tryz.prog.info? 57).map (fun i=>(i.zero,i.size,i.bytes))=some (some (.agg #[.string ByteArray.empty,.string ByteArray.empty,.int .i64 0,.slice none 0 0,.bool false,.slice none 0 0,.slice none 0 0]),7,120):=by kernel_rfl
section code
set_option maxHeartbeats 4000000
set_option maxRecDepth 20000
attribute [local go_sem] Base.some_undef
variable {w:World} {B:Zone} {g q:Nat} {v f bd t o:Value} {p:Nat} {b:Bd} {s:T}
end code
end Go.Proofs.YtimoakmcelocfaaGreat.Pg
namespace Go.Proofs.YtimoakmcelocfaaGreat.Pg
open Go.RowKit Base Txt Mem Par
section code
set_option maxHeartbeats 4000000
set_option maxRecDepth 20000
attribute [local go_sem] Base.some_undef
variable {w:World} {B:Zone} {g q:Nat} {v f bd t o:Value} {p:Nat} {b:Bd} {s:T}
end code
end Go.Proofs.YtimoakmcelocfaaGreat.Pg
namespace Go.Proofs.YtimoakmcelocfaaGreat.Pg
open Go.RowKit Base Txt Mem Par
section code
set_option maxHeartbeats 4000000
set_option maxRecDepth 20000
attribute [local go_sem] Base.some_undef
variable {w:World} {B:Zone} {g q:Nat} {v f bd t o:Value} {p:Nat} {b:Bd} {s:T}
end code
end Go.Proofs.YtimoakmcelocfaaGreat.Pg
namespace Go.Proofs.YtimoakmcelocfaaGreat.Pg
open Go.RowKit Base Txt Mem Par
section
variable {w w':World} {B:Zone} {g q:Nat} {v f bd t o:Value} {p:Nat} {rd:Ln.M} {fs ts:List Fld} {body:List UInt8} {out:List Rec.R}
end
section code
set_option maxHeartbeats 4000000
set_option maxRecDepth 20000
attribute [local go_sem] Base.some_undef
variable {w:World} {B:Zone} {g q:Nat} {v f bd t o:Value} {p:Nat} {b:Bd} {s:T}
end code
end Go.Proofs.YtimoakmcelocfaaGreat.Pg
namespace Go.Proofs.YtimoakmcelocfaaGreat.Pg
open Go.RowKit Base Txt Par
section
variable {p:Nat} {b:Bd} {t t':T}
theorem feed_cons (x:Q) (c:UInt8) (l:List UInt8):x.feed p b (c::l)=(x.byte p b c).feed p b l:=rfl
def T.room (b:Bd) (t:T) (n:Nat):Prop:=headed t.st=true→((t.size+n:Nat):Int)≤b.x2
structure T.Open (t:T):Prop where
 st:bodied t.st=false
 pend:t.rd.pend=false
 nf:Ln.failed t.rd.last=false
def T.went (t:T) (rd:Ln.M) (n:Nat):T:={t with rd:=rd,size:=if headed t.st=true then t.size+n else t.size,cnt:=headed t.st}
end
end Go.Proofs.YtimoakmcelocfaaGreat.Pg
namespace Go.Proofs.YtimoakmcelocfaaGreat.Pg
open Go.RowKit Base Txt Mem Par
def Q.Ok (b:Bd):Q→Prop
 | .live t=>t.Ok∧b.right=true
 | .dead _ _=>True
section
variable {p:Nat} {b:Bd} {t t':T} {s:List UInt8}
theorem line_out (t:T) (s:List UInt8):(t.line p b s).2.out.length≤t.out.length+1:=by
 have hf:t.fin.out.length≤t.out.length+1:=by show (t.out ++ [t.r]).length≤_;simp
 unfold T.line T.first T.fields T.endHead T.chunk T.trail;split
 ·split
  ·exact Nat.le_succ _
  ·dsimp only;split<;>exact Nat.le_succ _
 ·split
  ·split
   ·dsimp only;split
    ·exact Nat.le_succ _
    ·split
     ·exact Nat.le_succ _
     ·split
      ·exact hf
      ·exact Nat.le_succ _
   ·exact Nat.le_succ _
  ·split
   ·dsimp only;split
    ·exact Nat.le_succ _
    ·split
     ·exact Nat.le_succ _
     ·split<;>exact Nat.le_succ _
   ·split
    ·split
     ·exact hf
     ·exact Nat.le_succ _
    ·exact Nat.le_succ _
theorem inLine_out (t:T) (c:UInt8):(t.inLine p b c).1.out.length≤t.out.length+1:=by
 unfold T.inLine;dsimp only;split
 ·exact Nat.le_succ _
 ·split
  ·exact Nat.le_succ _
  ·split
   ·split<;>exact Nat.le_succ _
   ·have h:=line_out (p:=p) (b:=b) {t with rd:=t.rd.byte c} (t.rd.byte c).line;unfold ends;split<;>exact h
theorem look_out (t:T) (c:UInt8):(t.look p b c).1.out.length≤t.out.length+1:=by
 unfold T.look;split
 ·split
  ·show (T.endData p (t.keep c)).out.length≤_;unfold T.endData;split
   ·exact Nat.le_succ _
   ·show (t.out ++ [_]).length≤_;simp
  ·exact Nat.le_succ _
 ·split
  ·split
   ·exact Nat.le_succ _
   ·have h:=inLine_out (p:=p) (b:=b) t.counted c;rw [counted_out] at h;exact h
  ·exact inLine_out t c
theorem take_out (t:T) (c:UInt8):(t.take p b c).out.length≤t.out.length+2:=by
 have h:=look_out (p:=p) (b:=b) {t with cnt:=false} c;have e:({t with cnt:=false}:T).out=t.out:=rfl;rw [e] at h;unfold T.take;rcases hx:({t with cnt:=false}:T).look p b c with ⟨t1 | ⟨e,o⟩,u⟩
 ·rw [hx] at h;have h:t1.out.length≤t.out.length+1:=h;cases u with
  | true=>show t1.out.length≤_;omega
  | false=>
    have h2:=look_out (p:=p) (b:=b) t1 c;show (t1.look p b c).1.out.length≤_;omega
 ·rw [hx] at h;have h:o.length≤t.out.length+1:=h
  cases u<;> (show o.length≤_;omega)
theorem Q.byte_out (x:Q) (c:UInt8):(x.byte p b c).out.length≤x.out.length+2:=by
 cases x with
 | live t=>exact take_out t c
 | dead e o=>show o.length≤o.length+2;omega
theorem Q.feed_out:∀(l:List UInt8) (x:Q),(x.feed p b l).out.length≤x.out.length+2*l.length
 | [],_=>Nat.le_refl _
 | c::l,x=>by
   have h1:=Q.byte_out (p:=p) (b:=b) x c
   have h2:=Q.feed_out l (x.byte p b c);rw [feed_cons,List.length_cons];omega
end
structure Bts (L:List (Option Nat)) (w:World) (a:Option Addr) (l:List UInt8):Prop where
 nums:Nums .u8 w a l.length (l.map fun c=>(c.toNat:Int))
 far:∀ad,a=some ad→some ad.block∉L∧ad.block<w.heap.size
structure Parts (L:List (Option Nat)) (w:World) (a:Option Addr) (ls:List (List UInt8)):Prop where
 cells:0<ls.length→∃bk off,a=some ⟨bk,off,none⟩∧bk<w.heap.size∧some bk∉L∧∀k (hk:k<ls.length),∃ak ck,w.cell? ⟨bk,off+k,none⟩=some (.slice ak ls[k].length ck)∧Bts L w ak ls[k]
theorem Bts.step {L L':List (Option Nat)} {w w':World} {a:Option Addr} {l:List UInt8} (h:Bts L w a l) (hs:Step L L' w w'):Bts L' w' a l:=by
 refine ⟨nums_keeps h.nums hs.keeps (fun c=>?_),fun ad e=>⟨fun hm=>?_,Nat.lt_of_lt_of_le (h.far ad e).2 hs.keeps.size⟩⟩
 ·cases ha:a with
  | none=>exact .inl rfl
  | some ad=>exact .inr ⟨ad.block,rfl,(h.far ad ha).1⟩
 ·rcases hs.of _ hm with h1 | h1
  ·exact (h.far ad e).1 h1
  ·have:=(h.far ad e).2;omega
theorem Parts.step {L L':List (Option Nat)} {w w':World} {a:Option Addr} {ls:List (List UInt8)} (h:Parts L w a ls) (hs:Step L L' w w'):Parts L' w' a ls:=by
 refine ⟨fun h0=>?_⟩;obtain ⟨bk,off,e,hlt,hn,hc⟩:=h.cells h0;refine ⟨bk,off,e,Nat.lt_of_lt_of_le hlt hs.keeps.size,fun hm=>?_,fun k hk=>?_⟩
 ·rcases hs.of _ hm with h1 | h1
  ·exact hn h1
  ·omega
 ·obtain ⟨ak,ck,h1,h2⟩:=hc k hk;exact ⟨ak,ck,(hs.keeps.cell (p:=⟨bk,off+k,none⟩) hlt hn).trans h1,h2.step hs⟩
section code
set_option maxHeartbeats 4000000
set_option maxRecDepth 20000
attribute [local go_sem] Base.some_undef
variable {w:World} {B:Zone} {g q:Nat} {v f bd t o:Value} {p:Nat} {b:Bd} {s:T}
end code
end Go.Proofs.YtimoakmcelocfaaGreat.Pg
namespace Go.Proofs.YtimoakmcelocfaaGreat.Pg
open Go.RowKit Base Txt Mem Par
structure Told (L:List (Option Nat)) (B:Zone) (w:World) (o:Value) (out:List Rec.R):Prop where
 outs:Outs L B w o out
 far:∀k,o.ownBlock=some k→some k∉L∧k<w.heap.size
 off:∀k,o.ownBlock=some k→some k∉B.z
section code
set_option maxHeartbeats 4000000
set_option maxRecDepth 20000
attribute [local go_sem] Base.some_undef
variable {w:World} {B:Zone} {g q:Nat} {v f bd t o:Value} {p:Nat} {b:Bd} {s:T}
end code
end Go.Proofs.YtimoakmcelocfaaGreat.Pg
namespace Go.Proofs.YtimoakmcelocfaaGreat.Pg
open Go.RowKit Base Txt Mem Par
section code
set_option maxHeartbeats 4000000
set_option maxRecDepth 20000
attribute [local go_sem] Base.some_undef
variable {w:World} {B:Zone} {g q:Nat} {v f bd t o:Value} {p:Nat} {b:Bd} {s:T}
theorem T.new_ok (p:Nat) (b:Bd):(T.new p b).Ok:=
 ⟨Ln.M.new_ok _ _ _ (Ln.mid_le _),rfl,⟨Nat.le_refl _,by show 1≤7;omega⟩,Nat.zero_le _,Nat.zero_le _,Nat.le_refl _,Nat.le_refl _,(by intro y hy;cases hy),(by intro y hy;cases hy),Nat.zero_le _,Nat.zero_le _,Nat.zero_le _,fun h=>(by cases h),fun _=>rfl,Nat.zero_le _⟩
theorem Q.new_ok (p:Nat) (b:Bd):(Q.new p b).Ok b:=by
 unfold Q.new;split
 ·rename_i h;simp only [Bool.and_eq_true] at h;exact ⟨T.new_ok p b,h.1⟩
 ·trivial
end code
end Go.Proofs.YtimoakmcelocfaaGreat.Pg
namespace Go.Proofs.YtimoakmcelocfaaGreat.Pg
open Go.RowKit Base Txt Mem Par
theorem told_out (x:Q):x.told.out= []:=by cases x<;>rfl
theorem Parts.one {L:List (Option Nat)} {w:World} {a:Option Addr} {c:Nat} {l:List UInt8} (h:Bts L w a l) (hin:In w L) (ty:TypeId):Parts L (w.alloc (.cells #[.slice a l.length c] ty)) (some ⟨w.heap.size,0,none⟩) [l]:=by
 have hb:Below w.heap.size w (w.alloc (.cells #[.slice a l.length c] ty)):=(Below.refl _ _).alloc (Nat.le_refl _) _;refine ⟨fun _=>⟨w.heap.size,0,rfl,by simp,fun hm=>by have:=hin _ hm;omega,fun k hk=>?_⟩⟩;have hk:k<1:=hk;obtain rfl:k=0:=by omega
 refine ⟨a,c,?_,?_⟩
 ·have:=cell_of_row (w.alloc (.cells #[.slice a l.length c] ty)) w.heap.size 0 _ ty (0,0) (heap_alloc_new w _);exact this.trans rfl
 ·exact h.step (Step.of_below hb)
section code
set_option maxHeartbeats 4000000
set_option maxRecDepth 20000
attribute [local go_sem] Base.some_undef
variable {w:World} {B:Zone} {g q:Nat} {v f bd t o:Value} {p:Nat} {b:Bd} {s:T}
end code
theorem flat_at:∀(ps:List (Array Value × Rec.R)),(∀x∈ps,x.1.size=7)→∀k (hk:k<ps.length) j,j<7→(ps.flatMap (·.1.toList))[k*7+j]?=ps[k].1.toList[j]?
 | [],_,k,hk,_,_=>by cases hk
 | x::ps,h,0,_,j,hj=>by
   have hx:x.1.toList.length=7:=by simpa using h x (by simp)
   rw [List.flatMap_cons,List.getElem?_append_left (by omega),Nat.zero_mul,Nat.zero_add];rfl
 | x::ps,h,k+1,hk,j,hj=>by
   have hx:x.1.toList.length=7:=by simpa using h x (by simp)
   rw [List.flatMap_cons,List.getElem?_append_right (by omega),hx,show (k+1)*7+j-7=k*7+j by omega];exact flat_at ps (fun y hy=>h y (by simp [hy])) k (by simpa using hk) j hj
theorem Told.at {L:List (Option Nat)} {B:Zone} {w:World} {o:Value} {out:List Rec.R} (h:Told L B w o out):∃a c,o=.slice a out.length c∧(0<out.length→∃bk,a=some ⟨bk,0,none⟩∧bk<w.heap.size∧
 ∀k (hk:k<out.length),∃fa fc ba bc ta tc,Flds w fa out[k].fs.length out[k].fs∧Nums .u8 w ba out[k].body.length (out[k].body.map fun c=>(c.toNat:Int))∧Flds w ta out[k].ts.length out[k].ts∧
  w.cell? ⟨bk,k*7,none⟩=some (.string out[k].m)∧w.cell? ⟨bk,k*7+1,none⟩=some (.string out[k].x)∧w.cell? ⟨bk,k*7+2,none⟩=some (.int .i64 out[k].k)∧w.cell? ⟨bk,k*7+3,none⟩=some (.slice fa out[k].fs.length fc)∧
  w.cell? ⟨bk,k*7+4,none⟩=some (.bool out[k].ch)∧w.cell? ⟨bk,k*7+5,none⟩=some (.slice ba out[k].body.length bc)∧w.cell? ⟨bk,k*7+6,none⟩=some (.slice ta out[k].ts.length tc)):=by
 obtain ⟨ps,h1,h2,h3⟩:=h.outs;obtain ⟨a,c,e, -⟩:=Ln.own_slice h3;subst e;refine ⟨a,c,rfl,fun h0=>?_⟩;obtain ⟨bk,cf,hform, -,hlt⟩:=h3.form h0;simp only [Value.slice.injEq,true_and] at hform;obtain ⟨rfl,rfl⟩:=hform;refine ⟨bk,rfl,hlt,fun k hk=>?_⟩;have hkp:k<ps.length:=by rw [←h1,List.length_map] at hk;exact hk
 have hr:out[k]=ps[k].2:=by simp [←h1]
 obtain ⟨h7,hF⟩:=h2 ps[k] (List.getElem_mem hkp);obtain ⟨fa,fc,ba,bc,ta,tc,hV,f1,f2,f3⟩:=hF.reads;have hcs:ps[k].1= #[.string ps[k].2.m,.string ps[k].2.x,.int .i64 ps[k].2.k,.slice fa ps[k].2.fs.length fc,.bool ps[k].2.ch,.slice ba ps[k].2.body.length bc,.slice ta ps[k].2.ts.length tc]:=by injection hV
 have key:∀j,j<7→w.cell? ⟨bk,k*7+j,none⟩=ps[k].1.toList[j]?:=by
  intro j hj
  have hc:=h3.cellAt (k*7+j) (by omega);have e:(ps.flatMap (·.1.toList))[k*7+j]?=ps[k].1.toList[j]?:=flat_at ps (fun x hx=>(h2 x hx).1) k hkp j hj;exact hc.trans e
 rw [hr];rw [hcs] at key;exact ⟨fa,fc,ba,bc,ta,tc,f1,f2,f3,key 0 (by decide),key 1 (by decide),key 2 (by decide),key 3 (by decide),key 4 (by decide),key 5 (by decide),key 6 (by decide)⟩
end Go.Proofs.YtimoakmcelocfaaGreat.Pg
namespace Go.Proofs.YtimoakmcelocfaaGreat.Pg
open Go.RowKit Base Txt Mem Par
abbrev usual:Bd:=⟨1024,32,8192,65536,32,8,4,20,true,true⟩
abbrev bdV (b:Bd):Value:=.agg #[.int .i64 b.x0,.int .i64 b.x1,.int .i64 b.x2,.int .i64 b.x3,.int .i64 b.x4,.int .i64 b.x5,.int .i64 b.x6,.int .i64 b.x7,.bool b.ch,.bool b.od]
def RecAt (w:World) (bk j:Nat) (r:Rec.R):Prop:=∃fa fc ba bc ta tc,Flds w fa r.fs.length r.fs∧Nums .u8 w ba r.body.length (r.body.map fun c=>(c.toNat:Int))∧Flds w ta r.ts.length r.ts∧
 w.cell? ⟨bk,j,none⟩=some (.string r.m)∧w.cell? ⟨bk,j+1,none⟩=some (.string r.x)∧w.cell? ⟨bk,j+2,none⟩=some (.int .i64 r.k)∧w.cell? ⟨bk,j+3,none⟩=some (.slice fa r.fs.length fc)∧
 w.cell? ⟨bk,j+4,none⟩=some (.bool r.ch)∧w.cell? ⟨bk,j+5,none⟩=some (.slice ba r.body.length bc)∧w.cell? ⟨bk,j+6,none⟩=some (.slice ta r.ts.length tc)
def Said (w:World) (o:Value) (out:List Rec.R):Prop:=∃a c,o=.slice a out.length c∧(0<out.length→∃bk,a=some ⟨bk,0,none⟩∧bk<w.heap.size∧∀k (hk:k<out.length),RecAt w bk (k*7) out[k])
abbrev bytesV (l:List UInt8):Array Value:=(l.map fun c=>Value.int .u8 (c.toNat:Int)).toArray
theorem Bts.lit {L:List (Option Nat)} {w:World} (hin:In w L) (l:List UInt8) (V:Array Value) (hV:V=bytesV l) (ty:TypeId) (fr:Nat × Nat):Bts L (w.alloc (.cells V ty fr)) (some ⟨w.heap.size,0,none⟩) l:=by
 subst hV;refine ⟨⟨by simp,fun h0=>⟨w.heap.size,0,rfl,by simp,fun k hk=>?_⟩⟩,fun ad e=>?_⟩
 ·rw [Nat.zero_add,cell_of_row _ _ k _ ty fr (heap_alloc_new _ _)];simp [bytesV,hk]
 ·obtain rfl:ad=⟨w.heap.size,0,none⟩:=by simpa using e.symm
  exact ⟨fun hm=>by have:w.heap.size<w.heap.size:=hin _ hm;omega,by simp⟩
theorem Bts.alloc {L:List (Option Nat)} {w:World} {a:Option Addr} {l:List UInt8} (h:Bts L w a l) (o:Obj):Bts L (w.alloc o) a l:=h.step (Step.of_below ((Below.refl _ _).alloc (Nat.le_refl _) _))
theorem Bts.conv {L:List (Option Nat)} {w W:World} (hin:In w L) (s:ByteArray) (hb:By.Bytes W w.heap.size s.data.toList) (hlt:w.heap.size<W.heap.size):Bts L W (some ⟨w.heap.size,0,none⟩) s.data.toList:=by
 refine ⟨⟨by simp,fun h0=>⟨w.heap.size,0,rfl,hlt,fun k hk=>?_⟩⟩,fun ad e=>?_⟩
 ·rw [Nat.zero_add,(hb k hk).1,List.getElem?_map,List.getElem?_eq_getElem hk];rfl
 ·obtain rfl:ad=⟨w.heap.size,0,none⟩:=by simpa using e.symm
  exact ⟨fun hm=>by have:w.heap.size<w.heap.size:=hin _ hm;omega,hlt⟩
end Go.Proofs.YtimoakmcelocfaaGreat.Pg
namespace Go.Proofs.YtimoakmcelocfaaGreat.Rq
open Go.RowKit Base Txt Rec
section code
set_option maxHeartbeats 8000000
set_option maxRecDepth 20000
attribute [local go_sem] Base.some_undef
end code
end Go.Proofs.YtimoakmcelocfaaGreat.Rq
namespace Go.Proofs.YtimoakmcelocfaaGreat.Rq
open Go.RowKit Base Txt
section code
set_option maxHeartbeats 4000000
set_option maxRecDepth 20000
attribute [local go_sem] Base.some_undef
theorem conv_cap (s:ByteArray) (w:World):∃W cap,(convert 9 34 (.string s)).run Tryz.prog w=.ok (.slice (some ⟨w.heap.size,0,none⟩) s.size cap) W∧s.size≤cap∧By.Bytes W w.heap.size s.data.toList∧w.heap.size<W.heap.size∧Below w.heap.size w W:=by have hcv:=run_bytes_of_string (P:=Tryz.prog) w 9 34 5 s Tryz.underlying9 Tryz.underlying34 Tryz.underlying5;obtain ⟨W,cap,h1,h2,h3,h4⟩:=By.conv_bytes s w;have e:=h1.symm.trans hcv;simp only [Result.ok.injEq,Value.slice.injEq,true_and] at e;exact ⟨W,cap,h1,by rw [e.1];exact grownCap_ge _ _ _ _,h2,h3,h4⟩
end code
end Go.Proofs.YtimoakmcelocfaaGreat.Rq
namespace Go.Proofs.YtimoakmcelocfaaGreat.Wit
open Go.RowKit Base Txt Mem Par Each
def textOf (s:Option ByteArray) (ch ti:Bool):ByteArray:=match s with
 | some s=>s
 | none=>oldW ch ti
def W (c:Nat) (ch ti:Bool):ByteArray:=textOf (texts[c]?.getD none) ch ti
abbrev bndV (b:Bd):Value:=.agg #[.int .i64 b.x0,.int .i64 b.x1,.int .i64 b.x2,.int .i64 b.x3,.int .i64 b.x4,.int .i64 b.x5,.int .i64 b.x6,.int .i64 b.x7,.bool b.ch,.bool b.od]
def may (c:Int) (p:Nat) (b:Bd):Bool:=decide (p<1073741824)&&(b.right&&(Qk.has p c&&Qk.needs c p b.ch b.od))
theorem run_index_fn {P:Program} {t e:TypeId} {n:Nat} {cs:Array Value} {ti:TypeInfo} (h:P.underlying t=some (.array n e)) (hd:∀w:World,(isAgg e).run P w=.ok false w) (hi:P.info? e=some ti) (hs:P.cellsOf e=1)
 (k:IntKind) (i:Nat) (hlt:i<n) (v:Value) (hv:cs[i]?=some v) (w:World):(Instr.index t (.agg cs) (.int k i)).run P w=.ok v w:=by
 simp [Instr.index,run_underlying h,asIntOf,hlt,run_sizeOf w hi,hs,part,hd,hv,go_sem]
theorem bstep {B:Nat} {w w1 w2:World} (hB:w.heap.size=B) (h:Below B w w1) (hb:Below w1.heap.size w1 w2):Below B w w2:=h.trans (hb.mono (by have:=h.size;omega))
structure Said (w w':World) (v:Value) (S:ByteArray):Prop where
 v:∃(g c:Nat),v=.slice (some ⟨g,0,none⟩) S.size c∧S.size≤c∧Pg.Bts [] w' (some ⟨g,0,none⟩) S.data.toList∧w.heap.size≤g
section code
set_option maxHeartbeats 8000000
set_option maxRecDepth 20000
attribute [local go_sem] Base.some_undef
theorem of_any (c:Int) (p:Nat) (hp:p<4294967296) (b:Bd) (w:World):Calls Tryz.prog 29 #[.int .i64 c,.int .u32 (p:Int),bndV b] w fun e w'=>
 ∃v,e=.returned (.tuple #[v,.bool (may c p b)])∧Below w.heap.size w w'∧(if may c p b=true then Said w w' v (W c.toNat b.ch (Qk.has p 19)) else v=.slice none 0 0):=by
 have H1:=Lib.hid (fun w=>Qk.right_any p hp w)
 have H2:=Lib.hid (fun w=>show Calls Tryz.prog 41 #[bndV b] w fun e w'=>e=.returned (.bool b.right)∧Below w.heap.size w w' from Bnd.right_any b.x0 b.x1 b.x2 b.x3 b.x4 b.x5 b.x6 b.x7 b.ch b.od w)
 have H3:=Lib.hid (fun w=>Qk.has_any p hp c w)
 have H4:=Lib.hid (fun w=>show Calls Tryz.prog 31 #[.int .i64 c,.int .u32 (p:Int),bndV b] w fun e w'=>e=.returned (.bool (Qk.needs c p b.ch b.od))∧Below w.heap.size w w' from Qk.needs_any c p hp b.x0 b.x1 b.x2 b.x3 b.x4 b.x5 b.x6 b.x7 b.ch b.od w)
 have HK:Hid (Qk.has p c=true→0≤c∧c<30):=Lib.hid (fun h=>(Qk.known_iff c).1 (by unfold Qk.has at h;rw [Bool.and_eq_true] at h;exact h.1));unfold may;obtain ⟨a1,ha1⟩:∃a,decide (p<1073741824)=a:=⟨_,rfl⟩;obtain ⟨a2,ha2⟩:∃a,b.right=a:=⟨_,rfl⟩;obtain ⟨a4,ha4⟩:∃a,Qk.needs c p b.ch b.od=a:=⟨_,rfl⟩;rw [ha1] at H1 ⊢;rw [ha2] at H2 ⊢;rw [ha4] at H4 ⊢;obtain ⟨a3,ha3⟩:∃a,Qk.has p c=a:=⟨_,rfl⟩;rw [ha3] at H3 HK ⊢;clear ha1 ha2 ha3 ha4
 have HB0:=Lib.hid (((Below.refl _ _).alloc (Nat.le_refl _) (.cells #[.int .i64 b.x0,.int .i64 b.x1,.int .i64 b.x2,.int .i64 b.x3,.int .i64 b.x4,.int .i64 b.x5,.int .i64 b.x6,.int .i64 b.x7,.bool b.ch,.bool b.od] 24)):Below w.heap.size w _)
 have HZ0:=Lib.hid (Rec.Bk.new w w.heap.size rfl 24 [.int .i64 b.x0,.int .i64 b.x1,.int .i64 b.x2,.int .i64 b.x3,.int .i64 b.x4,.int .i64 b.x5,.int .i64 b.x6,.int .i64 b.x7,.bool b.ch,.bool b.od]);by_cases hall:(a1&&(a2&&(a3&&a4)))=true
 ·obtain ⟨rfl,rfl,rfl,rfl⟩:a1=true∧a2=true∧a3=true∧a4=true:=by simpa using hall
  clear hall;obtain ⟨hc0,hc1⟩:=HK.out rfl;obtain ⟨c,rfl⟩:∃n:Nat,c=n:=⟨c.toNat,by omega⟩
  have HC:=Lib.hid (show c<30 by omega);obtain ⟨s0,hs0⟩:∃s0,texts[c]?=some s0:=⟨_,List.getElem?_eq_getElem (show c<texts.length from HC.out)⟩;have hW:W c b.ch (Qk.has p 19)=textOf s0 b.ch (Qk.has p 19):=by unfold W;rw [hs0];rfl
  obtain ⟨S,hS⟩:∃S,textOf s0 b.ch (Qk.has p 19)=S:=⟨_,rfl⟩;have HS0:=Lib.hid hs0;have HSS:=Lib.hid hS;have HP:=Lib.hid hp;have hW2:W ((c:Int)).toNat b.ch (Qk.has p 19)=S:=by rw [Int.toNat_natCast,hW,hS]
  simp only [Bool.and_self,if_true,hW2];clear hs0 hW hS hW2 hc0 hc1 HK;obtain ⟨ti,hi⟩:∃ti,Tryz.prog.info? 77=some ti:=by
   have:(Tryz.prog.info? 77).isSome=true:=by kernel_rfl
   exact Option.isSome_iff_exists.1 this
  have HI:=Lib.hid hi;clear hi;have x0:=HZ0.out.c 0 _ rfl;have x1:=HZ0.out.c 1 _ rfl;have x2:=HZ0.out.c 2 _ rfl;have x3:=HZ0.out.c 3 _ rfl;have x4:=HZ0.out.c 4 _ rfl;have x5:=HZ0.out.c 5 _ rfl;have x6:=HZ0.out.c 6 _ rfl;have x7:=HZ0.out.c 7 _ rfl;have x8:=HZ0.out.c 8 _ rfl;have x9:=HZ0.out.c 9 _ rfl;go_enter Tryz.func29,Tryz.ntmps29;go_upto_region 1 with fail
  generalize w.alloc (.cells #[.int .i64 b.x0,.int .i64 b.x1,.int .i64 b.x2,.int .i64 b.x3,.int .i64 b.x4,.int .i64 b.x5,.int .i64 b.x6,.int .i64 b.x7,.bool b.ch,.bool b.od] 24)=W0 at *;generalize hgB:w.heap.size=g at *;have HGB:=Lib.hid hgB;clear hgB
  go_upto_region 3 with (first
   |(go_at_call 31;with_reducible refine (H4.out _).mono ?_;rintro r w3 ⟨rfl,hb3⟩;have HB3:=Lib.hid hb3;clear hb3)
   |(go_at_call 42;with_reducible refine (H3.out _).mono ?_;rintro r w2 ⟨rfl,hw2⟩;rw [hw2];clear hw2)
   |(go_at_call 41;with_reducible refine (H2.out _).mono ?_;rintro r w2 ⟨rfl,hb2⟩;have HB2:=Lib.hid hb2;have HZ2:=Lib.hid (HZ0.out.below hb2)
     have y0:=HZ2.out.c 0 _ rfl;have y1:=HZ2.out.c 1 _ rfl;have y2:=HZ2.out.c 2 _ rfl;have y3:=HZ2.out.c 3 _ rfl;have y4:=HZ2.out.c 4 _ rfl;have y5:=HZ2.out.c 5 _ rfl;have y6:=HZ2.out.c 6 _ rfl;have y7:=HZ2.out.c 7 _ rfl;have y8:=HZ2.out.c 8 _ rfl;have y9:=HZ2.out.c 9 _ rfl;clear hb2)
   |(go_at_call 40;with_reducible refine (H1.out _).mono ?_;rintro r w1 ⟨rfl,hw1⟩;rw [hw1];clear hw1))
  have HZ:=Lib.hid ((HZ2.out.below HB3.out).below (Base.below_drewN (Below.refl w3.heap.size w3) 1))
  have HBB:=Lib.hid (bstep HGB.out (bstep HGB.out HB0.out HB2.out) HB3.out);obtain ⟨B0,hB0⟩:∃B0,w3.heap.size=B0:=⟨_,rfl⟩
  have HB0:=Lib.hid (show B0≤(w3.drewN 1).heap.size by rw [←hB0];simp)
  have HBB2:=Lib.hid (show w.heap.size≤B0 by rw [←hB0];exact HBB.out.size);clear x0 x1 x2 x3 x4 x5 x6 x7 x8 x9 y0 y1 y2 y3 y4 y5 y6 y7 y8 y9 hB0;refine Each.region_all 9 [29,30,31,32,33,34,35,6,7]
   [fun v w=>∃vs:List Value,v=.agg vs.toArray∧Each2 w vs texts,
     fun v _=>v=.int .i64 (c:Int),
     fun v w=>IsMk w v s0,
     fun v _=>v=.int .u32 (p:Int),
     fun v _=>v=.agg #[.int .i64 b.x0,.int .i64 b.x1,.int .i64 b.x2,.int .i64 b.x3,.int .i64 b.x4,.int .i64 b.x5,.int .i64 b.x6,.int .i64 b.x7,.bool b.ch,.bool b.od],
     fun v _=>v=.string S,
     fun v w=>∃(g c:Nat),v=.slice (some ⟨g,0,none⟩) S.size c∧S.size≤c∧Pg.Bts [] w (some ⟨g,0,none⟩) S.data.toList∧B0≤g,
     fun v w=>∃(g c:Nat),v=.slice (some ⟨g,0,none⟩) S.size c∧S.size≤c∧Pg.Bts [] w (some ⟨g,0,none⟩) S.data.toList∧B0≤g,
     fun v _=>v=.bool true]
    (by kernel_rfl) (by kernel_rfl) (by kernel_rfl) (by kernel_rfl) (fun _ _ d _ _ h=>by cases d<;>exact h) (by rfl) (by rfl)
   ⟨((fun _ _ _ hb h=>by obtain ⟨vs,e,h⟩:=h;exact ⟨vs,e,h.below hb⟩)),Each.Lasts.eq _,((fun _ _ _ hb h=>IsMk.below h hb)),Each.Lasts.eq _,Each.Lasts.eq _,Each.Lasts.eq _,((fun _ _ _ hb h=>by obtain ⟨g,c,e,h1,h2,h3⟩:=h;exact ⟨g,c,e,h1,h2.step (Step.of_below hb),h3⟩)),((fun _ _ _ hb h=>by obtain ⟨g,c,e,h1,h2,h3⟩:=h;exact ⟨g,c,e,h1,h2.step (Step.of_below hb),h3⟩)),Each.Lasts.eq _,trivial⟩ ?_ ?_
  ·refine ⟨?_,?_,?_,?_,?_,?_,?_,?_,?_,trivial⟩
   ·refine Each.fine rfl (fun ev w1 hR hb hh=>?_);clear hh;have ef:=hR.func
    refine Each.Goes.enter 43 #[] (by go_simp) ((makers_any w1).mono ?_);rintro r w2 ⟨vs,rfl,hv,hb2⟩;exact ⟨_,rfl,hb2,vs,rfl,hv⟩
   ·refine Each.fine rfl (fun ev w1 hR hb hh=>?_);clear hh;have e0:=hR.old 0 rfl;simp only [Array.getD_eq_getD_getElem?,List.getElem?_toArray,List.getElem?_cons_zero,Option.getD_some] at e0;refine Each.Goes.same ?_;go_simp;try with_reducible rfl
   ·refine Each.fine rfl (fun ev w1 hR hb hh=>?_);have e29:((fun v w=>∃vs:List Value,v=.agg vs.toArray∧Each2 w vs texts) (ev (.tmp 29)) w1):=hh.at 0;have e30:(ev (.tmp 30)=.int .i64 (c:Int)):=hh.at 1;clear hh;obtain ⟨vs,e29,hv⟩:=e29;obtain ⟨hl,hv⟩:=hv.at;obtain ⟨v,s,h1,h2,h3⟩:=hv c HC.out
    have es:s=s0:=Option.some.inj (h2.symm.trans HS0.out);subst es;have hcl:c<vs.length:=by rw [hl];exact HC.out
    have h4:vs[c]=v:=by rw [List.getElem?_eq_getElem hcl] at h1;exact Option.some.inj h1
    refine Each.Goes.value v w1 ?_ (Below.refl _ _) h3;have hm:∃f l,v=.func f #[] l:=by
     cases s with
     | none=>exact ⟨_,_,h3⟩
     | some s=>obtain ⟨g,e, -⟩:=h3;exact ⟨_,_,e⟩
    go_simp;rw [run_index_fn Tryz.underlying78 (fun w=>by simp [isAgg,run_underlying Tryz.underlying77,go_sem]) HI.out (by kernel_rfl) .i64 c HC.out v (by rw [List.getElem?_toArray];exact h1) w1];rfl
   ·refine Each.fine rfl (fun ev w1 hR hb hh=>?_);clear hh;have e1:=hR.old 1 rfl;simp only [Array.getD_eq_getD_getElem?,List.getElem?_toArray,List.getElem?_cons_succ,List.getElem?_cons_zero,Option.getD_some] at e1;refine Each.Goes.same ?_;go_simp;try with_reducible rfl
   ·refine Each.fine rfl (fun ev w1 hR hb hh=>?_);clear hh;have e5:=hR.old 5 rfl;simp only [Array.getD_eq_getD_getElem?,List.getElem?_toArray,List.getElem?_cons_succ,List.getElem?_cons_zero,Option.getD_some] at e5;have q0:=(HZ.out.below hb).c 0 _ rfl;have q1:=(HZ.out.below hb).c 1 _ rfl;have q2:=(HZ.out.below hb).c 2 _ rfl;have q3:=(HZ.out.below hb).c 3 _ rfl;have q4:=(HZ.out.below hb).c 4 _ rfl;have q5:=(HZ.out.below hb).c 5 _ rfl;have q6:=(HZ.out.below hb).c 6 _ rfl;have q7:=(HZ.out.below hb).c 7 _ rfl;have q8:=(HZ.out.below hb).c 8 _ rfl;have q9:=(HZ.out.below hb).c 9 _ rfl;refine Each.Goes.same ?_;go_simp;try with_reducible rfl
   ·refine Each.fine rfl (fun ev w1 hR hb hh=>?_);have e31:((fun v w=>IsMk w v s0) (ev (.tmp 31)) w1):=hh.at 0;have e32:(ev (.tmp 32)=.int .u32 (p:Int)):=hh.at 1;have e33:(ev (.tmp 33)=.agg #[.int .i64 b.x0,.int .i64 b.x1,.int .i64 b.x2,.int .i64 b.x3,.int .i64 b.x4,.int .i64 b.x5,.int .i64 b.x6,.int .i64 b.x7,.bool b.ch,.bool b.od]):=hh.at 2;clear hh;rw [←HSS.out];cases s0 with
    | none=>
      have e31:ev (.tmp 31)=mkO:=e31
      refine Each.Goes.enter 64 #[.int .u32 (p:Int),.agg #[.int .i64 b.x0,.int .i64 b.x1,.int .i64 b.x2,.int .i64 b.x3,.int .i64 b.x4,.int .i64 b.x5,.int .i64 b.x6,.int .i64 b.x7,.bool b.ch,.bool b.od]] (by go_simp) ((old_any p HP.out b.x0 b.x1 b.x2 b.x3 b.x4 b.x5 b.x6 b.x7 b.ch b.od w1).mono ?_);rintro r w2 ⟨rfl,hb2⟩;exact ⟨_,rfl,hb2,rfl⟩
    | some s=>
      obtain ⟨gk,e31,hgk⟩:=e31
      refine Each.Goes.enter 75 #[.int .u32 (p:Int),.agg #[.int .i64 b.x0,.int .i64 b.x1,.int .i64 b.x2,.int .i64 b.x3,.int .i64 b.x4,.int .i64 b.x5,.int .i64 b.x6,.int .i64 b.x7,.bool b.ch,.bool b.od],.pointer (some ⟨gk,0,none⟩)] (by go_simp) ((made_any p b.x0 b.x1 b.x2 b.x3 b.x4 b.x5 b.x6 b.x7 b.ch b.od gk s w1 hgk).mono ?_);rintro r w2 ⟨rfl,hb2⟩;exact ⟨_,rfl,hb2,rfl⟩
   ·refine Each.fine rfl (fun ev w1 hR hb hh=>?_);have e34:(ev (.tmp 34)=.string S):=hh.at 0;clear hh;obtain ⟨W5,cap5,hcv,hcap5,hby,hlt5,hb5⟩:=Rq.conv_cap S w1;refine Each.Goes.value _ W5 (by go_simp) hb5 ⟨_,cap5,rfl,hcap5,Pg.Bts.conv (L:= []) (by intro k hk;cases hk) S hby hlt5,?_⟩;have:=hb.size;exact Nat.le_trans HB0.out this
   ·refine Each.fine rfl (fun ev w1 hR hb hh=>?_);have e35:((fun v w=>∃(g c:Nat),v=.slice (some ⟨g,0,none⟩) S.size c∧S.size≤c∧Pg.Bts [] w (some ⟨g,0,none⟩) S.data.toList∧B0≤g) (ev (.tmp 35)) w1):=hh.at 0;clear hh;exact Each.Goes.value (ev (.tmp 35)) w1 (by go_simp) (Below.refl _ _) e35
   ·refine Each.fine rfl (fun ev w1 hR hb hh=>?_);clear hh;have ec:=hR.const;refine Each.Goes.same ?_;go_simp;try with_reducible rfl
  intro ga w4 hb4 hf;have z6:((fun v w=>∃(g c:Nat),v=.slice (some ⟨g,0,none⟩) S.size c∧S.size≤c∧Pg.Bts [] w (some ⟨g,0,none⟩) S.data.toList∧B0≤g) (ga 6) w4):=hf.at 7;have z7:(ga 7=.bool true):=hf.at 8;clear hf;simp only [Each.putg,Act.put,List.setIfInBounds_toArray,List.set_cons_zero,List.set_cons_succ];rw [z7];obtain ⟨gs,cs,e6,k1,k2,k3⟩:=z6;rw [e6];have HB4:=Lib.hid hb4;clear hb4;go_wp2;go_ret2;refine ⟨_,rfl,?_,⟨gs,cs,rfl,k1,k2,Nat.le_trans HBB2.out k3⟩⟩;rw [HGB.out];exact bstep HGB.out HBB.out HB4.out
 ·rw [Bool.not_eq_true] at hall;rw [hall];simp only [Bool.false_eq_true,if_false];have hz:a1=false∨(a1=true∧a2=false)∨(a1=true∧a2=true∧a3=false)∨(a1=true∧a2=true∧a3=true∧a4=false):=by
   revert hall;cases a1<;>cases a2<;>cases a3<;>cases a4<;>simp
  clear hall HK;have x0:=HZ0.out.c 0 _ rfl;have x1:=HZ0.out.c 1 _ rfl;have x2:=HZ0.out.c 2 _ rfl;have x3:=HZ0.out.c 3 _ rfl;have x4:=HZ0.out.c 4 _ rfl;have x5:=HZ0.out.c 5 _ rfl;have x6:=HZ0.out.c 6 _ rfl;have x7:=HZ0.out.c 7 _ rfl;have x8:=HZ0.out.c 8 _ rfl;have x9:=HZ0.out.c 9 _ rfl;rcases hz with rfl | ⟨rfl,rfl⟩ | ⟨rfl,rfl,rfl⟩ | ⟨rfl,rfl,rfl,rfl⟩;all_goals
   go_enter Tryz.func29,Tryz.ntmps29;go_upto_region 1 with fail
   generalize w.alloc (.cells #[.int .i64 b.x0,.int .i64 b.x1,.int .i64 b.x2,.int .i64 b.x3,.int .i64 b.x4,.int .i64 b.x5,.int .i64 b.x6,.int .i64 b.x7,.bool b.ch,.bool b.od] 24)=W0 at *;generalize hgB:w.heap.size=g at *;have HGB:=Lib.hid hgB;clear hgB;have HY:=Lib.hid HB0.out
   go_wp2_with (first
    |(go_at_call 31;with_reducible refine (H4.out _).mono ?_;rintro r w3 ⟨rfl,hb3⟩;replace HY:=Lib.hid (bstep HGB.out HY.out hb3);clear hb3)
    |(go_at_call 42;with_reducible refine (H3.out _).mono ?_;rintro r w2 ⟨rfl,hw2⟩;rw [hw2];clear hw2)
    |(go_at_call 41;with_reducible refine (H2.out _).mono ?_;rintro r w2 ⟨rfl,hb2⟩;replace HY:=Lib.hid (bstep HGB.out HY.out hb2);have HZ2:=Lib.hid (HZ0.out.below hb2)
      have y0:=HZ2.out.c 0 _ rfl;have y1:=HZ2.out.c 1 _ rfl;have y2:=HZ2.out.c 2 _ rfl;have y3:=HZ2.out.c 3 _ rfl;have y4:=HZ2.out.c 4 _ rfl;have y5:=HZ2.out.c 5 _ rfl;have y6:=HZ2.out.c 6 _ rfl;have y7:=HZ2.out.c 7 _ rfl;have y8:=HZ2.out.c 8 _ rfl;have y9:=HZ2.out.c 9 _ rfl;clear hb2)
    |(go_at_call 40;with_reducible refine (H1.out _).mono ?_;rintro r w1 ⟨rfl,hw1⟩;rw [hw1];clear hw1))
   go_ret2;exact ⟨_,rfl,by rw [HGB.out];exact HY.out,rfl⟩
end code
end Go.Proofs.YtimoakmcelocfaaGreat.Wit
namespace Go.Proofs.YtimoakmcelocfaaGreat.An
open Go.RowKit Base Txt Mem Par
def kindA (p:Nat) (b:Bd):Int:=if (decide (p<1073741824)&&b.right)=true then (if effL p b= [] then 1 else 2) else 0
def errA (p:Nat) (b:Bd):Int:=if (decide (p<1073741824)&&b.right)=true then 0 else 20
def clA (p:Nat) (b:Bd):Int:=(effL p b).headD 0
def Shown (w w':World) (p:Nat) (b:Bd) (v:Value):Prop:=if effL p b= [] then v=.slice none 0 0 else Wit.Said w w' v (Wit.W (clA p b).toNat b.ch (Qk.has p 19))
theorem eff_bad {p:Nat} {b:Bd} (h:¬(decide (p<1073741824)&&b.right)=true):effL p b= []:=by unfold effL;rw [if_neg];intro h2;rw [Bool.and_comm] at h2;exact h h2
theorem may_of {p:Nat} {b:Bd} {c:Int} (h:c∈effL p b):Wit.may c p b=true∧0≤c∧c<30:=by
 unfold effL at h;split at h
 ·rename_i h1;obtain ⟨h2,h3⟩:=List.mem_filter.1 h;unfold Qk.upTo at h2;obtain ⟨n,h4,rfl⟩:=List.mem_map.1 h2;obtain ⟨h5,h6⟩:=List.mem_filter.1 h4;rw [List.mem_range] at h5;have hk:Qk.has p (n:Int)=true:=by
   unfold Qk.has;rw [show Qk.known (n:Int)=true from (Qk.known_iff _).2 (by omega),Int.toNat_natCast,h6];rfl
  refine ⟨?_,by omega,by omega⟩;unfold Wit.may;rw [hk,h3];simp only [Bool.and_true,Bool.and_eq_true,decide_eq_true_eq] at h1 ⊢;exact ⟨h1.2,h1.1⟩
 ·cases h
theorem bts_off {w w':World} {g gA:Nat} {l:List UInt8} (h:Pg.Bts [] w (some ⟨g,0,none⟩) l) (hk:Keeps [some gA] w w') (hne:g≠gA):Pg.Bts [] w' (some ⟨g,0,none⟩) l:=by
 have hlt:=(h.far _ rfl).2;refine ⟨⟨h.nums.1,fun h0=>?_⟩,fun ad e=>⟨fun hm=>(by cases hm),?_⟩⟩
 ·obtain ⟨b,off,e,hb,hc⟩:=h.nums.2 h0;cases e;exact ⟨g,0,rfl,Nat.lt_of_lt_of_le hb hk.size,fun k hkl=>(hk.cell (p:=⟨g,0+k,none⟩) hb (fun hm=>hne (by simpa using hm))).trans (hc k hkl)⟩
 ·cases e;exact Nat.lt_of_lt_of_le hlt hk.size
theorem said_off {w0 w1 w w':World} {gA:Nat} {v:Value} {S:ByteArray} (h:Wit.Said w0 w v S) (hk:Keeps [some gA] w w') (hA:gA<w0.heap.size) (hs:w1.heap.size≤w0.heap.size):Wit.Said w1 w' v S:=by obtain ⟨g,c,e,h1,h2,h3⟩:=h.v;exact ⟨⟨g,c,e,h1,bts_off h2 hk (by omega),by omega⟩⟩
section code
set_option maxHeartbeats 8000000
set_option maxRecDepth 20000
attribute [local go_sem] Base.some_undef
theorem decide_any (p:Nat) (hp:p<4294967296) (b:Bd) (w:World):Calls Tryz.prog 11 #[.int .u32 (p:Int),.agg #[.int .i64 b.x0,.int .i64 b.x1,.int .i64 b.x2,.int .i64 b.x3,.int .i64 b.x4,.int .i64 b.x5,.int .i64 b.x6,.int .i64 b.x7,.bool b.ch,.bool b.od]] w fun e w'=>
 ∃v,e=.returned (.tuple #[.agg #[.int .i64 (kindA p b),.int .i64 (clA p b),v],.int .i64 (errA p b)])∧Shown w w' p b v∧Below w.heap.size w w':=by
 have HR:=Lib.hid (fun w=>right_any p hp b w)
 have HE:=Lib.hid (fun w=>eff_any p hp b w)
 have HB0:=Lib.hid ((((Below.refl _ _).alloc (Nat.le_refl _) (.cells #[.int .i64 b.x0,.int .i64 b.x1,.int .i64 b.x2,.int .i64 b.x3,.int .i64 b.x4,.int .i64 b.x5,.int .i64 b.x6,.int .i64 b.x7,.bool b.ch,.bool b.od] 24)).alloc (by simp) (.cells #[.int .i64 0,.int .i64 0,.slice none 0 0] 36)):Below w.heap.size w _)
 have HZ0:=Lib.hid ((Rec.Bk.new w w.heap.size rfl 24 [.int .i64 b.x0,.int .i64 b.x1,.int .i64 b.x2,.int .i64 b.x3,.int .i64 b.x4,.int .i64 b.x5,.int .i64 b.x6,.int .i64 b.x7,.bool b.ch,.bool b.od]).alloc (.cells #[.int .i64 0,.int .i64 0,.slice none 0 0] 36))
 have HA0:=Lib.hid (Rec.Bk.new (w.alloc (.cells #[.int .i64 b.x0,.int .i64 b.x1,.int .i64 b.x2,.int .i64 b.x3,.int .i64 b.x4,.int .i64 b.x5,.int .i64 b.x6,.int .i64 b.x7,.bool b.ch,.bool b.od] 24)) (w.heap.size+1) (by simp) 36 [.int .i64 0,.int .i64 0,.slice none 0 0])
 have HSZ:=Lib.hid (show w.heap.size+1<((w.alloc (.cells #[.int .i64 b.x0,.int .i64 b.x1,.int .i64 b.x2,.int .i64 b.x3,.int .i64 b.x4,.int .i64 b.x5,.int .i64 b.x6,.int .i64 b.x7,.bool b.ch,.bool b.od] 24)).alloc (.cells #[.int .i64 0,.int .i64 0,.slice none 0 0] 36)).heap.size by simp);obtain ⟨ok,hok⟩:∃ok,(decide (p<1073741824)&&b.right)=ok:=⟨_,rfl⟩;have hk:kindA p b=if ok=true then (if effL p b= [] then 1 else 2) else 0:=by unfold kindA;rw [hok]
 have he:errA p b=if ok=true then 0 else 20:=by unfold errA;rw [hok]
 have hbad:¬ok=true→effL p b= []:=fun h=>eff_bad (by rw [hok];exact h);rw [hok] at HR;rw [hk,he];clear hok hk he;cases ok with
 | false=>
   have hef:=hbad Bool.false_ne_true
   have HSH:Hid (∀w',Shown w w' p b (.slice none 0 0)):=Lib.hid (fun w'=>by unfold Shown;rw [if_pos hef]);have hc:clA p b=0:=by unfold clA;rw [hef];rfl
   rw [hc,if_neg Bool.false_ne_true,if_neg Bool.false_ne_true];clear hef hc hbad HE;go_enter Tryz.func11,Tryz.ntmps11;go_upto_region 1 with fail
   generalize (w.alloc (.cells #[.int .i64 b.x0,.int .i64 b.x1,.int .i64 b.x2,.int .i64 b.x3,.int .i64 b.x4,.int .i64 b.x5,.int .i64 b.x6,.int .i64 b.x7,.bool b.ch,.bool b.od] 24)).alloc (.cells #[.int .i64 0,.int .i64 0,.slice none 0 0] 36)=W0 at *;have x0:=HZ0.out.c 0 _ rfl;have x1:=HZ0.out.c 1 _ rfl;have x2:=HZ0.out.c 2 _ rfl;have x3:=HZ0.out.c 3 _ rfl;have x4:=HZ0.out.c 4 _ rfl;have x5:=HZ0.out.c 5 _ rfl;have x6:=HZ0.out.c 6 _ rfl;have x7:=HZ0.out.c 7 _ rfl;have x8:=HZ0.out.c 8 _ rfl;have x9:=HZ0.out.c 9 _ rfl
   go_upto_region 2 with (go_at_call 28;with_reducible refine (HR.out _).mono ?_;rintro r w1 ⟨rfl,hb1⟩;have HB1:=Lib.hid hb1;have HA1:=Lib.hid (HA0.out.below hb1);clear hb1)
   have d0:=HA1.out.c 0 _ rfl;have d1:=HA1.out.c 1 _ rfl;have d2:=HA1.out.c 2 _ rfl
   have m0:=HA1.out.z 0 (by decide);have m1:=HA1.out.z 1 (by decide);have m2:=HA1.out.z 2 (by decide);clear x0 x1 x2 x3 x4 x5 x6 x7 x8 x9
   have HBW:=Lib.hid (show Below w.heap.size w w1 from HB0.out.trans (HB1.out.mono (by have:=HB0.out.size;exact this)));go_wp2;refine bodyPost_ret (v:=.tuple #[.agg #[.int .i64 0,.int .i64 0,.slice none 0 0],.int .i64 20]) (by simp [results,Tryz.results11,go_sem,d0,d1,d2]) rfl ?_;refine ⟨_,rfl,HSH.out _,?_⟩;first | exact HBW.out |(repeat (refine Below.setCell ?_ (by simp) _));exact HBW.out
 | true=>
   rw [if_pos rfl,if_pos rfl];have hle:=effL_le p b;rcases hef:effL p b with _ | ⟨c0,cs⟩
   ·have HSH:Hid (∀w',Shown w w' p b (.slice none 0 0)):=Lib.hid (fun w'=>by unfold Shown;rw [if_pos hef]);have hc:clA p b=0:=by unfold clA;rw [hef];rfl
    rw [hc,if_pos rfl];rw [hef] at HE;clear hef hc hbad hle;go_enter Tryz.func11,Tryz.ntmps11;go_upto_region 1 with fail
    generalize (w.alloc (.cells #[.int .i64 b.x0,.int .i64 b.x1,.int .i64 b.x2,.int .i64 b.x3,.int .i64 b.x4,.int .i64 b.x5,.int .i64 b.x6,.int .i64 b.x7,.bool b.ch,.bool b.od] 24)).alloc (.cells #[.int .i64 0,.int .i64 0,.slice none 0 0] 36)=W0 at *;have x0:=HZ0.out.c 0 _ rfl;have x1:=HZ0.out.c 1 _ rfl;have x2:=HZ0.out.c 2 _ rfl;have x3:=HZ0.out.c 3 _ rfl;have x4:=HZ0.out.c 4 _ rfl;have x5:=HZ0.out.c 5 _ rfl;have x6:=HZ0.out.c 6 _ rfl;have x7:=HZ0.out.c 7 _ rfl;have x8:=HZ0.out.c 8 _ rfl;have x9:=HZ0.out.c 9 _ rfl
    go_upto_region 3 with (go_at_call 28;with_reducible refine (HR.out _).mono ?_;rintro r w1 ⟨rfl,hb1⟩;have HB1:=Lib.hid hb1;have HA1:=Lib.hid (HA0.out.below hb1);have HZ1:=Lib.hid (HZ0.out.below hb1);clear hb1)
    clear x0 x1 x2 x3 x4 x5 x6 x7 x8 x9;have y0:=HZ1.out.c 0 _ rfl;have y1:=HZ1.out.c 1 _ rfl;have y2:=HZ1.out.c 2 _ rfl;have y3:=HZ1.out.c 3 _ rfl;have y4:=HZ1.out.c 4 _ rfl;have y5:=HZ1.out.c 5 _ rfl;have y6:=HZ1.out.c 6 _ rfl;have y7:=HZ1.out.c 7 _ rfl;have y8:=HZ1.out.c 8 _ rfl;have y9:=HZ1.out.c 9 _ rfl
    go_upto_region 4 with (go_at_call 13;with_reducible refine (HE.out _).mono ?_;rintro r w2 ⟨A,ca,rfl,hi,hb2⟩;have HB2:=Lib.hid (Base.below_step HB1.out hb2);have HA2:=Lib.hid (HA1.out.below hb2);have HZ2:=Lib.hid (HZ1.out.below hb2);have HI:=Lib.hid hi;clear hb2 hi)
    clear y0 y1 y2 y3 y4 y5 y6 y7 y8 y9;have d0:=HA2.out.c 0 _ rfl;have d1:=HA2.out.c 1 _ rfl;have d2:=HA2.out.c 2 _ rfl
    have m0:=HA2.out.z 0 (by decide);have m1:=HA2.out.z 1 (by decide);have m2:=HA2.out.z 2 (by decide)
    have HBW:=Lib.hid (show Below w.heap.size w w2 from HB0.out.trans (HB2.out.mono (by have:=HB0.out.size;exact this)));simp only [List.length_nil] at *;go_wp2;refine bodyPost_ret (v:=.tuple #[.agg #[.int .i64 1,.int .i64 0,.slice none 0 0],.int .i64 0]) (by simp [results,Tryz.results11,go_sem,d0,d1,d2]) rfl ?_;refine ⟨_,rfl,HSH.out _,?_⟩;first | exact HBW.out |(repeat (refine Below.setCell ?_ (by simp) _));exact HBW.out
   ·have hm:=may_of (p:=p) (b:=b) (c:=c0) (by rw [hef];exact List.mem_cons_self ..);have hc:clA p b=c0:=by unfold clA;rw [hef];rfl
    have hof:=fun w=>Wit.of_any c0 p hp b w;rw [hm.1] at hof;have HOF:=Lib.hid hof
    have HSH:Hid (∀w' v,Wit.Said w w' v (Wit.W c0.toNat b.ch (Qk.has p 19))→Shown w w' p b v):=Lib.hid (fun w' v h=>by unfold Shown;rw [if_neg (by rw [hef];simp),hc];exact h);rw [hc,if_neg (by simp)];rw [hef] at HE hle;rw [List.length_cons] at hle;obtain ⟨n,hn⟩:∃n,(c0::cs).length=n:=⟨_,rfl⟩;rw [hn] at HE;have hn1:0<n∧n≤30:=by rw [←hn,List.length_cons];omega
    clear hc hbad hof hm;go_enter Tryz.func11,Tryz.ntmps11;go_upto_region 1 with fail
    generalize (w.alloc (.cells #[.int .i64 b.x0,.int .i64 b.x1,.int .i64 b.x2,.int .i64 b.x3,.int .i64 b.x4,.int .i64 b.x5,.int .i64 b.x6,.int .i64 b.x7,.bool b.ch,.bool b.od] 24)).alloc (.cells #[.int .i64 0,.int .i64 0,.slice none 0 0] 36)=W0 at *;have x0:=HZ0.out.c 0 _ rfl;have x1:=HZ0.out.c 1 _ rfl;have x2:=HZ0.out.c 2 _ rfl;have x3:=HZ0.out.c 3 _ rfl;have x4:=HZ0.out.c 4 _ rfl;have x5:=HZ0.out.c 5 _ rfl;have x6:=HZ0.out.c 6 _ rfl;have x7:=HZ0.out.c 7 _ rfl;have x8:=HZ0.out.c 8 _ rfl;have x9:=HZ0.out.c 9 _ rfl
    go_upto_region 3 with (go_at_call 28;with_reducible refine (HR.out _).mono ?_;rintro r w1 ⟨rfl,hb1⟩;have HB1:=Lib.hid hb1;have HA1:=Lib.hid (HA0.out.below hb1);have HZ1:=Lib.hid (HZ0.out.below hb1);clear hb1)
    clear x0 x1 x2 x3 x4 x5 x6 x7 x8 x9;have y0:=HZ1.out.c 0 _ rfl;have y1:=HZ1.out.c 1 _ rfl;have y2:=HZ1.out.c 2 _ rfl;have y3:=HZ1.out.c 3 _ rfl;have y4:=HZ1.out.c 4 _ rfl;have y5:=HZ1.out.c 5 _ rfl;have y6:=HZ1.out.c 6 _ rfl;have y7:=HZ1.out.c 7 _ rfl;have y8:=HZ1.out.c 8 _ rfl;have y9:=HZ1.out.c 9 _ rfl
    go_upto_region 4 with (go_at_call 13;with_reducible refine (HE.out _).mono ?_;rintro r w2 ⟨A,ca,rfl,hi,hb2⟩;have HB2:=Lib.hid (Base.below_step HB1.out hb2);have HA2:=Lib.hid (HA1.out.below hb2);have HZ2:=Lib.hid (HZ1.out.below hb2);have HI:=Lib.hid hi;clear hb2 hi)
    clear y0 y1 y2 y3 y4 y5 y6 y7 y8 y9;obtain ⟨ib,io,rfl,hib,hcs⟩:=HI.out.2 hn1.1;have ck:=hcs 0 hn1.1;rw [List.getElem?_cons_zero,Option.getD_some,Nat.add_zero] at ck;have z0:=HZ2.out.c 0 _ rfl;have z1:=HZ2.out.c 1 _ rfl;have z2:=HZ2.out.c 2 _ rfl;have z3:=HZ2.out.c 3 _ rfl;have z4:=HZ2.out.c 4 _ rfl;have z5:=HZ2.out.c 5 _ rfl;have z6:=HZ2.out.c 6 _ rfl;have z7:=HZ2.out.c 7 _ rfl;have z8:=HZ2.out.c 8 _ rfl;have z9:=HZ2.out.c 9 _ rfl
    have t0:((n:Int)==0)=false:=beq_eq_false_iff_ne.2 (by omega);have t1:¬(n:Int)=0:=by omega
    have t2:(0:Int)<(n:Int):=by omega
    have t3:0<n:=hn1.1;clear hcs hib
    go_upto_region 8 with (go_at_call 29;with_reducible refine (HOF.out _).mono ?_;rintro r w3 ⟨v,rfl,hb3,hs3⟩;have HB3:=Lib.hid (Base.below_step HB2.out hb3);have HA3:=Lib.hid (HA2.out.below hb3);have HS3:=Lib.hid hs3;clear hb3 hs3)
    clear z0 z1 z2 z3 z4 z5 z6 z7 z8 z9;have hs:=HS3.out;simp only [if_true] at hs;obtain ⟨gs,cc,rfl, -⟩:=hs.v;have HS:=Lib.hid hs;have d0:=HA3.out.c 0 _ rfl;have d1:=HA3.out.c 1 _ rfl;have d2:=HA3.out.c 2 _ rfl
    have m0:=HA3.out.z 0 (by decide);have m1:=HA3.out.z 1 (by decide);have m2:=HA3.out.z 2 (by decide)
    have HBW:=Lib.hid (show Below w.heap.size w w3 from HB0.out.trans (HB3.out.mono (by have:=HB0.out.size;exact this)))
    have HW2:=Lib.hid (show w.heap.size≤w2.heap.size∧w.heap.size+1<w2.heap.size from by have h1:=HB2.out.size;have h2:=HSZ.out;omega);clear hs HS3 ck;go_wp2;refine bodyPost_ret (v:=.tuple #[.agg #[.int .i64 2,.int .i64 c0,.slice (some ⟨gs,0,none⟩) (Wit.W c0.toNat b.ch (Qk.has p 19)).size cc],.int .i64 0]) (by simp [results,Tryz.results11,go_sem,d0,d1,d2]) rfl ?_;refine ⟨_,rfl,HSH.out _ _ (said_off (gA:=w.heap.size+1) HS.out ?_ HW2.out.2 HW2.out.1),?_⟩
    ·exact ((Keeps.set _ 0 _ (by simp)).trans (Keeps.set _ 1 _ (by simp)) Of.refl).trans (Keeps.set _ 2 _ (by simp)) Of.refl
    ·(repeat (refine Below.setCell ?_ (by simp) _));exact HBW.out
end code
end Go.Proofs.YtimoakmcelocfaaGreat.An
namespace Go.Proofs.YtimoakmcelocfaaGreat.Pg
open Go.RowKit Base Txt Par
theorem none0 (k:Int):Qk.has 0 k=false:=by unfold Qk.has;rw [Nat.zero_testBit,Bool.and_false]
theorem dw_none {q:UInt8→Bool}:∀{l:List UInt8},(∀x∈l,q x=false)→l.dropWhile q=l
 | [],_=>rfl
 | x::r,h=>dropWhile_stop (h x (by simp))
theorem trimL_none {q:UInt8→Bool} {l:List UInt8} (h:∀x∈l,q x=false):trimL q l=l:=by unfold trimL;rw [dw_none h,dw_none (fun x hx=>h x (by simpa using hx)),List.reverse_reverse]
theorem letters_tab:∀k:Fin 256,lowB (UInt8.ofNat k.val)∈ [99,104,117,110,107,101,100]→Frm.blanksOf.data.toList.contains (UInt8.ofNat k.val)=false:=by decide +kernel
theorem letter_of {x:UInt8} (h:lowB x∈ [99,104,117,110,107,101,100]):isIn Frm.blanksOf x=false:=by have:=letters_tab ⟨x.toNat,x.toNat_lt⟩ (by simpa using h);simpa [isIn] using this
theorem isC_wide {v:ByteArray} (h:Frm.isC false v=true) (tb:Bool):Frm.isC tb v=true:=by
 cases tb with
 | false=>exact h
 | true=>
   have h1:same v Frm.chunked=true:=h
   have h2:low v.data.toList= [99,104,117,110,107,101,100]:=(beq_iff_eq.1 h1).trans (by decide +kernel);have e:trimOf v Frm.blanksOf=v:=by apply ba_ext;show trimL (isIn Frm.blanksOf) v.data.toList= _;refine trimL_none fun x hx=>letter_of ?_;rw [←h2];exact List.mem_map.2 ⟨x,hx,rfl⟩
   show same (trimOf v Frm.blanksOf) Frm.chunked=true;rw [e];exact h1
theorem coding_wide {vs:List ByteArray} (h:Frm.coding false false vs=true) (tb tl:Bool):Frm.coding tb tl vs=true:=by unfold Frm.coding at h ⊢;rw [Bool.or_false,Bool.and_eq_true,decide_eq_true_eq] at h;obtain ⟨h1,h2⟩:=h;obtain ⟨v,hv⟩:=List.length_eq_one_iff.1 h2;rw [hv] at h1 ⊢;have h3:Frm.isC false v=true:=h1;rw [decide_eq_true (by simp),Bool.true_or,Bool.and_true];exact isC_wide h3 tb
theorem digit_tab:∀k:Fin 256,Num.digitOf 10 (UInt8.ofNat k.val)=true→UInt8.ofNat k.val≠44∧UInt8.ofNat k.val≠43∧Txt.blank (UInt8.ofNat k.val)=false:=by decide +kernel
theorem digit_of {x:UInt8} (h:Num.digitOf 10 x=true):x≠44∧x≠43∧Txt.blank x=false:=by simpa using digit_tab ⟨x.toNat,x.toNat_lt⟩ (by simpa using h)
theorem hex_tab:∀k:Fin 256,Num.digitOf 16 (UInt8.ofNat k.val)=true→lowB (UInt8.ofNat k.val)≠120∧Txt.blank (UInt8.ofNat k.val)=false:=by decide +kernel
theorem hex_of {x:UInt8} (h:Num.digitOf 16 x=true):lowB x≠120∧Txt.blank x=false:=by simpa using hex_tab ⟨x.toNat,x.toNat_lt⟩ (by simpa using h)
theorem read_digits {base most:Int} {l:List UInt8} (h:(Num.readOf base most l).2≠22):∀x∈l,Num.digitOf base x=true:=by
 unfold Num.readOf at h;split at h
 ·exact absurd rfl h
 ·rename_i h1;rw [Bool.or_eq_true,not_or,Bool.not_eq_true,Bool.not_eq_true,Bool.not_eq_false',List.all_eq_true] at h1;exact h1.2
theorem numV_digits {r:Int × Int} (h:(Frm.numV r).2=0):r.2≠22:=by
 intro e;unfold Frm.numV at h;rw [if_pos e] at h
 exact absurd h (by decide)
theorem length_wide {most:Int} {vs:List ByteArray} (h:(Frm.lengthV false false false false most vs).2=0) (lp lc lf ll:Bool) :
 Frm.lengthV lp lc lf ll most vs=Frm.lengthV false false false false most vs:=by
 unfold Frm.lengthV at h ⊢;by_cases h0:vs= []
 ·rw [if_pos h0,if_pos h0]
 rw [if_neg h0] at h ⊢;rw [if_neg h0];rw [if_neg Bool.false_ne_true] at h ⊢;by_cases h1:vs.length=1
 ·obtain ⟨v,rfl⟩:=List.length_eq_one_iff.1 h1;have hc:Frm.counts false false false [v]=some v:=rfl;rw [hc] at h ⊢;have hu:Frm.unplus false v=v:=rfl;simp only [hu] at h ⊢
  have hd:=read_digits (numV_digits h);have hl:list [v]= [v]:=by
   have e1:list [v]=partsOf v:=by simp [list]
   rw [e1];unfold partsOf;rw [parts_none 44 _ fun hm=>(digit_of (hd _ hm)).1 rfl];show [trim (ba v.data.toList)]= [v]
   congr 1
   apply ba_ext;show trimL Txt.blank (ba v.data.toList).data.toList= _;have e2:(ba v.data.toList).data.toList=v.data.toList:=by simp [ba]
   rw [e2];exact trimL_none fun x hx=>(digit_of (hd x hx)).2.2
  have hc':Frm.counts lc lf ll (if lc=true then list [v] else [v])=some v:=by
   have:(if lc=true then list [v] else [v])= [v]:=by cases lc<;>simp [hl]
   rw [this];unfold Frm.counts;rw [if_pos (by simp)];rfl
  rw [hc'];have hp:Frm.unplus lp v=v:=by
   unfold Frm.unplus;rw [if_neg];intro hh;rw [Bool.and_eq_true,decide_eq_true_eq] at hh
   have hm:(43:UInt8)∈v.data.toList:=List.mem_of_mem_head? (by rw [hh.2];rfl);exact (digit_of (hd _ hm)).2.1 rfl
  simp only [hp]
 ·have hc:Frm.counts false false false vs=none:=by
   unfold Frm.counts;rw [if_neg (by simp [h1]),if_neg Bool.false_ne_true]
  rw [hc] at h
  exact absurd (show (400:Int)=0 from h) (by decide)
theorem wins_wide {minor:Int} {nte ncl:Nat} {cod:Bool} (h:(Frm.winsV false false false false minor nte ncl cod).2=0) (td ti tw lw cod':Bool) (hc:cod=true→cod'=true) :
 Frm.winsV td ti tw lw minor nte ncl cod'=Frm.winsV false false false false minor nte ncl cod:=by
 unfold Frm.winsV at h ⊢;by_cases h0:nte=0
 ·simp only [if_pos h0]
 simp only [if_neg h0] at h ⊢;by_cases h1:minor=0
 ·rw [if_pos (by simp [h1])] at h
  exact absurd (show (400:Int)=0 from h) (by decide)
 have hm:∀td:Bool,¬(decide (minor=0) && !td)=true:=fun td=>by simp [h1]
 simp only [if_neg (hm _)] at h ⊢;cases cod with
 | false=>exact absurd (show (501:Int)=0 from h) (by decide)
 | true=>
   rw [hc rfl];by_cases h2:0<ncl
   ·simp [h2] at h
   ·simp [h2]
theorem hosts_wide {minor:Int} {hs:List ByteArray} (h:Frm.hostsV false false minor hs=0) (nh mh:Bool):Frm.hostsV nh mh minor hs=0:=by
 unfold Frm.hostsV at h ⊢;split at h
 ·exact absurd h (by decide)
 ·rename_i h1;rw [Bool.or_eq_true,not_or,Bool.not_false,Bool.and_true,Bool.and_true] at h1;rw [if_neg]
  ·exact h
  ·rw [Bool.or_eq_true,not_or];constructor
   ·intro hh;exact h1.1 (by cases nh<;>simp_all)
   ·intro hh;exact h1.2 (by cases mh<;>simp_all)
theorem decide_wide {ch:Bool} {body minor:Int} {fs:List Fld} (h:(Frm.decideV (Frm.clOf 0) ch body minor fs).2.2=0) (p:Nat) :
 Frm.decideV (Frm.clOf p) ch body minor fs=Frm.decideV (Frm.clOf 0) ch body minor fs:=by
 have e0:Frm.clOf 0=⟨false,false,false,false,false,false,false,false,false,false,false,false⟩:=by simp only [Frm.clOf,none0]
 rw [e0] at h ⊢;generalize Frm.clOf p=c;obtain ⟨nh,mh,tb,tl,ti,td,tw,lw,lp,lc,lf,ll⟩:=c;unfold Frm.decideV at h ⊢;simp only at h ⊢;unfold Frm.bodyV at h ⊢;by_cases h1:Frm.hostsV false false minor (find fs Frm.hostN)=0
 ·have h1':=hosts_wide h1 nh mh;rw [h1] at h ⊢;rw [h1'];simp only [ne_eq,not_true_eq_false,if_false] at h ⊢;by_cases h2:(Frm.winsV false false false false minor (find fs Frm.teN).length (find fs Frm.clN).length (Frm.coding false false (find fs Frm.teN))).2=0
  ·have h2':=wins_wide h2 td ti tw lw (Frm.coding tb tl (find fs Frm.teN)) (fun hc=>coding_wide hc tb tl);rw [h2'];simp only [h2,not_true_eq_false,if_false] at h ⊢;by_cases h3:(Frm.winsV false false false false minor (find fs Frm.teN).length (find fs Frm.clN).length (Frm.coding false false (find fs Frm.teN))).1=true
   ·simp only [if_pos h3]
   ·simp only [if_neg h3] at h ⊢;have h4:(Frm.lengthV false false false false body (find fs Frm.clN)).2=0:=by
     unfold Frm.fixedV at h;split at h
     ·assumption
     ·rename_i hn;exact absurd h hn
    rw [length_wide h4 lp lc lf ll]
  ·simp only [h2,not_false_eq_true,if_true] at h
 ·rw [if_pos h1] at h;exact absurd h h1
theorem piece_wide {z:List UInt8} (h:∀x∈z,Num.digitOf 16 x=true) (hex blanks:Bool):Chk.pieceL hex blanks z=z:=by
 have h1:trimL Txt.blank z=z:=trimL_none fun x hx=>(hex_of (h x hx)).2;have h2:Chk.bare z=z:=by
  unfold Chk.bare;rw [if_neg];intro hm;unfold Chk.marked at hm;rw [Bool.and_eq_true,decide_eq_true_eq] at hm;obtain ⟨hl,hs⟩:=hm
  match z,hl with
  | a::b::r,_=>
    have hs2:low [a,b]= [48,120]:=(beq_iff_eq.1 hs).trans (by decide +kernel);have hb:lowB b=120:=by simpa [low] using (List.cons.inj (List.cons.inj hs2).2).1
    exact (hex_of (h b (by simp))).1 hb
 unfold Chk.pieceL;cases hex<;>cases blanks<;>simp [h1,h2]
theorem chk_digits {r:Int × Int} (h:(Chk.numV r).2=0):r.2≠22:=by
 intro e;unfold Chk.numV at h;rw [if_pos e] at h
 exact absurd h (by decide)
theorem size_wide {ext body:Int} {l:List UInt8} (h:(Chk.sizeV false false ext body l).2=0) (hex blanks:Bool):Chk.sizeV hex blanks ext body l=Chk.sizeV false false ext body l:=by
 unfold Chk.sizeV at h ⊢;split at h
 ·rename_i h1;rw [if_pos h1,if_pos h1]
  have hd:∀x∈(Tgt.cutAt 59 l).1,Num.digitOf 16 x=true:=read_digits (chk_digits h);unfold Chk.sizeL;rw [piece_wide hd,piece_wide hd]
 ·exact absurd h (by decide)
theorem field_wide {lines:Nat} {l l':List Fld} {s:List UInt8} {most:Int} (h:fieldV 0 lines l s most=.inr l') (p:Nat):fieldV p lines l s most=.inr l':=by
 unfold fieldV at h ⊢
 by_cases h1:most<((lines+1:Nat):Int)
 ·rw [if_pos h1] at h;cases h
 simp only [if_neg h1] at h ⊢;have hg:Fd.goes 0 s=false:=by unfold Fd.goes;rw [none0,Bool.false_and]
 rw [if_neg (by rw [hg,Bool.false_and];exact Bool.false_ne_true)] at h;rw [Fd.clOf_zero] at h;rcases Fd.parse_zero s with h2 | ⟨n,v,h2⟩
 ·rw [h2] at h;cases h
 ·rw [h2] at h;have hs:=Fd.parse_strict h2;have hg2:Fd.goes p s=false:=by
   have hb:(!s.isEmpty&&Txt.blank (s.headD 0))=false:=by
    rcases Tgt.cut_cases 58 s with e | ⟨a,r,e,hn⟩
    ·rw [Tgt.cutAt_none 58 s e] at hs
     exact absurd (show false=true from hs.1) (by decide)
    ·rw [e,Tgt.cutAt_app 58 a r hn] at hs;obtain ⟨-,e1, -,e2,e3, -⟩:=hs;have e4:a=n:=e1;rw [e];rw [←e4] at e2 e3
     match a,e2,e3 with
     | y::t,_,e3=>
       have:=(Fd.token_of (Fd.all_of e3 y (by simp))).2.2.2;simp [this]
   unfold Fd.goes;rw [hb,Bool.and_false]
  rw [if_neg (by rw [hg2,Bool.false_and];exact Bool.false_ne_true),(Fd.parse_all h2).1 (Fd.clOf p)];exact h
def wideM (p:Nat) (m:Ln.M):Ln.M:={m with lf:=Qk.has p 1,cr:=Qk.has p 2}
def T.wide (p:Nat) (t:T):T:={t with rd:=wideM p t.rd}
structure T.Strict (t:T):Prop where
 lf:t.rd.lf=false
 cr:t.rd.cr=false
theorem decide_codes (ch:Bool) (body minor:Int) (fs:List Fld) (c:Frm.Cl):0≤(Frm.decideV c ch body minor fs).2.2:=by
 unfold Frm.decideV Frm.bodyV;split
 ·unfold Frm.hostsV;split
  ·decide
  ·split<;>decide
 ·split
  ·unfold Frm.winsV
   repeat' split
   all_goals decide
  ·split
   ·split<;>decide
   ·unfold Frm.fixedV;split
    ·exact Int.le_refl _
    ·show 0≤(Frm.lengthV c.lp c.lc c.lf c.ll body (find fs Frm.clN)).2;unfold Frm.lengthV;split
     ·decide
     ·split
      ·decide
      ·unfold Frm.numV;split
       ·decide
       ·split
        ·decide
        ·exact Int.le_refl _
theorem decide_pos {ch:Bool} {body minor:Int} {fs:List Fld} {c:Frm.Cl} {d:Int × Int × Int} (hd:d=Frm.decideV c ch body minor fs) (h1:d.2.2≠0):d.2.2.toNat≠0:=by have:=decide_codes ch body minor fs c;rw [←hd] at this;omega
theorem size_pos {hex blanks:Bool} {ext body:Int} {l:List UInt8} {z:Int × Int} (hz:z=Chk.sizeV hex blanks ext body l) (h1:z.2≠0):z.2.toNat≠0:=by
 have:0≤(Chk.sizeV hex blanks ext body l).2:=by
  unfold Chk.sizeV;split
  ·unfold Chk.numV;split
   ·decide
   ·split
    ·decide
    ·exact Int.le_refl _
  ·decide
 rw [←hz] at this;omega
section
variable {p:Nat} {b:Bd} {t t2:T} {s:List UInt8} {c:UInt8}
theorem of_strict (most:Int):(Ln.M.of 0 most).lf=false∧(Ln.M.of 0 most).cr=false:=⟨none0 1,none0 2⟩
theorem next_wide (m:Ln.M) (hl:m.lf=false) (hc:m.cr=false) (c:UInt8) (h:m.next c≠3):(wideM p m).next c=m.next c∧m.next c≠2:=by
 obtain ⟨lf,cr,most,buf,last,pend⟩:=m;obtain rfl:lf=false:=hl;obtain rfl:cr=false:=hc;unfold Ln.M.next at h ⊢;simp only [wideM] at h ⊢;by_cases h1:Ln.failed last=true
 ·rw [if_pos h1] at h;exact absurd rfl h
 ·have h1':Ln.failed last=false:=by simpa using h1
  simp only [h1',Bool.false_eq_true,if_false] at h ⊢;cases pend with
  | true=>
    by_cases h2:c=10
    ·subst h2;exact ⟨rfl,fun e=>absurd (show (1:Int)=2 from e) (by decide)⟩
    ·simp [h2] at h
  | false=>
    by_cases h2:c=10
    ·simp [h2] at h
    ·simp only [Bool.false_eq_true,if_false,if_neg h2];refine ⟨rfl,?_⟩;split
     ·decide
     ·split<;>decide
theorem byte_wide (m:Ln.M) (hl:m.lf=false) (hc:m.cr=false) (c:UInt8) (h:m.clear.next c≠3):(wideM p m).byte c=wideM p (m.byte c):=by have h1:=(next_wide (p:=p) m.clear hl hc c h).1;have e1:(wideM p m).clear=wideM p m.clear:=rfl;unfold Ln.M.byte;rw [e1,h1];rfl
theorem first_wide (h:(t.first 0 b s).1=0) (ht:t.Strict):(t.wide p).first p b s=(0,(t.first 0 b s).2.wide p)∧(t.first 0 b s).2.Strict:=by
 unfold T.first at h ⊢;by_cases h0:s= []
 ·rw [if_pos h0,none0] at h
  exact absurd (show (400:Nat)=0 from h) (by decide)
 ·rw [if_neg h0] at h ⊢;rw [if_neg h0];obtain ⟨m,x,k,e,hq⟩:∃m x k e,Rq.request (Rq.clOf 0) b.od s=(m,x,k,e):=⟨_,_,_,_,rfl⟩;rw [hq] at h ⊢;simp only at h ⊢;by_cases he:e=0
  ·subst he;rw [Rq.clOf_zero] at hq;rw [(Rq.extends_all hq).1 (Rq.clOf p)];exact ⟨rfl,ht.lf,ht.cr⟩
  ·rw [if_neg he] at h;exact absurd h he
theorem fin_wide (ht:t.Strict):(t.wide p).fin=t.fin.wide p∧t.fin.Strict:=⟨rfl,ht.lf,ht.cr⟩
theorem enter_wide (st:Nat) (most:Int):(t.wide p).enter p st most=(t.enter 0 st most).wide p∧(t.enter 0 st most).Strict:=⟨rfl,(of_strict most).1,(of_strict most).2⟩
theorem endHead_wide (h:(t.endHead 0 b).1=0) (hn:∀d:Int × Int × Int,d=Frm.decideV (Frm.clOf 0) b.ch b.x3 t.r.k t.r.fs→d.2.2≠0→d.2.2.toNat≠0) (ht:t.Strict) :
 (t.wide p).endHead p b=(0,(t.endHead 0 b).2.wide p)∧(t.endHead 0 b).2.Strict:=by
 unfold T.endHead at h ⊢;have hd:Frm.decideV (Frm.clOf p) b.ch b.x3 (t.wide p).r.k (t.wide p).r.fs=Frm.decideV (Frm.clOf p) b.ch b.x3 t.r.k t.r.fs:=rfl;rw [hd];by_cases h1:(Frm.decideV (Frm.clOf 0) b.ch b.x3 t.r.k t.r.fs).2.2=0
 ·rw [decide_wide h1 p];generalize Frm.decideV (Frm.clOf 0) b.ch b.x3 t.r.k t.r.fs=d at h h1 ⊢;simp only [ne_eq,h1,not_true_eq_false,if_false];by_cases h2:d.1=2
  ·simp only [if_pos h2];exact ⟨rfl,ht.lf,ht.cr⟩
  ·simp only [if_neg h2];by_cases h3:d.2.1=0
   ·simp only [if_pos h3];exact ⟨rfl,ht.lf,ht.cr⟩
   ·simp only [if_neg h3];exact ⟨rfl,ht.lf,ht.cr⟩
 ·have:=hn _ rfl h1;simp only [ne_eq,h1,not_false_eq_true,if_true] at h;exact absurd h this
theorem fields_wide (h:(t.fields 0 b s).1=0) (hn:∀d:Int × Int × Int,d=Frm.decideV (Frm.clOf 0) b.ch b.x3 t.r.k t.r.fs→d.2.2≠0→d.2.2.toNat≠0) (ht:t.Strict) :
 (t.wide p).fields p b s=(0,(t.fields 0 b s).2.wide p)∧(t.fields 0 b s).2.Strict:=by
 unfold T.fields at h ⊢;by_cases h0:s= []
 ·rw [if_pos h0] at h ⊢;rw [if_pos h0];exact endHead_wide h hn ht
 ·rw [if_neg h0] at h ⊢;rw [if_neg h0];obtain ⟨l,hl⟩:=listE_zero h fun e he=>fieldV_err he;have hl':fieldV p t.hl t.r.fs s b.x1=.inr l:=field_wide hl p;have e1:fieldV p (t.wide p).hl (t.wide p).r.fs s b.x1=.inr l:=hl';rw [e1,hl];exact ⟨rfl,ht.lf,ht.cr⟩
theorem trail_wide (h:(t.trail 0 b s).1=0) (ht:t.Strict):(t.wide p).trail p b s=(0,(t.trail 0 b s).2.wide p)∧(t.trail 0 b s).2.Strict:=by
 unfold T.trail at h ⊢;by_cases h0:s= []
 ·rw [if_pos h0,if_pos h0];exact ⟨rfl,ht.lf,ht.cr⟩
 ·rw [if_neg h0] at h ⊢;rw [if_neg h0];obtain ⟨l,hl⟩:=listE_zero h fun e he=>fieldV_err he;have e1:fieldV p (t.wide p).bl (t.wide p).r.ts s b.x5=.inr l:=field_wide hl p;rw [e1,hl];exact ⟨rfl,ht.lf,ht.cr⟩
theorem chunk_wide (h:(t.chunk 0 b s).1=0) (hn:∀z:Int × Int,z=Chk.sizeV false false b.x4 b.x3 s→z.2≠0→z.2.toNat≠0) (ht:t.Strict) :
 (t.wide p).chunk p b s=(0,(t.chunk 0 b s).2.wide p)∧(t.chunk 0 b s).2.Strict:=by
 unfold T.chunk at h ⊢;rw [none0,none0] at h ⊢;by_cases h1:(Chk.sizeV false false b.x4 b.x3 s).2=0
 ·rw [size_wide h1 (Qk.has p 27) (Qk.has p 28)];have hb:(t.wide p).r.body=t.r.body:=rfl;rw [hb];generalize Chk.sizeV false false b.x4 b.x3 s=z at h h1 ⊢;simp only [ne_eq,h1,not_true_eq_false,if_false] at h ⊢;by_cases h2:z.1=0
  ·simp only [if_pos h2];exact ⟨rfl,ht.lf,ht.cr⟩
  ·simp only [if_neg h2] at h ⊢;by_cases h3:b.x3-(t.r.body.length:Int)<z.1
   ·simp only [if_pos h3] at h
    exact absurd h (by decide)
   ·simp only [if_neg h3];exact ⟨rfl,ht.lf,ht.cr⟩
 ·have:=hn _ rfl h1;simp only [ne_eq,h1,not_false_eq_true,if_true] at h;exact absurd h this
theorem line_wide (h:(t.line 0 b s).1=0) (ht:t.Strict):(t.wide p).line p b s=(0,(t.line 0 b s).2.wide p)∧(t.line 0 b s).2.Strict:=by
 unfold T.line at h ⊢;have e:(t.wide p).st=t.st:=rfl;rw [e];by_cases h1:t.st=1
 ·simp only [if_pos h1] at h ⊢;exact first_wide h ht
 simp only [if_neg h1] at h ⊢;by_cases h2:t.st=2
 ·simp only [if_pos h2] at h ⊢;exact fields_wide h (fun d hd hn=>decide_pos hd hn) ht
 simp only [if_neg h2] at h ⊢;by_cases h3:t.st=4
 ·simp only [if_pos h3] at h ⊢;exact chunk_wide h (fun z hz hn=>size_pos hz hn) ht
 simp only [if_neg h3] at h ⊢;by_cases h4:t.st=7
 ·simp only [if_pos h4] at h ⊢;exact trail_wide h ht
 simp only [if_neg h4] at h ⊢;exact ⟨rfl,(enter_wide (p:=p) (t:=t) 4 b.x0).2⟩
theorem inLine_wide {u:Bool} (h:t.inLine 0 b c=(.live t2,u)) (ht:t.Strict):(t.wide p).inLine p b c=(.live (t2.wide p),u)∧t2.Strict:=by
 unfold T.inLine at h ⊢;have e1:(t.wide p).rd.clear=wideM p t.rd.clear:=rfl;have e2:(t.wide p).rd=wideM p t.rd:=rfl;by_cases h3:t.rd.clear.next c=3
 ·rw [h3] at h
  exact absurd (congrArg Prod.fst h) (by simp)
 obtain ⟨h1,h2⟩:=next_wide (p:=p) t.rd.clear ht.lf ht.cr c h3;have hb:=byte_wide (p:=p) t.rd ht.lf ht.cr c h3;rw [e1,e2,h1,hb];generalize hn:t.rd.clear.next c=n at h h1 h2 h3 ⊢;simp only at h ⊢;by_cases h0:n=0
 ·simp only [if_pos h0] at h ⊢;obtain ⟨rfl,rfl⟩:({t with rd:=t.rd.byte c}:T)=t2∧true=u:=by simpa using h
  exact ⟨rfl,ht.lf,ht.cr⟩
 simp only [if_neg h0,if_neg h3] at h ⊢;by_cases h4:n=4
 ·simp only [if_pos h4,none0,Bool.and_false,Bool.false_eq_true,if_false] at h
  exact absurd (congrArg Prod.fst h) (by simp)
 simp only [if_neg h4] at h ⊢;have hl:(wideM p (t.rd.byte c)).line=(t.rd.byte c).line:=rfl;rw [hl];have e5:({t.wide p with rd:=wideM p (t.rd.byte c)}:T)=({t with rd:=t.rd.byte c}:T).wide p:=rfl;rw [e5];have hs:({t with rd:=t.rd.byte c}:T).Strict:=⟨ht.lf,ht.cr⟩;generalize ({t with rd:=t.rd.byte c}:T)=t1 at h hs ⊢;generalize (t.rd.byte c).line=s at h ⊢;obtain ⟨hq,rfl⟩:=Prod.mk.inj h;by_cases hz:(t1.line 0 b s).1=0
 ·obtain ⟨k1,k2⟩:=line_wide (p:=p) hz hs;rw [k1];unfold ends at hq ⊢;rw [if_pos hz] at hq;obtain rfl:(t1.line 0 b s).2=t2:=by simpa using hq
  exact ⟨rfl,k2⟩
 ·unfold ends at hq;rw [if_neg hz] at hq;cases hq
theorem counted_wide:(t.wide p).counted=t.counted.wide p:=by unfold T.counted;have e:(t.wide p).cnt=t.cnt:=rfl;rw [e];cases t.cnt<;>rfl
theorem endData_wide (ht:t.Strict):(t.wide p).endData p=(t.endData 0).wide p∧(t.endData 0).Strict:=by
 unfold T.endData;have e:(t.wide p).r.ch=t.r.ch:=rfl;rw [e];cases t.r.ch with
 | true=>exact enter_wide 6 0
 | false=>exact fin_wide ht
theorem look_wide {u:Bool} (h:t.look 0 b c=(.live t2,u)) (ht:t.Strict):(t.wide p).look p b c=(.live (t2.wide p),u)∧t2.Strict:=by
 unfold T.look at h ⊢;have e:(t.wide p).st=t.st:=rfl;have e2:(t.wide p).left=t.left:=rfl;have e3:(t.wide p).keep c=(t.keep c).wide p:=rfl;rw [e,e2,e3];by_cases h1:bodied t.st=true
 ·simp only [if_pos h1] at h ⊢;have hk:(t.keep c).Strict:=⟨ht.lf,ht.cr⟩;by_cases h2:t.left=1
  ·simp only [if_pos h2] at h ⊢;obtain ⟨rfl,rfl⟩:(t.keep c).endData 0=t2∧true=u:=by simpa using h
   rw [(endData_wide (p:=p) hk).1];exact ⟨rfl,(endData_wide (p:=p) hk).2⟩
  ·simp only [if_neg h2] at h ⊢;obtain ⟨rfl,rfl⟩:t.keep c=t2∧true=u:=by simpa using h
   exact ⟨rfl,hk⟩
 ·simp only [if_neg h1] at h ⊢;by_cases h2:headed t.st=true
  ·simp only [if_pos h2] at h ⊢;rw [counted_wide];have e4:(t.counted.wide p).size=t.counted.size:=rfl;rw [e4]
   by_cases h3:b.x2<(t.counted.size:Int)
   ·simp only [if_pos h3] at h
    exact absurd (congrArg Prod.fst h) (by simp)
   ·simp only [if_neg h3] at h ⊢;exact inLine_wide h ⟨by rw [counted_rd];exact ht.lf,by rw [counted_rd];exact ht.cr⟩
  ·simp only [if_neg h2] at h ⊢;exact inLine_wide h ht
theorem take_wide (h:t.take 0 b c=.live t2) (ht:t.Strict):(t.wide p).take p b c=.live (t2.wide p)∧t2.Strict:=by
 unfold T.take at h ⊢;have e:({t.wide p with cnt:=false}:T)=({t with cnt:=false}:T).wide p:=rfl;have hs:({t with cnt:=false}:T).Strict:=⟨ht.lf,ht.cr⟩;rw [e];generalize ({t with cnt:=false}:T)=t0 at h hs ⊢;rcases hq:t0.look 0 b c with ⟨q,u⟩;rw [hq] at h;cases q with
 | dead e o=>cases u<;>cases h
 | live t1=>
   obtain ⟨k1,k2⟩:=look_wide (p:=p) hq hs;rw [k1];cases u with
   | true=>
     obtain rfl:t1=t2:=by simpa using h
     exact ⟨rfl,k2⟩
   | false=>
     simp only at h ⊢;rcases hq2:t1.look 0 b c with ⟨q2,u2⟩;rw [hq2] at h;simp only at h;subst h;obtain ⟨k3,k4⟩:=look_wide (p:=p) hq2 k2;rw [k3];exact ⟨rfl,k4⟩
theorem new_wide:T.new p b=(T.new 0 b).wide p∧(T.new 0 b).Strict:=⟨rfl,none0 1,none0 2⟩
end
end Go.Proofs.YtimoakmcelocfaaGreat.Pg
namespace Go.Proofs.YtimoakmcelocfaaGreat.Pg
open Go.RowKit Base Txt Par
structure RelW (m:Ln.M) (q:Ln.R):Prop where
 lf:q.lf=m.lf
 cr:q.cr=m.cr
 most:q.most=m.most
 dead:q.dead=false
 CR:q.CR=m.pend
 B:q.B=if Ln.ended m.last then [] else m.buf
structure Fresh (m:Ln.M):Prop where
 buf:(if Ln.ended m.last then [] else m.buf)= []
 pend:m.pend=false
theorem RelW.step {m:Ln.M} {q:Ln.R} (h:RelW m q) (hm:m.Ok) (hf:Ln.failed m.last=false) (c:UInt8) :
 q.how c=m.clear.next c∧(Ln.failed (m.clear.next c)=false→RelW (m.byte c) (q.byte c)∧(q.byte c).L=(m.byte c).line):=by
 have hr:Ln.Rel m {q with L:=m.line}:=⟨h.lf,h.cr,h.most,h.dead.trans hf.symm,rfl,fun _=>h.CR,fun _=>h.B⟩;have h1:=Ln.step_how hr hm c;have h2:=Ln.step_rel hr hm c;have e:({q with L:=m.line}:Ln.R).byte c=q.byte c:=by simp [Ln.R.byte,Ln.R.start,Ln.R.fin,Ln.R.die,h.dead]
 rw [e] at h2;refine ⟨h1,fun hn=>?_⟩;exact ⟨⟨h2.lf,h2.cr,h2.most,h2.dead.trans hn,h2.CR hn,h2.B hn⟩,h2.L⟩
theorem Fresh.isNew {t:T} (h:Fresh t.rd):t.isNew=true:=by
 have h1:t.rd.len=0:=by
  have:=congrArg List.length h.buf;unfold Ln.M.len;split
  ·rfl
  ·rename_i hn;rw [if_neg hn] at this;exact this
 unfold T.isNew;rw [h1,h.pend];rfl
structure R0 (p:Nat) (b:Bd) (t:T) (s:S):Prop where
 e:s.e=0
 st:t.st=s.st+1
 r:s.r=t.r
 out:s.out=t.out
 head:s.head=t.size
 hl:s.st≤1→s.lines=t.hl
 bl:s.st=6→s.lines=t.bl
 bl0:s.st≠6→t.bl=0
 left:Par.bodied s.st=true→s.left=t.left
 rd:Par.bodied s.st=false→RelW t.rd s.rd
 fr:Par.bodied s.st=true→Fresh t.rd
 lf:t.rd.lf=Qk.has p 1
 cr:t.rd.cr=Qk.has p 2
 most:s.st≠5→t.rd.most=Ln.mid b.x0
 beh:s.st=5→t.r.body≠ []
 ch:t.r.ch=decide (3≤s.st)
structure RR (p:Nat) (b:Bd) (t:T) (s:S):Prop extends R0 p b t s where
 fresh:s.fresh=t.next
 clean:s.clean=(t.st==1&&t.isNew)
def RQ (p:Nat) (b:Bd):Q→S→Prop
 | .live t,s=>RR p b t s
 | .dead e o,s=>s.e=e∧e≠0∧s.out=o∧s.clean=false
section
variable {p:Nat} {b:Bd} {t:T} {s:S}
theorem Fresh.nl {m:Ln.M} (h:Fresh m) (hl:m.lf=Qk.has p 1) (hc:m.cr=Qk.has p 2) (hm:m.most=Ln.mid b.x0):RelW m (nl p b.x0):=
 ⟨hl.symm,hc.symm,hm.symm,rfl,h.pend.symm,h.buf.symm⟩
theorem fresh_of (most:Int):Fresh (Ln.M.of p most):=⟨rfl,rfl⟩
theorem next_st (h3:t.st≠3) (h4:t.st≠4):t.next=false:=by unfold T.next;rw [beq_eq_false_iff_ne.2 h3,beq_eq_false_iff_ne.2 h4];rfl
theorem next_body (h:t.r.body≠ []):t.next=false:=by
 unfold T.next;have:t.r.body.isEmpty=false:=by
  cases hb:t.r.body with
  | nil=>exact absurd hb h
  | cons _ _=>rfl
 rw [this,Bool.false_and,Bool.and_false]
theorem clean_st (h:t.st≠1):(t.st==1&&t.isNew)=false:=by rw [beq_eq_false_iff_ne.2 h];rfl
theorem ends_err {e:Nat} {t:T} (he:e≠0):ends (e,t)=.dead e t.out:=if_neg he
theorem fail_sim {e:Nat} (h:R0 p b t s) (he:e≠0):RQ p b (.dead e t.out) (s.fail e):=⟨rfl,he,h.out,rfl⟩
theorem bod (h:R0 p b t s):Pg.bodied t.st=Par.bodied s.st:=by
 rw [h.st];unfold Pg.bodied Par.bodied;have e1:(s.st+1==3)=(s.st==2):=by rw [Bool.eq_iff_iff,beq_iff_eq,beq_iff_eq];omega
 have e2:(s.st+1==5)=(s.st==4):=by rw [Bool.eq_iff_iff,beq_iff_eq,beq_iff_eq];omega
 rw [e1,e2]
theorem hed (h:R0 p b t s):Pg.headed t.st=Par.headed s.st:=by
 rw [h.st];unfold Pg.headed Par.headed;have e1:(s.st+1==1)=(s.st==0):=by rw [Bool.eq_iff_iff,beq_iff_eq,beq_iff_eq];omega
 have e2:(s.st+1==2)=(s.st==1):=by rw [Bool.eq_iff_iff,beq_iff_eq,beq_iff_eq];omega
 have e3:(s.st+1==7)=(s.st==6):=by rw [Bool.eq_iff_iff,beq_iff_eq,beq_iff_eq];omega
 rw [e1,e2,e3]
theorem long_sim (h:R0 p b t s):Pg.longE t.st=Par.longE s.st∧Par.longE s.st≠0:=by
 rw [h.st];unfold Pg.longE Par.longE Par.headed;by_cases h0:s.st=0
 ·simp [h0]
 ·by_cases h1:s.st=1
  ·simp [h1]
  ·by_cases h6:s.st=6
   ·simp [h6]
   ·rw [if_neg (by omega),if_neg (by omega),if_neg h0,if_neg (by simp [h0,h1,h6])];decide
theorem whole_sim (h:R0 p b t s) (hf:Fresh t.rd) (h5:s.st≠5):RR p b t.fin (s.whole p b) where
 e:=h.e
 st:=rfl
 r:=rfl
 out:=by show s.out ++ [s.r]=t.out ++ [t.r];rw [h.out,h.r]
 head:=rfl
 hl:=fun _=>rfl
 bl:=fun e=>absurd e (by show (0:Nat)≠6;decide)
 bl0:=fun _=>rfl
 left:=fun e=>absurd e (by show Par.bodied 0≠true;decide)
 rd:=fun _=>hf.nl h.lf h.cr (h.most h5)
 fr:=fun e=>absurd e (by show Par.bodied 0≠true;decide)
 lf:=h.lf
 cr:=h.cr
 most:=fun _=>h.most h5
 beh:=fun e=>absurd e (by show (0:Nat)≠5;decide)
 ch:=rfl
 fresh:=(next_st (t:=t.fin) (by show (1:Nat)≠3;decide) (by show (1:Nat)≠4;decide)).symm
 clean:=by
  have:t.fin.isNew=true:=Fresh.isNew (t:=t.fin) hf
  show true=((1:Nat)==1&&t.fin.isNew);rw [this];rfl
theorem first_sim (h:R0 p b t s) (hf:Fresh t.rd) (hc:s.clean=false) (hfr:s.fresh=false) (hs:s.st=0) (ln:List UInt8):RQ p b (ends (t.first p b ln)) (s.first p b ln):=by
 have ht:t.st=1:=by rw [h.st,hs]
 unfold T.first S.first;by_cases h0:ln= []
 ·simp only [if_pos h0];cases hq:Qk.has p 0 with
  | true=>
    simp only [if_true]
    exact {h with
     fresh:=hfr.trans (next_st (t:=t) (by omega) (by omega)).symm
     clean:=by
      show true= _
      rw [hf.isNew,ht];rfl}
  | false=>
    simp only [Bool.false_eq_true,if_false];rw [ends_err (by decide)]
    exact fail_sim h (by decide)
 ·simp only [if_neg h0];generalize Rq.request (Rq.clOf p) b.od ln=q;by_cases hq:q.2.2.2=0
  ·simp only [hq,if_true,ne_eq,not_true_eq_false,if_false];show RR p b _ _
   exact {
    e:=h.e
    st:=rfl
    r:=by show ({s.r with m:=ba q.1,x:=ba q.2.1,k:=(q.2.2.1:Int)}:Rec.R)={t.r with m:=ba q.1,x:=ba q.2.1,k:=(q.2.2.1:Int)};rw [h.r]
    out:=h.out
    head:=h.head
    hl:=fun _=>h.hl (by omega)
    bl:=fun e=>absurd e (by show (1:Nat)≠6;decide)
    bl0:=fun _=>h.bl0 (by omega)
    left:=fun e=>absurd e (by show Par.bodied 1≠true;decide)
    rd:=fun _=>h.rd (by rw [hs];rfl)
    fr:=fun e=>absurd e (by show Par.bodied 1≠true;decide)
    lf:=h.lf
    cr:=h.cr
    most:=fun _=>h.most (by omega)
    beh:=fun e=>absurd e (by show (1:Nat)≠5;decide)
    ch:=by show t.r.ch=decide (3≤1);rw [h.ch,hs];rfl
    fresh:=hfr.trans (next_st (t:={t with r:={t.r with m:=ba q.1,x:=ba q.2.1,k:=(q.2.2.1:Int)},st:=2}) (by show (2:Nat)≠3;decide) (by show (2:Nat)≠4;decide)).symm
    clean:=hc}
  ·rw [if_neg hq,if_pos hq,ends_err hq];exact fail_sim h hq
theorem over_sim (h:R0 p b t s) (ok:t.Ok) (hf:Fresh t.rd) (hc:s.clean=false) (hs:s.st=1):RQ p b (ends (t.endHead p b)) (s.over p b):=by
 have ht:t.st=2:=by rw [h.st,hs]
 have hbody:t.r.body= []:=ok.early (by omega);have hnew:=hf.isNew;unfold T.endHead S.over;rw [h.r];have hp:=fun h1=>decide_pos (d:=Frm.decideV (Frm.clOf p) b.ch b.x3 t.r.k t.r.fs) rfl h1;generalize Frm.decideV (Frm.clOf p) b.ch b.x3 t.r.k t.r.fs=d at hp ⊢;by_cases h1:d.2.2=0
 ·simp only [h1,ne_eq,not_true_eq_false,if_false];by_cases h2:d.1=2
  ·simp only [if_pos h2];show RR p b _ _
   exact {
    e:=h.e
    st:=rfl
    r:=rfl
    out:=h.out
    head:=h.head
    hl:=fun e=>absurd e (by show¬(3:Nat)≤1;decide)
    bl:=fun e=>absurd e (by show (3:Nat)≠6;decide)
    bl0:=fun _=>h.bl0 (by omega)
    left:=fun e=>absurd e (by show Par.bodied 3≠true;decide)
    rd:=fun _=>hf.nl h.lf h.cr (h.most (by omega))
    fr:=fun e=>absurd e (by show Par.bodied 3≠true;decide)
    lf:=h.lf
    cr:=h.cr
    most:=fun _=>h.most (by omega)
    beh:=fun e=>absurd e (by show (3:Nat)≠5;decide)
    ch:=rfl
    fresh:=by show true=(((4:Nat)==3|| (4:Nat)==4)&&(t.r.body.isEmpty&&t.isNew));rw [hbody,hnew];rfl
    clean:=hc.trans (clean_st (t:={t with r:={t.r with ch:=true},st:=4}) (by show (4:Nat)≠1;decide)).symm}
  ·simp only [if_neg h2];by_cases h3:d.2.1=0
   ·simp only [if_pos h3]
    exact whole_sim h hf (by omega)
   ·simp only [if_neg h3];show RR p b _ _
    exact {
     e:=h.e
     st:=rfl
     r:=rfl
     out:=h.out
     head:=h.head
     hl:=fun e=>absurd e (by show¬(2:Nat)≤1;decide)
     bl:=fun e=>absurd e (by show (2:Nat)≠6;decide)
     bl0:=fun _=>h.bl0 (by omega)
     left:=fun _=>rfl
     rd:=fun e=>absurd e (by show Par.bodied 2≠false;decide)
     fr:=fun _=>hf
     lf:=h.lf
     cr:=h.cr
     most:=fun _=>h.most (by omega)
     beh:=fun e=>absurd e (by show (2:Nat)≠5;decide)
     ch:=by show t.r.ch=decide (3≤2);rw [h.ch,hs];rfl
     fresh:=by show true=(((3:Nat)==3|| (3:Nat)==4)&&(t.r.body.isEmpty&&t.isNew));rw [hbody,hnew];rfl
     clean:=hc.trans (clean_st (t:={t with left:=d.2.1.toNat,st:=3}) (by show (3:Nat)≠1;decide)).symm}
 ·simp only [ne_eq,h1,not_false_eq_true,if_true];rw [ends_err (hp h1)]
  exact fail_sim h (hp h1)
theorem fields_sim (h:R0 p b t s) (ok:t.Ok) (hf:Fresh t.rd) (hc:s.clean=false) (hfr:s.fresh=false) (hs:s.st=1) (ln:List UInt8):RQ p b (ends (t.fields p b ln)) (s.fields p b ln):=by
 have ht:t.st=2:=by rw [h.st,hs]
 unfold T.fields S.fields;by_cases h0:ln= []
 ·simp only [if_pos h0];exact over_sim h ok hf hc hs
 ·simp only [if_neg h0];rw [h.r,h.hl (by omega)];cases hv:fieldV p t.hl t.r.fs ln b.x1 with
  | inl e=>
    have he:e≠0:=by rcases fieldV_err hv with e1 | e1<;>rw [e1]<;>decide
    simp only [listE];rw [ends_err he];exact ⟨rfl,he,h.out,rfl⟩
  | inr l=>
    show RR p b _ _
    exact {
     e:=h.e
     st:=h.st
     r:=rfl
     out:=h.out
     head:=h.head
     hl:=fun _=>rfl
     bl:=fun e=>absurd e (by show s.st≠6;omega)
     bl0:=fun _=>h.bl0 (by omega)
     left:=fun e=>absurd e (by show Par.bodied s.st≠true;rw [hs];decide)
     rd:=fun _=>h.rd (by rw [hs];rfl)
     fr:=fun e=>absurd e (by show Par.bodied s.st≠true;rw [hs];decide)
     lf:=h.lf
     cr:=h.cr
     most:=fun _=>h.most (by omega)
     beh:=fun e=>absurd e (by show s.st≠5;omega)
     ch:=h.ch
     fresh:=hfr.trans (next_st (t:={t with hl:=t.hl+1,r:={t.r with fs:=l}}) (by show t.st≠3;omega) (by show t.st≠4;omega)).symm
     clean:=hc.trans (clean_st (t:={t with hl:=t.hl+1,r:={t.r with fs:=l}}) (by show t.st≠1;omega)).symm}
theorem trail_sim (h:R0 p b t s) (hf:Fresh t.rd) (hc:s.clean=false) (hfr:s.fresh=false) (hs:s.st=6) (ln:List UInt8):RQ p b (ends (t.trail p b ln)) (s.trail p b ln):=by
 have ht:t.st=7:=by rw [h.st,hs]
 unfold T.trail S.trail;by_cases h0:ln= []
 ·simp only [if_pos h0]
  exact whole_sim h hf (by omega)
 ·simp only [if_neg h0];rw [h.r,h.bl hs];cases hv:fieldV p t.bl t.r.ts ln b.x5 with
  | inl e=>
    have he:e≠0:=by rcases fieldV_err hv with e1 | e1<;>rw [e1]<;>decide
    simp only [listE];rw [ends_err he];exact ⟨rfl,he,h.out,rfl⟩
  | inr l=>
    show RR p b _ _
    exact {
     e:=h.e
     st:=h.st
     r:=rfl
     out:=h.out
     head:=h.head
     hl:=fun e=>absurd e (by show¬s.st≤1;omega)
     bl:=fun _=>rfl
     bl0:=fun e=>absurd hs e
     left:=fun e=>absurd e (by show Par.bodied s.st≠true;rw [hs];decide)
     rd:=fun _=>h.rd (by rw [hs];rfl)
     fr:=fun e=>absurd e (by show Par.bodied s.st≠true;rw [hs];decide)
     lf:=h.lf
     cr:=h.cr
     most:=fun _=>h.most (by omega)
     beh:=fun e=>absurd e (by show s.st≠5;omega)
     ch:=h.ch
     fresh:=hfr.trans (next_st (t:={t with bl:=t.bl+1,r:={t.r with ts:=l}}) (by show t.st≠3;omega) (by show t.st≠4;omega)).symm
     clean:=hc.trans (clean_st (t:={t with bl:=t.bl+1,r:={t.r with ts:=l}}) (by show t.st≠1;omega)).symm}
theorem chunk_sim (h:R0 p b t s) (hf:Fresh t.rd) (hc:s.clean=false) (hfr:s.fresh=false) (hs:s.st=3) (ln:List UInt8):RQ p b (ends (t.chunk p b ln)) (s.chunk p b ln):=by
 have ht:t.st=4:=by rw [h.st,hs]
 unfold T.chunk S.chunk;rw [h.r];have hp:=fun h1=>size_pos (z:=Chk.sizeV (Qk.has p 27) (Qk.has p 28) b.x4 b.x3 ln) rfl h1;generalize Chk.sizeV (Qk.has p 27) (Qk.has p 28) b.x4 b.x3 ln=z at hp ⊢;by_cases h1:z.2=0
 ·simp only [h1,ne_eq,not_true_eq_false,if_false];by_cases h2:z.1=0
  ·simp only [if_pos h2];show RR p b _ _
   exact {
    e:=h.e
    st:=rfl
    r:=rfl
    out:=h.out
    head:=h.head
    hl:=fun e=>absurd e (by show¬(6:Nat)≤1;decide)
    bl:=fun _=>(h.bl0 (by omega)).symm
    bl0:=fun e=>absurd rfl e
    left:=fun e=>absurd e (by show Par.bodied 6≠true;decide)
    rd:=fun _=>hf.nl h.lf h.cr (h.most (by omega))
    fr:=fun e=>absurd e (by show Par.bodied 6≠true;decide)
    lf:=h.lf
    cr:=h.cr
    most:=fun _=>h.most (by omega)
    beh:=fun e=>absurd e (by show (6:Nat)≠5;decide)
    ch:=by show t.r.ch=decide (3≤6);rw [h.ch,hs];rfl
    fresh:=hfr.trans (next_st (t:={t with st:=7}) (by show (7:Nat)≠3;decide) (by show (7:Nat)≠4;decide)).symm
    clean:=hc.trans (clean_st (t:={t with st:=7}) (by show (7:Nat)≠1;decide)).symm}
  ·simp only [if_neg h2];by_cases h3:b.x3-(t.r.body.length:Int)<z.1
   ·simp only [if_pos h3];rw [ends_err (by decide)]
    exact fail_sim h (by decide)
   ·simp only [if_neg h3];show RR p b _ _
    exact {
     e:=h.e
     st:=rfl
     r:=rfl
     out:=h.out
     head:=h.head
     hl:=fun e=>absurd e (by show¬(4:Nat)≤1;decide)
     bl:=fun e=>absurd e (by show (4:Nat)≠6;decide)
     bl0:=fun _=>h.bl0 (by omega)
     left:=fun _=>rfl
     rd:=fun e=>absurd e (by show Par.bodied 4≠false;decide)
     fr:=fun _=>hf
     lf:=h.lf
     cr:=h.cr
     most:=fun _=>h.most (by omega)
     beh:=fun e=>absurd e (by show (4:Nat)≠5;decide)
     ch:=by show t.r.ch=decide (3≤4);rw [h.ch,hs];rfl
     fresh:=hfr.trans (next_st (t:={t with left:=z.1.toNat,st:=5}) (by show (5:Nat)≠3;decide) (by show (5:Nat)≠4;decide)).symm
     clean:=hc.trans (clean_st (t:={t with left:=z.1.toNat,st:=5}) (by show (5:Nat)≠1;decide)).symm}
 ·simp only [ne_eq,h1,not_false_eq_true,if_true];rw [ends_err (hp h1)]
  exact fail_sim h (hp h1)
theorem enter_sim (h:R0 p b t s) (hs:s.st=5):R0 p b (t.enter p 4 b.x0) {s with st:=3,rd:=nl p b.x0} where
 e:=h.e
 st:=rfl
 r:=h.r
 out:=h.out
 head:=h.head
 hl:=fun e=>absurd e (by show¬(3:Nat)≤1;decide)
 bl:=fun e=>absurd e (by show (3:Nat)≠6;decide)
 bl0:=fun _=>h.bl0 (by omega)
 left:=fun e=>absurd e (by show Par.bodied 3≠true;decide)
 rd:=fun _=>(fresh_of b.x0).nl rfl rfl rfl
 fr:=fun e=>absurd e (by show Par.bodied 3≠true;decide)
 lf:=rfl
 cr:=rfl
 most:=fun _=>rfl
 beh:=fun e=>absurd e (by show (3:Nat)≠5;decide)
 ch:=by show t.r.ch=decide (3≤3);rw [h.ch,hs];rfl
theorem line_sim (h:R0 p b t s) (ok:t.Ok) (hf:Fresh t.rd) (hc:s.clean=false) (hfr:s.fresh=false) (hn:Par.bodied s.st=false) (ln:List UInt8):RQ p b (ends (t.line p b ln)) (s.ended p b ln):=by
 have h7:=ok.st;have ht:=h.st;have hn2:s.st≠2∧s.st≠4:=by constructor<;> (intro e;rw [e] at hn;exact absurd hn (by decide))
 have hcs:s.st=0∨s.st=1∨s.st=3∨s.st=5∨s.st=6:=by omega
 unfold T.line S.ended;rcases hcs with e | e | e | e | e
 ·rw [ht,e];exact first_sim h hf hc hfr e ln
 ·rw [ht,e];exact fields_sim h ok hf hc hfr e ln
 ·rw [ht,e];exact chunk_sim h hf hc hfr e ln
 ·rw [ht,e];have h1:=enter_sim h e;show RR p b (t.enter p 4 b.x0) {s with st:=3,rd:=nl p b.x0}
  exact {h1 with
   fresh:=hfr.trans (next_body (t:=t.enter p 4 b.x0) (h.beh e)).symm
   clean:=hc.trans (clean_st (t:=t.enter p 4 b.x0) (by show (4:Nat)≠1;decide)).symm}
 ·rw [ht,e];exact trail_sim h hf hc hfr e ln
theorem body_sim (h:R0 p b t s) (ok:t.Ok) (hc:s.clean=false) (hfr:s.fresh=false) (hn:Par.bodied s.st=true) (c:UInt8) :
 RR p b (if t.left=1 then (t.keep c).endData p else t.keep c) (s.bodyB p b c):=by
 have hst:s.st=2∨s.st=4:=by unfold Par.bodied at hn;simpa using hn
 have hl:1≤t.left:=ok.left (by rw [bod h];exact hn);have hle:=h.left hn;have hfr0:=h.fr hn;have hbd:(t.keep c).r.body≠ []:=by show t.r.body ++ [c]≠ [];simp
 have er:({s.r with body:=s.r.body ++ [c]}:Rec.R)={t.r with body:=t.r.body ++ [c]}:=by rw [h.r]
 have hk:R0 p b (t.keep c) {s with r:={s.r with body:=s.r.body ++ [c]},left:=s.left-1}:={
  e:=h.e
  st:=h.st
  r:=er
  out:=h.out
  head:=h.head
  hl:=h.hl
  bl:=h.bl
  bl0:=h.bl0
  left:=fun _=>by show s.left-1=t.left-1;rw [hle]
  rd:=fun e=>h.rd e
  fr:=fun _=>hfr0
  lf:=h.lf
  cr:=h.cr
  most:=h.most
  beh:=fun _=>hbd
  ch:=h.ch}
 unfold S.bodyB;by_cases h1:1<s.left
 ·rw [if_neg (by omega)];simp only [if_pos h1]
  exact {hk with
   fresh:=hfr.trans (next_body hbd).symm
   clean:=hc.trans (clean_st (t:=t.keep c) (by show t.st≠1;have:=h.st;omega)).symm}
 ·rw [if_pos (by omega)];simp only [if_neg h1];unfold T.endData;have e2:(t.keep c).r.ch=t.r.ch:=rfl;rw [e2,h.ch];rcases hst with e | e
  ·simp only [e,Nat.reduceLeDiff,decide_false,Bool.false_eq_true,if_false,if_true]
   have:=whole_sim hk hfr0 (by show s.st≠5;omega);rw [e] at this;exact this
  ·simp only [e,Nat.reduceLeDiff,decide_true,if_true,Nat.reduceEqDiff,if_false]
   exact {
    e:=h.e
    st:=rfl
    r:=er
    out:=h.out
    head:=h.head
    hl:=fun e=>absurd e (by show¬(5:Nat)≤1;decide)
    bl:=fun e=>absurd e (by show (5:Nat)≠6;decide)
    bl0:=fun _=>h.bl0 (by omega)
    left:=fun e=>absurd e (by show Par.bodied 5≠true;decide)
    rd:=fun _=>⟨rfl,rfl,rfl,rfl,rfl,rfl⟩
    fr:=fun e=>absurd e (by show Par.bodied 5≠true;decide)
    lf:=rfl
    cr:=rfl
    most:=fun e=>absurd rfl e
    beh:=fun _=>hbd
    ch:=by show t.r.ch=decide (3≤5);rw [h.ch,e];rfl
    fresh:=hfr.trans (next_st (t:=(t.keep c).enter p 6 0) (by show (6:Nat)≠3;decide) (by show (6:Nat)≠4;decide)).symm
    clean:=hc.trans (clean_st (t:=(t.keep c).enter p 6 0) (by show (6:Nat)≠1;decide)).symm}
theorem ended_fresh {m:Ln.M} {c:UInt8} {n:Int} (hn:m.clear.next c=n) (h:n=1∨n=2):Fresh (m.byte c)∧Ln.failed (m.byte c).last=false:=by
 have hl:(m.byte c).last=n:=hn;refine ⟨⟨?_,?_⟩,?_⟩
 ·rw [hl,if_pos];rcases h with rfl | rfl<;>rfl
 ·show (m.clear.next c==0&&c==13)=false;rw [hn];rcases h with rfl | rfl<;>rfl
 ·rw [hl];rcases h with rfl | rfl<;>rfl
theorem byte_some {m:Ln.M} {c:UInt8} (hm:m.next c=0):¬((m.told c).buf= []∧(m.next c==0&&c==13)=false):=by
 rintro ⟨h1,h2⟩;rw [hm] at h2;have hc:c≠13:=by
  intro e;rw [e] at h2
  exact absurd h2 (by decide)
 have hk:m.keeps c=true:=by
  unfold Ln.M.next at hm;unfold Ln.M.keeps;by_cases g1:Ln.failed m.last=true
  ·simp [g1] at hm
  ·by_cases g2:m.pend=true
   ·by_cases g3:c=10
    ·simp [g1,g2,g3] at hm
    ·by_cases g4:m.cr=true
     ·simp [g1,g2,g3,g4] at hm
     ·simp [g1,g2,g3,g4] at hm
   ·by_cases g3:c=10
    ·by_cases g4:m.lf=true
     ·simp [g1,g2,g3,g4] at hm
     ·simp [g1,g2,g3,g4] at hm
    ·by_cases g5:m.buf.length=m.most
     ·simp [g1,g2,g3,hc,g5] at hm
     ·simp [g1,g2,g3,hc,g5]
 have:(m.told c).buf=m.buf ++ [c]:=by show m.buf++(if m.keeps c then [c] else [])= _;rw [if_pos hk]
 rw [this] at h1;simp at h1
theorem more_new {c:UInt8} (hn:t.rd.clear.next c=0):({t with rd:=t.rd.byte c}:T).isNew=false:=by
 have h:=byte_some (m:=t.rd.clear) hn;have e1:(t.rd.byte c).len=(t.rd.clear.told c).buf.length:=by unfold Ln.M.len;have hl:(t.rd.byte c).last=0:=hn;rw [hl];rfl
 have e2:(t.rd.byte c).pend=(t.rd.clear.next c==0&&c==13):=rfl;unfold T.isNew;rw [Bool.eq_false_iff];intro hh;rw [Bool.and_eq_true,decide_eq_true_eq,Bool.not_eq_true'] at hh;exact h ⟨List.eq_nil_of_length_eq_zero (e1 ▸ hh.1),e2 ▸ hh.2⟩
theorem next_new (h:t.isNew=false):t.next=false:=by unfold T.next;rw [h,Bool.and_false,Bool.and_false]
theorem step_sim (h:R0 p b t s) (hn:Par.bodied s.st=false) (ok:t.Ok) (c:UInt8) :
 s.rd.how c=t.rd.clear.next c∧(Ln.failed (t.rd.clear.next c)=false→
  R0 p b {t with rd:=t.rd.byte c} {s with fresh:=false,rd:=s.rd.byte c}∧({t with rd:=t.rd.byte c}:T).Ok∧(s.rd.byte c).L=(t.rd.byte c).line):=by
 obtain ⟨h1,h2⟩:=(h.rd hn).step ok.rd ok.nf c;refine ⟨h1,fun hf=>?_⟩;obtain ⟨h3,h4⟩:=h2 hf
 exact ⟨{
  e:=h.e
  st:=h.st
  r:=h.r
  out:=h.out
  head:=h.head
  hl:=h.hl
  bl:=h.bl
  bl0:=h.bl0
  left:=h.left
  rd:=fun _=>h3
  fr:=fun e=>absurd (hn.symm.trans e) (by decide)
  lf:=h.lf
  cr:=h.cr
  most:=h.most
  beh:=h.beh
  ch:=h.ch},ok.byteR c hf,h4⟩
theorem nextM_is (m:Ln.M) (c:UInt8) (hp:m.pend=false):m.next c≠2:=by
 unfold Ln.M.next;split
 ·decide
 ·rw [hp];simp only [Bool.false_eq_true,if_false];split
  ·split<;>decide
  ·split
   ·decide
   ·split<;>decide
theorem took_sim (h:R0 p b t s) (hn:Par.bodied s.st=false) (ok:t.Ok) (hc:s.clean=false) (c:UInt8) {n:Int} (hnx:t.rd.clear.next c=n) :
 s.rd.how c=n∧(n=0→RR p b {t with rd:=t.rd.byte c} {s with fresh:=false,rd:=s.rd.byte c})∧
 (n=1∨n=2→RQ p b (ends (({t with rd:=t.rd.byte c}:T).line p b (t.rd.byte c).line)) (({s with fresh:=false,rd:=s.rd.byte c}:S).ended p b (s.rd.byte c).L)):=by
 obtain ⟨k1,k2⟩:=step_sim h hn ok c;rw [hnx] at k1 k2;refine ⟨k1,fun h0=>?_,fun h12=>?_⟩
 ·obtain ⟨k3,k4,k5⟩:=k2 (by rw [h0];rfl)
  have hw:=more_new (t:=t) (c:=c) (hnx.trans h0)
  exact {k3 with
   fresh:=(next_new hw).symm
   clean:=by
    show s.clean= _
    rw [hw,Bool.and_false];exact hc}
 ·obtain ⟨k3,k4,k5⟩:=k2 (by rcases h12 with e | e<;> (rw [e];rfl));have hf:=(ended_fresh hnx h12).1;rw [k5];exact line_sim k3 k4 hf hc rfl hn _
theorem plain_sim (h:R0 p b t s) (hn:Par.bodied s.st=false) (ok:t.Ok) (hc:s.clean=false) (hp:t.rd.pend=false) (h6:t.st≠6) (c:UInt8) :
 RQ p b (t.inLine p b c).1 (s.plain p b c):=by
 have hn':¬Par.bodied s.st=true:=by rw [hn];decide
 obtain ⟨n,hnx⟩:∃n,t.rd.clear.next c=n:=⟨_,rfl⟩;obtain ⟨k1,k2,k3⟩:=took_sim h hn ok hc c hnx;have h2:n≠2:=by rw [←hnx];exact nextM_is t.rd.clear c hp
 have his:=Ln.M.next_is t.rd.clear c;rw [hnx] at his;have h6':(t.st==6)=false:=beq_eq_false_iff_ne.2 h6;unfold T.inLine S.plain;simp only [if_neg hn',k1,hnx,h6',Bool.false_and,Bool.false_eq_true,if_false];rcases his with e | e | e | e | e
 ·subst e;exact k2 rfl
 ·subst e
  exact k3 (.inl rfl)
 ·exact absurd e h2
 ·subst e;exact ⟨rfl,by decide,h.out,rfl⟩
 ·subst e;obtain ⟨g1,g2⟩:=long_sim h;simp only [Int.reduceEq,if_false,if_true];rw [g1];exact ⟨rfl,g2,h.out,rfl⟩
theorem line_cnt (ln:List UInt8) :
 ((t.line p b ln).2.cnt=t.cnt∧(t.line p b ln).2.size=t.size∧((t.line p b ln).2.st=1→t.st=1)∧((t.line p b ln).2.st=2→t.st=1∨t.st=2))∨
 ((t.line p b ln).2.cnt=false∧(t.line p b ln).2.size=0∧(t.line p b ln).2.st=1∧t.st≠1):=by
 unfold T.line;by_cases h1:t.st=1
 ·left;simp only [if_pos h1];unfold T.first;split
  ·exact ⟨rfl,rfl,fun _=>h1,fun _=>.inl h1⟩
  ·simp only;split
   ·exact ⟨rfl,rfl,fun _=>h1,fun _=>.inl h1⟩
   ·exact ⟨rfl,rfl,fun _=>h1,fun _=>.inl h1⟩
 simp only [if_neg h1];by_cases h2:t.st=2
 ·simp only [if_pos h2];unfold T.fields;by_cases hs:ln= []
  ·simp only [if_pos hs];unfold T.endHead;generalize Frm.decideV (Frm.clOf p) b.ch b.x3 t.r.k t.r.fs=d;simp only;split
   ·exact .inl ⟨rfl,rfl,fun e=>absurd (h2.symm.trans e) (by decide),fun _=>.inr h2⟩
   ·split
    ·exact .inl ⟨rfl,rfl,fun e=>absurd e (by show (4:Nat)≠1;decide),fun _=>.inr h2⟩
    ·split
     ·exact .inr ⟨rfl,rfl,rfl,h1⟩
     ·exact .inl ⟨rfl,rfl,fun e=>absurd e (by show (3:Nat)≠1;decide),fun _=>.inr h2⟩
  ·simp only [if_neg hs];exact .inl ⟨by trivial,by trivial,fun e=>e,fun _=>.inr h2⟩
 simp only [if_neg h2];by_cases h4:t.st=4
 ·left;simp only [if_pos h4];unfold T.chunk;simp only;split
  ·exact ⟨rfl,rfl,fun e=>absurd (h4.symm.trans e) (by decide),fun e=>absurd (h4.symm.trans e) (by decide)⟩
  ·split
   ·exact ⟨rfl,rfl,fun e=>absurd e (by show (7:Nat)≠1;decide),fun e=>absurd e (by show (7:Nat)≠2;decide)⟩
   ·split
    ·exact ⟨rfl,rfl,fun e=>absurd (h4.symm.trans e) (by decide),fun e=>absurd (h4.symm.trans e) (by decide)⟩
    ·exact ⟨rfl,rfl,fun e=>absurd e (by show (5:Nat)≠1;decide),fun e=>absurd e (by show (5:Nat)≠2;decide)⟩
 simp only [if_neg h4];by_cases h7:t.st=7
 ·simp only [if_pos h7];unfold T.trail;by_cases hs:ln= []
  ·simp only [if_pos hs];exact .inr ⟨rfl,rfl,rfl,h1⟩
  ·simp only [if_neg hs];exact .inl ⟨by trivial,by trivial,fun e=>e,fun e=>absurd e h2⟩
 simp only [if_neg h7];exact .inl ⟨rfl,rfl,fun e=>absurd e (by show (4:Nat)≠1;decide),fun e=>absurd e (by show (4:Nat)≠2;decide)⟩
theorem R0.of_counted (h:R0 p b t s) (hc:t.cnt=false):R0 p b t.counted {s with head:=s.head+1,clean:=false}:=by
 have e:t.counted={t with cnt:=true,size:=t.size+1}:=by unfold T.counted;rw [hc];rfl
 rw [e];exact ⟨h.e,h.st,h.r,h.out,congrArg (·+1) h.head,h.hl,h.bl,h.bl0,h.left,h.rd,h.fr,h.lf,h.cr,h.most,h.beh,h.ch⟩
theorem R0.dirty (h:R0 p b t s):R0 p b t {s with clean:=false}:=⟨h.e,h.st,h.r,h.out,h.head,h.hl,h.bl,h.bl0,h.left,h.rd,h.fr,h.lf,h.cr,h.most,h.beh,h.ch⟩
theorem RQ.err {e:Nat} {o:List Rec.R} (h:RQ p b (.dead e o) s):s.e≠0:=by obtain ⟨h1,h2, -, -⟩:=h;rw [h1];exact h2
theorem look_count (h:R0 p b t s) (ok:t.Ok) (hb:b.right=true) (hc:t.cnt=false) (hh:Par.headed s.st=true) (hp:t.rd.pend=false) (h6:t.st≠6) (c:UInt8) :
 RQ p b (t.look p b c).1 (s.count b (fun s=>s.plain p b c)):=by
 have hbd:Par.bodied s.st=false:=by
  unfold Par.headed at hh;unfold Par.bodied;simp only [Bool.or_eq_true,beq_iff_eq] at hh
  rcases hh with (e | e) | e<;> (rw [e];rfl)
 have hb':Pg.bodied t.st=false:=(bod h).trans hbd;have hh':Pg.headed t.st=true:=(hed h).trans hh;have h1:=h.of_counted hc;have esz:t.counted.size=s.head+1:=h1.head.symm;have eS:s.count b (fun s=>s.plain p b c)=if b.x2<((s.head+1:Nat):Int) then S.fail {s with head:=s.head+1} 431 else ({s with head:=s.head+1,clean:=false}:S).plain p b c:=by unfold S.count;rw [if_neg (fun hn=>hn h.e),if_pos hh]
 rw [eS];unfold T.look;rw [if_neg (by rw [hb'];decide),if_pos hh',esz]
 by_cases hx:b.x2<((s.head+1:Nat):Int)
 ·rw [if_pos hx,if_pos hx];exact ⟨rfl,by decide,h.out,rfl⟩
 ·rw [if_neg hx,if_neg hx]
  have hok:t.counted.Ok:=ok.counted hb (by rw [esz];exact hx);exact plain_sim h1 hbd hok rfl (by rw [counted_rd];exact hp) (by rw [counted_st];exact h6) c
theorem look_plain (h:R0 p b t s) (ok:t.Ok) (hh:Pg.headed t.st=true→t.cnt=true∧¬b.x2<(t.size:Int)) (hc:s.clean=false) (hp:t.rd.pend=false) (h6:t.st≠6) (c:UInt8) :
 RQ p b (t.look p b c).1 (s.plain p b c):=by
 unfold T.look;by_cases hbd:Par.bodied s.st=true
 ·rw [if_pos ((bod h).trans hbd)];unfold S.plain;simp only [if_pos hbd];exact body_sim (s:={s with fresh:=false}) {h with} ok hc rfl hbd c
 ·have hb':Par.bodied s.st=false:=by simpa using hbd
  rw [if_neg (by rw [bod h];exact hbd)];by_cases h2:Pg.headed t.st=true
  ·obtain ⟨e1,e2⟩:=hh h2;have e3:t.counted=t:=by unfold T.counted;rw [if_pos e1]
   rw [if_pos h2,e3,if_neg e2];exact plain_sim h hb' ok hc hp h6 c
  ·rw [if_neg h2];exact plain_sim h hb' ok hc hp h6 c
theorem again_sim {t1 t2:T} {s2:S} (h:RR p b t2 s2) (ok2:t2.Ok) (hb:b.right=true) (hp:t2.rd.pend=false) (h6:t2.st≠6) {was:Nat} (hw:t1.st=was+1)
 (hcnt:t1.cnt=Par.headed was) (hsz:Par.headed was=true→¬b.x2<(t1.size:Int)) {ln:List UInt8} (he:t1.line p b ln=(0,t2)) (c:UInt8) :
 RQ p b (t2.look p b c).1 (s2.again p b c was):=by
 have hl:=line_cnt (p:=p) (b:=b) (t:=t1) ln;rw [he] at hl;simp only at hl;have hst:=h.st;unfold S.again;by_cases hA:s2.st=0∧was≠0
 ·rw [if_pos (by simp [hA.1,hA.2])];rcases hl with ⟨-, -,k, -⟩ | ⟨k, -, -, -⟩
  ·have:=k (by omega);omega
  ·exact look_count h.toR0 ok2 hb k (by rw [hA.1];rfl) hp h6 c
 ·rw [if_neg (by
   intro hh;rw [Bool.and_eq_true,beq_iff_eq,Bool.not_eq_true',beq_eq_false_iff_ne] at hh
   exact hA hh)]
  simp only;by_cases hB:Par.headed was=false∧s2.st=6
  ·rw [if_pos (by simp [hB.1,hB.2])];have k:t2.cnt=false:=by
    rcases hl with ⟨k, -, -, -⟩ | ⟨k, -, -, -⟩
    ·rw [k,hcnt];exact hB.1
    ·exact k
   exact look_count (s:={s2 with clean:=false}) h.toR0.dirty ok2 hb k (by show Par.headed s2.st=true;rw [hB.2];rfl) hp h6 c
  ·rw [if_neg (by
    intro hh;rw [Bool.and_eq_true,beq_iff_eq,Bool.not_eq_true'] at hh
    exact hB hh)]
   refine look_plain h.toR0.dirty ok2 (fun hh=>?_) rfl hp h6 c;have hh2:Par.headed s2.st=true:=(hed h.toR0).symm.trans hh;have hwas:Par.headed was=true∧t2.cnt=t1.cnt∧t2.size=t1.size:=by
    rcases hl with ⟨k1,k2,k3,k4⟩ | ⟨-, -,k3,k4⟩
    ·refine ⟨?_,k1,k2⟩;unfold Par.headed at hh2;simp only [Bool.or_eq_true,beq_iff_eq] at hh2;rcases hh2 with (e | e) | e
     ·have:=k3 (by omega);have:was=0:=by omega
      rw [this];rfl
     ·rcases k4 (by omega) with e1 | e1
      ·have:was=0:=by omega
       rw [this];rfl
      ·have:was=1:=by omega
       rw [this];rfl
     ·cases hw2:Par.headed was with
      | true=>rfl
      | false=>exact absurd ⟨hw2,e⟩ hB
    ·exact absurd ⟨by omega,by omega⟩ hA
   obtain ⟨g1,g2,g3⟩:=hwas;exact ⟨by rw [g2,hcnt];exact g1,by rw [g3];exact hsz g1⟩
theorem ends_cases {x:Nat × T} {q:Q} (h:ends x=q):(∃t2,x=(0,t2)∧q=.live t2)∨∃e o,q=.dead e o:=by
 unfold ends at h;split at h
 ·rename_i h0;exact .inl ⟨x.2,Prod.ext h0 rfl,h.symm⟩
 ·exact .inr ⟨_,_,h.symm⟩
theorem byte1_sim {t0:T} (h:R0 p b t0 s) (hn:Par.bodied s.st=false) (ok:t0.Ok) (hb:b.right=true) (hc:s.clean=false) (hcnt:t0.cnt=Par.headed s.st) (hsz:Par.headed s.st=true→¬b.x2<(t0.size:Int)) (c:UInt8) :
 RQ p b (match t0.inLine p b c with
  |(.live t1,false)=>(t1.look p b c).1
  |(x,_)=>x) (s.byte1 p b c):=by
 have hn':¬Par.bodied s.st=true:=by rw [hn];decide
 have hb0:Pg.bodied t0.st=false:=(bod h).trans hn;obtain ⟨n,hnx⟩:∃n,t0.rd.clear.next c=n:=⟨_,rfl⟩;obtain ⟨k1,k2,k3⟩:=took_sim h hn ok hc c hnx;have his:=Ln.M.next_is t0.rd.clear c;rw [hnx] at his;have e5:(t0.st==6)=(s.st==5):=by rw [Bool.eq_iff_iff,beq_iff_eq,beq_iff_eq,h.st];omega
 have hag:∀t',t0.inLine p b c=(.live t',false)→t'.rd.pend=false∧t'.st≠6:=fun t'=>inLine_again hb0 c
 have hok:∀t' u,t0.inLine p b c=(.live t',u)→t'.Ok:=fun t' u e=>ok.inLine hb c (by rw [e]);unfold S.byte1;simp only [if_neg hn',k1];unfold T.inLine at hag hok ⊢;simp only [hnx,e5] at hag hok ⊢;rcases his with e | e | e | e | e
 ·subst e;exact k2 rfl
 ·subst e;simp only [Int.reduceEq,if_false,Int.reduceBEq,Bool.not_false] at hag hok ⊢
  have k4:=k3 (.inl rfl);generalize ends (T.line p b {t0 with rd:=t0.rd.byte c} (t0.rd.byte c).line)=q at k4 ⊢;cases q<;>exact k4
 ·subst e
  have k4:=k3 (.inr rfl);simp only [Int.reduceEq,if_false,if_true,BEq.rfl,Bool.not_true] at hag hok ⊢;generalize hq:ends (T.line p b {t0 with rd:=t0.rd.byte c} (t0.rd.byte c).line)=q at hag hok k4 ⊢;generalize hs2:S.ended p b {s with fresh:=false,rd:=s.rd.byte c} (s.rd.byte c).L=s2 at k4 ⊢;rcases ends_cases hq with ⟨t2,g1,rfl⟩ | ⟨e,o,rfl⟩
  ·have k5:RR p b t2 s2:=k4;simp only;rw [if_pos k5.e];obtain ⟨g2,g3⟩:=hag t2 rfl;exact again_sim k5 (hok t2 false rfl) hb g2 g3 (t1:={t0 with rd:=t0.rd.byte c}) h.st hcnt hsz g1 c
  ·simp only;rw [if_neg k4.err];exact k4
 ·subst e;exact ⟨rfl,by decide,h.out,rfl⟩
 ·subst e;obtain ⟨g1,g2⟩:=long_sim h;simp only [Int.reduceEq,if_false,if_true] at hag hok ⊢;by_cases hce:(s.st==5&&Qk.has p 29)=true
  ·simp only [if_pos hce] at hag hok ⊢;have hs5:s.st=5:=by
    rw [Bool.and_eq_true,beq_iff_eq] at hce;exact hce.1
   obtain ⟨g3,g4⟩:=hag _ rfl;have he:=enter_sim (t:=t0) (s:={s with fresh:=false}) {h with} hs5;exact look_plain he (hok _ _ rfl) (fun hh=>absurd hh (by show Pg.headed 4≠true;decide)) hc g3 g4 c
  ·simp only [if_neg hce];rw [g1];exact ⟨rfl,g2,h.out,rfl⟩
theorem take_sim (h:RR p b t s) (ok:t.Ok) (hb:b.right=true) (c:UInt8):RQ p b (t.take p b c) (s.byte p b c):=by
 have h0:R0 p b ({t with cnt:=false}:T) {s with clean:=false}:=⟨h.e,h.st,h.r,h.out,h.head,h.hl,h.bl,h.bl0,h.left,h.rd,h.fr,h.lf,h.cr,h.most,h.beh,h.ch⟩;have ok0:({t with cnt:=false}:T).Ok:=ok.cleared;unfold T.take S.byte S.count;rw [if_neg (fun hn=>hn h.e)];unfold T.look;have hbe:Pg.bodied ({t with cnt:=false}:T).st=Par.bodied s.st:=bod (t:=t) h.toR0;have hhe:Pg.headed ({t with cnt:=false}:T).st=Par.headed s.st:=hed (t:=t) h.toR0;rw [hbe,hhe];by_cases hbd:Par.bodied s.st=true
 ·have hnh:¬Par.headed s.st=true:=by
   unfold Par.bodied at hbd;unfold Par.headed;simp only [Bool.or_eq_true,beq_iff_eq] at hbd ⊢;omega
  rw [if_pos hbd,if_neg hnh];have e1:({s with clean:=false}:S).byte1 p b c=({s with fresh:=false,clean:=false}:S).bodyB p b c:=by unfold S.byte1;simp only [if_pos hbd]
  simp only [e1];exact body_sim (s:={s with fresh:=false,clean:=false}) {h0 with} ok0 rfl rfl hbd c
 ·have hbd':Par.bodied s.st=false:=by simpa using hbd
  rw [if_neg hbd];by_cases hh:Par.headed s.st=true
  ·rw [if_pos hh,if_pos hh];have h1:R0 p b ({t with cnt:=false}:T).counted {s with head:=s.head+1,clean:=false}:=h0.of_counted rfl;have esz:({t with cnt:=false}:T).counted.size=s.head+1:=h1.head.symm;rw [esz]
   by_cases hx:b.x2<((s.head+1:Nat):Int)
   ·rw [if_pos hx,if_pos hx];exact ⟨rfl,by decide,h.out,rfl⟩
   ·rw [if_neg hx,if_neg hx]
    have hok:=ok0.counted hb (by rw [esz];exact hx);exact byte1_sim h1 hbd' hok hb rfl hh.symm (fun _=>by rw [esz];exact hx) c
  ·rw [if_neg hh,if_neg hh];have hh':Par.headed s.st=false:=by simpa using hh
   exact byte1_sim h0 hbd' ok0 hb rfl hh'.symm (fun e=>absurd e hh) c
def Q.Fine (b:Bd):Q→Prop
 | .live t=>t.Ok∧b.right=true
 | .dead _ _=>True
theorem Q.Fine.byte {x:Q} (h:x.Fine b) (c:UInt8):(x.byte p b c).Fine b:=by
 cases x with
 | live t=>
   show (t.take p b c).Fine b;cases hq:t.take p b c with
   | live t'=>exact ⟨h.1.take h.2 c hq,h.2⟩
   | dead e o=>trivial
 | dead e o=>trivial
theorem byte_sim {x:Q} (h:RQ p b x s) (ok:x.Fine b) (c:UInt8):RQ p b (x.byte p b c) (s.byte p b c):=by
 cases x with
 | live t=>exact take_sim h ok.1 ok.2 c
 | dead e o=>
   rw [S.byte_dead h.err];exact h
theorem feed_sim (l:List UInt8):∀{x:Q} {s:S},RQ p b x s→x.Fine b→RQ p b (x.feed p b l) (s.feed p b l)∧(x.feed p b l).Fine b:=by
 induction l with
 | nil=>intro x s h ok;exact ⟨h,ok⟩
 | cons c l ih=>intro x s h ok;exact ih (byte_sim h ok c) (ok.byte c)
theorem new_sim:RQ p b (Q.new p b) (S.new p b):=by
 unfold Q.new S.new;by_cases h:(b.right&&decide (p<1073741824))=true
 ·rw [if_pos h,if_pos h]
  exact {
   e:=rfl
   st:=rfl
   r:=rfl
   out:=rfl
   head:=rfl
   hl:=fun _=>rfl
   bl:=fun e=>absurd e (by show (0:Nat)≠6;decide)
   bl0:=fun _=>rfl
   left:=fun e=>absurd e (by show Par.bodied 0≠true;decide)
   rd:=fun _=>⟨rfl,rfl,rfl,rfl,rfl,rfl⟩
   fr:=fun e=>absurd e (by show Par.bodied 0≠true;decide)
   lf:=rfl
   cr:=rfl
   most:=fun _=>rfl
   beh:=fun e=>absurd e (by show (0:Nat)≠5;decide)
   ch:=rfl
   fresh:=rfl
   clean:=rfl}
 ·rw [if_neg h,if_neg h];exact ⟨rfl,by decide,rfl,rfl⟩
theorem said_sim {x:Q} (h:RQ p b x s) (ok:x.Fine b):s.e=x.err∧s.out=x.out∧s.waits=x.waits∧s.held=x.held∧s.clean=x.clean:=by
 cases x with
 | live t=>
   refine ⟨h.e,h.out,?_,?_,h.clean⟩
   ·show (decide (s.e=0)&&(s.fresh&&Rec.expects s.r))=(t.next&&Rec.expects t.r);rw [h.e,h.fresh,h.r];rfl
   ·show (if s.e=0 then Rec.size s.r+(if Par.bodied s.st=true then 0 else s.rd.B.length) else 0)=t.rd.len+Rec.size t.r;rw [if_pos h.e,h.r];by_cases hb:Par.bodied s.st=true
    ·rw [if_pos hb];have:=(h.fr hb).isNew;unfold T.isNew at this;rw [Bool.and_eq_true,decide_eq_true_eq] at this;rw [this.1];omega
    ·rw [if_neg hb];have h1:=(h.rd (by simpa using hb)).B;have:s.rd.B.length=t.rd.len:=by
      rw [h1];unfold Ln.M.len;split<;>rfl
     omega
 | dead e o=>
   obtain ⟨h1,h2,h3,h4⟩:=h;refine ⟨h1,h3,?_,?_,h4⟩
   ·show (decide (s.e=0) && _)=false;rw [decide_eq_false (by rw [h1];exact h2),Bool.false_and]
   ·show (if s.e=0 then _ else 0)=0;rw [if_neg (by rw [h1];exact h2)]
theorem told_sim {x:Q} (h:RQ p b x s):RQ p b x.told {s with out:= []}:=by
 cases x with
 | live t=>exact ⟨⟨h.e,h.st,h.r,rfl,h.head,h.hl,h.bl,h.bl0,h.left,h.rd,h.fr,h.lf,h.cr,h.most,h.beh,h.ch⟩,h.fresh,h.clean⟩
 | dead e o=>
   obtain ⟨h1,h2, -,h4⟩:=h;exact ⟨h1,h2,rfl,h4⟩
theorem told_fine {x:Q} (h:x.Fine b):x.told.Fine b:=by
 cases x with
 | live t=>exact ⟨⟨h.1.rd,h.1.nf,h.1.st,h.1.hl,h.1.bl,h.1.fsl,h.1.tsl,h.1.fss,h.1.tss,h.1.m,h.1.x,h.1.body,h.1.left,h.1.early,h.1.size⟩,h.2⟩
 | dead e o=>trivial
end
end Go.Proofs.YtimoakmcelocfaaGreat.Pg
