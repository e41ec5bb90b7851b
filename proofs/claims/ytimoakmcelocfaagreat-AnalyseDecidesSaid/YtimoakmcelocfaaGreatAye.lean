import Derived.Test.YtimoakmcelocfaaGreatAyd
namespace Go.Proofs.YtimoakmcelocfaaGreat.Mem
open Go.RowKit Base
def Lone (L:List (Option Nat)):Prop:=∀i j k:Nat,L[i]?=some (some k)→L[j]?=some (some k)→i=j
def In (w:World) (L:List (Option Nat)):Prop:=∀k,some k∈L→k<w.heap.size
def Of (w:World) (L L':List (Option Nat)):Prop:=∀k,some k∈L'→some k∈L∨w.heap.size≤k
structure Keeps (L:List (Option Nat)) (w w':World):Prop where
 os:w'.os=w.os
 tape:w'.tape=w.tape
 output:w'.output=w.output
 size:w.heap.size≤w'.heap.size
 block:∀k,k<w.heap.size→some k∉L→w'.heap[k]?=w.heap[k]?
section
variable {L L' L'':List (Option Nat)} {w w' w'':World} {B:Nat}
theorem Lone.ne (h:Lone L) {i j k:Nat} (hi:L[i]?=some (some k)) (hij:i≠j):L[j]?≠some (some k):=fun hj=>hij (h i j k hi hj)
theorem Lone.set (h:Lone L) (hin:In w L) (i:Nat) (o:Option Nat) (ho:o=none∨L[i]?=some o∨∃k,o=some k∧w.heap.size≤k):Lone (L.set i o):=by
 have key:∀a b k,a≠b→(L.set i o)[a]?=some (some k)→(L.set i o)[b]?=some (some k)→a=i→False:=by
  intro a b k hab ha hb hai;subst hai;rw [List.getElem?_set_ne hab] at hb;have hlt:a<L.length:=by
   rcases Nat.lt_or_ge a L.length with h | h
   ·exact h
   ·rw [List.getElem?_eq_none (by simpa using h)] at ha;cases ha
  rw [List.getElem?_set_self hlt] at ha;obtain rfl:o=some k:=Option.some.inj ha;rcases ho with ho | ho | ⟨k',ho,hk⟩
  ·cases ho
  ·exact hab (h a b k ho hb)
  ·obtain rfl:k=k':=Option.some.inj ho
   have:=hin k (List.mem_of_getElem? hb);omega
 intro a b k ha hb;by_cases hab:a=b
 ·exact hab
 ·by_cases hai:a=i
  ·exact (key a b k hab ha hb hai).elim
  ·by_cases hbi:b=i
   ·exact (key b a k (fun e=>hab e.symm) hb ha hbi).elim
   ·rw [List.getElem?_set_ne (fun e=>hai e.symm)] at ha;rw [List.getElem?_set_ne (fun e=>hbi e.symm)] at hb;exact h a b k ha hb
theorem Of.refl:Of w L L:=fun _ h=>.inl h
theorem Of.trans (h:Of w L L') (h':Of w' L' L'') (hs:w.heap.size≤w'.heap.size):Of w L L'':=fun k hk=>by
 rcases h' k hk with h1 | h1
 ·exact h k h1
 ·exact .inr (by omega)
theorem Of.set (i:Nat) (o:Option Nat) (ho:o=none∨L[i]?=some o∨∃k,o=some k∧w.heap.size≤k):Of w L (L.set i o):=fun k hk=>by
 rcases List.mem_or_eq_of_mem_set hk with h | h
 ·exact .inl h
 ·rcases ho with ho | ho | ⟨k',ho,hk⟩
  ·rw [ho] at h;cases h
  ·exact .inl (by rw [h];exact List.mem_of_getElem? ho)
  ·rw [ho] at h;cases h;exact .inr hk
theorem Keeps.refl:Keeps L w w:=⟨rfl,rfl,rfl,Nat.le_refl _,fun _ _ _=>rfl⟩
theorem Keeps.trans (h:Keeps L w w') (h':Keeps L' w' w'') (ho:Of w L L'):Keeps L w w'':=by
 refine ⟨h'.os.trans h.os,h'.tape.trans h.tape,h'.output.trans h.output,Nat.le_trans h.size h'.size,fun k hk hn=>?_⟩
 refine (h'.block k (Nat.lt_of_lt_of_le hk h.size) fun hm=>?_).trans (h.block k hk hn);rcases ho k hm with h1 | h1
 ·exact hn h1
 ·omega
theorem Keeps.mono (h:Keeps L w w') (hs:∀k,some k∈L→some k∈L'):Keeps L' w w':=⟨h.os,h.tape,h.output,h.size,fun k hk hn=>h.block k hk fun hm=>hn (hs k hm)⟩
theorem Keeps.below (h:Keeps L w w') (hB:B≤w.heap.size) (hL:∀k,some k∈L→B≤k):Below B w w':=
 ⟨h.os,h.tape,h.output,h.size,fun k hk=>h.block k (by omega) fun hm=>by have:=hL k hm;omega⟩
theorem Keeps.of_below (h:Below w.heap.size w w'):Keeps L w w':=⟨h.os,h.tape,h.output,h.size,fun k hk _=>h.block k hk⟩
theorem Keeps.set (g k:Nat) (v:Value) (hg:some g∈L):Keeps L w (w.setCell ⟨g,k,none⟩ v):=
 ⟨rfl,rfl,rfl,by simp,fun j _ hn=>Below.heap_setCell _ _ _ _ (fun e=>hn (by rw [e];exact hg))⟩
theorem Keeps.grown {o:Option Nat} (h:w.grownBy w' o) (ho:∀k,o=some k→some k∈L):Keeps L w w':=
 ⟨h.os,h.tape,h.output,h.size,fun k hk hn=>h.block k hk fun e=>hn (ho k e.symm)⟩
theorem Keeps.of_kept {g:Nat} {o:Option Nat} (h:Ln.Kept g o w w') (hg:some g∈L) (ho:∀k,o=some k→some k∈L):Keeps L w w':=
 ⟨h.os,h.tape,h.output,h.size,fun k hk hn=>h.block k hk (fun e=>hn (by rw [e];exact hg)) fun e=>hn (ho k e.symm)⟩
theorem Keeps.cell (h:Keeps L w w') {p:Addr} (hp:p.block<w.heap.size) (hn:some p.block∉L):w'.cell? p=w.cell? p:=by unfold World.cell?;rw [h.block _ hp hn]
theorem Keeps.row (h:Keeps L w w') {j:Nat} {cs:Array Value} {ty:TypeId} (hr:w.heap[j]?=some (.cells cs ty (0,0))) (hn:some j∉L):w'.heap[j]?=some (.cells cs ty (0,0)):=(h.block j (Ln.row_lt hr) hn).trans hr
theorem Keeps.own (h:Keeps L w w') {e:TypeId} {size:Nat} {v:Value} {n:Nat} {xs:List Value} (hv:w.ownsRow B e size v n xs) (hn:∀k,v.ownBlock=some k→some k∉L):w'.ownsRow B e size v n xs:=by
 refine ⟨hv.1,?_⟩;rcases hv.2 with h0 | ⟨b,cap,cur,rfl,hb,hgg,rest⟩
 ·exact .inl h0
 ·refine .inr ⟨b,cap,cur,rfl,hb,?_,rest⟩;rw [h.block b (Ln.row_lt hgg) (hn b (by simp [Value.ownBlock]))];exact hgg
end
structure Zone where
 b:Nat
 z:List (Option Nat)
instance:CoeOut Zone Nat:=⟨Zone.b⟩
structure Clear (w:World) (Z L:List (Option Nat)):Prop where
 inz:∀k,some k∈Z→k<w.heap.size
 off:∀k,some k∈L→some k∉Z
theorem Clear.of {w w':World} {Z L L':List (Option Nat)} (h:Clear w Z L) (hs:w.heap.size≤w'.heap.size) (ho:Of w L L'):Clear w' Z L':=
 ⟨fun k hk=>Nat.lt_of_lt_of_le (h.inz k hk) hs,fun k hk hz=>by
   rcases ho k hk with e | e
   ·exact h.off k e hz
   ·have:=h.inz k hz;omega⟩
theorem Clear.nil {w:World} {L:List (Option Nat)}:Clear w [] L:=⟨(fun k hk=>by cases hk),(fun k _ hz=>by cases hz)⟩
def slot:Value→Option Nat
 | .slice (some a) _ _=>some a.block
 | _=>none
def blocks:Value→List (Option Nat)
 | .agg cs=>cs.toList.map slot
 | _=> []
structure Far (L Z:List (Option Nat)) (w:World) (V:Value) (r:Rec.R):Prop where
 reads:Rec.Reads w V r
 far:∀k,some k∈blocks V→some k∉L∧k<w.heap.size
 off:∀k,some k∈blocks V→some k∉Z
section
variable {L L' Z:List (Option Nat)} {w w':World} {V:Value} {r:Rec.R}
theorem flds_keeps {a:Option Addr} {n:Nat} {fs:List Txt.Fld} (h:Txt.Flds w a n fs) (hk:Keeps L w w') (hn:∀c,slot (.slice a n c)=none∨∃k,slot (.slice a n c)=some k∧some k∉L):Txt.Flds w' a n fs:=by
 refine ⟨h.1,fun h0=>?_⟩;obtain ⟨b,off,rfl,hlt,hc⟩:=h.2 h0;have hb:some b∉L:=by
  rcases hn 0 with e | ⟨k,e,hk⟩
  ·cases e
  ·cases e;exact hk
 exact ⟨b,off,rfl,Nat.lt_of_lt_of_le hlt hk.size,fun k hkn=>⟨(hk.cell (p:=⟨b,off+k*2,none⟩) hlt hb).trans (hc k hkn).1,(hk.cell (p:=⟨b,off+k*2+1,none⟩) hlt hb).trans (hc k hkn).2⟩⟩
theorem nums_keeps {a:Option Addr} {n:Nat} {kd:IntKind} {zs:List Int} (h:Nums kd w a n zs) (hk:Keeps L w w') (hn:∀c,slot (.slice a n c)=none∨∃k,slot (.slice a n c)=some k∧some k∉L):Nums kd w' a n zs:=by
 refine ⟨h.1,fun h0=>?_⟩;obtain ⟨b,off,rfl,hlt,hc⟩:=h.2 h0;have hb:some b∉L:=by
  rcases hn 0 with e | ⟨k,e,hk⟩
  ·cases e
  ·cases e;exact hk
 exact ⟨b,off,rfl,Nat.lt_of_lt_of_le hlt hk.size,fun k hkn=>(hk.cell (p:=⟨b,off+k,none⟩) hlt hb).trans (hc k hkn)⟩
theorem Far.keeps (h:Far L Z w V r) (hk:Keeps L w w'):Far L Z w' V r:=by
 refine ⟨?_,fun k hb=>⟨(h.far k hb).1,Nat.lt_of_lt_of_le (h.far k hb).2 hk.size⟩,h.off⟩;obtain ⟨fa,fc,ba,bc,ta,tc,rfl,h1,h2,h3⟩:=h.reads;have hf:=h.far;simp only [blocks,List.map_cons,List.map_nil,List.mem_cons,List.not_mem_nil,or_false] at hf;have key:∀(a:Option Addr) (n c:Nat),(∀k,some k=slot (.slice a n c)→some k∉L∧k<w.heap.size)→∀c',slot (.slice a n c')=none∨∃k,slot (.slice a n c')=some k∧some k∉L:=by
  intro a n c h c';cases a with
  | none=>exact .inl rfl
  | some a=>exact .inr ⟨a.block,rfl,(h a.block rfl).1⟩
 refine ⟨fa,fc,ba,bc,ta,tc,rfl,flds_keeps h1 hk (key _ _ fc fun k e=>hf k ?_),nums_keeps h2 hk (key _ _ bc fun k e=>hf k ?_),flds_keeps h3 hk (key _ _ tc fun k e=>hf k ?_)⟩
 ·rw [e];simp
 ·rw [e];simp
 ·rw [e];simp
theorem Far.of (h:Far L Z w V r) (ho:∀k,some k∈L'→some k∈L∨w.heap.size≤k):Far L' Z w V r:=
 ⟨h.reads,fun k hb=>⟨fun hm=>by
   have:=h.far k hb;rcases ho k hm with h1 | h1
   ·exact this.1 h1
   ·omega,(h.far k hb).2⟩,h.off⟩
end
end Go.Proofs.YtimoakmcelocfaaGreat.Mem
namespace Go.Proofs.YtimoakmcelocfaaGreat.An
open Go.RowKit Base Par
def effL (p:Nat) (b:Bd):List Int:=if (b.right&&decide (p<1073741824))=true then (Qk.upTo p 30).filter (fun c=>Qk.needs c p b.ch b.od) else []
theorem effL_le (p:Nat) (b:Bd):(effL p b).length≤30:=by
 unfold effL;split
 ·exact Nat.le_trans (List.length_filter_le _ _) (Qk.upTo_le p 30)
 ·exact Nat.zero_le _
theorem take_filter (zs:List Int) (q:Int→Bool) (k:Nat) (h:k<zs.length):(zs.take (k+1)).filter q=(zs.take k).filter q++(if q zs[k]=true then [zs[k]] else []):=by
 rw [List.take_succ_eq_append_getElem h,List.filter_append]
 congr 1
 rw [List.filter_cons];split<;>simp
theorem bstep {B:Nat} {w w1 w2:World} (hB:w.heap.size=B) (h:Below B w w1) (hb:Below w1.heap.size w1 w2):Below B w w2:=h.trans (hb.mono (by have:=h.size;omega))
section code
set_option maxHeartbeats 8000000
set_option maxRecDepth 20000
attribute [local go_sem] Base.some_undef
theorem right_any (p:Nat) (hp:p<4294967296) (b:Bd) (w:World):Calls Tryz.prog 28 #[.int .u32 (p:Int),.agg #[.int .i64 b.x0,.int .i64 b.x1,.int .i64 b.x2,.int .i64 b.x3,.int .i64 b.x4,.int .i64 b.x5,.int .i64 b.x6,.int .i64 b.x7,.bool b.ch,.bool b.od]] w fun e w'=>e=.returned (.bool (decide (p<1073741824)&&b.right))∧Below w.heap.size w w':=by
 have HBR:=Lib.hid (fun w=>show Calls Tryz.prog 41 #[.agg #[.int .i64 b.x0,.int .i64 b.x1,.int .i64 b.x2,.int .i64 b.x3,.int .i64 b.x4,.int .i64 b.x5,.int .i64 b.x6,.int .i64 b.x7,.bool b.ch,.bool b.od]] w fun e w'=>e=.returned (.bool b.right)∧Below w.heap.size w w' from Bnd.right_any b.x0 b.x1 b.x2 b.x3 b.x4 b.x5 b.x6 b.x7 b.ch b.od w)
 have HPR:=Lib.hid (fun w=>Qk.right_any p hp w)
 have HB0:=Lib.hid (((Below.refl _ _).alloc (Nat.le_refl _) (.cells #[.int .i64 b.x0,.int .i64 b.x1,.int .i64 b.x2,.int .i64 b.x3,.int .i64 b.x4,.int .i64 b.x5,.int .i64 b.x6,.int .i64 b.x7,.bool b.ch,.bool b.od] 24)):Below w.heap.size w _)
 have HZ0:=Lib.hid (Rec.Bk.new w w.heap.size rfl 24 [.int .i64 b.x0,.int .i64 b.x1,.int .i64 b.x2,.int .i64 b.x3,.int .i64 b.x4,.int .i64 b.x5,.int .i64 b.x6,.int .i64 b.x7,.bool b.ch,.bool b.od]);have x0:=HZ0.out.c 0 _ rfl;have x1:=HZ0.out.c 1 _ rfl;have x2:=HZ0.out.c 2 _ rfl;have x3:=HZ0.out.c 3 _ rfl;have x4:=HZ0.out.c 4 _ rfl;have x5:=HZ0.out.c 5 _ rfl;have x6:=HZ0.out.c 6 _ rfl;have x7:=HZ0.out.c 7 _ rfl;have x8:=HZ0.out.c 8 _ rfl;have x9:=HZ0.out.c 9 _ rfl;obtain ⟨a1,ha1⟩:∃a,decide (p<1073741824)=a:=⟨_,rfl⟩;obtain ⟨a2,ha2⟩:∃a,b.right=a:=⟨_,rfl⟩;rw [ha1] at HPR ⊢;rw [ha2] at HBR ⊢;clear ha1 ha2;cases a1;all_goals
  go_enter Tryz.func28,Tryz.ntmps28
  go_wp2_with (first
   |(go_at_call 41;with_reducible refine (HBR.out _).mono ?_;rintro r w1 ⟨rfl,hb1⟩;have HB1:=Lib.hid hb1;clear hb1)
   |(go_at_call 40;with_reducible refine (HPR.out _).mono ?_;rintro r w6 ⟨rfl,hw⟩;rw [hw];clear hw))
  go_ret;first | exact ⟨rfl,Base.below_step HB0.out HB1.out⟩ | exact ⟨rfl,HB0.out⟩ | exact ⟨by simp,Base.below_step HB0.out HB1.out⟩
theorem eff_any (p:Nat) (hp:p<4294967296) (b:Bd) (w:World):Calls Tryz.prog 13 #[.int .u32 (p:Int),.agg #[.int .i64 b.x0,.int .i64 b.x1,.int .i64 b.x2,.int .i64 b.x3,.int .i64 b.x4,.int .i64 b.x5,.int .i64 b.x6,.int .i64 b.x7,.bool b.ch,.bool b.od]] w fun e w'=>∃(A:Option Addr) (c:Nat),e=.returned (.slice A (effL p b).length c)∧Ints w' A (effL p b).length (effL p b)∧Below w.heap.size w w':=by
 obtain ⟨i0,hi,hz0,hz1,hz2⟩:=info_parts Qk.int_info;have G1:=Lib.hid hi;have G2:=Lib.hid hz0;have G3:=Lib.hid hz1;have G4:=Lib.hid hz2;clear hi hz0 hz1 hz2
 have HB0:=Lib.hid (((Below.refl _ _).alloc (Nat.le_refl _) (.cells #[.int .i64 b.x0,.int .i64 b.x1,.int .i64 b.x2,.int .i64 b.x3,.int .i64 b.x4,.int .i64 b.x5,.int .i64 b.x6,.int .i64 b.x7,.bool b.ch,.bool b.od] 24)):Below w.heap.size w _)
 have HZ0:=Lib.hid (Rec.Bk.new w w.heap.size rfl 24 [.int .i64 b.x0,.int .i64 b.x1,.int .i64 b.x2,.int .i64 b.x3,.int .i64 b.x4,.int .i64 b.x5,.int .i64 b.x6,.int .i64 b.x7,.bool b.ch,.bool b.od]);obtain ⟨a1,ha1⟩:∃a,decide (p<1073741824)=a:=⟨_,rfl⟩;obtain ⟨a2,ha2⟩:∃a,b.right=a:=⟨_,rfl⟩
 have HR:=Lib.hid (fun w=>right_any p hp b w);rw [ha1,ha2] at HR;have hef:effL p b=if (a2&&a1)=true then (Qk.upTo p 30).filter (fun c=>Qk.needs c p b.ch b.od) else []:=by unfold effL;rw [ha1,ha2]
 by_cases hok:(a2&&a1)=true
 ·obtain ⟨rfl,rfl⟩:a2=true∧a1=true:=by simpa using hok
  rw [if_pos hok] at hef;rw [hef];clear hok ha1 ha2 hef
  have HLI:=Lib.hid (fun w=>Qk.list_any p hp w);have hle:=Qk.upTo_le p 30;obtain ⟨zs,hzs⟩:∃zs,Qk.upTo p 30=zs:=⟨_,rfl⟩;rw [hzs] at HLI hle ⊢
  have HND:Hid (∀(z:Int) (w:World),Calls Tryz.prog 31 #[.int .i64 z,.int .u32 (p:Int),.agg #[.int .i64 b.x0,.int .i64 b.x1,.int .i64 b.x2,.int .i64 b.x3,.int .i64 b.x4,.int .i64 b.x5,.int .i64 b.x6,.int .i64 b.x7,.bool b.ch,.bool b.od]] w fun e w'=>e=.returned (.bool (Qk.needs z p b.ch b.od))∧Below w.heap.size w w'):=Lib.hid (fun z w=>Qk.needs_any z p hp b.x0 b.x1 b.x2 b.x3 b.x4 b.x5 b.x6 b.x7 b.ch b.od w);obtain ⟨fl,hfl⟩:∃fl:Nat→List Int,fl=fun k=>(zs.take k).filter (fun c=>Qk.needs c p b.ch b.od):=⟨_,rfl⟩;have HFL:=Lib.hid hfl;have hall:zs.filter (fun c=>Qk.needs c p b.ch b.od)=fl zs.length:=by rw [hfl];simp
  have hfll:∀k,(fl k).length≤k:=fun k=>by
   rw [hfl]
   exact Nat.le_trans (List.length_filter_le _ _) (by rw [List.length_take];omega)
  have hf0:fl 0= []:=by rw [hfl];rfl
  have HALL:=Lib.hid hall;have HF0:=Lib.hid hf0;have HFLL:=Lib.hid hfll;rw [hall];clear hzs hfl hall hf0 hfll;go_enter Tryz.func13,Tryz.ntmps13;go_upto_region 1 with fail
  generalize w.alloc (.cells #[.int .i64 b.x0,.int .i64 b.x1,.int .i64 b.x2,.int .i64 b.x3,.int .i64 b.x4,.int .i64 b.x5,.int .i64 b.x6,.int .i64 b.x7,.bool b.ch,.bool b.od] 24)=W0 at *;generalize hgB:w.heap.size=g at *;have HGB:=Lib.hid hgB;clear hgB;have x0:=HZ0.out.c 0 _ rfl;have x1:=HZ0.out.c 1 _ rfl;have x2:=HZ0.out.c 2 _ rfl;have x3:=HZ0.out.c 3 _ rfl;have x4:=HZ0.out.c 4 _ rfl;have x5:=HZ0.out.c 5 _ rfl;have x6:=HZ0.out.c 6 _ rfl;have x7:=HZ0.out.c 7 _ rfl;have x8:=HZ0.out.c 8 _ rfl;have x9:=HZ0.out.c 9 _ rfl
  go_upto_region 4 with (first
   |(go_at_call 28;with_reducible refine (HR.out _).mono ?_;rintro r w1 ⟨rfl,hb1⟩;have HB1:=Lib.hid hb1;clear hb1))
  have HZ1:=Lib.hid (HZ0.out.below HB1.out)
  have HBA:=Lib.hid (bstep HGB.out HB0.out HB1.out);clear x0 x1 x2 x3 x4 x5 x6 x7 x8 x9
  go_upto_region 5 with (go_at_call 30;with_reducible refine (HLI.out _).mono ?_;rintro r w3 ⟨v,rfl,hv,hb3⟩;have HB3:=Lib.hid (bstep HGB.out HBA.out hb3);have HZ3:=Lib.hid (HZ1.out.below hb3);obtain ⟨A,ca,rfl,hints⟩:=Ints.of_own hv;have HI:=Lib.hid hints;clear hv hb3 hints)
  obtain ⟨W1,hW1⟩:∃W1,W1=w3:=⟨_,rfl⟩;subst hW1;obtain ⟨n,hnn⟩:∃n,zs.length=n:=⟨_,rfl⟩;have HN:=Lib.hid hnn;rw [hnn] at HI HALL hle ⊢;clear hnn
  go_loopw [5,15] (fun v i wr=>∃k:Nat,k≤n∧i=.int .i64 k∧Hid (wr.ownsRow W1.heap.size 3 1 v (fl k).length ((fl k).map (Value.int .i64)))∧Hid (Below W1.heap.size W1 wr)) (fun _ i _=>n-(intOf i).toNat)
  case atStart=>exact ⟨0,Nat.zero_le _,rfl,Lib.hid (by rw [HF0.out];exact ⟨rfl,.inl ⟨rfl,rfl⟩⟩),Lib.hid (Below.refl _ _)⟩
  case round=>
   obtain ⟨k,hk,rfl,hown,hbr⟩:=hrel;have hflk:=HFLL.out k;rcases Nat.lt_or_ge k n with hlt | hge
   ·have t1:(k:Int)<(n:Int):=by omega
    have hkl:k<zs.length:=by rw [HN.out];exact hlt
    have hIk:=HI.out
    obtain ⟨ib,io,rfl,hib,hcs⟩:=hIk.2 (by omega);have ck0:=hcs k hlt;rw [List.getElem?_eq_getElem hkl,Option.getD_some] at ck0;have hsn:fl (k+1)=fl k++(if Qk.needs zs[k] p b.ch b.od=true then [zs[k]] else []):=by rw [HFL.out];exact take_filter zs _ k hkl
    obtain ⟨z,hzk⟩:∃z,zs[k]=z:=⟨_,rfl⟩;rw [hzk] at ck0 hsn;have hib2:ib<wr.heap.size:=Nat.lt_of_lt_of_le hib hbr.out.size;have ck:wr.cell? ⟨ib,io+k,none⟩=some (.int .i64 z):=(hbr.out.cell (p:=⟨ib,io+k,none⟩) hib).trans ck0
    have HZr:=Lib.hid (HZ3.out.below hbr.out);have y0:=HZr.out.c 0 _ rfl;have y1:=HZr.out.c 1 _ rfl;have y2:=HZr.out.c 2 _ rfl;have y3:=HZr.out.c 3 _ rfl;have y4:=HZr.out.c 4 _ rfl;have y5:=HZr.out.c 5 _ rfl;have y6:=HZr.out.c 6 _ rfl;have y7:=HZr.out.c 7 _ rfl;have y8:=HZr.out.c 8 _ rfl;have y9:=HZr.out.c 9 _ rfl
    have HNE:=Lib.hid (HND.out z);have HS:=Lib.hid hsn;clear hsn hcs hIk ck0 hzk hkl;obtain ⟨nb,hnb⟩:∃nb,Qk.needs z p b.ch b.od=nb:=⟨_,rfl⟩;cases nb with
    | false=>
      rw [hnb] at HNE HS;rw [if_neg Bool.false_ne_true,List.append_nil] at HS;clear hnb
      go_wp2_with (first
       |(go_at_call 31;with_reducible refine (HNE.out _).mono ?_;rintro r w5 ⟨rfl,hb5⟩
         have HB5:=Lib.hid (Base.below_step hbr.out hb5)
         have HOW:=Lib.hid ((Mem.Keeps.of_below hb5:Mem.Keeps [] _ _).own hown.out (fun _ _ hm=>by cases hm));have ck5:w5.cell? ⟨ib,io+k,none⟩=some (.int .i64 z):=(hb5.cell (p:=⟨ib,io+k,none⟩) hib2).trans ck;clear hb5))
      go_roundw
      case rel=>exact ⟨k+1,by omega,by go_num,Lib.hid (by rw [HS.out];exact HOW.out),HB5⟩
      case measure=>simp [intOf];omega
    | true=>
      rw [hnb] at HNE HS;rw [if_pos rfl] at HS;clear hnb
      go_wp2_with (first
       |(go_at_call 31;with_reducible refine (HNE.out _).mono ?_;rintro r w5 ⟨rfl,hb5⟩
         have HB5:=Lib.hid (Base.below_step hbr.out hb5)
         have HOW:=Lib.hid ((Mem.Keeps.of_below hb5:Mem.Keeps [] _ _).own hown.out (fun _ _ hm=>by cases hm));have ck5:w5.cell? ⟨ib,io+k,none⟩=some (.int .i64 z):=(hb5.cell (p:=⟨ib,io+k,none⟩) hib2).trans ck;clear hb5)
       |(at_builtin;refine wpList_append_own _ rfl _ _ 32 rfl W1.heap.size 3 i0 (.int .i64 0) 1 8 Tryz.underlying32 G1.out G2.out G3.out G4.out rfl (by decide) _ _ _ rfl (HOW.out.alloc _) ⟨w5.heap.size,0,none⟩ 1 1 [.int .i64 z] rfl rfl ?c1 ?c2 ?c3 ?c4 ?c5 ?_))
      case c1=>exact news_one w5 _ _
      case c2=>intro u hu;obtain rfl:u=.int .i64 z:=by simpa using hu
               rfl
      case c3=>unfold maxLen;omega
      case c4=>omega
      case c5=>have:=HB5.out.size;simp;omega
      intro v' w' hown' hgr _
      have H2:Hid (w'.ownsRow W1.heap.size 3 1 v' (fl (k+1)).length ((fl (k+1)).map (Value.int .i64))):=Lib.hid (by rw [HS.out];simpa using hown')
      have H3:Hid (Below W1.heap.size W1 w'):=Lib.hid ((HB5.out.alloc HB5.out.size _).grown hgr (by have:=HB5.out.size;simp;omega) (own_base HOW.out));clear hown' hgr;go_wp2;go_roundw
      case rel=>exact ⟨k+1,by omega,by go_num,H2,H3⟩
      case measure=>simp [intOf];omega
   ·obtain rfl:k=n:=by omega
    have t1:¬(k:Int)<(k:Int):=by omega
    go_wp2_with fail;go_ret;obtain ⟨A2,c2,rfl,hI2⟩:=Ints.of_own hown.out;rw [HN.out,HGB.out];exact ⟨A2,⟨c2,rfl⟩,hI2,HB3.out.trans (hbr.out.mono (by have:=HB3.out.size;have:=HGB.out;omega))⟩
 ·rw [if_neg hok] at hef;rw [hef];have hz:a1=false∨(a1=true∧a2=false):=by
   revert hok;cases a2<;>cases a1<;>simp
  clear hok ha1 ha2 hef;go_enter Tryz.func13,Tryz.ntmps13;go_upto_region 1 with fail
  generalize w.alloc (.cells #[.int .i64 b.x0,.int .i64 b.x1,.int .i64 b.x2,.int .i64 b.x3,.int .i64 b.x4,.int .i64 b.x5,.int .i64 b.x6,.int .i64 b.x7,.bool b.ch,.bool b.od] 24)=W0 at *;generalize hgB:w.heap.size=g at *;have HGB:=Lib.hid hgB;clear hgB;have x0:=HZ0.out.c 0 _ rfl;have x1:=HZ0.out.c 1 _ rfl;have x2:=HZ0.out.c 2 _ rfl;have x3:=HZ0.out.c 3 _ rfl;have x4:=HZ0.out.c 4 _ rfl;have x5:=HZ0.out.c 5 _ rfl;have x6:=HZ0.out.c 6 _ rfl;have x7:=HZ0.out.c 7 _ rfl;have x8:=HZ0.out.c 8 _ rfl;have x9:=HZ0.out.c 9 _ rfl;rcases hz with rfl | ⟨rfl,rfl⟩
  ·go_wp2_with (first
   |(go_at_call 28;with_reducible refine (HR.out _).mono ?_;rintro r w1 ⟨rfl,hb1⟩;have HB1:=Lib.hid hb1;clear hb1))
   all_goals (first | done | skip)
   go_ret;refine ⟨none,0,rfl,Ints.nil _ _,?_⟩;rw [HGB.out];first | exact bstep HGB.out HB0.out HB1.out | exact HB0.out
  ·go_wp2_with (first
   |(go_at_call 28;with_reducible refine (HR.out _).mono ?_;rintro r w1 ⟨rfl,hb1⟩;have HB1:=Lib.hid hb1;clear hb1))
   go_ret;refine ⟨none,0,rfl,Ints.nil _ _,?_⟩;rw [HGB.out];first | exact bstep HGB.out HB0.out HB1.out | exact HB0.out
theorem reff_any (p:Nat) (hp:p<4294967296) (b:Bd) (w:World):Calls Tryz.prog 10 #[.int .u32 (p:Int),.agg #[.int .i64 b.x0,.int .i64 b.x1,.int .i64 b.x2,.int .i64 b.x3,.int .i64 b.x4,.int .i64 b.x5,.int .i64 b.x6,.int .i64 b.x7,.bool b.ch,.bool b.od]] w fun e w'=>∃(A:Option Addr) (c:Nat),e=.returned (.slice A (effL p b).length c)∧Ints w' A (effL p b).length (effL p b)∧Below w.heap.size w w':=by
 obtain ⟨i0,hi,hz0,hz1,hz2⟩:=info_parts Qk.int_info;have G1:=Lib.hid hi;have G2:=Lib.hid hz0;have G3:=Lib.hid hz1;have G4:=Lib.hid hz2;clear hi hz0 hz1 hz2
 have HB0:=Lib.hid (((Below.refl _ _).alloc (Nat.le_refl _) (.cells #[.int .i64 b.x0,.int .i64 b.x1,.int .i64 b.x2,.int .i64 b.x3,.int .i64 b.x4,.int .i64 b.x5,.int .i64 b.x6,.int .i64 b.x7,.bool b.ch,.bool b.od] 24)):Below w.heap.size w _)
 have HZ0:=Lib.hid (Rec.Bk.new w w.heap.size rfl 24 [.int .i64 b.x0,.int .i64 b.x1,.int .i64 b.x2,.int .i64 b.x3,.int .i64 b.x4,.int .i64 b.x5,.int .i64 b.x6,.int .i64 b.x7,.bool b.ch,.bool b.od]);obtain ⟨a1,ha1⟩:∃a,decide (p<1073741824)=a:=⟨_,rfl⟩;obtain ⟨a2,ha2⟩:∃a,b.right=a:=⟨_,rfl⟩
 have HBR:=Lib.hid (fun w=>show Calls Tryz.prog 16 #[.agg #[.int .i64 b.x0,.int .i64 b.x1,.int .i64 b.x2,.int .i64 b.x3,.int .i64 b.x4,.int .i64 b.x5,.int .i64 b.x6,.int .i64 b.x7,.bool b.ch,.bool b.od]] w fun e w'=>e=.returned (.bool b.right)∧Below w.heap.size w w' from Bnd.rright_any b.x0 b.x1 b.x2 b.x3 b.x4 b.x5 b.x6 b.x7 b.ch b.od w)
 have HPR:=Lib.hid (fun w=>Qk.rright_any p hp w);rw [ha1] at HPR;rw [ha2] at HBR;have hef:effL p b=if (a2&&a1)=true then (Qk.upTo p 30).filter (fun c=>Qk.needs c p b.ch b.od) else []:=by unfold effL;rw [ha1,ha2]
 by_cases hok:(a2&&a1)=true
 ·obtain ⟨rfl,rfl⟩:a2=true∧a1=true:=by simpa using hok
  rw [if_pos hok] at hef;rw [hef];clear hok ha1 ha2 hef
  have HLI:=Lib.hid (fun w=>Qk.rlist_any p hp w);have hle:=Qk.upTo_le p 30;obtain ⟨zs,hzs⟩:∃zs,Qk.upTo p 30=zs:=⟨_,rfl⟩;rw [hzs] at HLI hle ⊢
  have HND:Hid (∀(z:Int) (w:World),Calls Tryz.prog 27 #[.int .i64 z,.int .u32 (p:Int),.agg #[.int .i64 b.x0,.int .i64 b.x1,.int .i64 b.x2,.int .i64 b.x3,.int .i64 b.x4,.int .i64 b.x5,.int .i64 b.x6,.int .i64 b.x7,.bool b.ch,.bool b.od]] w fun e w'=>e=.returned (.bool (Qk.needs z p b.ch b.od))∧Below w.heap.size w w'):=Lib.hid (fun z w=>Qk.rneeds_any z p hp b.x0 b.x1 b.x2 b.x3 b.x4 b.x5 b.x6 b.x7 b.ch b.od w);obtain ⟨fl,hfl⟩:∃fl:Nat→List Int,fl=fun k=>(zs.take k).filter (fun c=>Qk.needs c p b.ch b.od):=⟨_,rfl⟩;have HFL:=Lib.hid hfl;have hall:zs.filter (fun c=>Qk.needs c p b.ch b.od)=fl zs.length:=by rw [hfl];simp
  have hfll:∀k,(fl k).length≤k:=fun k=>by
   rw [hfl]
   exact Nat.le_trans (List.length_filter_le _ _) (by rw [List.length_take];omega)
  have hf0:fl 0= []:=by rw [hfl];rfl
  have HALL:=Lib.hid hall;have HF0:=Lib.hid hf0;have HFLL:=Lib.hid hfll;rw [hall];clear hzs hfl hall hf0 hfll;go_enter Tryz.func10,Tryz.ntmps10;go_upto_region 1 with fail
  generalize w.alloc (.cells #[.int .i64 b.x0,.int .i64 b.x1,.int .i64 b.x2,.int .i64 b.x3,.int .i64 b.x4,.int .i64 b.x5,.int .i64 b.x6,.int .i64 b.x7,.bool b.ch,.bool b.od] 24)=W0 at *;generalize hgB:w.heap.size=g at *;have HGB:=Lib.hid hgB;clear hgB;have x0:=HZ0.out.c 0 _ rfl;have x1:=HZ0.out.c 1 _ rfl;have x2:=HZ0.out.c 2 _ rfl;have x3:=HZ0.out.c 3 _ rfl;have x4:=HZ0.out.c 4 _ rfl;have x5:=HZ0.out.c 5 _ rfl;have x6:=HZ0.out.c 6 _ rfl;have x7:=HZ0.out.c 7 _ rfl;have x8:=HZ0.out.c 8 _ rfl;have x9:=HZ0.out.c 9 _ rfl
  go_upto_region 4 with (first
   |(go_at_call 16;with_reducible refine (HBR.out _).mono ?_;rintro r w1 ⟨rfl,hb1⟩;have HB1:=Lib.hid hb1;clear hb1)
   |(go_at_call 17;with_reducible refine (HPR.out _).mono ?_;rintro r w6 ⟨rfl,hw⟩;rw [hw];clear hw))
  have HZ1:=Lib.hid (HZ0.out.below HB1.out)
  have HBA:=Lib.hid (bstep HGB.out HB0.out HB1.out);clear x0 x1 x2 x3 x4 x5 x6 x7 x8 x9
  go_upto_region 6 with (go_at_call 26;with_reducible refine (HLI.out _).mono ?_;rintro r w3 ⟨v,rfl,hv,hb3⟩;have HB3:=Lib.hid (bstep HGB.out HBA.out hb3);have HZ3:=Lib.hid (HZ1.out.below hb3);obtain ⟨A,ca,rfl,hints⟩:=Ints.of_own hv;have HI:=Lib.hid hints;clear hv hb3 hints)
  obtain ⟨W1,hW1⟩:∃W1,W1=w3:=⟨_,rfl⟩;subst hW1;obtain ⟨n,hnn⟩:∃n,zs.length=n:=⟨_,rfl⟩;have HN:=Lib.hid hnn;rw [hnn] at HI HALL hle ⊢;clear hnn
  go_loopw [5,7] (fun v i wr=>∃k:Nat,k≤n∧i=.int .i64 k∧Hid (wr.ownsRow W1.heap.size 3 1 v (fl k).length ((fl k).map (Value.int .i64)))∧Hid (Below W1.heap.size W1 wr)) (fun _ i _=>n-(intOf i).toNat)
  case atStart=>exact ⟨0,Nat.zero_le _,rfl,Lib.hid (by rw [HF0.out];exact ⟨rfl,.inl ⟨rfl,rfl⟩⟩),Lib.hid (Below.refl _ _)⟩
  case round=>
   obtain ⟨k,hk,rfl,hown,hbr⟩:=hrel;have hflk:=HFLL.out k;rcases Nat.lt_or_ge k n with hlt | hge
   ·have t1:(k:Int)<(n:Int):=by omega
    have hkl:k<zs.length:=by rw [HN.out];exact hlt
    have hIk:=HI.out
    obtain ⟨ib,io,rfl,hib,hcs⟩:=hIk.2 (by omega);have ck0:=hcs k hlt;rw [List.getElem?_eq_getElem hkl,Option.getD_some] at ck0;have hsn:fl (k+1)=fl k++(if Qk.needs zs[k] p b.ch b.od=true then [zs[k]] else []):=by rw [HFL.out];exact take_filter zs _ k hkl
    obtain ⟨z,hzk⟩:∃z,zs[k]=z:=⟨_,rfl⟩;rw [hzk] at ck0 hsn;have hib2:ib<wr.heap.size:=Nat.lt_of_lt_of_le hib hbr.out.size;have ck:wr.cell? ⟨ib,io+k,none⟩=some (.int .i64 z):=(hbr.out.cell (p:=⟨ib,io+k,none⟩) hib).trans ck0
    have HZr:=Lib.hid (HZ3.out.below hbr.out);have y0:=HZr.out.c 0 _ rfl;have y1:=HZr.out.c 1 _ rfl;have y2:=HZr.out.c 2 _ rfl;have y3:=HZr.out.c 3 _ rfl;have y4:=HZr.out.c 4 _ rfl;have y5:=HZr.out.c 5 _ rfl;have y6:=HZr.out.c 6 _ rfl;have y7:=HZr.out.c 7 _ rfl;have y8:=HZr.out.c 8 _ rfl;have y9:=HZr.out.c 9 _ rfl
    have HNE:=Lib.hid (HND.out z);have HS:=Lib.hid hsn;clear hsn hcs hIk ck0 hzk hkl;obtain ⟨nb,hnb⟩:∃nb,Qk.needs z p b.ch b.od=nb:=⟨_,rfl⟩;cases nb with
    | false=>
      rw [hnb] at HNE HS;rw [if_neg Bool.false_ne_true,List.append_nil] at HS;clear hnb;go_upto_region 8 with fail
      go_region_with (go_at_call 27;with_reducible refine (HNE.out _).mono ?_;rintro r w5 ⟨rfl,hb5⟩
                      have HB5:=Lib.hid (Base.below_step (show Below W1.heap.size W1 wr.drew from hbr.out.drew) hb5)
                      have HOW:=Lib.hid ((Mem.Keeps.of_below hb5:Mem.Keeps [] _ _).own (show wr.drew.ownsRow W1.heap.size 3 1 _ _ _ from hown.out) (fun _ _ hm=>by cases hm));have ck5:w5.cell? ⟨ib,io+k,none⟩=some (.int .i64 z):=(hb5.cell (p:=⟨ib,io+k,none⟩) hib2).trans ck;clear hb5)
      all_goals
       go_wp2_with fail;go_roundw
       case rel=>exact ⟨k+1,by omega,by go_num,Lib.hid (by rw [HS.out];exact HOW.out),HB5⟩
       case measure=>simp [intOf];omega
    | true=>
      rw [hnb] at HNE HS;rw [if_pos rfl] at HS;clear hnb;go_upto_region 8 with fail
      go_region_with (go_at_call 27;with_reducible refine (HNE.out _).mono ?_;rintro r w5 ⟨rfl,hb5⟩
                      have HB5:=Lib.hid (Base.below_step (show Below W1.heap.size W1 wr.drew from hbr.out.drew) hb5)
                      have HOW:=Lib.hid ((Mem.Keeps.of_below hb5:Mem.Keeps [] _ _).own (show wr.drew.ownsRow W1.heap.size 3 1 _ _ _ from hown.out) (fun _ _ hm=>by cases hm));have ck5:w5.cell? ⟨ib,io+k,none⟩=some (.int .i64 z):=(hb5.cell (p:=⟨ib,io+k,none⟩) hib2).trans ck;clear hb5)
      all_goals
       go_wp2_with (first
        |(at_builtin;refine wpList_append_own _ rfl _ _ 32 rfl W1.heap.size 3 i0 (.int .i64 0) 1 8 Tryz.underlying32 G1.out G2.out G3.out G4.out rfl (by decide) _ _ _ rfl (HOW.out.alloc _) ⟨w5.heap.size,0,none⟩ 1 1 [.int .i64 z] rfl rfl ?c1 ?c2 ?c3 ?c4 ?c5 ?_))
       case c1=>exact news_one w5 _ _
       case c2=>intro u hu;obtain rfl:u=.int .i64 z:=by simpa using hu
                rfl
       case c3=>unfold maxLen;omega
       case c4=>omega
       case c5=>have:=HB5.out.size;simp;omega
       intro v' w' hown' hgr _
       have H2:Hid (w'.ownsRow W1.heap.size 3 1 v' (fl (k+1)).length ((fl (k+1)).map (Value.int .i64))):=Lib.hid (by rw [HS.out];simpa using hown')
       have H3:Hid (Below W1.heap.size W1 w'):=Lib.hid ((HB5.out.alloc HB5.out.size _).grown hgr (by have:=HB5.out.size;simp;omega) (own_base HOW.out));clear hown' hgr;go_wp2;go_roundw
       case rel=>exact ⟨k+1,by omega,by go_num,H2,H3⟩
       case measure=>simp [intOf];omega
   ·obtain rfl:k=n:=by omega
    have t1:¬(k:Int)<(k:Int):=by omega
    go_wp2_with fail;go_ret;obtain ⟨A2,c2,rfl,hI2⟩:=Ints.of_own hown.out;rw [HN.out,HGB.out];exact ⟨A2,⟨c2,rfl⟩,hI2,HB3.out.trans (hbr.out.mono (by have:=HB3.out.size;have:=HGB.out;omega))⟩
 ·rw [if_neg hok] at hef;rw [hef];have hz:a2=false∨(a2=true∧a1=false):=by
   revert hok;cases a2<;>cases a1<;>simp
  clear hok ha1 ha2 hef;go_enter Tryz.func10,Tryz.ntmps10;go_upto_region 1 with fail
  generalize w.alloc (.cells #[.int .i64 b.x0,.int .i64 b.x1,.int .i64 b.x2,.int .i64 b.x3,.int .i64 b.x4,.int .i64 b.x5,.int .i64 b.x6,.int .i64 b.x7,.bool b.ch,.bool b.od] 24)=W0 at *;generalize hgB:w.heap.size=g at *;have HGB:=Lib.hid hgB;clear hgB;have x0:=HZ0.out.c 0 _ rfl;have x1:=HZ0.out.c 1 _ rfl;have x2:=HZ0.out.c 2 _ rfl;have x3:=HZ0.out.c 3 _ rfl;have x4:=HZ0.out.c 4 _ rfl;have x5:=HZ0.out.c 5 _ rfl;have x6:=HZ0.out.c 6 _ rfl;have x7:=HZ0.out.c 7 _ rfl;have x8:=HZ0.out.c 8 _ rfl;have x9:=HZ0.out.c 9 _ rfl;rcases hz with rfl | ⟨rfl,rfl⟩
  ·go_wp2_with (first
   |(go_at_call 16;with_reducible refine (HBR.out _).mono ?_;rintro r w1 ⟨rfl,hb1⟩;have HB1:=Lib.hid hb1;clear hb1)
   |(go_at_call 17;with_reducible refine (HPR.out _).mono ?_;rintro r w6 ⟨rfl,hw⟩;rw [hw];clear hw))
   all_goals (first | done | skip)
   go_ret;refine ⟨none,0,rfl,Ints.nil _ _,?_⟩;rw [HGB.out];first | exact bstep HGB.out HB0.out HB1.out | exact HB0.out
  ·go_wp2_with (first
   |(go_at_call 16;with_reducible refine (HBR.out _).mono ?_;rintro r w1 ⟨rfl,hb1⟩;have HB1:=Lib.hid hb1;clear hb1)
   |(go_at_call 17;with_reducible refine (HPR.out _).mono ?_;rintro r w6 ⟨rfl,hw⟩;rw [hw];clear hw))
   go_ret;refine ⟨none,0,rfl,Ints.nil _ _,?_⟩;rw [HGB.out];first | exact bstep HGB.out HB0.out HB1.out | exact HB0.out
end code
end Go.Proofs.YtimoakmcelocfaaGreat.An
namespace Go.Proofs.YtimoakmcelocfaaGreat.Bld
open Go.RowKit
abbrev T:TypeId:=116
abbrev E:TypeId:=5
theorem infoB:(Tryz.prog.info? 5).map (fun i=>(i.zero,i.size,i.bytes))=some (some (.int .u8 0),1,1):=by kernel_rfl
theorem infoT:(Tryz.prog.info? 116).map (·.size)=some 2:=by kernel_rfl
theorem liesT:liesAt Tryz.prog Tryz.prog.depth 116 (2/Tryz.prog.cellsOf 116) 0 116 1=true:=by kernel_rfl
section code
set_option maxHeartbeats 2000000
set_option maxRecDepth 100000
theorem check_any (B b:Nat) (bs:List Value) (w:World) (h:Lib.IsBuilderF T E B b bs w) :
 Calls Tryz.prog 96 #[.pointer (some ⟨b,0,none⟩)] w fun e w'=>e=.returned (.tuple #[])∧(Lib.BuilderAtF T E B b (.pointer (some ⟨b,0,none⟩)) bs w'∧Below B w w'):=by
 obtain ⟨j,hj,hjs⟩:=Option.map_eq_some_iff.1 infoT;rcases h with h | h
 ·have h0:=h.cell0;have hsh:=h.shape;have hfz:=h.frozen0;have HH:=Lib.hid h;go_enter Tryz.func96,Tryz.ntmps96;go_wp2;rw [Lib.run_to_unsafe w ⟨b,0,none⟩ Tryz.underlying114 Tryz.underlying158 hj (by rw [hjs];decide) hsh (Nat.zero_lt_succ 1)];simp only [Result.andThen];rw [Oper.upon_value];go_wp2;rw [run_callFunc_extern Tryz.func113 (by kernel_rfl) (by kernel_rfl) (by kernel_rfl) (e:=Extern.AbiNoEscape.same) (by kernel_rfl)];rw [Lib.run_noEscape];simp only [Result.andThen];rw [Oper.upon_value];go_wp2;rw [Lib.run_from_unsafe w ⟨b,0,none⟩ Tryz.underlying158 Tryz.underlying114 hj hsh liesT];simp only [Result.andThen];rw [Oper.upon_value];go_wp2;go_end0;exact ⟨rfl,HH.out.used _,(Below.refl B w).setCell (p:=⟨b,0,none⟩) HH.out.1 _⟩
 ·have h0:=h.cell0;have HH:=Lib.hid h;go_enter Tryz.func96,Tryz.ntmps96;go_wp2;rw [Lib.run_neq_ptr_same w _ Tryz.underlying114 hj];go_wp2;go_end0;exact ⟨rfl,HH.out,Below.refl B _⟩
theorem write_any (B b:Nat) (bs:List Value) (s:ByteArray) (w:World) (h:Lib.IsBuilderF T E B b bs w) (hlen:bs.length+s.size≤140737488355328) (hBw:B≤w.heap.size) :
 Calls Tryz.prog 84 #[.pointer (some ⟨b,0,none⟩),.string s] w fun e w'=>e=.returned (.tuple #[.int .i64 s.size,.nilIface])∧(Lib.BuilderAtF T E B b (.pointer (some ⟨b,0,none⟩)) (bs++Lib.strCells s) w'∧Below B w w'):=by
 obtain ⟨i0,hi,hz0,hz1,hz2⟩:=info_parts infoB
 have HC:=Lib.hid (check_any B b bs w h);clear h;go_enter Tryz.func84,Tryz.ntmps84
 go_wp2_with (go_at_call 96;with_reducible refine HC.out.mono ?_);rintro e w1 ⟨rfl,h1⟩;obtain ⟨⟨hB,v,hbk,hown,hne⟩,hb1⟩:=h1;have c0:w1.cell? ⟨b,0,none⟩=some (.pointer (some ⟨b,0,none⟩)):=by rw [Lib.cell_of_heap hbk];rfl
 have c1:w1.cell? ⟨b,1,none⟩=some v:=by rw [Lib.cell_of_heap hbk];rfl
 go_wp2_with (at_builtin;refine Lib.wpList_append_own_stringF _ rfl _ _ 34 9 rfl B 5 i0 Tryz.underlying34 Tryz.underlying9 hi hz0 hz1 hz2 _ _ _ rfl hown s rfl ?c3 ?c4 ?c5 ?_)
 case c3=>unfold maxLen;omega
 case c4=>omega
 case c5=>have:=hb1.size;omega
 intro v' w2 hown' hgrow _;have hlt:b<w1.heap.size:=by
  rcases Nat.lt_or_ge b w1.heap.size with h' | h'
  ·exact h'
  ·simp [Array.getElem?_eq_none h'] at hbk
 have hb2:w2.heap[b]?=some (.cells #[.pointer (some ⟨b,0,none⟩),v] T (0,0)):=by rw [hgrow.block b hlt (fun e=>hne e.symm)];exact hbk
 have d0:w2.cell? ⟨b,0,none⟩=some (.pointer (some ⟨b,0,none⟩)):=by rw [Lib.cell_of_heap hb2];rfl
 have d1:w2.cell? ⟨b,1,none⟩=some v:=by rw [Lib.cell_of_heap hb2];rfl
 have f1:w2.frozen? ⟨b,1,none⟩=false:=Lib.frozen_of_heap hb2 1;obtain ⟨ao,n',cap,rfl⟩:∃ao n' cap,v'=.slice ao n' cap:=by
  rcases hown'.2 with ⟨hv,_⟩ | ⟨g,cap,cur,fz,hv,_⟩
  ·exact ⟨_,_,_,hv⟩
  ·exact ⟨_,_,_,hv⟩
 go_wp2;go_ret2;refine ⟨rfl,?_,?_⟩
 ·exact Lib.BuilderAtF.put (T:=T) (e:=E) hB hb2 (bs':=bs++Lib.strCells s) (by simpa [Lib.strCells_length] using hown') (by decide)
 ·exact (hb1.grown hgrow (by have:=hb1.size;omega) (fun k hk=>(hown.lt k hk).1)).setCell (p:=⟨b,1,none⟩) hB _
end code
end Go.Proofs.YtimoakmcelocfaaGreat.Bld
namespace Go.Proofs.YtimoakmcelocfaaGreat.Wit
open Go.RowKit Base Txt
theorem isB_fresh (w:World):Lib.IsBuilderF Bld.T Bld.E w.heap.size w.heap.size [] (w.alloc (.cells #[.pointer none,.slice none 0 0] Bld.T)):=
 .inl ⟨Nat.le_refl _,.slice none 0 0,heap_alloc_new w _,World.ownsRowF_nil _ _ _ _,by simp [Value.ownBlock]⟩
abbrev E2:ByteArray:=⟨#[13,10]⟩
def linesB (vs:List ByteArray):List UInt8:=vs.flatMap fun v=>v.data.toList ++ [13,10]
theorem linesB_snoc (vs:List ByteArray) (k:Nat) (h:k<vs.length):linesB (vs.take (k+1))=linesB (vs.take k)++(vs[k].data.toList ++ [13,10]):=by rw [List.take_succ_eq_append_getElem h];unfold linesB;rw [List.flatMap_append];simp
theorem linesB_le (vs:List ByteArray) (k:Nat) (h:k<vs.length):(linesB (vs.take k)).length+(vs[k].size+2)≤(linesB vs).length:=by
 have e:linesB vs=linesB (vs.take (k+1))++linesB (vs.drop (k+1)):=by unfold linesB;rw [←List.flatMap_append,List.take_append_drop]
 rw [e,linesB_snoc vs k h];simp only [List.length_append,len,List.length_cons,List.length_nil];omega
section code
set_option maxHeartbeats 4000000
set_option maxRecDepth 20000
attribute [local go_sem] Base.some_undef
theorem lines_any (a:Option Addr) (n cap:Nat) (vs:List ByteArray) (w:World) (hv:Strs w a n vs) (hn:n≤1000000) (hz:(linesB vs).length≤1000000) :
 Calls Tryz.prog 76 #[.slice a n cap] w fun e w'=>e=.returned (.string (ba (linesB vs)))∧Below w.heap.size w w':=by
 have HV:=Lib.hid hv;have HL:=Lib.hid hv.1;have HZ:=Lib.hid hz;clear hv hz
 have HW:=Lib.hid (fun (bs:List Value) (s:ByteArray) (wz:World) h hl hw=>Bld.write_any w.heap.size w.heap.size bs s wz h hl hw);obtain ⟨R,hR⟩:∃R,ba (linesB vs)=R:=⟨_,rfl⟩;rw [hR];have HR:=Lib.hid hR;clear hR;go_enter Tryz.func76,Tryz.ntmps76;go_wp2
 go_loopw [8] (fun i wr=>∃k:Nat,k≤n∧i=.int .i64 k∧Hid (Lib.IsBuilderF Bld.T Bld.E w.heap.size w.heap.size (Lib.byteCells (linesB (vs.take k))) wr)∧Hid (Below w.heap.size w wr)) (fun i _=>n-(intOf i).toNat)
 case atStart=>exact ⟨0,Nat.zero_le _,rfl,Lib.hid (isB_fresh w),Lib.hid ((Below.refl _ _).alloc (Nat.le_refl _) _)⟩
 case round=>
  obtain ⟨k,hk,rfl,HB,hbr⟩:=hrel;rcases Nat.lt_or_ge k n with hlt | hge
  ·obtain ⟨bl,off,rfl,hbl,hc⟩:=(HV.out.below hbr.out).2 (by omega);have hc0:=hc k hlt;have hkl:k<vs.length:=by rw [HL.out];exact hlt
   have hsn:=Lib.hid (linesB_snoc vs k hkl);have hle:=linesB_le vs k hkl;have hz:=HZ.out;clear hc;have e1:vs[k]?.getD ByteArray.empty=vs[k]:=by rw [List.getElem?_eq_getElem hkl];rfl
   generalize hs:vs[k]=s at *;try rw [e1] at hc0
   have hlen:=Lib.hid (show (Lib.byteCells (linesB (vs.take k))).length+(s++E2).size≤140737488355328 by rw [Lib.byteCells_length,ByteArray.size_append];show _+(s.size+2)≤_;omega);have v1:¬9223372036854775807<s.size+2:=by omega
   have hcells:Lib.byteCells (linesB (vs.take k))++Lib.strCells (s++E2)=Lib.byteCells (linesB (vs.take (k+1))):=by rw [Lib.strCells_eq,show (s++E2).data.toList=s.data.toList ++ [13,10] by simp [E2,ByteArray.data_append],←Lib.byteCells_append,←hsn.out]
   have HCl:=Lib.hid hcells;clear hcells hle hz hsn hkl e1 hs;have hBw:w.heap.size≤wr.heap.size:=hbr.out.size
   go_wp2_with (go_at_call 84;with_reducible refine (HW.out _ (s++E2) _ HB.out hlen.out ?hbw).mono ?_)
   case hbw=>omega
   rintro e w2 ⟨rfl,hat,hb2⟩
   have H2:Hid (Lib.IsBuilderF Bld.T Bld.E w.heap.size w.heap.size (Lib.byteCells (linesB (vs.take (k+1)))) w2):=Lib.hid (by rw [←HCl.out];exact .inr hat)
   have H3:Hid (Below w.heap.size w w2):=Lib.hid (hbr.out.trans hb2);clear hat hb2 HB hbr HCl hlen;go_wp2;go_roundw
   case rel=>exact ⟨k+1,by omega,by go_num,H2,H3⟩
   case measure=>simp [intOf];omega
  ·obtain rfl:k=n:=by omega
   have hput:vs.take k=vs:=List.take_of_length_le (by rw [HL.out];exact Nat.le_refl _);rw [hput] at HB
   have HS:=Lib.hid (Tryz.Builder_String_any_f w.heap.size w.heap.size (linesB vs) wr HB.out hbr.out.size);clear HB hput
   go_wp2_with (go_at_call 85;with_reducible refine HS.out.mono ?_;rintro e w2 ⟨rfl,hx,hb2⟩);go_ret;exact ⟨by rw [←HR.out];rfl,hbr.out.trans hb2⟩
end code
end Go.Proofs.YtimoakmcelocfaaGreat.Wit
namespace Go.Proofs.YtimoakmcelocfaaGreat.Wit
open Go.RowKit Base Txt
abbrev mk (g:Nat):Value:=.func (.func 75) #[] #[.pointer (some ⟨g,0,none⟩)]
structure Has (w:World) (g:Nat) (s:ByteArray):Prop where
 lt:g<w.heap.size
 c:w.cell? ⟨g,0,none⟩=some (.string s)
theorem Has.below {w w':World} {g:Nat} {s:ByteArray} (h:Has w g s) (hb:Below w.heap.size w w'):Has w' g s:=
 ⟨Nat.lt_of_lt_of_le h.lt hb.size,(hb.cell (p:=⟨g,0,none⟩) h.lt).trans h.c⟩
theorem Has.new (w:World) (ty:TypeId) (s:ByteArray):Has (w.alloc (.cells #[.string s] ty)) w.heap.size s:=
 ⟨by simp,by
   rw [Lib.cell_of_heap (heap_alloc_new w _)];rfl⟩
theorem strs_lit (w:World) (vs:List ByteArray) (cs:Array Value) (ty:TypeId) (h:cs.toList=vs.map Value.string):Strs (w.alloc (.cells cs ty)) (some ⟨w.heap.size,0,none⟩) vs.length vs:=
 ⟨rfl,fun _=>⟨w.heap.size,0,rfl,by simp,fun k hk=>by
   rw [Nat.zero_add,Lib.cell_of_heap (heap_alloc_new w _)];show cs[k]?= _
   rw [←Array.getElem?_toList,h,List.getElem?_map,List.getElem?_eq_getElem hk];rfl⟩⟩
section code
set_option maxHeartbeats 4000000
set_option maxRecDepth 20000
attribute [local go_sem] Base.some_undef
theorem exactly_any (s:ByteArray) (w:World):Calls Tryz.prog 61 #[.string s] w fun e w'=>∃g,e=.returned (mk g)∧Has w' g s∧Below w.heap.size w w':=by go_enter Tryz.func61,Tryz.ntmps61;go_wp2;go_ret;exact ⟨w.heap.size,rfl,Has.new w _ s,(Below.refl _ _).alloc (Nat.le_refl _) _⟩
theorem made_any (p:Nat) (x0 x1 x2 x3 x4 x5 x6 x7:Int) (c d:Bool) (g:Nat) (s:ByteArray) (w:World) (h:Has w g s) :
 Calls Tryz.prog 75 #[.int .u32 (p:Int),Bnd.bnd x0 x1 x2 x3 x4 x5 x6 x7 c d,.pointer (some ⟨g,0,none⟩)] w fun e w'=>e=.returned (.string s)∧Below w.heap.size w w':=by
 have c0:=h.c;have hlt:=h.lt;clear h;go_enter Tryz.func75,Tryz.ntmps75;go_wp2;go_ret;exact ⟨rfl,(Below.refl _ _).alloc (Nat.le_refl _) _⟩
theorem first_any (s:ByteArray) (w:World) (hs:s.size≤1000000):Calls Tryz.prog 60 #[.string s] w fun e w'=>∃g,e=.returned (mk g)∧Has w' g (s++E2)∧Below w.heap.size w w':=by
 have v1:¬9223372036854775807<s.size+2:=by omega
 have HE:=Lib.hid (exactly_any (s++E2));go_enter Tryz.func60,Tryz.ntmps60
 go_wp2_with (go_at_call 61;with_reducible refine (HE.out _).mono ?_;rintro e w1 ⟨g,rfl,hh,hb⟩);go_ret;exact ⟨g,rfl,hh,hb⟩
abbrev topB:ByteArray:=⟨#[71,69,84,32,47,32,72,84,84,80,47,49,46,49,13,10]⟩
abbrev oldB:ByteArray:=⟨#[71,69,84,32,47,32,72,84,84,80,47,49,46,48,13,10]⟩
theorem fields_any (a:Option Addr) (n cap:Nat) (vs:List ByteArray) (w:World) (hv:Strs w a n vs) (hn:n≤1000000) (hz:(linesB vs).length≤1000000) :
 Calls Tryz.prog 62 #[.slice a n cap] w fun e w'=>∃g,e=.returned (mk g)∧Has w' g (topB++ba (linesB vs))∧Below w.heap.size w w':=by
 have HL:=Lib.hid (lines_any a n cap vs w hv hn hz)
 have HE:=Lib.hid (exactly_any (topB++ba (linesB vs)));have v1:¬9223372036854775807<16+(ba (linesB vs)).size:=by simp [ba,ByteArray.size];omega
 clear hv;generalize ba (linesB vs)=R at *;go_enter Tryz.func62,Tryz.ntmps62
 go_wp2_with (first
  |(go_at_call 61;with_reducible refine (HE.out _).mono ?_;rintro e w2 ⟨g,rfl,hh,hb2⟩)
  |(go_at_call 76;with_reducible refine HL.out.mono ?_;rintro e w1 ⟨rfl,hb⟩))
 go_ret;exact ⟨g,rfl,hh,Base.below_step hb hb2⟩
theorem head_any (a:Option Addr) (n cap:Nat) (vs:List ByteArray) (w:World) (hv:Strs w a n vs) (hn:n≤1000000) (hz:(linesB vs).length≤1000000) :
 Calls Tryz.prog 63 #[.slice a n cap] w fun e w'=>∃g,e=.returned (mk g)∧Has w' g (topB++ba (linesB vs)++E2)∧Below w.heap.size w w':=by
 have HL:=Lib.hid (lines_any a n cap vs w hv hn hz)
 have HE:=Lib.hid (exactly_any (topB++ba (linesB vs)++E2));have hsz:(ba (linesB vs)).size≤1000000:=by simpa [ba,ByteArray.size] using hz
 have v1:¬9223372036854775807<16+(ba (linesB vs)).size:=by omega
 have v2:¬9223372036854775807<16+(ba (linesB vs)).size+2:=by omega
 clear hv hsz;generalize ba (linesB vs)=R at *;go_enter Tryz.func63,Tryz.ntmps63
 go_wp2_with (first
  |(go_at_call 61;with_reducible refine (HE.out _).mono ?_;rintro e w2 ⟨g,rfl,hh,hb2⟩)
  |(go_at_call 76;with_reducible refine HL.out.mono ?_;rintro e w1 ⟨rfl,hb⟩))
 go_ret;exact ⟨g,rfl,hh,Base.below_step hb hb2⟩
abbrev hostB:ByteArray:=⟨#[72,111,115,116,58,32,97]⟩
abbrev chkB:ByteArray:=⟨#[84,114,97,110,115,102,101,114,45,69,110,99,111,100,105,110,103,58,32,99,104,117,110,107,101,100]⟩
abbrev unkB:ByteArray:=⟨#[84,114,97,110,115,102,101,114,45,69,110,99,111,100,105,110,103,58,32,103,122,105,112]⟩
abbrev nobB:ByteArray:=⟨#[67,111,110,116,101,110,116,45,76,101,110,103,116,104,58,32,48]⟩
theorem chunks_any (s:ByteArray) (w:World) (hs:s.size≤1000000) :
 Calls Tryz.prog 65 #[.string s] w fun e w'=>∃g,e=.returned (mk g)∧Has w' g (topB++ba (linesB [hostB,chkB])++E2++s)∧Below w.heap.size w w':=by
 have HL:=Lib.hid (lines_any (some ⟨w.heap.size,0,none⟩) 2 2 [hostB,chkB] (w.alloc (.cells #[.string hostB,.string chkB] 9)) (strs_lit w [hostB,chkB] _ _ rfl) (by decide) (by decide))
 have HE:=Lib.hid (exactly_any (topB++ba (linesB [hostB,chkB])++E2++s));have hz:(ba (linesB [hostB,chkB])).size=37:=by decide +kernel
 have v1:¬9223372036854775807<16+(ba (linesB [hostB,chkB])).size:=by omega
 have v2:¬9223372036854775807<16+(ba (linesB [hostB,chkB])).size+2:=by omega
 have v3:¬9223372036854775807<16+(ba (linesB [hostB,chkB])).size+2+s.size:=by omega
 clear hz;generalize ba (linesB [hostB,chkB])=R at *
 have HB0:=Lib.hid ((Below.refl w.heap.size w).alloc (Nat.le_refl _) (.cells #[.string hostB,.string chkB] 9));go_enter Tryz.func65,Tryz.ntmps65
 go_wp2_with (first
  |(go_at_call 61;with_reducible refine (HE.out _).mono ?_;rintro e w2 ⟨g,rfl,hh,hb2⟩)
  |(go_at_call 76;with_reducible refine HL.out.mono ?_;rintro e w1 ⟨rfl,hb⟩))
 go_ret;exact ⟨g,rfl,hh,Base.below_step (Base.below_step HB0.out hb) hb2⟩
end code
end Go.Proofs.YtimoakmcelocfaaGreat.Wit
namespace Go.Proofs.YtimoakmcelocfaaGreat.Wit
open Go.RowKit Base Txt
def oldW (ch ti:Bool):ByteArray:=oldB++ba (linesB (if ch=true then [chkB] else if ti=true then [unkB] else [chkB,nobB]))++E2
abbrev mkO:Value:=.func (.func 64) #[] #[]
def IsMk (w:World) (v:Value):Option ByteArray→Prop
 | some s=>∃g,v=mk g∧Has w g s
 | none=>v=mkO
theorem IsMk.below {w w':World} {v:Value} {s:Option ByteArray} (h:IsMk w v s) (hb:Below w.heap.size w w'):IsMk w' v s:=by
 cases s with
 | none=>exact h
 | some s=>
   obtain ⟨g,e,h⟩:=h;exact ⟨g,e,h.below hb⟩
structure Ms (w0 w:World) (g0:Nat) (old:Array Value) (ty:TypeId) (l:List (Value × Option ByteArray)):Prop where
 ms:∀x∈l,IsMk w x.1 x.2
 row:w.heap[g0]?=some (.cells old ty (0,0))
 bel:Below w0.heap.size w0 w
 ge:w0.heap.size≤g0
theorem Ms.step {w0 w w':World} {g0:Nat} {old:Array Value} {ty:TypeId} {l:List (Value × Option ByteArray)} (h:Ms w0 w g0 old ty l) {v:Value} {s:Option ByteArray} (hv:IsMk w' v s) (hb:Below w.heap.size w w'):Ms w0 w' g0 old ty ((v,s)::l):=
 ⟨fun x hx=>by
   rcases List.mem_cons.1 hx with e | hx
   ·rw [e];exact hv
   ·exact (h.ms x hx).below hb,by
   have hlt:g0<w.heap.size:=(Array.getElem?_eq_some_iff.1 h.row).1
   rw [←h.row];exact hb.block g0 hlt,Base.below_step h.bel hb,h.ge⟩
section code
set_option maxHeartbeats 8000000
set_option maxRecDepth 20000
attribute [local go_sem] Base.some_undef
theorem old_any (p:Nat) (hp:p<4294967296) (x0 x1 x2 x3 x4 x5 x6 x7:Int) (c d:Bool) (w:World) :
 Calls Tryz.prog 64 #[.int .u32 (p:Int),Bnd.bnd x0 x1 x2 x3 x4 x5 x6 x7 c d] w fun e w'=>e=.returned (.string (oldW c (Qk.has p 19)))∧Below w.heap.size w w':=by
 have HH:=Lib.hid (fun w=>Qk.has_any p hp 19 w);have key:∀(vs:List ByteArray) (w:World) (cs:Array Value),cs.toList=vs.map Value.string→vs.length≤2→(linesB vs).length≤100→Calls Tryz.prog 76 #[.slice (some ⟨w.heap.size,0,none⟩) vs.length vs.length] (w.alloc (.cells cs 9)) fun e w'=>e=.returned (.string (ba (linesB vs)))∧Below w.heap.size w w':=by intro vs w cs h1 h2 h3;refine (lines_any _ _ _ vs (w.alloc (.cells cs 9)) (strs_lit w vs cs _ h1) (by omega) (by omega)).mono ?_;rintro e w' ⟨rfl,hb⟩;exact ⟨rfl,Base.below_step ((Below.refl _ _).alloc (Nat.le_refl _) _) hb⟩
 have hsz:(w.alloc (.cells #[.int .i64 x0,.int .i64 x1,.int .i64 x2,.int .i64 x3,.int .i64 x4,.int .i64 x5,.int .i64 x6,.int .i64 x7,.bool c,.bool d] 24)).heap.size=w.heap.size+1:=by simp
 have H1:=Lib.hid (show Calls Tryz.prog 76 #[.slice (some ⟨w.heap.size+1,0,none⟩) 1 1] ((w.alloc (.cells #[.int .i64 x0,.int .i64 x1,.int .i64 x2,.int .i64 x3,.int .i64 x4,.int .i64 x5,.int .i64 x6,.int .i64 x7,.bool c,.bool d] 24)).alloc (.cells #[.string chkB] 9)) fun e w'=>e=.returned (.string (ba (linesB [chkB])))∧Below (w.heap.size+1) (w.alloc (.cells #[.int .i64 x0,.int .i64 x1,.int .i64 x2,.int .i64 x3,.int .i64 x4,.int .i64 x5,.int .i64 x6,.int .i64 x7,.bool c,.bool d] 24)) w' from hsz ▸ key [chkB] (w.alloc (.cells #[.int .i64 x0,.int .i64 x1,.int .i64 x2,.int .i64 x3,.int .i64 x4,.int .i64 x5,.int .i64 x6,.int .i64 x7,.bool c,.bool d] 24)) _ rfl (by decide) (by decide))
 have H2:=Lib.hid (show Calls Tryz.prog 76 #[.slice (some ⟨w.heap.size+1,0,none⟩) 1 1] ((w.alloc (.cells #[.int .i64 x0,.int .i64 x1,.int .i64 x2,.int .i64 x3,.int .i64 x4,.int .i64 x5,.int .i64 x6,.int .i64 x7,.bool c,.bool d] 24)).alloc (.cells #[.string unkB] 9)) fun e w'=>e=.returned (.string (ba (linesB [unkB])))∧Below (w.heap.size+1) (w.alloc (.cells #[.int .i64 x0,.int .i64 x1,.int .i64 x2,.int .i64 x3,.int .i64 x4,.int .i64 x5,.int .i64 x6,.int .i64 x7,.bool c,.bool d] 24)) w' from hsz ▸ key [unkB] (w.alloc (.cells #[.int .i64 x0,.int .i64 x1,.int .i64 x2,.int .i64 x3,.int .i64 x4,.int .i64 x5,.int .i64 x6,.int .i64 x7,.bool c,.bool d] 24)) _ rfl (by decide) (by decide))
 have H3:=Lib.hid (show Calls Tryz.prog 76 #[.slice (some ⟨w.heap.size+1,0,none⟩) 2 2] ((w.alloc (.cells #[.int .i64 x0,.int .i64 x1,.int .i64 x2,.int .i64 x3,.int .i64 x4,.int .i64 x5,.int .i64 x6,.int .i64 x7,.bool c,.bool d] 24)).alloc (.cells #[.string chkB,.string nobB] 9)) fun e w'=>e=.returned (.string (ba (linesB [chkB,nobB])))∧Below (w.heap.size+1) (w.alloc (.cells #[.int .i64 x0,.int .i64 x1,.int .i64 x2,.int .i64 x3,.int .i64 x4,.int .i64 x5,.int .i64 x6,.int .i64 x7,.bool c,.bool d] 24)) w' from hsz ▸ key [chkB,nobB] (w.alloc (.cells #[.int .i64 x0,.int .i64 x1,.int .i64 x2,.int .i64 x3,.int .i64 x4,.int .i64 x5,.int .i64 x6,.int .i64 x7,.bool c,.bool d] 24)) _ rfl (by decide) (by decide));clear hsz;have z1:(ba (linesB [chkB])).size=28:=by decide +kernel
 have z2:(ba (linesB [unkB])).size=25:=by decide +kernel
 have z3:(ba (linesB [chkB,nobB])).size=47:=by decide +kernel
 unfold oldW
 have HB0:=Lib.hid ((Below.refl w.heap.size w).alloc (Nat.le_refl _) (.cells #[.int .i64 x0,.int .i64 x1,.int .i64 x2,.int .i64 x3,.int .i64 x4,.int .i64 x5,.int .i64 x6,.int .i64 x7,.bool c,.bool d] 24));clear key;cases c with
 | true=>
   rw [if_pos rfl];generalize ba (linesB [chkB])=R at *;have v1:¬9223372036854775807<16+R.size:=by omega
   have v2:¬9223372036854775807<16+R.size+2:=by omega
   go_enter Tryz.func64,Tryz.ntmps64
   go_wp2_with (go_at_call 76;with_reducible refine H1.out.mono ?_;rintro e w1 ⟨rfl,hb⟩);go_ret;exact ⟨rfl,HB0.out.trans (hb.mono (Nat.le_succ _))⟩
 | false=>
   rw [if_neg Bool.false_ne_true];generalize Qk.has p 19=ti at *;cases ti with
   | true=>
     rw [if_pos rfl];generalize ba (linesB [unkB])=R at *;have v1:¬9223372036854775807<16+R.size:=by omega
     have v2:¬9223372036854775807<16+R.size+2:=by omega
     go_enter Tryz.func64,Tryz.ntmps64
     go_wp2_with (first
      |(go_at_call 76;with_reducible refine H2.out.mono ?_;rintro e w1 ⟨rfl,hb⟩)
      |(go_at_call 42;with_reducible refine (HH.out _).mono ?_;rintro e w1 ⟨rfl,hw⟩;rw [hw];clear hw))
     go_ret;exact ⟨rfl,HB0.out.trans (hb.mono (Nat.le_succ _))⟩
   | false=>
     rw [if_neg Bool.false_ne_true];generalize ba (linesB [chkB,nobB])=R at *;have v1:¬9223372036854775807<16+R.size:=by omega
     have v2:¬9223372036854775807<16+R.size+2:=by omega
     go_enter Tryz.func64,Tryz.ntmps64
     go_wp2_with (first
      |(go_at_call 76;with_reducible refine H3.out.mono ?_;rintro e w1 ⟨rfl,hb⟩)
      |(go_at_call 42;with_reducible refine (HH.out _).mono ?_;rintro e w1 ⟨rfl,hw⟩;rw [hw];clear hw))
     go_ret;exact ⟨rfl,HB0.out.trans (hb.mono (Nat.le_succ _))⟩
theorem exactly_mk (s:ByteArray) (w:World):Calls Tryz.prog 61 #[.string s] w fun e w'=>∃v,e=.returned v∧IsMk w' v (some s)∧Below w.heap.size w w':=
 (exactly_any s w).mono (by rintro e w' ⟨g,rfl,h,hb⟩;exact ⟨_,rfl,⟨g,rfl,h⟩,hb⟩)
theorem first_mk (s:ByteArray) (w:World) (hs:s.size≤1000000):Calls Tryz.prog 60 #[.string s] w fun e w'=>∃v,e=.returned v∧IsMk w' v (some (s++E2))∧Below w.heap.size w w':=
 (first_any s w hs).mono (by rintro e w' ⟨g,rfl,h,hb⟩;exact ⟨_,rfl,⟨g,rfl,h⟩,hb⟩)
theorem chunks_mk (s:ByteArray) (w:World) (hs:s.size≤1000000):Calls Tryz.prog 65 #[.string s] w fun e w'=>∃v,e=.returned v∧IsMk w' v (some (topB++ba (linesB [hostB,chkB])++E2++s))∧Below w.heap.size w w':=
 (chunks_any s w hs).mono (by rintro e w' ⟨g,rfl,h,hb⟩;exact ⟨_,rfl,⟨g,rfl,h⟩,hb⟩)
theorem fields_mk (vs:List ByteArray) (w:World) (cs:Array Value) (h1:cs.toList=vs.map Value.string) (h2:vs.length≤3) (h3:(linesB vs).length≤200) :
 Calls Tryz.prog 62 #[.slice (some ⟨w.heap.size,0,none⟩) vs.length vs.length] (w.alloc (.cells cs 9)) fun e w'=>∃v,e=.returned v∧IsMk w' v (some (topB++ba (linesB vs)))∧Below w.heap.size w w':=
 (fields_any _ _ _ vs _ (strs_lit w vs cs _ h1) (by omega) (by omega)).mono (by rintro e w' ⟨g,rfl,h,hb⟩;exact ⟨_,rfl,⟨g,rfl,h⟩,Base.below_step ((Below.refl _ _).alloc (Nat.le_refl _) _) hb⟩)
theorem head_mk (vs:List ByteArray) (w:World) (cs:Array Value) (h1:cs.toList=vs.map Value.string) (h2:vs.length≤3) (h3:(linesB vs).length≤200) :
 Calls Tryz.prog 63 #[.slice (some ⟨w.heap.size,0,none⟩) vs.length vs.length] (w.alloc (.cells cs 9)) fun e w'=>∃v,e=.returned v∧IsMk w' v (some (topB++ba (linesB vs)++E2))∧Below w.heap.size w w':=
 (head_any _ _ _ vs _ (strs_lit w vs cs _ h1) (by omega) (by omega)).mono (by rintro e w' ⟨g,rfl,h,hb⟩;exact ⟨_,rfl,⟨g,rfl,h⟩,Base.below_step ((Below.refl _ _).alloc (Nat.le_refl _) _) hb⟩)
theorem head_none (w:World):Calls Tryz.prog 63 #[.slice none 0 0] w fun e w'=>∃v,e=.returned v∧IsMk w' v (some (topB++ba (linesB [])++E2))∧Below w.heap.size w w':=
 (head_any _ _ _ [] w (Strs.nil w none) (by omega) (by decide)).mono (by rintro e w' ⟨g,rfl,h,hb⟩;exact ⟨_,rfl,⟨g,rfl,h⟩,hb⟩)
end code
end Go.Proofs.YtimoakmcelocfaaGreat.Wit
namespace Go.Proofs.YtimoakmcelocfaaGreat.Wit
open Go.RowKit Base Txt
def T0:ByteArray:=(((⟨#[]⟩:ByteArray))++E2)
def T1:ByteArray:=(⟨#[71,69,84,32,47,32,72,84,84,80,47,49,46,49,10]⟩:ByteArray)
def T2:ByteArray:=(⟨#[71,69,84,32,47,32,72,84,84,80,47,49,46,49,13,72]⟩:ByteArray)
def T3:ByteArray:=(((⟨#[71,69,84,32,32,47,32,72,84,84,80,47,49,46,49]⟩:ByteArray))++E2)
def T4:ByteArray:=(((⟨#[71,69,84,32,47,32,72,84,84,80,47,49,46,50]⟩:ByteArray))++E2)
def T5:ByteArray:=(((⟨#[71,69,84,32,47,32,104,116,116,112,47,49,46,49]⟩:ByteArray))++E2)
def T6:ByteArray:=(((⟨#[71,69,84,32,47]⟩:ByteArray))++E2)
def T7:ByteArray:=(((⟨#[71,69,84,32,47,97,32,98,32,72,84,84,80,47,49,46,49]⟩:ByteArray))++E2)
def T8:ByteArray:=(((⟨#[71,69,84,32,47,1,32,72,84,84,80,47,49,46,49]⟩:ByteArray))++E2)
def T9:ByteArray:=(topB++ba (linesB [⟨#[72,111,115,116,32,58,32,97]⟩]))
def T10:ByteArray:=(topB++ba (linesB [⟨#[40,58,32,97]⟩]))
def T11:ByteArray:=(topB++ba (linesB [⟨#[97]⟩]))
def T12:ByteArray:=(topB++ba (linesB [⟨#[58,32,97]⟩]))
def T13:ByteArray:=(topB++ba (linesB [⟨#[72,111,115,116,58,32,97]⟩,⟨#[32,98]⟩]))
def T14:ByteArray:=(topB++ba (linesB [⟨#[65,58,32,1]⟩]))
def T15:ByteArray:=(topB++ba (linesB [])++E2)
def T16:ByteArray:=(topB++ba (linesB [⟨#[72,111,115,116,58,32,97]⟩,⟨#[72,111,115,116,58,32,97]⟩])++E2)
def T17:ByteArray:=(topB++ba (linesB [⟨#[84,114,97,110,115,102,101,114,45,69,110,99,111,100,105,110,103,58,32,11,99,104,117,110,107,101,100]⟩]))
def T18:ByteArray:=(topB++ba (linesB [⟨#[72,111,115,116,58,32,97]⟩,⟨#[84,114,97,110,115,102,101,114,45,69,110,99,111,100,105,110,103,58,32,103,122,105,112,44,32,99,104,117,110,107,101,100]⟩])++E2)
def T19:ByteArray:=(topB++ba (linesB [⟨#[72,111,115,116,58,32,97]⟩,⟨#[84,114,97,110,115,102,101,114,45,69,110,99,111,100,105,110,103,58,32,103,122,105,112]⟩])++E2)
def T21:ByteArray:=(topB++ba (linesB [⟨#[72,111,115,116,58,32,97]⟩,⟨#[84,114,97,110,115,102,101,114,45,69,110,99,111,100,105,110,103,58,32,99,104,117,110,107,101,100]⟩,⟨#[67,111,110,116,101,110,116,45,76,101,110,103,116,104,58,32,48]⟩])++E2)
def T22:ByteArray:=(topB++ba (linesB [⟨#[72,111,115,116,58,32,97]⟩,⟨#[84,114,97,110,115,102,101,114,45,69,110,99,111,100,105,110,103,58,32,99,104,117,110,107,101,100]⟩,⟨#[67,111,110,116,101,110,116,45,76,101,110,103,116,104,58,32,48]⟩])++E2)
def T23:ByteArray:=(topB++ba (linesB [⟨#[72,111,115,116,58,32,97]⟩,⟨#[67,111,110,116,101,110,116,45,76,101,110,103,116,104,58,32,43,48]⟩])++E2)
def T24:ByteArray:=(topB++ba (linesB [⟨#[72,111,115,116,58,32,97]⟩,⟨#[67,111,110,116,101,110,116,45,76,101,110,103,116,104,58,32,48,44,32,48]⟩])++E2)
def T25:ByteArray:=(topB++ba (linesB [⟨#[72,111,115,116,58,32,97]⟩,⟨#[67,111,110,116,101,110,116,45,76,101,110,103,116,104,58,32,48]⟩,⟨#[67,111,110,116,101,110,116,45,76,101,110,103,116,104,58,32,49]⟩])++E2)
def T26:ByteArray:=(topB++ba (linesB [⟨#[72,111,115,116,58,32,97]⟩,⟨#[67,111,110,116,101,110,116,45,76,101,110,103,116,104,58,32,48]⟩,⟨#[67,111,110,116,101,110,116,45,76,101,110,103,116,104,58,32,49]⟩])++E2)
def T27:ByteArray:=(topB++ba (linesB [hostB,chkB])++E2 ++⟨#[48,120,49,13,10]⟩)
def T28:ByteArray:=(topB++ba (linesB [hostB,chkB])++E2 ++⟨#[32,49,13,10]⟩)
def T29:ByteArray:=(topB++ba (linesB [hostB,chkB])++E2 ++⟨#[49,13,10,97,48]⟩)
def texts:List (Option ByteArray):= [some T0,some T1,some T2,some T3,some T4,some T5,some T6,some T7,some T8,some T9,some T10,some T11,some T12,some T13,some T14,some T15,some T16,some T17,some T18,some T19,none,some T21,some T22,some T23,some T24,some T25,some T26,some T27,some T28,some T29]
def Each2 (w:World):List Value→List (Option ByteArray)→Prop
 | [],[]=>True
 | v::vs,s::ss=>IsMk w v s∧Each2 w vs ss
 | _,_=>False
theorem Each2.at {w:World}:∀{vs:List Value} {ss:List (Option ByteArray)},Each2 w vs ss→vs.length=ss.length∧∀k,k<ss.length→∃v s,vs[k]?=some v∧ss[k]?=some s∧IsMk w v s
 | [],[],_=>⟨rfl,fun k hk=>absurd hk (Nat.not_lt_zero _)⟩
 | v::vs,s::ss,h=>by
   obtain ⟨h1,h2⟩:=Each2.at h.2;refine ⟨by rw [List.length_cons,List.length_cons,h1],fun k hk=>?_⟩;cases k with
   | zero=>exact ⟨v,s,rfl,rfl,h.1⟩
   | succ k=>exact h2 k (by rw [List.length_cons] at hk;omega)
theorem Each2.below {w w':World} (hb:Below w.heap.size w w'):∀{vs:List Value} {ss:List (Option ByteArray)},Each2 w vs ss→Each2 w' vs ss
 | [],[],_=>trivial
 | _ :: _,_ :: _,h=>⟨h.1.below hb,Each2.below hb h.2⟩
theorem Has.setRow {w:World} {g g0:Nat} {s:ByteArray} {n:Nat} {ty:TypeId} (hr:w.heap[g0]?=some (.cells (Array.replicate n .nilFunc) ty (0,0))) (cs:Array Value) (h:Has w g s):Has (w.setRow g0 cs) g s:=by
 have hne:g≠g0:=by
  intro e;have h1:=h.c;rw [e,Lib.cell_of_heap hr] at h1;cases n with
  | zero=>simp at h1
  | succ n=>simp at h1
 refine ⟨?_,?_⟩
 ·have:=h.lt;simpa [World.setRow] using this
 ·rw [cell_setRow_other w g0 cs ⟨g,0,none⟩ hne];exact h.c
theorem wpList_build' {P:Program} {ops:Array Oper} {rest:List Oper} {o:Oper} {a:Act} {w:World} {Q:Exit→Act→World→Prop} (hg:o.guard=none) (t:TypeId) (parts:Array (Nat × Operand)) (ho:o.op=.build t parts) (cells:Array Value)
 (hf:P.built t (parts.map fun (i,x)=>(i,a.eval x)).toList=some cells) (h:wpList P ops Q rest (a.put o.dst (.agg cells)) w):wpList P ops Q (o::rest) a w:=
 wpList_build hg t parts ho (by rw [hf];rfl) (by rw [hf];exact h)
section code
set_option maxHeartbeats 16000000
set_option maxRecDepth 20000
attribute [local go_sem] Base.some_undef
theorem makers_any (w:World):Calls Tryz.prog 43 #[] w fun e w'=>∃vs:List Value,e=.returned (.agg vs.toArray)∧Each2 w' vs texts∧Below w.heap.size w w':=by
 have K0:=Lib.hid (fun w:World=>show Calls Tryz.prog 60 #[.string ⟨#[]⟩] w fun e w'=>∃v,e=.returned v∧IsMk w' v (some T0)∧Below w.heap.size w w' from first_mk _ w (by decide))
 have K1:=Lib.hid (fun w:World=>show Calls Tryz.prog 61 #[.string ⟨#[71,69,84,32,47,32,72,84,84,80,47,49,46,49,10]⟩] w fun e w'=>∃v,e=.returned v∧IsMk w' v (some T1)∧Below w.heap.size w w' from exactly_mk _ w)
 have K2:=Lib.hid (fun w:World=>show Calls Tryz.prog 61 #[.string ⟨#[71,69,84,32,47,32,72,84,84,80,47,49,46,49,13,72]⟩] w fun e w'=>∃v,e=.returned v∧IsMk w' v (some T2)∧Below w.heap.size w w' from exactly_mk _ w)
 have K3:=Lib.hid (fun w:World=>show Calls Tryz.prog 60 #[.string ⟨#[71,69,84,32,32,47,32,72,84,84,80,47,49,46,49]⟩] w fun e w'=>∃v,e=.returned v∧IsMk w' v (some T3)∧Below w.heap.size w w' from first_mk _ w (by decide))
 have K4:=Lib.hid (fun w:World=>show Calls Tryz.prog 60 #[.string ⟨#[71,69,84,32,47,32,72,84,84,80,47,49,46,50]⟩] w fun e w'=>∃v,e=.returned v∧IsMk w' v (some T4)∧Below w.heap.size w w' from first_mk _ w (by decide))
 have K5:=Lib.hid (fun w:World=>show Calls Tryz.prog 60 #[.string ⟨#[71,69,84,32,47,32,104,116,116,112,47,49,46,49]⟩] w fun e w'=>∃v,e=.returned v∧IsMk w' v (some T5)∧Below w.heap.size w w' from first_mk _ w (by decide))
 have K6:=Lib.hid (fun w:World=>show Calls Tryz.prog 60 #[.string ⟨#[71,69,84,32,47]⟩] w fun e w'=>∃v,e=.returned v∧IsMk w' v (some T6)∧Below w.heap.size w w' from first_mk _ w (by decide))
 have K7:=Lib.hid (fun w:World=>show Calls Tryz.prog 60 #[.string ⟨#[71,69,84,32,47,97,32,98,32,72,84,84,80,47,49,46,49]⟩] w fun e w'=>∃v,e=.returned v∧IsMk w' v (some T7)∧Below w.heap.size w w' from first_mk _ w (by decide))
 have K8:=Lib.hid (fun w:World=>show Calls Tryz.prog 60 #[.string ⟨#[71,69,84,32,47,1,32,72,84,84,80,47,49,46,49]⟩] w fun e w'=>∃v,e=.returned v∧IsMk w' v (some T8)∧Below w.heap.size w w' from first_mk _ w (by decide))
 have K9:=Lib.hid (fun w:World=>show Calls Tryz.prog 62 #[.slice (some ⟨w.heap.size,0,none⟩) 1 1] (w.alloc (.cells #[.string ⟨#[72,111,115,116,32,58,32,97]⟩] 9)) fun e w'=>∃v,e=.returned v∧IsMk w' v (some T9)∧Below w.heap.size w w' from fields_mk [⟨#[72,111,115,116,32,58,32,97]⟩] w _ rfl (by decide) (by decide))
 have K10:=Lib.hid (fun w:World=>show Calls Tryz.prog 62 #[.slice (some ⟨w.heap.size,0,none⟩) 1 1] (w.alloc (.cells #[.string ⟨#[40,58,32,97]⟩] 9)) fun e w'=>∃v,e=.returned v∧IsMk w' v (some T10)∧Below w.heap.size w w' from fields_mk [⟨#[40,58,32,97]⟩] w _ rfl (by decide) (by decide))
 have K11:=Lib.hid (fun w:World=>show Calls Tryz.prog 62 #[.slice (some ⟨w.heap.size,0,none⟩) 1 1] (w.alloc (.cells #[.string ⟨#[97]⟩] 9)) fun e w'=>∃v,e=.returned v∧IsMk w' v (some T11)∧Below w.heap.size w w' from fields_mk [⟨#[97]⟩] w _ rfl (by decide) (by decide))
 have K12:=Lib.hid (fun w:World=>show Calls Tryz.prog 62 #[.slice (some ⟨w.heap.size,0,none⟩) 1 1] (w.alloc (.cells #[.string ⟨#[58,32,97]⟩] 9)) fun e w'=>∃v,e=.returned v∧IsMk w' v (some T12)∧Below w.heap.size w w' from fields_mk [⟨#[58,32,97]⟩] w _ rfl (by decide) (by decide))
 have K13:=Lib.hid (fun w:World=>show Calls Tryz.prog 62 #[.slice (some ⟨w.heap.size,0,none⟩) 2 2] (w.alloc (.cells #[.string ⟨#[72,111,115,116,58,32,97]⟩,.string ⟨#[32,98]⟩] 9)) fun e w'=>∃v,e=.returned v∧IsMk w' v (some T13)∧Below w.heap.size w w' from fields_mk [⟨#[72,111,115,116,58,32,97]⟩,⟨#[32,98]⟩] w _ rfl (by decide) (by decide))
 have K14:=Lib.hid (fun w:World=>show Calls Tryz.prog 62 #[.slice (some ⟨w.heap.size,0,none⟩) 1 1] (w.alloc (.cells #[.string ⟨#[65,58,32,1]⟩] 9)) fun e w'=>∃v,e=.returned v∧IsMk w' v (some T14)∧Below w.heap.size w w' from fields_mk [⟨#[65,58,32,1]⟩] w _ rfl (by decide) (by decide))
 have K15:=Lib.hid (fun w:World=>show Calls Tryz.prog 63 #[.slice none 0 0] w fun e w'=>∃v,e=.returned v∧IsMk w' v (some T15)∧Below w.heap.size w w' from head_none w)
 have K16:=Lib.hid (fun w:World=>show Calls Tryz.prog 63 #[.slice (some ⟨w.heap.size,0,none⟩) 2 2] (w.alloc (.cells #[.string ⟨#[72,111,115,116,58,32,97]⟩,.string ⟨#[72,111,115,116,58,32,97]⟩] 9)) fun e w'=>∃v,e=.returned v∧IsMk w' v (some T16)∧Below w.heap.size w w' from head_mk [⟨#[72,111,115,116,58,32,97]⟩,⟨#[72,111,115,116,58,32,97]⟩] w _ rfl (by decide) (by decide))
 have K17:=Lib.hid (fun w:World=>show Calls Tryz.prog 62 #[.slice (some ⟨w.heap.size,0,none⟩) 1 1] (w.alloc (.cells #[.string ⟨#[84,114,97,110,115,102,101,114,45,69,110,99,111,100,105,110,103,58,32,11,99,104,117,110,107,101,100]⟩] 9)) fun e w'=>∃v,e=.returned v∧IsMk w' v (some T17)∧Below w.heap.size w w' from fields_mk [⟨#[84,114,97,110,115,102,101,114,45,69,110,99,111,100,105,110,103,58,32,11,99,104,117,110,107,101,100]⟩] w _ rfl (by decide) (by decide))
 have K18:=Lib.hid (fun w:World=>show Calls Tryz.prog 63 #[.slice (some ⟨w.heap.size,0,none⟩) 2 2] (w.alloc (.cells #[.string ⟨#[72,111,115,116,58,32,97]⟩,.string ⟨#[84,114,97,110,115,102,101,114,45,69,110,99,111,100,105,110,103,58,32,103,122,105,112,44,32,99,104,117,110,107,101,100]⟩] 9)) fun e w'=>∃v,e=.returned v∧IsMk w' v (some T18)∧Below w.heap.size w w' from head_mk [⟨#[72,111,115,116,58,32,97]⟩,⟨#[84,114,97,110,115,102,101,114,45,69,110,99,111,100,105,110,103,58,32,103,122,105,112,44,32,99,104,117,110,107,101,100]⟩] w _ rfl (by decide) (by decide))
 have K19:=Lib.hid (fun w:World=>show Calls Tryz.prog 63 #[.slice (some ⟨w.heap.size,0,none⟩) 2 2] (w.alloc (.cells #[.string ⟨#[72,111,115,116,58,32,97]⟩,.string ⟨#[84,114,97,110,115,102,101,114,45,69,110,99,111,100,105,110,103,58,32,103,122,105,112]⟩] 9)) fun e w'=>∃v,e=.returned v∧IsMk w' v (some T19)∧Below w.heap.size w w' from head_mk [⟨#[72,111,115,116,58,32,97]⟩,⟨#[84,114,97,110,115,102,101,114,45,69,110,99,111,100,105,110,103,58,32,103,122,105,112]⟩] w _ rfl (by decide) (by decide))
 have K21:=Lib.hid (fun w:World=>show Calls Tryz.prog 63 #[.slice (some ⟨w.heap.size,0,none⟩) 3 3] (w.alloc (.cells #[.string ⟨#[72,111,115,116,58,32,97]⟩,.string ⟨#[84,114,97,110,115,102,101,114,45,69,110,99,111,100,105,110,103,58,32,99,104,117,110,107,101,100]⟩,.string ⟨#[67,111,110,116,101,110,116,45,76,101,110,103,116,104,58,32,48]⟩] 9)) fun e w'=>∃v,e=.returned v∧IsMk w' v (some T21)∧Below w.heap.size w w' from head_mk [⟨#[72,111,115,116,58,32,97]⟩,⟨#[84,114,97,110,115,102,101,114,45,69,110,99,111,100,105,110,103,58,32,99,104,117,110,107,101,100]⟩,⟨#[67,111,110,116,101,110,116,45,76,101,110,103,116,104,58,32,48]⟩] w _ rfl (by decide) (by decide))
 have K22:=Lib.hid (fun w:World=>show Calls Tryz.prog 63 #[.slice (some ⟨w.heap.size,0,none⟩) 3 3] (w.alloc (.cells #[.string ⟨#[72,111,115,116,58,32,97]⟩,.string ⟨#[84,114,97,110,115,102,101,114,45,69,110,99,111,100,105,110,103,58,32,99,104,117,110,107,101,100]⟩,.string ⟨#[67,111,110,116,101,110,116,45,76,101,110,103,116,104,58,32,48]⟩] 9)) fun e w'=>∃v,e=.returned v∧IsMk w' v (some T22)∧Below w.heap.size w w' from head_mk [⟨#[72,111,115,116,58,32,97]⟩,⟨#[84,114,97,110,115,102,101,114,45,69,110,99,111,100,105,110,103,58,32,99,104,117,110,107,101,100]⟩,⟨#[67,111,110,116,101,110,116,45,76,101,110,103,116,104,58,32,48]⟩] w _ rfl (by decide) (by decide))
 have K23:=Lib.hid (fun w:World=>show Calls Tryz.prog 63 #[.slice (some ⟨w.heap.size,0,none⟩) 2 2] (w.alloc (.cells #[.string ⟨#[72,111,115,116,58,32,97]⟩,.string ⟨#[67,111,110,116,101,110,116,45,76,101,110,103,116,104,58,32,43,48]⟩] 9)) fun e w'=>∃v,e=.returned v∧IsMk w' v (some T23)∧Below w.heap.size w w' from head_mk [⟨#[72,111,115,116,58,32,97]⟩,⟨#[67,111,110,116,101,110,116,45,76,101,110,103,116,104,58,32,43,48]⟩] w _ rfl (by decide) (by decide))
 have K24:=Lib.hid (fun w:World=>show Calls Tryz.prog 63 #[.slice (some ⟨w.heap.size,0,none⟩) 2 2] (w.alloc (.cells #[.string ⟨#[72,111,115,116,58,32,97]⟩,.string ⟨#[67,111,110,116,101,110,116,45,76,101,110,103,116,104,58,32,48,44,32,48]⟩] 9)) fun e w'=>∃v,e=.returned v∧IsMk w' v (some T24)∧Below w.heap.size w w' from head_mk [⟨#[72,111,115,116,58,32,97]⟩,⟨#[67,111,110,116,101,110,116,45,76,101,110,103,116,104,58,32,48,44,32,48]⟩] w _ rfl (by decide) (by decide))
 have K25:=Lib.hid (fun w:World=>show Calls Tryz.prog 63 #[.slice (some ⟨w.heap.size,0,none⟩) 3 3] (w.alloc (.cells #[.string ⟨#[72,111,115,116,58,32,97]⟩,.string ⟨#[67,111,110,116,101,110,116,45,76,101,110,103,116,104,58,32,48]⟩,.string ⟨#[67,111,110,116,101,110,116,45,76,101,110,103,116,104,58,32,49]⟩] 9)) fun e w'=>∃v,e=.returned v∧IsMk w' v (some T25)∧Below w.heap.size w w' from head_mk [⟨#[72,111,115,116,58,32,97]⟩,⟨#[67,111,110,116,101,110,116,45,76,101,110,103,116,104,58,32,48]⟩,⟨#[67,111,110,116,101,110,116,45,76,101,110,103,116,104,58,32,49]⟩] w _ rfl (by decide) (by decide))
 have K26:=Lib.hid (fun w:World=>show Calls Tryz.prog 63 #[.slice (some ⟨w.heap.size,0,none⟩) 3 3] (w.alloc (.cells #[.string ⟨#[72,111,115,116,58,32,97]⟩,.string ⟨#[67,111,110,116,101,110,116,45,76,101,110,103,116,104,58,32,48]⟩,.string ⟨#[67,111,110,116,101,110,116,45,76,101,110,103,116,104,58,32,49]⟩] 9)) fun e w'=>∃v,e=.returned v∧IsMk w' v (some T26)∧Below w.heap.size w w' from head_mk [⟨#[72,111,115,116,58,32,97]⟩,⟨#[67,111,110,116,101,110,116,45,76,101,110,103,116,104,58,32,48]⟩,⟨#[67,111,110,116,101,110,116,45,76,101,110,103,116,104,58,32,49]⟩] w _ rfl (by decide) (by decide))
 have K27:=Lib.hid (fun w:World=>show Calls Tryz.prog 65 #[.string ⟨#[48,120,49,13,10]⟩] w fun e w'=>∃v,e=.returned v∧IsMk w' v (some T27)∧Below w.heap.size w w' from chunks_mk _ w (by decide))
 have K28:=Lib.hid (fun w:World=>show Calls Tryz.prog 65 #[.string ⟨#[32,49,13,10]⟩] w fun e w'=>∃v,e=.returned v∧IsMk w' v (some T28)∧Below w.heap.size w w' from chunks_mk _ w (by decide))
 have K29:=Lib.hid (fun w:World=>show Calls Tryz.prog 65 #[.string ⟨#[49,13,10,97,48]⟩] w fun e w'=>∃v,e=.returned v∧IsMk w' v (some T29)∧Below w.heap.size w w' from chunks_mk _ w (by decide))
 have HM:=Lib.hid (show Ms w (w.alloc (.cells (Array.replicate 30 .nilFunc) 78)) w.heap.size (Array.replicate 30 .nilFunc) 78 [] from ⟨(by intro x hx;cases hx),heap_alloc_new w _,(Below.refl _ _).alloc (Nat.le_refl _) _,Nat.le_refl _⟩);go_enter Tryz.func43,Tryz.ntmps43;go_upto_region 1 with fail
 go_wp2_with (first
  |(go_at_call 60;with_reducible refine (K0.out _).mono ?_;rintro e wn ⟨v,rfl,hv,hb⟩
    replace HM:=Lib.hid (HM.out.step hv hb);clear hv hb)
  |(go_at_call 61;with_reducible refine (K1.out _).mono ?_;rintro e wn ⟨v,rfl,hv,hb⟩
    replace HM:=Lib.hid (HM.out.step hv hb);clear hv hb)
  |(go_at_call 61;with_reducible refine (K2.out _).mono ?_;rintro e wn ⟨v,rfl,hv,hb⟩
    replace HM:=Lib.hid (HM.out.step hv hb);clear hv hb)
  |(go_at_call 60;with_reducible refine (K3.out _).mono ?_;rintro e wn ⟨v,rfl,hv,hb⟩
    replace HM:=Lib.hid (HM.out.step hv hb);clear hv hb)
  |(go_at_call 60;with_reducible refine (K4.out _).mono ?_;rintro e wn ⟨v,rfl,hv,hb⟩
    replace HM:=Lib.hid (HM.out.step hv hb);clear hv hb)
  |(go_at_call 60;with_reducible refine (K5.out _).mono ?_;rintro e wn ⟨v,rfl,hv,hb⟩
    replace HM:=Lib.hid (HM.out.step hv hb);clear hv hb)
  |(go_at_call 60;with_reducible refine (K6.out _).mono ?_;rintro e wn ⟨v,rfl,hv,hb⟩
    replace HM:=Lib.hid (HM.out.step hv hb);clear hv hb)
  |(go_at_call 60;with_reducible refine (K7.out _).mono ?_;rintro e wn ⟨v,rfl,hv,hb⟩
    replace HM:=Lib.hid (HM.out.step hv hb);clear hv hb)
  |(go_at_call 60;with_reducible refine (K8.out _).mono ?_;rintro e wn ⟨v,rfl,hv,hb⟩
    replace HM:=Lib.hid (HM.out.step hv hb);clear hv hb)
  |(go_at_call 62;with_reducible refine (K9.out _).mono ?_;rintro e wn ⟨v,rfl,hv,hb⟩
    replace HM:=Lib.hid (HM.out.step hv hb);clear hv hb)
  |(go_at_call 62;with_reducible refine (K10.out _).mono ?_;rintro e wn ⟨v,rfl,hv,hb⟩
    replace HM:=Lib.hid (HM.out.step hv hb);clear hv hb)
  |(go_at_call 62;with_reducible refine (K11.out _).mono ?_;rintro e wn ⟨v,rfl,hv,hb⟩
    replace HM:=Lib.hid (HM.out.step hv hb);clear hv hb)
  |(go_at_call 62;with_reducible refine (K12.out _).mono ?_;rintro e wn ⟨v,rfl,hv,hb⟩
    replace HM:=Lib.hid (HM.out.step hv hb);clear hv hb)
  |(go_at_call 62;with_reducible refine (K13.out _).mono ?_;rintro e wn ⟨v,rfl,hv,hb⟩
    replace HM:=Lib.hid (HM.out.step hv hb);clear hv hb)
  |(go_at_call 62;with_reducible refine (K14.out _).mono ?_;rintro e wn ⟨v,rfl,hv,hb⟩
    replace HM:=Lib.hid (HM.out.step hv hb);clear hv hb)
  |(go_at_call 63;with_reducible refine (K15.out _).mono ?_;rintro e wn ⟨v,rfl,hv,hb⟩
    replace HM:=Lib.hid (HM.out.step hv hb);clear hv hb)
  |(go_at_call 63;with_reducible refine (K16.out _).mono ?_;rintro e wn ⟨v,rfl,hv,hb⟩
    replace HM:=Lib.hid (HM.out.step hv hb);clear hv hb)
  |(go_at_call 62;with_reducible refine (K17.out _).mono ?_;rintro e wn ⟨v,rfl,hv,hb⟩
    replace HM:=Lib.hid (HM.out.step hv hb);clear hv hb)
  |(go_at_call 63;with_reducible refine (K18.out _).mono ?_;rintro e wn ⟨v,rfl,hv,hb⟩
    replace HM:=Lib.hid (HM.out.step hv hb);clear hv hb)
  |(go_at_call 63;with_reducible refine (K19.out _).mono ?_;rintro e wn ⟨v,rfl,hv,hb⟩
    replace HM:=Lib.hid (HM.out.step hv hb);clear hv hb)
  |(go_at_call 63;with_reducible refine (K21.out _).mono ?_;rintro e wn ⟨v,rfl,hv,hb⟩
    replace HM:=Lib.hid (HM.out.step hv hb);clear hv hb)
  |(go_at_call 63;with_reducible refine (K22.out _).mono ?_;rintro e wn ⟨v,rfl,hv,hb⟩
    replace HM:=Lib.hid (HM.out.step hv hb);clear hv hb)
  |(go_at_call 63;with_reducible refine (K23.out _).mono ?_;rintro e wn ⟨v,rfl,hv,hb⟩
    replace HM:=Lib.hid (HM.out.step hv hb);clear hv hb)
  |(go_at_call 63;with_reducible refine (K24.out _).mono ?_;rintro e wn ⟨v,rfl,hv,hb⟩
    replace HM:=Lib.hid (HM.out.step hv hb);clear hv hb)
  |(go_at_call 63;with_reducible refine (K25.out _).mono ?_;rintro e wn ⟨v,rfl,hv,hb⟩
    replace HM:=Lib.hid (HM.out.step hv hb);clear hv hb)
  |(go_at_call 63;with_reducible refine (K26.out _).mono ?_;rintro e wn ⟨v,rfl,hv,hb⟩
    replace HM:=Lib.hid (HM.out.step hv hb);clear hv hb)
  |(go_at_call 65;with_reducible refine (K27.out _).mono ?_;rintro e wn ⟨v,rfl,hv,hb⟩
    replace HM:=Lib.hid (HM.out.step hv hb);clear hv hb)
  |(go_at_call 65;with_reducible refine (K28.out _).mono ?_;rintro e wn ⟨v,rfl,hv,hb⟩
    replace HM:=Lib.hid (HM.out.step hv hb);clear hv hb))
 refine (K29.out _).mono ?_;rintro e wn ⟨v,rfl,hv,hb⟩
 replace HM:=Lib.hid (HM.out.step hv hb)
 clear hv hb;clear K0 K1 K2 K3 K4 K5 K6 K7 K8 K9 K10 K11 K12 K13 K14 K15 K16 K17 K18 K19 K21 K22 K23 K24 K25 K26 K27 K28 K29;rename_i hK;revert hK;have HR:=Lib.hid HM.out.row;have HB:=Lib.hid HM.out.bel;have hms:=HM.out.ms;clear HM;simp only [List.forall_mem_cons] at hms;obtain ⟨⟨g29,rfl,h29⟩,⟨g28,rfl,h28⟩,⟨g27,rfl,h27⟩,⟨g26,rfl,h26⟩,⟨g25,rfl,h25⟩,⟨g24,rfl,h24⟩,⟨g23,rfl,h23⟩,⟨g22,rfl,h22⟩,⟨g21,rfl,h21⟩,⟨g19,rfl,h19⟩,⟨g18,rfl,h18⟩,⟨g17,rfl,h17⟩,⟨g16,rfl,h16⟩,⟨g15,rfl,h15⟩,⟨g14,rfl,h14⟩,⟨g13,rfl,h13⟩,⟨g12,rfl,h12⟩,⟨g11,rfl,h11⟩,⟨g10,rfl,h10⟩,⟨g9,rfl,h9⟩,⟨g8,rfl,h8⟩,⟨g7,rfl,h7⟩,⟨g6,rfl,h6⟩,⟨g5,rfl,h5⟩,⟨g4,rfl,h4⟩,⟨g3,rfl,h3⟩,⟨g2,rfl,h2⟩,⟨g1,rfl,h1⟩,⟨g0,rfl,h0⟩, -⟩:=hms;intro hK;have HS:∀(g:Nat) (s:ByteArray),Has wn g s→Has (wn.setRow w.heap.size #[mk g0,mk g1,mk g2,mk g3,mk g4,mk g5,mk g6,mk g7,mk g8,mk g9,mk g10,mk g11,mk g12,mk g13,mk g14,mk g15,mk g16,mk g17,mk g18,mk g19,mkO,mk g21,mk g22,mk g23,mk g24,mk g25,mk g26,mk g27,mk g28,mk g29]) g s:=fun g s h=>h.setRow HR.out _;refine hK _ _ ?_;refine wpList_build' rfl 78 _ rfl #[mk g0,mk g1,mk g2,mk g3,mk g4,mk g5,mk g6,mk g7,mk g8,mk g9,mk g10,mk g11,mk g12,mk g13,mk g14,mk g15,mk g16,mk g17,mk g18,mk g19,mkO,mk g21,mk g22,mk g23,mk g24,mk g25,mk g26,mk g27,mk g28,mk g29] (by kernel_rfl) ?_;refine wpList_store_row rfl 78 (.tmp 0) (.tmp 46) rfl w.heap.size #[mk g0,mk g1,mk g2,mk g3,mk g4,mk g5,mk g6,mk g7,mk g8,mk g9,mk g10,mk g11,mk g12,mk g13,mk g14,mk g15,mk g16,mk g17,mk g18,mk g19,mkO,mk g21,mk g22,mk g23,mk g24,mk g25,mk g26,mk g27,mk g28,mk g29] rfl rfl 78 _ HR.out (by kernel_rfl) (by rfl) (by kernel_rfl) ?_;refine wpList_nil ?_
 have HF:=Lib.hid (setRow_heap wn w.heap.size _ #[mk g0,mk g1,mk g2,mk g3,mk g4,mk g5,mk g6,mk g7,mk g8,mk g9,mk g10,mk g11,mk g12,mk g13,mk g14,mk g15,mk g16,mk g17,mk g18,mk g19,mkO,mk g21,mk g22,mk g23,mk g24,mk g25,mk g26,mk g27,mk g28,mk g29] 78 (0,0) HR.out);clear hK;refine (‹∀(a:Act) (w:World),Code.wp _ Code.ret _ a w→_›:∀(a:Act) (w:World),Code.wp _ Code.ret _ a w→_) _ _ ?_;refine wp_ret ?_;refine bodyPost_ret (results_cell_row rfl _ _ w.heap.size 78 #[mk g0,mk g1,mk g2,mk g3,mk g4,mk g5,mk g6,mk g7,mk g8,mk g9,mk g10,mk g11,mk g12,mk g13,mk g14,mk g15,mk g16,mk g17,mk g18,mk g19,mkO,mk g21,mk g22,mk g23,mk g24,mk g25,mk g26,mk g27,mk g28,mk g29] (0,0) _ rfl HF.out Tryz.underlying78 rfl (by kernel_rfl)) rfl ?_;exact ⟨[mk g0,mk g1,mk g2,mk g3,mk g4,mk g5,mk g6,mk g7,mk g8,mk g9,mk g10,mk g11,mk g12,mk g13,mk g14,mk g15,mk g16,mk g17,mk g18,mk g19,mkO,mk g21,mk g22,mk g23,mk g24,mk g25,mk g26,mk g27,mk g28,mk g29],rfl,⟨⟨g0,rfl,HS _ _ h0⟩,⟨g1,rfl,HS _ _ h1⟩,⟨g2,rfl,HS _ _ h2⟩,⟨g3,rfl,HS _ _ h3⟩,⟨g4,rfl,HS _ _ h4⟩,⟨g5,rfl,HS _ _ h5⟩,⟨g6,rfl,HS _ _ h6⟩,⟨g7,rfl,HS _ _ h7⟩,⟨g8,rfl,HS _ _ h8⟩,⟨g9,rfl,HS _ _ h9⟩,⟨g10,rfl,HS _ _ h10⟩,⟨g11,rfl,HS _ _ h11⟩,⟨g12,rfl,HS _ _ h12⟩,⟨g13,rfl,HS _ _ h13⟩,⟨g14,rfl,HS _ _ h14⟩,⟨g15,rfl,HS _ _ h15⟩,⟨g16,rfl,HS _ _ h16⟩,⟨g17,rfl,HS _ _ h17⟩,⟨g18,rfl,HS _ _ h18⟩,⟨g19,rfl,HS _ _ h19⟩,rfl,⟨g21,rfl,HS _ _ h21⟩,⟨g22,rfl,HS _ _ h22⟩,⟨g23,rfl,HS _ _ h23⟩,⟨g24,rfl,HS _ _ h24⟩,⟨g25,rfl,HS _ _ h25⟩,⟨g26,rfl,HS _ _ h26⟩,⟨g27,rfl,HS _ _ h27⟩,⟨g28,rfl,HS _ _ h28⟩,⟨g29,rfl,HS _ _ h29⟩,trivial⟩,below_setRow HB.out (Nat.le_refl _) _⟩
end code
end Go.Proofs.YtimoakmcelocfaaGreat.Wit
namespace Go.Proofs.YtimoakmcelocfaaGreat.Rq
open Go.RowKit Base Txt
section code
set_option maxHeartbeats 1000000
attribute [local go_sem] Base.some_undef
end code
end Go.Proofs.YtimoakmcelocfaaGreat.Rq
