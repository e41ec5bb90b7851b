import Derived.Test.YtnabkcglnbdfeaaGreatDoorFel
namespace Go.Proofs.YtnabkcglnbdfeaaGreatDoor.Flt
open Go.RowKit Base Txt Par Pg
structure F where
 x:Q
 y:Q
 code:Nat
 parted:Bool
def F.judge (f:F) (s l:Nat) (alike:Bool):F:=
 if s≠0 then {f with code:=s,parted:=l==0} else if (!(l==0) || !alike)=true then {f with code:=400,parted:=true} else f
section
variable (p:Nat) (b:Bd)
def F.look (f:F) (c:UInt8):F × List Rec.R:=
 let x:=f.x.byte 0 b c
 let y:=f.y.byte p b c
 (F.judge ⟨x.told,y.told,f.code,f.parted⟩ x.err y.err (Rec.all x.out y.out),if Rec.all x.out y.out=true then x.out else [])
def F.byte (f:F) (c:UInt8):F × List Rec.R:=if f.code=0 then f.look p b c else (f,[])
def F.feed:F→List UInt8→F × List Rec.R
 | f,[]=>(f,[])
 | f,c::l=>((F.feed (f.byte p b c).1 l).1,(f.byte p b c).2++(F.feed (f.byte p b c).1 l).2)
def F.new:F:=⟨Q.new 0 b,Q.new p b,(Q.new p b).err,false⟩
def F.held (f:F):Nat:=max f.x.held f.y.held
theorem F.feed_app (l l':List UInt8):∀f:F,F.feed p b f (l++l')=((F.feed p b (F.feed p b f l).1 l').1,(F.feed p b f l).2++(F.feed p b (F.feed p b f l).1 l').2):=by
 induction l with
 | nil=>intro f;simp [F.feed]
 | cons c l ih=>
   intro f;rw [List.cons_append];simp only [F.feed];rw [ih,List.append_assoc]
theorem F.feed_snoc (l:List UInt8) (c:UInt8) (f:F):F.feed p b f (l ++ [c])=((F.byte p b (F.feed p b f l).1 c).1,(F.feed p b f l).2++(F.byte p b (F.feed p b f l).1 c).2):=by rw [F.feed_app];simp [F.feed]
theorem F.feed_blocked (f:F) (h:f.code≠0):∀l:List UInt8,F.feed p b f l=(f,[])
 | []=>rfl
 | c::l=>by
   have e:f.byte p b c=(f,[]):=if_neg h;simp only [F.feed,e,F.feed_blocked f h l,List.append_nil]
end
section
variable {p:Nat} {b:Bd}
theorem told_out (x:Q):x.told.out= []:=by cases x<;>rfl
def F.Just (p:Nat) (b:Bd) (f:F):Prop:=
 (f.code=0∧f.parted=false∧∃t,f.x=.live t∧t.Strict∧t.out= []∧f.y=.live (t.wide p)∧t.Ok∧b.right=true∧∃s,RR 0 b t s)∨(f.code≠0∧∃o,f.x=.dead f.code o)
theorem just_new (hp:p<1073741824) (hb:b.right=true):(F.new p b).Just p b:=by
 have e:Q.new p b=.live (T.new p b):=if_pos (by rw [hb,decide_eq_true hp];rfl)
 have e0:Q.new 0 b=.live (T.new 0 b):=if_pos (by rw [hb];rfl)
 have hs:=new_sim (p:=0) (b:=b);rw [e0] at hs;refine .inl ⟨?_,rfl,T.new 0 b,e0,(new_wide (p:=p)).2,rfl,?_,⟨Ln.M.new_ok _ _ _ (Ln.mid_le _),rfl,⟨Nat.le_refl _,by show 1≤7;omega⟩,Nat.zero_le _,Nat.zero_le _,Nat.le_refl _,Nat.le_refl _,(by intro y hy;cases hy),(by intro y hy;cases hy),Nat.zero_le _,Nat.zero_le _,Nat.zero_le _,fun h=>(by cases h),fun _=>rfl,Nat.zero_le _⟩,hb,_,hs⟩
 ·show (Q.new p b).err=0;rw [e];rfl
 ·show Q.new p b= _;rw [e,(new_wide (p:=p)).1]
theorem all_self (l:List Rec.R):Rec.all l l=true:=(Rec.all_iff l l).2 rfl
theorem just_byte {f:F} (h:f.Just p b) (c:UInt8):(f.byte p b c).1.Just p b:=by
 rcases h with ⟨h1,h2,t,h3,h4,h5,h6,h7,h8,s,h9⟩ | ⟨h1,o,h2⟩
 ·unfold F.byte;rw [if_pos h1];unfold F.look;rw [h3,h6];have e1:(Q.live t).byte 0 b c=t.take 0 b c:=rfl;have e2:(Q.live (t.wide p)).byte p b c=(t.wide p).take p b c:=rfl;have hs:=take_sim h9 h7 h8 c;simp only [e1,e2];cases ht:t.take 0 b c with
  | live t2=>
    obtain ⟨k1,k2⟩:=take_wide (p:=p) ht h4;rw [ht] at hs;rw [k1];left;have ej:F.judge ⟨(Q.live t2).told,(Q.live (t2.wide p)).told,f.code,f.parted⟩ (Q.live t2).err (Q.live (t2.wide p)).err (Rec.all (Q.live t2).out (Q.live (t2.wide p)).out)=⟨(Q.live t2).told,(Q.live (t2.wide p)).told,f.code,f.parted⟩:=by have e3:Rec.all (Q.live t2).out (Q.live (t2.wide p)).out=true:=all_self _;unfold F.judge;rw [e3];rfl
    rw [ej];have hk:=told_sim (x:=.live t2) hs;exact ⟨h1,h2,{t2 with out:= []},rfl,⟨k2.lf,k2.cr⟩,rfl,rfl,(told_fine (x:=.live t2) (b:=b) ⟨h7.take h8 c ht,h8⟩).1,h8,_,hk⟩
  | dead e o=>
    rw [ht] at hs;obtain ⟨k1,k2,k3,k4⟩:=hs;right;unfold F.judge;simp only [if_pos (show (Q.dead e o).err≠0 from k2)];exact ⟨k2,[],rfl⟩
 ·unfold F.byte;rw [if_neg h1];exact .inr ⟨h1,o,h2⟩
theorem just_feed (l:List UInt8):∀{f:F},f.Just p b→(F.feed p b f l).1.Just p b:=by
 induction l with
 | nil=>intro f h;exact h
 | cons c l ih=>intro f h;exact ih (just_byte h c)
theorem Ok.fit {t:T} (h:t.Ok):Rec.Fit t.r:=
 ⟨by have:=h.m;omega,by have:=h.x;omega,by have:=h.fsl;have:=h.hl;omega,fun y hy=>by have:=h.fss y hy;have:=h.hl;omega,by have:=h.body;omega,by have:=h.tsl;have:=h.bl;omega,fun y hy=>by have:=h.tss y hy;have:=h.bl;omega⟩
theorem line_told (t:T) (s:List UInt8):(t.line p b s).2.out=t.out∨(t.line p b s).2.out=t.out ++ [t.r]:=by
 unfold T.line;split
 ·unfold T.first;split
  ·exact .inl rfl
  ·simp only;split<;>exact .inl rfl
 ·split
  ·unfold T.fields;split
   ·unfold T.endHead;simp only;split
    ·exact .inl rfl
    ·split
     ·exact .inl rfl
     ·split
      ·exact .inr rfl
      ·exact .inl rfl
   ·exact .inl rfl
  ·split
   ·unfold T.chunk;simp only;split
    ·exact .inl rfl
    ·split
     ·exact .inl rfl
     ·split<;>exact .inl rfl
   ·split
    ·unfold T.trail;split
     ·exact .inr rfl
     ·exact .inl rfl
    ·exact .inl rfl
theorem ends_out (x:Nat × T):(ends x).out=x.2.out:=by unfold ends;split<;>rfl
def Fits (o:List Rec.R):Prop:=∀r∈o,Rec.Fit r
theorem inLine_fits {t:T} (h:Fits t.out) (ok:t.Ok) (c:UInt8):Fits (t.inLine p b c).1.out:=by
 unfold T.inLine;simp only;split
 ·exact h
 ·split
  ·exact h
  ·split
   ·split
    ·exact h
    ·exact h
   ·show Fits (ends _).out;rw [ends_out];have hf:Rec.Fit t.r:=Ok.fit ok;rcases line_told (p:=p) (b:=b) {t with rd:=t.rd.byte c} (t.rd.byte c).line with e | e
    ·rw [e];exact h
    ·rw [e];intro r hr;rcases List.mem_append.1 hr with hr | hr
     ·exact h r hr
     ·rw [List.mem_singleton.1 hr];exact hf
theorem look_fits {t:T} (h:Fits t.out) (ok:t.Ok) (hb:b.right=true) (c:UInt8):Fits (t.look p b c).1.out:=by
 unfold T.look;split
 ·rename_i hs;have hk:Rec.Fit (t.keep c).r:=by
   have h1:=Ok.fit ok;have h2:=ok.left hs;exact ⟨h1.m,h1.x,h1.fs,h1.f,by have:=ok.body;show (t.r.body ++ [c]).length≤_;rw [List.length_append,List.length_singleton];omega,h1.ts,h1.t⟩
  show Fits (if t.left=1 then (t.keep c).endData p else t.keep c).out;split
  ·unfold T.endData;split
   ·exact h
   ·intro r hr;rcases List.mem_append.1 hr with hr | hr
    ·exact h r hr
    ·rw [List.mem_singleton.1 hr];exact hk
  ·exact h
 ·split
  ·rename_i hh;split
   ·show Fits t.out;exact h
   ·rename_i hx;exact inLine_fits (by rw [counted_out];exact h) (ok.counted hb hx) c
  ·exact inLine_fits h ok c
theorem byte_fits {x:Q} (h:Fits x.out) (ok:x.Fine b) (c:UInt8):Fits (x.byte p b c).out:=by
 cases x with
 | dead e o=>exact h
 | live t=>
   obtain ⟨h1,h2⟩:=ok;show Fits (t.take p b c).out;unfold T.take;have k1:=look_fits (p:=p) (b:=b) (t:={t with cnt:=false}) h h1.cleared h2 c;rcases hq:T.look p b {t with cnt:=false} c with ⟨q,u⟩;rw [hq] at k1;cases q with
   | dead e o=>cases u<;>exact k1
   | live t1=>
     cases u with
     | true=>exact k1
     | false=>exact look_fits k1 (h1.cleared.look h2 c (by rw [hq])) h2 c
end
end Go.Proofs.YtnabkcglnbdfeaaGreatDoor.Flt
namespace Go.Proofs.YtnabkcglnbdfeaaGreatDoor.Rec
open Go.RowKit Base Txt
abbrev byteV (c:UInt8):Value:=.int .u8 (c.toNat:Int)
def vals (l:List UInt8):List Value:=l.map byteV
theorem vals_app (a b:List UInt8):vals (a++b)=vals a++vals b:=List.map_append
theorem vals_length (a:List UInt8):(vals a).length=a.length:=List.length_map _
theorem nums_of_own {w:World} {base:Nat} {v:Value} {n:Nat} {bs:List UInt8} {e:TypeId} (h:w.ownsRow base e 1 v n (vals bs)):∃A c,v=.slice A n c∧Nums .u8 w A n (Txt.nums bs):=by
 have hl:bs.length=n:=by simpa [vals_length] using h.1
 rcases h.2 with ⟨rfl,rfl⟩ | ⟨g,cap,cur,rfl,_,hh,_,hc,_,ht⟩
 ·obtain rfl:bs= []:=List.length_eq_zero_iff.1 hl;exact ⟨none,0,rfl,Nums.nil _ _ _⟩
 ·refine ⟨_,_,rfl,⟨by rw [Txt.nums,List.length_map];exact hl,fun _=>⟨g,0,rfl,?_,fun k hk=>?_⟩⟩⟩
  ·rcases Nat.lt_or_ge g w.heap.size with hlt | hge
   ·exact hlt
   ·rw [Array.getElem?_eq_none hge] at hh;cases hh
  ·rw [Nat.zero_add,cell_of_row w g k cur e (0,0) hh,Txt.nums_at bs k (by omega)];have h1:(vals bs)[k]?=some (byteV bs[k]):=by
    rw [vals,List.getElem?_map,List.getElem?_eq_getElem (by omega)];rfl
   rw [←ht,List.getElem?_take_of_lt (by omega)] at h1;simpa using h1
theorem own_slice {w:World} {B:Nat} {e:TypeId} {size:Nat} {v:Value} {n:Nat} {xs:List Value} (hv:w.ownsRow B e size v n xs):∃b cap,v=.slice b n cap:=by
 rcases hv.2 with ⟨rfl,rfl⟩ | ⟨b',cap',cur,rfl,hb,hg,hn,hc,hs,ht⟩
 ·exact ⟨none,0,rfl⟩
 ·exact ⟨_,cap',rfl⟩
theorem own_lt {w:World} {base:Nat} {e:TypeId} {size:Nat} {v:Value} {n:Nat} {xs:List Value} (h:w.ownsRow base e size v n xs) (g:Nat) (hg:v.ownBlock=some g):g<w.heap.size:=by
 rcases h.2 with ⟨rfl,_⟩ | ⟨g',cap,cur,rfl,hb,hh,_⟩
 ·simp [Value.ownBlock] at hg
 ·simp [Value.ownBlock] at hg;subst hg;rcases Nat.lt_or_ge g' w.heap.size with hlt | hge
  ·exact hlt
  ·rw [Array.getElem?_eq_none hge] at hh;cases hh
theorem put7 {w0 w:World} {B g:Nat} {zs:List Value} (hZ:Bk w g zs) (hl:zs.length=7) (hb:Below B w0 w) (hg:B≤g) (v0 v1 v2 v3 v4 v5 v6:Value) :
 ∃W,((((((w.setCell ⟨g,0,none⟩ v0).setCell ⟨g,1,none⟩ v1).setCell ⟨g,2,none⟩ v2).setCell ⟨g,3,none⟩ v3).setCell ⟨g,4,none⟩ v4).setCell ⟨g,5,none⟩ v5).setCell ⟨g,6,none⟩ v6=W∧Bk W g [v0,v1,v2,v3,v4,v5,v6]∧Below B w0 W∧W.heap.size=w.heap.size∧
  (∀(base:Nat) (e:TypeId) (size:Nat) (v:Value) (n:Nat) (xs:List Value),w.ownsRow base e size v n xs→v.ownBlock≠some g→W.ownsRow base e size v n xs)∧∀(g':Nat) (vs:List Value),¬g'=g→Bk w g' vs→Bk W g' vs:=by
 obtain ⟨z0,z1,z2,z3,z4,z5,z6,rfl⟩:∃z0 z1 z2 z3 z4 z5 z6,zs= [z0,z1,z2,z3,z4,z5,z6]:=by
  match zs,hl with
  | [a,b,c,d,e,f,g],_=>exact ⟨a,b,c,d,e,f,g,rfl⟩
 refine ⟨_,rfl,?_,((((((hb.setCell hg _).setCell hg _).setCell hg _).setCell hg _).setCell hg _).setCell hg _).setCell hg _,by simp,?_,?_⟩
 ·exact ((((((hZ.set 0 v0 (by simp)).set 1 v1 (by simp)).set 2 v2 (by simp)).set 3 v3 (by simp)).set 4 v4 (by simp)).set 5 v5 (by simp)).set 6 v6 (by simp)
 ·intro base e size v n xs h hne;exact ownsRow_setCell_other (ownsRow_setCell_other (ownsRow_setCell_other (ownsRow_setCell_other (ownsRow_setCell_other (ownsRow_setCell_other (ownsRow_setCell_other h hne _) hne _) hne _) hne _) hne _) hne _) hne _
 ·intro g' vs hne h;have hne':¬g=g':=fun e=>hne e.symm;exact ((((((h.other g 0 v0 hne').other g 1 v1 hne').other g 2 v2 hne').other g 3 v3 hne').other g 4 v4 hne').other g 5 v5 hne').other g 6 v6 hne'
structure Owns (w:World) (B:Nat) (fa:Option Addr) (fc:Nat) (ba:Option Addr) (bc:Nat) (ta:Option Addr) (tc:Nat) (r:R):Prop where
 f:w.ownsRow B 126 2 (.slice fa r.fs.length fc) r.fs.length (cells r.fs)
 b:w.ownsRow B 5 1 (.slice ba r.body.length bc) r.body.length (vals r.body)
 t:w.ownsRow B 126 2 (.slice ta r.ts.length tc) r.ts.length (cells r.ts)
 fb:∀g,(Value.slice fa r.fs.length fc).ownBlock=some g→(Value.slice ba r.body.length bc).ownBlock≠some g
 ft:∀g,(Value.slice fa r.fs.length fc).ownBlock=some g→(Value.slice ta r.ts.length tc).ownBlock≠some g
 bt:∀g,(Value.slice ba r.body.length bc).ownBlock=some g→(Value.slice ta r.ts.length tc).ownBlock≠some g
section code
set_option maxHeartbeats 1000000
end code
end Go.Proofs.YtnabkcglnbdfeaaGreatDoor.Rec
namespace Go.Proofs.YtnabkcglnbdfeaaGreatDoor.Mem
open Go.RowKit Base
def Lone (L:List (Option Nat)):Prop:=∀i j k:Nat,L[i]?=some (some k)→L[j]?=some (some k)→i=j
def In (w:World) (L:List (Option Nat)):Prop:=∀k,some k∈L→k<w.heap.size
def Of (w:World) (L L':List (Option Nat)):Prop:=∀k,some k∈L'→some k∈L∨w.heap.size≤k
structure Keeps (L:List (Option Nat)) (w w':World):Prop where
 os:w'.os=w.os
 tape:w'.tape=w.tape
 output:w'.output=w.output
 size:w.heap.size≤w'.heap.size
 block:∀k,k<w.heap.size→some k∉L→w'.heap[k]?=w.heap[k]?
section
variable {L L' L'':List (Option Nat)} {w w' w'':World} {B:Nat}
theorem Lone.ne (h:Lone L) {i j k:Nat} (hi:L[i]?=some (some k)) (hij:i≠j):L[j]?≠some (some k):=fun hj=>hij (h i j k hi hj)
theorem Lone.set (h:Lone L) (hin:In w L) (i:Nat) (o:Option Nat) (ho:o=none∨L[i]?=some o∨∃k,o=some k∧w.heap.size≤k):Lone (L.set i o):=by
 have key:∀a b k,a≠b→(L.set i o)[a]?=some (some k)→(L.set i o)[b]?=some (some k)→a=i→False:=by
  intro a b k hab ha hb hai;subst hai;rw [List.getElem?_set_ne hab] at hb;have hlt:a<L.length:=by
   rcases Nat.lt_or_ge a L.length with h | h
   ·exact h
   ·rw [List.getElem?_eq_none (by simpa using h)] at ha;cases ha
  rw [List.getElem?_set_self hlt] at ha;obtain rfl:o=some k:=Option.some.inj ha;rcases ho with ho | ho | ⟨k',ho,hk⟩
  ·cases ho
  ·exact hab (h a b k ho hb)
  ·obtain rfl:k=k':=Option.some.inj ho
   have:=hin k (List.mem_of_getElem? hb);omega
 intro a b k ha hb;by_cases hab:a=b
 ·exact hab
 ·by_cases hai:a=i
  ·exact (key a b k hab ha hb hai).elim
  ·by_cases hbi:b=i
   ·exact (key b a k (fun e=>hab e.symm) hb ha hbi).elim
   ·rw [List.getElem?_set_ne (fun e=>hai e.symm)] at ha;rw [List.getElem?_set_ne (fun e=>hbi e.symm)] at hb;exact h a b k ha hb
theorem Of.refl:Of w L L:=fun _ h=>.inl h
theorem Of.trans (h:Of w L L') (h':Of w' L' L'') (hs:w.heap.size≤w'.heap.size):Of w L L'':=fun k hk=>by
 rcases h' k hk with h1 | h1
 ·exact h k h1
 ·exact .inr (by omega)
theorem Of.set (i:Nat) (o:Option Nat) (ho:o=none∨L[i]?=some o∨∃k,o=some k∧w.heap.size≤k):Of w L (L.set i o):=fun k hk=>by
 rcases List.mem_or_eq_of_mem_set hk with h | h
 ·exact .inl h
 ·rcases ho with ho | ho | ⟨k',ho,hk⟩
  ·rw [ho] at h;cases h
  ·exact .inl (by rw [h];exact List.mem_of_getElem? ho)
  ·rw [ho] at h;cases h;exact .inr hk
theorem Keeps.refl:Keeps L w w:=⟨rfl,rfl,rfl,Nat.le_refl _,fun _ _ _=>rfl⟩
theorem Keeps.trans (h:Keeps L w w') (h':Keeps L' w' w'') (ho:Of w L L'):Keeps L w w'':=by
 refine ⟨h'.os.trans h.os,h'.tape.trans h.tape,h'.output.trans h.output,Nat.le_trans h.size h'.size,fun k hk hn=>?_⟩
 refine (h'.block k (Nat.lt_of_lt_of_le hk h.size) fun hm=>?_).trans (h.block k hk hn);rcases ho k hm with h1 | h1
 ·exact hn h1
 ·omega
theorem Keeps.mono (h:Keeps L w w') (hs:∀k,some k∈L→some k∈L'):Keeps L' w w':=⟨h.os,h.tape,h.output,h.size,fun k hk hn=>h.block k hk fun hm=>hn (hs k hm)⟩
theorem Keeps.below (h:Keeps L w w') (hB:B≤w.heap.size) (hL:∀k,some k∈L→B≤k):Below B w w':=
 ⟨h.os,h.tape,h.output,h.size,fun k hk=>h.block k (by omega) fun hm=>by have:=hL k hm;omega⟩
theorem Keeps.of_below (h:Below w.heap.size w w'):Keeps L w w':=⟨h.os,h.tape,h.output,h.size,fun k hk _=>h.block k hk⟩
theorem Keeps.set (g k:Nat) (v:Value) (hg:some g∈L):Keeps L w (w.setCell ⟨g,k,none⟩ v):=
 ⟨rfl,rfl,rfl,by simp,fun j _ hn=>Below.heap_setCell _ _ _ _ (fun e=>hn (by rw [e];exact hg))⟩
theorem Keeps.grown {o:Option Nat} (h:w.grownBy w' o) (ho:∀k,o=some k→some k∈L):Keeps L w w':=
 ⟨h.os,h.tape,h.output,h.size,fun k hk hn=>h.block k hk fun e=>hn (ho k e.symm)⟩
theorem Keeps.of_kept {g:Nat} {o:Option Nat} (h:Ln.Kept g o w w') (hg:some g∈L) (ho:∀k,o=some k→some k∈L):Keeps L w w':=
 ⟨h.os,h.tape,h.output,h.size,fun k hk hn=>h.block k hk (fun e=>hn (by rw [e];exact hg)) fun e=>hn (ho k e.symm)⟩
theorem Keeps.cell (h:Keeps L w w') {p:Addr} (hp:p.block<w.heap.size) (hn:some p.block∉L):w'.cell? p=w.cell? p:=by unfold World.cell?;rw [h.block _ hp hn]
theorem Keeps.row (h:Keeps L w w') {j:Nat} {cs:Array Value} {ty:TypeId} (hr:w.heap[j]?=some (.cells cs ty (0,0))) (hn:some j∉L):w'.heap[j]?=some (.cells cs ty (0,0)):=(h.block j (Ln.row_lt hr) hn).trans hr
theorem Keeps.own (h:Keeps L w w') {e:TypeId} {size:Nat} {v:Value} {n:Nat} {xs:List Value} (hv:w.ownsRow B e size v n xs) (hn:∀k,v.ownBlock=some k→some k∉L):w'.ownsRow B e size v n xs:=by
 refine ⟨hv.1,?_⟩;rcases hv.2 with h0 | ⟨b,cap,cur,rfl,hb,hgg,rest⟩
 ·exact .inl h0
 ·refine .inr ⟨b,cap,cur,rfl,hb,?_,rest⟩;rw [h.block b (Ln.row_lt hgg) (hn b (by simp [Value.ownBlock]))];exact hgg
theorem In.mono (h:In w L) (hs:w.heap.size≤w'.heap.size):In w' L:=fun k hk=>Nat.lt_of_lt_of_le (h k hk) hs
end
structure Zone where
 b:Nat
 z:List (Option Nat)
instance:CoeOut Zone Nat:=⟨Zone.b⟩
structure Clear (w:World) (Z L:List (Option Nat)):Prop where
 inz:∀k,some k∈Z→k<w.heap.size
 off:∀k,some k∈L→some k∉Z
theorem Clear.of {w w':World} {Z L L':List (Option Nat)} (h:Clear w Z L) (hs:w.heap.size≤w'.heap.size) (ho:Of w L L'):Clear w' Z L':=
 ⟨fun k hk=>Nat.lt_of_lt_of_le (h.inz k hk) hs,fun k hk hz=>by
   rcases ho k hk with e | e
   ·exact h.off k e hz
   ·have:=h.inz k hz;omega⟩
theorem Clear.nil {w:World} {L:List (Option Nat)}:Clear w [] L:=⟨(fun k hk=>by cases hk),(fun k _ hz=>by cases hz)⟩
def slot:Value→Option Nat
 | .slice (some a) _ _=>some a.block
 | _=>none
def blocks:Value→List (Option Nat)
 | .agg cs=>cs.toList.map slot
 | _=> []
structure Far (L Z:List (Option Nat)) (w:World) (V:Value) (r:Rec.R):Prop where
 reads:Rec.Reads w V r
 far:∀k,some k∈blocks V→some k∉L∧k<w.heap.size
 off:∀k,some k∈blocks V→some k∉Z
section
variable {L L' Z:List (Option Nat)} {w w':World} {V:Value} {r:Rec.R}
theorem flds_keeps {a:Option Addr} {n:Nat} {fs:List Txt.Fld} (h:Txt.Flds w a n fs) (hk:Keeps L w w') (hn:∀c,slot (.slice a n c)=none∨∃k,slot (.slice a n c)=some k∧some k∉L):Txt.Flds w' a n fs:=by
 refine ⟨h.1,fun h0=>?_⟩;obtain ⟨b,off,rfl,hlt,hc⟩:=h.2 h0;have hb:some b∉L:=by
  rcases hn 0 with e | ⟨k,e,hk⟩
  ·cases e
  ·cases e;exact hk
 exact ⟨b,off,rfl,Nat.lt_of_lt_of_le hlt hk.size,fun k hkn=>⟨(hk.cell (p:=⟨b,off+k*2,none⟩) hlt hb).trans (hc k hkn).1,(hk.cell (p:=⟨b,off+k*2+1,none⟩) hlt hb).trans (hc k hkn).2⟩⟩
theorem nums_keeps {a:Option Addr} {n:Nat} {kd:IntKind} {zs:List Int} (h:Nums kd w a n zs) (hk:Keeps L w w') (hn:∀c,slot (.slice a n c)=none∨∃k,slot (.slice a n c)=some k∧some k∉L):Nums kd w' a n zs:=by
 refine ⟨h.1,fun h0=>?_⟩;obtain ⟨b,off,rfl,hlt,hc⟩:=h.2 h0;have hb:some b∉L:=by
  rcases hn 0 with e | ⟨k,e,hk⟩
  ·cases e
  ·cases e;exact hk
 exact ⟨b,off,rfl,Nat.lt_of_lt_of_le hlt hk.size,fun k hkn=>(hk.cell (p:=⟨b,off+k,none⟩) hlt hb).trans (hc k hkn)⟩
theorem Far.keeps (h:Far L Z w V r) (hk:Keeps L w w'):Far L Z w' V r:=by
 refine ⟨?_,fun k hb=>⟨(h.far k hb).1,Nat.lt_of_lt_of_le (h.far k hb).2 hk.size⟩,h.off⟩;obtain ⟨fa,fc,ba,bc,ta,tc,rfl,h1,h2,h3⟩:=h.reads;have hf:=h.far;simp only [blocks,List.map_cons,List.map_nil,List.mem_cons,List.not_mem_nil,or_false] at hf;have key:∀(a:Option Addr) (n c:Nat),(∀k,some k=slot (.slice a n c)→some k∉L∧k<w.heap.size)→∀c',slot (.slice a n c')=none∨∃k,slot (.slice a n c')=some k∧some k∉L:=by
  intro a n c h c';cases a with
  | none=>exact .inl rfl
  | some a=>exact .inr ⟨a.block,rfl,(h a.block rfl).1⟩
 refine ⟨fa,fc,ba,bc,ta,tc,rfl,flds_keeps h1 hk (key _ _ fc fun k e=>hf k ?_),nums_keeps h2 hk (key _ _ bc fun k e=>hf k ?_),flds_keeps h3 hk (key _ _ tc fun k e=>hf k ?_)⟩
 ·rw [e];simp
 ·rw [e];simp
 ·rw [e];simp
theorem Far.of (h:Far L Z w V r) (ho:∀k,some k∈L'→some k∈L∨w.heap.size≤k):Far L' Z w V r:=
 ⟨h.reads,fun k hb=>⟨fun hm=>by
   have:=h.far k hb;rcases ho k hm with h1 | h1
   ·exact this.1 h1
   ·omega,(h.far k hb).2⟩,h.off⟩
end
end Go.Proofs.YtnabkcglnbdfeaaGreatDoor.Mem
namespace Go.Proofs.YtnabkcglnbdfeaaGreatDoor.Par
open Go.RowKit Base Txt Mem
theorem row_cellL {w:World} {g k:Nat} {l:List Value} {ty:TypeId} (h:w.heap[g]?=some (.cells l.toArray ty (0,0))) {v:Value} (hk:l[k]?=some v):w.cell? ⟨g,k,none⟩=some v:=Ln.row_cell h (by rw [List.getElem?_toArray];exact hk)
theorem row_setL {w:World} {g:Nat} {l:List Value} {ty:TypeId} (h:w.heap[g]?=some (.cells l.toArray ty (0,0))) (k:Nat) (v:Value):(w.setCell ⟨g,k,none⟩ v).heap[g]?=some (.cells (l.set k v).toArray ty (0,0)):=by rw [←List.setIfInBounds_toArray];exact Ln.row_set h k v
abbrev ptr (g:Nat):Value:=.pointer (some ⟨g,0,none⟩)
abbrev pcells (p:Nat) (b:Bd) (s:S) (q:Nat) (f bd t o:Value):List Value:=
 [.int .u32 (p:Int),.int .i64 b.x0,.int .i64 b.x1,.int .i64 b.x2,.int .i64 b.x3,.int .i64 b.x4,.int .i64 b.x5,.int .i64 b.x6,.int .i64 b.x7,.bool b.ch,.bool b.od,.int .i64 (s.st:Int),ptr q,
   .string s.r.m,.string s.r.x,.int .i64 s.r.k,f,.bool s.r.ch,bd,t,.int .i64 (s.lines:Int),.int .i64 (s.head:Int),.int .i64 (s.left:Int),.bool s.fresh,.bool s.clean,.int .i64 (s.e:Int),o]
abbrev blks (g q:Nat) (v f bd t o:Value):List (Option Nat):= [some g,some q,v.ownBlock,f.ownBlock,bd.ownBlock,t.ownBlock,o.ownBlock]
def Outs (L:List (Option Nat)) (B:Zone) (w:World) (o:Value) (out:List Rec.R):Prop:=
 ∃ps:List (Array Value × Rec.R),ps.map (·.2)=out∧(∀x∈ps,x.1.size=7∧Far L B.z w (.agg x.1) x.2)∧w.ownsRow B 58 7 o out.length (ps.flatMap (·.1.toList))
structure Own (w:World) (B:Zone) (g q:Nat) (v f bd t o:Value) (p:Nat) (rd:Ln.R) (fs:List Fld) (body:List UInt8) (ts:List Fld) (out:List Rec.R):Prop where
 R:Ln.Rr w B q v p rd
 F:w.ownsRow B 126 2 f fs.length (cells fs)
 D:w.ownsRow B 5 1 bd body.length (Rec.vals body)
 T:w.ownsRow B 126 2 t ts.length (cells ts)
 O:Outs (blks g q v f bd t o) B w o out
 lone:Lone (blks g q v f bd t o)
 ge:B≤g
 lt:g<w.heap.size
 zone:Clear w B.z (blks g q v f bd t o)
structure PR (w:World) (B:Zone) (g q:Nat) (v f bd t o:Value) (p:Nat) (b:Bd) (s:S):Prop where
 row:w.heap[g]?=some (.cells (pcells p b s q f bd t o).toArray 60 (0,0))
 own:Own w B g q v f bd t o p s.rd s.r.fs s.r.body s.r.ts s.out
section
variable {w w':World} {B:Zone} {g q:Nat} {v f bd t o:Value} {p:Nat} {b:Bd} {s:S} {rd:Ln.R} {fs ts:List Fld} {body:List UInt8} {out:List Rec.R} {L:List (Option Nat)}
theorem Outs.keeps (h:Outs L B w o out) {L2:List (Option Nat)} (hk:Keeps L2 w w') (hs:∀k,some k∈L2→some k∈L) (ho:∀k,o.ownBlock=some k→some k∉L2):Outs L B w' o out:=by obtain ⟨ps,h1,h2,h3⟩:=h;exact ⟨ps,h1,fun x hx=>⟨(h2 x hx).1,(h2 x hx).2.keeps (hk.mono hs)⟩,hk.own h3 ho⟩
theorem slot_own {w:World} {B:Zone} {e:TypeId} {size:Nat} {v:Value} {n:Nat} {xs:List Value} (h:w.ownsRow B e size v n xs):slot v=v.ownBlock:=by rcases h.2 with ⟨rfl,_⟩ | ⟨g,cap,cur,rfl,_⟩<;>rfl
structure Step (L L':List (Option Nat)) (w w':World):Prop where
 keeps:Keeps L w w'
 of:Of w L L'
theorem Step.refl:Step L L w w:=⟨Keeps.refl,Of.refl⟩
theorem Step.trans {L' L'':List (Option Nat)} {w'':World} (h:Step L L' w w') (h':Step L' L'' w' w''):Step L L'' w w'':=⟨h.keeps.trans h'.keeps h.of,h.of.trans h'.of h.keeps.size⟩
theorem Step.set (g k:Nat) (u:Value) (hg:some g∈L):Step L L w (w.setCell ⟨g,k,none⟩ u):=⟨Keeps.set g k u hg,Of.refl⟩
theorem Step.of_below (hb:Below w.heap.size w w'):Step L L w w':=⟨Keeps.of_below hb,Of.refl⟩
theorem Step.line (hb:Below w.heap.size w w') {q1:Nat} (hq:w.heap.size≤q1):Step (blks g q v f bd t o) (blks g q1 (.slice none 0 0) f bd t o) w w':=⟨Keeps.of_below hb,by
 have e:blks g q1 (.slice none 0 0) f bd t o=((blks g q v f bd t o).set 1 (some q1)).set 2 none:=rfl;rw [e]
 exact (Of.set 1 (some q1) (.inr (.inr ⟨q1,rfl,hq⟩))).trans (Of.set 2 none (.inl rfl)) (Nat.le_refl _)⟩
theorem Step.push {o':Value} (hg:w.grownBy w' o.ownBlock) (hor:o'.ownBlock=o.ownBlock∨o'.ownBlock=some w.heap.size):Step (blks g q v f bd t o) (blks g q v (.slice none 0 0) (.slice none 0 0) (.slice none 0 0) o') w w':=⟨Keeps.grown hg fun k e=>by simp [e],fun k hk=>by
 replace hk:some k∈ [some g,some q,v.ownBlock,none,none,none,o'.ownBlock]:=hk
 simp only [List.mem_cons,List.not_mem_nil,or_false,reduceCtorEq,false_or] at hk;rcases hk with hk | hk | hk | hk
 ·exact .inl (by simp [hk])
 ·exact .inl (by simp [hk])
 ·exact .inl (by simp [hk])
 ·rcases hor with e | e
  ·rw [e] at hk;exact .inl (by simp [hk])
  ·rw [e] at hk;cases hk;exact .inr (Nat.le_refl _)⟩
theorem one_own {e:TypeId} {size:Nat} {u:Value} {n:Nat} {xs:List Value} (h:w.ownsRow B e size u n xs):u.oneCell'=true:=by rcases h.2 with ⟨rfl,_⟩ | ⟨g,cap,cur,rfl,_⟩<;>rfl
def Par (w:World) (B:Zone) (g:Nat) (p:Nat) (b:Bd) (s:S) (L:List (Option Nat)):Prop:=∃q v f bd t o,L=blks g q v f bd t o∧PR w B g q v f bd t o p b s
end
end Go.Proofs.YtnabkcglnbdfeaaGreatDoor.Par
namespace Go.Proofs.YtnabkcglnbdfeaaGreatDoor.Pg
open Go.RowKit Base Txt Mem Par
abbrev pgcells (p:Nat) (b:Bd) (s:T) (q:Nat) (f bd t o:Value):List Value:=
 [.int .i64 0,.int .i64 (s.hl:Int),f,.string s.r.m,.string s.r.x,.int .i64 s.r.k,.int .i64 (s.size:Int),.bool s.cnt,.int .i64 (s.bl:Int),t,.bool s.r.ch,bd,.int .i64 (s.left:Int),
   .int .u32 (p:Int),.int .i64 b.x0,.int .i64 b.x1,.int .i64 b.x2,.int .i64 b.x3,.int .i64 b.x4,.int .i64 b.x5,.int .i64 b.x6,.int .i64 b.x7,.bool b.ch,.bool b.od,.int .i64 (s.st:Int),ptr q,o]
structure Own (w:World) (B:Zone) (g q:Nat) (v f bd t o:Value) (rd:Ln.M) (fs:List Fld) (body:List UInt8) (ts:List Fld) (out:List Rec.R):Prop where
 R:Ln.Rd w B q v rd
 F:w.ownsRow B 126 2 f fs.length (cells fs)
 D:w.ownsRow B 5 1 bd body.length (Rec.vals body)
 TR:w.ownsRow B 126 2 t ts.length (cells ts)
 O:Outs (blks g q v f bd t o) B w o out
 lone:Lone (blks g q v f bd t o)
 ge:B≤g
 lt:g<w.heap.size
 zone:Clear w B.z (blks g q v f bd t o)
structure PR (w:World) (B:Zone) (g q:Nat) (v f bd t o:Value) (p:Nat) (b:Bd) (s:T):Prop where
 row:w.heap[g]?=some (.cells (pgcells p b s q f bd t o).toArray 55 (0,0))
 own:Own w B g q v f bd t o s.rd s.r.fs s.r.body s.r.ts s.out
section
variable {w w':World} {B:Zone} {g q:Nat} {v f bd t o:Value} {p:Nat} {b:Bd} {s:T} {rd:Ln.M} {fs ts:List Fld} {body:List UInt8} {out:List Rec.R} {L:List (Option Nat)}
theorem Own.in (h:Own w B g q v f bd t o rd fs body ts out):In w (blks g q v f bd t o):=by
 intro k hk;simp only [List.mem_cons,List.not_mem_nil,or_false,Option.some.injEq] at hk;obtain ⟨ps,h1,h2,h3⟩:=h.O;rcases hk with rfl | rfl | hk | hk | hk | hk | hk
 ·exact h.lt
 ·exact Ln.row_lt h.R.row
 ·exact (World.ownsRow.lt h.R.own k hk.symm).2
 ·exact (World.ownsRow.lt h.F k hk.symm).2
 ·exact (World.ownsRow.lt h.D k hk.symm).2
 ·exact (World.ownsRow.lt h.TR k hk.symm).2
 ·exact (World.ownsRow.lt h3 k hk.symm).2
theorem Own.low (h:Own w B g q v f bd t o rd fs body ts out):∀k,some k∈blks g q v f bd t o→B≤k:=by
 intro k hk;simp only [List.mem_cons,List.not_mem_nil,or_false,Option.some.injEq] at hk;obtain ⟨ps,h1,h2,h3⟩:=h.O;rcases hk with rfl | rfl | hk | hk | hk | hk | hk
 ·exact h.ge
 ·exact h.R.ge
 ·exact (World.ownsRow.lt h.R.own k hk.symm).1
 ·exact (World.ownsRow.lt h.F k hk.symm).1
 ·exact (World.ownsRow.lt h.D k hk.symm).1
 ·exact (World.ownsRow.lt h.TR k hk.symm).1
 ·exact (World.ownsRow.lt h3 k hk.symm).1
theorem Own.set (h:Own w B g q v f bd t o rd fs body ts out) (k:Nat) (u:Value):Own (w.setCell ⟨g,k,none⟩ u) B g q v f bd t o rd fs body ts out:=by
 have hk:Keeps [some g] w (w.setCell ⟨g,k,none⟩ u):=Keeps.set g k u (by simp);have hn:∀i j,i≠0→(blks g q v f bd t o)[i]?=some (some j)→some j∉ [some g]:=fun i j hi hj hm=>by
  have e:j=g:=by simpa using hm
  rw [e] at hj
  exact hi (h.lone i 0 g hj rfl)
 exact ⟨⟨hk.row h.R.row (hn 1 q (by decide) rfl),hk.own h.R.own fun j e=>hn 2 j (by decide) (by rw [←e];rfl),h.R.ge,h.R.ne⟩,
  hk.own h.F fun j e=>hn 3 j (by decide) (by rw [←e];rfl),hk.own h.D fun j e=>hn 4 j (by decide) (by rw [←e];rfl),hk.own h.TR fun j e=>hn 5 j (by decide) (by rw [←e];rfl),
  h.O.keeps hk (fun j hj=>by obtain rfl:j=g:=by simpa using hj
                             simp) fun j e=>hn 6 j (by decide) (by rw [←e];rfl),
  h.lone,h.ge,by simpa using h.lt,h.zone.of hk.size Of.refl⟩
theorem Own.below (h:Own w B g q v f bd t o rd fs body ts out) (hb:Below w.heap.size w w'):Own w' B g q v f bd t o rd fs body ts out:=by have hk:Keeps [] w w':=Keeps.of_below hb;refine ⟨⟨hk.row h.R.row (by simp),hk.own h.R.own (by simp),h.R.ge,h.R.ne⟩,hk.own h.F (by simp),hk.own h.D (by simp),hk.own h.TR (by simp),h.O.keeps hk (by simp) (by simp),h.lone,h.ge,Nat.lt_of_lt_of_le h.lt hb.size,h.zone.of hb.size Of.refl⟩
theorem PR.below (h:PR w B g q v f bd t o p b s) (hb:Below w.heap.size w w'):PR w' B g q v f bd t o p b s:=
 ⟨(hb.block g h.own.lt).trans h.row,h.own.below hb⟩
theorem PR.drew (h:PR w B g q v f bd t o p b s) (n:Nat):PR (w.drewN n) B g q v f bd t o p b s:=h.below (Base.below_drewN (Below.refl _ _) n)
theorem PR.put (h:PR w B g q v f bd t o p b s) (k:Nat) (u:Value) (s':T) (hc:(pgcells p b s q f bd t o).set k u=pgcells p b s' q f bd t o) (hd:s'.rd=s.rd) (h1:s'.r.fs=s.r.fs) (h2:s'.r.body=s.r.body) (h3:s'.r.ts=s.r.ts) (h4:s'.out=s.out) :
 PR (w.setCell ⟨g,k,none⟩ u) B g q v f bd t o p b s':=by
 refine ⟨?_,?_⟩
 ·rw [←hc,←List.setIfInBounds_toArray];exact Ln.row_set h.row k u
 ·rw [hd,h1,h2,h3,h4];exact h.own.set k u
theorem Own.zero (h:Own w B g q v f bd t o rd fs body ts out):Own w B g q v (.slice none 0 0) (.slice none 0 0) (.slice none 0 0) o rd [] [] [] out:=by
 have hsub:∀k,some k∈blks g q v (.slice none 0 0) (.slice none 0 0) (.slice none 0 0) o→some k∈blks g q v f bd t o:=by
  intro k hk;simp only [List.mem_cons,List.not_mem_nil,or_false,Value.ownBlock,reduceCtorEq,false_or] at hk ⊢;rcases hk with hk | hk | hk | hk
  ·exact .inl hk
  ·exact .inr (.inl hk)
  ·exact .inr (.inr (.inl hk))
  ·exact .inr (.inr (.inr (.inr (.inr (.inr hk)))))
 obtain ⟨ps,h1,h2,h3⟩:=h.O;refine ⟨h.R,World.ownsRow_nil _ _ _ _,World.ownsRow_nil _ _ _ _,World.ownsRow_nil _ _ _ _,⟨ps,h1,fun x hx=>⟨(h2 x hx).1,(h2 x hx).2.of fun k hk=>.inl (hsub k hk)⟩,h3⟩,?_,h.ge,h.lt,h.zone.of (Nat.le_refl _) fun k hk=>.inl (hsub k hk)⟩;have e:blks g q v (.slice none 0 0) (.slice none 0 0) (.slice none 0 0) o=(((blks g q v f bd t o).set 3 none).set 4 none).set 5 none:=rfl;rw [e]
 exact ((h.lone.set h.in 3 none (.inl rfl)).set (fun k hk=>h.in k (by
  rcases List.mem_or_eq_of_mem_set hk with hk | hk
  ·exact hk
  ·cases hk)) 4 none (.inl rfl)).set (fun k hk=>h.in k (by
  rcases List.mem_or_eq_of_mem_set hk with hk | hk
  ·rcases List.mem_or_eq_of_mem_set hk with hk | hk
   ·exact hk
   ·cases hk
  ·cases hk)) 5 none (.inl rfl)
theorem Own.line (h:Own w B g q v f bd t o rd fs body ts out) (hb:Below w.heap.size w w') {q1:Nat} {rd1:Ln.M} (hr:Ln.Rd w' B q1 (.slice none 0 0) rd1) (hq:w.heap.size≤q1):Own w' B g q1 (.slice none 0 0) f bd t o rd1 fs body ts out:=by
 have e:blks g q1 (.slice none 0 0) f bd t o=((blks g q v f bd t o).set 1 (some q1)).set 2 none:=rfl;have hof:Of w (blks g q v f bd t o) (blks g q1 (.slice none 0 0) f bd t o):=by
  rw [e]
  exact (Of.set 1 (some q1) (.inr (.inr ⟨q1,rfl,hq⟩))).trans (Of.set 2 none (.inl rfl)) (Nat.le_refl _)
 have hw:=h.below hb;obtain ⟨ps,h1,h2,h3⟩:=h.O;have hk:Keeps (blks g q1 (.slice none 0 0) f bd t o) w w':=Keeps.of_below hb;refine ⟨hr,hw.F,hw.D,hw.TR,⟨ps,h1,fun x hx=>⟨(h2 x hx).1,((h2 x hx).2.of hof).keeps hk⟩,by obtain ⟨ps',h1',h2',h3'⟩:=hw.O;exact (Keeps.of_below hb:Keeps [] w w').own h3 (by simp)⟩,?_,h.ge,hw.lt,h.zone.of hb.size hof⟩;rw [e];intro i j k hi hj
 have hL:=h.lone.set h.in 1 (some q1) (.inr (.inr ⟨q1,rfl,hq⟩));have hi':((blks g q v f bd t o).set 1 (some q1))[i]?=some (some k):=by
  by_cases e2:2=i
  ·subst e2;simp at hi
  ·rwa [List.getElem?_set_ne e2] at hi
 have hj':((blks g q v f bd t o).set 1 (some q1))[j]?=some (some k):=by
  by_cases e2:2=j
  ·subst e2;simp at hj
  ·rwa [List.getElem?_set_ne e2] at hj
 exact hL i j k hi' hj'
theorem Own.push {r:Rec.R} (h:Own w B g q v f bd t o rd r.fs r.body r.ts out) (hg:w.grownBy w' o.ownBlock) {o':Value} (ps:List (Array Value × Rec.R)) (hps:ps.map (·.2)=out) (hfar:∀x∈ps,x.1.size=7∧Far (blks g q v f bd t o) B.z w (.agg x.1) x.2)
 (ho:w'.ownsRow B 58 7 o' (out.length+1) (ps.flatMap (·.1.toList) ++ [.string r.m,.string r.x,.int .i64 r.k,f,.bool r.ch,bd,t])) (hor:o'.ownBlock=o.ownBlock∨o'.ownBlock=some w.heap.size) :
 Own w' B g q v (.slice none 0 0) (.slice none 0 0) (.slice none 0 0) o' rd [] [] [] (out ++ [r]):=by
 have hk:Keeps [o.ownBlock] w w':=Keeps.grown hg fun k e=>by simp [e]
 have hn:∀i j,i≠6→(blks g q v f bd t o)[i]?=some (some j)→some j∉ [o.ownBlock]:=fun i j hi hj hm=>by
  have e:some j=o.ownBlock:=by simpa using hm
  exact hi (h.lone i 6 j hj (by rw [e];rfl))
 have hin:=h.in
 have F':=hk.own h.F fun j e=>hn 3 j (by decide) (by rw [←e];rfl)
 have D':=hk.own h.D fun j e=>hn 4 j (by decide) (by rw [←e];rfl)
 have T':=hk.own h.TR fun j e=>hn 5 j (by decide) (by rw [←e];rfl);have hsub:∀k,some k∈blks g q v (.slice none 0 0) (.slice none 0 0) (.slice none 0 0) o'→(some k=some g∨some k=some q∨some k=v.ownBlock∨some k=o.ownBlock)∨w.heap.size≤k:=by
  intro k hk
  replace hk:some k∈ [some g,some q,v.ownBlock,none,none,none,o'.ownBlock]:=hk
  simp only [List.mem_cons,List.not_mem_nil,or_false,reduceCtorEq,false_or] at hk;rcases hk with hk | hk | hk | hk
  ·exact .inl (.inl hk)
  ·exact .inl (.inr (.inl hk))
  ·exact .inl (.inr (.inr (.inl hk)))
  ·rcases hor with e | e
   ·exact .inl (.inr (.inr (.inr (by rw [←e];exact hk))))
   ·rw [e] at hk;cases hk;exact .inr (Nat.le_refl _)
 have hof:∀k,some k∈blks g q v (.slice none 0 0) (.slice none 0 0) (.slice none 0 0) o'→some k∈blks g q v f bd t o∨w.heap.size≤k:=fun k hk=>by
  rcases hsub k hk with (e | e | e | e) | e
  ·exact .inl (by simp [e])
  ·exact .inl (by simp [e])
  ·exact .inl (by simp [e])
  ·exact .inl (by simp [e])
  ·exact .inr e
 have hkL2:Keeps (blks g q v f bd t o) w w':=hk.mono fun k hk=>by
  have e:some k=o.ownBlock:=by simpa using hk
  simp [e]
 refine ⟨⟨hk.row h.R.row (hn 1 q (by decide) rfl),hk.own h.R.own fun j e=>hn 2 j (by decide) (by rw [←e];rfl),h.R.ge,h.R.ne⟩,World.ownsRow_nil _ _ _ _,World.ownsRow_nil _ _ _ _,World.ownsRow_nil _ _ _ _,
  ⟨ps ++ [(#[.string r.m,.string r.x,.int .i64 r.k,f,.bool r.ch,bd,t],r)],by rw [List.map_append,hps];rfl,fun x hx=>?_,by rw [List.length_append,List.flatMap_append];simpa using ho⟩,?_,h.ge,Nat.lt_of_lt_of_le h.lt hk.size,h.zone.of hk.size hof⟩
 ·rcases List.mem_append.1 hx with hx | hx
  ·exact ⟨(hfar x hx).1,by
    have h2:=((hfar x hx).2.keeps hkL2)
    exact ⟨h2.reads,fun k hb=>⟨fun hm=>by
     rcases hof k hm with e | e
     ·exact (h2.far k hb).1 e
     ·exact absurd ((hfar x hx).2.far k hb).2 (by omega),(h2.far k hb).2⟩,h2.off⟩⟩
  ·obtain rfl:x= _:=by simpa using hx
   refine ⟨rfl,?_,fun k hb=>?_,fun k hb=>?_⟩
   ·obtain ⟨A1,c1,e1,h1⟩:=Flds.of_own F';obtain ⟨A2,c2,e2,h2⟩:=Rec.nums_of_own D';obtain ⟨A3,c3,e3,h3⟩:=Flds.of_own T';subst e1 e2 e3;exact ⟨_,_,_,_,_,_,rfl,h1,h2,h3⟩
   ·have e1:=slot_own h.F;have e2:=slot_own h.D;have e3:=slot_own h.TR
    replace hb:some k∈ [none,none,none,slot f,none,slot bd,slot t]:=hb
    simp only [List.mem_cons,List.not_mem_nil,or_false,reduceCtorEq,false_or] at hb;have key:∀i,i≠0→i≠1→i≠2→i≠6→(blks g q v f bd t o)[i]?=some (some k)→some k∉blks g q v (.slice none 0 0) (.slice none 0 0) (.slice none 0 0) o'∧k<w'.heap.size:=by
     intro i i0 i1 i2 i6 hi
     have hlt:=hin k (List.mem_of_getElem? hi);refine ⟨fun hm=>?_,Nat.lt_of_lt_of_le hlt hk.size⟩;rcases hsub k hm with (e | e | e | e) | e
     ·exact i0 (h.lone i 0 k hi (by rw [e];rfl))
     ·exact i1 (h.lone i 1 k hi (by rw [e];rfl))
     ·exact i2 (h.lone i 2 k hi (by rw [e];rfl))
     ·exact i6 (h.lone i 6 k hi (by rw [e];rfl))
     ·omega
    rcases hb with hb | hb | hb
    ·exact key 3 (by decide) (by decide) (by decide) (by decide) (by rw [hb,e1];rfl)
    ·exact key 4 (by decide) (by decide) (by decide) (by decide) (by rw [hb,e2];rfl)
    ·exact key 5 (by decide) (by decide) (by decide) (by decide) (by rw [hb,e3];rfl)
   ·have e1:=slot_own h.F;have e2:=slot_own h.D;have e3:=slot_own h.TR
    replace hb:some k∈ [none,none,none,slot f,none,slot bd,slot t]:=hb
    simp only [List.mem_cons,List.not_mem_nil,or_false,reduceCtorEq,false_or] at hb;rcases hb with hb | hb | hb
    ·exact h.zone.off k (List.mem_of_getElem? (i:=3) (by rw [hb,e1];rfl))
    ·exact h.zone.off k (List.mem_of_getElem? (i:=4) (by rw [hb,e2];rfl))
    ·exact h.zone.off k (List.mem_of_getElem? (i:=5) (by rw [hb,e3];rfl))
 ·have hz:=h.zero;have e:blks g q v (.slice none 0 0) (.slice none 0 0) (.slice none 0 0) o'=(blks g q v (.slice none 0 0) (.slice none 0 0) (.slice none 0 0) o).set 6 o'.ownBlock:=rfl;rw [e];refine hz.lone.set hz.in 6 _ ?_;rcases hor with e | e
  ·exact .inr (.inl (by rw [e];rfl))
  ·exact .inr (.inr ⟨_,e,Nat.le_refl _⟩)
theorem Own.setF (h:Own w B g q v f bd t o rd fs body ts out) {f':Value} {fs':List Fld} (hk:Keeps [f.ownBlock] w w') (hr:w'.ownsRow B 126 2 f' fs'.length (cells fs')) (hor:f'.ownBlock=f.ownBlock∨∃k,f'.ownBlock=some k∧w.heap.size≤k) :
 Own w' B g q v f' bd t o rd fs' body ts out∧Step (blks g q v f bd t o) (blks g q v f' bd t o) w w':=by
 have hn:∀i j,i≠3→(blks g q v f bd t o)[i]?=some (some j)→some j∉ [f.ownBlock]:=fun i j hi hj hm=>by
  have e:some j=f.ownBlock:=by simpa using hm
  exact hi (h.lone i 3 j hj (by rw [e];rfl))
 have e:blks g q v f' bd t o=(blks g q v f bd t o).set 3 f'.ownBlock:=rfl;have ho:f'.ownBlock=none∨(blks g q v f bd t o)[3]?=some f'.ownBlock∨∃k,f'.ownBlock=some k∧w.heap.size≤k:=by
  rcases hor with e | e
  ·exact .inr (.inl (by rw [e];rfl))
  ·exact .inr (.inr e)
 have hof:Of w (blks g q v f bd t o) (blks g q v f' bd t o):=by rw [e];exact Of.set 3 _ ho
 have hkL:Keeps (blks g q v f bd t o) w w':=hk.mono fun k hk=>by
  have e:some k=f.ownBlock:=by simpa using hk
  simp [e]
 obtain ⟨ps,h1,h2,h3⟩:=h.O
 refine ⟨⟨⟨hk.row h.R.row (hn 1 q (by decide) rfl),hk.own h.R.own fun j e=>hn 2 j (by decide) (by rw [←e];rfl),h.R.ge,h.R.ne⟩,hr,hk.own h.D fun j e=>hn 4 j (by decide) (by rw [←e];rfl),hk.own h.TR fun j e=>hn 5 j (by decide) (by rw [←e];rfl),
  ⟨ps,h1,fun x hx=>⟨(h2 x hx).1,by
    have hx2:=(h2 x hx).2.keeps hkL
    exact ⟨hx2.reads,fun k hb=>⟨fun hm=>by
     rcases hof k hm with e | e
     ·exact (hx2.far k hb).1 e
     ·exact absurd ((h2 x hx).2.far k hb).2 (by omega),(hx2.far k hb).2⟩,hx2.off⟩⟩,hk.own h3 fun j e=>hn 6 j (by decide) (by rw [←e];rfl)⟩,?_,h.ge,Nat.lt_of_lt_of_le h.lt hk.size,h.zone.of hk.size hof⟩,hkL,hof⟩
 rw [e];exact h.lone.set h.in 3 _ ho
theorem Own.setD (h:Own w B g q v f bd t o rd fs body ts out) {bd':Value} {body':List UInt8} (hk:Keeps [bd.ownBlock] w w') (hr:w'.ownsRow B 5 1 bd' body'.length (Rec.vals body')) (hor:bd'.ownBlock=bd.ownBlock∨∃k,bd'.ownBlock=some k∧w.heap.size≤k) :
 Own w' B g q v f bd' t o rd fs body' ts out∧Step (blks g q v f bd t o) (blks g q v f bd' t o) w w':=by
 have hn:∀i j,i≠4→(blks g q v f bd t o)[i]?=some (some j)→some j∉ [bd.ownBlock]:=fun i j hi hj hm=>by
  have e:some j=bd.ownBlock:=by simpa using hm
  exact hi (h.lone i 4 j hj (by rw [e];rfl))
 have e:blks g q v f bd' t o=(blks g q v f bd t o).set 4 bd'.ownBlock:=rfl;have ho:bd'.ownBlock=none∨(blks g q v f bd t o)[4]?=some bd'.ownBlock∨∃k,bd'.ownBlock=some k∧w.heap.size≤k:=by
  rcases hor with e | e
  ·exact .inr (.inl (by rw [e];rfl))
  ·exact .inr (.inr e)
 have hof:Of w (blks g q v f bd t o) (blks g q v f bd' t o):=by rw [e];exact Of.set 4 _ ho
 have hkL:Keeps (blks g q v f bd t o) w w':=hk.mono fun k hk=>by
  have e:some k=bd.ownBlock:=by simpa using hk
  simp [e]
 obtain ⟨ps,h1,h2,h3⟩:=h.O
 refine ⟨⟨⟨hk.row h.R.row (hn 1 q (by decide) rfl),hk.own h.R.own fun j e=>hn 2 j (by decide) (by rw [←e];rfl),h.R.ge,h.R.ne⟩,hk.own h.F fun j e=>hn 3 j (by decide) (by rw [←e];rfl),hr,hk.own h.TR fun j e=>hn 5 j (by decide) (by rw [←e];rfl),
  ⟨ps,h1,fun x hx=>⟨(h2 x hx).1,by
    have hx2:=(h2 x hx).2.keeps hkL
    exact ⟨hx2.reads,fun k hb=>⟨fun hm=>by
     rcases hof k hm with e | e
     ·exact (hx2.far k hb).1 e
     ·exact absurd ((h2 x hx).2.far k hb).2 (by omega),(hx2.far k hb).2⟩,hx2.off⟩⟩,hk.own h3 fun j e=>hn 6 j (by decide) (by rw [←e];rfl)⟩,?_,h.ge,Nat.lt_of_lt_of_le h.lt hk.size,h.zone.of hk.size hof⟩,hkL,hof⟩
 rw [e];exact h.lone.set h.in 4 _ ho
theorem Own.setT (h:Own w B g q v f bd t o rd fs body ts out) {t':Value} {ts':List Fld} (hk:Keeps [t.ownBlock] w w') (hr:w'.ownsRow B 126 2 t' ts'.length (cells ts')) (hor:t'.ownBlock=t.ownBlock∨∃k,t'.ownBlock=some k∧w.heap.size≤k) :
 Own w' B g q v f bd t' o rd fs body ts' out∧Step (blks g q v f bd t o) (blks g q v f bd t' o) w w':=by
 have hn:∀i j,i≠5→(blks g q v f bd t o)[i]?=some (some j)→some j∉ [t.ownBlock]:=fun i j hi hj hm=>by
  have e:some j=t.ownBlock:=by simpa using hm
  exact hi (h.lone i 5 j hj (by rw [e];rfl))
 have e:blks g q v f bd t' o=(blks g q v f bd t o).set 5 t'.ownBlock:=rfl;have ho:t'.ownBlock=none∨(blks g q v f bd t o)[5]?=some t'.ownBlock∨∃k,t'.ownBlock=some k∧w.heap.size≤k:=by
  rcases hor with e | e
  ·exact .inr (.inl (by rw [e];rfl))
  ·exact .inr (.inr e)
 have hof:Of w (blks g q v f bd t o) (blks g q v f bd t' o):=by rw [e];exact Of.set 5 _ ho
 have hkL:Keeps (blks g q v f bd t o) w w':=hk.mono fun k hk=>by
  have e:some k=t.ownBlock:=by simpa using hk
  simp [e]
 obtain ⟨ps,h1,h2,h3⟩:=h.O
 refine ⟨⟨⟨hk.row h.R.row (hn 1 q (by decide) rfl),hk.own h.R.own fun j e=>hn 2 j (by decide) (by rw [←e];rfl),h.R.ge,h.R.ne⟩,hk.own h.F fun j e=>hn 3 j (by decide) (by rw [←e];rfl),hk.own h.D fun j e=>hn 4 j (by decide) (by rw [←e];rfl),hr,
  ⟨ps,h1,fun x hx=>⟨(h2 x hx).1,by
    have hx2:=(h2 x hx).2.keeps hkL
    exact ⟨hx2.reads,fun k hb=>⟨fun hm=>by
     rcases hof k hm with e | e
     ·exact (hx2.far k hb).1 e
     ·exact absurd ((h2 x hx).2.far k hb).2 (by omega),(hx2.far k hb).2⟩,hx2.off⟩⟩,hk.own h3 fun j e=>hn 6 j (by decide) (by rw [←e];rfl)⟩,?_,h.ge,Nat.lt_of_lt_of_le h.lt hk.size,h.zone.of hk.size hof⟩,hkL,hof⟩
 rw [e];exact h.lone.set h.in 5 _ ho
theorem PR.bk (h:PR w B g q v f bd t o p b s):Rec.Bk w g (pgcells p b s q f bd t o):=⟨fun _ _ hu=>row_cellL h.row hu,fun k _=>Ln.row_frozen h.row k,h.own.lt⟩
def Par (w:World) (B:Zone) (g:Nat) (p:Nat) (b:Bd) (s:T) (L:List (Option Nat)):Prop:=∃q v f bd t o,L=blks g q v f bd t o∧PR w B g q v f bd t o p b s
end
end Go.Proofs.YtnabkcglnbdfeaaGreatDoor.Pg
namespace Go.Proofs.YtnabkcglnbdfeaaGreatDoor.Each
open Go.RowKit Base
def goodF (l:List Oper) (m:Nat) (ds:List Nat) (lm:List Bool) (r:Nat) (f:Option Nat:=none):Bool:=
 decide (m≤l.length)&&(decide ((l.take m).map (·.dst)=ds.map some)&&(decide ds.Nodup &&
 ((List.range l.length).all (fun k=>match l[k]? with
   | some o=>o.after.toList.all fun e=>!Region.binds .any e|| (decide (e.on<k)&&(lm.getD k false||decide (m≤k) || !lm.getD e.on false))
   | none=>true) &&
 ((List.range l.length).all (fun i=>(decide (i<m) && !lm.getD i false)|| (List.range m).all fun k=>lm.getD k false|| (decide (f=some k)|| (marks l l.length ((Array.replicate l.length false).setIfInBounds i true)).getD k false)) &&
 decide ((List.range m).countP (fun k=>!lm.getD k false)+r≤l.length)))))
def floats (m:Nat) (lm:List Bool):Option Nat→Bool
 | none=>true
 | some k=>decide (k<m) && !lm.getD k false
section
variable {P:Program} {l:List Oper} {Q:Exit→Act→World→Prop} {fs:List Fact} {W:World} {a0:Act} {m:Nat} {ds:List Nat} {lm:List Bool} {r:Nat} {fl:Option Nat}
theorem all_float (hm:m≤l.length) (hdst:(l.take m).map (·.dst)=ds.map some) (hnd:ds.Nodup) (hsz:∀d∈ds,d<a0.tmps.size) (hlen:fs.length=m)
 (hlast:∀f∈fs,Lasts f) (hidle:∀(k:Nat) (f:Fact),fs[k]?=some f→lm.getD k false=true→∀v w,f v w)
 (hfine:∀(k:Nat) (o:Oper) (f:Fact),l[k]?=some o→fs[k]?=some f→lm.getD k false=false→Fine P l fs W a0 ds o f)
 (hback:∀(k:Nat) (o:Oper),l[k]?=some o→∀e∈o.after.toList,Region.binds .any e=true→e.on<k)
 (hfree:∀(k:Nat) (o:Oper),l[k]?=some o→k<m→lm.getD k false=false→∀e∈o.after.toList,Region.binds .any e=true→lm.getD e.on false=false)
 (hcov:∀i,i<l.length→m≤i∨lm.getD i false=true→∀k,k<m→lm.getD k false=false→fl≠some k→(marks l l.length ((Array.replicate l.length false).setIfInBounds i true)).getD k false=true)
 (hfl:∀k,fl=some k→k<m∧lm.getD k false=false)
 (hrest:∀(g:Nat→Value) (w:World),Below W.heap.size W w→facts g w ds fs→wpAnyH P .any l.toArray Q (fun _=>True) r (fill l.length m lm) (putg g ds a0) w)
 (hrest0:∀k0,fl=some k0→∀(g:Nat→Value) (w:World),Below W.heap.size W w→facts g w ds (fs.set k0 fun _ _=>True)→wpAnyH P .any l.toArray Q (fun _=>True) (r+1) ((fill l.length m lm).setIfInBounds k0 false) (putg g ds a0) w) :
 ∀(n:Nat) (b:Array Bool) (a:Act) (w:World),Inv l fs (fun _ w'=>Below W.heap.size W w') a0 m ds lm b a w→(List.range m).countP (fun k=>!b.getD k false && !lm.getD k false)+r≤n→wpAnyH P .any l.toArray Q (fun _=>True) n b a w:=by
 have base:∀(b:Array Bool) (a:Act) (w:World),Inv l fs (fun _ w'=>Below W.heap.size W w') a0 m ds lm b a w→(∀k,k<m→lm.getD k false=false→fl≠some k→b.getD k false=true)→
  ∃q,(q=r∨(q=r+1∧0<(List.range m).countP (fun k=>!b.getD k false && !lm.getD k false)))∧wpAnyH P .any l.toArray Q (fun _=>True) q b a w:=by
  intro b a w hI hall;rcases Classical.em (∃k0,fl=some k0∧b.getD k0 false=false) with ⟨k0,hk0,hbk0⟩ | hno
  ·obtain ⟨hkm,hkl⟩:=hfl k0 hk0
   have hall':∀k,k<m→lm.getD k false=false→¬k=k0→b.getD k false=true:=fun k h1 h2 h3=>hall k h1 h2 (fun e=>h3 (by rw [hk0] at e;exact (Option.some.inj e).symm));refine ⟨r+1,.inr ⟨rfl,?_⟩,?_⟩
   ·rw [List.countP_pos_iff];exact ⟨k0,by simpa using hkm,by rw [hbk0,hkl];rfl⟩
   have hb:b=(fill l.length m lm).setIfInBounds k0 false:=by
    refine Array.ext (by simp [fill,hI.bsize]) fun i h1 h2=>?_;have e:b.getD i false=b[i]:=by simp [Array.getD_eq_getD_getElem?,h1]
    rw [←e,Array.getElem_setIfInBounds (by simpa using h2)];by_cases hik:k0=i
    ·rw [if_pos hik,←hik,hbk0]
    ·rw [if_neg hik];have e2:∀h,(fill l.length m lm)[i]'h=(decide (i<m) && !lm.getD i false):=by intro h;simp [fill]
     rw [e2];rcases Nat.lt_or_ge i m with hi | hi
     ·cases hl:lm.getD i false with
      | true=>rw [hI.rest i (.inr hl)];simp
      | false=>rw [hall' i hi hl (fun e=>hik e.symm)];simp [hi]
     ·rw [hI.rest i (.inl hi)];simp [show¬i<m by omega]
   have:=hrest0 k0 hk0 _ w hI.bel (facts_of (fun d=>a.eval (.tmp d)) ds (fs.set k0 fun _ _=>True) fun k d f hd hf=>by
    by_cases hkk:k0=k
    ·subst hkk;have:k0<fs.length:=by rw [hlen];exact hkm
     rw [List.getElem?_set_self this] at hf;obtain rfl:=Option.some.inj hf
     trivial
    ·rw [List.getElem?_set_ne hkk] at hf;cases hl:lm.getD k false with
     | true=>exact hidle k f hf hl _ _
     | false=>exact hI.fact k d f hd hf (hall' k (by have:=(List.getElem?_eq_some_iff.1 hf).1;omega) hl (fun e=>hkk e.symm)))
   rw [←act_of hI,←hb] at this;exact this
  ·have hall':∀k,k<m→lm.getD k false=false→b.getD k false=true:=fun k h1 h2=>by
    rcases Classical.em (fl=some k) with h | h
    ·cases hb:b.getD k false with
     | true=>rfl
     | false=>exact absurd ⟨k,h,hb⟩ hno
    ·exact hall k h1 h2 h
   refine ⟨r,.inl rfl,?_⟩;have hb:b=fill l.length m lm:=by
    refine Array.ext (by simp [fill,hI.bsize]) fun i h1 h2=>?_;have e:b.getD i false=b[i]:=by simp [Array.getD_eq_getD_getElem?,h1]
    rw [←e];have e2:(fill l.length m lm)[i]=(decide (i<m) && !lm.getD i false):=by simp [fill]
    rw [e2];rcases Nat.lt_or_ge i m with hi | hi
    ·cases hl:lm.getD i false with
     | true=>rw [hI.rest i (.inr hl)];simp
     | false=>rw [hall' i hi hl];simp [hi]
    ·rw [hI.rest i (.inl hi)];simp [show¬i<m by omega]
   have:=hrest _ w hI.bel (facts_of (fun d=>a.eval (.tmp d)) ds fs fun k d f hd hf=>by
    cases hl:lm.getD k false with
    | true=>exact hidle k f hf hl _ _
    | false=>exact hI.fact k d f hd hf (hall' k (by have:=(List.getElem?_eq_some_iff.1 hf).1;omega) hl))
   rw [←act_of hI,←hb] at this;exact this
 intro n
 induction n with
 | zero=>
   intro b a w hI hn;have hc:(List.range m).countP (fun k=>!b.getD k false && !lm.getD k false)=0:=by omega
   obtain ⟨q,hq,h⟩:=base b a w hI (fun k hk hl _=>by have:=List.countP_eq_zero.1 hc k (by simpa using hk);rw [hl] at this;simpa using this)
   rw [show q=0 by omega] at h;exact h
 | succ n ih=>
   intro b a w hI hn;by_cases hc:∀k,k<m→lm.getD k false=false→fl≠some k→b.getD k false=true
   ·obtain ⟨q,hq,h⟩:=base b a w hI hc;have h2:=wpAnyH_up q (n+1-q) _ _ _ h;rw [show q+(n+1-q)=n+1 by omega] at h2;exact h2
   ·
    have hex:∃k,k<m∧lm.getD k false=false∧fl≠some k∧b.getD k false=false:=by
     rcases Classical.em (∃k,k<m∧lm.getD k false=false∧fl≠some k∧b.getD k false=false) with h | h
     ·exact h
     ·refine absurd (fun k hk hl hf=>?_) hc;cases hb:b.getD k false with
      | true=>rfl
      | false=>exact absurd ⟨k,hk,hl,hf,hb⟩ h
    have hin:∀i∈Region.ready .any l.toArray b,i<m∧lm.getD i false=false:=by
     intro i hi;obtain ⟨hun,o,ho,hal⟩:=mem_ready.1 hi;have ho':l[i]?=some o:=by simpa using ho
     have hil:i<l.length:=(List.getElem?_eq_some_iff.1 ho').1;have key:m≤i∨lm.getD i false=true→False:=by
      intro h;obtain ⟨k,hk,hlk,hfk,hbk⟩:=hex;have hmk:=hcov i hil h k hk hlk hfk
      have:=marks_sub b hI.down l.length i _ (fun k hk=>(get_set_sub _ _ _ hk).imp_right fun h=>by
       rw [Array.getD_eq_getD_getElem?] at h;rcases Nat.lt_or_ge k l.length with hkl | hkl
       ·simp [hkl] at h
       ·simp [hkl] at h) (fun o2 ho2 e he hb=>by
        obtain rfl:o=o2:=by rw [ho'] at ho2;exact Option.some.inj ho2
        exact hal e (by simpa using he) hb) k hmk
      rcases this with h' | h'
      ·subst h';rcases h with h | h
       ·omega
       ·rw [hlk] at h;cases h
      ·rw [hbk] at h';cases h'
     refine ⟨?_,?_⟩
     ·rcases Nat.lt_or_ge i m with h | h
      ·exact h
      ·exact absurd (.inl h) key
     ·cases h:lm.getD i false with
      | false=>rfl
      | true=>exact absurd (.inr h) key
    have hne:Region.ready .any l.toArray b≠ []:=by
     have:∀k,k<m→lm.getD k false=false→b.getD k false=false→∃i,i∈Region.ready .any l.toArray b:=by
      intro k
      induction k using Nat.strongRecOn with
      | _ k ihk=>
        intro hk hlk hbk;have hkl:k<l.length:=by omega
        rcases Classical.em (∃e∈(l[k]).after.toList,Region.binds .any e=true∧b.getD e.on false=false) with h | h
        ·obtain ⟨e,he,hb,hbe⟩:=h;have:=hback k _ (List.getElem?_eq_getElem hkl) e he hb;exact ihk e.on this (by omega) (hfree k _ (List.getElem?_eq_getElem hkl) hk hlk e he hb) hbe
        ·refine ⟨k,mem_ready.2 ⟨?_,l[k],by simp [hkl],fun e he hb=>?_⟩⟩
         ·have:k<b.size:=by rw [hI.bsize];exact hkl
          rw [Array.getD_eq_getD_getElem?] at hbk ⊢;simpa [this] using hbk
         ·cases hbe:b.getD e.on false with
          | true=>rfl
          | false=>exact absurd ⟨e,by simpa using he,hb,hbe⟩ h
     obtain ⟨k,hk,hlk,_,hbk⟩:=hex;obtain ⟨i,hi⟩:=this k hk hlk hbk;intro h0;rw [h0] at hi;cases hi
    refine wpAnyH_all rfl hne ?_;intro i hi;obtain ⟨him,hil⟩:=hin i hi
    refine wpOp_mono (fun a' w' h'=>⟨trivial,ih _ a' w' h' ?_⟩) (step (R:=fun _ w w'=>Below w.heap.size w w') hm hdst hnd hsz hlen (fun _ _ _ _ _ _ h h'=>h.trans (h'.mono h.size)) (fun _ _=>Below.refl _ _) (fun _ _ f hf _ _=>hlast f (List.mem_of_getElem? hf))
     (fun k o f ho hf hl ev _ w' h1 h2 _ h4=>⟨fun hw=>((hfine k o f ho hf hl ev w' h1 h2 h4).1 hw).gen fun _ h=>h,(hfine k o f ho hf hl ev w' h1 h2 h4).2⟩) hI him hil hi)
    obtain ⟨hun,o,ho,hal⟩:=mem_ready.1 hi;have hbi:i<b.size:=by rw [hI.bsize];omega
    have hun':b.getD i false=false:=by rw [Array.getD_eq_getD_getElem?] at hun ⊢;simpa [hbi] using hun
    have e:(List.range m).countP (fun k=>!(b.setIfInBounds i true).getD k false && !lm.getD k false)=(List.range m).countP (fun k=>(!b.getD k false && !lm.getD k false) && !(k==i)):=by
     refine List.countP_congr fun k _=>?_;rw [get_set b i k hbi];by_cases h:k=i
     ·simp [h]
     ·simp [h]
    have:=count_less (fun k=>!b.getD k false && !lm.getD k false) i (by rw [hun',hil];rfl) (List.range m) (by simpa using him);rw [e];omega
theorem region_float (m:Nat) (ds:List Nat) (fs:List Fact) (lm:List Bool) (r:Nat) (fl:Option Nat) (p p0:Tree.Plan) {id:Nat} {a0:Act} {w:World} (hmo:P.follows .mixedOrders=true) (hg:goodF l m ds lm r fl=true) (hns:Region.noSelect l.toArray=true)
 (hp:Tree.fits l.toArray p r (fill l.length m lm)=true) (hp0:∀k0,fl=some k0→Tree.fits l.toArray p0 (r+1) ((fill l.length m lm).setIfInBounds k0 false)=true) (hQ:∀c a d v w,Q (.panic c) (Act.put a d v) w→Q (.panic c) a w)
 (hsz:ds.all (fun d=>decide (d<a0.tmps.size))=true) (hlen:fs.length=m) (hlast:Every fs) (hidle:Idle lm fs) (hfloat:floats m lm fl=true) (hfine:All P l fs (w.drewN 1) a0 ds lm l fs)
 (hrest:∀(g:Nat→Value) (w':World),Below w.heap.size w w'→facts g w' ds fs→Tree.Step P l.toArray Q (fun _=>True) (Tree.grow l p) (putg g ds a0) w')
 (hrest0:∀k0,fl=some k0→∀(g:Nat→Value) (w':World),Below w.heap.size w w'→facts g w' ds (fs.set k0 fun _ _=>True)→Tree.Step P l.toArray Q (fun _=>True) (Tree.grow l p0) (putg g ds a0) w'):(Code.region id l.toArray true).wp P Q a0 w:=by
 simp only [goodF,Bool.and_eq_true,List.all_eq_true,decide_eq_true_eq,List.mem_range,Bool.or_eq_true] at hg;obtain ⟨h1,h2,h3,h4,h5,h6⟩:=hg;refine wp_region_held (S:=fun _=>True) hmo ?_;have hb4:∀(k:Nat) (o:Oper),l[k]?=some o→∀e∈o.after.toList,Region.binds .any e=true→e.on<k∧(k<m→lm.getD k false=false→lm.getD e.on false=false):=by
  intro k o hk e he hb;have:=h4 k (List.getElem?_eq_some_iff.1 hk).1;rw [hk] at this;simp only [List.all_eq_true,Bool.or_eq_true,Bool.and_eq_true,Bool.not_eq_true',decide_eq_true_eq] at this;rcases this e he with h | ⟨h,h'⟩
  ·rw [hb] at h;cases h
  ·refine ⟨h,fun hk hl=>?_⟩;rcases h' with (h' | h') | h'
   ·rw [hl] at h';cases h'
   ·omega
   ·exact h'
 have hcov:∀i,i<l.length→m≤i∨lm.getD i false=true→∀k,k<m→lm.getD k false=false→fl≠some k→(marks l l.length ((Array.replicate l.length false).setIfInBounds i true)).getD k false=true:=by
  intro i hi hmi k hk hl hf;rcases h5 i hi with ⟨h,h'⟩ | h
  ·rcases hmi with hmi | hmi
   ·omega
   ·rw [hmi] at h';cases h'
  ·rcases h k hk with h | h | h
   ·rw [hl] at h;cases h
   ·exact absurd h hf
   ·exact h
 have hfl:∀k,fl=some k→k<m∧lm.getD k false=false:=by intro k hk;subst hk;simp only [floats,Bool.and_eq_true,decide_eq_true_eq,Bool.not_eq_true'] at hfloat;exact hfloat
 have hsz':∀d∈ds,d<a0.tmps.size:=by simpa using hsz
 have hI:Inv l fs (fun _ w'=>Below (w.drewN 1).heap.size (w.drewN 1) w') a0 m ds lm (Array.replicate l.length false) a0 (w.drewN 1):=by
  have hrep:∀k,(Array.replicate l.length false).getD k false=false:=fun k=>by rw [Array.getD_eq_getD_getElem?];rcases Nat.lt_or_ge k l.length with h | h<;>simp [h]
  refine ⟨Below.refl _ _,rfl,rfl,fun _ _=>rfl,fun k d f _ _ h=>?_,fun k o _ h=>?_,by simp,fun k _=>hrep k⟩
  ·rw [hrep] at h;cases h
  ·rw [hrep] at h;cases h
 have:=all_float (P:=P) (Q:=Q) (r:=r) (fl:=fl) h1 h2 h3 hsz' hlen (every_at hlast) (idle_at hidle) (fun k o f ho hf hl=>all_at hfine k o f ho hf hl) (fun k o hk e he hb=>(hb4 k o hk e he hb).1)
  (fun k o hk hkm hl e he hb=>(hb4 k o hk e he hb).2 hkm hl) hcov hfl
  (fun g w' hb hf=>Tree.held_of_walk hns hQ p _ _ _ w' hp trivial (hrest g w' ((Base.below_drewN (Below.refl w.heap.size w) 1).trans hb) hf).out)
  (fun k0 hk0 g w' hb hf=>Tree.held_of_walk hns hQ p0 _ _ _ w' (hp0 k0 hk0) trivial (hrest0 k0 hk0 g w' ((Base.below_drewN (Below.refl w.heap.size w) 1).trans hb) hf).out) l.length _ a0 (w.drewN 1) hI (by
    have:(List.range m).countP (fun k=>!(Array.replicate l.length false).getD k false && !lm.getD k false)≤(List.range m).countP (fun k=>!lm.getD k false):=
     List.countP_mono_left fun k _ hk=>by simp at hk;simpa using hk.2
    omega)
 simpa [World.drewN] using this
end
section run
variable {P:Program} {o:Oper}
theorem exec_append {ev:Operand→Value} {w w':World} {v u v':Value} (s x:Operand) (t:TypeId) (ho:o.op=.call {callee:=.builtin .append,args:=#[s,x],argTypes:=#[t,t]}) (hs:ev s=v) (hx:ev x=u)
 (hr:(Builtin.append_ #[t,t] o.type #[v,u]).run P w=.ok v' w'):(execOp ev o).run P w=.ok (.value v') w':=by
 unfold execOp;simp only [ho,resolve,invoke,builtin,Sem.run_bind,Sem.run_pure,Result.andThen_ok,List.map_toArray,List.map_cons,List.map_nil,hs,hx,hr]
theorem oper_append {a:Act} {w w':World} {K:Act→World→Prop} {Q:Exit→Act→World→Prop} {v u v':Value} (s x:Operand) (t:TypeId) (ho:o.op=.call {callee:=.builtin .append,args:=#[s,x],argTypes:=#[t,t]}) (hs:a.eval s=v) (hx:a.eval x=u)
 (hr:(Builtin.append_ #[t,t] o.type #[v,u]).run P w=.ok v' w') (h:K (a.put o.dst v') w'):o.wp P a w K Q:=by
 unfold Oper.wp;rw [exec_append s x t ho hs hx hr,Oper.upon_value];exact h
theorem oper_enter {a:Act} {w:World} {K:Act→World→Prop} {Q:Exit→Act→World→Prop} {g:FuncId} {args:Array Value} (h:(execOp a.eval o).run P w=.ok (.enter g args) w) (hc:Calls P g args w fun e w'=>∃v,e=.returned v∧K (a.put o.dst v) w'):o.wp P a w K Q:=by unfold Oper.wp;rw [h,Oper.upon_enter];refine hc.mono ?_;rintro e w' ⟨v,rfl,hk⟩;exact hk
end run
end Go.Proofs.YtnabkcglnbdfeaaGreatDoor.Each
