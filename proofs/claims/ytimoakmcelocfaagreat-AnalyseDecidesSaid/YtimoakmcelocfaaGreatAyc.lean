import Derived.Test.YtimoakmcelocfaaGreatAyb
namespace Go.Proofs.YtimoakmcelocfaaGreat.Rq
open Go.RowKit Base Txt
def ext (l:List UInt8) (x:Nat × Nat):List UInt8:=(l.take x.2).drop x.1
theorem ext_length (l:List UInt8) (x:Nat × Nat) (h:x.2≤l.length):(ext l x).length=x.2-x.1:=by unfold ext;rw [List.length_drop,List.length_take,Nat.min_eq_left h]
theorem ext_at (l:List UInt8) (x:Nat × Nat) (k:Nat) (hk:k<(ext l x).length):∃h:x.1+k<l.length,(ext l x)[k]=l[x.1+k]:=by
 have h1:x.1+k<l.length:=by unfold ext at hk;rw [List.length_drop,List.length_take] at hk;omega
 refine ⟨h1,?_⟩;simp only [ext,List.getElem_drop,List.getElem_take]
theorem ext_ba (s:ByteArray) (a b:Nat):ba (ext s.data.toList (a,b))=s.extract a b:=by apply ba_ext;rw [Lib.extract_data,ext];show (s.data.toList.take b).drop a= _;rw [List.drop_take]
theorem ext_mid (A M B:List UInt8):ext (A++(M++B)) (A.length,A.length+M.length)=M:=by unfold ext;rw [←List.append_assoc,List.take_append_of_le_length (by simp),List.take_of_length_le (by simp),List.drop_left]
theorem ext_split (l:List UInt8) (a b:Nat) (hab:a≤b):l=l.take a++(ext l (a,b)++l.drop b):=by
 have e1:l.drop b=(l.drop a).drop (b-a):=by rw [List.drop_drop];congr 1;omega
 have e2:ext l (a,b)=(l.drop a).take (b-a):=by unfold ext;rw [List.drop_take]
 rw [e1,e2,List.take_append_drop,List.take_append_drop]
theorem trim_ext (p:UInt8→Bool) (l:List UInt8) (a b:Nat) (hab:a<b) (hb:b≤l.length) (h1:∀j (h:j<l.length),j<a→p l[j]=true) (h2:∀j (h:j<l.length),b≤j→p l[j]=true)
 (h3:∀h:a<l.length,p l[a]=false) (h4:∀h:b-1<l.length,p l[b-1]=false):trimL p l=ext l (a,b):=by
 conv=>lhs;rw [ext_split l a b (by omega)]
 have hlen:=ext_length l (a,b) hb;have hlen':(ext l (a,b)).length=b-a:=hlen
 refine trimL_mid p _ _ _ ?_ ?_ (.inr ⟨?_,?_⟩)
 ·intro x hx;obtain ⟨k,hk,rfl⟩:=List.getElem_of_mem hx;rw [List.length_take] at hk;rw [List.getElem_take]
  exact h1 k (by omega) (by omega)
 ·intro x hx;obtain ⟨k,hk,rfl⟩:=List.getElem_of_mem hx;rw [List.length_drop] at hk;rw [List.getElem_drop]
  exact h2 _ (by omega) (by omega)
 ·refine ⟨l[a]'(by omega),(ext l (a,b)).drop 1,?_,h3 (by omega)⟩
  have:=List.drop_eq_getElem_cons (l:=ext l (a,b)) (i:=0) (by omega);rw [List.drop_zero] at this;rw [this]
  obtain ⟨q,e⟩:=ext_at l (a,b) 0 (by omega);rw [e];rfl
 ·refine ⟨l[b-1]'(by omega),(ext l (a,b)).take (b-a-1),?_,h4 (by omega)⟩
  have e3:=List.take_succ_eq_append_getElem (l:=ext l (a,b)) (i:=b-a-1) (by omega);rw [List.take_of_length_le (by omega)] at e3
  obtain ⟨q,e⟩:=ext_at l (a,b) (b-a-1) (by omega);have e5:l[(a,b).1+(b-a-1)]=l[b-1]'(by omega):=by congr 1;show a+(b-a-1)=b-1;omega
  rw [e,e5] at e3;exact e3
def pcs (p:UInt8→Bool) (strict:Bool):List UInt8→Nat→Nat→Option (List (Nat × Nat))
 | [],i,a=>if i=a then (if strict=true then none else some []) else some [(a,i)]
 | x::t,i,a=>if p x=true then (if i=a then (if strict=true then none else pcs p strict t (i+1) (i+1)) else (pcs p strict t (i+1) (i+1)).map ((a,i) :: ·)) else pcs p strict t (i+1) a
def sepB (bl:Bool) (x:UInt8):Bool:=x==32|| (bl&&x==9)
theorem sepB_true:sepB true=Txt.blank:=by funext x;simp [sepB,Txt.blank]
def spans (bl:Bool) (l:List UInt8):Option (List (Nat × Nat)):=pcs (sepB bl) (!bl) l 0 0
theorem pcs_congr {p q:UInt8→Bool} {st:Bool}:∀(t:List UInt8) (i a:Nat),(∀x∈t,p x=q x)→pcs p st t i a=pcs q st t i a
 | [],_,_,_=>rfl
 | x::t,i,a,h=>by
   have h1:=h x (by simp)
   have h2:=fun i a=>pcs_congr (p:=p) (q:=q) (st:=st) t i a fun y hy=>h y (by simp [hy]);simp only [pcs,h1,h2]
theorem pcs_loose {p:UInt8→Bool}:∀(t:List UInt8) (i a:Nat) (sp:List (Nat × Nat)),pcs p true t i a=some sp→pcs p false t i a=some sp
 | [],i,a,sp,h=>by
   simp only [pcs] at h ⊢;split at h
   ·cases h
   ·rename_i hi;rw [if_neg hi];exact h
 | x::t,i,a,sp,h=>by
   simp only [pcs] at h ⊢;split at h
   ·rename_i hp;rw [if_pos hp];split at h
    ·cases h
    ·rename_i hi;rw [if_neg hi];cases hq:pcs p true t (i+1) (i+1) with
     | none=>rw [hq] at h;cases h
     | some r=>
       rw [hq] at h;rw [pcs_loose t _ _ r hq];exact h
   ·rename_i hp;rw [if_neg hp];exact pcs_loose t _ _ sp h
theorem pcs_some {p:UInt8→Bool}:∀(t:List UInt8) (i a:Nat),∃sp,pcs p false t i a=some sp
 | [],i,a=>by
   simp only [pcs];by_cases h:i=a
   ·exact ⟨[],by rw [if_pos h];rfl⟩
   ·exact ⟨[(a,i)],by rw [if_neg h]⟩
 | x::t,i,a=>by
   obtain ⟨r1,h1⟩:=pcs_some (p:=p) t (i+1) (i+1);obtain ⟨r2,h2⟩:=pcs_some (p:=p) t (i+1) a;simp only [pcs,h1,h2];by_cases hp:p x=true
   ·by_cases h:i=a
    ·exact ⟨r1,by rw [if_pos hp,if_pos h];rfl⟩
    ·exact ⟨(a,i)::r1,by rw [if_pos hp,if_neg h];rfl⟩
   ·exact ⟨r2,by rw [if_neg hp]⟩
def Cov (p:UInt8→Bool) (l:List UInt8):Nat→List (Nat × Nat)→Prop
 | o,[]=>∀j (h:j<l.length),o≤j→p l[j]=true
 | o,x::r=>o≤x.1∧x.1<x.2∧x.2≤l.length∧(∀j (h:j<l.length),o≤j→j<x.1→p l[j]=true)∧(∀j (h:j<l.length),x.1≤j→j<x.2→p l[j]=false)∧(∀h:x.2<l.length,p l[x.2]=true)∧Cov p l x.2 r
def Tight (n:Nat):Nat→List (Nat × Nat)→Prop
 | _,[]=>False
 | o,[x]=>x.1=o∧x.2=n
 | o,x::y::r=>x.1=o∧Tight n (x.2+1) (y::r)
theorem Cov.from {p:UInt8→Bool} {l:List UInt8}:∀{o o':Nat} {sp:List (Nat × Nat)},o'≤o→(∀j (h:j<l.length),o'≤j→j<o→p l[j]=true)→Cov p l o sp→Cov p l o' sp
 | o,o',[],_,hg,hc=>fun j h hj=>by
   rcases Nat.lt_or_ge j o with h1 | h1
   ·exact hg j h hj h1
   ·exact hc j h h1
 | o,o',x::r,ho,hg,⟨h1,h2,h3,h4,h5,h6,h7⟩=>⟨by omega,h2,h3,fun j h hj hx=>by
    rcases Nat.lt_or_ge j o with h8 | h8
    ·exact hg j h hj h8
    ·exact h4 j h h8 hx,h5,h6,h7⟩
theorem pcs_cov {p:UInt8→Bool} {st:Bool} {l:List UInt8}:∀(t:List UInt8) (i a:Nat) (sp:List (Nat × Nat)),l.drop i=t→i≤l.length→a≤i→(∀j (h:j<l.length),a≤j→j<i→p l[j]=false)→pcs p st t i a=some sp→
 Cov p l a sp∧(st=true→Tight l.length a sp)
 | [],i,a,sp,hd,hi,ha,hw,h=>by
   have hil:i=l.length:=by have:=congrArg List.length hd;rw [List.length_drop] at this;simp at this;omega
   simp only [pcs] at h;by_cases hia:i=a
   ·rw [if_pos hia] at h;cases st with
    | true=>simp at h
    | false=>
      simp at h;subst h;refine ⟨fun j hj hj2=>by omega,fun h=>by cases h⟩
   ·rw [if_neg hia] at h;cases h;exact ⟨⟨Nat.le_refl _,by show a<i;omega,by show i≤_;omega,fun j _ h1 h2=>by exact absurd h2 (by show¬j<a;omega),fun j h h1 h2=>hw j h h1 h2,fun h=>by exact absurd h (by show¬i < _;omega),fun j h hj=>by exact absurd hj (by show¬i≤j;omega)⟩,fun _=>⟨rfl,hil⟩⟩
 | x::t,i,a,sp,hd,hi,ha,hw,h=>by
   have hil:i<l.length:=by have:=congrArg List.length hd;rw [List.length_drop] at this;simp at this;omega
   have hdc:=List.drop_eq_getElem_cons hil;rw [hd] at hdc;have hx:l[i]=x:=(List.cons.inj hdc).1.symm;have ht:l.drop (i+1)=t:=(List.cons.inj hdc).2.symm;have hxi:p x=true→∀j (hj:j<l.length),i≤j→j<i+1→p l[j]=true:=fun hp j hj h1 h2=>by
    obtain rfl:j=i:=by omega
    rw [hx];exact hp
   simp only [pcs] at h;by_cases hp:p x=true
   ·rw [if_pos hp] at h;by_cases hia:i=a
    ·rw [if_pos hia] at h;cases st with
     | true=>simp at h
     | false=>
       simp only [Bool.false_eq_true,if_false] at h;have ih:=pcs_cov t (i+1) (i+1) sp ht (by omega) (by omega) (fun j _ h1 h2=>by omega) h;exact ⟨ih.1.from (by omega) (fun j hj h1 h2=>hxi hp j hj (by omega) h2),fun h=>by cases h⟩
    ·rw [if_neg hia] at h;cases hq:pcs p st t (i+1) (i+1) with
     | none=>rw [hq] at h;cases h
     | some r=>
       rw [hq] at h;simp only [Option.map_some,Option.some.injEq] at h;subst h;have ih:=pcs_cov t (i+1) (i+1) r ht (by omega) (by omega) (fun j _ h1 h2=>by omega) hq
       have hc:=ih.1.from (o':=i) (by omega) (hxi hp);refine ⟨⟨Nat.le_refl _,by show a<i;omega,by show i≤_;omega,fun j _ h1 h2=>by exact absurd h2 (by show¬j<a;omega),fun j h h1 h2=>hw j h h1 h2,fun _=>by show p l[i]=true;rw [hx];exact hp,hc⟩,fun hs=>?_⟩;have h2:=ih.2 hs;cases r with
       | nil=>exact absurd h2 (by simp [Tight])
       | cons y r=>exact ⟨rfl,h2⟩
   ·rw [if_neg hp] at h;refine pcs_cov t (i+1) a sp ht (by omega) (by omega) (fun j hj h1 h2=>?_) h;rcases Nat.lt_or_ge j i with h3 | h3
    ·exact hw j hj h1 h3
    ·obtain rfl:j=i:=by omega
     rw [hx];simpa using hp
theorem Cov.at {p:UInt8→Bool} {l:List UInt8}:∀{o:Nat} {sp:List (Nat × Nat)},Cov p l o sp→∀k (hk:k<sp.length),o≤sp[k].1∧sp[k].1<sp[k].2∧sp[k].2≤l.length∧∀j (h:j<l.length),sp[k].1≤j→j<sp[k].2→p l[j]=false
 | o,x::r,⟨h1,h2,h3,h4,h5,h6,h7⟩,0,_=>⟨h1,h2,h3,h5⟩
 | o,x::r,⟨h1,h2,h3,h4,h5,h6,h7⟩,k+1,hk=>by
   have:=h7.at k (by simpa using hk);simp only [List.getElem_cons_succ];exact ⟨by omega,this.2⟩
theorem Cov.gap {p:UInt8→Bool} {l:List UInt8}:∀{o:Nat} {sp:List (Nat × Nat)},Cov p l o sp→∀k (hk:k+1<sp.length),sp[k].2<sp[k+1].1∧∀j (h:j<l.length),sp[k].2≤j→j<sp[k+1].1→p l[j]=true
 | o,x::y::r,⟨h1,h2,h3,h4,h5,h6,h7⟩,0,_=>by
   obtain ⟨g1,g2,g3,g4,g5,_,_⟩:=h7;simp only [List.getElem_cons_zero,List.getElem_cons_succ];refine ⟨?_,g4⟩;rcases Nat.lt_or_ge x.2 y.1 with h | h
   ·exact h
   ·have e:x.2=y.1:=by omega
    have f1:=h6 (by omega)
    have f2:=g5 x.2 (by omega) (by omega) (by omega);rw [f1] at f2;cases f2
 | o,x::r,⟨h1,h2,h3,h4,h5,h6,h7⟩,k+1,hk=>by
   simp only [List.getElem_cons_succ]
   exact h7.gap k (by simpa using hk)
 | o,[x],_,0,hk=>by simp at hk
theorem Cov.first {p:UInt8→Bool} {l:List UInt8} {o:Nat} {sp:List (Nat × Nat)} (h:Cov p l o sp) (h0:0<sp.length):∀j (h:j<l.length),o≤j→j<sp[0].1→p l[j]=true:=by
 cases sp with
 | nil=>simp at h0
 | cons x r=>exact h.2.2.2.1
theorem Cov.last {p:UInt8→Bool} {l:List UInt8}:∀{o:Nat} {sp:List (Nat × Nat)},Cov p l o sp→∀(h0:0<sp.length),∀j (h:j<l.length),(sp[sp.length-1]'(by omega)).2≤j→p l[j]=true
 | o,[x],⟨_,_,_,_,_,_,h7⟩,_,j,h,hj=>h7 j h hj
 | o,x::y::r,⟨_,_,_,_,_,_,h7⟩,_,j,h,hj=>by
   refine h7.last (by simp) j h ?_;simpa using hj
theorem Tight.at {n:Nat}:∀{o:Nat} {sp:List (Nat × Nat)},Tight n o sp→∃h:0<sp.length,sp[0].1=o∧(∀k (hk:k+1<sp.length),sp[k+1].1=sp[k].2+1)∧(sp[sp.length-1]'(by omega)).2=n
 | o,[x],⟨h1,h2⟩=>⟨by simp,h1,fun k hk=>by simp at hk,h2⟩
 | o,x::y::r,⟨h1,h2⟩=>by
   obtain ⟨g0,g1,g2,g3⟩:=h2.at;refine ⟨by simp,h1,fun k hk=>?_,by simpa using g3⟩;cases k with
   | zero=>simpa using g1
   | succ k=>have:=g2 k (by simpa using hk);exact this
theorem spans_cov {bl:Bool} {l:List UInt8} {sp:List (Nat × Nat)} (h:spans bl l=some sp):Cov (sepB bl) l 0 sp∧(bl=false→Tight l.length 0 sp):=by have:=pcs_cov (l:=l) l 0 0 sp rfl (Nat.zero_le _) (Nat.le_refl _) (fun j _ _ h=>by omega) h;exact ⟨this.1,fun hb=>this.2 (by rw [hb];rfl)⟩
theorem parts_pcs (c:UInt8) (p:UInt8→Bool) (hp:∀x,p x=true↔x=c):∀(t pre u:List UInt8),(∀x∈u,x≠c)→
 (pcs p true t (pre.length+u.length) pre.length=none∧ []∈parts c (u++t))∨∃sp,pcs p true t (pre.length+u.length) pre.length=some sp∧parts c (u++t)=sp.map (ext (pre++(u++t)))∧ []∉parts c (u++t)
 | [],pre,u,hu=>by
   have hn:c∉u:=fun h=>hu c h rfl;rw [List.append_nil,parts_none c u hn];simp only [pcs];by_cases h:u= []
   ·subst h;left;exact ⟨by simp,by simp⟩
   ·right;have hl:0<u.length:=List.length_pos_iff.2 h;refine ⟨[(pre.length,pre.length+u.length)],by rw [if_neg (by omega)],?_,by simp;exact fun e=>h e⟩;have:=ext_mid pre u [];rw [List.append_nil] at this;simp [this]
 | x::t,pre,u,hu=>by
   simp only [pcs];have hn:c∉u:=fun h=>hu c h rfl;by_cases hx:x=c
   ·subst hx;rw [if_pos ((hp x).2 rfl),parts_cut x u t hn];by_cases h:u= []
    ·subst h;left;exact ⟨by simp,by simp⟩
    ·have hl:0<u.length:=List.length_pos_iff.2 h;rw [if_neg (by omega)]
     have ih:=parts_pcs x p hp t (pre++(u ++ [x])) [] (by simp);have e1:(pre++(u ++ [x])).length=pre.length+u.length+1:=by simp;omega
     rw [List.length_nil,Nat.add_zero,List.nil_append,e1] at ih;rcases ih with ⟨h1,h2⟩ | ⟨sp,h1,h2,h3⟩
     ·left;exact ⟨by rw [h1];rfl,by simp [h2]⟩
     ·right;refine ⟨_,by rw [h1];rfl,?_,by simp [h3];exact fun e=>h e⟩;rw [List.map_cons,ext_mid pre u (x::t),h2]
      congr 2
      simp
   ·rw [if_neg (fun h=>hx ((hp x).1 h))]
    have ih:=parts_pcs c p hp t pre (u ++ [x]) (by
     intro y hy;rcases List.mem_append.1 hy with h | h
     ·exact hu y h
     ·rw [List.mem_singleton.1 h];exact hx)
    have e1:(u ++ [x])++t=u++x::t:=by simp
    rw [e1,List.length_append,List.length_singleton,←Nat.add_assoc] at ih;exact ih
def words (bl:Bool) (l:List UInt8):List (List UInt8):=if bl=true then ((spans true l).getD []).map (ext l) else parts 32 l
theorem words_spans (bl:Bool) (l:List UInt8):(spans bl l=none∧ []∈words bl l)∨∃sp,spans bl l=some sp∧words bl l=sp.map (ext l)∧ []∉words bl l:=by
 cases bl with
 | false=>
   have:=parts_pcs 32 (sepB false) (by intro x;simp [sepB]) l [] [] (by simp);simpa [words,spans] using this
 | true=>
   right;obtain ⟨sp,h⟩:=pcs_some (p:=sepB true) l 0 0;have hs:spans true l=some sp:=h;refine ⟨sp,hs,by simp [words,hs],?_⟩;rw [words,if_pos rfl,hs,Option.getD_some];intro hm;obtain ⟨x,hx,he⟩:=List.mem_map.1 hm;obtain ⟨k,hk,rfl⟩:=List.getElem_of_mem hx;obtain ⟨_,h2,h3,_⟩:=(spans_cov hs).1.at k hk;have:=ext_length l sp[k] h3;rw [he] at this;simp at this;omega
end Go.Proofs.YtimoakmcelocfaaGreat.Rq
namespace Go.Proofs.YtimoakmcelocfaaGreat.Rq
open Go.RowKit Base Txt
theorem ext_ext (l:List UInt8) (a b c d:Nat) (h:a+d≤b):ext (ext l (a,b)) (c,d)=ext l (a+c,a+d):=by unfold ext;dsimp only;rw [List.take_drop,List.drop_drop,List.take_take,Nat.min_eq_left (by omega)]
theorem Cov.mono {p:UInt8→Bool} {l:List UInt8} {o:Nat} {sp:List (Nat × Nat)} (h:Cov p l o sp):∀(k d:Nat) (hk:k+d<sp.length),(sp[k]'(by omega)).2≤sp[k+d].2
 | k,0,hk=>Nat.le_refl _
 | k,d+1,hk=>by
   have h1:=h.mono k d (by omega);have h2:=(h.gap (k+d) (by omega)).1;have h3:=(h.at (k+d+1) (by omega)).2.1;have e:sp[k+(d+1)]=sp[k+d+1]:=rfl;rw [e];omega
def between (bl:Bool) (l first last:List UInt8):List UInt8:=
 if bl=true then trimL Txt.blank (ext (trimL Txt.blank l) (first.length,(trimL Txt.blank l).length-last.length)) else ext l (first.length+1,l.length-last.length-1)
def fits (bl:Bool) (l first last:List UInt8):Prop:=
 if bl=true then first.length+last.length≤(trimL Txt.blank l).length else first.length+last.length+2≤l.length
theorem mid_core {bl:Bool} {l:List UInt8} {x0 x1 x2 x3:Nat × Nat} (a1:x0.1<x0.2) (a2:x0.2≤l.length) (a3:∀j (h:j<l.length),x0.1≤j→j<x0.2→sepB bl l[j]=false)
 (b1:x1.1<x1.2) (b3:∀j (h:j<l.length),x1.1≤j→j<x1.2→sepB bl l[j]=false) (c1:x2.1<x2.2) (c3:∀j (h:j<l.length),x2.1≤j→j<x2.2→sepB bl l[j]=false)
 (d1:x3.1<x3.2) (d2:x3.2≤l.length) (d3:∀j (h:j<l.length),x3.1≤j→j<x3.2→sepB bl l[j]=false) (e0:x0.2<x1.1) (e1:∀j (h:j<l.length),x0.2≤j→j<x1.1→sepB bl l[j]=true)
 (f0:x2.2<x3.1) (f1:∀j (h:j<l.length),x2.2≤j→j<x3.1→sepB bl l[j]=true) (g0:x1.2≤x2.2) (g1:∀j (h:j<l.length),j<x0.1→sepB bl l[j]=true) (g2:∀j (h:j<l.length),x3.2≤j→sepB bl l[j]=true)
 (t0:bl=false→x0.1=0∧x1.1=x0.2+1∧x3.1=x2.2+1∧x3.2=l.length) :
 between bl l (ext l x0) (ext l x3)=ext l (x1.1,x2.2)∧fits bl l (ext l x0) (ext l x3)∧x1.1<x2.2∧x2.2≤l.length:=by
 have l0:=ext_length l x0 a2;have l3:=ext_length l x3 d2;cases bl with
 | false=>
   obtain ⟨t1,t2,t3,t4⟩:=t0 rfl;simp only [between,fits,Bool.false_eq_true,if_false];rw [l0,l3];exact ⟨by congr 2<;>omega,by omega,by omega,by omega⟩
 | true=>
   have hs:trimL Txt.blank l=ext l (x0.1,x3.2):=by
    rw [←sepB_true]
    exact trim_ext _ l x0.1 x3.2 (by omega) (by omega) (fun j h hj=>g1 j h hj) (fun j h hj=>g2 j h hj) (fun h=>a3 x0.1 h (Nat.le_refl _) a1) (fun h=>d3 _ h (by omega) (by omega))
   have ls:=ext_length l (x0.1,x3.2) (by show x3.2≤_;omega);have ls':(ext l (x0.1,x3.2)).length=x3.2-x0.1:=ls;simp only [between,fits,if_true];rw [hs,l0,l3,ls'];have e2:ext (ext l (x0.1,x3.2)) (x0.2-x0.1,x3.2-x0.1-(x3.2-x3.1))=ext l (x0.2,x3.1):=by
    rw [ext_ext l _ _ _ _ (by omega)]
    congr 2<;>omega
   rw [e2]
   have lm:=ext_length l (x0.2,x3.1) (by show x3.1≤_;omega);have lm':(ext l (x0.2,x3.1)).length=x3.1-x0.2:=lm;have key:trimL Txt.blank (ext l (x0.2,x3.1))=ext (ext l (x0.2,x3.1)) (x1.1-x0.2,x2.2-x0.2):=by
    rw [←sepB_true];refine trim_ext _ _ _ _ (by omega) (by omega) ?_ ?_ ?_ ?_
    ·intro j h hj;obtain ⟨q,e⟩:=ext_at l _ j h
     rw [e];exact e1 _ q (by show x0.2≤x0.2+j;omega) (by show x0.2+j < _;omega)
    ·intro j h hj;obtain ⟨q,e⟩:=ext_at l _ j h
     rw [e];exact f1 _ q (by show _≤x0.2+j;omega) (by show x0.2+j < _;omega)
    ·intro h;obtain ⟨q,e⟩:=ext_at l _ _ h
     rw [e];exact b3 _ q (by show _≤x0.2+ _;omega) (by show x0.2+ _ < _;omega)
    ·intro h;obtain ⟨q,e⟩:=ext_at l _ _ h
     rw [e];exact c3 _ q (by show _≤x0.2+ _;omega) (by show x0.2+ _ < _;omega)
   rw [key,ext_ext l _ _ _ _ (by omega)];exact ⟨by congr 2<;>omega,by omega,by omega,by omega⟩
theorem between_mid {bl:Bool} {l:List UInt8} {sp:List (Nat × Nat)} (h:spans bl l=some sp) (h3:3≤sp.length) :
 between bl l (ext l sp[0]) (ext l sp[sp.length-1])=ext l (sp[1].1,sp[sp.length-2].2)∧fits bl l (ext l sp[0]) (ext l sp[sp.length-1])∧sp[1].1<sp[sp.length-2].2∧sp[sp.length-2].2≤l.length:=by
 obtain ⟨hc,ht⟩:=spans_cov h;obtain ⟨n,hn⟩:∃n,sp.length=n+3:=⟨sp.length-3,by omega⟩
 obtain ⟨a0,a1,a2,a3⟩:=hc.at 0 (by omega)
 obtain ⟨b0,b1,b2,b3⟩:=hc.at 1 (by omega)
 obtain ⟨c0,c1,c2,c3⟩:=hc.at (sp.length-2) (by omega)
 obtain ⟨d0,d1,d2,d3⟩:=hc.at (sp.length-1) (by omega)
 obtain ⟨e0,e1⟩:=hc.gap 0 (by omega)
 obtain ⟨f0,f1⟩:=hc.gap (sp.length-2) (by omega)
 have g0:=hc.mono 1 (sp.length-3) (by omega);have i1:∀h,sp[sp.length-2+1]'h=sp[sp.length-1]:=fun _=>by congr 1;omega
 have i2:∀h,sp[1+(sp.length-3)]'h=sp[sp.length-2]:=fun _=>by congr 1;omega
 simp only [i1] at f0 f1;rw [i2] at g0;refine mid_core a1 a2 a3 b1 b3 c1 c3 d1 d2 d3 e0 e1 f0 f1 g0 (fun j h hj=>hc.first (by omega) j h (Nat.zero_le _) hj) (hc.last (by omega)) fun hb=>?_;obtain ⟨_,q1,q2,q3⟩:=(ht hb).at
 have q4:=q2 (sp.length-2) (by omega);rw [i1] at q4;exact ⟨q1,q2 0 (by omega),q4,q3⟩
structure Cl where
 bl:Bool
 mi:Bool
 an:Bool
 nv:Bool
 sp:Bool
 co:Bool
def clOf (p:Nat):Cl:=⟨Qk.has p 3,Qk.has p 4,Qk.has p 5,Qk.has p 6,Qk.has p 7,Qk.has p 8⟩
def http1:List UInt8:= [72,84,84,80,47,49,46]
def knownV (c:Cl) (v:List UInt8):Bool:=decide (v.length=8)&&(Oct.digit ((v.getD 7 0).toNat:Int)&&(v.take 7==http1|| (c.an&&low (v.take 7)==low http1)))
def verL (c:Cl) (v:List UInt8):Option Nat:=
 if v= [] then some 0 else if knownV c v=true then (if v.getD 7 0=48 then some 0 else if (v.getD 7 0==49||c.mi)=true then some 1 else none) else none
def letsT (c:Cl) (x:UInt8):Bool:=Oct.visible (x.toNat:Int)|| (c.sp&&Oct.blank (x.toNat:Int)||c.co&&Oct.control (x.toNat:Int))
def tgtB (c:Cl) (t:List UInt8):Bool:=t.all (letsT c)
def tgtOk (c:Cl) (m t:List UInt8):Bool:=tgtB c t&&(c.sp||c.co|| (Tgt.parse m t).isSome)
def methOk (m:List UInt8):Bool:=decide (m.length≤32)&&Oct.allOf [1] m
def pick (c:Cl) (l:List UInt8):Option (List UInt8 × List UInt8 × List UInt8):=
 match spans c.bl l with
 | none=>none
 | some sp=>if (sp.length==3|| (decide (3<sp.length)&&c.sp))=true then some (ext l (sp.getD 0 (0,0)),ext l ((sp.getD 1 (0,0)).1,(sp.getD (sp.length-2) (0,0)).2),ext l (sp.getD (sp.length-1) (0,0)))
   else if (sp.length==2&&c.nv)=true then some (ext l (sp.getD 0 (0,0)),ext l (sp.getD 1 (0,0)),[]) else none
def badR:List UInt8 × List UInt8 × Nat × Nat:=([],[],0,400)
def verR:List UInt8 × List UInt8 × Nat × Nat:=([],[],0,505)
def request (c:Cl) (old:Bool) (l:List UInt8):List UInt8 × List UInt8 × Nat × Nat:=
 match pick c l with
 | none=>badR
 | some (m,t,v)=>if (methOk m&&tgtOk c m t)=true then
    match verL c v with
    | none=>verR
    | some k=>if (k==0 && !old)=true then verR else (m,t,k,0)
   else badR
theorem spans_pos {bl:Bool} {l:List UInt8} {sp:List (Nat × Nat)} (h:spans bl l=some sp) (k:Nat) (hk:k<sp.length):0<(ext l sp[k]).length∧(ext l sp[k]).length≤l.length:=by obtain ⟨_,h2,h3,_⟩:=(spans_cov h).1.at k hk;rw [ext_length l _ h3];omega
theorem getD_at (sp:List (Nat × Nat)) (k:Nat) (h:k<sp.length):sp.getD k (0,0)=sp[k]:=by simp [List.getD,List.getElem?_eq_getElem h]
theorem pick_some {c:Cl} {l m t v:List UInt8} (h:pick c l=some (m,t,v)):0<m.length∧m.length≤l.length∧0<t.length∧t.length≤l.length∧v.length≤l.length:=by
 unfold pick at h;cases hs:spans c.bl l with
 | none=>rw [hs] at h;cases h
 | some sp=>
   rw [hs] at h;dsimp only at h;split at h
   ·rename_i h3;have hn:3≤sp.length:=by
     simp only [Bool.or_eq_true,beq_iff_eq,Bool.and_eq_true,decide_eq_true_eq] at h3;omega
    rw [getD_at sp 0 (by omega),getD_at sp 1 (by omega),getD_at sp _ (by omega),getD_at sp _ (by omega)] at h;obtain ⟨_,_,q1,q2⟩:=between_mid hs hn
    have p0:=spans_pos hs 0 (by omega)
    have p1:=spans_pos hs (sp.length-1) (by omega);have p2:=ext_length l (sp[1].1,sp[sp.length-2].2) q2;simp only [Option.some.injEq,Prod.mk.injEq] at h;obtain ⟨rfl,rfl,rfl⟩:=h;have p3:(ext l (sp[1].1,sp[sp.length-2].2)).length=sp[sp.length-2].2-sp[1].1:=p2;exact ⟨p0.1,p0.2,by omega,by omega,p1.2⟩
   ·split at h
    ·rename_i h2;have hn:sp.length=2:=by
      simp only [Bool.and_eq_true,beq_iff_eq] at h2;exact h2.1
     rw [getD_at sp 0 (by omega),getD_at sp 1 (by omega)] at h
     have p0:=spans_pos hs 0 (by omega)
     have p1:=spans_pos hs 1 (by omega);simp only [Option.some.injEq,Prod.mk.injEq] at h;obtain ⟨rfl,rfl,rfl⟩:=h;exact ⟨p0.1,p0.2,p1.1,p1.2,by simp⟩
    ·cases h
end Go.Proofs.YtimoakmcelocfaaGreat.Rq
namespace Go.Proofs.YtimoakmcelocfaaGreat.Rq
open Go.RowKit Base Txt
theorem first_no (s:ByteArray) (h:0<s.size):s.toList.isEmpty=false:=by
 have e:s.toList=s.data.toList:=Lib.toList_data s;rw [e,List.isEmpty_eq_false_iff];intro h0;have:s.size=0:=by rw [←len,h0];rfl
 omega
theorem len8 (s:ByteArray) (h:s.size=8):(s.data.toList.getD 7 0)=s[7]∧(s.extract 0 7).data.toList=s.data.toList.take 7:=by refine ⟨?_,by rw [Lib.extract_data];simp⟩;rw [List.getD,List.getElem?_eq_getElem (by rw [len];omega),Option.getD_some];rfl
theorem eq_facts (m:ByteArray) (l:List UInt8) (b:Bool) (h:decide (m.data.toList=l)=b):(m.toList==l)=b∧(m.toList==(ByteArray.mk l.toArray).toList)=b:=by
 have h1:(m.toList==l)=b:=by rw [←h,Lib.toList_data,Bool.eq_iff_iff,beq_iff_eq,decide_eq_true_eq]
 exact ⟨h1,by rw [show (ByteArray.mk l.toArray).toList=l from Lib.toList_data _];exact h1⟩
section code
set_option maxHeartbeats 1000000
attribute [local go_sem] Base.some_undef
end code
end Go.Proofs.YtimoakmcelocfaaGreat.Rq
namespace Go.Proofs.YtimoakmcelocfaaGreat.Rq
open Go.RowKit Base Txt
def runeP (r:Nat):Bool:=decide (r<128)&&Oct.blank (r:Int)
section code
set_option maxHeartbeats 1000000
attribute [local go_sem] Base.some_undef
end code
end Go.Proofs.YtimoakmcelocfaaGreat.Rq
namespace Go.Proofs.YtimoakmcelocfaaGreat.Rq
open Go.RowKit Base Txt
theorem pcs_le {p:UInt8→Bool} {st:Bool}:∀(t:List UInt8) (i a:Nat) (sp:List (Nat × Nat)),pcs p st t i a=some sp→sp.length≤t.length+1
 | [],i,a,sp,h=>by
   simp only [pcs] at h;split at h
   ·split at h
    ·cases h
    ·cases h;simp
   ·cases h;simp
 | x::t,i,a,sp,h=>by
   simp only [pcs] at h;split at h
   ·split at h
    ·split at h
     ·cases h
     ·have:=pcs_le t _ _ sp h;simp;omega
    ·cases hq:pcs p st t (i+1) (i+1) with
     | none=>rw [hq] at h;cases h
     | some r=>
       rw [hq] at h;cases h;have:=pcs_le t _ _ r hq;simp;omega
   ·have:=pcs_le t _ _ sp h;simp;omega
def pv:Option (List UInt8 × List UInt8 × List UInt8)→Value
 | none=>.tuple #[.string ⟨#[]⟩,.string ⟨#[]⟩,.string ⟨#[]⟩,.bool false]
 | some (m,t,v)=>.tuple #[.string (ba m),.string (ba t),.string (ba v),.bool true]
section code
set_option maxHeartbeats 1000000
attribute [local go_sem] Base.some_undef
end code
end Go.Proofs.YtimoakmcelocfaaGreat.Rq
namespace Go.Proofs.YtimoakmcelocfaaGreat.Rq
open Go.RowKit Base Txt
theorem verL_01 {c:Cl} {v:List UInt8} {k:Nat} (h:verL c v=some k):k=0∨k=1:=by
 unfold verL at h;split at h
 ·cases h;exact .inl rfl
 ·split at h
  ·split at h
   ·cases h;exact .inl rfl
   ·split at h
    ·cases h;exact .inr rfl
    ·cases h
  ·cases h
theorem all_take (q:UInt8→Bool) (l:List UInt8) (k:Nat) (h:k<l.length) (h1:(l.take k).all q=true) (h2:q l[k]=true):(l.take (k+1)).all q=true:=by rw [List.take_succ_eq_append_getElem h,List.all_append,h1];simp [h2]
theorem all_not (q:UInt8→Bool) (l:List UInt8) (k:Nat) (h:k<l.length) (h2:q l[k]=false):l.all q=false:=by rw [List.all_eq_false];exact ⟨l[k],List.getElem_mem h,by rw [h2];decide⟩
def rv (r:List UInt8 × List UInt8 × Nat × Nat):Value:=.tuple #[.string (ba r.1),.string (ba r.2.1),.int .i64 (r.2.2.1:Nat),.int .i64 (r.2.2.2:Nat)]
section code
set_option maxHeartbeats 1000000
attribute [local go_sem] Base.some_undef
def lineOf (m t:ByteArray):ByteArray:=((((m ++⟨#[32]⟩)++t) ++⟨#[32]⟩) ++⟨#[72,84,84,80,47,49,46]⟩) ++⟨#[49]⟩
end code
end Go.Proofs.YtimoakmcelocfaaGreat.Rq
namespace Go.Proofs.YtimoakmcelocfaaGreat.Rq
open Go.RowKit Base Txt
def c0:Cl:=⟨false,false,false,false,false,false⟩
theorem clOf_zero:clOf 0=c0:=by simp only [clOf,c0,Cl.mk.injEq];decide
theorem join3 {l a b d:List UInt8} (h:parts 32 l= [a,b,d]):l=a++32::(b++32::d):=by
 have key:∀l:List UInt8,∀x r,parts 32 l=x::r→(r= []∧l=x)∨∃t,l=x++32::t∧parts 32 t=r:=by
  intro l
  induction l with
  | nil=>intro x r h;rw [parts] at h;cases h;exact .inl ⟨rfl,rfl⟩
  | cons c l ih=>
    intro x r h;rw [parts] at h;by_cases hc:c=32
    ·rw [if_pos hc] at h;cases h;exact .inr ⟨l,by rw [hc];rfl,rfl⟩
    ·rw [if_neg hc] at h;cases hp:parts 32 l with
     | nil=>have:=parts_length 32 l;rw [hp] at this;simp at this
     | cons y s=>
       rw [hp] at h;simp only [List.cons.injEq] at h;obtain ⟨h1,h2⟩:=h;rcases ih y s hp with ⟨g1,g2⟩ | ⟨t,g1,g2⟩
       ·exact .inl ⟨by rw [←h2,g1],by rw [←h1,g2]⟩
       ·exact .inr ⟨t,by rw [←h1,g1];rfl,by rw [g2,h2]⟩
 rcases key l a [b,d] h with ⟨h1,_⟩ | ⟨t,h1,h2⟩
 ·cases h1
 ·rcases key t b [d] h2 with ⟨g1,_⟩ | ⟨u,g1,g2⟩
  ·cases g1
  ·rcases key u d [] g2 with ⟨_,k2⟩ | ⟨v,k1,k2⟩
   ·rw [h1,g1,k2]
   ·have:=parts_length 32 v;rw [k2] at this;simp at this
theorem pick_c0 {l m t v:List UInt8} (h:pick c0 l=some (m,t,v)):(∃sp,spans false l=some sp∧sp.length=3∧m=ext l (sp.getD 0 (0,0))∧t=ext l ((sp.getD 1 (0,0)).1,(sp.getD 1 (0,0)).2)∧v=ext l (sp.getD 2 (0,0)))∧l=m++32::(t++32::v):=by
 unfold pick at h;cases hs:spans c0.bl l with
 | none=>rw [hs] at h;cases h
 | some sp=>
   have hs':spans false l=some sp:=hs;rw [hs] at h;dsimp only at h;have h3:sp.length=3:=by
    by_cases hc:(sp.length==3|| (decide (3<sp.length)&&c0.sp))=true
    ·simpa [c0] using hc
    ·rw [if_neg hc,if_neg (by simp [c0])] at h;cases h
   rw [if_pos (by rw [h3];rfl),h3] at h;simp only [Option.some.injEq,Prod.mk.injEq] at h;obtain ⟨rfl,rfl,rfl⟩:=h;refine ⟨⟨sp,hs',h3,rfl,rfl,rfl⟩,?_⟩;have hw:words false l=sp.map (ext l):=by
    rcases words_spans false l with ⟨g,_⟩ | ⟨sp',g1,g2,_⟩
    ·rw [g] at hs';cases hs'
    ·rw [g1] at hs';cases hs';exact g2
   match sp,h3 with
   | [x,y,z],_=>exact join3 hw
theorem token_table:∀k:Fin 256,Oct.oneOf [1] (k.val:Int)=true→k.val≠9:=by decide +kernel
theorem token_tab (x:UInt8) (h:Oct.oneOf [1] (x.toNat:Int)=true):x≠9:=fun e=>by have:=token_table ⟨x.toNat,x.toNat_lt⟩ h;rw [e] at this;exact this rfl
theorem visible_tab (x:UInt8) (h:letsT c0 x=true):x≠9:=fun e=>by rw [e] at h;revert h;decide
theorem lets_all (c:Cl) (x:UInt8) (h:letsT c0 x=true):letsT c x=true:=by
 have:Oct.visible (x.toNat:Int)=true:=by simpa [letsT,c0] using h
 unfold letsT;rw [this];rfl
theorem known_shape {v:List UInt8} (h:knownV c0 v=true):∃d:UInt8,v=http1 ++ [d]∧Oct.digit (d.toNat:Int)=true∧v.getD 7 0=d:=by
 simp only [knownV,Bool.and_eq_true,decide_eq_true_eq,Bool.or_eq_true,beq_iff_eq,c0,Bool.false_and,Bool.false_eq_true,or_false] at h;obtain ⟨h1,h2,h3⟩:=h
 match v,h1 with
 | [a0,a1,a2,a3,a4,a5,a6,d],_=>
   refine ⟨d,?_,h2,rfl⟩;have e: [a0,a1,a2,a3,a4,a5,a6]=http1:=h3;rw [←e];rfl
theorem extends_all {old:Bool} {l m t:List UInt8} {k:Nat} (h:request c0 old l=(m,t,k,0)):(∀c,request c old l=(m,t,k,0))∧(k=1→l=m++32::(t ++ [32,72,84,84,80,47,49,46,49])):=by
 unfold request at h;cases hp:pick c0 l with
 | none=>rw [hp] at h;simp [badR] at h
 | some x=>
   obtain ⟨m',t',v⟩:=x;rw [hp] at h;dsimp only at h;by_cases hok:(methOk m'&&tgtOk c0 m' t')=true
   ·rw [if_pos hok] at h;cases hv:verL c0 v with
    | none=>rw [hv] at h;simp [verR] at h
    | some j=>
      rw [hv] at h;dsimp only at h;by_cases ho:(j==0 && !old)=true
      ·rw [if_pos ho] at h;simp [verR] at h
      ·rw [if_neg ho] at h;simp only [Prod.mk.injEq,and_true] at h;obtain ⟨rfl,rfl,rfl⟩:=h;obtain ⟨⟨sp,hs,h3,e1,e2,e3⟩,hl⟩:=pick_c0 hp
       have hz:=(pick_some hp);simp only [Bool.and_eq_true] at hok;obtain ⟨hm,ht⟩:=hok;have ht':=ht;unfold tgtOk at ht';simp only [Bool.and_eq_true,c0,Bool.or_self,Bool.false_or] at ht';obtain ⟨ht1,ht2⟩:=ht';have hvne:v≠ []:=by
        intro e
        have hc:=(spans_cov hs).1.at 2 (by omega);have hlen:=ext_length l (sp[2]'(by omega)) hc.2.2.1;rw [getD_at sp 2 (by omega)] at e3;rw [←e3,e] at hlen;have:=hc.2.1;simp at hlen;omega
       have hkn:knownV c0 v=true:=by
        unfold verL at hv;rw [if_neg hvne] at hv;by_cases q:knownV c0 v=true
        ·exact q
        ·rw [if_neg q] at hv;cases hv
       obtain ⟨d,hvd,hdig,h7⟩:=known_shape hkn;have hall:∀x∈l,x≠9:=by
        intro x hx;rw [hl] at hx;simp only [List.mem_append,List.mem_cons] at hx;rcases hx with hx | rfl | hx | rfl | hx
        ·refine token_tab x ?_;unfold methOk Oct.allOf at hm;simp only [Bool.and_eq_true,List.all_eq_true] at hm;exact hm.2 x hx
        ·decide
        ·refine visible_tab x ?_;unfold tgtB at ht1;rw [List.all_eq_true] at ht1;exact ht1 x hx
        ·decide
        ·rw [hvd] at hx;rcases List.mem_append.1 hx with hx | hx
         ·intro e;rw [e] at hx;revert hx;decide
         ·intro e;rw [List.mem_singleton.1 hx] at e;rw [e] at hdig;revert hdig;decide
       have hsp:∀bl,spans bl l=some sp:=by
        intro bl;cases bl with
        | false=>exact hs
        | true=>
          have h1:pcs (sepB false) true l 0 0=some sp:=hs;have h2:=pcs_loose l 0 0 sp h1
          have h3:pcs (sepB false) false l 0 0=pcs (sepB true) false l 0 0:=pcs_congr l 0 0 (fun x hx=>by have:=hall x hx;simp [sepB,this])
          rw [h3] at h2;exact h2
       refine ⟨fun c=>?_,fun hk=>?_⟩
       ·have hpc:pick c l=some (m',t',v):=by
         unfold pick;rw [hsp c.bl];dsimp only;rw [if_pos (by rw [h3];rfl),h3,e1,e2,e3]
        have htc:tgtOk c m' t'=true:=by
         unfold tgtOk;rw [ht2,Bool.or_true,Bool.and_true];unfold tgtB at ht1 ⊢;rw [List.all_eq_true] at ht1 ⊢
         exact fun x hx=>lets_all c x (ht1 x hx)
        have hkc:knownV c v=true:=by unfold knownV at hkn ⊢;simp only [Bool.and_eq_true,Bool.or_eq_true,c0,Bool.false_eq_true,false_and,or_false] at hkn ⊢;exact ⟨hkn.1,hkn.2.1,.inl hkn.2.2⟩
        have hvc:verL c v=some j:=by
         unfold verL at hv ⊢;rw [if_neg hvne,if_pos hkn] at hv;rw [if_neg hvne,if_pos hkc];by_cases q:v.getD 7 0=48
         ·rw [if_pos q] at hv ⊢;exact hv
         ·rw [if_neg q] at hv ⊢;by_cases q2:(v.getD 7 0==49)=true
          ·rw [q2,Bool.true_or,if_pos rfl] at hv ⊢;exact hv
          ·rw [if_neg (by simp [c0];simpa using q2)] at hv;cases hv
        unfold request;rw [hpc];dsimp only;rw [hm,htc,if_pos (by rfl),hvc];dsimp only;rw [if_neg ho]
       ·subst hk;rw [hl];have hd:d=49:=by
         unfold verL at hv;rw [if_neg hvne,if_pos hkn,h7] at hv;by_cases q:d=48
         ·rw [if_pos q] at hv;simp at hv
         ·rw [if_neg q] at hv;by_cases q2:(d==49||c0.mi)=true
          ·simpa [c0] using q2
          ·rw [if_neg q2] at hv;cases hv
        rw [hvd,hd];simp [http1]
   ·rw [if_neg hok] at h;simp [badR] at h
def tailA:List UInt8:= [47,97,32,72,84,84,80,47,49,46,49]
end Go.Proofs.YtimoakmcelocfaaGreat.Rq
namespace Go.Proofs.YtimoakmcelocfaaGreat.Fd
open Go.RowKit Base Txt Tgt
structure Cl where
 sp:Bool
 nb:Bool
 nc:Bool
 nn:Bool
 vb:Bool
def clOf (p:Nat):Cl:=⟨Qk.has p 9,Qk.has p 10,Qk.has p 11,Qk.has p 12,Qk.has p 14⟩
def c0:Cl:=⟨false,false,false,false,false⟩
theorem clOf_zero:clOf 0=c0:=by simp only [clOf,c0,Cl.mk.injEq];decide
def trimEnd (l:List UInt8):List UInt8:=(l.reverse.dropWhile Txt.blank).reverse
abbrev Ans:=Option (Option (List UInt8 × List UInt8))
def out (b:Bool):Ans:=if b=true then some none else none
def nameL (c:Cl) (n:List UInt8):List UInt8:=if c.sp=true then trimEnd n else n
def goodN (c:Cl) (n:List UInt8):Bool:=c.nb||Oct.allOf [1] n
def goodV (c:Cl) (v:List UInt8):Bool:=c.vb||Oct.allOf [6] v
def read (c:Cl) (n v:List UInt8):Ans:=if n= [] then out c.nn else if (goodN c n&&goodV c v)=true then some (some (n,v)) else none
def parse (c:Cl) (l:List UInt8):Ans:=if (cutAt 58 l).2.2=true then read c (nameL c (cutAt 58 l).1) (trimL Txt.blank (cutAt 58 l).2.1) else out c.nc
def goes (p:Nat) (l:List UInt8):Bool:=Qk.has p 13&&(!l.isEmpty&&Txt.blank (l.headD 0))
def right (n v:List UInt8):Bool:=!n.isEmpty&&(Oct.allOf [1] n&&(Oct.allOf [6] v&&decide (trimL Txt.blank v=v)))
def line (f:Fld):List UInt8:=f.1.data.toList++58::32::(f.2.data.toList ++ [13,10])
def put (fs:List Fld):List UInt8:=fs.flatMap line
theorem trimEnd_le (l:List UInt8):(trimEnd l).length≤l.length:=by unfold trimEnd;have:=dropWhile_le Txt.blank l.reverse;simpa using this
theorem nameL_le (c:Cl) (l:List UInt8):(nameL c l).length≤l.length:=by
 unfold nameL;split
 ·exact trimEnd_le l
 ·exact Nat.le_refl _
theorem trimEnd_snoc (l:List UInt8) (x:UInt8) (h:Txt.blank x=true):trimEnd (l ++ [x])=trimEnd l:=by unfold trimEnd;rw [List.reverse_append,List.reverse_singleton,List.singleton_append,List.dropWhile_cons,if_pos h]
theorem trimEnd_stop (l:List UInt8) (x:UInt8) (h:Txt.blank x=false):trimEnd (l ++ [x])=l ++ [x]:=by unfold trimEnd;rw [List.reverse_append,List.reverse_singleton,List.singleton_append,dropWhile_stop h];simp
theorem token_tab:∀k:Fin 256,Oct.oneOf [1] (k.val:Int)=true→k.val≠58∧k.val≠13∧k.val≠10∧Txt.blank (UInt8.ofNat k.val)=false:=by decide +kernel
theorem token_of {x:UInt8} (h:Oct.oneOf [1] (x.toNat:Int)=true):x≠58∧x≠13∧x≠10∧Txt.blank x=false:=by
 obtain ⟨a,b,c,d⟩:=token_tab ⟨x.toNat,x.toNat_lt⟩ h;refine ⟨?_,?_,?_,by simpa using d⟩
 ·rintro rfl;exact a rfl
 ·rintro rfl;exact b rfl
 ·rintro rfl;exact c rfl
theorem all_of {ks:List Int} {l:List UInt8} (h:Oct.allOf ks l=true):∀x∈l,Oct.oneOf ks (x.toNat:Int)=true:=by simpa [Oct.allOf,List.all_eq_true] using h
theorem trimEnd_token {n:List UInt8} (h:Oct.allOf [1] n=true):trimEnd n=n:=by
 rcases List.eq_nil_or_concat n with rfl | ⟨m,x,rfl⟩
 ·rfl
 ·rw [List.concat_eq_append] at *;exact trimEnd_stop m x (token_of (all_of h x (by simp))).2.2.2
theorem nameL_token (c:Cl) {n:List UInt8} (h:Oct.allOf [1] n=true):nameL c n=n:=by
 unfold nameL;split
 ·exact trimEnd_token h
 ·rfl
theorem right_iff {n v:List UInt8}:right n v=true↔n≠ []∧Oct.allOf [1] n=true∧Oct.allOf [6] v=true∧trimL Txt.blank v=v:=by cases n<;>simp [right]
theorem parse_strict {l n v:List UInt8} (h:parse c0 l=some (some (n,v))):(cutAt 58 l).2.2=true∧(cutAt 58 l).1=n∧trimL Txt.blank (cutAt 58 l).2.1=v∧n≠ []∧Oct.allOf [1] n=true∧Oct.allOf [6] v=true:=by
 unfold parse at h;split at h
 ·rename_i h1;rw [show nameL c0 (cutAt 58 l).1=(cutAt 58 l).1 from rfl] at h;unfold read at h;split at h
  ·exact absurd h (by simp [out,c0])
  ·rename_i h2;split at h
   ·rename_i h3;obtain ⟨rfl,rfl⟩:(cutAt 58 l).1=n∧trimL Txt.blank (cutAt 58 l).2.1=v:=by simpa using h
    have h4:Oct.allOf [1] (cutAt 58 l).1=true∧Oct.allOf [6] (trimL Txt.blank (cutAt 58 l).2.1)=true:=by simpa [goodN,goodV,c0] using h3
    exact ⟨h1,rfl,rfl,h2,h4.1,h4.2⟩
   ·exact absurd h (by simp)
 ·exact absurd h (by simp [out,c0])
theorem parse_zero (l:List UInt8):parse c0 l=none∨∃n v,parse c0 l=some (some (n,v)):=by
 rcases h:parse c0 l with _ | _ | ⟨n,v⟩
 ·exact .inl rfl
 ·exfalso;unfold parse at h;split at h
  ·unfold read at h;split at h
   ·simp [out,c0] at h
   ·split at h<;>simp at h
  ·simp [out,c0] at h
 ·exact .inr ⟨n,v,rfl⟩
theorem dropWhile_head (p:UInt8→Bool):∀l:List UInt8,l.dropWhile p= []∨∃x r,l.dropWhile p=x::r∧p x=false
 | []=>.inl rfl
 | x::l=>by
   rw [List.dropWhile_cons];split
   ·exact dropWhile_head p l
   ·rename_i hx;exact .inr ⟨x,l,rfl,by simpa using hx⟩
theorem dropWhile_idem (p:UInt8→Bool) (l:List UInt8):(l.dropWhile p).dropWhile p=l.dropWhile p:=by
 rcases dropWhile_head p l with h | ⟨x,r,h,hx⟩
 ·rw [h];rfl
 ·rw [h,dropWhile_stop hx]
theorem trimL_ahead (p:UInt8→Bool) (l:List UInt8):(trimL p l).dropWhile p=trimL p l:=by
 have key:∀m:List UInt8,m.dropWhile p=m→((m.reverse.dropWhile p).reverse).dropWhile p=(m.reverse.dropWhile p).reverse:=by
  intro m hm;rcases dropWhile_head p m.reverse with h | ⟨x,r,h,hx⟩
  ·rw [h];rfl
  ·cases m with
   | nil=>simp at h
   | cons y t=>
     have hy:p y=false:=by
      by_cases hp:p y=true
      ·exfalso;rw [List.dropWhile_cons,if_pos hp] at hm;have h1:=dropWhile_le p t;rw [hm] at h1;simp at h1;omega
      ·simpa using hp
     have hs:(x::r) <:+(y::t).reverse:=by rw [←h];exact List.dropWhile_suffix p
     have hpre:(x::r).reverse <+:(y::t):=by have:=List.reverse_prefix.2 hs;simpa using this
     rw [h];obtain ⟨z,hz⟩:=hpre;cases hrev:(x::r).reverse with
     | nil=>simp at hrev
     | cons a b=>
       rw [hrev,List.cons_append] at hz;have:a=y:=by injection hz
       subst this;exact dropWhile_stop hy
 exact key _ (dropWhile_idem p l)
theorem trimL_idem (p:UInt8→Bool) (l:List UInt8):trimL p (trimL p l)=trimL p l:=by show (((trimL p l).dropWhile p).reverse.dropWhile p).reverse=trimL p l;rw [trimL_ahead];unfold trimL;rw [List.reverse_reverse,dropWhile_idem]
theorem parse_all {l n v:List UInt8} (h:parse c0 l=some (some (n,v))):(∀c,parse c l=some (some (n,v)))∧right n v=true:=by
 obtain ⟨h1,h2,h3,h4,h5,h6⟩:=parse_strict h;refine ⟨fun c=>?_,?_⟩
 ·unfold parse;rw [if_pos h1,h2,h3,nameL_token c h5];unfold read;rw [if_neg h4,if_pos (by simp [goodN,goodV,h5,h6])]
 ·rw [right_iff];exact ⟨h4,h5,h6,by rw [←h3];exact trimL_idem _ _⟩
theorem parse_le {c:Cl} {l n v:List UInt8} (h:parse c l=some (some (n,v))):n.length≤l.length∧v.length≤l.length:=by
 have hc:=cutAt_le 58 l;unfold parse at h;split at h
 ·unfold read at h;split at h
  ·unfold out at h;split at h<;>simp at h
  ·split at h
   ·obtain ⟨rfl,rfl⟩:nameL c (cutAt 58 l).1=n∧trimL Txt.blank (cutAt 58 l).2.1=v:=by simpa using h
    exact ⟨Nat.le_trans (nameL_le _ _) hc.1,Nat.le_trans (trimL_length _ _) hc.2⟩
   ·simp at h
 ·unfold out at h;split at h<;>simp at h
abbrev E0:ByteArray:=⟨#[]⟩
abbrev fv (n v:ByteArray):Value:=.agg #[.string n,.string v]
def rv:Ans→Value
 | none=>.tuple #[fv E0 E0,.bool false,.int .i64 400]
 | some none=>.tuple #[fv E0 E0,.bool false,.int .i64 0]
 | some (some (n,v))=>.tuple #[fv (ba n) (ba v),.bool true,.int .i64 0]
def rn:Ans→ByteArray
 | some (some (n,_))=>ba n
 | _=>E0
def rvl:Ans→ByteArray
 | some (some (_,v))=>ba v
 | _=>E0
def rok:Ans→Bool
 | some (some _)=>true
 | _=>false
def rerr:Ans→Int
 | none=>400
 | _=>0
end Go.Proofs.YtimoakmcelocfaaGreat.Fd
namespace Go.Proofs.YtimoakmcelocfaaGreat.Fd
open Go.RowKit Base Txt Tgt
theorem first_no (s:ByteArray) (h:0<s.size):s.toList.isEmpty=false:=by
 have e:s.toList=s.data.toList:=Lib.toList_data s;rw [e,List.isEmpty_eq_false_iff];intro h0;have:s.size=0:=by rw [←len,h0];rfl
 omega
theorem ba_pos {n:List UInt8} (h:n≠ []):0<(ba n).size:=by rw [Txt.ba_size];exact List.length_pos_iff.2 h
structure Fb (w:World) (g:Nat) (n v:ByteArray):Prop where
 c0:w.cell? ⟨g,0,none⟩=some (.string n)
 c1:w.cell? ⟨g,1,none⟩=some (.string v)
 z0:w.frozen? ⟨g,0,none⟩=false
 z1:w.frozen? ⟨g,1,none⟩=false
theorem Fb.below {w w':World} {g:Nat} {n v:ByteArray} (H:Fb w g n v) (hg:g<w.heap.size) (hb:Below w.heap.size w w'):Fb w' g n v:=
 ⟨(hb.cell (p:=⟨g,0,none⟩) hg).trans H.c0,(hb.cell (p:=⟨g,1,none⟩) hg).trans H.c1,(hb.frozen (p:=⟨g,0,none⟩) hg).trans H.z0,(hb.frozen (p:=⟨g,1,none⟩) hg).trans H.z1⟩
theorem Fb.new (w:World) (t:TypeId) (n v:ByteArray):Fb (w.alloc (.cells #[.string n,.string v] t)) w.heap.size n v:=by
 have hh:=heap_alloc_new w (.cells #[.string n,.string v] t);have c:∀k u,(#[Value.string n,.string v]:Array Value)[k]?=some u→(w.alloc (.cells #[.string n,.string v] t)).cell? ⟨w.heap.size,k,none⟩=some u:=
  fun k u e=>(cell_of_row (w.alloc _) w.heap.size k _ t (0,0) hh).trans e
 have z:∀k,(w.alloc (.cells #[.string n,.string v] t)).frozen? ⟨w.heap.size,k,none⟩=false:=fun k=>by unfold World.frozen?;simp only [hh];simp
 exact ⟨c 0 _ rfl,c 1 _ rfl,z 0,z 1⟩
theorem Fb.put {B:Nat} {w0 w:World} {g:Nat} {n v:ByteArray} (H:Fb w g n v) (hb:Below B w0 w) (hg:B≤g) (n' v':ByteArray) :
 ∃W,(w.setCell ⟨g,0,none⟩ (.string n')).setCell ⟨g,1,none⟩ (.string v')=W∧Fb W g n' v'∧Below B w0 W:=by
 obtain ⟨c0,c1,z0,z1⟩:=H;refine ⟨_,rfl,⟨?_,?_,?_,?_⟩,(hb.setCell hg _).setCell hg _⟩;all_goals go_simp
theorem Fb.other {w:World} {g:Nat} {n v:ByteArray} (H:Fb w g n v) (g' o:Nat) (u:Value) (n2:¬g'=g):Fb (w.setCell ⟨g',o,none⟩ u) g n v:=by obtain ⟨c0,c1,z0,z1⟩:=H;refine ⟨?_,?_,?_,?_⟩;all_goals go_simp
structure Keep (w0:World) (n v:ByteArray) (w:World):Prop where
 f:Fb w w0.heap.size n v
 g:w0.heap.size<w.heap.size
 b:Below w0.heap.size w0 w
theorem Keep.new (w:World) (t:TypeId) (n v:ByteArray):Keep w n v (w.alloc (.cells #[.string n,.string v] t)):=
 ⟨Fb.new w t n v,by simp,(Below.refl _ _).alloc (Nat.le_refl _) _⟩
theorem Keep.step {w0 w w':World} {n v:ByteArray} (h:Keep w0 n v w) (hb:Below w.heap.size w w'):Keep w0 n v w':=
 ⟨h.f.below h.g hb,Nat.lt_of_lt_of_le h.g hb.size,Base.below_step h.b hb⟩
structure Two (w0:World) (n v:ByteArray) (t:Nat) (N V:ByteArray) (w:World):Prop where
 k:Keep w0 n v w
 f:Fb w t N V
 ne:¬t=w0.heap.size
 lt:t<w.heap.size
 ge:w0.heap.size≤t
theorem Two.new {w0 w:World} {n v:ByteArray} (h:Keep w0 n v w) (ty:TypeId) (N V:ByteArray):Two w0 n v w.heap.size N V (w.alloc (.cells #[.string N,.string V] ty)):=
 ⟨h.step ((Below.refl _ _).alloc (Nat.le_refl _) _),Fb.new w ty N V,by have:=h.g;omega,by simp,by have:=h.g;omega⟩
theorem Two.step {w0 w w':World} {n v N V:ByteArray} {t:Nat} (h:Two w0 n v t N V w) (hb:Below w.heap.size w w'):Two w0 n v t N V w':=
 ⟨h.k.step hb,h.f.below h.lt hb,h.ne,Nat.lt_of_lt_of_le h.lt hb.size,h.ge⟩
theorem Two.drew {w0 w:World} {n v N V:ByteArray} {t:Nat} (h:Two w0 n v t N V w) (m:Nat):Two w0 n v t N V (w.drewN m):=h.step (Base.below_drewN (Below.refl _ _) m)
section code
set_option maxHeartbeats 4000000
set_option maxRecDepth 100000
attribute [local go_sem] Base.some_undef
end code
end Go.Proofs.YtimoakmcelocfaaGreat.Fd
namespace Go.Proofs.YtimoakmcelocfaaGreat.Fd
open Go.RowKit Base Txt Tgt
section code
set_option maxHeartbeats 4000000
set_option maxRecDepth 100000
attribute [local go_sem] Base.some_undef
end code
end Go.Proofs.YtimoakmcelocfaaGreat.Fd
namespace Go.Proofs.YtimoakmcelocfaaGreat.Fd
open Go.RowKit Base Txt Tgt
def joined (v s:List UInt8):List UInt8:=v++32::trimL Txt.blank s
section code
set_option maxHeartbeats 4000000
set_option maxRecDepth 100000
attribute [local go_sem] Base.some_undef
end code
end Go.Proofs.YtimoakmcelocfaaGreat.Fd
namespace Go.Proofs.YtimoakmcelocfaaGreat.Fd
open Go.RowKit Base Txt Tgt
section code
set_option maxHeartbeats 4000000
set_option maxRecDepth 100000
attribute [local go_sem] Base.some_undef
end code
end Go.Proofs.YtimoakmcelocfaaGreat.Fd
namespace Go.Proofs.YtimoakmcelocfaaGreat.Txt
open Go.RowKit Base Oct
theorem find_snoc (fs:List Fld) (name:ByteArray) (k:Nat) (h:k<fs.length):find (fs.take (k+1)) name=find (fs.take k) name++(if same (fs[k]?.getD dflt).1 name=true then [(fs[k]?.getD dflt).2] else []):=by
 rw [flds_snoc fs k h];unfold find;rw [List.filter_append,List.map_append]
 congr 1
 generalize fs[k]?.getD dflt=f;by_cases hs:same f.1 name=true<;>simp [hs]
theorem find_le (fs:List Fld) (name:ByteArray):(find fs name).length≤fs.length:=by unfold find;rw [List.length_map];exact List.length_filter_le _ _
section code
set_option maxHeartbeats 1000000
end code
end Go.Proofs.YtimoakmcelocfaaGreat.Txt
namespace Go.Proofs.YtimoakmcelocfaaGreat.Frm
open Go.RowKit Base Txt
abbrev hostN:ByteArray:=⟨#[72,111,115,116]⟩
abbrev teN:ByteArray:=⟨#[84,114,97,110,115,102,101,114,45,69,110,99,111,100,105,110,103]⟩
abbrev clN:ByteArray:=⟨#[67,111,110,116,101,110,116,45,76,101,110,103,116,104]⟩
abbrev chunked:ByteArray:=⟨#[99,104,117,110,107,101,100]⟩
abbrev blanksOf:ByteArray:=⟨#[11,12,32,9]⟩
def hostsV (nh mh:Bool) (minor:Int) (h:List ByteArray):Int:=
 if ((decide (minor=1)&&(decide (h.length=0) && !nh))|| (decide (1<h.length) && !mh))=true then 400
 else if (h.all fun v=>Tgt.hostB v.data.toList)=true then 0 else 400
def isC (tb:Bool) (v:ByteArray):Bool:=same (if tb=true then trimOf v blanksOf else v) chunked
def onlyLast:List Bool→Bool
 | []=>false
 | [b]=>b
 | b::c::r=>!b&&onlyLast (c::r)
def coding (tb tl:Bool) (vs:List ByteArray):Bool:=onlyLast ((list vs).map (isC tb))&&(decide ((list vs).length=1)||tl)
def alikeL (l:List ByteArray):Bool:=l.all fun v=>decide (v=l.headD ByteArray.empty)
def counts (lc lf ll:Bool) (l:List ByteArray):Option ByteArray:=
 if (decide (l.length=1)|| ((lc&&alikeL l)||lf))=true then some (l.headD ByteArray.empty)
 else if ll=true then some (l.getLastD ByteArray.empty) else none
def unplus (lp:Bool) (s:ByteArray):ByteArray:=if (lp&&decide (s.data.toList.head?=some 43))=true then ba (s.data.toList.drop 1) else s
def numV (r:Int × Int):Int × Int:=if r.2=22 then (0,400) else if r.2=23 then (0,413) else (r.1,0)
def lengthV (lp lc lf ll:Bool) (most:Int) (vs:List ByteArray):Int × Int:=
 if vs= [] then (0,0) else
 match counts lc lf ll (if lc=true then list vs else vs) with
 | none=>(0,400)
 | some s=>numV (Num.readOf 10 most (unplus lp s).data.toList)
def winsV (td ti tw lw:Bool) (minor:Int) (nte ncl:Nat) (cod:Bool):Bool × Int:=
 if nte=0 then (false,0)
 else if (decide (minor=0) && !td)=true then (false,400)
 else if cod=false then (false,if ti=true then 0 else 501)
 else if (decide (0<ncl) && !tw)=true then (false,if lw=true then 0 else 400)
 else (true,0)
def fixedV (r:Int × Int):Int × Int × Int:=if r.2=0 then (1,r.1,0) else (0,0,r.2)
def bodyV (hs:Int) (ch:Bool) (wins:Bool × Int) (len:Int × Int):Int × Int × Int:=
 if hs≠0 then (0,0,hs) else if wins.2≠0 then (0,0,wins.2)
 else if wins.1=true then (if ch=true then (2,0,0) else (0,0,501)) else fixedV len
structure Cl where
 nh:Bool
 mh:Bool
 tb:Bool
 tl:Bool
 ti:Bool
 td:Bool
 tw:Bool
 lw:Bool
 lp:Bool
 lc:Bool
 lf:Bool
 ll:Bool
def clOf (p:Nat):Cl:=⟨Qk.has p 15,Qk.has p 16,Qk.has p 17,Qk.has p 18,Qk.has p 19,Qk.has p 20,Qk.has p 21,Qk.has p 22,Qk.has p 23,Qk.has p 24,Qk.has p 25,Qk.has p 26⟩
def decideV (c:Cl) (ch:Bool) (body minor:Int) (fs:List Fld):Int × Int × Int:=
 bodyV (hostsV c.nh c.mh minor (find fs hostN)) ch (winsV c.td c.ti c.tw c.lw minor (find fs teN).length (find fs clN).length (coding c.tb c.tl (find fs teN)))
  (lengthV c.lp c.lc c.lf c.ll body (find fs clN))
theorem only_count:∀bs:List Bool,(decide (bs.countP id=1)&&bs.getLastD false)=onlyLast bs
 | []=>rfl
 | [b]=>by cases b<;>rfl
 | b::c::r=>by
   have ih:=only_count (c::r);have hl:(b::c::r).getLastD false=(c::r).getLastD false:=by rw [List.getLastD_cons,List.getLastD_cons,List.getLastD_cons]
   rw [hl];cases b with
   | false=>
     rw [List.countP_cons_of_neg (by decide),ih];rfl
   | true=>
     rw [List.countP_cons_of_pos (by rfl)];show _=false;by_cases h:(c::r).countP id=0
     ·have h0:=List.countP_eq_zero.1 h;have hm:(c::r).getLastD false=false:=by
       rw [List.getLastD_eq_getLast?,List.getLast?_eq_some_getLast (List.cons_ne_nil c r)]
       have:=h0 _ (List.getLast_mem (List.cons_ne_nil c r));simpa using this
      rw [hm,Bool.and_false]
     ·rw [decide_eq_false (by omega),Bool.false_and]
theorem list_mem_size (vs:List ByteArray) (x:ByteArray) (hx:x∈list vs):x.size≤room vs:=by
 unfold list at hx;obtain ⟨v,hv,hx⟩:=List.mem_flatMap.1 hx;unfold partsOf at hx;obtain ⟨l,hl,rfl⟩:=List.mem_map.1 hx
 have h1:=trim_size Txt.blank (ba l);have h2:=parts_size 44 v.data.toList l hl;have h3:=room_mem vs v hv;rw [ba_size] at h1;rw [len] at h2;show (trimB Txt.blank (ba l)).size≤_;omega
theorem list_ne_nil (vs:List ByteArray) (h:vs≠ []):0<(list vs).length:=by
 cases vs with
 | nil=>exact absurd rfl h
 | cons v r=>
   have:(list (v::r)).length=(partsOf v).length+(list r).length:=by simp [list]
   have h2:0<(partsOf v).length:=by unfold partsOf;rw [List.length_map,parts_length];omega
   omega
theorem lower_chunked (x:ByteArray):decide (lower x=chunked)=same x chunked:=by
 have h:=same_iff x chunked;rw [show lower chunked=chunked by decide +kernel] at h;cases hs:same x chunked with
 | true=>exact decide_eq_true (h.1 hs)
 | false=>exact decide_eq_false fun e=>by rw [h.2 e] at hs;cases hs
theorem find_sizes (fs:List Fld) (name:ByteArray) (B:Nat) (h:∀f∈fs,f.2.size≤B):∀v∈find fs name,v.size≤B:=by intro v hv;unfold find at hv;obtain ⟨f,hf,rfl⟩:=List.mem_map.1 hv;exact h f (List.mem_filter.1 hf).1
theorem room_le:∀(vs:List ByteArray) (B:Nat),(∀v∈vs,v.size≤B)→room vs≤vs.length*(B+1)
 | [],_,_=>Nat.zero_le _
 | v::r,B,h=>by
   have ih:=room_le r B fun x hx=>h x (List.mem_cons_of_mem _ hx)
   have h1:=h v (List.mem_cons_self ..);have:room (v::r)=v.size+1+room r:=by simp [room]
   rw [this,List.length_cons,Nat.succ_mul];omega
end Go.Proofs.YtimoakmcelocfaaGreat.Frm
namespace Go.Proofs.YtimoakmcelocfaaGreat.Frm
open Go.RowKit Base Txt
structure Gb (w:World) (g:Nat) (k l:Int):Prop where
 c0:w.cell? ⟨g,0,none⟩=some (.int .i64 k)
 c1:w.cell? ⟨g,1,none⟩=some (.int .i64 l)
 z0:w.frozen? ⟨g,0,none⟩=false
 z1:w.frozen? ⟨g,1,none⟩=false
theorem Gb.new (w:World) (t:TypeId) (k l:Int):Gb (w.alloc (.cells #[.int .i64 k,.int .i64 l] t)) w.heap.size k l:=by
 have hh:=heap_alloc_new w (.cells #[.int .i64 k,.int .i64 l] t);have c:∀j u,(#[Value.int .i64 k,.int .i64 l]:Array Value)[j]?=some u→(w.alloc (.cells #[.int .i64 k,.int .i64 l] t)).cell? ⟨w.heap.size,j,none⟩=some u:=
  fun j u e=>(cell_of_row (w.alloc _) w.heap.size j _ t (0,0) hh).trans e
 have z:∀j,(w.alloc (.cells #[.int .i64 k,.int .i64 l] t)).frozen? ⟨w.heap.size,j,none⟩=false:=fun j=>by unfold World.frozen?;simp only [hh];simp
 exact ⟨c 0 _ rfl,c 1 _ rfl,z 0,z 1⟩
theorem Gb.below {w w':World} {g:Nat} {k l:Int} (h:Gb w g k l) (hg:g<w.heap.size) (hb:Below w.heap.size w w'):Gb w' g k l:=
 ⟨(hb.cell (p:=⟨g,0,none⟩) hg).trans h.c0,(hb.cell (p:=⟨g,1,none⟩) hg).trans h.c1,(hb.frozen (p:=⟨g,0,none⟩) hg).trans h.z0,(hb.frozen (p:=⟨g,1,none⟩) hg).trans h.z1⟩
theorem Gb.put {B:Nat} {w0 w:World} {g:Nat} {k l:Int} (H:Gb w g k l) (hb:Below B w0 w) (hg:B≤g) (k' l':Int) :
 ∃W,(w.setCell ⟨g,0,none⟩ (.int .i64 k')).setCell ⟨g,1,none⟩ (.int .i64 l')=W∧Gb W g k' l'∧Below B w0 W:=by
 obtain ⟨c0,c1,z0,z1⟩:=H;refine ⟨_,rfl,⟨?_,?_,?_,?_⟩,(hb.setCell hg _).setCell hg _⟩;all_goals go_simp
abbrev fr (k l:Int):Value:=.agg #[.int .i64 k,.int .i64 l]
section code
set_option maxHeartbeats 2000000
attribute [local go_sem] Base.some_undef
end code
end Go.Proofs.YtimoakmcelocfaaGreat.Frm
namespace Go.Proofs.YtimoakmcelocfaaGreat.Frm
open Go.RowKit Base Txt
theorem take_all_snoc {α:Type} (P:α→Bool) (d:α) (l:List α) (k:Nat) (h:k<l.length):(l.take (k+1)).all P=((l.take k).all P&&P (l[k]?.getD d)):=by rw [List.take_succ_eq_append_getElem h,List.all_append,List.getElem?_eq_getElem h];simp
theorem all_of_miss {α:Type} (P:α→Bool) (d:α) (l:List α) (k:Nat) (h:k<l.length) (hp:P (l[k]?.getD d)=false):l.all P=false:=by rw [List.getElem?_eq_getElem h] at hp;exact List.all_eq_false.2 ⟨_,List.getElem_mem h,by simpa using hp⟩
theorem hosts_none (nh mh:Bool):hostsV nh mh 1 []=if nh=true then 0 else 400:=by cases nh<;>cases mh<;>rfl
theorem hosts_loop (nh mh:Bool) (minor:Int) (h:List ByteArray) (h1:¬(minor=1∧h.length=0)) (h2:h.length≤1∨mh=true):hostsV nh mh minor h=if (h.all fun v=>Tgt.hostB v.data.toList)=true then 0 else 400:=by
 unfold hostsV;rw [if_neg];simp only [Bool.or_eq_true,Bool.and_eq_true,decide_eq_true_eq,Bool.not_eq_true']
 rintro (⟨a,b,_⟩ | ⟨a,b⟩)
 ·exact h1 ⟨a,b⟩
 ·rcases h2 with h2 | h2
  ·omega
  ·rw [h2] at b;cases b
theorem hosts_many (nh:Bool) (minor:Int) (h:List ByteArray) (h2:1<h.length):hostsV nh false minor h=400:=by unfold hostsV;rw [if_pos];rw [decide_eq_true h2];simp
theorem counts_mem (lc lf ll:Bool) (l:List ByteArray) (s:ByteArray) (h:counts lc lf ll l=some s) (hl:l≠ []):s∈l:=by
 unfold counts at h;have hd:l.headD ByteArray.empty∈l:=by
  cases l with
  | nil=>exact absurd rfl hl
  | cons x r=>exact List.mem_cons_self ..
 have hz:l.getLastD ByteArray.empty∈l:=by rw [List.getLastD_eq_getLast?,List.getLast?_eq_some_getLast hl];exact List.getLast_mem hl
 split at h
 ·cases h;exact hd
 ·split at h
  ·cases h;exact hz
  ·cases h
def ansC:Option ByteArray→Value
 | none=>.tuple #[.string ByteArray.empty,.bool false]
 | some s=>.tuple #[.string s,.bool true]
theorem unplus_size (lp:Bool) (s:ByteArray):(unplus lp s).size≤s.size:=by
 unfold unplus;split
 ·rw [ba_size,List.length_drop,len];omega
 ·exact Nat.le_refl _
section code
set_option maxHeartbeats 4000000
set_option maxRecDepth 10000
attribute [local go_sem] Base.some_undef
end code
end Go.Proofs.YtimoakmcelocfaaGreat.Frm
namespace Go.Proofs.YtimoakmcelocfaaGreat.Frm
open Go.RowKit Base Txt
theorem strs_ends {w:World} {a:Option Addr} {K:Nat} {l:List ByteArray} (h:Strs w a (K+1) l) :
 ∃bl off,a=some ⟨bl,off,none⟩∧w.cell? ⟨bl,off,none⟩=some (.string (l.headD ByteArray.empty))∧w.cell? ⟨bl,off+K,none⟩=some (.string (l.getLastD ByteArray.empty)):=by
 obtain ⟨bl,off,rfl,_,hc⟩:=h.2 (by omega)
 have h0:=hc 0 (by omega)
 have hK:=hc K (by omega);rw [Nat.add_zero] at h0;have hl:=h.1;refine ⟨bl,off,rfl,?_,?_⟩
 ·rw [h0];cases l<;>rfl
 ·rw [hK,List.getLastD_eq_getLast?,List.getLast?_eq_getElem?,hl];rfl
structure Kp (w0:World) (ch:Bool) (body:Int) (w:World):Prop where
 q3:w.cell? ⟨w0.heap.size,3,none⟩=some (.int .i64 body)
 q8:w.cell? ⟨w0.heap.size,8,none⟩=some (.bool ch)
 f:Gb w (w0.heap.size+1) 0 0
 lt:w0.heap.size+1<w.heap.size
 b:Below w0.heap.size w0 w
theorem Kp.new (w:World) (t t2:TypeId) (x0 x1 x2 x3 x4 x5 x6 x7:Int) (c d:Bool) :
 Kp w c x3 ((w.alloc (.cells #[.int .i64 x0,.int .i64 x1,.int .i64 x2,.int .i64 x3,.int .i64 x4,.int .i64 x5,.int .i64 x6,.int .i64 x7,.bool c,.bool d] t)).alloc (.cells #[.int .i64 0,.int .i64 0] t2)):=by
 have hA:=Bnd.At.new w t x0 x1 x2 x3 x4 x5 x6 x7 c d;have hb:Below (w.alloc (.cells #[.int .i64 x0,.int .i64 x1,.int .i64 x2,.int .i64 x3,.int .i64 x4,.int .i64 x5,.int .i64 x6,.int .i64 x7,.bool c,.bool d] t)).heap.size _ _:=
  (Below.refl _ _).alloc (Nat.le_refl _) (.cells #[.int .i64 0,.int .i64 0] t2)
 have hB:=hA.below (by simp) hb;have hG:=Gb.new (w.alloc (.cells #[.int .i64 x0,.int .i64 x1,.int .i64 x2,.int .i64 x3,.int .i64 x4,.int .i64 x5,.int .i64 x6,.int .i64 x7,.bool c,.bool d] t)) t2 0 0;rw [show (w.alloc (.cells #[.int .i64 x0,.int .i64 x1,.int .i64 x2,.int .i64 x3,.int .i64 x4,.int .i64 x5,.int .i64 x6,.int .i64 x7,.bool c,.bool d] t)).heap.size=w.heap.size+1 by simp] at hG;exact ⟨hB.q3,hB.q8,hG,by simp,((Below.refl _ _).alloc (Nat.le_refl _) _).alloc (by simp) _⟩
theorem Kp.step {w0 w w':World} {ch:Bool} {body:Int} (h:Kp w0 ch body w) (hb:Below w.heap.size w w'):Kp w0 ch body w':=
 ⟨(hb.cell (p:=⟨w0.heap.size,3,none⟩) (by have:=h.lt;simp;omega)).trans h.q3,(hb.cell (p:=⟨w0.heap.size,8,none⟩) (by have:=h.lt;simp;omega)).trans h.q8,
  h.f.below h.lt hb,Nat.lt_of_lt_of_le h.lt hb.size,Base.below_step h.b hb⟩
section code
set_option maxHeartbeats 4000000
set_option maxRecDepth 10000
attribute [local go_sem] Base.some_undef
end code
end Go.Proofs.YtimoakmcelocfaaGreat.Frm
namespace Go.Proofs.YtimoakmcelocfaaGreat.Frm
open Go.RowKit Base Txt
section code
set_option maxHeartbeats 4000000
set_option maxRecDepth 10000
attribute [local go_sem] Base.some_undef
end code
end Go.Proofs.YtimoakmcelocfaaGreat.Frm
namespace Go.Proofs.YtimoakmcelocfaaGreat.Chk
open Go.RowKit Base Txt
def extL (l:List UInt8):List UInt8:=if (Tgt.cutAt 59 l).2.2=true then 59::(Tgt.cutAt 59 l).2.1 else []
def marked (l:List UInt8):Bool:=decide (2≤l.length)&&same (ba (l.take 2)) ⟨#[48,120]⟩
def bare (l:List UInt8):List UInt8:=if marked l=true then l.drop 2 else l
def pieceL (hex blanks:Bool) (z:List UInt8):List UInt8:=if hex=true then bare (if blanks=true then trimL Txt.blank z else z) else (if blanks=true then trimL Txt.blank z else z)
def sizeL (hex blanks:Bool) (l:List UInt8):List UInt8:=pieceL hex blanks (Tgt.cutAt 59 l).1
def numV (r:Int × Int):Int × Int:=if r.2=22 then (0,400) else if r.2=23 then (0,413) else (r.1,0)
def isx (ext:Int) (l:List UInt8):Bool:=l.isEmpty|| (decide ((l.length:Int)≤ext)&&Oct.allOf [6] l)
def sizeV (hex blanks:Bool) (ext body:Int) (l:List UInt8):Int × Int:=
 if isx ext (extL l)=true then numV (Num.readOf 16 body (sizeL hex blanks l)) else (0,400)
def chunkL (c:List UInt8):List UInt8:=if c= [] then [] else Num.spell 16 c.length ++ [13,10]++c ++ [13,10]
def putL (cs:List (List UInt8)):List UInt8:=cs.flatMap chunkL ++ [48,13,10]
theorem ext_split (l:List UInt8):l=(Tgt.cutAt 59 l).1++extL l:=by
 unfold extL;rcases Tgt.cut_cases 59 l with h | ⟨a,r,h,hn⟩
 ·rw [Tgt.cutAt_none 59 l h];simp
 ·rw [h,Tgt.cutAt_app 59 a r hn];simp
theorem ext_le (l:List UInt8):(extL l).length≤l.length∧(Tgt.cutAt 59 l).1.length≤l.length:=by have h:=congrArg List.length (ext_split l);rw [List.length_append] at h;omega
theorem isx_eq (ext:Int) (h:0≤ext) (l:List UInt8):isx ext l= !(decide (ext<(l.length:Int)) || !Oct.allOf [6] l):=by
 unfold isx;cases l with
 | nil=>simp [Oct.allOf,h]
 | cons a t=>
   rw [List.isEmpty_cons,Bool.false_or,Bool.not_or,Bool.not_not]
   congr 1
   rw [Bool.eq_iff_iff];simp
theorem trimL_le (p:UInt8→Bool) (l:List UInt8):(trimL p l).length≤l.length:=by unfold trimL;rw [List.length_reverse];have h1:=(List.dropWhile_sublist p (l:=(l.dropWhile p).reverse)).length_le;have h2:=(List.dropWhile_sublist p (l:=l)).length_le;rw [List.length_reverse] at h1;omega
theorem bare_le (l:List UInt8):(bare l).length≤l.length:=by
 unfold bare;split
 ·rw [List.length_drop];omega
 ·exact Nat.le_refl _
theorem piece_le (hex blanks:Bool) (l:List UInt8):(pieceL hex blanks l).length≤l.length:=by
 have h1:=trimL_le Txt.blank l
 have h2:=bare_le (trimL Txt.blank l);have h3:=bare_le l;cases hex<;>cases blanks<;>simp only [pieceL,if_true,if_false,Bool.false_eq_true]<;>omega
structure BB (x0 x1 x2 x3 x4 x5 x6 x7:Int) (ch od:Bool) (w0:World) (g:Nat) (w:World):Prop where
 f:Bnd.At w g x0 x1 x2 x3 x4 x5 x6 x7 ch od
 lt:g<w.heap.size
 b:Below w0.heap.size w0 w
section
variable {x0 x1 x2 x3 x4 x5 x6 x7:Int} {ch od:Bool} {w0 w w':World} {g:Nat}
theorem BB.new (hb:Below w0.heap.size w0 w) (t:TypeId) (x0 x1 x2 x3 x4 x5 x6 x7:Int) (ch od:Bool) :
 BB x0 x1 x2 x3 x4 x5 x6 x7 ch od w0 w.heap.size (w.alloc (.cells #[.int .i64 x0,.int .i64 x1,.int .i64 x2,.int .i64 x3,.int .i64 x4,.int .i64 x5,.int .i64 x6,.int .i64 x7,.bool ch,.bool od] t)):=
 ⟨Bnd.At.new w t x0 x1 x2 x3 x4 x5 x6 x7 ch od,by simp,hb.alloc hb.size _⟩
theorem BB.step (h:BB x0 x1 x2 x3 x4 x5 x6 x7 ch od w0 g w) (hb:Below w.heap.size w w'):BB x0 x1 x2 x3 x4 x5 x6 x7 ch od w0 g w':=
 ⟨h.f.below h.lt hb,Nat.lt_of_lt_of_le h.lt hb.size,Base.below_step h.b hb⟩
theorem BB.alloc (h:BB x0 x1 x2 x3 x4 x5 x6 x7 ch od w0 g w) (o:Obj):BB x0 x1 x2 x3 x4 x5 x6 x7 ch od w0 g (w.alloc o):=h.step ((Below.refl _ _).alloc (Nat.le_refl _) _)
theorem BB.drew (h:BB x0 x1 x2 x3 x4 x5 x6 x7 ch od w0 g w) (m:Nat):BB x0 x1 x2 x3 x4 x5 x6 x7 ch od w0 g (w.drewN m):=h.step (Base.below_drewN (Below.refl _ _) m)
end
end Go.Proofs.YtimoakmcelocfaaGreat.Chk
namespace Go.Proofs.YtimoakmcelocfaaGreat.Chk
open Go.RowKit Base Txt
section code
set_option maxHeartbeats 8000000
set_option maxRecDepth 100000
attribute [local go_sem] Base.some_undef
end code
end Go.Proofs.YtimoakmcelocfaaGreat.Chk
namespace Go.Proofs.YtimoakmcelocfaaGreat.Chk
open Go.RowKit Base Txt
abbrev byteV (c:UInt8):Value:=.int .u8 (c.toNat:Int)
def vals (l:List UInt8):List Value:=l.map byteV
def bodyL (ls:List (List UInt8)) (k:Nat):List UInt8:=(ls.take k).flatMap chunkL
section code
set_option maxHeartbeats 8000000
set_option maxRecDepth 100000
attribute [local go_sem] Base.some_undef
end code
end Go.Proofs.YtimoakmcelocfaaGreat.Chk
