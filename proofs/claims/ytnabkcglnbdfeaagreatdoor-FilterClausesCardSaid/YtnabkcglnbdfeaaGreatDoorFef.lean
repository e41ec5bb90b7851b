import Derived.Test.YtnabkcglnbdfeaaGreatDoorFee
namespace Go.Proofs.YtnabkcglnbdfeaaGreatDoor.Rq
open Go.RowKit Base Txt
def ext (l:List UInt8) (x:Nat × Nat):List UInt8:=(l.take x.2).drop x.1
theorem ext_length (l:List UInt8) (x:Nat × Nat) (h:x.2≤l.length):(ext l x).length=x.2-x.1:=by unfold ext;rw [List.length_drop,List.length_take,Nat.min_eq_left h]
theorem ext_at (l:List UInt8) (x:Nat × Nat) (k:Nat) (hk:k<(ext l x).length):∃h:x.1+k<l.length,(ext l x)[k]=l[x.1+k]:=by
 have h1:x.1+k<l.length:=by unfold ext at hk;rw [List.length_drop,List.length_take] at hk;omega
 refine ⟨h1,?_⟩;simp only [ext,List.getElem_drop,List.getElem_take]
theorem ext_ba (s:ByteArray) (a b:Nat):ba (ext s.data.toList (a,b))=s.extract a b:=by apply ba_ext;rw [Lib.extract_data,ext];show (s.data.toList.take b).drop a= _;rw [List.drop_take]
theorem ext_mid (A M B:List UInt8):ext (A++(M++B)) (A.length,A.length+M.length)=M:=by unfold ext;rw [←List.append_assoc,List.take_append_of_le_length (by simp),List.take_of_length_le (by simp),List.drop_left]
theorem ext_split (l:List UInt8) (a b:Nat) (hab:a≤b):l=l.take a++(ext l (a,b)++l.drop b):=by
 have e1:l.drop b=(l.drop a).drop (b-a):=by rw [List.drop_drop];congr 1;omega
 have e2:ext l (a,b)=(l.drop a).take (b-a):=by unfold ext;rw [List.drop_take]
 rw [e1,e2,List.take_append_drop,List.take_append_drop]
theorem trim_ext (p:UInt8→Bool) (l:List UInt8) (a b:Nat) (hab:a<b) (hb:b≤l.length) (h1:∀j (h:j<l.length),j<a→p l[j]=true) (h2:∀j (h:j<l.length),b≤j→p l[j]=true)
 (h3:∀h:a<l.length,p l[a]=false) (h4:∀h:b-1<l.length,p l[b-1]=false):trimL p l=ext l (a,b):=by
 conv=>lhs;rw [ext_split l a b (by omega)]
 have hlen:=ext_length l (a,b) hb;have hlen':(ext l (a,b)).length=b-a:=hlen
 refine trimL_mid p _ _ _ ?_ ?_ (.inr ⟨?_,?_⟩)
 ·intro x hx;obtain ⟨k,hk,rfl⟩:=List.getElem_of_mem hx;rw [List.length_take] at hk;rw [List.getElem_take]
  exact h1 k (by omega) (by omega)
 ·intro x hx;obtain ⟨k,hk,rfl⟩:=List.getElem_of_mem hx;rw [List.length_drop] at hk;rw [List.getElem_drop]
  exact h2 _ (by omega) (by omega)
 ·refine ⟨l[a]'(by omega),(ext l (a,b)).drop 1,?_,h3 (by omega)⟩
  have:=List.drop_eq_getElem_cons (l:=ext l (a,b)) (i:=0) (by omega);rw [List.drop_zero] at this;rw [this]
  obtain ⟨q,e⟩:=ext_at l (a,b) 0 (by omega);rw [e];rfl
 ·refine ⟨l[b-1]'(by omega),(ext l (a,b)).take (b-a-1),?_,h4 (by omega)⟩
  have e3:=List.take_succ_eq_append_getElem (l:=ext l (a,b)) (i:=b-a-1) (by omega);rw [List.take_of_length_le (by omega)] at e3
  obtain ⟨q,e⟩:=ext_at l (a,b) (b-a-1) (by omega);have e5:l[(a,b).1+(b-a-1)]=l[b-1]'(by omega):=by congr 1;show a+(b-a-1)=b-1;omega
  rw [e,e5] at e3;exact e3
def pcs (p:UInt8→Bool) (strict:Bool):List UInt8→Nat→Nat→Option (List (Nat × Nat))
 | [],i,a=>if i=a then (if strict=true then none else some []) else some [(a,i)]
 | x::t,i,a=>if p x=true then (if i=a then (if strict=true then none else pcs p strict t (i+1) (i+1)) else (pcs p strict t (i+1) (i+1)).map ((a,i) :: ·)) else pcs p strict t (i+1) a
def sepB (bl:Bool) (x:UInt8):Bool:=x==32|| (bl&&x==9)
theorem sepB_true:sepB true=Txt.blank:=by funext x;simp [sepB,Txt.blank]
def spans (bl:Bool) (l:List UInt8):Option (List (Nat × Nat)):=pcs (sepB bl) (!bl) l 0 0
theorem pcs_congr {p q:UInt8→Bool} {st:Bool}:∀(t:List UInt8) (i a:Nat),(∀x∈t,p x=q x)→pcs p st t i a=pcs q st t i a
 | [],_,_,_=>rfl
 | x::t,i,a,h=>by
   have h1:=h x (by simp)
   have h2:=fun i a=>pcs_congr (p:=p) (q:=q) (st:=st) t i a fun y hy=>h y (by simp [hy]);simp only [pcs,h1,h2]
theorem pcs_loose {p:UInt8→Bool}:∀(t:List UInt8) (i a:Nat) (sp:List (Nat × Nat)),pcs p true t i a=some sp→pcs p false t i a=some sp
 | [],i,a,sp,h=>by
   simp only [pcs] at h ⊢;split at h
   ·cases h
   ·rename_i hi;rw [if_neg hi];exact h
 | x::t,i,a,sp,h=>by
   simp only [pcs] at h ⊢;split at h
   ·rename_i hp;rw [if_pos hp];split at h
    ·cases h
    ·rename_i hi;rw [if_neg hi];cases hq:pcs p true t (i+1) (i+1) with
     | none=>rw [hq] at h;cases h
     | some r=>
       rw [hq] at h;rw [pcs_loose t _ _ r hq];exact h
   ·rename_i hp;rw [if_neg hp];exact pcs_loose t _ _ sp h
theorem pcs_some {p:UInt8→Bool}:∀(t:List UInt8) (i a:Nat),∃sp,pcs p false t i a=some sp
 | [],i,a=>by
   simp only [pcs];by_cases h:i=a
   ·exact ⟨[],by rw [if_pos h];rfl⟩
   ·exact ⟨[(a,i)],by rw [if_neg h]⟩
 | x::t,i,a=>by
   obtain ⟨r1,h1⟩:=pcs_some (p:=p) t (i+1) (i+1);obtain ⟨r2,h2⟩:=pcs_some (p:=p) t (i+1) a;simp only [pcs,h1,h2];by_cases hp:p x=true
   ·by_cases h:i=a
    ·exact ⟨r1,by rw [if_pos hp,if_pos h];rfl⟩
    ·exact ⟨(a,i)::r1,by rw [if_pos hp,if_neg h];rfl⟩
   ·exact ⟨r2,by rw [if_neg hp]⟩
def Cov (p:UInt8→Bool) (l:List UInt8):Nat→List (Nat × Nat)→Prop
 | o,[]=>∀j (h:j<l.length),o≤j→p l[j]=true
 | o,x::r=>o≤x.1∧x.1<x.2∧x.2≤l.length∧(∀j (h:j<l.length),o≤j→j<x.1→p l[j]=true)∧(∀j (h:j<l.length),x.1≤j→j<x.2→p l[j]=false)∧(∀h:x.2<l.length,p l[x.2]=true)∧Cov p l x.2 r
def Tight (n:Nat):Nat→List (Nat × Nat)→Prop
 | _,[]=>False
 | o,[x]=>x.1=o∧x.2=n
 | o,x::y::r=>x.1=o∧Tight n (x.2+1) (y::r)
theorem Cov.from {p:UInt8→Bool} {l:List UInt8}:∀{o o':Nat} {sp:List (Nat × Nat)},o'≤o→(∀j (h:j<l.length),o'≤j→j<o→p l[j]=true)→Cov p l o sp→Cov p l o' sp
 | o,o',[],_,hg,hc=>fun j h hj=>by
   rcases Nat.lt_or_ge j o with h1 | h1
   ·exact hg j h hj h1
   ·exact hc j h h1
 | o,o',x::r,ho,hg,⟨h1,h2,h3,h4,h5,h6,h7⟩=>⟨by omega,h2,h3,fun j h hj hx=>by
    rcases Nat.lt_or_ge j o with h8 | h8
    ·exact hg j h hj h8
    ·exact h4 j h h8 hx,h5,h6,h7⟩
theorem pcs_cov {p:UInt8→Bool} {st:Bool} {l:List UInt8}:∀(t:List UInt8) (i a:Nat) (sp:List (Nat × Nat)),l.drop i=t→i≤l.length→a≤i→(∀j (h:j<l.length),a≤j→j<i→p l[j]=false)→pcs p st t i a=some sp→
 Cov p l a sp∧(st=true→Tight l.length a sp)
 | [],i,a,sp,hd,hi,ha,hw,h=>by
   have hil:i=l.length:=by have:=congrArg List.length hd;rw [List.length_drop] at this;simp at this;omega
   simp only [pcs] at h;by_cases hia:i=a
   ·rw [if_pos hia] at h;cases st with
    | true=>simp at h
    | false=>
      simp at h;subst h;refine ⟨fun j hj hj2=>by omega,fun h=>by cases h⟩
   ·rw [if_neg hia] at h;cases h;exact ⟨⟨Nat.le_refl _,by show a<i;omega,by show i≤_;omega,fun j _ h1 h2=>by exact absurd h2 (by show¬j<a;omega),fun j h h1 h2=>hw j h h1 h2,fun h=>by exact absurd h (by show¬i < _;omega),fun j h hj=>by exact absurd hj (by show¬i≤j;omega)⟩,fun _=>⟨rfl,hil⟩⟩
 | x::t,i,a,sp,hd,hi,ha,hw,h=>by
   have hil:i<l.length:=by have:=congrArg List.length hd;rw [List.length_drop] at this;simp at this;omega
   have hdc:=List.drop_eq_getElem_cons hil;rw [hd] at hdc;have hx:l[i]=x:=(List.cons.inj hdc).1.symm;have ht:l.drop (i+1)=t:=(List.cons.inj hdc).2.symm;have hxi:p x=true→∀j (hj:j<l.length),i≤j→j<i+1→p l[j]=true:=fun hp j hj h1 h2=>by
    obtain rfl:j=i:=by omega
    rw [hx];exact hp
   simp only [pcs] at h;by_cases hp:p x=true
   ·rw [if_pos hp] at h;by_cases hia:i=a
    ·rw [if_pos hia] at h;cases st with
     | true=>simp at h
     | false=>
       simp only [Bool.false_eq_true,if_false] at h;have ih:=pcs_cov t (i+1) (i+1) sp ht (by omega) (by omega) (fun j _ h1 h2=>by omega) h;exact ⟨ih.1.from (by omega) (fun j hj h1 h2=>hxi hp j hj (by omega) h2),fun h=>by cases h⟩
    ·rw [if_neg hia] at h;cases hq:pcs p st t (i+1) (i+1) with
     | none=>rw [hq] at h;cases h
     | some r=>
       rw [hq] at h;simp only [Option.map_some,Option.some.injEq] at h;subst h;have ih:=pcs_cov t (i+1) (i+1) r ht (by omega) (by omega) (fun j _ h1 h2=>by omega) hq
       have hc:=ih.1.from (o':=i) (by omega) (hxi hp);refine ⟨⟨Nat.le_refl _,by show a<i;omega,by show i≤_;omega,fun j _ h1 h2=>by exact absurd h2 (by show¬j<a;omega),fun j h h1 h2=>hw j h h1 h2,fun _=>by show p l[i]=true;rw [hx];exact hp,hc⟩,fun hs=>?_⟩;have h2:=ih.2 hs;cases r with
       | nil=>exact absurd h2 (by simp [Tight])
       | cons y r=>exact ⟨rfl,h2⟩
   ·rw [if_neg hp] at h;refine pcs_cov t (i+1) a sp ht (by omega) (by omega) (fun j hj h1 h2=>?_) h;rcases Nat.lt_or_ge j i with h3 | h3
    ·exact hw j hj h1 h3
    ·obtain rfl:j=i:=by omega
     rw [hx];simpa using hp
theorem Cov.at {p:UInt8→Bool} {l:List UInt8}:∀{o:Nat} {sp:List (Nat × Nat)},Cov p l o sp→∀k (hk:k<sp.length),o≤sp[k].1∧sp[k].1<sp[k].2∧sp[k].2≤l.length∧∀j (h:j<l.length),sp[k].1≤j→j<sp[k].2→p l[j]=false
 | o,x::r,⟨h1,h2,h3,h4,h5,h6,h7⟩,0,_=>⟨h1,h2,h3,h5⟩
 | o,x::r,⟨h1,h2,h3,h4,h5,h6,h7⟩,k+1,hk=>by
   have:=h7.at k (by simpa using hk);simp only [List.getElem_cons_succ];exact ⟨by omega,this.2⟩
theorem Cov.gap {p:UInt8→Bool} {l:List UInt8}:∀{o:Nat} {sp:List (Nat × Nat)},Cov p l o sp→∀k (hk:k+1<sp.length),sp[k].2<sp[k+1].1∧∀j (h:j<l.length),sp[k].2≤j→j<sp[k+1].1→p l[j]=true
 | o,x::y::r,⟨h1,h2,h3,h4,h5,h6,h7⟩,0,_=>by
   obtain ⟨g1,g2,g3,g4,g5,_,_⟩:=h7;simp only [List.getElem_cons_zero,List.getElem_cons_succ];refine ⟨?_,g4⟩;rcases Nat.lt_or_ge x.2 y.1 with h | h
   ·exact h
   ·have e:x.2=y.1:=by omega
    have f1:=h6 (by omega)
    have f2:=g5 x.2 (by omega) (by omega) (by omega);rw [f1] at f2;cases f2
 | o,x::r,⟨h1,h2,h3,h4,h5,h6,h7⟩,k+1,hk=>by
   simp only [List.getElem_cons_succ]
   exact h7.gap k (by simpa using hk)
 | o,[x],_,0,hk=>by simp at hk
theorem Cov.first {p:UInt8→Bool} {l:List UInt8} {o:Nat} {sp:List (Nat × Nat)} (h:Cov p l o sp) (h0:0<sp.length):∀j (h:j<l.length),o≤j→j<sp[0].1→p l[j]=true:=by
 cases sp with
 | nil=>simp at h0
 | cons x r=>exact h.2.2.2.1
theorem Cov.last {p:UInt8→Bool} {l:List UInt8}:∀{o:Nat} {sp:List (Nat × Nat)},Cov p l o sp→∀(h0:0<sp.length),∀j (h:j<l.length),(sp[sp.length-1]'(by omega)).2≤j→p l[j]=true
 | o,[x],⟨_,_,_,_,_,_,h7⟩,_,j,h,hj=>h7 j h hj
 | o,x::y::r,⟨_,_,_,_,_,_,h7⟩,_,j,h,hj=>by
   refine h7.last (by simp) j h ?_;simpa using hj
theorem Tight.at {n:Nat}:∀{o:Nat} {sp:List (Nat × Nat)},Tight n o sp→∃h:0<sp.length,sp[0].1=o∧(∀k (hk:k+1<sp.length),sp[k+1].1=sp[k].2+1)∧(sp[sp.length-1]'(by omega)).2=n
 | o,[x],⟨h1,h2⟩=>⟨by simp,h1,fun k hk=>by simp at hk,h2⟩
 | o,x::y::r,⟨h1,h2⟩=>by
   obtain ⟨g0,g1,g2,g3⟩:=h2.at;refine ⟨by simp,h1,fun k hk=>?_,by simpa using g3⟩;cases k with
   | zero=>simpa using g1
   | succ k=>have:=g2 k (by simpa using hk);exact this
theorem spans_cov {bl:Bool} {l:List UInt8} {sp:List (Nat × Nat)} (h:spans bl l=some sp):Cov (sepB bl) l 0 sp∧(bl=false→Tight l.length 0 sp):=by have:=pcs_cov (l:=l) l 0 0 sp rfl (Nat.zero_le _) (Nat.le_refl _) (fun j _ _ h=>by omega) h;exact ⟨this.1,fun hb=>this.2 (by rw [hb];rfl)⟩
theorem parts_pcs (c:UInt8) (p:UInt8→Bool) (hp:∀x,p x=true↔x=c):∀(t pre u:List UInt8),(∀x∈u,x≠c)→
 (pcs p true t (pre.length+u.length) pre.length=none∧ []∈parts c (u++t))∨∃sp,pcs p true t (pre.length+u.length) pre.length=some sp∧parts c (u++t)=sp.map (ext (pre++(u++t)))∧ []∉parts c (u++t)
 | [],pre,u,hu=>by
   have hn:c∉u:=fun h=>hu c h rfl;rw [List.append_nil,parts_none c u hn];simp only [pcs];by_cases h:u= []
   ·subst h;left;exact ⟨by simp,by simp⟩
   ·right;have hl:0<u.length:=List.length_pos_iff.2 h;refine ⟨[(pre.length,pre.length+u.length)],by rw [if_neg (by omega)],?_,by simp;exact fun e=>h e⟩;have:=ext_mid pre u [];rw [List.append_nil] at this;simp [this]
 | x::t,pre,u,hu=>by
   simp only [pcs];have hn:c∉u:=fun h=>hu c h rfl;by_cases hx:x=c
   ·subst hx;rw [if_pos ((hp x).2 rfl),parts_cut x u t hn];by_cases h:u= []
    ·subst h;left;exact ⟨by simp,by simp⟩
    ·have hl:0<u.length:=List.length_pos_iff.2 h;rw [if_neg (by omega)]
     have ih:=parts_pcs x p hp t (pre++(u ++ [x])) [] (by simp);have e1:(pre++(u ++ [x])).length=pre.length+u.length+1:=by simp;omega
     rw [List.length_nil,Nat.add_zero,List.nil_append,e1] at ih;rcases ih with ⟨h1,h2⟩ | ⟨sp,h1,h2,h3⟩
     ·left;exact ⟨by rw [h1];rfl,by simp [h2]⟩
     ·right;refine ⟨_,by rw [h1];rfl,?_,by simp [h3];exact fun e=>h e⟩;rw [List.map_cons,ext_mid pre u (x::t),h2]
      congr 2
      simp
   ·rw [if_neg (fun h=>hx ((hp x).1 h))]
    have ih:=parts_pcs c p hp t pre (u ++ [x]) (by
     intro y hy;rcases List.mem_append.1 hy with h | h
     ·exact hu y h
     ·rw [List.mem_singleton.1 h];exact hx)
    have e1:(u ++ [x])++t=u++x::t:=by simp
    rw [e1,List.length_append,List.length_singleton,←Nat.add_assoc] at ih;exact ih
def words (bl:Bool) (l:List UInt8):List (List UInt8):=if bl=true then ((spans true l).getD []).map (ext l) else parts 32 l
theorem words_spans (bl:Bool) (l:List UInt8):(spans bl l=none∧ []∈words bl l)∨∃sp,spans bl l=some sp∧words bl l=sp.map (ext l)∧ []∉words bl l:=by
 cases bl with
 | false=>
   have:=parts_pcs 32 (sepB false) (by intro x;simp [sepB]) l [] [] (by simp);simpa [words,spans] using this
 | true=>
   right;obtain ⟨sp,h⟩:=pcs_some (p:=sepB true) l 0 0;have hs:spans true l=some sp:=h;refine ⟨sp,hs,by simp [words,hs],?_⟩;rw [words,if_pos rfl,hs,Option.getD_some];intro hm;obtain ⟨x,hx,he⟩:=List.mem_map.1 hm;obtain ⟨k,hk,rfl⟩:=List.getElem_of_mem hx;obtain ⟨_,h2,h3,_⟩:=(spans_cov hs).1.at k hk;have:=ext_length l sp[k] h3;rw [he] at this;simp at this;omega
end Go.Proofs.YtnabkcglnbdfeaaGreatDoor.Rq
namespace Go.Proofs.YtnabkcglnbdfeaaGreatDoor.Rq
open Go.RowKit Base Txt
theorem ext_ext (l:List UInt8) (a b c d:Nat) (h:a+d≤b):ext (ext l (a,b)) (c,d)=ext l (a+c,a+d):=by unfold ext;dsimp only;rw [List.take_drop,List.drop_drop,List.take_take,Nat.min_eq_left (by omega)]
theorem Cov.mono {p:UInt8→Bool} {l:List UInt8} {o:Nat} {sp:List (Nat × Nat)} (h:Cov p l o sp):∀(k d:Nat) (hk:k+d<sp.length),(sp[k]'(by omega)).2≤sp[k+d].2
 | k,0,hk=>Nat.le_refl _
 | k,d+1,hk=>by
   have h1:=h.mono k d (by omega);have h2:=(h.gap (k+d) (by omega)).1;have h3:=(h.at (k+d+1) (by omega)).2.1;have e:sp[k+(d+1)]=sp[k+d+1]:=rfl;rw [e];omega
def between (bl:Bool) (l first last:List UInt8):List UInt8:=
 if bl=true then trimL Txt.blank (ext (trimL Txt.blank l) (first.length,(trimL Txt.blank l).length-last.length)) else ext l (first.length+1,l.length-last.length-1)
def fits (bl:Bool) (l first last:List UInt8):Prop:=
 if bl=true then first.length+last.length≤(trimL Txt.blank l).length else first.length+last.length+2≤l.length
theorem mid_core {bl:Bool} {l:List UInt8} {x0 x1 x2 x3:Nat × Nat} (a1:x0.1<x0.2) (a2:x0.2≤l.length) (a3:∀j (h:j<l.length),x0.1≤j→j<x0.2→sepB bl l[j]=false)
 (b1:x1.1<x1.2) (b3:∀j (h:j<l.length),x1.1≤j→j<x1.2→sepB bl l[j]=false) (c1:x2.1<x2.2) (c3:∀j (h:j<l.length),x2.1≤j→j<x2.2→sepB bl l[j]=false)
 (d1:x3.1<x3.2) (d2:x3.2≤l.length) (d3:∀j (h:j<l.length),x3.1≤j→j<x3.2→sepB bl l[j]=false) (e0:x0.2<x1.1) (e1:∀j (h:j<l.length),x0.2≤j→j<x1.1→sepB bl l[j]=true)
 (f0:x2.2<x3.1) (f1:∀j (h:j<l.length),x2.2≤j→j<x3.1→sepB bl l[j]=true) (g0:x1.2≤x2.2) (g1:∀j (h:j<l.length),j<x0.1→sepB bl l[j]=true) (g2:∀j (h:j<l.length),x3.2≤j→sepB bl l[j]=true)
 (t0:bl=false→x0.1=0∧x1.1=x0.2+1∧x3.1=x2.2+1∧x3.2=l.length) :
 between bl l (ext l x0) (ext l x3)=ext l (x1.1,x2.2)∧fits bl l (ext l x0) (ext l x3)∧x1.1<x2.2∧x2.2≤l.length:=by
 have l0:=ext_length l x0 a2;have l3:=ext_length l x3 d2;cases bl with
 | false=>
   obtain ⟨t1,t2,t3,t4⟩:=t0 rfl;simp only [between,fits,Bool.false_eq_true,if_false];rw [l0,l3];exact ⟨by congr 2<;>omega,by omega,by omega,by omega⟩
 | true=>
   have hs:trimL Txt.blank l=ext l (x0.1,x3.2):=by
    rw [←sepB_true]
    exact trim_ext _ l x0.1 x3.2 (by omega) (by omega) (fun j h hj=>g1 j h hj) (fun j h hj=>g2 j h hj) (fun h=>a3 x0.1 h (Nat.le_refl _) a1) (fun h=>d3 _ h (by omega) (by omega))
   have ls:=ext_length l (x0.1,x3.2) (by show x3.2≤_;omega);have ls':(ext l (x0.1,x3.2)).length=x3.2-x0.1:=ls;simp only [between,fits,if_true];rw [hs,l0,l3,ls'];have e2:ext (ext l (x0.1,x3.2)) (x0.2-x0.1,x3.2-x0.1-(x3.2-x3.1))=ext l (x0.2,x3.1):=by
    rw [ext_ext l _ _ _ _ (by omega)]
    congr 2<;>omega
   rw [e2]
   have lm:=ext_length l (x0.2,x3.1) (by show x3.1≤_;omega);have lm':(ext l (x0.2,x3.1)).length=x3.1-x0.2:=lm;have key:trimL Txt.blank (ext l (x0.2,x3.1))=ext (ext l (x0.2,x3.1)) (x1.1-x0.2,x2.2-x0.2):=by
    rw [←sepB_true];refine trim_ext _ _ _ _ (by omega) (by omega) ?_ ?_ ?_ ?_
    ·intro j h hj;obtain ⟨q,e⟩:=ext_at l _ j h
     rw [e];exact e1 _ q (by show x0.2≤x0.2+j;omega) (by show x0.2+j < _;omega)
    ·intro j h hj;obtain ⟨q,e⟩:=ext_at l _ j h
     rw [e];exact f1 _ q (by show _≤x0.2+j;omega) (by show x0.2+j < _;omega)
    ·intro h;obtain ⟨q,e⟩:=ext_at l _ _ h
     rw [e];exact b3 _ q (by show _≤x0.2+ _;omega) (by show x0.2+ _ < _;omega)
    ·intro h;obtain ⟨q,e⟩:=ext_at l _ _ h
     rw [e];exact c3 _ q (by show _≤x0.2+ _;omega) (by show x0.2+ _ < _;omega)
   rw [key,ext_ext l _ _ _ _ (by omega)];exact ⟨by congr 2<;>omega,by omega,by omega,by omega⟩
theorem between_mid {bl:Bool} {l:List UInt8} {sp:List (Nat × Nat)} (h:spans bl l=some sp) (h3:3≤sp.length) :
 between bl l (ext l sp[0]) (ext l sp[sp.length-1])=ext l (sp[1].1,sp[sp.length-2].2)∧fits bl l (ext l sp[0]) (ext l sp[sp.length-1])∧sp[1].1<sp[sp.length-2].2∧sp[sp.length-2].2≤l.length:=by
 obtain ⟨hc,ht⟩:=spans_cov h;obtain ⟨n,hn⟩:∃n,sp.length=n+3:=⟨sp.length-3,by omega⟩
 obtain ⟨a0,a1,a2,a3⟩:=hc.at 0 (by omega)
 obtain ⟨b0,b1,b2,b3⟩:=hc.at 1 (by omega)
 obtain ⟨c0,c1,c2,c3⟩:=hc.at (sp.length-2) (by omega)
 obtain ⟨d0,d1,d2,d3⟩:=hc.at (sp.length-1) (by omega)
 obtain ⟨e0,e1⟩:=hc.gap 0 (by omega)
 obtain ⟨f0,f1⟩:=hc.gap (sp.length-2) (by omega)
 have g0:=hc.mono 1 (sp.length-3) (by omega);have i1:∀h,sp[sp.length-2+1]'h=sp[sp.length-1]:=fun _=>by congr 1;omega
 have i2:∀h,sp[1+(sp.length-3)]'h=sp[sp.length-2]:=fun _=>by congr 1;omega
 simp only [i1] at f0 f1;rw [i2] at g0;refine mid_core a1 a2 a3 b1 b3 c1 c3 d1 d2 d3 e0 e1 f0 f1 g0 (fun j h hj=>hc.first (by omega) j h (Nat.zero_le _) hj) (hc.last (by omega)) fun hb=>?_;obtain ⟨_,q1,q2,q3⟩:=(ht hb).at
 have q4:=q2 (sp.length-2) (by omega);rw [i1] at q4;exact ⟨q1,q2 0 (by omega),q4,q3⟩
structure Cl where
 bl:Bool
 mi:Bool
 an:Bool
 nv:Bool
 sp:Bool
 co:Bool
def clOf (p:Nat):Cl:=⟨Qk.has p 3,Qk.has p 4,Qk.has p 5,Qk.has p 6,Qk.has p 7,Qk.has p 8⟩
def http1:List UInt8:= [72,84,84,80,47,49,46]
def knownV (c:Cl) (v:List UInt8):Bool:=decide (v.length=8)&&(Oct.digit ((v.getD 7 0).toNat:Int)&&(v.take 7==http1|| (c.an&&low (v.take 7)==low http1)))
def verL (c:Cl) (v:List UInt8):Option Nat:=
 if v= [] then some 0 else if knownV c v=true then (if v.getD 7 0=48 then some 0 else if (v.getD 7 0==49||c.mi)=true then some 1 else none) else none
def letsT (c:Cl) (x:UInt8):Bool:=Oct.visible (x.toNat:Int)|| (c.sp&&Oct.blank (x.toNat:Int)||c.co&&Oct.control (x.toNat:Int))
def tgtB (c:Cl) (t:List UInt8):Bool:=t.all (letsT c)
def tgtOk (c:Cl) (m t:List UInt8):Bool:=tgtB c t&&(c.sp||c.co|| (Tgt.parse m t).isSome)
def methOk (m:List UInt8):Bool:=decide (m.length≤32)&&Oct.allOf [1] m
def pick (c:Cl) (l:List UInt8):Option (List UInt8 × List UInt8 × List UInt8):=
 match spans c.bl l with
 | none=>none
 | some sp=>if (sp.length==3|| (decide (3<sp.length)&&c.sp))=true then some (ext l (sp.getD 0 (0,0)),ext l ((sp.getD 1 (0,0)).1,(sp.getD (sp.length-2) (0,0)).2),ext l (sp.getD (sp.length-1) (0,0)))
   else if (sp.length==2&&c.nv)=true then some (ext l (sp.getD 0 (0,0)),ext l (sp.getD 1 (0,0)),[]) else none
def badR:List UInt8 × List UInt8 × Nat × Nat:=([],[],0,400)
def verR:List UInt8 × List UInt8 × Nat × Nat:=([],[],0,505)
def request (c:Cl) (old:Bool) (l:List UInt8):List UInt8 × List UInt8 × Nat × Nat:=
 match pick c l with
 | none=>badR
 | some (m,t,v)=>if (methOk m&&tgtOk c m t)=true then
    match verL c v with
    | none=>verR
    | some k=>if (k==0 && !old)=true then verR else (m,t,k,0)
   else badR
theorem spans_pos {bl:Bool} {l:List UInt8} {sp:List (Nat × Nat)} (h:spans bl l=some sp) (k:Nat) (hk:k<sp.length):0<(ext l sp[k]).length∧(ext l sp[k]).length≤l.length:=by obtain ⟨_,h2,h3,_⟩:=(spans_cov h).1.at k hk;rw [ext_length l _ h3];omega
theorem getD_at (sp:List (Nat × Nat)) (k:Nat) (h:k<sp.length):sp.getD k (0,0)=sp[k]:=by simp [List.getD,List.getElem?_eq_getElem h]
theorem pick_some {c:Cl} {l m t v:List UInt8} (h:pick c l=some (m,t,v)):0<m.length∧m.length≤l.length∧0<t.length∧t.length≤l.length∧v.length≤l.length:=by
 unfold pick at h;cases hs:spans c.bl l with
 | none=>rw [hs] at h;cases h
 | some sp=>
   rw [hs] at h;dsimp only at h;split at h
   ·rename_i h3;have hn:3≤sp.length:=by
     simp only [Bool.or_eq_true,beq_iff_eq,Bool.and_eq_true,decide_eq_true_eq] at h3;omega
    rw [getD_at sp 0 (by omega),getD_at sp 1 (by omega),getD_at sp _ (by omega),getD_at sp _ (by omega)] at h;obtain ⟨_,_,q1,q2⟩:=between_mid hs hn
    have p0:=spans_pos hs 0 (by omega)
    have p1:=spans_pos hs (sp.length-1) (by omega);have p2:=ext_length l (sp[1].1,sp[sp.length-2].2) q2;simp only [Option.some.injEq,Prod.mk.injEq] at h;obtain ⟨rfl,rfl,rfl⟩:=h;have p3:(ext l (sp[1].1,sp[sp.length-2].2)).length=sp[sp.length-2].2-sp[1].1:=p2;exact ⟨p0.1,p0.2,by omega,by omega,p1.2⟩
   ·split at h
    ·rename_i h2;have hn:sp.length=2:=by
      simp only [Bool.and_eq_true,beq_iff_eq] at h2;exact h2.1
     rw [getD_at sp 0 (by omega),getD_at sp 1 (by omega)] at h
     have p0:=spans_pos hs 0 (by omega)
     have p1:=spans_pos hs 1 (by omega);simp only [Option.some.injEq,Prod.mk.injEq] at h;obtain ⟨rfl,rfl,rfl⟩:=h;exact ⟨p0.1,p0.2,p1.1,p1.2,by simp⟩
    ·cases h
end Go.Proofs.YtnabkcglnbdfeaaGreatDoor.Rq
namespace Go.Proofs.YtnabkcglnbdfeaaGreatDoor.Rq
open Go.RowKit Base Txt
theorem first_no (s:ByteArray) (h:0<s.size):s.toList.isEmpty=false:=by
 have e:s.toList=s.data.toList:=Lib.toList_data s;rw [e,List.isEmpty_eq_false_iff];intro h0;have:s.size=0:=by rw [←len,h0];rfl
 omega
theorem len8 (s:ByteArray) (h:s.size=8):(s.data.toList.getD 7 0)=s[7]∧(s.extract 0 7).data.toList=s.data.toList.take 7:=by refine ⟨?_,by rw [Lib.extract_data];simp⟩;rw [List.getD,List.getElem?_eq_getElem (by rw [len];omega),Option.getD_some];rfl
theorem eq_facts (m:ByteArray) (l:List UInt8) (b:Bool) (h:decide (m.data.toList=l)=b):(m.toList==l)=b∧(m.toList==(ByteArray.mk l.toArray).toList)=b:=by
 have h1:(m.toList==l)=b:=by rw [←h,Lib.toList_data,Bool.eq_iff_iff,beq_iff_eq,decide_eq_true_eq]
 exact ⟨h1,by rw [show (ByteArray.mk l.toArray).toList=l from Lib.toList_data _];exact h1⟩
section code
set_option maxHeartbeats 1000000
attribute [local go_sem] Base.some_undef
theorem method_any (s:ByteArray) (w:World) (h0:0<s.size):Calls Tryz.prog 244 #[.string s] w fun e w'=>e=.returned (.bool (methOk s.data.toList))∧Below w.heap.size w w':=by
 have t0:=first_no s h0;rcases Nat.lt_or_ge 32 s.size with h | h
 ·have h1:¬(s.size:Int)≤32:=by omega
  have e:methOk s.data.toList=false:=by unfold methOk;rw [len,decide_eq_false (by omega)];rfl
  rw [e];clear e;go_enter Tryz.func244,Tryz.ntmps244;go_wp2_with fail;go_ret;exact ⟨rfl,Below.refl _ _⟩
 ·have h1:(s.size:Int)≤32:=by omega
  have HA:=Lib.hid (fun w a (hk:Ints w a 1 [1])=>Oct.all_any s a 1 1 [1] w (by unfold maxLen;omega) hk (by decide));have e:methOk s.data.toList=Oct.allOf [1] s.data.toList:=by unfold methOk;rw [len,decide_eq_true h];rfl
  rw [e];clear e;generalize Oct.allOf [1] s.data.toList=r at *;go_enter Tryz.func244,Tryz.ntmps244
  go_wp2_with (go_at_call 266;with_reducible refine (HA.out _ _ (Ints.one _ _ rfl _ _)).mono ?_;rintro e w1 ⟨rfl,hw⟩;rw [hw];clear hw);go_ret;exact ⟨by rfl,(Below.refl _ _).alloc (Nat.le_refl _) _⟩
theorem lastDigit_any (s:ByteArray) (p:Nat) (hp:p<4294967296) (w:World):Calls Tryz.prog 270 #[.string s,.int .u32 (p:Nat)] w fun e w'=>
 (∃d:UInt8,e=.returned (.tuple #[.int .u8 (d.toNat:Int),.bool (knownV (clOf p) s.data.toList)])∧(knownV (clOf p) s.data.toList=true→d=s.data.toList.getD 7 0))∧Below w.heap.size w w':=by
 by_cases h8:s.size=8
 ·obtain ⟨e1,e2⟩:=len8 s h8;have hx:(s.extract 0 7).size=7:=by rw [←len,e2,List.length_take,len];omega
  have H:=Lib.hid (fun w=>Qk.has_any p hp 5 w)
  have HS:=Lib.hid (fun w=>same_any (s.extract 0 7) ⟨#[72,84,84,80,47,49,46]⟩ w (by rw [hx];decide))
  have HD:=Lib.hid (fun w=>Oct.digit_any ((s[7]'(by omega)).toNat:Int) w);have ek:knownV (clOf p) s.data.toList=(Oct.digit ((s[7]'(by omega)).toNat:Int)&&(((s.extract 0 7).data.toList==http1)|| (Qk.has p 5&&same (s.extract 0 7) ⟨#[72,84,84,80,47,49,46]⟩))):=by
   unfold knownV same
   have hl:decide (s.data.toList.length=8)=true:=decide_eq_true (by rw [len];exact h8);rw [hl,Bool.true_and,e1,e2];rfl
  have ev:s.data.toList.getD 7 0=s[7]:=e1;rw [ek,ev];obtain ⟨t1,t2⟩:=eq_facts (s.extract 0 7) [72,84,84,80,47,49,46] (decide ((s.extract 0 7).data.toList=http1)) rfl;have e3:((s.extract 0 7).data.toList==http1)=decide ((s.extract 0 7).data.toList=http1):=by rw [Bool.eq_iff_iff,beq_iff_eq,decide_eq_true_eq]
  rw [e3];clear e1 e2 ek ev e3 hx;have hsz:(s.size:Int)=8:=by omega
  obtain ⟨d,hd⟩:∃d,s[7]'(by omega)=d:=⟨_,rfl⟩;have hn:∀hh,s[7]'hh=d:=fun _=>hd;rw [hd] at HD ⊢;clear hd;generalize decide ((s.extract 0 7).data.toList=http1)=r1 at *;generalize same (s.extract 0 7) ⟨#[72,84,84,80,47,49,46]⟩=r2 at *;generalize Qk.has p 5=r3 at *;generalize Oct.digit (d.toNat:Int)=r4 at *;obtain ⟨x,hx⟩:∃x,s.extract 0 7=x:=⟨_,rfl⟩;rw [hx] at HS t1 t2;cases r1<;>cases r3<;>cases r2;all_goals
   go_enter Tryz.func270,Tryz.ntmps270;go_wp2_with fail
   go_quiet (fail);rename_i nq
   go_wp2_with (first
    |(go_at_call 92;with_reducible refine (H.out _).mono ?_;rintro e w1 ⟨rfl,hw⟩;rw [hw];clear hw)
    |(go_at_call 148;with_reducible refine (HS.out _).mono ?_;rintro e w2 ⟨rfl,hb⟩)
    |(go_at_call 294;with_reducible refine (HD.out _).mono ?_;rintro e w1 ⟨rfl,hw⟩;rw [hw];clear hw))
   go_ret2;first
    | exact ⟨⟨d,by simp,fun _=>rfl⟩,Base.below_step (Base.below_drewN (Below.refl _ _) nq) hb⟩
    | exact ⟨⟨d,by simp,fun _=>rfl⟩,Base.below_drewN (Below.refl _ _) nq⟩
 ·have e:knownV (clOf p) s.data.toList=false:=by unfold knownV;rw [len,decide_eq_false h8];rfl
  rw [e];clear e;have h1:¬(s.size:Int)=8:=by omega
  go_enter Tryz.func270,Tryz.ntmps270;go_wp2_with fail;go_ret2;exact ⟨⟨0,rfl,fun h=>by cases h⟩,Below.refl _ _⟩
theorem minorOf_any (s:ByteArray) (p:Nat) (hp:p<4294967296) (w:World):Calls Tryz.prog 246 #[.string s,.int .u32 (p:Nat)] w fun e w'=>
 e=.returned (.tuple #[.int .i64 (((verL (clOf p) s.data.toList).getD 0:Nat):Int),.bool (verL (clOf p) s.data.toList).isSome])∧Below w.heap.size w w':=by
 by_cases h0:s.size=0
 ·have e:s.data.toList= []:=List.eq_nil_of_length_eq_zero (by rw [len];exact h0);have t0:s.toList.isEmpty=true:=by rw [Lib.toList_data,e];rfl
  rw [e];clear e h0;go_enter Tryz.func246,Tryz.ntmps246;go_wp2_with fail;go_ret2;exact ⟨rfl,Below.refl _ _⟩
 ·have t0:=first_no s (by omega)
  have e:s.data.toList≠ []:=fun h=>h0 (by rw [←len,h];rfl)
  have HL:=Lib.hid (fun w=>lastDigit_any s p hp w)
  have H:=Lib.hid (fun w=>Qk.has_any p hp 4 w);have ev:verL (clOf p) s.data.toList=if knownV (clOf p) s.data.toList=true then (if s.data.toList.getD 7 0=48 then some 0 else if (s.data.toList.getD 7 0==49||Qk.has p 4)=true then some 1 else none) else none:=by rw [verL,if_neg e];rfl
  rw [ev];clear ev e h0;generalize knownV (clOf p) s.data.toList=q at *;generalize s.data.toList.getD 7 0=d at *;generalize Qk.has p 4=r at *;cases q with
  | false=>
    go_enter Tryz.func246,Tryz.ntmps246
    go_wp2_with (go_at_call 270;with_reducible refine (HL.out _).mono ?_;rintro e w1 ⟨⟨d',rfl,_⟩,hb⟩);go_ret2;exact ⟨rfl,hb⟩
  | true=>
    have HL':=Lib.hid (fun w=>(HL.out w).mono (R':=fun e w'=>e=.returned (.tuple #[.int .u8 (d.toNat:Int),.bool true])∧Below w.heap.size w w') (by rintro e w' ⟨⟨d',rfl,hd⟩,hb⟩;rw [hd rfl];exact ⟨rfl,hb⟩))
    clear HL;by_cases h48:d=48
    ·subst h48;go_enter Tryz.func246,Tryz.ntmps246
     go_wp2_with (go_at_call 270;with_reducible refine (HL'.out _).mono ?_;rintro e w1 ⟨rfl,hb⟩);go_ret2;exact ⟨rfl,hb⟩
    ·have n48:¬(d.toNat:Int)=48:=fun h=>h48 (UInt8.toNat_inj.1 (by show d.toNat=48;omega));rw [if_pos rfl,if_neg h48];clear h48;by_cases h49:d=49
     ·subst h49;go_enter Tryz.func246,Tryz.ntmps246
      go_wp2_with (go_at_call 270;with_reducible refine (HL'.out _).mono ?_;rintro e w1 ⟨rfl,hb⟩);go_ret2;exact ⟨rfl,hb⟩
     ·have n49:¬(d.toNat:Int)=49:=fun h=>h49 (UInt8.toNat_inj.1 (by show d.toNat=49;omega));have e49:(d==49)=false:=by simpa using h49
      rw [e49,Bool.false_or];clear h49 e49;cases r;all_goals
       go_enter Tryz.func246,Tryz.ntmps246
       go_wp2_with (first
        |(go_at_call 270;with_reducible refine (HL'.out _).mono ?_;rintro e w1 ⟨rfl,hb⟩)
        |(go_at_call 92;with_reducible refine (H.out _).mono ?_;rintro e w2 ⟨rfl,hw⟩;rw [hw];clear hw))
       go_ret2;exact ⟨rfl,hb⟩
theorem between_any (s x y:ByteArray) (p:Nat) (hp:p<4294967296) (w:World) (hs:s.size≤1000000000) (hf:fits (Qk.has p 3) s.data.toList x.data.toList y.data.toList) :
 Calls Tryz.prog 265 #[.string s,.string x,.string y,.int .u32 (p:Nat)] w fun e w'=>e=.returned (.string (ba (between (Qk.has p 3) s.data.toList x.data.toList y.data.toList)))∧w'=w:=by
 have H:=Lib.hid (fun w=>Qk.has_any p hp 3 w);generalize Qk.has p 3=q at *;cases q with
 | false=>
   simp only [fits,between,Bool.false_eq_true,if_false,len] at hf ⊢;rw [ext_ba];have c1:IntKind.i64.wrap ((x.size:Int)+1)=((x.size+1:Nat):Int):=by rw [wrap_in _ (by omega) (by omega)];omega
   have c2:IntKind.i64.wrap ((s.size:Int)-(y.size:Int))=((s.size-y.size:Nat):Int):=by rw [wrap_in _ (by omega) (by omega)];omega
   have c3:IntKind.i64.wrap (((s.size-y.size:Nat):Int)-1)=((s.size-y.size-1:Nat):Int):=by rw [wrap_in _ (by omega) (by omega)];omega
   have c4:x.size+1≤s.size-y.size-1:=by omega
   have c5:s.size-y.size-1≤s.size:=by omega
   go_enter Tryz.func265,Tryz.ntmps265
   go_wp2_with (go_at_call 92;with_reducible refine (H.out _).mono ?_;rintro e w1 ⟨rfl,hw⟩;rw [hw];clear hw);go_ret;exact ⟨rfl,rfl⟩
 | true=>
   have HT:=Lib.hid (fun w=>trim_any s w (by unfold maxLen;omega));have et:(trim s).data.toList=trimL Txt.blank s.data.toList:=rfl;simp only [fits,between,if_true] at hf ⊢;rw [←et] at hf ⊢;have hts:=trim_size Txt.blank s;have hts':(trim s).size≤s.size:=hts;clear et hts;generalize trim s=t at *;simp only [len] at hf ⊢
   have HT2:=Lib.hid (fun w=>trim_any (t.extract x.size (t.size-y.size)) w (by rw [←ext_ba,ba_size,ext];unfold maxLen;simp;omega));have e2:ba (trimL Txt.blank (ext t.data.toList (x.size,t.size-y.size)))=trim (t.extract x.size (t.size-y.size)):=by rw [←ext_ba];rfl
   rw [e2];clear e2;have c2:IntKind.i64.wrap ((t.size:Int)-(y.size:Int))=((t.size-y.size:Nat):Int):=by rw [wrap_in _ (by omega) (by omega)];omega
   have c4:x.size≤t.size-y.size:=by omega
   have c5:t.size-y.size≤t.size:=by omega
   go_enter Tryz.func265,Tryz.ntmps265
   go_wp2_with (first
    |(go_at_call 92;with_reducible refine (H.out _).mono ?_;rintro e w1 ⟨rfl,hw⟩;rw [hw];clear hw)
    |(go_at_call 195;with_reducible refine (HT.out _).mono ?_;rintro e w1 ⟨rfl,hw⟩;rw [hw];clear hw)
    |(go_at_call 195;with_reducible refine (HT2.out _).mono ?_;rintro e w1 ⟨rfl,hw⟩;rw [hw];clear hw))
   go_ret;exact ⟨rfl,rfl⟩
end code
end Go.Proofs.YtnabkcglnbdfeaaGreatDoor.Rq
namespace Go.Proofs.YtnabkcglnbdfeaaGreatDoor.Rq
open Go.RowKit Base Txt
def runeP (r:Nat):Bool:=decide (r<128)&&Oct.blank (r:Int)
theorem decodeN_high (n b0 b1 b2 b3:Nat) (h:128≤b0):128≤(Lib.decodeN n b0 b1 b2 b3).1:=by
 unfold Lib.decodeN
 repeat' split
 all_goals (simp only;omega)
theorem runeP_byte:∀k:Fin 256,(decide (k.val<128)&&runeP k.val)=sepB true (UInt8.ofNat k.val):=by decide +kernel
theorem sep_high (x:UInt8) (h:128≤x.toNat):sepB true x=false:=by have:=runeP_byte ⟨x.toNat,x.toNat_lt⟩;simp only [UInt8.ofNat_toNat] at this;rw [←this,decide_eq_false (by omega)];rfl
theorem sep_low (x:UInt8) (h:x.toNat<128):runeP x.toNat=sepB true x:=by have:=runeP_byte ⟨x.toNat,x.toNat_lt⟩;simp only [UInt8.ofNat_toNat] at this;rw [←this,decide_eq_true h];rfl
theorem pcs_skip {p:UInt8→Bool} {st:Bool} {l:List UInt8}:∀(k i a:Nat),i+k≤l.length→(∀j (h:j<l.length),i≤j→j<i+k→p l[j]=false)→pcs p st (l.drop i) i a=pcs p st (l.drop (i+k)) (i+k) a
 | 0,i,a,_,_=>rfl
 | k+1,i,a,hk,h=>by
   have hi:i<l.length:=by omega
   rw [List.drop_eq_getElem_cons hi,pcs,if_neg (by rw [h i hi (Nat.le_refl _) (by omega)];decide),pcs_skip k (i+1) a (by omega) (fun j hj h1 h2=>h j hj (by omega) (by omega)),show i+1+k=i+(k+1) by omega]
theorem step_none (p:Nat→Bool) (s:ByteArray) (f pos:Nat) (acc:List (Nat × Nat)) (h:pos<s.size):Lib.spansFromP p s (f+1) pos none acc=if p (Utf8.decode s pos).1=true then Lib.spansFromP p s f (pos+(Utf8.decode s pos).2) none acc else Lib.spansFromP p s f (pos+(Utf8.decode s pos).2) (some pos) acc:=by simp only [Lib.spansFromP,if_pos h]
theorem step_some (p:Nat→Bool) (s:ByteArray) (f pos a:Nat) (acc:List (Nat × Nat)) (h:pos<s.size):Lib.spansFromP p s (f+1) pos (some a) acc=if p (Utf8.decode s pos).1=true then Lib.spansFromP p s f (pos+(Utf8.decode s pos).2) none (acc ++ [(a,pos)]) else Lib.spansFromP p s f (pos+(Utf8.decode s pos).2) (some a) acc:=by simp only [Lib.spansFromP,if_pos h]
theorem spans_runes (s:ByteArray):∀(f pos:Nat) (st:Option Nat) (acc sp:List (Nat × Nat)),s.size≤pos+f→pos≤s.size→(∀a,st=some a→a<pos)→pcs (sepB true) false (s.data.toList.drop pos) pos (st.getD pos)=some sp→
 Lib.closeSpans s (Lib.spansFromP runeP s f pos st acc)=acc++sp
 | 0,pos,st,acc,sp,hf,hp,hst,h=>by
   obtain rfl:pos=s.size:=by omega
   rw [List.drop_eq_nil_of_le (by rw [len];exact Nat.le_refl _),pcs] at h;cases st with
   | none=>
     simp only [Option.getD_none,if_true,Bool.false_eq_true,if_false,Option.some.injEq] at h;subst h;simp [Lib.spansFromP,Lib.closeSpans]
   | some a=>
     have:=hst a rfl;rw [Option.getD_some,if_neg (by omega)] at h;cases h;simp [Lib.spansFromP,Lib.closeSpans]
 | f+1,pos,st,acc,sp,hf,hp,hst,h=>by
   rcases Nat.lt_or_ge pos s.size with hlt | hge
   ·have hll:pos<s.data.toList.length:=by rw [len];exact hlt
    have hb:s.data.toList[pos]=s[pos]:=rfl;have hdec:=Lib.decode_at s pos;rw [Tgt.get_lt s pos hlt] at hdec;rcases Nat.lt_or_ge (s[pos]).toNat 128 with h7 | h7
    ·rw [Lib.decodeN_ascii _ _ _ _ _ h7] at hdec;have sn:=step_none runeP s f pos acc hlt;have ss:=fun a=>step_some runeP s f pos a acc hlt;simp only [hdec] at sn ss;rw [sep_low _ h7] at sn;simp only [sep_low _ h7] at ss;rw [List.drop_eq_getElem_cons hll,pcs,hb] at h;by_cases hs:sepB true s[pos]=true
     ·rw [if_pos hs] at h sn;simp only [if_pos hs] at ss;cases st with
      | none=>
        rw [sn];rw [Option.getD_none,if_pos rfl,if_neg (by decide)] at h;exact spans_runes s f (pos+1) none acc sp (by omega) (by omega) (fun a ha=>by cases ha) h
      | some a=>
        rw [ss];have ha:=hst a rfl;rw [Option.getD_some,if_neg (by omega)] at h;cases hq:pcs (sepB true) false (s.data.toList.drop (pos+1)) (pos+1) (pos+1) with
        | none=>rw [hq] at h;cases h
        | some r=>
          rw [hq] at h;simp only [Option.map_some,Option.some.injEq] at h;subst h;have:=spans_runes s f (pos+1) none (acc ++ [(a,pos)]) r (by omega) (by omega) (fun a ha=>by cases ha) hq;rw [this];simp
     ·rw [if_neg hs] at h sn;simp only [if_neg hs] at ss;cases st with
      | none=>rw [sn];exact spans_runes s f (pos+1) (some pos) acc sp (by omega) (by omega) (fun a ha=>by cases ha;omega) h
      | some a=>rw [ss];exact spans_runes s f (pos+1) (some a) acc sp (by omega) (by omega) (fun b hb=>by cases hb;have:=hst a rfl;omega) h
    ·have hr:runeP (Utf8.decode s pos).1=false:=by
      rw [hdec,runeP,decide_eq_false (by have:=decodeN_high (s.size-pos) (s[pos]).toNat (s.get! (pos+1)).toNat (s.get! (pos+2)).toNat (s.get! (pos+3)).toNat h7;omega)];rfl
     have hw:1≤(Utf8.decode s pos).2:=Lib.width_pos s pos;have hhi:=fun k=>Tgt.rune_high s pos k hlt h7;have sn:=step_none runeP s f pos acc hlt;have ss:=fun a=>step_some runeP s f pos a acc hlt;generalize Utf8.decode s pos=d at *
     obtain ⟨hk,_⟩:=hhi (pos+d.2-1) (by omega) (by omega)
     have hsk:=pcs_skip (p:=sepB true) (st:=false) (l:=s.data.toList) d.2 pos (st.getD pos) (by rw [len];omega) (fun j hj h1 h2=>by obtain ⟨q,hq⟩:=hhi j h1 h2;exact sep_high _ hq)
     rw [hsk] at h;rw [hr,if_neg (by decide)] at sn;simp only [hr,Bool.false_eq_true,if_false] at ss;cases st with
     | none=>rw [sn];exact spans_runes s f (pos+d.2) (some pos) acc sp (by omega) (by omega) (fun a ha=>by cases ha;omega) h
     | some a=>rw [ss];exact spans_runes s f (pos+d.2) (some a) acc sp (by omega) (by omega) (fun b hb=>by cases hb;have:=hst a rfl;omega) h
   ·obtain rfl:pos=s.size:=by omega
    rw [Lib.spansFromP_end _ _ _ _ _ _ (by omega)];rw [List.drop_eq_nil_of_le (by rw [len];exact Nat.le_refl _),pcs] at h;cases st with
    | none=>
      simp only [Option.getD_none,if_true,Bool.false_eq_true,if_false,Option.some.injEq] at h;subst h;simp [Lib.closeSpans]
    | some a=>
      have:=hst a rfl;rw [Option.getD_some,if_neg (by omega)] at h;cases h;simp [Lib.closeSpans]
theorem fields_words (s:ByteArray):Lib.goFieldsP runeP s=(words true s.data.toList).map ba:=by obtain ⟨sp,h⟩:=pcs_some (p:=sepB true) s.data.toList 0 0;have hs:spans true s.data.toList=some sp:=h;have:=spans_runes s s.size 0 none [] sp (by omega) (Nat.zero_le _) (fun a ha=>by cases ha) h;rw [List.nil_append] at this;rw [Lib.goFieldsP,Lib.spansOfP,this,words,if_pos rfl,hs,Option.getD_some,List.map_map];exact List.map_congr_left fun x _=>(ext_ba s x.1 x.2).symm
section code
set_option maxHeartbeats 1000000
attribute [local go_sem] Base.some_undef
theorem blankR_any (r:Nat) (w:World):Calls Tryz.prog 287 #[.int .i32 r] w fun e w'=>e=.returned (.bool (runeP r))∧w'=w:=by
 rcases Nat.lt_or_ge r 128 with h | h
 ·have h1:(r:Int)<128:=by omega
  have hc:IntKind.u8.wrap (r:Int)=(r:Int):=by show (r:Int)%256=r;omega
  have HB:=Lib.hid (fun w=>Oct.blank_any (r:Int) w);have e:runeP r=Oct.blank (r:Int):=by rw [runeP,decide_eq_true h];rfl
  rw [e];clear e;generalize Oct.blank (r:Int)=q at *;go_enter Tryz.func287,Tryz.ntmps287
  go_wp2_with (go_at_call 220;with_reducible refine (HB.out _).mono ?_;rintro e w1 ⟨rfl,hw⟩;rw [hw];clear hw);go_ret;exact ⟨rfl,rfl⟩
 ·have h1:¬(r:Int)<128:=by omega
  have e:runeP r=false:=by rw [runeP,decide_eq_false (by omega)];rfl
  rw [e];clear e;go_enter Tryz.func287,Tryz.ntmps287;go_wp2_with fail;go_ret;exact ⟨rfl,rfl⟩
theorem contains_any (a:Option Addr) (n cap:Nat) (ss:List ByteArray) (x:ByteArray) (r:Bool) (hr:r=true↔x∈ss) (w:World) (hv:Strs w a n ss) (hn:n≤maxLen) :
 Calls Tryz.prog 264 #[.slice a n cap,.string x] w fun e w'=>e=.returned (.bool r)∧w'=w:=by
 rcases Nat.eq_zero_or_pos n with h0 | h0
 ·subst h0;have:ss= []:=List.eq_nil_of_length_eq_zero hv.1;subst this;have hf:r=false:=by cases r with
   | false=>rfl
   | true=>exact absurd (hr.1 rfl) (by simp)
  rw [hf];exact Tryz.slices_Contains_string_empty a cap x w
 ·obtain ⟨b,off,rfl,_,hc⟩:=hv.2 h0;have hl:=hv.1;refine (Tryz.slices_Contains_string b off n cap ss x w (by omega) (by unfold maxLen at hn;omega) (fun j hj=>by rw [hc j (by omega)];simp [List.getD])).mono ?_;rintro e w' ⟨rfl,rfl⟩;refine ⟨ret_bool ?_,rfl⟩;rw [Lib.containsS_iff,List.take_of_length_le (by omega),hr]
theorem split_any (s:ByteArray) (p:Nat) (hp:p<4294967296) (w:World) (hs:s.size≤1000000000):Calls Tryz.prog 263 #[.string s,.int .u32 (p:Nat)] w fun e w'=>
 ∃a n c,e=.returned (.slice a n c)∧n=(words (Qk.has p 3) s.data.toList).length∧Strs w' a n ((words (Qk.has p 3) s.data.toList).map ba)∧Below w.heap.size w w':=by
 have H:=Lib.hid (fun w=>Qk.has_any p hp 3 w);generalize Qk.has p 3=q at *;cases q with
 | true=>
   have eg:∀args w,(callFunc 287 args).run Tryz.prog w=.ok (.enter 287 args) w:=enters_of Tryz.func287 (by kernel_rfl) rfl
   have HF:=Lib.hid (fun w=>Tryz.strings_FieldsFunc_runes 287 #[] eg runeP s w (by omega) (fun W x _ _=>(blankR_any x W).mono (by rintro e w' ⟨rfl,rfl⟩;exact ⟨rfl,0,rfl⟩)));rw [fields_words] at HF;simp only [List.length_map] at HF;generalize words true s.data.toList=W at *;go_enter Tryz.func263,Tryz.ntmps263
   go_wp2_with (first
    |(go_at_call 92;with_reducible refine (H.out _).mono ?_;rintro e w1 ⟨rfl,hw⟩;rw [hw];clear hw)
    |(go_at_call 286;with_reducible refine (HF.out _).mono ?_;rintro e w1 ⟨A,rfl,hA,hO,hb⟩))
   go_ret;obtain ⟨A',c',e1,e2⟩:=Strs.of_own hO;cases e1;exact ⟨_,_,_,rfl,rfl,e2,hb⟩
 | false=>
   have HF:=Lib.hid (fun w=>Txt.split_at 32 s w (by omega));have e:words false s.data.toList=parts 32 s.data.toList:=rfl;rw [e];clear e;generalize parts 32 s.data.toList=W at *;go_enter Tryz.func263,Tryz.ntmps263
   go_wp2_with (first
    |(go_at_call 92;with_reducible refine (H.out _).mono ?_;rintro e w1 ⟨rfl,hw⟩;rw [hw];clear hw)
    |(go_at_call 194;with_reducible refine (HF.out _).mono ?_;rintro e w1 ⟨n,k,rfl,rfl,hO,_,hb⟩))
   go_ret;exact ⟨_,_,_,rfl,rfl,hO,hb⟩
end code
end Go.Proofs.YtnabkcglnbdfeaaGreatDoor.Rq
namespace Go.Proofs.YtnabkcglnbdfeaaGreatDoor.Rq
open Go.RowKit Base Txt
theorem pcs_le {p:UInt8→Bool} {st:Bool}:∀(t:List UInt8) (i a:Nat) (sp:List (Nat × Nat)),pcs p st t i a=some sp→sp.length≤t.length+1
 | [],i,a,sp,h=>by
   simp only [pcs] at h;split at h
   ·split at h
    ·cases h
    ·cases h;simp
   ·cases h;simp
 | x::t,i,a,sp,h=>by
   simp only [pcs] at h;split at h
   ·split at h
    ·split at h
     ·cases h
     ·have:=pcs_le t _ _ sp h;simp;omega
    ·cases hq:pcs p st t (i+1) (i+1) with
     | none=>rw [hq] at h;cases h
     | some r=>
       rw [hq] at h;cases h;have:=pcs_le t _ _ r hq;simp;omega
   ·have:=pcs_le t _ _ sp h;simp;omega
theorem words_le (bl:Bool) (l:List UInt8):(words bl l).length≤l.length+1:=by
 cases bl with
 | false=>exact parts_le 32 l
 | true=>
   rw [words,if_pos rfl,List.length_map];cases h:spans true l with
   | none=>simp
   | some sp=>exact pcs_le l 0 0 sp h
theorem ba_inj {a b:List UInt8} (h:ba a=ba b):a=b:=by have:=congrArg (fun x:ByteArray=>x.data.toList) h;simpa [ba] using this
theorem mem_ba (W:List (List UInt8)):ByteArray.empty∈W.map ba↔ []∈W:=by
 rw [List.mem_map];constructor
 ·rintro ⟨x,hx,e⟩;have:x= []:=ba_inj (b:= []) e
  rwa [←this]
 ·intro h;exact ⟨[],h,rfl⟩
theorem ba_getD (W:List (List UInt8)) (k:Nat):(W.map ba)[k]?.getD ByteArray.empty=ba (W[k]?.getD []):=by rw [List.getElem?_map];cases W[k]?<;>rfl
theorem pick_three {c:Cl} {l:List UInt8} (h0: []∉words c.bl l) (h:((words c.bl l).length==3|| (decide (3<(words c.bl l).length)&&c.sp))=true) :
 pick c l=some ((words c.bl l)[0]?.getD [],between c.bl l ((words c.bl l)[0]?.getD []) ((words c.bl l)[(words c.bl l).length-1]?.getD []),(words c.bl l)[(words c.bl l).length-1]?.getD [])∧
 fits c.bl l ((words c.bl l)[0]?.getD []) ((words c.bl l)[(words c.bl l).length-1]?.getD []):=by
 rcases words_spans c.bl l with ⟨_,h1⟩ | ⟨sp,h1,h2,_⟩
 ·exact absurd h1 h0
 ·rw [h2,List.length_map] at h ⊢;have hn:3≤sp.length:=by
   simp only [Bool.or_eq_true,beq_iff_eq,Bool.and_eq_true,decide_eq_true_eq] at h;omega
  have e0:(sp.map (ext l))[0]?.getD []=ext l sp[0]:=by rw [List.getElem?_map,List.getElem?_eq_getElem (by omega)];rfl
  have e1:(sp.map (ext l))[sp.length-1]?.getD []=ext l sp[sp.length-1]:=by rw [List.getElem?_map,List.getElem?_eq_getElem (by omega)];rfl
  obtain ⟨m1,m2,_,_⟩:=between_mid h1 hn;rw [e0,e1,m1];refine ⟨?_,m2⟩;unfold pick;rw [h1];dsimp only;rw [if_pos h,getD_at sp 0 (by omega),getD_at sp 1 (by omega),getD_at sp _ (by omega),getD_at sp _ (by omega)]
theorem pick_two {c:Cl} {l:List UInt8} (h0: []∉words c.bl l) (h:((words c.bl l).length==2&&c.nv)=true) :
 pick c l=some ((words c.bl l)[0]?.getD [],(words c.bl l)[1]?.getD [],[]):=by
 rcases words_spans c.bl l with ⟨_,h1⟩ | ⟨sp,h1,h2,_⟩
 ·exact absurd h1 h0
 ·rw [h2,List.length_map] at h;rw [h2];have hn:sp.length=2:=by
   simp only [beq_iff_eq,Bool.and_eq_true] at h;exact h.1
  have e0:(sp.map (ext l))[0]?.getD []=ext l sp[0]:=by rw [List.getElem?_map,List.getElem?_eq_getElem (by omega)];rfl
  have e1:(sp.map (ext l))[1]?.getD []=ext l sp[1]:=by rw [List.getElem?_map,List.getElem?_eq_getElem (by omega)];rfl
  rw [e0,e1];unfold pick;rw [h1];dsimp only;rw [if_neg (by rw [hn];simp),if_pos h,getD_at sp 0 (by omega),getD_at sp 1 (by omega)]
theorem pick_not {c:Cl} {l:List UInt8} (h: []∈words c.bl l∨((words c.bl l).length==3|| (decide (3<(words c.bl l).length)&&c.sp))=false∧((words c.bl l).length==2&&c.nv)=false):pick c l=none:=by
 rcases words_spans c.bl l with ⟨h1,_⟩ | ⟨sp,h1,h2,h3⟩
 ·unfold pick;rw [h1]
 ·rcases h with h | ⟨g1,g2⟩
  ·exact absurd h h3
  ·rw [h2,List.length_map] at g1 g2;unfold pick;rw [h1];dsimp only;rw [if_neg (by rw [g1];decide),if_neg (by rw [g2];decide)]
def pv:Option (List UInt8 × List UInt8 × List UInt8)→Value
 | none=>.tuple #[.string ⟨#[]⟩,.string ⟨#[]⟩,.string ⟨#[]⟩,.bool false]
 | some (m,t,v)=>.tuple #[.string (ba m),.string (ba t),.string (ba v),.bool true]
section code
set_option maxHeartbeats 1000000
attribute [local go_sem] Base.some_undef
theorem between_ba (s:ByteArray) (x y:List UInt8) (p:Nat) (hp:p<4294967296) (w:World) (hs:s.size≤1000000000) (hf:fits (Qk.has p 3) s.data.toList x y) :
 Calls Tryz.prog 265 #[.string s,.string (ba x),.string (ba y),.int .u32 (p:Nat)] w fun e w'=>e=.returned (.string (ba (between (Qk.has p 3) s.data.toList x y)))∧w'=w:=
 between_any s (ba x) (ba y) p hp w hs hf
set_option maxRecDepth 10000 in
theorem parts_any (s:ByteArray) (p:Nat) (hp:p<4294967296) (w:World) (hs:s.size≤900000000):Calls Tryz.prog 243 #[.string s,.int .u32 (p:Nat)] w fun e w'=>
 e=.returned (pv (pick (clOf p) s.data.toList))∧Below w.heap.size w w':=by
 have HS:=Lib.hid (fun w=>split_any s p hp w (by omega))
 have H7:=Lib.hid (fun w=>Qk.has_any p hp 7 w)
 have H6:=Lib.hid (fun w=>Qk.has_any p hp 6 w);have hwl:=words_le (Qk.has p 3) s.data.toList;rw [len] at hwl;have hC:∀r:Bool,(r=true↔ []∈words (Qk.has p 3) s.data.toList)→Hid (∀w a n c,Strs w a n ((words (Qk.has p 3) s.data.toList).map ba)→n≤900000001→Calls Tryz.prog 264 #[.slice a n c,.string ⟨#[]⟩] w fun e w'=>e=.returned (.bool r)∧w'=w):=
  fun r hr=>Lib.hid fun w a n c hv hn=>contains_any a n c _ ByteArray.empty r (by rw [mem_ba];exact hr) w hv (by unfold maxLen;omega)
 by_cases h0: []∈words (Qk.has p 3) s.data.toList
 ·rw [pick_not (c:=clOf p) (.inl h0)];have HC:=hC true ⟨fun _=>h0,fun _=>rfl⟩;clear hC h0 H7 H6;generalize words (Qk.has p 3) s.data.toList=W at *;go_enter Tryz.func243,Tryz.ntmps243
  go_wp2_with (first
   |(go_at_call 263;with_reducible refine (HS.out _).mono ?_;rintro e w1 ⟨a,n,c,rfl,rfl,hO,hb⟩)
   |(go_at_call 264;with_reducible refine (HC.out _ _ _ _ hO (by omega)).mono ?_;rintro e w2 ⟨rfl,hw⟩;rw [hw];clear hw))
  exact bodyPost_ret (v:=.tuple #[.string ⟨#[]⟩,.string ⟨#[]⟩,.string ⟨#[]⟩,.bool false]) (by simp [results,Tryz.results243,go_sem]) rfl ⟨rfl,hb⟩
 ·have HC:=hC false ⟨fun h=>by (cases h),fun h=>absurd h h0⟩;clear hC;by_cases h3:((words (Qk.has p 3) s.data.toList).length==3|| (decide (3<(words (Qk.has p 3) s.data.toList).length)&&Qk.has p 7))=true
  ·obtain ⟨hpk,hf⟩:=pick_three (c:=clOf p) h0 h3;have hpk':pick (clOf p) s.data.toList=some ((words (Qk.has p 3) s.data.toList)[0]?.getD [],between (Qk.has p 3) s.data.toList ((words (Qk.has p 3) s.data.toList)[0]?.getD []) ((words (Qk.has p 3) s.data.toList)[(words (Qk.has p 3) s.data.toList).length-1]?.getD []),(words (Qk.has p 3) s.data.toList)[(words (Qk.has p 3) s.data.toList).length-1]?.getD []):=hpk;rw [hpk'];clear hpk hpk'
   have HB:=Lib.hid (fun w=>between_ba s ((words (Qk.has p 3) s.data.toList)[0]?.getD []) ((words (Qk.has p 3) s.data.toList)[(words (Qk.has p 3) s.data.toList).length-1]?.getD []) p hp w (by omega) hf);have hX:Hid (∀w a n,Strs w a n ((words (Qk.has p 3) s.data.toList).map ba)→0<n→∃b off,a=some ⟨b,off,none⟩∧w.cell? ⟨b,off,none⟩=some (.string (ba ((words (Qk.has p 3) s.data.toList)[0]?.getD [])))∧w.cell? ⟨b,off+(n-1),none⟩=some (.string (ba ((words (Qk.has p 3) s.data.toList)[(words (Qk.has p 3) s.data.toList).length-1]?.getD [])))):=Lib.hid fun w a n hv hn=>by
    obtain ⟨b,off,e,_,hc⟩:=hv.2 hn;have hl:=hv.1;rw [List.length_map] at hl;have c0:=hc 0 hn
    have c1:=hc (n-1) (by omega);rw [ba_getD] at c0 c1;rw [hl];exact ⟨b,off,e,c0,c1⟩
   clear hf h0;generalize between (Qk.has p 3) s.data.toList ((words (Qk.has p 3) s.data.toList)[0]?.getD []) ((words (Qk.has p 3) s.data.toList)[(words (Qk.has p 3) s.data.toList).length-1]?.getD [])=T at *;obtain ⟨x0,hx0⟩:∃x0,(words (Qk.has p 3) s.data.toList)[0]?.getD []=x0:=⟨_,rfl⟩;obtain ⟨x1,hx1⟩:∃x1,(words (Qk.has p 3) s.data.toList)[(words (Qk.has p 3) s.data.toList).length-1]?.getD []=x1:=⟨_,rfl⟩;rw [hx0,hx1] at hX HB ⊢;clear hx0 hx1;generalize words (Qk.has p 3) s.data.toList=W at *;obtain ⟨n,hn⟩:∃n,W.length=n:=⟨_,rfl⟩;rw [hn] at h3 hwl HS;clear hn;have h3':n=3∨(¬(n:Int)=3∧(3:Int)<(n:Int)∧Qk.has p 7=true):=by
    simp only [Bool.or_eq_true,beq_iff_eq,Bool.and_eq_true,decide_eq_true_eq] at h3;rcases h3 with h | ⟨h1,h2⟩
    ·exact .inl h
    ·exact .inr ⟨by omega,by omega,h2⟩
   clear h3;rcases h3' with rfl | ⟨g1,g2,g3⟩
   ·have i0:0<3:=by omega
    have i1:IntKind.i64.wrap ((3:Int)-1)=2:=by decide
    go_enter Tryz.func243,Tryz.ntmps243
    go_wp2_with (first
     |(go_at_call 263;with_reducible refine (HS.out _).mono ?_;rintro e w1 ⟨a,m,c,rfl,rfl,hO,hb⟩;obtain ⟨b,off,rfl,c0,c1⟩:=hX.out _ _ _ hO (by omega))
     |(go_at_call 264;with_reducible refine (HC.out _ _ _ _ hO (by omega)).mono ?_;rintro e w2 ⟨rfl,hw⟩;rw [hw];clear hw))
    go_quiet (first |(go_at_call 265;exact Calls.quiet_of_same (HB.out _)));rename_i nq;go_wp2;exact bodyPost_ret (v:=.tuple #[.string (ba x0),.string (ba T),.string (ba x1),.bool true]) (by simp [results,Tryz.results243,go_sem]) rfl ⟨rfl,Base.below_drewN hb nq⟩
   ·rw [g3] at H7;clear g3;have i0:0<n:=by omega
    obtain ⟨k,hk⟩:∃k,n-1=k:=⟨_,rfl⟩;have i1:IntKind.i64.wrap ((n:Int)-1)=(k:Int):=by rw [wrap_in _ (by omega) (by omega)];omega
    have i2:(k:Int)<(n:Int):=by omega
    have i3:k<n:=by omega
    have HK:=Lib.hid hk;clear hk;go_enter Tryz.func243,Tryz.ntmps243
    go_wp2_with (first
     |(go_at_call 263;with_reducible refine (HS.out _).mono ?_;rintro e w1 ⟨a,m,c,rfl,rfl,hO,hb⟩;obtain ⟨b,off,rfl,c0,c1⟩:=hX.out _ _ _ hO (by omega);rw [HK.out] at c1)
     |(go_at_call 264;with_reducible refine (HC.out _ _ _ _ hO (by omega)).mono ?_;rintro e w2 ⟨rfl,hw⟩;rw [hw];clear hw)
     |(go_at_call 92;with_reducible refine (H7.out _).mono ?_;rintro e w2 ⟨rfl,hw⟩;rw [hw];clear hw))
    go_quiet (first |(go_at_call 265;exact Calls.quiet_of_same (HB.out _)));rename_i nq;go_wp2;exact bodyPost_ret (v:=.tuple #[.string (ba x0),.string (ba T),.string (ba x1),.bool true]) (by simp [results,Tryz.results243,go_sem]) rfl ⟨rfl,Base.below_drewN hb nq⟩
  ·have h3f:((words (Qk.has p 3) s.data.toList).length==3|| (decide (3<(words (Qk.has p 3) s.data.toList).length)&&Qk.has p 7))=false:=by simpa using h3
   clear h3;by_cases h2:((words (Qk.has p 3) s.data.toList).length==2&&Qk.has p 6)=true
   ·have hpk:=pick_two (c:=clOf p) h0 h2;have hpk':pick (clOf p) s.data.toList=some ((words (Qk.has p 3) s.data.toList)[0]?.getD [],(words (Qk.has p 3) s.data.toList)[1]?.getD [],[]):=hpk;rw [hpk'];clear hpk hpk' h3f H7 h0;simp only [Bool.and_eq_true,beq_iff_eq] at h2;have hX:Hid (∀w a n,Strs w a n ((words (Qk.has p 3) s.data.toList).map ba)→1<n→∃b off,a=some ⟨b,off,none⟩∧w.cell? ⟨b,off,none⟩=some (.string (ba ((words (Qk.has p 3) s.data.toList)[0]?.getD [])))∧w.cell? ⟨b,off+1,none⟩=some (.string (ba ((words (Qk.has p 3) s.data.toList)[1]?.getD [])))):=Lib.hid fun w a n hv hn=>by
     obtain ⟨b,off,e,_,hc⟩:=hv.2 (by omega)
     have c0:=hc 0 (by omega);have c1:=hc 1 hn;rw [ba_getD] at c0 c1;exact ⟨b,off,e,c0,c1⟩
    obtain ⟨x0,hx0⟩:∃x0,(words (Qk.has p 3) s.data.toList)[0]?.getD []=x0:=⟨_,rfl⟩;obtain ⟨x1,hx1⟩:∃x1,(words (Qk.has p 3) s.data.toList)[1]?.getD []=x1:=⟨_,rfl⟩;rw [hx0,hx1] at hX ⊢;rw [h2.1] at HS;rw [h2.2] at H6;clear hx0 hx1 h2;generalize words (Qk.has p 3) s.data.toList=W at *;go_enter Tryz.func243,Tryz.ntmps243
    go_wp2_with (first
     |(go_at_call 263;with_reducible refine (HS.out _).mono ?_;rintro e w1 ⟨a,m,c,rfl,rfl,hO,hb⟩;obtain ⟨b,off,rfl,c0,c1⟩:=hX.out _ _ _ hO (by omega))
     |(go_at_call 264;with_reducible refine (HC.out _ _ _ _ hO (by omega)).mono ?_;rintro e w2 ⟨rfl,hw⟩;rw [hw];clear hw)
     |(go_at_call 92;with_reducible refine (H6.out _).mono ?_;rintro e w2 ⟨rfl,hw⟩;rw [hw];clear hw))
    go_quiet (fail);rename_i nq;go_wp2;exact bodyPost_ret (v:=.tuple #[.string (ba x0),.string (ba x1),.string ⟨#[]⟩,.bool true]) (by simp [results,Tryz.results243,go_sem]) rfl ⟨rfl,Base.below_drewN hb nq⟩
   ·have h2f:((words (Qk.has p 3) s.data.toList).length==2&&Qk.has p 6)=false:=by simpa using h2
    rw [pick_not (c:=clOf p) (.inr ⟨h3f,h2f⟩)];clear h2;generalize words (Qk.has p 3) s.data.toList=W at *;obtain ⟨n,hn⟩:∃n,W.length=n:=⟨_,rfl⟩;rw [hn] at h3f h2f hwl HS;clear hn h0;have h4:(¬(n:Int)=3∧(3:Int)<(n:Int)∧¬(n:Int)=2∧Qk.has p 7=false)∨(n=2∧Qk.has p 6=false)∨(¬(n:Int)=3∧¬(3:Int)<(n:Int)∧¬(n:Int)=2):=by
     simp only [Bool.or_eq_false_iff,Bool.and_eq_false_iff,beq_eq_false_iff_ne,decide_eq_false_iff_not] at h3f h2f;by_cases q:3<n
     ·exact .inl ⟨by omega,by omega,by omega,h3f.2.resolve_left fun h=>h q⟩
     ·by_cases q2:n=2
      ·exact .inr (.inl ⟨q2,h2f.resolve_left fun h=>h q2⟩)
      ·exact .inr (.inr ⟨by omega,by omega,by omega⟩)
    clear h3f h2f;rcases h4 with ⟨g1,g2,g3,g4⟩ | ⟨rfl,g4⟩ | ⟨g1,g2,g3⟩;all_goals
     try rw [g4] at H7
     try rw [g4] at H6
     try clear g4
     go_enter Tryz.func243,Tryz.ntmps243
     go_wp2_with (first
      |(go_at_call 263;with_reducible refine (HS.out _).mono ?_;rintro e w1 ⟨a,m,c,rfl,rfl,hO,hb⟩)
      |(go_at_call 264;with_reducible refine (HC.out _ _ _ _ hO (by omega)).mono ?_;rintro e w2 ⟨rfl,hw⟩;rw [hw];clear hw)
      |(go_at_call 92;with_reducible refine (H7.out _).mono ?_;rintro e w2 ⟨rfl,hw⟩;rw [hw];clear hw)
      |(go_at_call 92;with_reducible refine (H6.out _).mono ?_;rintro e w2 ⟨rfl,hw⟩;rw [hw];clear hw))
     exact bodyPost_ret (v:=.tuple #[.string ⟨#[]⟩,.string ⟨#[]⟩,.string ⟨#[]⟩,.bool false]) (by simp [results,Tryz.results243,go_sem]) rfl ⟨rfl,hb⟩
end code
end Go.Proofs.YtnabkcglnbdfeaaGreatDoor.Rq
namespace Go.Proofs.YtnabkcglnbdfeaaGreatDoor.Rq
open Go.RowKit Base Txt
theorem verL_01 {c:Cl} {v:List UInt8} {k:Nat} (h:verL c v=some k):k=0∨k=1:=by
 unfold verL at h;split at h
 ·cases h;exact .inl rfl
 ·split at h
  ·split at h
   ·cases h;exact .inl rfl
   ·split at h
    ·cases h;exact .inr rfl
    ·cases h
  ·cases h
theorem all_take (q:UInt8→Bool) (l:List UInt8) (k:Nat) (h:k<l.length) (h1:(l.take k).all q=true) (h2:q l[k]=true):(l.take (k+1)).all q=true:=by rw [List.take_succ_eq_append_getElem h,List.all_append,h1];simp [h2]
theorem all_not (q:UInt8→Bool) (l:List UInt8) (k:Nat) (h:k<l.length) (h2:q l[k]=false):l.all q=false:=by rw [List.all_eq_false];exact ⟨l[k],List.getElem_mem h,by rw [h2];decide⟩
def rv (r:List UInt8 × List UInt8 × Nat × Nat):Value:=.tuple #[.string (ba r.1),.string (ba r.2.1),.int .i64 (r.2.2.1:Nat),.int .i64 (r.2.2.2:Nat)]
section code
set_option maxHeartbeats 1000000
attribute [local go_sem] Base.some_undef
set_option maxRecDepth 10000 in
theorem isTarget_any (m t:ByteArray) (p:Nat) (hp:p<4294967296) (w:World) (ht:t.size≤900000000):Calls Tryz.prog 245 #[.string m,.string t,.int .u32 (p:Nat)] w fun e w'=>
 e=.returned (.bool (tgtOk (clOf p) m.data.toList t.data.toList))∧Below w.heap.size w w':=by
 have H7:=Lib.hid (fun w=>Qk.has_any p hp 7 w)
 have H8:=Lib.hid (fun w=>Qk.has_any p hp 8 w)
 have HT:=Lib.hid (fun w=>Tgt.parse_any m t w ht);have hlets:∀x,letsT (clOf p) x=(Oct.visible (x.toNat:Int)|| (Qk.has p 7&&Oct.blank (x.toNat:Int)||Qk.has p 8&&Oct.control (x.toNat:Int))):=fun _=>rfl;have hok:tgtOk (clOf p) m.data.toList t.data.toList=((t.data.toList.all (letsT (clOf p)))&&(Qk.has p 7||Qk.has p 8|| (Tgt.parse m.data.toList t.data.toList).isSome)):=rfl;rw [hok];clear hok;generalize hq:letsT (clOf p)=q at *;clear hq;have HL:=Lib.hid hlets;clear hlets;generalize Qk.has p 7=sp at *;generalize Qk.has p 8=co at *;have hans:∃(f:Int) (h1 p1 q1:ByteArray) (a:Bool) (en:Int),Tgt.ans (Tgt.parse m.data.toList t.data.toList)=.tuple #[Tgt.tv f h1 p1 q1 a,.int .i64 en]∧(en=0∧(Tgt.parse m.data.toList t.data.toList).isSome=true∨en=400∧(Tgt.parse m.data.toList t.data.toList).isSome=false):=by
  cases Tgt.parse m.data.toList t.data.toList with
  | none=>exact ⟨0,Tgt.E0,Tgt.E0,Tgt.E0,false,400,rfl,.inr ⟨rfl,rfl⟩⟩
  | some g=>exact ⟨_,_,_,_,_,0,rfl,.inl ⟨rfl,rfl⟩⟩
 obtain ⟨f,h1,p1,q1,ta,en,hE,hen⟩:=hans;rw [hE] at HT;clear hE;generalize (Tgt.parse m.data.toList t.data.toList).isSome=ok at *;have HEN:=Lib.hid hen;clear hen;cases sp<;>cases co;all_goals
  go_enter Tryz.func245,Tryz.ntmps245
  go_upto_region 3 with (first
   |(go_at_call 92;with_reducible refine (H7.out _).mono ?_;rintro e w1 ⟨rfl,hw⟩;rw [hw];clear hw)
   |(go_at_call 92;with_reducible refine (H8.out _).mono ?_;rintro e w1 ⟨rfl,hw⟩;rw [hw];clear hw))
  go_loopw [19] (fun i wr=>∃k:Nat,k≤t.size∧i=.int .i64 k∧wr=w∧Hid ((t.data.toList.take k).all q=true)) (fun i _=>t.size-(intOf i).toNat)
  case atStart=>exact ⟨0,Nat.zero_le _,rfl,rfl,Lib.hid rfl⟩
  case round=>
   obtain ⟨k,hk,rfl,hwr,hpre⟩:=hrel;subst hwr;rcases Nat.lt_or_ge k t.size with hlt | hge
   ·have i1:(k:Int)<(t.size:Int):=by omega
    have HQ:=Lib.hid (HL.out (t[k]))
    have HS:=Lib.hid (all_take q t.data.toList k (by rw [len];exact hlt) hpre.out)
    have HN:=Lib.hid (all_not q t.data.toList k (by rw [len];exact hlt));have hgt:t.data.toList[k]'(by rw [len];exact hlt)=t[k]:=rfl;rw [hgt] at HS HN;clear hgt;obtain ⟨b,hb⟩:∃b,t[k]=b:=⟨_,rfl⟩;have hn:∀hh,t[k]'hh=b:=fun _=>hb;rw [hb] at HQ HS HN;clear hb
    have HV:=Lib.hid (fun w=>Oct.visible_any (b.toNat:Int) w)
    have HB:=Lib.hid (fun w=>Oct.blank_any (b.toNat:Int) w)
    have HC:=Lib.hid (fun w=>Oct.control_any (b.toNat:Int) w);generalize Oct.visible (b.toNat:Int)=v at *;generalize Oct.blank (b.toNat:Int)=bk at *;generalize Oct.control (b.toNat:Int)=ct at *;cases v
    ·cases bk<;>cases ct;all_goals
      go_wp2_with (first
       |(go_at_call 267;with_reducible refine (HV.out _).mono ?_;rintro e w1 ⟨rfl,hw⟩;rw [hw];clear hw)
       |(go_at_call 220;with_reducible refine (HB.out _).mono ?_;rintro e w1 ⟨rfl,hw⟩;rw [hw];clear hw)
       |(go_at_call 268;with_reducible refine (HC.out _).mono ?_;rintro e w1 ⟨rfl,hw⟩;rw [hw];clear hw))
      first
       |(go_ret;exact ⟨by rw [HN.out (by rw [HQ.out];rfl)];rfl,Below.refl _ _⟩)
       |(go_roundw
         case rel=>exact ⟨k+1,by omega,by go_num,by first | rfl | trivial,Lib.hid (HS.out (by rw [HQ.out];rfl))⟩
         case measure=>simp [intOf];omega)
    ·go_wp2_with (go_at_call 267;with_reducible refine (HV.out _).mono ?_;rintro e w1 ⟨rfl,hw⟩;rw [hw];clear hw);go_roundw
     case rel=>exact ⟨k+1,by omega,by go_num,by first | rfl | trivial,Lib.hid (HS.out (by rw [HQ.out];rfl))⟩
     case measure=>simp [intOf];omega
   ·obtain rfl:k=t.size:=by omega
    have hall:=hpre.out;rw [take_all t _ (Nat.le_refl _)] at hall;have HALL:=Lib.hid hall;clear hpre hall HL
    go_wp2_with (go_at_call 269;with_reducible refine (HT.out _).mono ?_;rintro e w1 ⟨rfl,hb⟩);go_ret;rw [HALL.out];rcases HEN.out with ⟨rfl,rfl⟩ | ⟨rfl,rfl⟩;all_goals first
     | exact ⟨rfl,Below.refl _ _⟩
     | exact ⟨rfl,hb.alloc hb.size _⟩
     | exact ⟨rfl,hb⟩
set_option maxRecDepth 10000 in
theorem parse_any (s:ByteArray) (p:Nat) (hp:p<4294967296) (x0 x1 x2 x3 x4 x5 x6 x7:Int) (ch old:Bool) (w:World) (hs:s.size≤900000000) :
 Calls Tryz.prog 227 #[.string s,.int .u32 (p:Nat),Bnd.bnd x0 x1 x2 x3 x4 x5 x6 x7 ch old] w fun e w'=>e=.returned (rv (request (clOf p) old s.data.toList))∧Below w.heap.size w w':=by
 have HP:=Lib.hid (fun w=>parts_any s p hp w hs)
 have HA:=Lib.hid (Bnd.At.new w 29 x0 x1 x2 x3 x4 x5 x6 x7 ch old)
 have HG:=Lib.hid (show w.heap.size<(w.alloc (.cells #[.int .i64 x0,.int .i64 x1,.int .i64 x2,.int .i64 x3,.int .i64 x4,.int .i64 x5,.int .i64 x6,.int .i64 x7,.bool ch,.bool old] 29)).heap.size by simp)
 have HW:=Lib.hid (show Below w.heap.size w (w.alloc (.cells #[.int .i64 x0,.int .i64 x1,.int .i64 x2,.int .i64 x3,.int .i64 x4,.int .i64 x5,.int .i64 x6,.int .i64 x7,.bool ch,.bool old] 29)) from (Below.refl _ _).alloc (Nat.le_refl _) _);have hR:∃R,request (clOf p) old s.data.toList=R:=⟨_,rfl⟩;obtain ⟨R,hR⟩:=hR;rw [hR];unfold request at hR;cases hpk:pick (clOf p) s.data.toList with
 | none=>
   rw [hpk] at hR HP;dsimp only [pv] at HP;subst hR;clear hpk;go_enter Tryz.func227,Tryz.ntmps227
   go_wp2_with (go_at_call 243;with_reducible refine (HP.out _).mono ?_;rintro e w1 ⟨rfl,hb⟩);exact bodyPost_ret (v:=.tuple #[.string ⟨#[]⟩,.string ⟨#[]⟩,.int .i64 0,.int .i64 400]) (by simp [results,Tryz.results227,go_sem]) rfl ⟨rfl,Base.below_step HW.out hb⟩
 | some mtv=>
   obtain ⟨m,t,v⟩:=mtv;obtain ⟨z1,z2,z3,z4,z5⟩:=pick_some hpk;rw [len] at z2 z4 z5;rw [hpk] at hR HP;dsimp only [pv] at HP;dsimp only at hR;clear hpk
   have HM:=Lib.hid (fun w=>method_any (ba m) w (by rw [ba_size];exact z1))
   have HT:=Lib.hid (fun w=>isTarget_any (ba m) (ba t) p hp w (by rw [ba_size];omega))
   have HV:=Lib.hid (fun w=>minorOf_any (ba v) p hp w);have b1:(ba m).data.toList=m:=rfl;have b2:(ba t).data.toList=t:=rfl;have b3:(ba v).data.toList=v:=rfl;rw [b1] at HM;rw [b1,b2] at HT;rw [b3] at HV;clear b1 b2 b3 z1 z2 z3 z4 z5;generalize methOk m=mo at *;generalize tgtOk (clOf p) m t=tk at *;cases mo with
   | false=>
     rw [Bool.false_and,if_neg (by decide)] at hR;subst hR;clear HT HV;go_enter Tryz.func227,Tryz.ntmps227
     go_wp2_with (first
      |(go_at_call 243;with_reducible refine (HP.out _).mono ?_;rintro e w1 ⟨rfl,hb⟩)
      |(go_at_call 244;with_reducible refine (HM.out _).mono ?_;rintro e w2 ⟨rfl,hb2⟩;replace hb:=Base.below_step hb hb2;clear hb2))
     exact bodyPost_ret (v:=.tuple #[.string ⟨#[]⟩,.string ⟨#[]⟩,.int .i64 0,.int .i64 400]) (by simp [results,Tryz.results227,go_sem]) rfl ⟨rfl,Base.below_step HW.out hb⟩
   | true=>
     cases tk with
     | false=>
       rw [Bool.and_false,if_neg (by decide)] at hR;subst hR;clear HV;go_enter Tryz.func227,Tryz.ntmps227
       go_wp2_with (first
        |(go_at_call 243;with_reducible refine (HP.out _).mono ?_;rintro e w1 ⟨rfl,hb⟩)
        |(go_at_call 244;with_reducible refine (HM.out _).mono ?_;rintro e w2 ⟨rfl,hb2⟩;replace hb:=Base.below_step hb hb2;clear hb2)
        |(go_at_call 245;with_reducible refine (HT.out _).mono ?_;rintro e w3 ⟨rfl,hb2⟩;replace hb:=Base.below_step hb hb2;clear hb2))
       exact bodyPost_ret (v:=.tuple #[.string ⟨#[]⟩,.string ⟨#[]⟩,.int .i64 0,.int .i64 400]) (by simp [results,Tryz.results227,go_sem]) rfl ⟨rfl,Base.below_step HW.out hb⟩
     | true=>
       rw [Bool.and_true,if_pos rfl] at hR;cases hv:verL (clOf p) v with
       | none=>
         rw [hv] at hR HV;dsimp only at hR;subst hR;clear hv;go_enter Tryz.func227,Tryz.ntmps227
         go_wp2_with (first
          |(go_at_call 243;with_reducible refine (HP.out _).mono ?_;rintro e w1 ⟨rfl,hb⟩)
          |(go_at_call 244;with_reducible refine (HM.out _).mono ?_;rintro e w2 ⟨rfl,hb2⟩;replace hb:=Base.below_step hb hb2;clear hb2)
          |(go_at_call 245;with_reducible refine (HT.out _).mono ?_;rintro e w3 ⟨rfl,hb2⟩;replace hb:=Base.below_step hb hb2;clear hb2)
          |(go_at_call 246;with_reducible refine (HV.out _).mono ?_;rintro e w4 ⟨rfl,hb2⟩;replace hb:=Base.below_step hb hb2;clear hb2))
         exact bodyPost_ret (v:=.tuple #[.string ⟨#[]⟩,.string ⟨#[]⟩,.int .i64 0,.int .i64 505]) (by simp [results,Tryz.results227,go_sem]) rfl ⟨rfl,Base.below_step HW.out hb⟩
       | some k=>
         have h01:=verL_01 hv;rw [hv] at hR HV;dsimp only at hR;clear hv;rcases h01 with rfl | rfl
         ·cases old with
          | false=>
            rw [if_pos (by decide)] at hR;subst hR;go_enter Tryz.func227,Tryz.ntmps227
            go_wp2_with (first
             |(go_at_call 243;with_reducible refine (HP.out _).mono ?_;rintro e w1 ⟨rfl,hb⟩)
             |(go_at_call 244;with_reducible refine (HM.out _).mono ?_;rintro e w2 ⟨rfl,hb2⟩;replace hb:=Base.below_step hb hb2;clear hb2)
             |(go_at_call 245;with_reducible refine (HT.out _).mono ?_;rintro e w3 ⟨rfl,hb2⟩;replace hb:=Base.below_step hb hb2;clear hb2)
             |(go_at_call 246;with_reducible refine (HV.out _).mono ?_;rintro e w4 ⟨rfl,hb2⟩;replace hb:=Base.below_step hb hb2;clear hb2;obtain ⟨_,_,_,_,_,_,_,_,_,q9⟩:=HA.out.below HG.out hb))
            exact bodyPost_ret (v:=.tuple #[.string ⟨#[]⟩,.string ⟨#[]⟩,.int .i64 0,.int .i64 505]) (by simp [results,Tryz.results227,go_sem]) rfl ⟨rfl,Base.below_step HW.out hb⟩
          | true=>
            rw [if_neg (by decide)] at hR;subst hR;go_enter Tryz.func227,Tryz.ntmps227
            go_wp2_with (first
             |(go_at_call 243;with_reducible refine (HP.out _).mono ?_;rintro e w1 ⟨rfl,hb⟩)
             |(go_at_call 244;with_reducible refine (HM.out _).mono ?_;rintro e w2 ⟨rfl,hb2⟩;replace hb:=Base.below_step hb hb2;clear hb2)
             |(go_at_call 245;with_reducible refine (HT.out _).mono ?_;rintro e w3 ⟨rfl,hb2⟩;replace hb:=Base.below_step hb hb2;clear hb2)
             |(go_at_call 246;with_reducible refine (HV.out _).mono ?_;rintro e w4 ⟨rfl,hb2⟩;replace hb:=Base.below_step hb hb2;clear hb2;obtain ⟨_,_,_,_,_,_,_,_,_,q9⟩:=HA.out.below HG.out hb))
            exact bodyPost_ret (v:=.tuple #[.string (ba m),.string (ba t),.int .i64 0,.int .i64 0]) (by simp [results,Tryz.results227,go_sem]) rfl ⟨rfl,Base.below_step HW.out hb⟩
         ·rw [if_neg (by simp)] at hR;subst hR;go_enter Tryz.func227,Tryz.ntmps227
          go_wp2_with (first
           |(go_at_call 243;with_reducible refine (HP.out _).mono ?_;rintro e w1 ⟨rfl,hb⟩)
           |(go_at_call 244;with_reducible refine (HM.out _).mono ?_;rintro e w2 ⟨rfl,hb2⟩;replace hb:=Base.below_step hb hb2;clear hb2)
           |(go_at_call 245;with_reducible refine (HT.out _).mono ?_;rintro e w3 ⟨rfl,hb2⟩;replace hb:=Base.below_step hb hb2;clear hb2)
           |(go_at_call 246;with_reducible refine (HV.out _).mono ?_;rintro e w4 ⟨rfl,hb2⟩;replace hb:=Base.below_step hb hb2;clear hb2))
          exact bodyPost_ret (v:=.tuple #[.string (ba m),.string (ba t),.int .i64 1,.int .i64 0]) (by simp [results,Tryz.results227,go_sem]) rfl ⟨rfl,Base.below_step HW.out hb⟩
def lineOf (m t:ByteArray):ByteArray:=((((m ++⟨#[32]⟩)++t) ++⟨#[32]⟩) ++⟨#[72,84,84,80,47,49,46]⟩) ++⟨#[49]⟩
theorem lineOf_list (m t:ByteArray):(lineOf m t).data.toList=m.data.toList++32::(t.data.toList ++ [32,72,84,84,80,47,49,46,49]):=by simp [lineOf,ByteArray.data_append]
end code
end Go.Proofs.YtnabkcglnbdfeaaGreatDoor.Rq
namespace Go.Proofs.YtnabkcglnbdfeaaGreatDoor.Rq
open Go.RowKit Base Txt
def c0:Cl:=⟨false,false,false,false,false,false⟩
theorem clOf_zero:clOf 0=c0:=by simp only [clOf,c0,Cl.mk.injEq];decide
theorem join3 {l a b d:List UInt8} (h:parts 32 l= [a,b,d]):l=a++32::(b++32::d):=by
 have key:∀l:List UInt8,∀x r,parts 32 l=x::r→(r= []∧l=x)∨∃t,l=x++32::t∧parts 32 t=r:=by
  intro l
  induction l with
  | nil=>intro x r h;rw [parts] at h;cases h;exact .inl ⟨rfl,rfl⟩
  | cons c l ih=>
    intro x r h;rw [parts] at h;by_cases hc:c=32
    ·rw [if_pos hc] at h;cases h;exact .inr ⟨l,by rw [hc];rfl,rfl⟩
    ·rw [if_neg hc] at h;cases hp:parts 32 l with
     | nil=>have:=parts_length 32 l;rw [hp] at this;simp at this
     | cons y s=>
       rw [hp] at h;simp only [List.cons.injEq] at h;obtain ⟨h1,h2⟩:=h;rcases ih y s hp with ⟨g1,g2⟩ | ⟨t,g1,g2⟩
       ·exact .inl ⟨by rw [←h2,g1],by rw [←h1,g2]⟩
       ·exact .inr ⟨t,by rw [←h1,g1];rfl,by rw [g2,h2]⟩
 rcases key l a [b,d] h with ⟨h1,_⟩ | ⟨t,h1,h2⟩
 ·cases h1
 ·rcases key t b [d] h2 with ⟨g1,_⟩ | ⟨u,g1,g2⟩
  ·cases g1
  ·rcases key u d [] g2 with ⟨_,k2⟩ | ⟨v,k1,k2⟩
   ·rw [h1,g1,k2]
   ·have:=parts_length 32 v;rw [k2] at this;simp at this
theorem pick_c0 {l m t v:List UInt8} (h:pick c0 l=some (m,t,v)):(∃sp,spans false l=some sp∧sp.length=3∧m=ext l (sp.getD 0 (0,0))∧t=ext l ((sp.getD 1 (0,0)).1,(sp.getD 1 (0,0)).2)∧v=ext l (sp.getD 2 (0,0)))∧l=m++32::(t++32::v):=by
 unfold pick at h;cases hs:spans c0.bl l with
 | none=>rw [hs] at h;cases h
 | some sp=>
   have hs':spans false l=some sp:=hs;rw [hs] at h;dsimp only at h;have h3:sp.length=3:=by
    by_cases hc:(sp.length==3|| (decide (3<sp.length)&&c0.sp))=true
    ·simpa [c0] using hc
    ·rw [if_neg hc,if_neg (by simp [c0])] at h;cases h
   rw [if_pos (by rw [h3];rfl),h3] at h;simp only [Option.some.injEq,Prod.mk.injEq] at h;obtain ⟨rfl,rfl,rfl⟩:=h;refine ⟨⟨sp,hs',h3,rfl,rfl,rfl⟩,?_⟩;have hw:words false l=sp.map (ext l):=by
    rcases words_spans false l with ⟨g,_⟩ | ⟨sp',g1,g2,_⟩
    ·rw [g] at hs';cases hs'
    ·rw [g1] at hs';cases hs';exact g2
   match sp,h3 with
   | [x,y,z],_=>exact join3 hw
theorem token_table:∀k:Fin 256,Oct.oneOf [1] (k.val:Int)=true→k.val≠9:=by decide +kernel
theorem token_tab (x:UInt8) (h:Oct.oneOf [1] (x.toNat:Int)=true):x≠9:=fun e=>by have:=token_table ⟨x.toNat,x.toNat_lt⟩ h;rw [e] at this;exact this rfl
theorem visible_tab (x:UInt8) (h:letsT c0 x=true):x≠9:=fun e=>by rw [e] at h;revert h;decide
theorem lets_all (c:Cl) (x:UInt8) (h:letsT c0 x=true):letsT c x=true:=by
 have:Oct.visible (x.toNat:Int)=true:=by simpa [letsT,c0] using h
 unfold letsT;rw [this];rfl
theorem known_shape {v:List UInt8} (h:knownV c0 v=true):∃d:UInt8,v=http1 ++ [d]∧Oct.digit (d.toNat:Int)=true∧v.getD 7 0=d:=by
 simp only [knownV,Bool.and_eq_true,decide_eq_true_eq,Bool.or_eq_true,beq_iff_eq,c0,Bool.false_and,Bool.false_eq_true,or_false] at h;obtain ⟨h1,h2,h3⟩:=h
 match v,h1 with
 | [a0,a1,a2,a3,a4,a5,a6,d],_=>
   refine ⟨d,?_,h2,rfl⟩;have e: [a0,a1,a2,a3,a4,a5,a6]=http1:=h3;rw [←e];rfl
theorem extends_all {old:Bool} {l m t:List UInt8} {k:Nat} (h:request c0 old l=(m,t,k,0)):(∀c,request c old l=(m,t,k,0))∧(k=1→l=m++32::(t ++ [32,72,84,84,80,47,49,46,49])):=by
 unfold request at h;cases hp:pick c0 l with
 | none=>rw [hp] at h;simp [badR] at h
 | some x=>
   obtain ⟨m',t',v⟩:=x;rw [hp] at h;dsimp only at h;by_cases hok:(methOk m'&&tgtOk c0 m' t')=true
   ·rw [if_pos hok] at h;cases hv:verL c0 v with
    | none=>rw [hv] at h;simp [verR] at h
    | some j=>
      rw [hv] at h;dsimp only at h;by_cases ho:(j==0 && !old)=true
      ·rw [if_pos ho] at h;simp [verR] at h
      ·rw [if_neg ho] at h;simp only [Prod.mk.injEq,and_true] at h;obtain ⟨rfl,rfl,rfl⟩:=h;obtain ⟨⟨sp,hs,h3,e1,e2,e3⟩,hl⟩:=pick_c0 hp
       have hz:=(pick_some hp);simp only [Bool.and_eq_true] at hok;obtain ⟨hm,ht⟩:=hok;have ht':=ht;unfold tgtOk at ht';simp only [Bool.and_eq_true,c0,Bool.or_self,Bool.false_or] at ht';obtain ⟨ht1,ht2⟩:=ht';have hvne:v≠ []:=by
        intro e
        have hc:=(spans_cov hs).1.at 2 (by omega);have hlen:=ext_length l (sp[2]'(by omega)) hc.2.2.1;rw [getD_at sp 2 (by omega)] at e3;rw [←e3,e] at hlen;have:=hc.2.1;simp at hlen;omega
       have hkn:knownV c0 v=true:=by
        unfold verL at hv;rw [if_neg hvne] at hv;by_cases q:knownV c0 v=true
        ·exact q
        ·rw [if_neg q] at hv;cases hv
       obtain ⟨d,hvd,hdig,h7⟩:=known_shape hkn;have hall:∀x∈l,x≠9:=by
        intro x hx;rw [hl] at hx;simp only [List.mem_append,List.mem_cons] at hx;rcases hx with hx | rfl | hx | rfl | hx
        ·refine token_tab x ?_;unfold methOk Oct.allOf at hm;simp only [Bool.and_eq_true,List.all_eq_true] at hm;exact hm.2 x hx
        ·decide
        ·refine visible_tab x ?_;unfold tgtB at ht1;rw [List.all_eq_true] at ht1;exact ht1 x hx
        ·decide
        ·rw [hvd] at hx;rcases List.mem_append.1 hx with hx | hx
         ·intro e;rw [e] at hx;revert hx;decide
         ·intro e;rw [List.mem_singleton.1 hx] at e;rw [e] at hdig;revert hdig;decide
       have hsp:∀bl,spans bl l=some sp:=by
        intro bl;cases bl with
        | false=>exact hs
        | true=>
          have h1:pcs (sepB false) true l 0 0=some sp:=hs;have h2:=pcs_loose l 0 0 sp h1
          have h3:pcs (sepB false) false l 0 0=pcs (sepB true) false l 0 0:=pcs_congr l 0 0 (fun x hx=>by have:=hall x hx;simp [sepB,this])
          rw [h3] at h2;exact h2
       refine ⟨fun c=>?_,fun hk=>?_⟩
       ·have hpc:pick c l=some (m',t',v):=by
         unfold pick;rw [hsp c.bl];dsimp only;rw [if_pos (by rw [h3];rfl),h3,e1,e2,e3]
        have htc:tgtOk c m' t'=true:=by
         unfold tgtOk;rw [ht2,Bool.or_true,Bool.and_true];unfold tgtB at ht1 ⊢;rw [List.all_eq_true] at ht1 ⊢
         exact fun x hx=>lets_all c x (ht1 x hx)
        have hkc:knownV c v=true:=by unfold knownV at hkn ⊢;simp only [Bool.and_eq_true,Bool.or_eq_true,c0,Bool.false_eq_true,false_and,or_false] at hkn ⊢;exact ⟨hkn.1,hkn.2.1,.inl hkn.2.2⟩
        have hvc:verL c v=some j:=by
         unfold verL at hv ⊢;rw [if_neg hvne,if_pos hkn] at hv;rw [if_neg hvne,if_pos hkc];by_cases q:v.getD 7 0=48
         ·rw [if_pos q] at hv ⊢;exact hv
         ·rw [if_neg q] at hv ⊢;by_cases q2:(v.getD 7 0==49)=true
          ·rw [q2,Bool.true_or,if_pos rfl] at hv ⊢;exact hv
          ·rw [if_neg (by simp [c0];simpa using q2)] at hv;cases hv
        unfold request;rw [hpc];dsimp only;rw [hm,htc,if_pos (by rfl),hvc];dsimp only;rw [if_neg ho]
       ·subst hk;rw [hl];have hd:d=49:=by
         unfold verL at hv;rw [if_neg hvne,if_pos hkn,h7] at hv;by_cases q:d=48
         ·rw [if_pos q] at hv;simp at hv
         ·rw [if_neg q] at hv;by_cases q2:(d==49||c0.mi)=true
          ·simpa [c0] using q2
          ·rw [if_neg q2] at hv;cases hv
        rw [hvd,hd];simp [http1]
   ·rw [if_neg hok] at h;simp [badR] at h
def tailA:List UInt8:= [47,97,32,72,84,84,80,47,49,46,49]
end Go.Proofs.YtnabkcglnbdfeaaGreatDoor.Rq
