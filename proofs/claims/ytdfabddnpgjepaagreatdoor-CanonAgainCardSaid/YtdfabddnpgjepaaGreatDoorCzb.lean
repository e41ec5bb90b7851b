import Derived.Test.YtdfabddnpgjepaaGreatDoorCza
set_option linter.unusedSimpArgs false
set_option maxHeartbeats 8000000
set_option maxRecDepth 100000
open Bool renaming and_eq_true→AM,and_false→AN,and_true→AO,eq_iff_iff→AR,false_and→AS,false_eq_true→AT,false_or→AV,or_eq_true→Bc,true_and→Bg,true_or→Bh
open ByteArray renaming data_append→Bo,empty→Bp
open Go.Calls renaming quiet_of_same→Bu
open Go.IntKind renaming i64→Z7,u8→Z6,u32→Z5
open Go.Lib renaming closeSpans→Dc,decodeN→Dg,extract_data→Di,goFieldsP→Dj,hid→Dl,spansFromP→Dt,toList_data→Dv
open Go.Proofs.Tryz renaming ntmps224→LD,ntmps240→LL,prog→Mm
open Go.RowKit.Below renaming refl→AE
open Go.Utf8 renaming decode→NJ
open Go.Value renaming int→ZE,string→ZD,slice→ZC,bool→ZB,pointer→ZA,agg→Z9,tuple→Z8
open List renaming all_eq_true→D5,append_assoc→D7,append_nil→D8,drop_eq_getElem_cons→DR,drop_eq_nil_of_le→DS,eq_nil_of_length_eq_zero→DX,getElem?_eq_getElem→Et,getElem?_map→Ew,getElem_mem→EB,getElem_of_mem→EC,length_append→EO,length_drop→ER,length_map→EV,length_nil→EW,length_pos_iff→EX,length_singleton→Fa,length_take→Fc,map_cons→Fg,mem_append→Fj,mem_cons→Fk,mem_singleton→Fv,nil_append→Fw,take_append_drop→FD,take_of_length_le→FF,take_succ_eq_append_getElem→FG
open Nat renaming eq_zero_or_pos→Gg,le_refl→Gi,lt_or_ge→Gp,zero_le→Gz
open Option renaming getD_some→GW,map_some→GY,some→GZ
open Prod.mk renaming injEq→Hl
open UInt8 renaming ofNat→NG,toNat_inj→NI
namespace Go.Proofs.YtdfabddnpgjepaaGreatDoor
open Go.RowKit
open Base renaming below_drewN→Az,below_step→A6,some_undef→A8
open Base.Ints renaming one→CO
open Oct renaming allOf→GA,blank→GC,digit→GF
open Qk renaming has_any→Ht,has→Hs
open Tgt renaming parse→Jm
open Txt renaming blank→NF
namespace Rq
open Base Txt
def ext (l:List UInt8) (x:Nat × Nat):List UInt8:=(l.take x.2).drop x.1
theorem ext_length (l:List UInt8) (x:Nat × Nat) (h:x.2<=l.length):(ext l x).length=x.2-x.1:=by unfold ext;rw [ER,Fc,Nat.min_eq_left h]
theorem ext_at (l:List UInt8) (x:Nat × Nat) (k:Nat) (hk:k<(ext l x).length):∃h:x.1+k<l.length,(ext l x)[k]=l[x.1+k]:=by
 have h1:x.1+k<l.length:=by unfold ext at hk;rw [ER,Fc] at hk;omega
 refine ⟨h1,?_⟩;simp only [ext,List.getElem_drop,List.getElem_take]
theorem ext_ba (s:ByteArray) (a b:Nat):ba (ext s.data.toList (a,b))=s.extract a b:=by apply ba_ext;rw [Di,ext];show (s.data.toList.take b).drop a= _;rw [List.drop_take]
theorem ext_mid (A M B:List UInt8):ext (A++(M++B)) (A.length,A.length+M.length)=M:=by unfold ext;rw [←D7,List.take_append_of_le_length ZW,FF ZW,List.drop_left]
theorem ext_split (l:List UInt8) (a b:Nat) (hab:a<=b):l=l.take a++(ext l (a,b)++l.drop b):=by
 have e1:l.drop b=(l.drop a).drop (b-a):=by rw [List.drop_drop];congr 1;omega
 have e2:ext l (a,b)=(l.drop a).take (b-a):=by unfold ext;rw [List.drop_take]
 rw [e1,e2,FD,FD]
theorem trim_ext (p:UInt8->Bool) (l:List UInt8) (a b:Nat) (hab:a<b) (hb:b<=l.length) (h1:∀j (h:j<l.length),j<a->p l[j]=true) (h2:∀j (h:j<l.length),b<=j->p l[j]=true)
 (h3:∀h:a<l.length,p l[a]=false) (h4:∀h:b-1<l.length,p l[b-1]=false):trimL p l=ext l (a,b):=by
 conv=>lhs;rw [ext_split l a b ZZ]
 have hlen:=ext_length l (a,b) hb;have hlen':(ext l (a,b)).length=b-a:=hlen
 refine trimL_mid p _ _ _ ?_ ?_ (.inr ⟨?_,?_⟩)
 ·intro x hx;obtain ⟨k,hk,rfl⟩:=EC hx;rw [Fc] at hk;rw [List.getElem_take];exact h1 k ZZ ZZ
 ·intro x hx;obtain ⟨k,hk,rfl⟩:=EC hx;rw [ER] at hk;rw [List.getElem_drop];exact h2 _ ZZ ZZ
 ·refine ⟨l[a]'(by omega),(ext l (a,b)).drop 1,?_,h3 ZZ⟩;have:=DR (l:=ext l (a,b)) (i:=0) ZZ;rw [List.drop_zero] at this;rw [this];obtain ⟨q,e⟩:=ext_at l (a,b) 0 ZZ;rw [e];rfl
 ·refine ⟨l[b-1]'(by omega),(ext l (a,b)).take (b-a-1),?_,h4 ZZ⟩;have e3:=FG (l:=ext l (a,b)) (i:=b-a-1) ZZ;rw [FF ZZ] at e3;obtain ⟨q,e⟩:=ext_at l (a,b) (b-a-1) ZZ;have e5:l[(a,b).1+(b-a-1)]=l[b-1]'(by omega):=by congr 1;show a+(b-a-1)=b-1;omega
  rw [e,e5] at e3;exact e3
def pcs (p:UInt8->Bool) (strict:Bool):List UInt8->Nat->Nat->Option (List (Nat × Nat))
 | [],i,a=>if i=a then (if strict=true then none else some []) else some [(a,i)]
 | x::t,i,a=>if p x=true then (if i=a then (if strict=true then none else pcs p strict t (i+1) (i+1)) else (pcs p strict t (i+1) (i+1)).map ((a,i) :: ·)) else pcs p strict t (i+1) a
def sepB (bl:Bool) (x:UInt8):Bool:=x==32|| (bl&&x==9)
theorem sepB_true:sepB true=NF:=by funext x;simp [sepB,NF]
def spans (bl:Bool) (l:List UInt8):Option (List (Nat × Nat)):=pcs (sepB bl) (!bl) l 0 0
theorem pcs_congr {p q:UInt8->Bool} {st:Bool}:∀(t:List UInt8) (i a:Nat),(∀x∈t,p x=q x)->pcs p st t i a=pcs q st t i a
 | [],_,_,_=>rfl
 | x::t,i,a,h=>by
   have h1:=h x ZW;have h2:=λi a=>pcs_congr (p:=p) (q:=q) (st:=st) t i a λy hy=>h y (by simp [hy]);simp only [pcs,h1,h2]
theorem pcs_loose {p:UInt8->Bool}:∀(t:List UInt8) (i a:Nat) (sp:List (Nat × Nat)),pcs p true t i a=some sp->pcs p false t i a=some sp
 | [],i,a,sp,h=>by
   simp only [pcs] at h ⊢;split at h
   ·cases h
   ·rename_i hi;rw [ZO hi];exact h
 | x::t,i,a,sp,h=>by
   simp only [pcs] at h ⊢;split at h
   ·rename_i hp;rw [ZN hp];split at h
    ·cases h
    ·rename_i hi;rw [ZO hi];cases hq:pcs p true t (i+1) (i+1) with
     | none=>rw [hq] at h;cases h
     | some r=>
       rw [hq] at h;rw [pcs_loose t _ _ r hq];exact h
   ·rename_i hp;rw [ZO hp];exact pcs_loose t _ _ sp h
theorem pcs_some {p:UInt8->Bool}:∀(t:List UInt8) (i a:Nat),∃sp,pcs p false t i a=some sp
 | [],i,a=>by
   simp only [pcs];by_cases h:i=a
   ·exact ⟨[],by rw [ZN h];rfl⟩
   ·exact ⟨[(a,i)],by rw [ZO h]⟩
 | x::t,i,a=>by
   obtain ⟨r1,h1⟩:=pcs_some (p:=p) t (i+1) (i+1);obtain ⟨r2,h2⟩:=pcs_some (p:=p) t (i+1) a;simp only [pcs,h1,h2];by_cases hp:p x=true
   ·by_cases h:i=a
    ·exact ⟨r1,by rw [ZN hp,ZN h];rfl⟩
    ·exact ⟨(a,i)::r1,by rw [ZN hp,ZO h];rfl⟩
   ·exact ⟨r2,by rw [ZO hp]⟩
def Cov (p:UInt8->Bool) (l:List UInt8):Nat->List (Nat × Nat)->Prop
 | o,[]=>∀j (h:j<l.length),o<=j->p l[j]=true
 | o,x::r=>o<=x.1/\x.1<x.2/\x.2<=l.length/\(∀j (h:j<l.length),o<=j->j<x.1->p l[j]=true)/\(∀j (h:j<l.length),x.1<=j->j<x.2->p l[j]=false)/\(∀h:x.2<l.length,p l[x.2]=true)/\Cov p l x.2 r
def Tight (n:Nat):Nat->List (Nat × Nat)->Prop
 | _,[]=>False
 | o,[x]=>x.1=o/\x.2=n
 | o,x::y::r=>x.1=o/\Tight n (x.2+1) (y::r)
theorem Cov.from {p:UInt8->Bool} {l:List UInt8}:∀{o o':Nat} {sp:List (Nat × Nat)},o'<=o->(∀j (h:j<l.length),o'<=j->j<o->p l[j]=true)->Cov p l o sp->Cov p l o' sp
 | o,o',[],_,hg,hc=>λj h hj=>by
   rcases Gp j o with h1 | h1
   ·exact hg j h hj h1
   ·exact hc j h h1
 | o,o',x::r,ho,hg,⟨h1,h2,h3,h4,h5,h6,h7⟩=>⟨ZZ,h2,h3,λj h hj hx=>by
    rcases Gp j o with h8 | h8
    ·exact hg j h hj h8
    ·exact h4 j h h8 hx,h5,h6,h7⟩
theorem pcs_cov {p:UInt8->Bool} {st:Bool} {l:List UInt8}:∀(t:List UInt8) (i a:Nat) (sp:List (Nat × Nat)),l.drop i=t->i<=l.length->a<=i->(∀j (h:j<l.length),a<=j->j<i->p l[j]=false)->pcs p st t i a=some sp->
 Cov p l a sp/\(st=true->Tight l.length a sp)
 | [],i,a,sp,hd,hi,ha,hw,h=>by
   have hil:i=l.length:=by have:=ZH List.length hd;rw [ER] at this;simp at this;omega
   simp only [pcs] at h;by_cases hia:i=a
   ·rw [ZN hia] at h;cases st with
    | true=>simp at h
    | false=>
      simp at h;subst h;refine ⟨λj hj hj2=>by omega,λh=>by cases h⟩
   ·rw [ZO hia] at h;cases h;exact ⟨⟨Gi _,by show a<i;omega,by show i<=_;omega,λj _ h1 h2=>by exact ZG h2 (by show¬j<a;omega),λj h h1 h2=>hw j h h1 h2,λh=>by exact ZG h (by show¬i < _;omega),λj h hj=>by exact ZG hj (by show¬i<=j;omega)⟩,λ_=>⟨rfl,hil⟩⟩
 | x::t,i,a,sp,hd,hi,ha,hw,h=>by
   have hil:i<l.length:=by have:=ZH List.length hd;rw [ER] at this;simp at this;omega
   have hdc:=DR hil;rw [hd] at hdc;have hx:l[i]=x:=(List.cons.inj hdc).1.symm;have ht:l.drop (i+1)=t:=(List.cons.inj hdc).2.symm;have hxi:p x=true->∀j (hj:j<l.length),i<=j->j<i+1->p l[j]=true:=λhp j hj h1 h2=>by
    obtain rfl:j=i:=ZZ;rw [hx];exact hp
   simp only [pcs] at h;by_cases hp:p x=true
   ·rw [ZN hp] at h;by_cases hia:i=a
    ·rw [ZN hia] at h;cases st with
     | true=>simp at h
     | false=>
       simp only [AT,if_false] at h;have ih:=pcs_cov t (i+1) (i+1) sp ht ZZ ZZ (λj _ h1 h2=>by omega) h;exact ⟨ih.1.from ZZ (λj hj h1 h2=>hxi hp j hj ZZ h2),λh=>by cases h⟩
    ·rw [ZO hia] at h;cases hq:pcs p st t (i+1) (i+1) with
     | none=>rw [hq] at h;cases h
     | some r=>
       rw [hq] at h;simp only [GY,GZ.injEq] at h;subst h;have ih:=pcs_cov t (i+1) (i+1) r ht ZZ ZZ (λj _ h1 h2=>by omega) hq;have hc:=ih.1.from (o':=i) ZZ (hxi hp);refine ⟨⟨Gi _,by show a<i;omega,by show i<=_;omega,λj _ h1 h2=>by exact ZG h2 (by show¬j<a;omega),λj h h1 h2=>hw j h h1 h2,λ_=>by show p l[i]=true;rw [hx];exact hp,hc⟩,λhs=>?_⟩;have h2:=ih.2 hs;cases r with
       | nil=>exact ZG h2 (by simp [Tight])
       | cons y r=>exact ⟨rfl,h2⟩
   ·rw [ZO hp] at h;refine pcs_cov t (i+1) a sp ht ZZ ZZ (λj hj h1 h2=>?_) h;rcases Gp j i with h3 | h3
    ·exact hw j hj h1 h3
    ·obtain rfl:j=i:=by omega
     rw [hx];simpa using hp
theorem Cov.at {p:UInt8->Bool} {l:List UInt8}:∀{o:Nat} {sp:List (Nat × Nat)},Cov p l o sp->∀k (hk:k<sp.length),o<=sp[k].1/\sp[k].1<sp[k].2/\sp[k].2<=l.length/\∀j (h:j<l.length),sp[k].1<=j->j<sp[k].2->p l[j]=false
 | o,x::r,⟨h1,h2,h3,h4,h5,h6,h7⟩,0,_=>⟨h1,h2,h3,h5⟩
 | o,x::r,⟨h1,h2,h3,h4,h5,h6,h7⟩,k+1,hk=>by
   have:=h7.at k (by simpa using hk);simp only [List.getElem_cons_succ];exact ⟨ZZ,this.2⟩
theorem Cov.gap {p:UInt8->Bool} {l:List UInt8}:∀{o:Nat} {sp:List (Nat × Nat)},Cov p l o sp->∀k (hk:k+1<sp.length),sp[k].2<sp[k+1].1/\∀j (h:j<l.length),sp[k].2<=j->j<sp[k+1].1->p l[j]=true
 | o,x::y::r,⟨h1,h2,h3,h4,h5,h6,h7⟩,0,_=>by
   obtain ⟨g1,g2,g3,g4,g5,_,_⟩:=h7;simp only [List.getElem_cons_zero,List.getElem_cons_succ];refine ⟨?_,g4⟩;rcases Gp x.2 y.1 with h | h
   ·exact h
   ·have e:x.2=y.1:=by omega
    have f1:=h6 ZZ;have f2:=g5 x.2 ZZ ZZ ZZ;rw [f1] at f2;cases f2
 | o,x::r,⟨h1,h2,h3,h4,h5,h6,h7⟩,k+1,hk=>by
   simp only [List.getElem_cons_succ]
   exact h7.gap k (by simpa using hk)
 | o,[x],_,0,hk=>by simp at hk
theorem Cov.first {p:UInt8->Bool} {l:List UInt8} {o:Nat} {sp:List (Nat × Nat)} (h:Cov p l o sp) (h0:0<sp.length):∀j (h:j<l.length),o<=j->j<sp[0].1->p l[j]=true:=by
 cases sp with
 | nil=>simp at h0
 | cons x r=>exact h.2.2.2.1
theorem Cov.last {p:UInt8->Bool} {l:List UInt8}:∀{o:Nat} {sp:List (Nat × Nat)},Cov p l o sp->∀(h0:0<sp.length),∀j (h:j<l.length),(sp[sp.length-1]'(by omega)).2<=j->p l[j]=true
 | o,[x],⟨_,_,_,_,_,_,h7⟩,_,j,h,hj=>h7 j h hj
 | o,x::y::r,⟨_,_,_,_,_,_,h7⟩,_,j,h,hj=>by
   refine h7.last ZW j h ?_;simpa using hj
theorem Tight.at {n:Nat}:∀{o:Nat} {sp:List (Nat × Nat)},Tight n o sp->∃h:0<sp.length,sp[0].1=o/\(∀k (hk:k+1<sp.length),sp[k+1].1=sp[k].2+1)/\(sp[sp.length-1]'(by omega)).2=n
 | o,[x],⟨h1,h2⟩=>⟨ZW,h1,λk hk=>by simp at hk,h2⟩
 | o,x::y::r,⟨h1,h2⟩=>by
   obtain ⟨g0,g1,g2,g3⟩:=h2.at;refine ⟨ZW,h1,λk hk=>?_,by simpa using g3⟩;cases k with
   | zero=>simpa using g1
   | succ k=>have:=g2 k (by simpa using hk);exact this
theorem spans_cov {bl:Bool} {l:List UInt8} {sp:List (Nat × Nat)} (h:spans bl l=some sp):Cov (sepB bl) l 0 sp/\(bl=false->Tight l.length 0 sp):=by have:=pcs_cov (l:=l) l 0 0 sp rfl (Gz _) (Gi _) (λj _ _ h=>by omega) h;exact ⟨this.1,λhb=>this.2 (by rw [hb];rfl)⟩
theorem parts_pcs (c:UInt8) (p:UInt8->Bool) (hp:∀x,p x=true↔x=c):∀(t pre u:List UInt8),(∀x∈u,x≠c)->
 (pcs p true t (pre.length+u.length) pre.length=none/\ []∈parts c (u++t))∨∃sp,pcs p true t (pre.length+u.length) pre.length=some sp/\parts c (u++t)=sp.map (ext (pre++(u++t)))/\ []∉parts c (u++t)
 | [],pre,u,hu=>by
   have hn:c∉u:=λh=>hu c h rfl;rw [D8,parts_none c u hn];simp only [pcs];by_cases h:u= []
   ·subst h;left;exact ⟨ZW,ZW⟩
   ·right;have hl:0<u.length:=EX.2 h;refine ⟨[(pre.length,pre.length+u.length)],by rw [ZO ZZ],?_,by simp;exact λe=>h e⟩;have:=ext_mid pre u [];rw [D8] at this;simp [this]
 | x::t,pre,u,hu=>by
   simp only [pcs];have hn:c∉u:=λh=>hu c h rfl;by_cases hx:x=c
   ·subst hx;rw [ZN ((hp x).2 rfl),parts_cut x u t hn];by_cases h:u= []
    ·subst h;left;exact ⟨ZW,ZW⟩
    ·have hl:0<u.length:=EX.2 h;rw [ZO ZZ];have ih:=parts_pcs x p hp t (pre++(u ++ [x])) [] ZW;have e1:(pre++(u ++ [x])).length=pre.length+u.length+1:=ZQ;rw [EW,Nat.add_zero,Fw,e1] at ih;rcases ih with ⟨h1,h2⟩ | ⟨sp,h1,h2,h3⟩
     ·left;exact ⟨by rw [h1];rfl,by simp [h2]⟩
     ·right;refine ⟨_,by rw [h1];rfl,?_,by simp [h3];exact λe=>h e⟩;rw [Fg,ext_mid pre u (x::t),h2]
      congr 2
      simp
   ·rw [ZO (λh=>hx ((hp x).1 h))]
    have ih:=parts_pcs c p hp t pre (u ++ [x]) (by
     intro y hy;rcases Fj.1 hy with h | h
     ·exact hu y h
     ·rw [Fv.1 h];exact hx)
    have e1:(u ++ [x])++t=u++x::t:=ZW;rw [e1,EO,Fa,←Nat.add_assoc] at ih;exact ih
def words (bl:Bool) (l:List UInt8):List (List UInt8):=if bl=true then ((spans true l).getD []).map (ext l) else parts 32 l
theorem words_spans (bl:Bool) (l:List UInt8):(spans bl l=none/\ []∈words bl l)∨∃sp,spans bl l=some sp/\words bl l=sp.map (ext l)/\ []∉words bl l:=by
 cases bl with
 | false=>
   have:=parts_pcs 32 (sepB false) (by intro x;simp [sepB]) l [] [] ZW;simpa [words,spans] using this
 | true=>
   right;obtain ⟨sp,h⟩:=pcs_some (p:=sepB true) l 0 0;have hs:spans true l=some sp:=h;refine ⟨sp,hs,by simp [words,hs],?_⟩;rw [words,ZN rfl,hs,GW];intro hm;obtain ⟨x,hx,he⟩:=List.mem_map.1 hm;obtain ⟨k,hk,rfl⟩:=EC hx;obtain ⟨_,h2,h3,_⟩:=(spans_cov hs).1.at k hk;have:=ext_length l sp[k] h3;rw [he] at this;simp at this;omega
end Rq
namespace Rq
open Base Txt
theorem ext_ext (l:List UInt8) (a b c d:Nat) (h:a+d<=b):ext (ext l (a,b)) (c,d)=ext l (a+c,a+d):=by unfold ext;dsimp only;rw [List.take_drop,List.drop_drop,List.take_take,Nat.min_eq_left ZZ]
theorem Cov.mono {p:UInt8->Bool} {l:List UInt8} {o:Nat} {sp:List (Nat × Nat)} (h:Cov p l o sp):∀(k d:Nat) (hk:k+d<sp.length),(sp[k]'(by omega)).2<=sp[k+d].2
 | k,0,hk=>Gi _
 | k,d+1,hk=>by
   have h1:=h.mono k d ZZ;have h2:=(h.gap (k+d) ZZ).1;have h3:=(h.at (k+d+1) ZZ).2.1;have e:sp[k+(d+1)]=sp[k+d+1]:=rfl;rw [e];omega
def between (bl:Bool) (l first last:List UInt8):List UInt8:=
 if bl=true then trimL NF (ext (trimL NF l) (first.length,(trimL NF l).length-last.length)) else ext l (first.length+1,l.length-last.length-1)
def fits (bl:Bool) (l first last:List UInt8):Prop:=
 if bl=true then first.length+last.length<=(trimL NF l).length else first.length+last.length+2<=l.length
theorem mid_core {bl:Bool} {l:List UInt8} {x0 x1 x2 x3:Nat × Nat} (a1:x0.1<x0.2) (a2:x0.2<=l.length) (a3:∀j (h:j<l.length),x0.1<=j->j<x0.2->sepB bl l[j]=false)
 (b1:x1.1<x1.2) (b3:∀j (h:j<l.length),x1.1<=j->j<x1.2->sepB bl l[j]=false) (c1:x2.1<x2.2) (c3:∀j (h:j<l.length),x2.1<=j->j<x2.2->sepB bl l[j]=false)
 (d1:x3.1<x3.2) (d2:x3.2<=l.length) (d3:∀j (h:j<l.length),x3.1<=j->j<x3.2->sepB bl l[j]=false) (e0:x0.2<x1.1) (e1:∀j (h:j<l.length),x0.2<=j->j<x1.1->sepB bl l[j]=true)
 (f0:x2.2<x3.1) (f1:∀j (h:j<l.length),x2.2<=j->j<x3.1->sepB bl l[j]=true) (g0:x1.2<=x2.2) (g1:∀j (h:j<l.length),j<x0.1->sepB bl l[j]=true) (g2:∀j (h:j<l.length),x3.2<=j->sepB bl l[j]=true)
 (t0:bl=false->x0.1=0/\x1.1=x0.2+1/\x3.1=x2.2+1/\x3.2=l.length) :
 between bl l (ext l x0) (ext l x3)=ext l (x1.1,x2.2)/\fits bl l (ext l x0) (ext l x3)/\x1.1<x2.2/\x2.2<=l.length:=by
 have l0:=ext_length l x0 a2;have l3:=ext_length l x3 d2;cases bl with
 | false=>
   obtain ⟨t1,t2,t3,t4⟩:=t0 rfl;simp only [between,fits,AT,if_false];rw [l0,l3];exact ⟨by congr 2<;>omega,ZZ,ZZ,ZZ⟩
 | true=>
   have hs:trimL NF l=ext l (x0.1,x3.2):=by
    rw [←sepB_true]
    exact trim_ext _ l x0.1 x3.2 ZZ ZZ (λj h hj=>g1 j h hj) (λj h hj=>g2 j h hj) (λh=>a3 x0.1 h (Gi _) a1) (λh=>d3 _ h ZZ ZZ)
   have ls:=ext_length l (x0.1,x3.2) (by show x3.2<=_;omega);have ls':(ext l (x0.1,x3.2)).length=x3.2-x0.1:=ls;simp only [between,fits,if_true];rw [hs,l0,l3,ls'];have e2:ext (ext l (x0.1,x3.2)) (x0.2-x0.1,x3.2-x0.1-(x3.2-x3.1))=ext l (x0.2,x3.1):=by
    rw [ext_ext l _ _ _ _ ZZ]
    congr 2<;>omega
   rw [e2];have lm:=ext_length l (x0.2,x3.1) (by show x3.1<=_;omega);have lm':(ext l (x0.2,x3.1)).length=x3.1-x0.2:=lm;have key:trimL NF (ext l (x0.2,x3.1))=ext (ext l (x0.2,x3.1)) (x1.1-x0.2,x2.2-x0.2):=by
    rw [←sepB_true];refine trim_ext _ _ _ _ ZZ ZZ ?_ ?_ ?_ ?_
    ·intro j h hj;obtain ⟨q,e⟩:=ext_at l _ j h
     rw [e];exact e1 _ q (by show x0.2<=x0.2+j;omega) (by show x0.2+j < _;omega)
    ·intro j h hj;obtain ⟨q,e⟩:=ext_at l _ j h
     rw [e];exact f1 _ q (by show _<=x0.2+j;omega) (by show x0.2+j < _;omega)
    ·intro h;obtain ⟨q,e⟩:=ext_at l _ _ h
     rw [e];exact b3 _ q (by show _<=x0.2+ _;omega) (by show x0.2+ _ < _;omega)
    ·intro h;obtain ⟨q,e⟩:=ext_at l _ _ h
     rw [e];exact c3 _ q (by show _<=x0.2+ _;omega) (by show x0.2+ _ < _;omega)
   rw [key,ext_ext l _ _ _ _ ZZ];exact ⟨by congr 2<;>omega,ZZ,ZZ,ZZ⟩
theorem between_mid {bl:Bool} {l:List UInt8} {sp:List (Nat × Nat)} (h:spans bl l=some sp) (h3:3<=sp.length) :
 between bl l (ext l sp[0]) (ext l sp[sp.length-1])=ext l (sp[1].1,sp[sp.length-2].2)/\fits bl l (ext l sp[0]) (ext l sp[sp.length-1])/\sp[1].1<sp[sp.length-2].2/\sp[sp.length-2].2<=l.length:=by
 obtain ⟨hc,ht⟩:=spans_cov h;obtain ⟨n,hn⟩:∃n,sp.length=n+3:=⟨sp.length-3,ZZ⟩;obtain ⟨a0,a1,a2,a3⟩:=hc.at 0 ZZ;obtain ⟨b0,b1,b2,b3⟩:=hc.at 1 ZZ;obtain ⟨c0,c1,c2,c3⟩:=hc.at (sp.length-2) ZZ;obtain ⟨d0,d1,d2,d3⟩:=hc.at (sp.length-1) ZZ;obtain ⟨e0,e1⟩:=hc.gap 0 ZZ;obtain ⟨f0,f1⟩:=hc.gap (sp.length-2) ZZ;have g0:=hc.mono 1 (sp.length-3) ZZ;have i1:∀h,sp[sp.length-2+1]'h=sp[sp.length-1]:=λ_=>by congr 1;omega
 have i2:∀h,sp[1+(sp.length-3)]'h=sp[sp.length-2]:=λ_=>by congr 1;omega
 simp only [i1] at f0 f1;rw [i2] at g0;refine mid_core a1 a2 a3 b1 b3 c1 c3 d1 d2 d3 e0 e1 f0 f1 g0 (λj h hj=>hc.first ZZ j h (Gz _) hj) (hc.last ZZ) λhb=>?_;obtain ⟨_,q1,q2,q3⟩:=(ht hb).at;have q4:=q2 (sp.length-2) ZZ;rw [i1] at q4;exact ⟨q1,q2 0 ZZ,q4,q3⟩
structure Cl where
 bl:Bool
 mi:Bool
 an:Bool
 nv:Bool
 sp:Bool
 co:Bool
def clOf (p:Nat):Cl:=⟨Hs p 3,Hs p 4,Hs p 5,Hs p 6,Hs p 7,Hs p 8⟩
def http1:List UInt8:= [72,84,84,80,47,49,46]
def knownV (c:Cl) (v:List UInt8):Bool:=decide (v.length=8)&&(GF ((v.getD 7 0).toNat:Int)&&(v.take 7==http1|| (c.an&&low (v.take 7)==low http1)))
def verL (c:Cl) (v:List UInt8):Option Nat:=
 if v= [] then some 0 else if knownV c v=true then (if v.getD 7 0=48 then some 0 else if (v.getD 7 0==49||c.mi)=true then some 1 else none) else none
def letsT (c:Cl) (x:UInt8):Bool:=Oct.visible (x.toNat:Int)|| (c.sp&&GC (x.toNat:Int)||c.co&&Oct.control (x.toNat:Int))
def tgtB (c:Cl) (t:List UInt8):Bool:=t.all (letsT c)
def tgtOk (c:Cl) (m t:List UInt8):Bool:=tgtB c t&&(c.sp||c.co|| (Jm m t).isSome)
def methOk (m:List UInt8):Bool:=decide (m.length<=32)&&GA [1] m
def pick (c:Cl) (l:List UInt8):Option (List UInt8 × List UInt8 × List UInt8):=
 match spans c.bl l with
 | none=>none
 | some sp=>if (sp.length==3|| (decide (3<sp.length)&&c.sp))=true then some (ext l (sp.getD 0 (0,0)),ext l ((sp.getD 1 (0,0)).1,(sp.getD (sp.length-2) (0,0)).2),ext l (sp.getD (sp.length-1) (0,0)))
   else if (sp.length==2&&c.nv)=true then some (ext l (sp.getD 0 (0,0)),ext l (sp.getD 1 (0,0)),[]) else none
def badR:List UInt8 × List UInt8 × Nat × Nat:=([],[],0,400)
def verR:List UInt8 × List UInt8 × Nat × Nat:=([],[],0,505)
def request (c:Cl) (old:Bool) (l:List UInt8):List UInt8 × List UInt8 × Nat × Nat:=
 match pick c l with
 | none=>badR
 | some (m,t,v)=>if (methOk m&&tgtOk c m t)=true then
    match verL c v with
    | none=>verR
    | some k=>if (k==0 && !old)=true then verR else (m,t,k,0)
   else badR
theorem spans_pos {bl:Bool} {l:List UInt8} {sp:List (Nat × Nat)} (h:spans bl l=some sp) (k:Nat) (hk:k<sp.length):0<(ext l sp[k]).length/\(ext l sp[k]).length<=l.length:=by obtain ⟨_,h2,h3,_⟩:=(spans_cov h).1.at k hk;rw [ext_length l _ h3];omega
theorem getD_at (sp:List (Nat × Nat)) (k:Nat) (h:k<sp.length):sp.getD k (0,0)=sp[k]:=by simp [List.getD,Et h]
theorem pick_some {c:Cl} {l m t v:List UInt8} (h:pick c l=some (m,t,v)):0<m.length/\m.length<=l.length/\0<t.length/\t.length<=l.length/\v.length<=l.length:=by
 unfold pick at h;cases hs:spans c.bl l with
 | none=>rw [hs] at h;cases h
 | some sp=>
   rw [hs] at h;dsimp only at h;split at h
   ·rename_i h3;have hn:3<=sp.length:=by
     simp only [Bc,ZI,AM,ZJ] at h3;omega
    rw [getD_at sp 0 ZZ,getD_at sp 1 ZZ,getD_at sp _ ZZ,getD_at sp _ ZZ] at h;obtain ⟨_,_,q1,q2⟩:=between_mid hs hn;have p0:=spans_pos hs 0 ZZ;have p1:=spans_pos hs (sp.length-1) ZZ;have p2:=ext_length l (sp[1].1,sp[sp.length-2].2) q2;simp only [GZ.injEq,Hl] at h;obtain ⟨rfl,rfl,rfl⟩:=h;have p3:(ext l (sp[1].1,sp[sp.length-2].2)).length=sp[sp.length-2].2-sp[1].1:=p2;exact ⟨p0.1,p0.2,ZZ,ZZ,p1.2⟩
   ·split at h
    ·rename_i h2;have hn:sp.length=2:=by
      simp only [AM,ZI] at h2;exact h2.1
     rw [getD_at sp 0 ZZ,getD_at sp 1 ZZ] at h;have p0:=spans_pos hs 0 ZZ;have p1:=spans_pos hs 1 ZZ;simp only [GZ.injEq,Hl] at h;obtain ⟨rfl,rfl,rfl⟩:=h;exact ⟨p0.1,p0.2,p1.1,p1.2,ZW⟩
    ·cases h
theorem request_le (c:Cl) (old:Bool) (l:List UInt8):(request c old l).1.length<=l.length/\(request c old l).2.1.length<=l.length:=by
 unfold request;cases hp:pick c l with
 | none=>simp [badR]
 | some x=>
   obtain ⟨m,t,v⟩:=x;obtain ⟨_,h2,_,h4,_⟩:=pick_some hp;dsimp only;split
   ·split
    ·simp [verR]
    ·split
     ·simp [verR]
     ·exact ⟨h2,h4⟩
   ·simp [badR]
end Rq
theorem XXIgh {P:Prop} (h:P:=by
 have e:s.toList=s.data.toList:=Dv s;rw [e,List.isEmpty_eq_false_iff];intro h0;have:s.size=0:=by rw [←len,h0];rfl
 omega):P:=h
namespace Rq
open Base Txt
theorem first_no (s:ByteArray) (h:0<s.size):s.toList.isEmpty=false:=by exact XXIgh
theorem len8 (s:ByteArray) (h:s.size=8):(s.data.toList.getD 7 0)=s[7]/\(s.extract 0 7).data.toList=s.data.toList.take 7:=by refine ⟨?_,by rw [Di];simp⟩;rw [List.getD,Et (by rw [len];omega),GW];rfl
theorem eq_facts (m:ByteArray) (l:List UInt8) (b:Bool) (h:decide (m.data.toList=l)=b):(m.toList==l)=b/\(m.toList==(ByteArray.mk l.toArray).toList)=b:=by
 have h1:(m.toList==l)=b:=by rw [←h,Dv,AR,ZI,ZJ]
 exact ⟨h1,by rw [show (ByteArray.mk l.toArray).toList=l from Dv _];exact h1⟩
section
attribute [local go_sem] A8
theorem method_any (s:ByteArray) (w:World) (h0:0<s.size):Calls Mm 241 #[ZD s] w λe w'=>e=.returned (ZB (methOk s.data.toList))/\Below w.heap.size w w':=by
 have t0:=first_no s h0;rcases Gp 32 s.size with h | h
 ·have h1:¬(s.size:Int)<=32:=by omega
  have e:methOk s.data.toList=false:=by unfold methOk;rw [len,ZL ZZ];rfl
  rw [e];clear e;go_enter Tryz.func241,Tryz.ntmps241;go_wp2_with fail;go_ret;exact ⟨rfl,AE _ _⟩
 ·have h1:(s.size:Int)<=32:=by omega
  have HA:=Dl (λw a (hk:Ints w a 1 [1])=>Oct.all_any s a 1 1 [1] w ZP hk ZX);have e:methOk s.data.toList=GA [1] s.data.toList:=by unfold methOk;rw [len,ZK h];rfl
  rw [e];clear e;generalize GA [1] s.data.toList=r at *;go_enter Tryz.func241,Tryz.ntmps241;go_wp2_with (go_at_call 263;with_reducible refine Cm (HA.out _ _ (CO _ _ rfl _ _)) ?_);go_ret;exact ⟨ZV,(AE _ _).alloc (Gi _) _⟩
theorem XXwj4 {P:Prop} (h:P:=by
 unfold knownV same
 have hl:decide (s.data.toList.length=8)=true:=ZK (by rw [len];exact h8)
 rw [hl,Bg,e1,e2];rfl):P:=h
theorem lastDigit_any (s:ByteArray) (p:Nat) (hp:p<4294967296) (w:World):Calls Mm 267 #[ZD s,ZE Z5 (p:Nat)] w λe w'=>
 (∃d:UInt8,e=.returned (Z8 #[ZE Z6 (d.toNat:Int),ZB (knownV (clOf p) s.data.toList)])/\(knownV (clOf p) s.data.toList=true->d=s.data.toList.getD 7 0))/\Below w.heap.size w w':=by
 by_cases h8:s.size=8
 ·obtain ⟨e1,e2⟩:=len8 s h8;have hx:(s.extract 0 7).size=7:=by rw [←len,e2,Fc,len];omega
  have H:=Dl (λw=>Ht p hp 5 w)
  have HS:=Dl (λw=>same_any (s.extract 0 7) ⟨#[72,84,84,80,47,49,46]⟩ w (by rw [hx];decide));have HD:=Dl (λw=>Oct.digit_any ((s[7]'(by omega)).toNat:Int) w);have ek:knownV (clOf p) s.data.toList=(GF ((s[7]'(by omega)).toNat:Int)&&(((s.extract 0 7).data.toList==http1)|| (Hs p 5&&same (s.extract 0 7) ⟨#[72,84,84,80,47,49,46]⟩))):=by exact XXwj4
  have ev:s.data.toList.getD 7 0=s[7]:=e1;rw [ek,ev];obtain ⟨t1,t2⟩:=eq_facts (s.extract 0 7) [72,84,84,80,47,49,46] (decide ((s.extract 0 7).data.toList=http1)) rfl;have e3:((s.extract 0 7).data.toList==http1)=decide ((s.extract 0 7).data.toList=http1):=by rw [AR,ZI,ZJ]
  rw [e3];clear e1 e2 ek ev e3 hx;have hsz:(s.size:Int)=8:=ZZ;obtain ⟨d,hd⟩:∃d,s[7]'(by omega)=d:=⟨_,rfl⟩;have hn:∀hh,s[7]'hh=d:=λ_=>hd;rw [hd] at HD ⊢;clear hd;generalize decide ((s.extract 0 7).data.toList=http1)=r1 at *;generalize same (s.extract 0 7) ⟨#[72,84,84,80,47,49,46]⟩=r2 at *;generalize Hs p 5=r3 at *;generalize GF (d.toNat:Int)=r4 at *;obtain ⟨x,hx⟩:∃x,s.extract 0 7=x:=⟨_,rfl⟩;rw [hx] at HS t1 t2;cases r1<;>cases r3<;>cases r2;all_goals
   go_enter Tryz.func267,Tryz.ntmps267;go_wp2_with fail;go_quiet (fail);rename_i nq
   go_wp2_with (first
    |(go_at_call 84;with_reducible refine Cm (H.out _) ?_)
    |(go_at_call 145;with_reducible refine (HS.out _).mono ?_;rintro e w2 ⟨rfl,hb⟩)
    |(go_at_call 291;with_reducible refine Cm (HD.out _) ?_))
   go_ret2;first
    | exact ⟨⟨d,ZW,λ_=>rfl⟩,A6 (Az (AE _ _) nq) hb⟩
    | exact ⟨⟨d,ZW,λ_=>rfl⟩,Az (AE _ _) nq⟩
 ·have e:knownV (clOf p) s.data.toList=false:=by unfold knownV;rw [len,ZL h8];rfl
  rw [e];clear e;have h1:¬(s.size:Int)=8:=ZZ;go_enter Tryz.func267,Tryz.ntmps267;go_wp2_with fail;go_ret2;exact ⟨⟨0,rfl,λh=>by cases h⟩,AE _ _⟩
theorem XXry4 {P:Prop} (h:P:=by
 go_enter Tryz.func243,Tryz.ntmps243;go_wp2_with (go_at_call 267;with_reducible refine (HL'.out _).mono ?_;rintro e w1 ⟨rfl,hb⟩);go_ret2
 exact ⟨rfl,hb⟩):P:=h
theorem minorOf_any (s:ByteArray) (p:Nat) (hp:p<4294967296) (w:World):Calls Mm 243 #[ZD s,ZE Z5 (p:Nat)] w λe w'=>
 e=.returned (Z8 #[ZE Z7 (((verL (clOf p) s.data.toList).getD 0:Nat):Int),ZB (verL (clOf p) s.data.toList).isSome])/\Below w.heap.size w w':=by
 by_cases h0:s.size=0
 ·have e:s.data.toList= []:=DX (by rw [len];exact h0);have t0:s.toList.isEmpty=true:=by rw [Dv,e];rfl
  rw [e];clear e h0;go_enter Tryz.func243,Tryz.ntmps243;exact XXdKB
 ·have t0:=first_no s ZZ
  have e:s.data.toList≠ []:=λh=>h0 (by rw [←len,h];rfl)
  have HL:=Dl (λw=>lastDigit_any s p hp w);have H:=Dl (λw=>Ht p hp 4 w);have ev:verL (clOf p) s.data.toList=if knownV (clOf p) s.data.toList=true then (if s.data.toList.getD 7 0=48 then some 0 else if (s.data.toList.getD 7 0==49||Hs p 4)=true then some 1 else none) else none:=by rw [verL,ZO e];rfl
  rw [ev];clear ev e h0;generalize knownV (clOf p) s.data.toList=q at *;generalize s.data.toList.getD 7 0=d at *;generalize Hs p 4=r at *;cases q with
  | false=>
    go_enter Tryz.func243,Tryz.ntmps243;go_wp2_with (go_at_call 267;with_reducible refine (HL.out _).mono ?_;rintro e w1 ⟨⟨d',rfl,_⟩,hb⟩);go_ret2;exact ⟨rfl,hb⟩
  | true=>
    have HL':=Dl (λw=>(HL.out w).mono (R':=λe w'=>e=.returned (Z8 #[ZE Z6 (d.toNat:Int),ZB true])/\Below w.heap.size w w') (by rintro e w' ⟨⟨d',rfl,hd⟩,hb⟩;rw [hd rfl];exact ⟨rfl,hb⟩));clear HL;by_cases h48:d=48
    ·subst h48;exact XXry4
    ·have n48:¬(d.toNat:Int)=48:=λh=>h48 (NI.1 (by show d.toNat=48;omega));rw [ZN rfl,ZO h48];clear h48;by_cases h49:d=49
     ·subst h49;exact XXry4
     ·have n49:¬(d.toNat:Int)=49:=λh=>h49 (NI.1 (by show d.toNat=49;omega));have e49:(d==49)=false:=by simpa using h49
      rw [e49,AV];clear h49 e49;cases r;all_goals
       go_enter Tryz.func243,Tryz.ntmps243
       go_wp2_with (first
        |(go_at_call 267;with_reducible refine (HL'.out _).mono ?_;rintro e w1 ⟨rfl,hb⟩)
        |(go_at_call 84;with_reducible refine Cm (H.out _) ?_))
       go_ret2;exact ⟨rfl,hb⟩
theorem between_any (s x y:ByteArray) (p:Nat) (hp:p<4294967296) (w:World) (hs:s.size<=1000000000) (hf:fits (Hs p 3) s.data.toList x.data.toList y.data.toList) :
 Calls Mm 262 #[ZD s,ZD x,ZD y,ZE Z5 (p:Nat)] w λe w'=>e=.returned (ZD (ba (between (Hs p 3) s.data.toList x.data.toList y.data.toList)))/\w'=w:=by
 have H:=Dl (λw=>Ht p hp 3 w);generalize Hs p 3=q at *;cases q with
 | false=>
   simp only [fits,between,AT,if_false,len] at hf ⊢;rw [ext_ba];have c1:IntKind.i64.wrap ((x.size:Int)+1)=((x.size+1:Nat):Int):=by rw [wrap_in _ ZZ ZZ];omega
   have c2:IntKind.i64.wrap ((s.size:Int)-(y.size:Int))=((s.size-y.size:Nat):Int):=by rw [wrap_in _ ZZ ZZ];omega
   have c3:IntKind.i64.wrap (((s.size-y.size:Nat):Int)-1)=((s.size-y.size-1:Nat):Int):=by rw [wrap_in _ ZZ ZZ];omega
   have c4:x.size+1<=s.size-y.size-1:=ZZ;have c5:s.size-y.size-1<=s.size:=ZZ;go_enter Tryz.func262,Tryz.ntmps262;go_wp2_with (go_at_call 84;with_reducible refine Cm (H.out _) ?_);go_ret;exact ⟨rfl,rfl⟩
 | true=>
   have HT:=Dl (λw=>trim_any s w ZP);have et:(trim s).data.toList=trimL NF s.data.toList:=rfl;simp only [fits,between,if_true] at hf ⊢;rw [←et] at hf ⊢;have hts:=trim_size NF s;have hts':(trim s).size<=s.size:=hts;clear et hts;generalize trim s=t at *;simp only [len] at hf ⊢;have HT2:=Dl (λw=>trim_any (t.extract x.size (t.size-y.size)) w (by rw [←ext_ba,ba_size,ext];unfold maxLen;simp;omega));have e2:ba (trimL NF (ext t.data.toList (x.size,t.size-y.size)))=trim (t.extract x.size (t.size-y.size)):=by rw [←ext_ba];rfl
   rw [e2];clear e2;have c2:IntKind.i64.wrap ((t.size:Int)-(y.size:Int))=((t.size-y.size:Nat):Int):=by rw [wrap_in _ ZZ ZZ];omega
   have c4:x.size<=t.size-y.size:=ZZ;have c5:t.size-y.size<=t.size:=ZZ;go_enter Tryz.func262,Tryz.ntmps262
   go_wp2_with (first
    |(go_at_call 84;with_reducible refine Cm (H.out _) ?_)
    |(go_at_call 192;with_reducible refine Cm (HT.out _) ?_)
    |(go_at_call 192;with_reducible refine Cm (HT2.out _) ?_))
   go_ret;exact ⟨rfl,rfl⟩
end
end Rq
namespace Rq
open Base Txt
def runeP (r:Nat):Bool:=decide (r<128)&&GC (r:Int)
theorem decodeN_high (n b0 b1 b2 b3:Nat) (h:128<=b0):128<=(Dg n b0 b1 b2 b3).1:=by
 unfold Dg
 repeat' split
 all_goals (simp only;omega)
theorem runeP_byte:∀k:Fin 256,(decide (k.val<128)&&runeP k.val)=sepB true (NG k.val):=ZR
theorem sep_high (x:UInt8) (h:128<=x.toNat):sepB true x=false:=by have:=runeP_byte ⟨x.toNat,x.toNat_lt⟩;simp only [UInt8.ofNat_toNat] at this;rw [←this,decide_eq_false ZZ];rfl
theorem sep_low (x:UInt8) (h:x.toNat<128):runeP x.toNat=sepB true x:=by have:=runeP_byte ⟨x.toNat,x.toNat_lt⟩;simp only [UInt8.ofNat_toNat] at this;rw [←this,decide_eq_true h];rfl
theorem pcs_skip {p:UInt8->Bool} {st:Bool} {l:List UInt8}:∀(k i a:Nat),i+k<=l.length->(∀j (h:j<l.length),i<=j->j<i+k->p l[j]=false)->pcs p st (l.drop i) i a=pcs p st (l.drop (i+k)) (i+k) a
 | 0,i,a,_,_=>rfl
 | k+1,i,a,hk,h=>by
   have hi:i<l.length:=ZZ;rw [DR hi,pcs,ZO (by rw [h i hi (Gi _) ZZ];decide),pcs_skip k (i+1) a ZZ (λj hj h1 h2=>h j hj ZZ ZZ),show i+1+k=i+(k+1) by omega]
theorem step_none (p:Nat->Bool) (s:ByteArray) (f pos:Nat) (acc:List (Nat × Nat)) (h:pos<s.size):Dt p s (f+1) pos none acc=if p (NJ s pos).1=true then Dt p s f (pos+(NJ s pos).2) none acc else Dt p s f (pos+(NJ s pos).2) (some pos) acc:=by simp only [Dt,if_pos h]
theorem step_some (p:Nat->Bool) (s:ByteArray) (f pos a:Nat) (acc:List (Nat × Nat)) (h:pos<s.size):Dt p s (f+1) pos (some a) acc=if p (NJ s pos).1=true then Dt p s f (pos+(NJ s pos).2) none (acc ++ [(a,pos)]) else Dt p s f (pos+(NJ s pos).2) (some a) acc:=by simp only [Dt,if_pos h]
theorem spans_runes (s:ByteArray):∀(f pos:Nat) (st:Option Nat) (acc sp:List (Nat × Nat)),s.size<=pos+f->pos<=s.size->(∀a,st=some a->a<pos)->pcs (sepB true) false (s.data.toList.drop pos) pos (st.getD pos)=some sp->
 Dc s (Dt runeP s f pos st acc)=acc++sp
 | 0,pos,st,acc,sp,hf,hp,hst,h=>by
   obtain rfl:pos=s.size:=ZZ;rw [DS XXc2a,pcs] at h;cases st with
   | none=>
     simp only [Option.getD_none,if_true,AT,if_false,GZ.injEq] at h;subst h;simp [Dt,Dc]
   | some a=>
     have:=hst a rfl;rw [GW,ZO ZZ] at h;cases h;simp [Dt,Dc]
 | f+1,pos,st,acc,sp,hf,hp,hst,h=>by
   rcases Gp pos s.size with hlt | hge
   ·have hll:pos<s.data.toList.length:=by rw [len];exact hlt
    have hb:s.data.toList[pos]=s[pos]:=rfl;have hdec:=Lib.decode_at s pos;rw [Tgt.get_lt s pos hlt] at hdec;rcases Gp (s[pos]).toNat 128 with h7 | h7
    ·rw [Lib.decodeN_ascii _ _ _ _ _ h7] at hdec;have sn:=step_none runeP s f pos acc hlt;have ss:=λa=>step_some runeP s f pos a acc hlt;simp only [hdec] at sn ss;rw [sep_low _ h7] at sn;simp only [sep_low _ h7] at ss;rw [DR hll,pcs,hb] at h;by_cases hs:sepB true s[pos]=true
     ·rw [ZN hs] at h sn;simp only [ZN hs] at ss;cases st with
      | none=>
        rw [sn];rw [Option.getD_none,ZN rfl,ZO ZX] at h;exact spans_runes s f (pos+1) none acc sp ZZ ZZ (λa ha=>by cases ha) h
      | some a=>
        rw [ss];have ha:=hst a rfl;rw [GW,ZO ZZ] at h;cases hq:pcs (sepB true) false (s.data.toList.drop (pos+1)) (pos+1) (pos+1) with
        | none=>rw [hq] at h;cases h
        | some r=>
          rw [hq] at h;simp only [GY,GZ.injEq] at h;subst h;have:=spans_runes s f (pos+1) none (acc ++ [(a,pos)]) r ZZ ZZ (λa ha=>by cases ha) hq;rw [this];simp
     ·rw [ZO hs] at h sn;simp only [ZO hs] at ss;cases st with
      | none=>rw [sn];exact spans_runes s f (pos+1) (some pos) acc sp ZZ ZZ (λa ha=>by cases ha;omega) h
      | some a=>rw [ss];exact spans_runes s f (pos+1) (some a) acc sp ZZ ZZ (λb hb=>by cases hb;have:=hst a rfl;omega) h
    ·have hr:runeP (NJ s pos).1=false:=by
      rw [hdec,runeP,ZL (by have:=decodeN_high (s.size-pos) (s[pos]).toNat (s.get! (pos+1)).toNat (s.get! (pos+2)).toNat (s.get! (pos+3)).toNat h7;omega)];rfl
     have hw:1<=(NJ s pos).2:=Lib.width_pos s pos;have hhi:=λk=>Tgt.rune_high s pos k hlt h7;have sn:=step_none runeP s f pos acc hlt;have ss:=λa=>step_some runeP s f pos a acc hlt;generalize NJ s pos=d at *;obtain ⟨hk,_⟩:=hhi (pos+d.2-1) ZZ ZZ
     have hsk:=pcs_skip (p:=sepB true) (st:=false) (l:=s.data.toList) d.2 pos (st.getD pos) (by rw [len];omega) (λj hj h1 h2=>by obtain ⟨q,hq⟩:=hhi j h1 h2;exact sep_high _ hq);rw [hsk] at h;rw [hr,ZO ZX] at sn;simp only [hr,AT,if_false] at ss;cases st with
     | none=>rw [sn];exact spans_runes s f (pos+d.2) (some pos) acc sp ZZ ZZ (λa ha=>by cases ha;omega) h
     | some a=>rw [ss];exact spans_runes s f (pos+d.2) (some a) acc sp ZZ ZZ (λb hb=>by cases hb;have:=hst a rfl;omega) h
   ·obtain rfl:pos=s.size:=by omega
    rw [Lib.spansFromP_end _ _ _ _ _ _ ZZ];rw [DS XXc2a,pcs] at h;cases st with
    | none=>
      simp only [Option.getD_none,if_true,AT,if_false,GZ.injEq] at h;subst h;simp [Dc]
    | some a=>
      have:=hst a rfl;rw [GW,ZO ZZ] at h;cases h;simp [Dc]
theorem fields_words (s:ByteArray):Dj runeP s=(words true s.data.toList).map ba:=by obtain ⟨sp,h⟩:=pcs_some (p:=sepB true) s.data.toList 0 0;have hs:spans true s.data.toList=some sp:=h;have:=spans_runes s s.size 0 none [] sp ZZ (Gz _) (λa ha=>by cases ha) h;rw [Fw] at this;rw [Dj,Lib.spansOfP,this,words,if_pos rfl,hs,GW,List.map_map];exact List.map_congr_left λx _=>(ext_ba s x.1 x.2).symm
section
attribute [local go_sem] A8
theorem blankR_any (r:Nat) (w:World):Calls Mm 284 #[.int .i32 r] w λe w'=>e=.returned (ZB (runeP r))/\w'=w:=by
 rcases Gp r 128 with h | h
 ·have h1:(r:Int)<128:=by omega
  have hc:IntKind.u8.wrap (r:Int)=(r:Int):=by show (r:Int)%256=r;omega
  have HB:=Dl (λw=>Oct.blank_any (r:Int) w);have e:runeP r=GC (r:Int):=by rw [runeP,ZK h];rfl
  rw [e];clear e;generalize GC (r:Int)=q at *;go_enter Tryz.func284,Tryz.ntmps284;go_wp2_with (go_at_call 217;with_reducible refine Cm (HB.out _) ?_);go_ret;exact ⟨rfl,rfl⟩
 ·have h1:¬(r:Int)<128:=by omega
  have e:runeP r=false:=by rw [runeP,ZL ZZ];rfl
  rw [e];clear e;go_enter Tryz.func284,Tryz.ntmps284;go_wp2_with fail;go_ret;exact ⟨rfl,rfl⟩
theorem contains_any (a:Option Addr) (n cap:Nat) (ss:List ByteArray) (x:ByteArray) (r:Bool) (hr:r=true↔x∈ss) (w:World) (hv:Strs w a n ss) (hn:n<=maxLen) :
 Calls Mm 261 #[.slice a n cap,ZD x] w λe w'=>e=.returned (ZB r)/\w'=w:=by
 rcases Gg n with h0 | h0
 ·subst h0;have:ss= []:=DX hv.1;subst this;have hf:r=false:=by cases r with
   | false=>rfl
   | true=>exact ZG (hr.1 rfl) ZW
  rw [hf];exact Tryz.slices_Contains_string_empty a cap x w
 ·obtain ⟨b,off,rfl,_,hc⟩:=hv.2 h0;have hl:=hv.1;refine (Tryz.slices_Contains_string b off n cap ss x w ZZ (by unfold maxLen at hn;omega) (λj hj=>by rw [hc j ZZ];simp [List.getD])).mono ?_;rintro e w' ⟨rfl,rfl⟩;refine ⟨ret_bool ?_,rfl⟩;rw [Lib.containsS_iff,FF ZZ,hr]
theorem split_any (s:ByteArray) (p:Nat) (hp:p<4294967296) (w:World) (hs:s.size<=1000000000):Calls Mm 260 #[ZD s,ZE Z5 (p:Nat)] w λe w'=>
 ∃a n c,e=.returned (.slice a n c)/\n=(words (Hs p 3) s.data.toList).length/\Strs w' a n ((words (Hs p 3) s.data.toList).map ba)/\Below w.heap.size w w':=by
 have H:=Dl (λw=>Ht p hp 3 w);generalize Hs p 3=q at *;cases q with
 | true=>
   have eg:∀args w,(callFunc 284 args).run Mm w=.ok (.enter 284 args) w:=enters_of Tryz.func284 ZY rfl;have HF:=Dl (λw=>Tryz.strings_FieldsFunc_runes 284 #[] eg runeP s w ZZ (λW x _ _=>(blankR_any x W).mono (by rintro e w' ⟨rfl,rfl⟩;exact ⟨rfl,0,rfl⟩)));rw [fields_words] at HF;simp only [EV] at HF;generalize words true s.data.toList=W at *;go_enter Tryz.func260,Tryz.ntmps260
   go_wp2_with (first
    |(go_at_call 84;with_reducible refine Cm (H.out _) ?_)
    |(go_at_call 283;with_reducible refine (HF.out _).mono ?_;rintro e w1 ⟨A,rfl,hA,hO,hb⟩))
   go_ret;obtain ⟨A',c',e1,e2⟩:=Strs.of_own hO;cases e1;exact ⟨_,_,_,rfl,rfl,e2,hb⟩
 | false=>
   have HF:=Dl (λw=>Txt.split_at 32 s w ZZ);have e:words false s.data.toList=parts 32 s.data.toList:=rfl;rw [e];clear e;generalize parts 32 s.data.toList=W at *;go_enter Tryz.func260,Tryz.ntmps260
   go_wp2_with (first
    |(go_at_call 84;with_reducible refine Cm (H.out _) ?_)
    |(go_at_call 191;with_reducible refine (HF.out _).mono ?_;rintro e w1 ⟨n,k,rfl,rfl,hO,_,hb⟩))
   go_ret;exact ⟨_,_,_,rfl,rfl,hO,hb⟩
end
end Rq
namespace Rq
open Base Txt
theorem pcs_le {p:UInt8->Bool} {st:Bool}:∀(t:List UInt8) (i a:Nat) (sp:List (Nat × Nat)),pcs p st t i a=some sp->sp.length<=t.length+1
 | [],i,a,sp,h=>by
   simp only [pcs] at h;split at h
   ·split at h
    ·cases h
    ·cases h;simp
   ·cases h;simp
 | x::t,i,a,sp,h=>by
   simp only [pcs] at h;split at h
   ·split at h
    ·split at h
     ·cases h
     ·have:=pcs_le t _ _ sp h;simp;omega
    ·cases hq:pcs p st t (i+1) (i+1) with
     | none=>rw [hq] at h;cases h
     | some r=>
       rw [hq] at h;cases h;have:=pcs_le t _ _ r hq;simp;omega
   ·have:=pcs_le t _ _ sp h;simp;omega
theorem words_le (bl:Bool) (l:List UInt8):(words bl l).length<=l.length+1:=by
 cases bl with
 | false=>exact parts_le 32 l
 | true=>
   rw [words,ZN rfl,EV];cases h:spans true l with
   | none=>simp
   | some sp=>exact pcs_le l 0 0 sp h
theorem ba_inj {a b:List UInt8} (h:ba a=ba b):a=b:=by have:=congrArg (λx:ByteArray=>x.data.toList) h;simpa [ba] using this
theorem mem_ba (W:List (List UInt8)):Bp∈W.map ba↔ []∈W:=by
 rw [List.mem_map];constructor
 ·rintro ⟨x,hx,e⟩;have:x= []:=ba_inj (b:= []) e
  rwa [←this]
 ·intro h;exact ⟨[],h,rfl⟩
theorem ba_getD (W:List (List UInt8)) (k:Nat):(W.map ba)[k]?.getD Bp=ba (W[k]?.getD []):=by rw [Ew];cases W[k]?<;>rfl
theorem pick_three {c:Cl} {l:List UInt8} (h0: []∉words c.bl l) (h:((words c.bl l).length==3|| (decide (3<(words c.bl l).length)&&c.sp))=true) :
 pick c l=some ((words c.bl l)[0]?.getD [],between c.bl l ((words c.bl l)[0]?.getD []) ((words c.bl l)[(words c.bl l).length-1]?.getD []),(words c.bl l)[(words c.bl l).length-1]?.getD [])/\
 fits c.bl l ((words c.bl l)[0]?.getD []) ((words c.bl l)[(words c.bl l).length-1]?.getD []):=by
 rcases words_spans c.bl l with ⟨_,h1⟩ | ⟨sp,h1,h2,_⟩
 ·exact ZG h1 h0
 ·rw [h2,EV] at h ⊢;have hn:3<=sp.length:=by
   simp only [Bc,ZI,AM,ZJ] at h;omega
  have e0:(sp.map (ext l))[0]?.getD []=ext l sp[0]:=by rw [Ew,Et ZZ];rfl
  have e1:(sp.map (ext l))[sp.length-1]?.getD []=ext l sp[sp.length-1]:=by rw [Ew,Et ZZ];rfl
  obtain ⟨m1,m2,_,_⟩:=between_mid h1 hn;rw [e0,e1,m1];refine ⟨?_,m2⟩;unfold pick;rw [h1];dsimp only;rw [ZN h,getD_at sp 0 ZZ,getD_at sp 1 ZZ,getD_at sp _ ZZ,getD_at sp _ ZZ]
theorem pick_two {c:Cl} {l:List UInt8} (h0: []∉words c.bl l) (h:((words c.bl l).length==2&&c.nv)=true) :
 pick c l=some ((words c.bl l)[0]?.getD [],(words c.bl l)[1]?.getD [],[]):=by
 rcases words_spans c.bl l with ⟨_,h1⟩ | ⟨sp,h1,h2,_⟩
 ·exact ZG h1 h0
 ·rw [h2,EV] at h;rw [h2];have hn:sp.length=2:=by
   simp only [ZI,AM] at h;exact h.1
  have e0:(sp.map (ext l))[0]?.getD []=ext l sp[0]:=by rw [Ew,Et ZZ];rfl
  have e1:(sp.map (ext l))[1]?.getD []=ext l sp[1]:=by rw [Ew,Et ZZ];rfl
  rw [e0,e1];unfold pick;rw [h1];dsimp only;rw [ZO (by rw [hn];simp),ZN h,getD_at sp 0 ZZ,getD_at sp 1 ZZ]
theorem pick_not {c:Cl} {l:List UInt8} (h: []∈words c.bl l∨((words c.bl l).length==3|| (decide (3<(words c.bl l).length)&&c.sp))=false/\((words c.bl l).length==2&&c.nv)=false):pick c l=none:=by
 rcases words_spans c.bl l with ⟨h1,_⟩ | ⟨sp,h1,h2,h3⟩
 ·unfold pick;rw [h1]
 ·rcases h with h | ⟨g1,g2⟩
  ·exact ZG h h3
  ·rw [h2,EV] at g1 g2;unfold pick;rw [h1];dsimp only;rw [ZO (by rw [g1];decide),ZO (by rw [g2];decide)]
def pv:Option (List UInt8 × List UInt8 × List UInt8)->Value
 | none=>.tuple #[.string ⟨#[]⟩,.string ⟨#[]⟩,.string ⟨#[]⟩,.bool false]
 | some (m,t,v)=>.tuple #[.string (ba m),.string (ba t),.string (ba v),.bool true]
section
attribute [local go_sem] A8
theorem between_ba (s:ByteArray) (x y:List UInt8) (p:Nat) (hp:p<4294967296) (w:World) (hs:s.size<=1000000000) (hf:fits (Hs p 3) s.data.toList x y) :
 Calls Mm 262 #[ZD s,ZD (ba x),ZD (ba y),ZE Z5 (p:Nat)] w λe w'=>e=.returned (ZD (ba (between (Hs p 3) s.data.toList x y)))/\w'=w:=
 between_any s (ba x) (ba y) p hp w hs hf
theorem XX2GT {P:Prop} (h:P:=by
 go_quiet (first |(go_at_call 262;exact Bu (HB.out _)));rename_i nq;go_wp2
 exact ZF (v:=Z8 #[ZD (ba x0),ZD (ba T),ZD (ba x1),ZB true]) (by simp [results,Tryz.results240,go_sem]) rfl ⟨rfl,Az hb nq⟩):P:=h
theorem parts_any (s:ByteArray) (p:Nat) (hp:p<4294967296) (w:World) (hs:s.size<=900000000):Calls Mm 240 #[ZD s,ZE Z5 (p:Nat)] w λe w'=>
 e=.returned (pv (pick (clOf p) s.data.toList))/\Below w.heap.size w w':=by
 have HS:=Dl (λw=>split_any s p hp w ZZ)
 have H7:=Dl (λw=>Ht p hp 7 w);have H6:=Dl (λw=>Ht p hp 6 w);have hwl:=words_le (Hs p 3) s.data.toList;rw [len] at hwl;have hC:∀r:Bool,(r=true↔ []∈words (Hs p 3) s.data.toList)->Hid (∀w a n c,Strs w a n ((words (Hs p 3) s.data.toList).map ba)->n<=900000001->Calls Mm 261 #[.slice a n c,ZD ⟨#[]⟩] w λe w'=>e=.returned (ZB r)/\w'=w):=
  λr hr=>Dl λw a n c hv hn=>contains_any a n c _ Bp r (by rw [mem_ba];exact hr) w hv ZP
 by_cases h0: []∈words (Hs p 3) s.data.toList
 ·rw [pick_not (c:=clOf p) (.inl h0)];have HC:=hC true ⟨λ_=>h0,λ_=>rfl⟩;clear hC h0 H7 H6;generalize words (Hs p 3) s.data.toList=W at *;go_enter Tryz.func240,LL
  go_wp2_with (first
   |(go_at_call 260;with_reducible refine (HS.out _).mono ?_;rintro e w1 ⟨a,n,c,rfl,rfl,hO,hb⟩)
   |(go_at_call 261;with_reducible refine Cm (HC.out _ _ _ _ hO ZZ) ?_))
  exact ZF (v:=Z8 #[ZD ⟨#[]⟩,ZD ⟨#[]⟩,ZD ⟨#[]⟩,ZB false]) (by simp [results,Tryz.results240,go_sem]) rfl ⟨rfl,hb⟩
 ·have HC:=hC false ⟨λh=>by (cases h),λh=>ZG h h0⟩;clear hC;by_cases h3:((words (Hs p 3) s.data.toList).length==3|| (decide (3<(words (Hs p 3) s.data.toList).length)&&Hs p 7))=true
  ·obtain ⟨hpk,hf⟩:=pick_three (c:=clOf p) h0 h3;have hpk':pick (clOf p) s.data.toList=some ((words (Hs p 3) s.data.toList)[0]?.getD [],between (Hs p 3) s.data.toList ((words (Hs p 3) s.data.toList)[0]?.getD []) ((words (Hs p 3) s.data.toList)[(words (Hs p 3) s.data.toList).length-1]?.getD []),(words (Hs p 3) s.data.toList)[(words (Hs p 3) s.data.toList).length-1]?.getD []):=hpk;rw [hpk'];clear hpk hpk';have HB:=Dl (λw=>between_ba s ((words (Hs p 3) s.data.toList)[0]?.getD []) ((words (Hs p 3) s.data.toList)[(words (Hs p 3) s.data.toList).length-1]?.getD []) p hp w ZZ hf);have hX:Hid (∀w a n,Strs w a n ((words (Hs p 3) s.data.toList).map ba)->0<n->∃b off,a=some ⟨b,off,none⟩/\w.cell? ⟨b,off,none⟩=some (ZD (ba ((words (Hs p 3) s.data.toList)[0]?.getD [])))/\w.cell? ⟨b,off+(n-1),none⟩=some (ZD (ba ((words (Hs p 3) s.data.toList)[(words (Hs p 3) s.data.toList).length-1]?.getD [])))):=Dl λw a n hv hn=>by
    obtain ⟨b,off,e,_,hc⟩:=hv.2 hn;have hl:=hv.1;rw [EV] at hl;have c0:=hc 0 hn;have c1:=hc (n-1) ZZ;rw [ba_getD] at c0 c1;rw [hl];exact ⟨b,off,e,c0,c1⟩
   clear hf h0;generalize between (Hs p 3) s.data.toList ((words (Hs p 3) s.data.toList)[0]?.getD []) ((words (Hs p 3) s.data.toList)[(words (Hs p 3) s.data.toList).length-1]?.getD [])=T at *;obtain ⟨x0,hx0⟩:∃x0,(words (Hs p 3) s.data.toList)[0]?.getD []=x0:=⟨_,rfl⟩;obtain ⟨x1,hx1⟩:∃x1,(words (Hs p 3) s.data.toList)[(words (Hs p 3) s.data.toList).length-1]?.getD []=x1:=⟨_,rfl⟩;rw [hx0,hx1] at hX HB ⊢;clear hx0 hx1;generalize words (Hs p 3) s.data.toList=W at *;obtain ⟨n,hn⟩:∃n,W.length=n:=⟨_,rfl⟩;rw [hn] at h3 hwl HS;clear hn;have h3':n=3∨(¬(n:Int)=3/\(3:Int)<(n:Int)/\Hs p 7=true):=by
    simp only [Bc,ZI,AM,ZJ] at h3;rcases h3 with h | ⟨h1,h2⟩
    ·exact .inl h
    ·exact .inr ⟨ZZ,ZZ,h2⟩
   clear h3;rcases h3' with rfl | ⟨g1,g2,g3⟩
   ·have i0:0<3:=by omega
    have i1:IntKind.i64.wrap ((3:Int)-1)=2:=ZX;go_enter Tryz.func240,LL
    go_wp2_with (first
     |(go_at_call 260;with_reducible refine (HS.out _).mono ?_;rintro e w1 ⟨a,m,c,rfl,rfl,hO,hb⟩;obtain ⟨b,off,rfl,c0,c1⟩:=hX.out _ _ _ hO ZZ)
     |(go_at_call 261;with_reducible refine Cm (HC.out _ _ _ _ hO ZZ) ?_))
    exact XX2GT
   ·rw [g3] at H7;clear g3;have i0:0<n:=by omega
    obtain ⟨k,hk⟩:∃k,n-1=k:=⟨_,rfl⟩;have i1:IntKind.i64.wrap ((n:Int)-1)=(k:Int):=by rw [wrap_in _ ZZ ZZ];omega
    have i2:(k:Int)<(n:Int):=ZZ;have i3:k<n:=ZZ;have HK:=Dl hk;clear hk;go_enter Tryz.func240,LL
    go_wp2_with (first
     |(go_at_call 260;with_reducible refine (HS.out _).mono ?_;rintro e w1 ⟨a,m,c,rfl,rfl,hO,hb⟩;obtain ⟨b,off,rfl,c0,c1⟩:=hX.out _ _ _ hO ZZ;rw [HK.out] at c1)
     |(go_at_call 261;with_reducible refine Cm (HC.out _ _ _ _ hO ZZ) ?_)
     |(go_at_call 84;with_reducible refine Cm (H7.out _) ?_))
    exact XX2GT
  ·have h3f:((words (Hs p 3) s.data.toList).length==3|| (decide (3<(words (Hs p 3) s.data.toList).length)&&Hs p 7))=false:=by simpa using h3
   clear h3;by_cases h2:((words (Hs p 3) s.data.toList).length==2&&Hs p 6)=true
   ·have hpk:=pick_two (c:=clOf p) h0 h2;have hpk':pick (clOf p) s.data.toList=some ((words (Hs p 3) s.data.toList)[0]?.getD [],(words (Hs p 3) s.data.toList)[1]?.getD [],[]):=hpk;rw [hpk'];clear hpk hpk' h3f H7 h0;simp only [AM,ZI] at h2;have hX:Hid (∀w a n,Strs w a n ((words (Hs p 3) s.data.toList).map ba)->1<n->∃b off,a=some ⟨b,off,none⟩/\w.cell? ⟨b,off,none⟩=some (ZD (ba ((words (Hs p 3) s.data.toList)[0]?.getD [])))/\w.cell? ⟨b,off+1,none⟩=some (ZD (ba ((words (Hs p 3) s.data.toList)[1]?.getD [])))):=Dl λw a n hv hn=>by
     obtain ⟨b,off,e,_,hc⟩:=hv.2 ZZ;have c0:=hc 0 ZZ;have c1:=hc 1 hn;rw [ba_getD] at c0 c1;exact ⟨b,off,e,c0,c1⟩
    obtain ⟨x0,hx0⟩:∃x0,(words (Hs p 3) s.data.toList)[0]?.getD []=x0:=⟨_,rfl⟩;obtain ⟨x1,hx1⟩:∃x1,(words (Hs p 3) s.data.toList)[1]?.getD []=x1:=⟨_,rfl⟩;rw [hx0,hx1] at hX ⊢;rw [h2.1] at HS;rw [h2.2] at H6;clear hx0 hx1 h2;generalize words (Hs p 3) s.data.toList=W at *;go_enter Tryz.func240,LL
    go_wp2_with (first
     |(go_at_call 260;with_reducible refine (HS.out _).mono ?_;rintro e w1 ⟨a,m,c,rfl,rfl,hO,hb⟩;obtain ⟨b,off,rfl,c0,c1⟩:=hX.out _ _ _ hO ZZ)
     |(go_at_call 261;with_reducible refine Cm (HC.out _ _ _ _ hO ZZ) ?_)
     |(go_at_call 84;with_reducible refine Cm (H6.out _) ?_))
    go_quiet (fail);rename_i nq;go_wp2;exact ZF (v:=Z8 #[ZD (ba x0),ZD (ba x1),ZD ⟨#[]⟩,ZB true]) (by simp [results,Tryz.results240,go_sem]) rfl ⟨rfl,Az hb nq⟩
   ·have h2f:((words (Hs p 3) s.data.toList).length==2&&Hs p 6)=false:=by simpa using h2
    rw [pick_not (c:=clOf p) (.inr ⟨h3f,h2f⟩)];clear h2;generalize words (Hs p 3) s.data.toList=W at *;obtain ⟨n,hn⟩:∃n,W.length=n:=⟨_,rfl⟩;rw [hn] at h3f h2f hwl HS;clear hn h0;have h4:(¬(n:Int)=3/\(3:Int)<(n:Int)/\¬(n:Int)=2/\Hs p 7=false)∨(n=2/\Hs p 6=false)∨(¬(n:Int)=3/\¬(3:Int)<(n:Int)/\¬(n:Int)=2):=by
     simp only [Bool.or_eq_false_iff,Bool.and_eq_false_iff,ZM,decide_eq_false_iff_not] at h3f h2f;by_cases q:3<n
     ·exact .inl ⟨ZZ,ZZ,ZZ,h3f.2.resolve_left λh=>h q⟩
     ·by_cases q2:n=2
      ·exact .inr (.inl ⟨q2,h2f.resolve_left λh=>h q2⟩)
      ·exact .inr (.inr ⟨ZZ,ZZ,ZZ⟩)
    clear h3f h2f;rcases h4 with ⟨g1,g2,g3,g4⟩ | ⟨rfl,g4⟩ | ⟨g1,g2,g3⟩;all_goals
     try rw [g4] at H7
     try rw [g4] at H6
     try clear g4
     go_enter Tryz.func240,LL
     go_wp2_with (first
      |(go_at_call 260;with_reducible refine (HS.out _).mono ?_;rintro e w1 ⟨a,m,c,rfl,rfl,hO,hb⟩)
      |(go_at_call 261;with_reducible refine Cm (HC.out _ _ _ _ hO ZZ) ?_)
      |(go_at_call 84;with_reducible refine Cm (H7.out _) ?_)
      |(go_at_call 84;with_reducible refine Cm (H6.out _) ?_))
     exact ZF (v:=Z8 #[ZD ⟨#[]⟩,ZD ⟨#[]⟩,ZD ⟨#[]⟩,ZB false]) (by simp [results,Tryz.results240,go_sem]) rfl ⟨rfl,hb⟩
end
end Rq
theorem XX84Z {P:Prop} (h:P:=by (simp [results,Tryz.results224,go_sem]);first|done|fail):P:=h
namespace Rq
open Base Txt
theorem verL_01 {c:Cl} {v:List UInt8} {k:Nat} (h:verL c v=some k):k=0∨k=1:=by
 unfold verL at h;split at h
 ·cases h;exact .inl rfl
 ·split at h
  ·split at h
   ·cases h;exact .inl rfl
   ·split at h
    ·cases h;exact .inr rfl
    ·cases h
  ·cases h
theorem all_take (q:UInt8->Bool) (l:List UInt8) (k:Nat) (h:k<l.length) (h1:(l.take k).all q=true) (h2:q l[k]=true):(l.take (k+1)).all q=true:=by rw [FG h,List.all_append,h1];simp [h2]
theorem all_not (q:UInt8->Bool) (l:List UInt8) (k:Nat) (h:k<l.length) (h2:q l[k]=false):l.all q=false:=by rw [List.all_eq_false];exact ⟨l[k],EB h,by rw [h2];decide⟩
def rv (r:List UInt8 × List UInt8 × Nat × Nat):Value:=Z8 #[ZD (ba r.1),ZD (ba r.2.1),ZE Z7 (r.2.2.1:Nat),ZE Z7 (r.2.2.2:Nat)]
section
attribute [local go_sem] A8
theorem XXqnM {P:Prop} (h:P:=by
 go_roundw
 case rel=>exact ⟨k+1,ZZ,ZT,by first | rfl | trivial,Dl (HS.out (by rw [HQ.out];rfl))⟩
 case measure=>simp [intOf];omega):P:=h
theorem isTarget_any (m t:ByteArray) (p:Nat) (hp:p<4294967296) (w:World) (ht:t.size<=900000000):Calls Mm 242 #[ZD m,ZD t,ZE Z5 (p:Nat)] w λe w'=>
 e=.returned (ZB (tgtOk (clOf p) m.data.toList t.data.toList))/\Below w.heap.size w w':=by
 have H7:=Dl (λw=>Ht p hp 7 w)
 have H8:=Dl (λw=>Ht p hp 8 w);have HT:=Dl (λw=>Tgt.parse_any m t w ht);have hlets:∀x,letsT (clOf p) x=(Oct.visible (x.toNat:Int)|| (Hs p 7&&GC (x.toNat:Int)||Hs p 8&&Oct.control (x.toNat:Int))):=λ_=>rfl;have hok:tgtOk (clOf p) m.data.toList t.data.toList=((t.data.toList.all (letsT (clOf p)))&&(Hs p 7||Hs p 8|| (Jm m.data.toList t.data.toList).isSome)):=rfl;rw [hok];clear hok;generalize hq:letsT (clOf p)=q at *;clear hq;have HL:=Dl hlets;clear hlets;generalize Hs p 7=sp at *;generalize Hs p 8=co at *;have hans:∃(f:Int) (h1 p1 q1:ByteArray) (a:Bool) (en:Int),Tgt.ans (Jm m.data.toList t.data.toList)=Z8 #[Tgt.tv f h1 p1 q1 a,ZE Z7 en]/\(en=0/\(Jm m.data.toList t.data.toList).isSome=true∨en=400/\(Jm m.data.toList t.data.toList).isSome=false):=by
  cases Jm m.data.toList t.data.toList with
  | none=>exact ⟨0,Tgt.E0,Tgt.E0,Tgt.E0,false,400,rfl,.inr ⟨rfl,rfl⟩⟩
  | some g=>exact ⟨_,_,_,_,_,0,rfl,.inl ⟨rfl,rfl⟩⟩
 obtain ⟨f,h1,p1,q1,ta,en,hE,hen⟩:=hans;rw [hE] at HT;clear hE;generalize (Jm m.data.toList t.data.toList).isSome=ok at *;have HEN:=Dl hen;clear hen;cases sp<;>cases co;all_goals
  go_enter Tryz.func242,Tryz.ntmps242
  go_upto_region 3 with (first
   |(go_at_call 84;with_reducible refine Cm (H7.out _) ?_)
   |(go_at_call 84;with_reducible refine Cm (H8.out _) ?_))
  go_loopw [19] (λi wr=>∃k:Nat,k<=t.size/\i=ZE Z7 k/\wr=w/\Hid ((t.data.toList.take k).all q=true)) (λi _=>t.size-(intOf i).toNat)
  case atStart=>exact ⟨0,Gz _,rfl,rfl,Dl rfl⟩
  case round=>
   obtain ⟨k,hk,rfl,hwr,hpre⟩:=hrel;subst hwr;rcases Gp k t.size with hlt | hge
   ·have i1:(k:Int)<(t.size:Int):=by omega
    have HQ:=Dl (HL.out (t[k]))
    have HS:=Dl (all_take q t.data.toList k (by rw [len];exact hlt) hpre.out);have HN:=Dl (all_not q t.data.toList k (by rw [len];exact hlt));have hgt:t.data.toList[k]'(by rw [len];exact hlt)=t[k]:=rfl;rw [hgt] at HS HN;clear hgt;obtain ⟨b,hb⟩:∃b,t[k]=b:=⟨_,rfl⟩;have hn:∀hh,t[k]'hh=b:=λ_=>hb;rw [hb] at HQ HS HN;clear hb
    have HV:=Dl (λw=>Oct.visible_any (b.toNat:Int) w)
    have HB:=Dl (λw=>Oct.blank_any (b.toNat:Int) w);have HC:=Dl (λw=>Oct.control_any (b.toNat:Int) w);generalize Oct.visible (b.toNat:Int)=v at *;generalize GC (b.toNat:Int)=bk at *;generalize Oct.control (b.toNat:Int)=ct at *;cases v
    ·cases bk<;>cases ct;all_goals
      go_wp2_with (first
       |(go_at_call 264;with_reducible refine Cm (HV.out _) ?_)
       |(go_at_call 217;with_reducible refine Cm (HB.out _) ?_)
       |(go_at_call 265;with_reducible refine Cm (HC.out _) ?_))
      first
       |(go_ret;exact ⟨by rw [HN.out (by rw [HQ.out];rfl)];rfl,AE _ _⟩)
       |(go_roundw
         case rel=>exact ⟨k+1,ZZ,ZT,by first | rfl | trivial,Dl (HS.out (by rw [HQ.out];rfl))⟩
         case measure=>simp [intOf];omega)
    ·go_wp2_with (go_at_call 264;with_reducible refine Cm (HV.out _) ?_);exact XXqnM
   ·obtain rfl:k=t.size:=by omega
    have hall:=hpre.out;rw [take_all t _ (Gi _)] at hall;have HALL:=Dl hall;clear hpre hall HL;go_wp2_with (go_at_call 266;with_reducible refine (HT.out _).mono ?_;rintro e w1 ⟨rfl,hb⟩);go_ret;rw [HALL.out];rcases HEN.out with ⟨rfl,rfl⟩ | ⟨rfl,rfl⟩;all_goals first
     | exact ⟨rfl,AE _ _⟩
     | exact ⟨rfl,hb.alloc hb.size _⟩
     | exact ⟨rfl,hb⟩
theorem XXK54 {P:Prop} (h:P:=by
 subst hR;go_enter Tryz.func224,LD
 go_wp2_with (first
  |(go_at_call 240;with_reducible refine (HP.out _).mono ?_;rintro e w1 ⟨rfl,hb⟩)
  |(go_at_call 241;with_reducible refine (HM.out _).mono ?_;rintro e w2 ⟨rfl,hb2⟩;replace hb:=A6 hb hb2;clear hb2)
  |(go_at_call 242;with_reducible refine (HT.out _).mono ?_;rintro e w3 ⟨rfl,hb2⟩;replace hb:=A6 hb hb2;clear hb2)
  |(go_at_call 243;with_reducible refine (HV.out _).mono ?_;rintro e w4 ⟨rfl,hb2⟩;replace hb:=A6 hb hb2;clear hb2;obtain ⟨_,_,_,_,_,_,_,_,_,q9⟩:=HA.out.below HG.out hb))
 first
  |exact ZF (v:=.tuple #[.string ⟨#[]⟩,.string ⟨#[]⟩,.int .i64 0,.int .i64 505]) XX84Z rfl ⟨rfl,A6 HW.out hb⟩
  |exact ZF (v:=.tuple #[.string (ba m),.string (ba t),.int .i64 0,.int .i64 0]) XX84Z rfl ⟨rfl,A6 HW.out hb⟩):P:=h
theorem XXG4l {P:Prop} (h:P:=by
 go_enter Tryz.func224,LD
 go_wp2_with (first
  |(go_at_call 240;with_reducible refine (HP.out _).mono ?_;rintro e w1 ⟨rfl,hb⟩)
  |(go_at_call 241;with_reducible refine (HM.out _).mono ?_;rintro e w2 ⟨rfl,hb2⟩;replace hb:=A6 hb hb2;clear hb2)
  |(go_at_call 242;with_reducible refine (HT.out _).mono ?_;rintro e w3 ⟨rfl,hb2⟩;replace hb:=A6 hb hb2;clear hb2)
  |(go_at_call 243;with_reducible refine (HV.out _).mono ?_;rintro e w4 ⟨rfl,hb2⟩;replace hb:=A6 hb hb2;clear hb2))
 first
  |exact ZF (v:=.tuple #[.string ⟨#[]⟩,.string ⟨#[]⟩,.int .i64 0,.int .i64 505]) XX84Z rfl ⟨rfl,A6 HW.out hb⟩
  |exact ZF (v:=.tuple #[.string (ba m),.string (ba t),.int .i64 1,.int .i64 0]) XX84Z rfl ⟨rfl,A6 HW.out hb⟩):P:=h
theorem XXQcv {P:Prop} (h:P:=by exact bodyPost_ret (v:=Z8 #[ZD ⟨#[]⟩,ZD ⟨#[]⟩,ZE Z7 0,ZE Z7 400]) (by simp [results,Tryz.results224,go_sem]) rfl ⟨rfl,A6 HW.out hb⟩):P:=h
theorem parse_any (s:ByteArray) (p:Nat) (hp:p<4294967296) (x0 x1 x2 x3 x4 x5 x6 x7:Int) (ch old:Bool) (w:World) (hs:s.size<=900000000) :
 Calls Mm 224 #[ZD s,ZE Z5 (p:Nat),Bnd.bnd x0 x1 x2 x3 x4 x5 x6 x7 ch old] w λe w'=>e=.returned (rv (request (clOf p) old s.data.toList))/\Below w.heap.size w w':=by
 have HP:=Dl (λw=>parts_any s p hp w hs)
 have HA:=Dl (Bnd.At.new w 29 x0 x1 x2 x3 x4 x5 x6 x7 ch old)
 have HG:=Dl (show w.heap.size<(w.alloc (.cells #[ZE Z7 x0,ZE Z7 x1,ZE Z7 x2,ZE Z7 x3,ZE Z7 x4,ZE Z7 x5,ZE Z7 x6,ZE Z7 x7,ZB ch,ZB old] 29)).heap.size by simp);have HW:=Dl (show Below w.heap.size w (w.alloc (.cells #[ZE Z7 x0,ZE Z7 x1,ZE Z7 x2,ZE Z7 x3,ZE Z7 x4,ZE Z7 x5,ZE Z7 x6,ZE Z7 x7,ZB ch,ZB old] 29)) from (AE _ _).alloc (Gi _) _);have hR:∃R,request (clOf p) old s.data.toList=R:=⟨_,rfl⟩;obtain ⟨R,hR⟩:=hR;rw [hR];unfold request at hR;cases hpk:pick (clOf p) s.data.toList with
 | none=>
   rw [hpk] at hR HP;dsimp only [pv] at HP;subst hR;clear hpk;go_enter Tryz.func224,LD;go_wp2_with (go_at_call 240;with_reducible refine (HP.out _).mono ?_;rintro e w1 ⟨rfl,hb⟩);exact XXQcv
 | some mtv=>
   obtain ⟨m,t,v⟩:=mtv;obtain ⟨z1,z2,z3,z4,z5⟩:=pick_some hpk;rw [len] at z2 z4 z5;rw [hpk] at hR HP;dsimp only [pv] at HP;dsimp only at hR;clear hpk
   have HM:=Dl (λw=>method_any (ba m) w (by rw [ba_size];exact z1))
   have HT:=Dl (λw=>isTarget_any (ba m) (ba t) p hp w XXbde);have HV:=Dl (λw=>minorOf_any (ba v) p hp w);have b1:(ba m).data.toList=m:=rfl;have b2:(ba t).data.toList=t:=rfl;have b3:(ba v).data.toList=v:=rfl;rw [b1] at HM;rw [b1,b2] at HT;rw [b3] at HV;clear b1 b2 b3 z1 z2 z3 z4 z5;generalize methOk m=mo at *;generalize tgtOk (clOf p) m t=tk at *;cases mo with
   | false=>
     rw [AS,ZO ZX] at hR;subst hR;clear HT HV;go_enter Tryz.func224,LD
     go_wp2_with (first
      |(go_at_call 240;with_reducible refine (HP.out _).mono ?_;rintro e w1 ⟨rfl,hb⟩)
      |(go_at_call 241;with_reducible refine (HM.out _).mono ?_;rintro e w2 ⟨rfl,hb2⟩;replace hb:=A6 hb hb2;clear hb2))
     exact XXQcv
   | true=>
     cases tk with
     | false=>
       rw [AN,ZO ZX] at hR;subst hR;clear HV;go_enter Tryz.func224,LD
       go_wp2_with (first
        |(go_at_call 240;with_reducible refine (HP.out _).mono ?_;rintro e w1 ⟨rfl,hb⟩)
        |(go_at_call 241;with_reducible refine (HM.out _).mono ?_;rintro e w2 ⟨rfl,hb2⟩;replace hb:=A6 hb hb2;clear hb2)
        |(go_at_call 242;with_reducible refine (HT.out _).mono ?_;rintro e w3 ⟨rfl,hb2⟩;replace hb:=A6 hb hb2;clear hb2))
       exact XXQcv
     | true=>
       rw [AO,ZN rfl] at hR;cases hv:verL (clOf p) v with
       | none=>
         rw [hv] at hR HV;dsimp only at hR;subst hR;clear hv;exact XXG4l
       | some k=>
         have h01:=verL_01 hv;rw [hv] at hR HV;dsimp only at hR;clear hv;rcases h01 with rfl | rfl
         ·cases old with
          | false=>
            rw [ZN ZX] at hR;exact XXK54
          | true=>
            rw [ZO ZX] at hR;exact XXK54
         ·rw [ZO ZW] at hR;subst hR;exact XXG4l
def lineOf (m t:ByteArray):ByteArray:=((((m ++⟨#[32]⟩)++t) ++⟨#[32]⟩) ++⟨#[72,84,84,80,47,49,46]⟩) ++⟨#[49]⟩
theorem lineOf_list (m t:ByteArray):(lineOf m t).data.toList=m.data.toList++32::(t.data.toList ++ [32,72,84,84,80,47,49,46,49]):=by simp [lineOf,Bo]
theorem put_any (m t:ByteArray) (w:World) (hm:m.size<=140737488351232) (ht:t.size<=140737488351232):Calls Mm 92 #[ZD m,ZD t] w λe w'=>e=.returned (ZD (lineOf m t))/\w'=w:=by
 have v1:¬9223372036854775807<m.size+1:=ZZ;have v2:¬9223372036854775807<m.size+1+t.size:=ZZ;have v3:¬9223372036854775807<m.size+1+t.size+8:=ZZ;have v4:¬9223372036854775807<m.size+1+t.size+1:=ZZ;have v5:¬9223372036854775807<m.size+1+t.size+1+7:=ZZ;have v6:¬9223372036854775807<m.size+1+t.size+1+7+1:=ZZ;go_enter Tryz.func92,Tryz.ntmps92;go_wp2_with fail;go_ret;exact ⟨rfl,rfl⟩
end
end Rq
namespace Rq
open Base Txt
def c0:Cl:=⟨false,false,false,false,false,false⟩
theorem clOf_zero:clOf 0=c0:=by simp only [clOf,c0,Cl.mk.injEq];decide
theorem join3 {l a b d:List UInt8} (h:parts 32 l= [a,b,d]):l=a++32::(b++32::d):=by
 have key:∀l:List UInt8,∀x r,parts 32 l=x::r->(r= []/\l=x)∨∃t,l=x++32::t/\parts 32 t=r:=by
  intro l
  induction l with
  | nil=>intro x r h;rw [parts] at h;cases h;exact .inl ⟨rfl,rfl⟩
  | cons c l ih=>
    intro x r h;rw [parts] at h;by_cases hc:c=32
    ·rw [ZN hc] at h;cases h;exact .inr ⟨l,by rw [hc];rfl,rfl⟩
    ·rw [ZO hc] at h;cases hp:parts 32 l with
     | nil=>have:=parts_length 32 l;rw [hp] at this;simp at this
     | cons y s=>
       rw [hp] at h;simp only [List.cons.injEq] at h;obtain ⟨h1,h2⟩:=h;rcases ih y s hp with ⟨g1,g2⟩ | ⟨t,g1,g2⟩
       ·exact .inl ⟨by rw [←h2,g1],by rw [←h1,g2]⟩
       ·exact .inr ⟨t,by rw [←h1,g1];rfl,by rw [g2,h2]⟩
 rcases key l a [b,d] h with ⟨h1,_⟩ | ⟨t,h1,h2⟩
 ·cases h1
 ·rcases key t b [d] h2 with ⟨g1,_⟩ | ⟨u,g1,g2⟩
  ·cases g1
  ·rcases key u d [] g2 with ⟨_,k2⟩ | ⟨v,k1,k2⟩
   ·rw [h1,g1,k2]
   ·have:=parts_length 32 v;rw [k2] at this;simp at this
theorem pick_c0 {l m t v:List UInt8} (h:pick c0 l=some (m,t,v)):(∃sp,spans false l=some sp/\sp.length=3/\m=ext l (sp.getD 0 (0,0))/\t=ext l ((sp.getD 1 (0,0)).1,(sp.getD 1 (0,0)).2)/\v=ext l (sp.getD 2 (0,0)))/\l=m++32::(t++32::v):=by
 unfold pick at h;cases hs:spans c0.bl l with
 | none=>rw [hs] at h;cases h
 | some sp=>
   have hs':spans false l=some sp:=hs;rw [hs] at h;dsimp only at h;have h3:sp.length=3:=by
    by_cases hc:(sp.length==3|| (decide (3<sp.length)&&c0.sp))=true
    ·simpa [c0] using hc
    ·rw [ZO hc,ZO (by simp [c0])] at h;cases h
   rw [ZN (by rw [h3];rfl),h3] at h;simp only [GZ.injEq,Hl] at h;obtain ⟨rfl,rfl,rfl⟩:=h;refine ⟨⟨sp,hs',h3,rfl,rfl,rfl⟩,?_⟩;have hw:words false l=sp.map (ext l):=by
    rcases words_spans false l with ⟨g,_⟩ | ⟨sp',g1,g2,_⟩
    ·rw [g] at hs';cases hs'
    ·rw [g1] at hs';cases hs';exact g2
   match sp,h3 with
   | [x,y,z],_=>exact join3 hw
theorem token_table:∀k:Fin 256,Oct.oneOf [1] (k.val:Int)=true->k.val≠9:=ZR
theorem token_tab (x:UInt8) (h:Oct.oneOf [1] (x.toNat:Int)=true):x≠9:=λe=>by have:=token_table ⟨x.toNat,x.toNat_lt⟩ h;rw [e] at this;exact this rfl
theorem visible_tab (x:UInt8) (h:letsT c0 x=true):x≠9:=λe=>by rw [e] at h;revert h;decide
theorem lets_all (c:Cl) (x:UInt8) (h:letsT c0 x=true):letsT c x=true:=by
 have:Oct.visible (x.toNat:Int)=true:=by simpa [letsT,c0] using h
 unfold letsT;rw [this];rfl
theorem known_shape {v:List UInt8} (h:knownV c0 v=true):∃d:UInt8,v=http1 ++ [d]/\GF (d.toNat:Int)=true/\v.getD 7 0=d:=by
 simp only [knownV,AM,ZJ,Bc,ZI,c0,AS,AT,or_false] at h;obtain ⟨h1,h2,h3⟩:=h
 match v,h1 with
 | [a0,a1,a2,a3,a4,a5,a6,d],_=>
   refine ⟨d,?_,h2,rfl⟩;have e: [a0,a1,a2,a3,a4,a5,a6]=http1:=h3;rw [←e];rfl
theorem extends_all {old:Bool} {l m t:List UInt8} {k:Nat} (h:request c0 old l=(m,t,k,0)):(∀c,request c old l=(m,t,k,0))/\(k=1->l=m++32::(t ++ [32,72,84,84,80,47,49,46,49])):=by
 unfold request at h;cases hp:pick c0 l with
 | none=>rw [hp] at h;simp [badR] at h
 | some x=>
   obtain ⟨m',t',v⟩:=x;rw [hp] at h;dsimp only at h;by_cases hok:(methOk m'&&tgtOk c0 m' t')=true
   ·rw [ZN hok] at h;cases hv:verL c0 v with
    | none=>rw [hv] at h;simp [verR] at h
    | some j=>
      rw [hv] at h;dsimp only at h;by_cases ho:(j==0 && !old)=true
      ·rw [ZN ho] at h;simp [verR] at h
      ·rw [ZO ho] at h;simp only [Hl,and_true] at h;obtain ⟨rfl,rfl,rfl⟩:=h;obtain ⟨⟨sp,hs,h3,e1,e2,e3⟩,hl⟩:=pick_c0 hp;have hz:=(pick_some hp);simp only [AM] at hok;obtain ⟨hm,ht⟩:=hok;have ht':=ht;unfold tgtOk at ht';simp only [AM,c0,Bool.or_self,AV] at ht';obtain ⟨ht1,ht2⟩:=ht';have hvne:v≠ []:=by
        intro e;have hc:=(spans_cov hs).1.at 2 ZZ;have hlen:=ext_length l (sp[2]'(by omega)) hc.2.2.1;rw [getD_at sp 2 ZZ] at e3;rw [←e3,e] at hlen;have:=hc.2.1;simp at hlen;omega
       have hkn:knownV c0 v=true:=by
        unfold verL at hv;rw [ZO hvne] at hv;by_cases q:knownV c0 v=true
        ·exact q
        ·rw [ZO q] at hv;cases hv
       obtain ⟨d,hvd,hdig,h7⟩:=known_shape hkn;have hall:∀x∈l,x≠9:=by
        intro x hx;rw [hl] at hx;simp only [Fj,Fk] at hx;rcases hx with hx | rfl | hx | rfl | hx
        ·refine token_tab x ?_;unfold methOk GA at hm;simp only [AM,D5] at hm;exact hm.2 x hx
        ·decide
        ·refine visible_tab x ?_;unfold tgtB at ht1;rw [D5] at ht1;exact ht1 x hx
        ·decide
        ·rw [hvd] at hx;rcases Fj.1 hx with hx | hx
         ·intro e;rw [e] at hx;revert hx;decide
         ·intro e;rw [Fv.1 hx] at e;rw [e] at hdig;revert hdig;decide
       have hsp:∀bl,spans bl l=some sp:=by
        intro bl;cases bl with
        | false=>exact hs
        | true=>
          have h1:pcs (sepB false) true l 0 0=some sp:=hs;have h2:=pcs_loose l 0 0 sp h1
          have h3:pcs (sepB false) false l 0 0=pcs (sepB true) false l 0 0:=pcs_congr l 0 0 (λx hx=>by have:=hall x hx;simp [sepB,this]);rw [h3] at h2;exact h2
       refine ⟨λc=>?_,λhk=>?_⟩
       ·have hpc:pick c l=some (m',t',v):=by
         unfold pick;rw [hsp c.bl];dsimp only;rw [ZN (by rw [h3];rfl),h3,e1,e2,e3]
        have htc:tgtOk c m' t'=true:=by
         unfold tgtOk;rw [ht2,Bool.or_true,AO];unfold tgtB at ht1 ⊢;rw [D5] at ht1 ⊢
         exact λx hx=>lets_all c x (ht1 x hx)
        have hkc:knownV c v=true:=by unfold knownV at hkn ⊢;simp only [AM,Bc,c0,AT,false_and,or_false] at hkn ⊢;exact ⟨hkn.1,hkn.2.1,.inl hkn.2.2⟩
        have hvc:verL c v=some j:=by
         unfold verL at hv ⊢;rw [ZO hvne,ZN hkn] at hv;rw [ZO hvne,ZN hkc];by_cases q:v.getD 7 0=48
         ·rw [ZN q] at hv ⊢;exact hv
         ·rw [ZO q] at hv ⊢;by_cases q2:(v.getD 7 0==49)=true
          ·rw [q2,Bh,ZN rfl] at hv ⊢;exact hv
          ·rw [ZO (by simp [c0];simpa using q2)] at hv;cases hv
        unfold request;rw [hpc];dsimp only;rw [hm,htc,ZN ZV,hvc];dsimp only;rw [ZO ho]
       ·subst hk;rw [hl];have hd:d=49:=by
         unfold verL at hv;rw [ZO hvne,ZN hkn,h7] at hv;by_cases q:d=48
         ·rw [ZN q] at hv;simp at hv
         ·rw [ZO q] at hv;by_cases q2:(d==49||c0.mi)=true
          ·simpa [c0] using q2
          ·rw [ZO q2] at hv;cases hv
        rw [hvd,hd];simp [http1]
   ·rw [ZO hok] at h;simp [badR] at h
def tailA:List UInt8:= [47,97,32,72,84,84,80,47,49,46,49]
end Rq
namespace Qk
open Base
section
attribute [local go_sem] A8
end
end Qk
namespace Seat
open Base Qk
def seatP (a k:Nat):Nat:=
 if k%4=0 then ofL [((k/4%30:Nat):Int)] else if k%4=1 then ofL [((k/4%30:Nat):Int),((a%30:Nat):Int)]
 else if k%4=2 then a%1073741824 &&& (a%1073741824)/128 &&& (a%1073741824)/8192 else a%1073741824
def seatB (k:Nat):Value:=
 Bnd.bnd (if k%6=1 then 64 else if k%6=3 then 80 else 1024) (if k%6=1 then 4 else 32) (if k%6=1 then 256 else 8192) (if k%6=2 then 16 else if k%6=3 then 40 else 65536)
  (if k%6=2 then 0 else 32) (if k%6=2 then 0 else 8) ((k/32%4:Nat)+1:Int) 20 (!decide (k%8=7)) (!decide (12<k%16))
section
end
end Seat
open _root_.Bool renaming not_eq_true'→AX
open _root_.Decidable renaming not_not→B7
open _root_.Go.Proofs.Tryz renaming func295→K1,ntmps247→LP,ntmps269→LY,ntmps295→Me
open _root_.List renaming cons_append→DC,dropWhile_cons→DM,getLastD_eq_getLast?→EI,length_cons→EP,length_eq_zero_iff→ET,reverse_append→F1
open _root_.Nat renaming le_succ→Gj,le_trans→Gl,lt_of_lt_of_le→Gn
open Num renaming readOf→G6
open Tgt renaming hostB→Jl
namespace Fd
open Base Txt Tgt
structure Cl where
 sp:Bool
 nb:Bool
 nc:Bool
 nn:Bool
 vb:Bool
def clOf (p:Nat):Cl:=⟨Hs p 9,Hs p 10,Hs p 11,Hs p 12,Hs p 14⟩
def c0:Cl:=⟨false,false,false,false,false⟩
theorem clOf_zero:clOf 0=c0:=by simp only [clOf,c0,Cl.mk.injEq];decide
def trimEnd (l:List UInt8):List UInt8:=(l.reverse.dropWhile NF).reverse
abbrev Ans:=Option (Option (List UInt8 × List UInt8))
def out (b:Bool):Ans:=if b=true then some none else none
def nameL (c:Cl) (n:List UInt8):List UInt8:=if c.sp=true then trimEnd n else n
def goodN (c:Cl) (n:List UInt8):Bool:=c.nb||GA [1] n
def goodV (c:Cl) (v:List UInt8):Bool:=c.vb||GA [6] v
def read (c:Cl) (n v:List UInt8):Ans:=if n= [] then out c.nn else if (goodN c n&&goodV c v)=true then some (some (n,v)) else none
def parse (c:Cl) (l:List UInt8):Ans:=if (cutAt 58 l).2.2=true then read c (nameL c (cutAt 58 l).1) (trimL NF (cutAt 58 l).2.1) else out c.nc
def goes (p:Nat) (l:List UInt8):Bool:=Hs p 13&&(!l.isEmpty&&NF (l.headD 0))
def right (n v:List UInt8):Bool:=!n.isEmpty&&(GA [1] n&&(GA [6] v&&decide (trimL NF v=v)))
def line (f:Fld):List UInt8:=f.1.data.toList++58::32::(f.2.data.toList ++ [13,10])
def put (fs:List Fld):List UInt8:=fs.flatMap line
theorem put_append (a b:List Fld):put (a++b)=put a++put b:=by simp [put]
theorem put_one (f:Fld):put [f]=line f:=by simp [put]
theorem put_snoc (fs:List Fld) (k:Nat) (h:k<fs.length):put (fs.take (k+1))=put (fs.take k)++line (fs[k]?.getD dflt):=by rw [flds_snoc fs k h,put_append,put_one]
theorem line_length (f:Fld):(line f).length=f.1.size+f.2.size+4:=by simp [line];omega
theorem trimEnd_le (l:List UInt8):(trimEnd l).length<=l.length:=by unfold trimEnd;have:=dropWhile_le NF l.reverse;simpa using this
theorem nameL_le (c:Cl) (l:List UInt8):(nameL c l).length<=l.length:=by
 unfold nameL;split
 ·exact trimEnd_le l
 ·exact Gi _
theorem trimEnd_snoc (l:List UInt8) (x:UInt8) (h:NF x=true):trimEnd (l ++ [x])=trimEnd l:=by unfold trimEnd;rw [F1,List.reverse_singleton,List.singleton_append,DM,if_pos h]
theorem trimEnd_stop (l:List UInt8) (x:UInt8) (h:NF x=false):trimEnd (l ++ [x])=l ++ [x]:=by unfold trimEnd;rw [F1,List.reverse_singleton,List.singleton_append,dropWhile_stop h];simp
theorem trimL_cons (l:List UInt8) (x:UInt8) (h:NF x=true):trimL NF (x::l)=trimL NF l:=by unfold trimL;rw [DM,if_pos h]
theorem token_tab:∀k:Fin 256,Oct.oneOf [1] (k.val:Int)=true->k.val≠58/\k.val≠13/\k.val≠10/\NF (NG k.val)=false:=ZR
theorem token_of {x:UInt8} (h:Oct.oneOf [1] (x.toNat:Int)=true):x≠58/\x≠13/\x≠10/\NF x=false:=by
 obtain ⟨a,b,c,d⟩:=token_tab ⟨x.toNat,x.toNat_lt⟩ h;refine ⟨?_,?_,?_,by simpa using d⟩
 ·rintro rfl;exact a rfl
 ·rintro rfl;exact b rfl
 ·rintro rfl;exact c rfl
theorem all_of {ks:List Int} {l:List UInt8} (h:GA ks l=true):∀x∈l,Oct.oneOf ks (x.toNat:Int)=true:=by simpa [GA,D5] using h
theorem no_colon {n:List UInt8} (h:GA [1] n=true):(58:UInt8)∉n:=λhm=>(token_of (all_of h _ hm)).1 rfl
theorem trimEnd_token {n:List UInt8} (h:GA [1] n=true):trimEnd n=n:=by
 rcases List.eq_nil_or_concat n with rfl | ⟨m,x,rfl⟩
 ·rfl
 ·rw [List.concat_eq_append] at *;exact trimEnd_stop m x (token_of (all_of h x ZW)).2.2.2
theorem nameL_token (c:Cl) {n:List UInt8} (h:GA [1] n=true):nameL c n=n:=by
 unfold nameL;split
 ·exact trimEnd_token h
 ·rfl
theorem right_iff {n v:List UInt8}:right n v=true↔n≠ []/\GA [1] n=true/\GA [6] v=true/\trimL NF v=v:=by cases n<;>simp [right]
theorem parse_strict {l n v:List UInt8} (h:parse c0 l=some (some (n,v))):(cutAt 58 l).2.2=true/\(cutAt 58 l).1=n/\trimL NF (cutAt 58 l).2.1=v/\n≠ []/\GA [1] n=true/\GA [6] v=true:=by
 unfold parse at h;split at h
 ·rename_i h1;rw [show nameL c0 (cutAt 58 l).1=(cutAt 58 l).1 from rfl] at h;unfold read at h;split at h
  ·exact ZG h (by simp [out,c0])
  ·rename_i h2;split at h
   ·rename_i h3;obtain ⟨rfl,rfl⟩:(cutAt 58 l).1=n/\trimL NF (cutAt 58 l).2.1=v:=by simpa using h
    have h4:GA [1] (cutAt 58 l).1=true/\GA [6] (trimL NF (cutAt 58 l).2.1)=true:=by simpa [goodN,goodV,c0] using h3
    exact ⟨h1,rfl,rfl,h2,h4.1,h4.2⟩
   ·exact ZG h ZW
 ·exact ZG h (by simp [out,c0])
theorem parse_zero (l:List UInt8):parse c0 l=none∨∃n v,parse c0 l=some (some (n,v)):=by
 rcases h:parse c0 l with _ | _ | ⟨n,v⟩
 ·exact .inl rfl
 ·exfalso;unfold parse at h;split at h
  ·unfold read at h;split at h
   ·simp [out,c0] at h
   ·split at h<;>simp at h
  ·simp [out,c0] at h
 ·exact .inr ⟨n,v,rfl⟩
theorem dropWhile_head (p:UInt8->Bool):∀l:List UInt8,l.dropWhile p= []∨∃x r,l.dropWhile p=x::r/\p x=false
 | []=>.inl rfl
 | x::l=>by
   rw [DM];split
   ·exact dropWhile_head p l
   ·rename_i hx;exact .inr ⟨x,l,rfl,by simpa using hx⟩
theorem dropWhile_idem (p:UInt8->Bool) (l:List UInt8):(l.dropWhile p).dropWhile p=l.dropWhile p:=by
 rcases dropWhile_head p l with h | ⟨x,r,h,hx⟩
 ·rw [h];rfl
 ·rw [h,dropWhile_stop hx]
theorem trimL_ahead (p:UInt8->Bool) (l:List UInt8):(trimL p l).dropWhile p=trimL p l:=by
 have key:∀m:List UInt8,m.dropWhile p=m->((m.reverse.dropWhile p).reverse).dropWhile p=(m.reverse.dropWhile p).reverse:=by
  intro m hm;rcases dropWhile_head p m.reverse with h | ⟨x,r,h,hx⟩
  ·rw [h];rfl
  ·cases m with
   | nil=>simp at h
   | cons y t=>
     have hy:p y=false:=by
      by_cases hp:p y=true
      ·exfalso;rw [DM,ZN hp] at hm;have h1:=dropWhile_le p t;rw [hm] at h1;simp at h1;omega
      ·simpa using hp
     have hs:(x::r) <:+(y::t).reverse:=by rw [←h];exact List.dropWhile_suffix p
     have hpre:(x::r).reverse <+:(y::t):=by have:=List.reverse_prefix.2 hs;simpa using this
     rw [h];obtain ⟨z,hz⟩:=hpre;cases hrev:(x::r).reverse with
     | nil=>simp at hrev
     | cons a b=>
       rw [hrev,DC] at hz;have:a=y:=by injection hz
       subst this;exact dropWhile_stop hy
 exact key _ (dropWhile_idem p l)
theorem trimL_idem (p:UInt8->Bool) (l:List UInt8):trimL p (trimL p l)=trimL p l:=by show (((trimL p l).dropWhile p).reverse.dropWhile p).reverse=trimL p l;rw [trimL_ahead];unfold trimL;rw [List.reverse_reverse,dropWhile_idem]
theorem parse_all {l n v:List UInt8} (h:parse c0 l=some (some (n,v))):(∀c,parse c l=some (some (n,v)))/\right n v=true:=by
 obtain ⟨h1,h2,h3,h4,h5,h6⟩:=parse_strict h;refine ⟨λc=>?_,?_⟩
 ·unfold parse;rw [ZN h1,h2,h3,nameL_token c h5];unfold read;rw [ZO h4,ZN (by simp [goodN,goodV,h5,h6])]
 ·rw [right_iff];exact ⟨h4,h5,h6,by rw [←h3];exact trimL_idem _ _⟩
theorem parse_of {n v x:List UInt8} (c:Cl) (hr:right n v=true) (hx:trimL NF x=v):parse c (n++58::x)=some (some (n,v)):=by obtain ⟨h1,h2,h3,h4⟩:=right_iff.1 hr;unfold parse;rw [cutAt_app 58 n x (no_colon h2)];simp only [if_true];rw [hx,nameL_token c h2];unfold read;rw [if_neg h1,if_pos (by simp [goodN,goodV,h2,h3])]
theorem parse_line (c:Cl) {n v:List UInt8} (hr:right n v=true):parse c (n++58::32::v)=some (some (n,v)):=by refine parse_of c hr ?_;rw [trimL_cons _ _ ZX];exact (right_iff.1 hr).2.2.2
theorem parse_le {c:Cl} {l n v:List UInt8} (h:parse c l=some (some (n,v))):n.length<=l.length/\v.length<=l.length:=by
 have hc:=cutAt_le 58 l;unfold parse at h;split at h
 ·unfold read at h;split at h
  ·unfold out at h;split at h<;>simp at h
  ·split at h
   ·obtain ⟨rfl,rfl⟩:nameL c (cutAt 58 l).1=n/\trimL NF (cutAt 58 l).2.1=v:=by simpa using h
    exact ⟨Gl (nameL_le _ _) hc.1,Gl (trimL_length _ _) hc.2⟩
   ·simp at h
 ·unfold out at h;split at h<;>simp at h
abbrev E0:ByteArray:=⟨#[]⟩
abbrev fv (n v:ByteArray):Value:=Z9 #[ZD n,ZD v]
def rv:Ans->Value
 | none=>.tuple #[fv E0 E0,.bool false,.int .i64 400]
 | some none=>.tuple #[fv E0 E0,.bool false,.int .i64 0]
 | some (some (n,v))=>.tuple #[fv (ba n) (ba v),.bool true,.int .i64 0]
def rn:Ans->ByteArray
 | some (some (n,_))=>ba n
 | _=>E0
def rvl:Ans->ByteArray
 | some (some (_,v))=>ba v
 | _=>E0
def rok:Ans->Bool
 | some (some _)=>true
 | _=>false
def rerr:Ans->Int
 | none=>400
 | _=>0
theorem rv_form:∀a:Ans,rv a=Z8 #[fv (rn a) (rvl a),ZB (rok a),ZE Z7 (rerr a)]
 | none=>rfl
 | some none=>rfl
 | some (some (_,_))=>rfl
end Fd
namespace Fd
open Base Txt Tgt
theorem first_no (s:ByteArray) (h:0<s.size):s.toList.isEmpty=false:=by exact XXIgh
theorem ba_pos {n:List UInt8} (h:n≠ []):0<(ba n).size:=by rw [Txt.ba_size];exact EX.2 h
structure Fb (w:World) (g:Nat) (n v:ByteArray):Prop where
 c0:w.cell? ⟨g,0,none⟩=some (ZD n)
 c1:w.cell? ⟨g,1,none⟩=some (ZD v)
 z0:w.frozen? ⟨g,0,none⟩=false
 z1:w.frozen? ⟨g,1,none⟩=false
theorem Fb.below {w w':World} {g:Nat} {n v:ByteArray} (H:Fb w g n v) (hg:g<w.heap.size) (hb:Below w.heap.size w w'):Fb w' g n v:=
 ⟨(hb.cell (p:=⟨g,0,none⟩) hg).trans H.c0,(hb.cell (p:=⟨g,1,none⟩) hg).trans H.c1,(hb.frozen (p:=⟨g,0,none⟩) hg).trans H.z0,(hb.frozen (p:=⟨g,1,none⟩) hg).trans H.z1⟩
theorem Fb.new (w:World) (t:TypeId) (n v:ByteArray):Fb (w.alloc (.cells #[ZD n,ZD v] t)) w.heap.size n v:=by
 have hh:=heap_alloc_new w (.cells #[ZD n,ZD v] t);have c:∀k u,(#[Value.string n,ZD v]:Array Value)[k]?=some u->(w.alloc (.cells #[ZD n,ZD v] t)).cell? ⟨w.heap.size,k,none⟩=some u:=
  λk u e=>(cell_of_row (w.alloc _) w.heap.size k _ t (0,0) hh).trans e
 have z:∀k,(w.alloc (.cells #[ZD n,ZD v] t)).frozen? ⟨w.heap.size,k,none⟩=false:=λk=>by unfold World.frozen?;simp only [hh];simp
 exact ⟨c 0 _ rfl,c 1 _ rfl,z 0,z 1⟩
theorem Fb.put {B:Nat} {w0 w:World} {g:Nat} {n v:ByteArray} (H:Fb w g n v) (hb:Below B w0 w) (hg:B<=g) (n' v':ByteArray) :
 ∃W,(w.setCell ⟨g,0,none⟩ (ZD n')).setCell ⟨g,1,none⟩ (ZD v')=W/\Fb W g n' v'/\Below B w0 W:=by
 obtain ⟨c0,c1,z0,z1⟩:=H;refine ⟨_,rfl,⟨?_,?_,?_,?_⟩,(hb.setCell hg _).setCell hg _⟩;all_goals go_simp
theorem Fb.other {w:World} {g:Nat} {n v:ByteArray} (H:Fb w g n v) (g' o:Nat) (u:Value) (n2:¬g'=g):Fb (w.setCell ⟨g',o,none⟩ u) g n v:=by obtain ⟨c0,c1,z0,z1⟩:=H;refine ⟨?_,?_,?_,?_⟩;all_goals go_simp
structure Keep (w0:World) (n v:ByteArray) (w:World):Prop where
 f:Fb w w0.heap.size n v
 g:w0.heap.size<w.heap.size
 b:Below w0.heap.size w0 w
theorem Keep.new (w:World) (t:TypeId) (n v:ByteArray):Keep w n v (w.alloc (.cells #[ZD n,ZD v] t)):=
 ⟨Fb.new w t n v,ZW,(AE _ _).alloc (Gi _) _⟩
theorem Keep.step {w0 w w':World} {n v:ByteArray} (h:Keep w0 n v w) (hb:Below w.heap.size w w'):Keep w0 n v w':=
 ⟨h.f.below h.g hb,Gn h.g hb.size,A6 h.b hb⟩
theorem Keep.drew {w0 w:World} {n v:ByteArray} (h:Keep w0 n v w) (m:Nat):Keep w0 n v (w.drewN m):=h.step (Az (AE _ _) m)
structure Two (w0:World) (n v:ByteArray) (t:Nat) (N V:ByteArray) (w:World):Prop where
 k:Keep w0 n v w
 f:Fb w t N V
 ne:¬t=w0.heap.size
 lt:t<w.heap.size
 ge:w0.heap.size<=t
theorem Two.new {w0 w:World} {n v:ByteArray} (h:Keep w0 n v w) (ty:TypeId) (N V:ByteArray):Two w0 n v w.heap.size N V (w.alloc (.cells #[ZD N,ZD V] ty)):=
 ⟨h.step ((AE _ _).alloc (Gi _) _),Fb.new w ty N V,by have:=h.g;omega,ZW,by have:=h.g;omega⟩
theorem Two.step {w0 w w':World} {n v N V:ByteArray} {t:Nat} (h:Two w0 n v t N V w) (hb:Below w.heap.size w w'):Two w0 n v t N V w':=
 ⟨h.k.step hb,h.f.below h.lt hb,h.ne,Gn h.lt hb.size,h.ge⟩
theorem Two.drew {w0 w:World} {n v N V:ByteArray} {t:Nat} (h:Two w0 n v t N V w) (m:Nat):Two w0 n v t N V (w.drewN m):=h.step (Az (AE _ _) m)
section
attribute [local go_sem] A8
theorem none_any (p:Nat) (hp:p<4294967296) (c:Int) (w:World):Calls Mm 272 #[ZE Z5 (p:Nat),ZE Z7 c] w λe w'=>e=.returned (rv (out (Hs p c)))/\Below w.heap.size w w':=by
 have HH:=Dl (λw=>Ht p hp c w);generalize Hs p c=b at *;cases b;all_goals
  go_enter Tryz.func272,Tryz.ntmps272
  go_wp2_with (go_at_call 84;with_reducible refine Cm (HH.out _) ?_)
 ·exact ZF (v:=Z8 #[fv E0 E0,ZB false,ZE Z7 400]) (by simp [results,Tryz.results272,go_sem]) rfl ⟨rfl,(AE _ _).alloc (Gi _) _⟩
 ·exact ZF (v:=Z8 #[fv E0 E0,ZB false,ZE Z7 0]) (by simp [results,Tryz.results272,go_sem]) rfl ⟨rfl,(AE _ _).alloc (Gi _) _⟩
theorem trimEnd_any (s:ByteArray) (w:World) (hs:s.size<=1000000000):Calls Mm 273 #[ZD s] w λe w'=>e=.returned (ZD (ba (trimEnd s.data.toList)))/\w'=w:=by
 obtain ⟨R,hR⟩:∃R,ba (trimEnd s.data.toList)=R:=⟨_,rfl⟩;rw [hR];have HQ:=Dl (show R.data.toList=trimEnd s.data.toList by rw [←hR];rfl);clear hR;go_enter Tryz.func273,Tryz.ntmps273;go_wp2
 go_loop [3] (λi=>∃k:Nat,k<=s.size/\i=ZE Z7 k/\Hid (trimEnd (s.data.toList.take k)=trimEnd s.data.toList)) (λi=>(intOf i).toNat)
 case atStart=>exact ⟨s.size,Gi _,rfl,Dl (by rw [take_all s _ (Gi _)])⟩
 case round=>
  obtain ⟨k,hk,rfl,HR⟩:=hrel;rcases k with _ | k
  ·have E1:=Dl (show Bp=R from ba_ext (by rw [HQ.out,←HR.out];rfl));go_wp2;go_ret;exact ⟨by rw [←E1.out];rfl,rfl⟩
  ·have hlt:k<s.size:=by omega
   have HS:=Dl (take_snoc s k hlt);have HB:=Dl (λw=>Oct.blank_any (s[k].toNat:Int) w);rw [blank_is] at HB;have c1:IntKind.i64.wrap (((k+1:Nat):Int)-1)=(k:Int):=by rw [wrap_in _ ZZ ZZ];omega
   have c2:(0:Int)<((k+1:Nat):Int):=ZZ;cases hb:NF s[k] with
   | false=>
     rw [hb] at HB
     have E1:=Dl (show s.extract 0 (k+1)=R from ba_ext (by rw [HQ.out,←HR.out,HS.out,trimEnd_stop _ _ hb,←HS.out,Di];rfl));clear hb;go_wp2_with (go_at_call 217;with_reducible refine Cm (HB.out _) ?_);go_ret;exact ⟨by rw [←E1.out];rfl,rfl⟩
   | true=>
     rw [hb] at HB
     have HR':=Dl (show trimEnd (s.data.toList.take k)=trimEnd s.data.toList by rw [←HR.out,HS.out,trimEnd_snoc _ _ hb]);clear hb HR;go_wp2_with (go_at_call 217;with_reducible refine Cm (HB.out _) ?_);go_round
     case rel=>exact ⟨k,ZZ,rfl,HR'⟩
     case measure=>simp [intOf]
theorem isName_any (s:ByteArray) (p:Nat) (hp:p<4294967296) (w:World) (hs:s.size<=maxLen):Calls Mm 274 #[ZD s,ZE Z5 (p:Nat)] w λe w'=>e=.returned (ZB (goodN (clOf p) s.data.toList))/\Below w.heap.size w w':=by
 have HH:=Dl (λw=>Ht p hp 10 w);have HA:=Dl (λw a (hk:Ints w a 1 [1])=>Oct.all_any s a 1 1 [1] w hs hk ZX);rw [show goodN (clOf p) s.data.toList=(Hs p 10||GA [1] s.data.toList) from rfl];generalize Hs p 10=b at *;generalize GA [1] s.data.toList=r at *;cases b;all_goals
  go_enter Tryz.func274,Tryz.ntmps274
  go_wp2_with (first
   |(go_at_call 84;with_reducible refine Cm (HH.out _) ?_)
   |(go_at_call 263;with_reducible refine Cm (HA.out _ _ (CO _ _ rfl _ _)) ?_))
  go_ret
 ·exact ⟨ZV,(AE _ _).alloc (Gi _) _⟩
 ·exact ⟨ZV,AE _ _⟩
theorem isValue_any (s:ByteArray) (p:Nat) (hp:p<4294967296) (w:World) (hs:s.size<=maxLen):Calls Mm 275 #[ZD s,ZE Z5 (p:Nat)] w λe w'=>e=.returned (ZB (goodV (clOf p) s.data.toList))/\Below w.heap.size w w':=by
 have HH:=Dl (λw=>Ht p hp 14 w);have HA:=Dl (λw a (hk:Ints w a 1 [6])=>Oct.all_any s a 1 1 [6] w hs hk ZX);rw [show goodV (clOf p) s.data.toList=(Hs p 14||GA [6] s.data.toList) from rfl];generalize Hs p 14=b at *;generalize GA [6] s.data.toList=r at *;cases b;all_goals
  go_enter Tryz.func275,Tryz.ntmps275
  go_wp2_with (first
   |(go_at_call 84;with_reducible refine Cm (HH.out _) ?_)
   |(go_at_call 263;with_reducible refine Cm (HA.out _ _ (CO _ _ rfl _ _)) ?_))
  go_ret
 ·exact ⟨ZV,(AE _ _).alloc (Gi _) _⟩
 ·exact ⟨ZV,AE _ _⟩
theorem XXpKR {P:Prop} (h:P:=by
 have hl:s.data.toList=s[0]::s.data.toList.drop 1:=by
  have hlen:0<s.data.toList.length:=by rw [len];exact h0
  rw [←List.drop_zero (l:=s.data.toList),DR hlen];rfl
 rw [hl];rfl):P:=h
theorem goes_any (s:ByteArray) (p:Nat) (hp:p<4294967296) (w:World):Calls Mm 245 #[ZD s,ZE Z5 (p:Nat)] w λe w'=>e=.returned (ZB (goes p s.data.toList))/\w'=w:=by
 have HH:=Dl (λw=>Ht p hp 13 w);unfold goes;generalize Hs p 13=b at *;rcases Gg s.size with h0 | h0
 ·obtain rfl:s=E0:=ba_ext (ET.1 (by rw [len];exact h0));cases b;all_goals
   go_enter Tryz.func245,Tryz.ntmps245;go_wp2_with (go_at_call 84;with_reducible refine Cm (HH.out _) ?_);go_ret;exact ⟨ZV,rfl⟩
 ·have t0:=first_no s h0;have HB:=Dl (λw=>Oct.blank_any (s[0].toNat:Int) w);rw [blank_is] at HB;have e1:(!s.data.toList.isEmpty&&NF (s.data.toList.headD 0))=NF s[0]:=by exact XXpKR
  rw [e1];clear e1;cases b;all_goals
   go_enter Tryz.func245,Tryz.ntmps245
   go_wp2_with (first
    |(go_at_call 84;with_reducible refine Cm (HH.out _) ?_)
    |(go_at_call 217;with_reducible refine Cm (HB.out _) ?_))
   go_ret;exact ⟨ZV,rfl⟩
end
end Fd
theorem XX8fe {P:Prop} (h:P:=by simp [results,Tryz.results247,go_sem,d0,d1]):P:=h
theorem XX1Z9 {P:Prop} (h:P:=by rw [Txt.ba_size];unfold maxLen;omega):P:=h
namespace Fd
open Base Txt Tgt
section
attribute [local go_sem] A8
theorem XX9QI {P:Prop} (h:P:=by
 obtain ⟨W,hW,⟨d0,d1,_,_⟩,hbW⟩:=Fb.put HK.out.f HK.out.b (Gi _) E0 E0;rw [hW]
 exact ZF (v:=Z8 #[fv E0 E0,ZB false,ZE Z7 400]) XX8fe rfl ⟨rfl,hbW⟩):P:=h
theorem parse_any (s:ByteArray) (p:Nat) (hp:p<4294967296) (w:World) (hs:s.size<=1000000000):Calls Mm 247 #[ZD s,ZE Z5 (p:Nat)] w λe w'=>e=.returned (rv (parse (clOf p) s.data.toList))/\Below w.heap.size w w':=by
 have HC:=Dl (λw=>cut_any s 58 w hs);have hle:=cutAt_le 58 s.data.toList;rw [len] at hle;obtain ⟨R,hR⟩:∃R,parse (clOf p) s.data.toList=R:=⟨_,rfl⟩;rw [hR];unfold parse at hR;generalize (cutAt 58 s.data.toList).1=n0 at *;generalize (cutAt 58 s.data.toList).2.1=v0 at *;generalize (cutAt 58 s.data.toList).2.2=ok at *;have HK0:=Dl (Keep.new w 126 E0 E0);cases ok with
 | false=>
   rw [ZO ZX] at hR;have HN:=Dl (λw=>none_any p hp 11 w);rw [show out (Hs p 11)=R from hR,rv_form] at HN;rw [rv_form];clear hR hle;generalize rn R=N at *;generalize rvl R=V at *;generalize rok R=O at *;generalize rerr R=Z at *;go_enter Tryz.func247,LP
   go_wp2_with (first
    |(go_at_call 271;with_reducible refine (HC.out _).mono ?_;rintro e w1 ⟨rfl,m,hw⟩;rw [hw];clear hw)
    |(go_at_call 272;with_reducible refine (HN.out _).mono ?_;rintro e w2 ⟨rfl,hb⟩
      have HK:=Dl ((HK0.out.drew m).step hb);obtain ⟨⟨c0,c1,z0,z1⟩,hg,hbk⟩:=HK.out;clear hg hbk hb))
   obtain ⟨W,hW,⟨d0,d1,_,_⟩,hbW⟩:=Fb.put HK.out.f HK.out.b (Gi _) N V;rw [hW];exact ZF (v:=Z8 #[fv N V,ZB O,ZE Z7 Z]) XX8fe rfl ⟨rfl,hbW⟩
 | true=>
   rw [ZN rfl] at hR
   have HH:=Dl (λw=>Ht p hp 9 w)
   have HT:=Dl (λw=>trimEnd_any (ba n0) w (by rw [Txt.ba_size];omega));have HV:=Dl (λw=>trim_any (ba v0) w XX1Z9);rw [show trim (ba v0)=ba (trimL NF v0) from rfl] at HV;rw [show (ba n0).data.toList=n0 from rfl] at HT;have hv1:(trimL NF v0).length<=s.size:=Gl (trimL_length _ _) hle.2;have hn1:(nameL (clOf p) n0).length<=s.size:=Gl (nameL_le _ _) hle.1;have hnm:(if Hs p 9=true then trimEnd n0 else n0)=nameL (clOf p) n0:=rfl;generalize trimL NF v0=v1 at *;generalize nameL (clOf p) n0=n1 at *
   have HNm:=Dl (λw=>isName_any (ba n1) p hp w XX1Z9);have HVl:=Dl (λw=>isValue_any (ba v1) p hp w XX1Z9);rw [show (ba n1).data.toList=n1 from rfl] at HNm;rw [show (ba v1).data.toList=v1 from rfl] at HVl;unfold read at hR;have HN:=Dl (λw=>none_any p hp 12 w);rw [show Hs p 12=(clOf p).nn from rfl] at HN;generalize (clOf p).nn=nn at *;generalize goodN (clOf p) n1=gn at *;generalize goodV (clOf p) v1=gv at *;clear hle hv1 hn1;by_cases hn:n1= []
   ·rw [ZN hn] at hR;subst hn;rw [hR,rv_form] at HN;rw [rv_form];clear hR HNm HVl HV;generalize rn R=N at *;generalize rvl R=V at *;generalize rok R=O at *;generalize rerr R=Z at *;generalize Hs p 9=sp at *;cases sp;all_goals
     first | rw [ZN rfl] at hnm | rw [ZO ZX] at hnm
     first | subst hnm |(rw [hnm] at HT;clear hnm)
     try rw [show ba []=E0 from rfl] at HT
     try rw [show ba []=E0 from rfl] at HC
     go_enter Tryz.func247,LP
     go_wp2_with (first
      |(go_at_call 271;with_reducible refine (HC.out _).mono ?_;rintro e w1 ⟨rfl,m,hw⟩;rw [hw];clear hw)
      |(go_at_call 84;with_reducible refine Cm (HH.out _) ?_)
      |(go_at_call 273;with_reducible refine Cm (HT.out _) ?_)
      |(go_at_call 272;with_reducible refine (HN.out _).mono ?_;rintro e w2 ⟨rfl,hb⟩
        have HK:=Dl ((HK0.out.drew m).step hb);obtain ⟨⟨c0,c1,z0,z1⟩,hg,hbk⟩:=HK.out;clear hg hbk hb))
     obtain ⟨W,hW,⟨d0,d1,_,_⟩,hbW⟩:=Fb.put HK.out.f HK.out.b (Gi _) N V;rw [hW];exact ZF (v:=Z8 #[fv N V,ZB O,ZE Z7 Z]) XX8fe rfl ⟨rfl,hbW⟩
   ·rw [ZO hn] at hR;have t0:=first_no (ba n1) (ba_pos hn);have hnm':ba (if Hs p 9=true then trimEnd n0 else n0)=ba n1:=ZH ba hnm;clear HN hn hnm;generalize Hs p 9=sp at *;obtain ⟨T,hT⟩:∃T,ba (trimEnd n0)=T:=⟨_,rfl⟩;rw [hT] at HT;generalize hN0:ba n0=N0 at *;generalize ba v0=V0 at *;have hrv:rv R=if (gn&&gv)=true then Z8 #[fv (ba n1) (ba v1),ZB true,ZE Z7 0] else Z8 #[fv E0 E0,ZB false,ZE Z7 400]:=by rw [←hR];split<;>rfl
    rw [hrv];clear hrv hR;generalize ba n1=N1 at *;generalize ba v1=V1 at *;cases sp;all_goals
     first | rw [ZN rfl] at hnm' | rw [ZO ZX] at hnm'
     first |(rw [hN0] at hnm';replace hnm':=hnm'.symm;subst hnm') |(rw [hT] at hnm';replace hnm':=hnm'.symm;subst hnm')
     clear hN0 hT;cases gn
     ·rw [ZO ZW];go_enter Tryz.func247,LP
      go_wp2_with (first
       |(go_at_call 271;with_reducible refine (HC.out _).mono ?_;rintro e w1 ⟨rfl,m,hw⟩;rw [hw];clear hw)
       |(go_at_call 84;with_reducible refine Cm (HH.out _) ?_)
       |(go_at_call 273;with_reducible refine Cm (HT.out _) ?_)
       |(go_at_call 192;with_reducible refine Cm (HV.out _) ?_)
       |(go_at_call 274;with_reducible refine (HNm.out _).mono ?_;rintro e w2 ⟨rfl,hb⟩
         have HK:=Dl ((HK0.out.drew m).step hb);obtain ⟨⟨c0,c1,z0,z1⟩,hg,hbk⟩:=HK.out;clear hg hbk hb))
      exact XX9QI
     ·cases gv
      ·rw [ZO ZX];go_enter Tryz.func247,LP
       go_wp2_with (first
        |(go_at_call 271;with_reducible refine (HC.out _).mono ?_;rintro e w1 ⟨rfl,m,hw⟩;rw [hw];clear hw)
        |(go_at_call 84;with_reducible refine Cm (HH.out _) ?_)
        |(go_at_call 273;with_reducible refine Cm (HT.out _) ?_)
        |(go_at_call 192;with_reducible refine Cm (HV.out _) ?_)
        |(go_at_call 274;with_reducible refine (HNm.out _).mono ?_;rintro e w2 ⟨rfl,hb⟩
          have HK:=Dl ((HK0.out.drew m).step hb);clear hb)
        |(go_at_call 275;with_reducible refine (HVl.out _).mono ?_;rintro e w3 ⟨rfl,hb⟩
          replace HK:=Dl (HK.out.step hb)
          obtain ⟨⟨c0,c1,z0,z1⟩,hg,hbk⟩:=HK.out;clear hg hbk hb))
       exact XX9QI
      ·rw [ZN ZX];go_enter Tryz.func247,LP
       go_wp2_with (first
        |(go_at_call 271;with_reducible refine (HC.out _).mono ?_;rintro e w1 ⟨rfl,m,hw⟩;rw [hw];clear hw)
        |(go_at_call 84;with_reducible refine Cm (HH.out _) ?_)
        |(go_at_call 273;with_reducible refine Cm (HT.out _) ?_)
        |(go_at_call 192;with_reducible refine Cm (HV.out _) ?_)
        |(go_at_call 274;with_reducible refine (HNm.out _).mono ?_;rintro e w2 ⟨rfl,hb⟩
          have HK:=Dl ((HK0.out.drew m).step hb);clear hb)
        |(go_at_call 275;with_reducible refine (HVl.out _).mono ?_;rintro e w3 ⟨rfl,hb⟩
          replace HK:=Dl (HK.out.step hb)
          obtain ⟨⟨c0,c1,z0,z1⟩,hg,hbk⟩:=HK.out;clear hg hbk hb))
       obtain ⟨W,hW,⟨d0,d1,_,_⟩,hbW⟩:=Fb.put HK.out.f HK.out.b (Gi _) N1 V1;rw [hW];exact ZF (v:=Z8 #[fv N1 V1,ZB true,ZE Z7 0]) XX8fe rfl ⟨rfl,hbW⟩
end
end Fd
namespace Fd
open Base Txt Tgt
def joined (v s:List UInt8):List UInt8:=v++32::trimL NF s
theorem joined_eq (v s:ByteArray):v++(⟨#[32]⟩++trim s)=ba (joined v.data.toList s.data.toList):=ba_ext (by simp only [joined,Bo,Array.toList_append];rfl)
section
attribute [local go_sem] A8
theorem join_any (n v s:ByteArray) (w:World) (hs:s.size<=1000000000) (hv:v.size<=1000000000):Calls Mm 246 #[fv n v,ZD s] w λe w'=>e=.returned (fv n (ba (joined v.data.toList s.data.toList)))/\Below w.heap.size w w':=by
 have HT:=Dl (λw=>trim_any s w ZP);have hT:(trim s).size<=s.size:=trim_size _ _;rw [←joined_eq];generalize trim s=T at *;have v1:¬9223372036854775807<1+T.size:=ZZ;have v2:¬9223372036854775807<v.size+(1+T.size):=ZZ;go_enter Tryz.func246,Tryz.ntmps246;go_wp2_with fail;go_region_with (go_at_call 192;with_reducible refine Cm (HT.out _) ?_);all_goals
  go_wp2;exact ZF (v:=fv n (v++(⟨#[32]⟩++T))) (by simp [results,Tryz.results246,go_sem]) rfl ⟨rfl,Az (((AE _ _).alloc (Gi _) _).alloc ZW _) 1⟩
end
end Fd
namespace Fd
open Base Txt Tgt
section
attribute [local go_sem] A8
end
end Fd
namespace Frm
open Base Txt
abbrev hostN:ByteArray:=⟨#[72,111,115,116]⟩
abbrev teN:ByteArray:=⟨#[84,114,97,110,115,102,101,114,45,69,110,99,111,100,105,110,103]⟩
abbrev clN:ByteArray:=⟨#[67,111,110,116,101,110,116,45,76,101,110,103,116,104]⟩
abbrev chunked:ByteArray:=⟨#[99,104,117,110,107,101,100]⟩
abbrev blanksOf:ByteArray:=⟨#[11,12,32,9]⟩
def hostsV (nh mh:Bool) (minor:Int) (h:List ByteArray):Int:=
 if ((decide (minor=1)&&(decide (h.length=0) && !nh))|| (decide (1<h.length) && !mh))=true then 400
 else if (h.all λv=>Jl v.data.toList)=true then 0 else 400
def isC (tb:Bool) (v:ByteArray):Bool:=same (if tb=true then trimOf v blanksOf else v) chunked
def onlyLast:List Bool->Bool
 | []=>false
 | [b]=>b
 | b::c::r=>!b&&onlyLast (c::r)
def coding (tb tl:Bool) (vs:List ByteArray):Bool:=onlyLast ((list vs).map (isC tb))&&(decide ((list vs).length=1)||tl)
def alikeL (l:List ByteArray):Bool:=l.all λv=>decide (v=l.headD Bp)
def counts (lc lf ll:Bool) (l:List ByteArray):Option ByteArray:=
 if (decide (l.length=1)|| ((lc&&alikeL l)||lf))=true then some (l.headD Bp)
 else if ll=true then some (l.getLastD Bp) else none
def unplus (lp:Bool) (s:ByteArray):ByteArray:=if (lp&&decide (s.data.toList.head?=some 43))=true then ba (s.data.toList.drop 1) else s
def numV (r:Int × Int):Int × Int:=if r.2=22 then (0,400) else if r.2=23 then (0,413) else (r.1,0)
def lengthV (lp lc lf ll:Bool) (most:Int) (vs:List ByteArray):Int × Int:=
 if vs= [] then (0,0) else
 match counts lc lf ll (if lc=true then list vs else vs) with
 | none=>(0,400)
 | some s=>numV (G6 10 most (unplus lp s).data.toList)
def winsV (td ti tw lw:Bool) (minor:Int) (nte ncl:Nat) (cod:Bool):Bool × Int:=
 if nte=0 then (false,0)
 else if (decide (minor=0) && !td)=true then (false,400)
 else if cod=false then (false,if ti=true then 0 else 501)
 else if (decide (0<ncl) && !tw)=true then (false,if lw=true then 0 else 400)
 else (true,0)
def fixedV (r:Int × Int):Int × Int × Int:=if r.2=0 then (1,r.1,0) else (0,0,r.2)
def bodyV (hs:Int) (ch:Bool) (wins:Bool × Int) (len:Int × Int):Int × Int × Int:=
 if hs≠0 then (0,0,hs) else if wins.2≠0 then (0,0,wins.2)
 else if wins.1=true then (if ch=true then (2,0,0) else (0,0,501)) else fixedV len
structure Cl where
 nh:Bool
 mh:Bool
 tb:Bool
 tl:Bool
 ti:Bool
 td:Bool
 tw:Bool
 lw:Bool
 lp:Bool
 lc:Bool
 lf:Bool
 ll:Bool
def clOf (p:Nat):Cl:=⟨Hs p 15,Hs p 16,Hs p 17,Hs p 18,Hs p 19,Hs p 20,Hs p 21,Hs p 22,Hs p 23,Hs p 24,Hs p 25,Hs p 26⟩
def decideV (c:Cl) (ch:Bool) (body minor:Int) (fs:List Fld):Int × Int × Int:=
 bodyV (hostsV c.nh c.mh minor (find fs hostN)) ch (winsV c.td c.ti c.tw c.lw minor (find fs teN).length (find fs clN).length (coding c.tb c.tl (find fs teN)))
  (lengthV c.lp c.lc c.lf c.ll body (find fs clN))
theorem only_count:∀bs:List Bool,(decide (bs.countP id=1)&&bs.getLastD false)=onlyLast bs
 | []=>rfl
 | [b]=>by cases b<;>rfl
 | b::c::r=>by
   have ih:=only_count (c::r);have hl:(b::c::r).getLastD false=(c::r).getLastD false:=by rw [List.getLastD_cons,List.getLastD_cons,List.getLastD_cons]
   rw [hl];cases b with
   | false=>
     rw [List.countP_cons_of_neg ZX,ih];rfl
   | true=>
     rw [List.countP_cons_of_pos ZV];show _=false;by_cases h:(c::r).countP id=0
     ·have h0:=List.countP_eq_zero.1 h;have hm:(c::r).getLastD false=false:=by
       rw [EI,List.getLast?_eq_some_getLast (List.cons_ne_nil c r)];have:=h0 _ (List.getLast_mem (List.cons_ne_nil c r));simpa using this
      rw [hm,AN]
     ·rw [ZL ZZ,AS]
theorem only_step (bs:List Bool) (k:Nat) (h:k+1<bs.length) (hb:bs[k]'(by omega)=false):onlyLast (bs.drop k)=onlyLast (bs.drop (k+1)):=by rw [DR (show k<bs.length by omega),hb,DR h];rfl
theorem only_hit (bs:List Bool) (k:Nat) (h:k+1<bs.length) (hb:bs[k]'(by omega)=true):onlyLast (bs.drop k)=false:=by rw [DR (show k<bs.length by omega),hb,DR h];rfl
theorem only_end (bs:List Bool) (k:Nat) (h:k+1=bs.length):onlyLast (bs.drop k)=bs[k]'(by omega):=by rw [DR (show k<bs.length by omega),DS ZZ];rfl
theorem list_mem_size (vs:List ByteArray) (x:ByteArray) (hx:x∈list vs):x.size<=room vs:=by
 unfold list at hx;obtain ⟨v,hv,hx⟩:=List.mem_flatMap.1 hx;unfold partsOf at hx;obtain ⟨l,hl,rfl⟩:=List.mem_map.1 hx;have h1:=trim_size NF (ba l);have h2:=parts_size 44 v.data.toList l hl;have h3:=room_mem vs v hv;rw [ba_size] at h1;rw [len] at h2;show (trimB NF (ba l)).size<=_;omega
theorem list_ne_nil (vs:List ByteArray) (h:vs≠ []):0<(list vs).length:=by
 cases vs with
 | nil=>exact ZG rfl h
 | cons v r=>
   have:(list (v::r)).length=(partsOf v).length+(list r).length:=by simp [list]
   have h2:0<(partsOf v).length:=by unfold partsOf;rw [EV,parts_length];omega
   omega
theorem lower_chunked (x:ByteArray):decide (lower x=chunked)=same x chunked:=by
 have h:=same_iff x chunked;rw [show lower chunked=chunked by decide +kernel] at h;cases hs:same x chunked with
 | true=>exact ZK (h.1 hs)
 | false=>exact ZL λe=>by rw [h.2 e] at hs;cases hs
theorem find_sizes (fs:List Fld) (name:ByteArray) (B:Nat) (h:∀f∈fs,f.2.size<=B):∀v∈find fs name,v.size<=B:=by intro v hv;unfold find at hv;obtain ⟨f,hf,rfl⟩:=List.mem_map.1 hv;exact h f (List.mem_filter.1 hf).1
theorem room_le:∀(vs:List ByteArray) (B:Nat),(∀v∈vs,v.size<=B)->room vs<=vs.length*(B+1)
 | [],_,_=>Gz _
 | v::r,B,h=>by
   have ih:=room_le r B λx hx=>h x (List.mem_cons_of_mem _ hx);have h1:=h v (List.mem_cons_self ..);have:room (v::r)=v.size+1+room r:=by simp [room]
   rw [this,EP,Nat.succ_mul];omega
end Frm
theorem XX4ed {P:Prop} (h:P:=by rintro e w' ⟨b,m,c,rfl,rfl,hS,hb⟩;exact ⟨b,c,rfl,hS,hb⟩):P:=h
namespace Frm
open Base Txt
structure Gb (w:World) (g:Nat) (k l:Int):Prop where
 c0:w.cell? ⟨g,0,none⟩=some (ZE Z7 k)
 c1:w.cell? ⟨g,1,none⟩=some (ZE Z7 l)
 z0:w.frozen? ⟨g,0,none⟩=false
 z1:w.frozen? ⟨g,1,none⟩=false
theorem Gb.new (w:World) (t:TypeId) (k l:Int):Gb (w.alloc (.cells #[ZE Z7 k,ZE Z7 l] t)) w.heap.size k l:=by
 have hh:=heap_alloc_new w (.cells #[ZE Z7 k,ZE Z7 l] t);have c:∀j u,(#[Value.int .i64 k,ZE Z7 l]:Array Value)[j]?=some u->(w.alloc (.cells #[ZE Z7 k,ZE Z7 l] t)).cell? ⟨w.heap.size,j,none⟩=some u:=
  λj u e=>(cell_of_row (w.alloc _) w.heap.size j _ t (0,0) hh).trans e
 have z:∀j,(w.alloc (.cells #[ZE Z7 k,ZE Z7 l] t)).frozen? ⟨w.heap.size,j,none⟩=false:=λj=>by unfold World.frozen?;simp only [hh];simp
 exact ⟨c 0 _ rfl,c 1 _ rfl,z 0,z 1⟩
theorem Gb.below {w w':World} {g:Nat} {k l:Int} (h:Gb w g k l) (hg:g<w.heap.size) (hb:Below w.heap.size w w'):Gb w' g k l:=
 ⟨(hb.cell (p:=⟨g,0,none⟩) hg).trans h.c0,(hb.cell (p:=⟨g,1,none⟩) hg).trans h.c1,(hb.frozen (p:=⟨g,0,none⟩) hg).trans h.z0,(hb.frozen (p:=⟨g,1,none⟩) hg).trans h.z1⟩
theorem Gb.put {B:Nat} {w0 w:World} {g:Nat} {k l:Int} (H:Gb w g k l) (hb:Below B w0 w) (hg:B<=g) (k' l':Int) :
 ∃W,(w.setCell ⟨g,0,none⟩ (ZE Z7 k')).setCell ⟨g,1,none⟩ (ZE Z7 l')=W/\Gb W g k' l'/\Below B w0 W:=by
 obtain ⟨c0,c1,z0,z1⟩:=H;refine ⟨_,rfl,⟨?_,?_,?_,?_⟩,(hb.setCell hg _).setCell hg _⟩;all_goals go_simp
abbrev fr (k l:Int):Value:=Z9 #[ZE Z7 k,ZE Z7 l]
theorem find_at (a:Option Addr) (n cap:Nat) (fs:List Fld) (name:ByteArray) (w:World) (hv:Flds w a n fs) (hn:n<=1000000000) (hs:∀f∈fs,f.1.size<=maxLen) :
 Calls Mm 99 #[.slice a n cap,ZD name] w λe w'=>∃b c,e=.returned (.slice b (find fs name).length c)/\Strs w' b (find fs name).length (find fs name)/\Below w.heap.size w w':=
 (find_any a n cap fs name w hv hn hs).mono XX4ed
theorem list_at (a:Option Addr) (n cap:Nat) (vs:List ByteArray) (w:World) (hv:Strs w a n vs) (hr:room vs<=1000000000) :
 Calls Mm 163 #[.slice a n cap] w λe w'=>∃b c,e=.returned (.slice b (list vs).length c)/\Strs w' b (list vs).length (list vs)/\Below w.heap.size w w':=
 (list_any a n cap vs w hv hr).mono XX4ed
section
attribute [local go_sem] A8
theorem unless_any (p:Nat) (hp:p<4294967296) (c e0:Int) (w:World):Calls Mm 292 #[ZE Z5 (p:Nat),ZE Z7 c,ZE Z7 e0] w λe w'=>e=.returned (ZE Z7 (if Hs p c=true then 0 else e0))/\w'=w:=by
 have H:=Dl (λw=>Ht p hp c w);generalize Hs p c=b at *;cases b;all_goals
  go_enter Tryz.func292,Tryz.ntmps292;go_wp2_with (go_at_call 84;with_reducible refine Cm (H.out _) ?_);go_ret;exact ⟨rfl,rfl⟩
theorem isChunked_any (v:ByteArray) (p:Nat) (hp:p<4294967296) (w:World) (hs:v.size<=maxLen):Calls Mm 311 #[ZD v,ZE Z5 (p:Nat)] w λe w'=>e=.returned (ZB (isC (Hs p 17) v))/\Below w.heap.size w w':=by
 have H:=Dl (λw=>Ht p hp 17 w);have HT:=Dl (λw=>trimOf_any v ⟨#[11,12,32,9]⟩ w hs ZX);have hz:(trimOf v ⟨#[11,12,32,9]⟩).size<=maxLen:=Gl (trim_size _ _) hs;obtain ⟨T,hT⟩:∃T,trimOf v ⟨#[11,12,32,9]⟩=T:=⟨_,rfl⟩;rw [hT] at HT hz;cases hb:Hs p 17 with
 | false=>
   rw [hb] at H;have HS:=Dl (λw=>same_any v ⟨#[99,104,117,110,107,101,100]⟩ w hs);rw [show isC false v=same v ⟨#[99,104,117,110,107,101,100]⟩ from rfl];generalize same v ⟨#[99,104,117,110,107,101,100]⟩=r at *;clear hT hb;go_enter Tryz.func311,Tryz.ntmps311
   go_wp2_with (first
    |(go_at_call 84;with_reducible refine Cm (H.out _) ?_)
    |(go_at_call 145;with_reducible refine (HS.out _).mono ?_;rintro e w1 ⟨rfl,hb⟩))
   go_ret;exact ⟨rfl,hb⟩
 | true=>
   rw [hb] at H;have HS:=Dl (λw=>same_any T ⟨#[99,104,117,110,107,101,100]⟩ w hz);rw [show isC true v=same T ⟨#[99,104,117,110,107,101,100]⟩ from by rw [←hT];rfl];generalize same T ⟨#[99,104,117,110,107,101,100]⟩=r at *;clear hT hb;go_enter Tryz.func311,Tryz.ntmps311
   go_wp2_with (first
    |(go_at_call 84;with_reducible refine Cm (H.out _) ?_)
    |(go_at_call 326;with_reducible refine (HT.out _).mono ?_;rintro e w1 ⟨rfl,hb1⟩)
    |(go_at_call 145;with_reducible refine (HS.out _).mono ?_;rintro e w2 ⟨rfl,hb⟩))
   go_ret;exact ⟨rfl,A6 hb1 hb⟩
theorem XXdEr {P:Prop} (h:P:=by
 go_wp2_with (go_at_call 311;with_reducible refine (HC.out _).mono ?_;rintro e w2 ⟨rfl,hb⟩);have HB2:=Dl (A6 (A6 HB.out hbr.out) hb);clear hb;go_ret
 exact ⟨by rw [H3.out];rfl,HB2.out⟩):P:=h
theorem coding_any (p:Nat) (hp:p<4294967296) (a:Option Addr) (n cap:Nat) (vs:List ByteArray) (w:World) (hv:Strs w a n vs) (hr:room vs<=1000000000) :
 Calls Mm 294 #[ZE Z5 (p:Nat),.slice a n cap] w λe w'=>e=.returned (ZB (coding (Hs p 17) (Hs p 18) vs))/\Below w.heap.size w w':=by
 have HL:=Dl (list_at a n cap vs w hv hr)
 have H18:=Dl (λw=>Ht p hp 18 w)
 have HM:=Dl (λx hx=>Gl (list_mem_size vs x hx) hr);have HI:=Dl (λv hs w=>isChunked_any v p hp w hs);have hlr:=Gl (list_le vs) hr;have HX:coding (Hs p 17) (Hs p 18) vs=(onlyLast ((list vs).map (isC (Hs p 17)))&&(decide ((list vs).length=1)||Hs p 18)):=rfl;rw [HX];clear HX hv hr hp;generalize list vs=ls at *;generalize Hs p 17=tb at *;generalize Hs p 18=tl at *;obtain ⟨m,hm⟩:∃m,ls.length=m:=⟨_,rfl⟩;rw [hm] at HL hlr ⊢;obtain ⟨bs,hbs⟩:∃bs,ls.map (isC tb)=bs:=⟨_,rfl⟩;rw [hbs]
 have HBL:=Dl (show bs.length=m by rw [←hbs,EV,hm])
 have HBA:=Dl (λk (hk:k<m)=>show bs[k]'(by rw [HBL.out];exact hk)=isC tb (ls[k]?.getD Bp) by simp only [←hbs,List.getElem_map];rw [Et ZZ];rfl)
 have HSZ:=Dl (λk (hk:k<m)=>show (ls[k]?.getD Bp).size<=maxLen by
  rw [Et ZZ];exact Gl (HM.out _ (EB _)) ZX)
 clear HM hbs hm;have c1:IntKind.i64.wrap ((m:Int)-1)=(m:Int)-1:=Base.wrap_in _ ZZ ZZ;have c2:wrap64 ((m:Int)-1)=(m:Int)-1:=by unfold wrap64;omega
 go_enter Tryz.func294,Tryz.ntmps294
 go_wp2_with (go_at_call 163;with_reducible refine (HL.out).mono ?_;rintro e w1 ⟨b,c,rfl,hS,hb⟩
              have HS:=Dl hS;have HB:=Dl hb;clear hS hb)
 go_loopw [16] (λi wr=>∃k:Nat,k<=m/\i=ZE Z7 k/\Hid (Below w1.heap.size w1 wr)/\Hid (k<m->onlyLast bs=onlyLast (bs.drop k))/\Hid (k=m->0<m->onlyLast bs=true)) (λi _=>m-(intOf i).toNat)
 case atStart=>exact ⟨0,Gz _,rfl,Dl (AE _ _),Dl (λ_=>rfl),Dl (λh h2=>ZG h2 ZZ)⟩
 case round=>
  obtain ⟨k,hk,rfl,hbr,H1,H2⟩:=hrel;rcases Gp k m with hlt | hge
  ·obtain ⟨bl,off,rfl,hbl,hc⟩:=(HS.out.below hbr.out).2 ZZ;have hck:=hc k hlt
   have HBk:=Dl (HBA.out k hlt);have HC:=Dl (HI.out _ (HSZ.out k hlt));clear hc;generalize ls[k]?.getD Bp=x at *;generalize isC tb x=q at *;have i1:(k:Int)<(m:Int):=ZZ;rcases (by omega:k+1<m∨k+1=m) with hn | hn
   ·have i2:((k:Int)==(m:Int)-1)=false:=ZM.2 ZZ;cases q with
    | false=>
      have H3:=Dl (show k+1<m->onlyLast bs=onlyLast (bs.drop (k+1)) from λ_=>(H1.out hlt).trans (only_step bs k (by rw [HBL.out];exact hn) HBk.out))
      go_wp2_with (go_at_call 311;with_reducible refine (HC.out _).mono ?_;rintro e w2 ⟨rfl,hb⟩);have HB2:=Dl (A6 hbr.out hb);clear hb;go_roundw
      case rel=>exact ⟨k+1,ZZ,ZT,HB2,H3,Dl (λh=>ZG h ZZ)⟩
      case measure=>simp [intOf];omega
    | true=>
      have H3:=Dl (show onlyLast bs=false from (H1.out hlt).trans (only_hit bs k (by rw [HBL.out];exact hn) HBk.out));exact XXdEr
   ·have i2:((k:Int)==(m:Int)-1)=true:=ZI.2 ZZ;have H3:=Dl (show onlyLast bs=q from ((H1.out hlt).trans (only_end bs k (by rw [HBL.out];exact hn))).trans HBk.out);cases q with
    | true=>
      go_wp2_with (go_at_call 311;with_reducible refine (HC.out _).mono ?_;rintro e w2 ⟨rfl,hb⟩);have HB2:=Dl (A6 hbr.out hb);clear hb;go_roundw
      case rel=>exact ⟨k+1,ZZ,ZT,HB2,Dl (λh=>ZG h ZZ),Dl (λ_ _=>H3.out)⟩
      case measure=>simp [intOf];omega
    | false=>
      exact XXdEr
  ·obtain rfl:k=m:=by omega
   have HB2:=Dl (A6 HB.out hbr.out);have H3:=Dl (H2.out rfl);clear H1 H2 hbr;rcases (by omega:k=0∨k=1∨1<k) with rfl | rfl | hk1
   ·have H4:=Dl (show onlyLast bs=false by rw [DX HBL.out];rfl);go_wp2_with fail;go_ret;exact ⟨by rw [H4.out];rfl,HB2.out⟩
   ·have H4:=Dl (H3.out ZZ);go_wp2_with fail;go_ret;exact ⟨by rw [H4.out];rfl,HB2.out⟩
   ·have H4:=Dl (H3.out ZZ);have i3:((k:Int)-1==0)=false:=ZM.2 ZZ;have i4:(0:Int)<(k:Int)-1:=ZZ
    have H5:=Dl (show decide (k=1)=false from ZL ZZ);go_wp2_with (go_at_call 84;with_reducible refine Cm (H18.out _) ?_);go_ret;exact ⟨by rw [H4.out,H5.out];rfl,HB2.out⟩
end
end Frm
namespace Frm
open Base Txt
theorem take_all_snoc {α:Type} (P:α->Bool) (d:α) (l:List α) (k:Nat) (h:k<l.length):(l.take (k+1)).all P=((l.take k).all P&&P (l[k]?.getD d)):=by rw [FG h,List.all_append,Et h];simp
theorem all_of_miss {α:Type} (P:α->Bool) (d:α) (l:List α) (k:Nat) (h:k<l.length) (hp:P (l[k]?.getD d)=false):l.all P=false:=by rw [Et h] at hp;exact List.all_eq_false.2 ⟨_,EB h,by simpa using hp⟩
theorem hosts_none (nh mh:Bool):hostsV nh mh 1 []=if nh=true then 0 else 400:=by cases nh<;>cases mh<;>rfl
theorem hosts_loop (nh mh:Bool) (minor:Int) (h:List ByteArray) (h1:¬(minor=1/\h.length=0)) (h2:h.length<=1∨mh=true):hostsV nh mh minor h=if (h.all λv=>Jl v.data.toList)=true then 0 else 400:=by
 unfold hostsV;rw [ZO];simp only [Bc,AM,ZJ,AX]
 rintro (⟨a,b,_⟩ | ⟨a,b⟩)
 ·exact h1 ⟨a,b⟩
 ·rcases h2 with h2 | h2
  ·omega
  ·rw [h2] at b;cases b
theorem hosts_many (nh:Bool) (minor:Int) (h:List ByteArray) (h2:1<h.length):hostsV nh false minor h=400:=by unfold hostsV;rw [if_pos];rw [decide_eq_true h2];simp
theorem counts_mem (lc lf ll:Bool) (l:List ByteArray) (s:ByteArray) (h:counts lc lf ll l=some s) (hl:l≠ []):s∈l:=by
 unfold counts at h;have hd:l.headD Bp∈l:=by
  cases l with
  | nil=>exact ZG rfl hl
  | cons x r=>exact List.mem_cons_self ..
 have hz:l.getLastD Bp∈l:=by rw [EI,List.getLast?_eq_some_getLast hl];exact List.getLast_mem hl
 split at h
 ·cases h;exact hd
 ·split at h
  ·cases h;exact hz
  ·cases h
def ansC:Option ByteArray->Value
 | none=>.tuple #[.string Bp,.bool false]
 | some s=>.tuple #[.string s,.bool true]
theorem plus_trim (s:ByteArray):(⟨(Lib.trimPrefix s.data.toList [43]).toArray⟩:ByteArray)=unplus true s:=by
 unfold unplus;rw [Bg];have h:Lib.hasPrefix s.data.toList [43]=decide (s.data.toList.head?=some 43):=by
  cases s.data.toList with
  | nil=>rfl
  | cons c r=>
    have:Lib.hasPrefix (c::r) [43]=(43==c):=by simp [Lib.hasPrefix,List.isPrefixOf]
    rw [this,List.head?_cons];by_cases h:c=43
    ·subst h;rfl
    ·rw [ZL (λe=>h (GZ.inj e)),ZM];exact λe=>h e.symm
 unfold Lib.trimPrefix;rw [h];split
 ·rfl
 ·rfl
theorem unplus_size (lp:Bool) (s:ByteArray):(unplus lp s).size<=s.size:=by
 unfold unplus;split
 ·rw [ba_size,ER,len];omega
 ·exact Gi _
section
attribute [local go_sem] A8
theorem XXCdJ {P:Prop} (h:P:=by
 obtain rfl:k=m:=ZZ
 have H2:=Dl (show R=0 by have:=H1.out;rw [FF (by rw [HM.out];exact Gi _)] at this;rw [HR.out,this];rfl);have HB2:=Dl (A6 HB.out hbr.out);go_wp2_with fail;go_ret
 exact ⟨by rw [H2.out];rfl,HB2.out⟩):P:=h
theorem XXfTh {P:Prop} (h:P:=by
 have HB2:=Dl (A6 hbr.out hb);clear hb;go_roundw
 case rel=>exact ⟨k+1,ZZ,ZT,HB2,H2⟩
 case measure=>simp [intOf];omega):P:=h
theorem XXteq {P:Prop} (h:P:=by
 have HB2:=Dl (A6 (A6 HB.out hbr.out) hb);clear hb;go_ret
 exact ⟨by rw [H2.out];rfl,HB2.out⟩):P:=h
theorem hosts_any (p:Nat) (hp:p<4294967296) (minor:Int) (a:Option Addr) (n cap:Nat) (fs:List Fld) (w:World) (hv:Flds w a n fs) (hn:n<=1000000000) (hs:∀f∈fs,f.1.size<=1000000000/\f.2.size<=1000000000) :
 Calls Mm 268 #[ZE Z5 (p:Nat),ZE Z7 minor,.slice a n cap] w λe w'=>e=.returned (ZE Z7 (hostsV (Hs p 15) (Hs p 16) minor (find fs hostN)))/\Below w.heap.size w w':=by
 have HF:=Dl (find_at a n cap fs ⟨#[72,111,115,116]⟩ w hv hn (λf hf=>Gl (hs f hf).1 ZX))
 have HU:=Dl (λw=>unless_any p hp 15 400 w)
 have H16:=Dl (λw=>Ht p hp 16 w);have hsz:=find_sizes fs ⟨#[72,111,115,116]⟩ 1000000000 (λf hf=>(hs f hf).2);have hle:=find_le fs ⟨#[72,111,115,116]⟩;rw [hv.1] at hle;have HT:=Dl (λv (hv:v.size<=1000000000) w=>Tgt.host_any v w hv);obtain ⟨R,hR⟩:∃R,hostsV (Hs p 15) (Hs p 16) minor (find fs ⟨#[72,111,115,116]⟩)=R:=⟨_,rfl⟩;rw [show hostsV (Hs p 15) (Hs p 16) minor (find fs hostN)=R from hR];clear hv hs hp;generalize find fs ⟨#[72,111,115,116]⟩=H at *;generalize Hs p 15=nh at *;obtain ⟨mh,hmh⟩:∃mh,Hs p 16=mh:=⟨_,rfl⟩;rw [hmh] at H16 hR;clear hmh;obtain ⟨m,hm⟩:∃m,H.length=m:=⟨_,rfl⟩;rw [hm] at HF hle
 have HSZ:=Dl (λk (hk:k<m)=>show (H[k]?.getD Bp).size<=1000000000 by
  rw [Et ZZ]
  exact hsz _ (EB _))
 have HM:=Dl hm;clear hsz;by_cases hA:minor=1/\m=0
 ·obtain ⟨rfl,rfl⟩:=hA;obtain rfl:=DX hm;rw [hosts_none] at hR;rw [hR] at HU;clear hR hm HSZ HM;go_enter Tryz.func268,Tryz.ntmps268
  go_wp2_with (first
   |(go_at_call 99;with_reducible refine (HF.out).mono ?_;rintro e w1 ⟨b,c,rfl,hS,hb⟩;clear hS)
   |(go_at_call 292;with_reducible refine Cm (HU.out _) ?_))
  go_ret;exact ⟨rfl,hb⟩
 by_cases hB:1<m/\mh=false
 ·obtain ⟨h1,rfl⟩:=hB;rw [hosts_many nh minor H ZZ] at hR;subst hR;have t0:¬(m:Int)=0:=by omega
  have t1:(1:Int)<(m:Int):=ZZ;clear hm hA HSZ HM;go_enter Tryz.func268,Tryz.ntmps268
  go_wp2_with (first
   |(go_at_call 99;with_reducible refine (HF.out).mono ?_;rintro e w1 ⟨b,c,rfl,hS,hb⟩;clear hS)
   |(go_at_call 84;with_reducible refine Cm (H16.out _) ?_))
  go_ret;exact ⟨rfl,hb⟩
 have hR2:=hosts_loop nh mh minor H (by rw [hm];exact hA) (by
  rcases (by omega:m<=1∨1<m) with h | h
  ·exact .inl ZZ
  ·right;cases mh
   ·exact ZG ⟨h,rfl⟩ hB
   ·rfl)
 rw [hR] at hR2;have HR:=Dl hR2;clear hR hR2 hm;have hcase:(m=0/\¬minor=1)∨m=1∨(1<m/\mh=true):=by
  rcases (by omega:m=0∨m=1∨1<m) with h | h | h
  ·exact .inl ⟨h,λe=>hA ⟨e,h⟩⟩
  ·exact .inr (.inl h)
  ·refine .inr (.inr ⟨h,?_⟩);cases mh
   ·exact ZG ⟨h,rfl⟩ hB
   ·rfl
 clear hA hB;rcases hcase with ⟨h0,t2⟩ | h0 | ⟨h0,rfl⟩
 ·have t0:(m:Int)=0:=by omega
  have t1:¬(1:Int)<(m:Int):=ZZ;obtain rfl:=h0;clear t0 t1;have H3:=Dl (show R=0 from by rw [HR.out,DX HM.out];rfl);go_enter Tryz.func268,Tryz.ntmps268
  go_wp2_with (go_at_call 99;with_reducible refine (HF.out).mono ?_;rintro e w1 ⟨b,c,rfl,hS,hb⟩;clear hS
               have HB:=Dl hb;clear hb)
  go_loopw [34] (λi wr=>i=ZE Z7 0/\wr=w1) (λi _=>0)
  case atStart=>exact ⟨rfl,rfl⟩
  case round=>obtain ⟨rfl,rfl⟩:=hrel;go_wp2_with fail;go_ret;exact ⟨by rw [H3.out];rfl,HB.out⟩
 all_goals
  have t0:¬(m:Int)=0:=ZZ;have t1:(1:Int)<(m:Int)∨¬(1:Int)<(m:Int):=ZZ;first
   |(have t2:(1:Int)<(m:Int):=ZZ)
   |(have t2:¬(1:Int)<(m:Int):=ZZ)
  clear t1 h0;go_enter Tryz.func268,Tryz.ntmps268
  go_wp2_with (first
   |(go_at_call 99;with_reducible refine (HF.out).mono ?_;rintro e w1 ⟨b,c,rfl,hS,hb⟩
     have HS:=Dl hS;have HB:=Dl hb;clear hS hb)
   |(go_at_call 84;with_reducible refine Cm (H16.out _) ?_))
  go_loopw [34] (λi wr=>∃k:Nat,k<=m/\i=ZE Z7 k/\Hid (Below w1.heap.size w1 wr)/\Hid ((H.take k).all (λv=>Jl v.data.toList)=true)) (λi _=>m-(intOf i).toNat)
  case atStart=>exact ⟨0,Gz _,rfl,Dl (AE _ _),Dl rfl⟩
  case round=>
   obtain ⟨k,hk,rfl,hbr,H1⟩:=hrel;rcases Gp k m with hlt | hge
   ·obtain ⟨bl,off,rfl,hbl,hc⟩:=(HS.out.below hbr.out).2 ZZ;have hck:=hc k hlt
    have HN:=Dl (take_all_snoc (λv:ByteArray=>Jl v.data.toList) Bp H k (by rw [HM.out];exact hlt))
    have HZ:=Dl (all_of_miss (λv:ByteArray=>Jl v.data.toList) Bp H k (by rw [HM.out];exact hlt));have HC:=Dl (HT.out _ (HSZ.out k hlt));clear hc;generalize H[k]?.getD Bp=x at *;have i1:(k:Int)<(m:Int):=ZZ;generalize Jl x.data.toList=q at *;cases q with
    | true=>
      have H2:=Dl (show (H.take (k+1)).all (λv=>Jl v.data.toList)=true by rw [HN.out,H1.out];rfl);clear HN HZ;go_wp2_with (go_at_call 293;with_reducible refine (HC.out _).mono ?_;rintro e w2 ⟨rfl,hb⟩);exact XXfTh
    | false=>
      have H2:=Dl (show R=400 by rw [HR.out,HZ.out rfl];rfl);clear HN HZ;go_wp2_with (go_at_call 293;with_reducible refine (HC.out _).mono ?_;rintro e w2 ⟨rfl,hb⟩);exact XXteq
   ·exact XXCdJ
theorem alike_any (a:Option Addr) (n cap:Nat) (vs:List ByteArray) (w:World) (hv:Strs w a n vs) (hn:n<=1000000000) :
 Calls Mm 312 #[.slice a n cap] w λe w'=>e=.returned (ZB (alikeL vs))/\w'=w:=by
 have HV:=Dl hv;have HM:=Dl hv.1;obtain ⟨R,hR⟩:∃R,alikeL vs=R:=⟨_,rfl⟩;rw [hR];have HR:=Dl hR;clear hv hR;go_enter Tryz.func312,Tryz.ntmps312;go_wp2
 go_loop [7] (λi=>∃k:Nat,k<=n/\i=ZE Z7 k/\Hid ((vs.take k).all (λv=>decide (v=vs.headD Bp))=true)) (λi=>n-(intOf i).toNat)
 case atStart=>exact ⟨0,Gz _,rfl,Dl rfl⟩
 case round=>
  obtain ⟨k,hk,rfl,H1⟩:=hrel;rcases Gp k n with hlt | hge
  ·obtain ⟨bl,off,rfl,hbl,hc⟩:=HV.out.2 ZZ;have hck:=hc k hlt;have hc0:=hc 0 ZZ;rw [Nat.add_zero] at hc0
   have HN:=Dl (take_all_snoc (λv:ByteArray=>decide (v=vs.headD Bp)) Bp vs k (by rw [HM.out];exact hlt));have HZ:=Dl (all_of_miss (λv:ByteArray=>decide (v=vs.headD Bp)) Bp vs k (by rw [HM.out];exact hlt));have hh:vs[0]?.getD Bp=vs.headD Bp:=by cases vs<;>rfl
   rw [hh] at hc0;clear hc hh;have i1:(k:Int)<(n:Int):=ZZ;have i0:(0:Int)<(n:Int):=ZZ;by_cases he:vs[k]?.getD Bp=vs.headD Bp
   ·have H2:=Dl (show (vs.take (k+1)).all (λv=>decide (v=vs.headD Bp))=true by rw [HN.out,H1.out,he];simp);rw [he] at hck;clear he HN HZ;generalize vs.headD Bp=y at *;go_wp2_with fail;go_round
    case rel=>exact ⟨k+1,ZZ,ZT,H2⟩
    case measure=>simp [intOf];omega
   ·have H2:=Dl (show R=false by rw [←HR.out];exact HZ.out (ZL he));clear HN HZ;generalize vs[k]?.getD Bp=x at *;generalize vs.headD Bp=y at *;have he2:¬x.toList=y.toList:=λh=>he ((toList_iff x y).1 h);have he3:(x.toList==y.toList)=false:=by simpa using he2
    go_wp2_with fail;go_ret;exact ⟨by rw [H2.out];rfl,rfl⟩
  ·obtain rfl:k=n:=by omega
   have H2:=Dl (show R=true by have:=H1.out;rw [FF (by rw [HM.out];exact Gi _)] at this;rw [←HR.out];exact this);go_wp2_with fail;go_ret;exact ⟨by rw [H2.out];rfl,rfl⟩
end
end Frm
namespace Frm
open Base Txt
theorem counts_one (lc lf ll:Bool) (l:List ByteArray) (h:l.length=1):counts lc lf ll l=some (l.headD Bp):=by unfold counts;rw [decide_eq_true h];rfl
theorem counts_alike (lf ll:Bool) (l:List ByteArray) (h:alikeL l=true):counts true lf ll l=some (l.headD Bp):=by unfold counts;rw [h];simp
theorem counts_first (lc ll:Bool) (l:List ByteArray):counts lc true ll l=some (l.headD Bp):=by unfold counts;simp
theorem counts_last (lc:Bool) (l:List ByteArray) (h:¬l.length=1) (h2:(lc&&alikeL l)=false):counts lc false true l=some (l.getLastD Bp):=by unfold counts;rw [decide_eq_false h,h2];rfl
theorem counts_none (lc:Bool) (l:List ByteArray) (h:¬l.length=1) (h2:(lc&&alikeL l)=false):counts lc false false l=none:=by unfold counts;rw [decide_eq_false h,h2];rfl
theorem strs_ends {w:World} {a:Option Addr} {K:Nat} {l:List ByteArray} (h:Strs w a (K+1) l) :
 ∃bl off,a=some ⟨bl,off,none⟩/\w.cell? ⟨bl,off,none⟩=some (ZD (l.headD Bp))/\w.cell? ⟨bl,off+K,none⟩=some (ZD (l.getLastD Bp)):=by
 obtain ⟨bl,off,rfl,_,hc⟩:=h.2 ZZ;have h0:=hc 0 ZZ;have hK:=hc K ZZ;rw [Nat.add_zero] at h0;have hl:=h.1;refine ⟨bl,off,rfl,?_,?_⟩
 ·rw [h0];cases l<;>rfl
 ·rw [hK,EI,List.getLast?_eq_getElem?,hl];rfl
structure Kp (w0:World) (ch:Bool) (body:Int) (w:World):Prop where
 q3:w.cell? ⟨w0.heap.size,3,none⟩=some (ZE Z7 body)
 q8:w.cell? ⟨w0.heap.size,8,none⟩=some (ZB ch)
 f:Gb w (w0.heap.size+1) 0 0
 lt:w0.heap.size+1<w.heap.size
 b:Below w0.heap.size w0 w
theorem Kp.new (w:World) (t t2:TypeId) (x0 x1 x2 x3 x4 x5 x6 x7:Int) (c d:Bool) :
 Kp w c x3 ((w.alloc (.cells #[ZE Z7 x0,ZE Z7 x1,ZE Z7 x2,ZE Z7 x3,ZE Z7 x4,ZE Z7 x5,ZE Z7 x6,ZE Z7 x7,ZB c,ZB d] t)).alloc (.cells #[ZE Z7 0,ZE Z7 0] t2)):=by
 have hA:=Bnd.At.new w t x0 x1 x2 x3 x4 x5 x6 x7 c d;have hb:Below (w.alloc (.cells #[ZE Z7 x0,ZE Z7 x1,ZE Z7 x2,ZE Z7 x3,ZE Z7 x4,ZE Z7 x5,ZE Z7 x6,ZE Z7 x7,ZB c,ZB d] t)).heap.size _ _:=
  (AE _ _).alloc (Gi _) (.cells #[ZE Z7 0,ZE Z7 0] t2)
 have hB:=hA.below ZW hb;have hG:=Gb.new (w.alloc (.cells #[ZE Z7 x0,ZE Z7 x1,ZE Z7 x2,ZE Z7 x3,ZE Z7 x4,ZE Z7 x5,ZE Z7 x6,ZE Z7 x7,ZB c,ZB d] t)) t2 0 0;rw [show (w.alloc (.cells #[ZE Z7 x0,ZE Z7 x1,ZE Z7 x2,ZE Z7 x3,ZE Z7 x4,ZE Z7 x5,ZE Z7 x6,ZE Z7 x7,ZB c,ZB d] t)).heap.size=w.heap.size+1 by simp] at hG;exact ⟨hB.q3,hB.q8,hG,ZW,((AE _ _).alloc (Gi _) _).alloc ZW _⟩
theorem Kp.step {w0 w w':World} {ch:Bool} {body:Int} (h:Kp w0 ch body w) (hb:Below w.heap.size w w'):Kp w0 ch body w':=
 ⟨(hb.cell (p:=⟨w0.heap.size,3,none⟩) (by have:=h.lt;simp;omega)).trans h.q3,(hb.cell (p:=⟨w0.heap.size,8,none⟩) (by have:=h.lt;simp;omega)).trans h.q8,
  h.f.below h.lt hb,Gn h.lt hb.size,A6 h.b hb⟩
section
attribute [local go_sem] A8
theorem XXyGt {P:Prop} (h:P:=by
 subst hO;clear hv hl hK;generalize vs.headD Bp=y at *;generalize vs.getLastD Bp=z at *;go_enter K1,Me
 go_wp2_with (first
  |(go_at_call 84;with_reducible refine Cm (H24.out _) ?_)
  |(go_at_call 84;with_reducible refine Cm (H25.out _) ?_)
  |(go_at_call 84;with_reducible refine Cm (H26.out _) ?_))
 go_ret2
 exact ⟨rfl,AE _ _⟩):P:=h
theorem pick_any (p:Nat) (hp:p<4294967296) (a:Option Addr) (n cap:Nat) (vs:List ByteArray) (w:World) (hv:Strs w a n vs) (hr:room vs<=1000000000) (hne:0<n) :
 Calls Mm 295 #[ZE Z5 (p:Nat),.slice a n cap] w λe w'=>e=.returned (ansC (counts (Hs p 24) (Hs p 25) (Hs p 26) (if Hs p 24=true then list vs else vs)))/\Below w.heap.size w w':=by
 have H24:=Dl (λw=>Ht p hp 24 w)
 have H25:=Dl (λw=>Ht p hp 25 w)
 have H26:=Dl (λw=>Ht p hp 26 w);have HL:=Dl (list_at a n cap vs w hv hr);have hll:=Gl (list_le vs) hr;have hlp:=list_ne_nil vs (λe=>by have:=hv.1;rw [e] at this;simp at this;omega);have hnr:=Gl (len_room vs) hr;rw [hv.1] at hnr;clear hp hr;generalize Hs p 24=lc at *;generalize Hs p 25=lf at *;generalize Hs p 26=ll at *;cases lc with
 | false=>
   rw [ZO ZX];clear HL hll hlp;obtain ⟨K,rfl⟩:∃K,n=K+1:=⟨n-1,ZZ⟩;obtain ⟨bl,off,rfl,hd,hz⟩:=strs_ends hv;have hl:=hv.1;have c1:IntKind.i64.wrap (((K+1:Nat):Int)-1)=(K:Int):=by rw [wrap_in _ ZZ ZZ];omega
   have c2:wrap64 (((K+1:Nat):Int)-1)=(K:Int):=by unfold wrap64;omega
   have i0:(0:Int)<((K+1:Nat):Int):=ZZ;have iK:(K:Int)<((K+1:Nat):Int):=ZZ;by_cases hK:K=0
   ·rw [counts_one _ _ _ _ ZZ];have t0:((K:Int)==0)=true:=ZI.2 ZZ;clear hv hl hK;generalize vs.headD Bp=y at *;generalize vs.getLastD Bp=z at *;go_enter K1,Me;go_wp2_with (go_at_call 84;with_reducible refine Cm (H24.out _) ?_);go_ret2;exact ⟨rfl,AE _ _⟩
   ·have t0:((K:Int)==0)=false:=ZM.2 ZZ;obtain ⟨O,hO⟩:∃O,counts false lf ll vs=O:=⟨_,rfl⟩;rw [hO];cases lf with
    | true=>
      rw [counts_first] at hO;subst hO;clear hv hl hK;generalize vs.headD Bp=y at *;generalize vs.getLastD Bp=z at *;go_enter K1,Me
      go_wp2_with (first
       |(go_at_call 84;with_reducible refine Cm (H24.out _) ?_)
       |(go_at_call 84;with_reducible refine Cm (H25.out _) ?_))
      go_ret2;exact ⟨rfl,AE _ _⟩
    | false=>
      cases ll
      ·rw [counts_none false vs ZZ rfl] at hO;exact XXyGt
      ·rw [counts_last false vs ZZ rfl] at hO;exact XXyGt
 | true=>
   rw [ZN rfl];clear hv;generalize list vs=U at *;obtain ⟨K,hK1⟩:∃K,U.length=K+1:=⟨U.length-1,ZZ⟩;rw [hK1] at HL hll
   have HE:=Dl (λ(a':Option Addr) (w':World) (hS:Strs w' a' (K+1) U)=>strs_ends hS);have HA:=Dl (λa c w hS=>alike_any a (K+1) c U w hS ZZ);have c1:IntKind.i64.wrap (((K+1:Nat):Int)-1)=(K:Int):=by rw [wrap_in _ ZZ ZZ];omega
   have c2:wrap64 (((K+1:Nat):Int)-1)=(K:Int):=by unfold wrap64;omega
   have i0:(0:Int)<((K+1:Nat):Int):=ZZ;have iK:(K:Int)<((K+1:Nat):Int):=ZZ;obtain ⟨O,hO⟩:∃O,counts true lf ll U=O:=⟨_,rfl⟩;rw [hO];by_cases hK:K=0
   ·rw [counts_one _ _ _ _ ZZ] at hO;subst hO;have t0:((K:Int)==0)=true:=ZI.2 ZZ;clear hK1 hK;generalize U.headD Bp=y at *;generalize U.getLastD Bp=z at *;go_enter K1,Me
    go_wp2_with (first
     |(go_at_call 84;with_reducible refine Cm (H24.out _) ?_)
     |(go_at_call 163;with_reducible refine (HL.out).mono ?_;rintro e w1 ⟨b,c,rfl,hS,hb⟩
       obtain ⟨bl,off,rfl,hd,hz⟩:=HE.out _ _ hS;have HB:=Dl hb;clear hS hb))
    go_ret2;exact ⟨rfl,HB.out⟩
   have t0:((K:Int)==0)=false:=ZM.2 ZZ;have hne1:¬U.length=1:=ZZ;cases hq:alikeL U with
   | true=>
     rw [counts_alike _ _ _ hq] at hO;rw [hq] at HA;subst hO;clear hK1 hK hq;generalize U.headD Bp=y at *;generalize U.getLastD Bp=z at *;go_enter K1,Me
     go_wp2_with (first
      |(go_at_call 312;with_reducible refine Cm (HA.out _ _ _ HS.out) ?_)
      |(go_at_call 84;with_reducible refine Cm (H24.out _) ?_)
      |(go_at_call 163;with_reducible refine (HL.out).mono ?_;rintro e w1 ⟨b,c,rfl,hS,hb⟩
        obtain ⟨bl,off,rfl,hd,hz⟩:=HE.out _ _ hS;have HS:=Dl hS;have HB:=Dl hb;clear hS hb))
     go_ret2;exact ⟨rfl,HB.out⟩
   | false=>
     rw [hq] at HA;have hO2:O=if lf=true then some (U.headD Bp) else if ll=true then some (U.getLastD Bp) else none:=by
      rw [←hO];cases lf
      ·cases ll
       ·rw [counts_none true U hne1 hq];rfl
       ·rw [counts_last true U hne1 hq];rfl
      ·rw [counts_first];rfl
     clear hO hK1 hK hq hne1;generalize U.headD Bp=y at *;generalize U.getLastD Bp=z at *;cases lf<;>cases ll;all_goals
      subst hO2;go_enter K1,Me
      go_wp2_with (first
       |(go_at_call 312;with_reducible refine Cm (HA.out _ _ _ HS.out) ?_)
       |(go_at_call 84;with_reducible refine Cm (H24.out _) ?_)
       |(go_at_call 84;with_reducible refine Cm (H25.out _) ?_)
       |(go_at_call 84;with_reducible refine Cm (H26.out _) ?_)
       |(go_at_call 163;with_reducible refine (HL.out).mono ?_;rintro e w1 ⟨b,c,rfl,hS,hb⟩
         obtain ⟨bl,off,rfl,hd,hz⟩:=HE.out _ _ hS;have HS:=Dl hS;have HB:=Dl hb;clear hS hb))
      go_ret2;exact ⟨rfl,HB.out⟩
theorem length_any (p:Nat) (hp:p<4294967296) (most:Int) (hM:most<=9223372036854775807) (a:Option Addr) (n cap:Nat) (vs:List ByteArray) (w:World) (hv:Strs w a n vs) (hr:room vs<=1000000000) :
 Calls Mm 270 #[ZE Z5 (p:Nat),ZE Z7 most,.slice a n cap] w λe w'=>e=.returned (Z8 #[ZE Z7 (lengthV (Hs p 23) (Hs p 24) (Hs p 25) (Hs p 26) most vs).1,ZE Z7 (lengthV (Hs p 23) (Hs p 24) (Hs p 25) (Hs p 26) most vs).2])/\Below w.heap.size w w':=by
 obtain ⟨R,hR⟩:∃R,lengthV (Hs p 23) (Hs p 24) (Hs p 25) (Hs p 26) most vs=R:=⟨_,rfl⟩;rw [hR];unfold lengthV at hR;have hl:=hv.1;by_cases hn:n=0
 ·subst hn;obtain rfl:=DX hl;rw [ZN rfl] at hR;subst hR;go_enter Tryz.func270,Tryz.ntmps270;exact XXdKB
 rw [ZO (λe=>hn (by rw [←hl,e];rfl))] at hR
 have HP:=Dl (pick_any p hp a n cap vs w hv hr ZZ)
 have H23:=Dl (λw=>Ht p hp 23 w)
 have HM:=Dl (λs (h:counts (Hs p 24) (Hs p 25) (Hs p 26) (if Hs p 24=true then list vs else vs)=some s)=>show s.size<=1000000000 by
  have hne:vs≠ []:=λe=>hn (by rw [←hl,e];rfl);by_cases hc:Hs p 24=true
  ·rw [ZN hc] at h;have:=list_mem_size vs s (counts_mem _ _ _ _ _ h (λe=>by have:=list_ne_nil vs hne;rw [e] at this;exact ZG this ZX));omega
  ·rw [ZO hc] at h;have:=room_mem vs s (counts_mem _ _ _ _ _ h hne);omega)
 have t0:((n:Int)==0)=false:=ZM.2 ZZ;generalize counts (Hs p 24) (Hs p 25) (Hs p 26) (if Hs p 24=true then list vs else vs)=O at *;generalize Hs p 23=lp at *;clear hv hr hl;cases O with
 | none=>
   simp only at hR;subst hR;clear HM;unfold ansC at HP;go_enter Tryz.func270,Tryz.ntmps270;go_wp2_with (go_at_call 295;with_reducible refine (HP.out).mono ?_;rintro e w1 ⟨rfl,hb⟩);go_ret2;exact ⟨rfl,hb⟩
 | some s=>
   simp only at hR;have hs:=HM.out s rfl;have HT:=Dl (λw=>Tryz.strings_TrimPrefix s ⟨#[43]⟩ w);rw [show (ByteArray.mk #[43]).data.toList= [43] from rfl,plus_trim s] at HT;have HD:=Dl (λw=>Num.dec_any most hM (unplus lp s) w (Gl (unplus_size lp s) (Gl hs ZX)));generalize G6 10 most (unplus lp s).data.toList=N at *;obtain ⟨N1,N2⟩:=N;unfold ansC at HP;simp only at HD HP;unfold numV at hR;simp only at hR;clear HM hs;have hcase:(N2=22/\R=(0,400))∨((N2==22)=false/\N2=23/\R=(0,413))∨((N2==22)=false/\(N2==23)=false/\R=(N1,0)):=by
    by_cases h1:N2=22
    ·rw [ZN h1] at hR;exact .inl ⟨h1,hR.symm⟩
    ·rw [ZO h1] at hR;by_cases h2:N2=23
     ·rw [ZN h2] at hR;exact .inr (.inl ⟨ZM.2 h1,h2,hR.symm⟩)
     ·rw [ZO h2] at hR;exact .inr (.inr ⟨ZM.2 h1,ZM.2 h2,hR.symm⟩)
   clear hR;cases lp with
   | false=>
     rw [show unplus false s=s from rfl] at HD;clear HT;rcases hcase with ⟨rfl,rfl⟩ | ⟨t1,rfl,rfl⟩ | ⟨t1,t2,rfl⟩;all_goals
      go_enter Tryz.func270,Tryz.ntmps270
      go_wp2_with (first
       |(go_at_call 295;with_reducible refine (HP.out).mono ?_;rintro e w1 ⟨rfl,hb⟩)
       |(go_at_call 84;with_reducible refine Cm (H23.out _) ?_)
       |(go_at_call 297;with_reducible refine (HD.out _).mono ?_;rintro e w3 ⟨rfl,hb3⟩))
      go_ret2;exact ⟨rfl,A6 hb hb3⟩
   | true=>
     generalize unplus true s=T at *;rcases hcase with ⟨rfl,rfl⟩ | ⟨t1,rfl,rfl⟩ | ⟨t1,t2,rfl⟩;all_goals
      go_enter Tryz.func270,Tryz.ntmps270
      go_wp2_with (first
       |(go_at_call 295;with_reducible refine (HP.out).mono ?_;rintro e w1 ⟨rfl,hb⟩)
       |(go_at_call 84;with_reducible refine Cm (H23.out _) ?_)
       |(go_at_call 296;with_reducible refine Cm (HT.out _) ?_)
       |(go_at_call 297;with_reducible refine (HD.out _).mono ?_;rintro e w3 ⟨rfl,hb3⟩))
      go_ret2;exact ⟨rfl,A6 hb hb3⟩
end
end Frm
theorem XXe1Z {P:Prop} (h:P:=by simp [results,Tryz.results244,go_sem,d0,d1]):P:=h
namespace Frm
open Base Txt
section
attribute [local go_sem] A8
theorem XX2eG {P:Prop} (h:P:=by
 by_cases h:minor=0
 ·cases td
  ·exact ZG ⟨h,rfl⟩ hO
  ·exact .inl ⟨h,rfl⟩
 ·exact .inr (ZM.2 h)):P:=h
theorem wins_any (p:Nat) (hp:p<4294967296) (minor:Int) (a:Option Addr) (n cap:Nat) (vs:List ByteArray) (b:Option Addr) (m cap2:Nat) (w:World) (hv:Strs w a n vs) (hr:room vs<=1000000000) :
 Calls Mm 269 #[ZE Z5 (p:Nat),ZE Z7 minor,.slice a n cap,.slice b m cap2] w λe w'=>e=.returned (Z8 #[ZB (winsV (Hs p 20) (Hs p 19) (Hs p 21) (Hs p 22) minor n m (coding (Hs p 17) (Hs p 18) vs)).1,ZE Z7 (winsV (Hs p 20) (Hs p 19) (Hs p 21) (Hs p 22) minor n m (coding (Hs p 17) (Hs p 18) vs)).2])/\Below w.heap.size w w':=by
 have HC:=Dl (coding_any p hp a n cap vs w hv hr)
 have H20:=Dl (λw=>Ht p hp 20 w)
 have H21:=Dl (λw=>Ht p hp 21 w)
 have U19:=Dl (λw=>unless_any p hp 19 501 w);have U22:=Dl (λw=>unless_any p hp 22 400 w);generalize coding (Hs p 17) (Hs p 18) vs=cod at *;generalize Hs p 20=td at *;generalize Hs p 21=tw at *;have hti:∀ti:Bool,(if ti=true then (0:Int) else 501)=if ti=true then 0 else 501:=λ_=>rfl
 generalize Hs p 19=ti at *;generalize Hs p 22=lw at *;clear hv hr hp hti;obtain ⟨R,hR⟩:∃R,winsV td ti tw lw minor n m cod=R:=⟨_,rfl⟩;rw [hR];unfold winsV at hR;by_cases hn:n=0
 ·rw [ZN hn] at hR;subst hR;have t0:((n:Int)==0)=true:=ZI.2 ZZ;clear hn;go_enter Tryz.func269,LY;exact XXdKB
 rw [ZO hn] at hR;have t0:((n:Int)==0)=false:=ZM.2 ZZ;clear hn;by_cases hO:minor=0/\td=false
 ·obtain ⟨rfl,rfl⟩:=hO;rw [ZN ZX] at hR;subst hR;go_enter Tryz.func269,LY;go_wp2_with (go_at_call 84;with_reducible refine Cm (H20.out _) ?_);go_ret2;exact ⟨rfl,AE _ _⟩
 have hO2:(minor=0/\td=true)∨(minor==0)=false:=by exact XX2eG
 rw [ZO (by
  rintro h;rw [AM,ZJ,AX] at h
  exact hO h)] at hR
 clear hO;cases cod with
 | false=>
   rw [ZN rfl] at hR;generalize (if ti=true then (0:Int) else 501)=E1 at *;subst hR;rcases hO2 with ⟨rfl,rfl⟩ | t1;all_goals
    go_enter Tryz.func269,LY
    go_wp2_with (first
     |(go_at_call 84;with_reducible refine Cm (H20.out _) ?_)
     |(go_at_call 294;with_reducible refine (HC.out).mono ?_;rintro e w1 ⟨rfl,hb⟩)
     |(go_at_call 292;with_reducible refine Cm (U19.out _) ?_))
    go_ret2;exact ⟨rfl,hb⟩
 | true=>
   rw [ZO ZX] at hR;by_cases hB:0<m/\tw=false
   ·obtain ⟨h0,rfl⟩:=hB;rw [ZN (by rw [ZK h0];rfl)] at hR;generalize (if lw=true then (0:Int) else 400)=E1 at *;subst hR;have t2:(0:Int)<(m:Int):=by omega
    clear h0;rcases hO2 with ⟨rfl,rfl⟩ | t1;all_goals
     go_enter Tryz.func269,LY
     go_wp2_with (first
      |(go_at_call 84;with_reducible refine Cm (H20.out _) ?_)
      |(go_at_call 84;with_reducible refine Cm (H21.out _) ?_)
      |(go_at_call 294;with_reducible refine (HC.out).mono ?_;rintro e w1 ⟨rfl,hb⟩)
      |(go_at_call 292;with_reducible refine Cm (U22.out _) ?_))
     go_ret2;exact ⟨rfl,hb⟩
   ·rw [ZO (by
     rintro h;rw [AM,ZJ,AX] at h
     exact hB h)] at hR
    subst hR;have hB2:(m=0)∨(0<m/\tw=true):=by
     rcases Gg m with h | h
     ·exact .inl h
     ·right;cases tw
      ·exact ZG ⟨h,rfl⟩ hB
      ·exact ⟨h,rfl⟩
    clear hB;rcases hO2 with ⟨rfl,rfl⟩ | t1<;>rcases hB2 with rfl | ⟨h0,rfl⟩;all_goals
     try (have t2:(0:Int)<(m:Int):=ZZ)
     go_enter Tryz.func269,LY
     go_wp2_with (first
      |(go_at_call 84;with_reducible refine Cm (H20.out _) ?_)
      |(go_at_call 84;with_reducible refine Cm (H21.out _) ?_)
      |(go_at_call 294;with_reducible refine (HC.out).mono ?_;rintro e w1 ⟨rfl,hb⟩))
     go_ret2;exact ⟨rfl,hb⟩
theorem XXELR {P:Prop} (h:P:=by
 by_cases h:le=0
 ·rw [ZN h] at hR;exact .inl ⟨h,hR.symm⟩
 ·rw [ZO h] at hR;exact .inr ⟨ZM.2 h,hR.symm⟩):P:=h
theorem XXocm {P:Prop} (h:P:=by
 have h1:=room_le (find fs name) 1000000 (find_sizes fs name 1000000 λf hf=>(hs f hf).2);have h2:=find_le fs name;rw [hv.1] at h2;have h3:(find fs name).length*(1000000+1)<=500*1000001:=Nat.mul_le_mul ZZ ZZ
 omega):P:=h
theorem decide_any (p:Nat) (hp:p<4294967296) (x0 x1 x2 x3 x4 x5 x6 x7:Int) (ch od:Bool) (hx:x3<=9223372036854775807) (minor:Int) (a:Option Addr) (n cap:Nat) (fs:List Fld) (w:World) (hv:Flds w a n fs) (hn:n<=500) (hs:∀f∈fs,f.1.size<=1000000/\f.2.size<=1000000) :
 Calls Mm 244 #[ZE Z5 (p:Nat),Bnd.bnd x0 x1 x2 x3 x4 x5 x6 x7 ch od,ZE Z7 minor,.slice a n cap] w λe w'=>e=.returned (Z8 #[fr (decideV (clOf p) ch x3 minor fs).1 (decideV (clOf p) ch x3 minor fs).2.1,ZE Z7 (decideV (clOf p) ch x3 minor fs).2.2])/\Below w.heap.size w w':=by
 have HV:=Dl (λw' hb=>hv.below (w':=w') hb)
 have HH:=Dl (λw' hb=>hosts_any p hp minor a n cap fs w' (hv.below (w':=w') hb) ZZ (λf hf=>by have:=hs f hf;omega))
 have HF1:=Dl (λw' hb=>find_at a n cap fs ⟨#[84,114,97,110,115,102,101,114,45,69,110,99,111,100,105,110,103]⟩ w' (hv.below (w':=w') hb) ZZ (λf hf=>by have:=hs f hf;unfold maxLen;omega));have HF2:=Dl (λw' hb=>find_at a n cap fs ⟨#[67,111,110,116,101,110,116,45,76,101,110,103,116,104]⟩ w' (hv.below (w':=w') hb) ZZ (λf hf=>by have:=hs f hf;unfold maxLen;omega));have hrm:∀name,room (find fs name)<=1000000000:=λname=>by exact XXocm
 have hrm1:=hrm ⟨#[84,114,97,110,115,102,101,114,45,69,110,99,111,100,105,110,103]⟩;have hrm2:=hrm ⟨#[67,111,110,116,101,110,116,45,76,101,110,103,116,104]⟩;obtain ⟨R,hR⟩:∃R,decideV (clOf p) ch x3 minor fs=R:=⟨_,rfl⟩;rw [hR]
 replace hR:bodyV (hostsV (Hs p 15) (Hs p 16) minor (find fs ⟨#[72,111,115,116]⟩)) ch
  (winsV (Hs p 20) (Hs p 19) (Hs p 21) (Hs p 22) minor (find fs ⟨#[84,114,97,110,115,102,101,114,45,69,110,99,111,100,105,110,103]⟩).length (find fs ⟨#[67,111,110,116,101,110,116,45,76,101,110,103,116,104]⟩).length (coding (Hs p 17) (Hs p 18) (find fs ⟨#[84,114,97,110,115,102,101,114,45,69,110,99,111,100,105,110,103]⟩)))
  (lengthV (Hs p 23) (Hs p 24) (Hs p 25) (Hs p 26) x3 (find fs ⟨#[67,111,110,116,101,110,116,45,76,101,110,103,116,104]⟩))=R:=hR
 rw [show find fs hostN=find fs ⟨#[72,111,115,116]⟩ from rfl] at HH;generalize find fs ⟨#[72,111,115,116]⟩=LH at *;generalize find fs ⟨#[84,114,97,110,115,102,101,114,45,69,110,99,111,100,105,110,103]⟩=LT at *;generalize find fs ⟨#[67,111,110,116,101,110,116,45,76,101,110,103,116,104]⟩=LC at *
 have HW:=Dl (λa' c' b' c2 w' hS=>wins_any p hp minor a' LT.length c' LT b' LC.length c2 w' hS hrm1);have HL:=Dl (λa' c' w' hS=>length_any p hp x3 hx a' LC.length c' LC w' hS hrm2);generalize hostsV (Hs p 15) (Hs p 16) minor LH=Z at *;generalize winsV (Hs p 20) (Hs p 19) (Hs p 21) (Hs p 22) minor LT.length LC.length (coding (Hs p 17) (Hs p 18) LT)=WV at *;generalize lengthV (Hs p 23) (Hs p 24) (Hs p 25) (Hs p 26) x3 LC=LV at *;generalize LT.length=nT at *;generalize LC.length=nC at *;obtain ⟨wb,we⟩:=WV;obtain ⟨ln,le⟩:=LV;unfold bodyV fixedV at hR;simp only at hR HW HL;clear hrm hrm1 hrm2 hv hs hp hx hn HV;have HK0:=Dl (Kp.new w 29 214 x0 x1 x2 x3 x4 x5 x6 x7 ch od);by_cases hZ:Z≠0
 ·rw [ZN hZ] at hR;subst hR;have tz:(Z==0)=false:=ZM.2 hZ;clear hZ;go_enter Tryz.func244,Tryz.ntmps244
  go_wp2_with (go_at_call 268;(with_reducible refine (HH.out _ HK0.out.b).mono ?_);rintro e w1 ⟨rfl,hb⟩;have HK:=Dl (HK0.out.step hb);obtain ⟨q3,q8,⟨c0,c1,z0,z1⟩,hlt,hbk⟩:=HK.out;clear hlt hbk hb)
  obtain ⟨W,hW,⟨d0,d1,_,_⟩,hbW⟩:=Gb.put HK.out.f HK.out.b (Gj _) 0 0;rw [hW];exact ZF (v:=Z8 #[fr 0 0,ZE Z7 Z]) XXe1Z rfl ⟨rfl,hbW⟩
 rw [ZO hZ] at hR;obtain rfl:Z=0:=B7.1 hZ;clear hZ;by_cases hE:we≠0
 ·rw [ZN hE] at hR;subst hR;have tz:(we==0)=false:=ZM.2 hE;clear hE;go_enter Tryz.func244,Tryz.ntmps244
  go_wp2_with (first
   |(go_at_call 269;(with_reducible refine (HW.out _ _ _ _ _ HS1.out).mono ?_);rintro e w4 ⟨rfl,hb⟩
     replace HK:=Dl (HK.out.step hb)
     obtain ⟨q3,q8,⟨c0,c1,z0,z1⟩,hlt,hbk⟩:=HK.out;clear hlt hbk hb)
   |(go_at_call 99;(with_reducible refine (HF2.out _ HK.out.b).mono ?_);rintro e w3 ⟨b3,k3,rfl,hS,hb⟩
     replace HK:=Dl (HK.out.step hb)
     replace HS1:=Dl (HS1.out.below hb)
     clear hS hb)
   |(go_at_call 99;(with_reducible refine (HF1.out _ HK.out.b).mono ?_);rintro e w2 ⟨b2,k2,rfl,hS,hb⟩
     replace HK:=Dl (HK.out.step hb)
     have HS1:=Dl hS;clear hS hb)
   |(go_at_call 268;(with_reducible refine (HH.out _ HK0.out.b).mono ?_);rintro e w1 ⟨rfl,hb⟩;have HK:=Dl (HK0.out.step hb);clear hb))
  obtain ⟨W,hW,⟨d0,d1,_,_⟩,hbW⟩:=Gb.put HK.out.f HK.out.b (Gj _) 0 0;rw [hW];exact ZF (v:=Z8 #[fr 0 0,ZE Z7 we]) XXe1Z rfl ⟨rfl,hbW⟩
 rw [ZO hE] at hR;obtain rfl:we=0:=B7.1 hE;clear hE;cases wb with
 | true=>
   rw [ZN rfl] at hR;cases ch;all_goals
    first | rw [ZN rfl] at hR | rw [ZO ZX] at hR
    subst hR;go_enter Tryz.func244,Tryz.ntmps244
    go_wp2_with (first
     |(go_at_call 269;(with_reducible refine (HW.out _ _ _ _ _ HS1.out).mono ?_);rintro e w4 ⟨rfl,hb⟩
       replace HK:=Dl (HK.out.step hb)
       obtain ⟨q3,q8,⟨c0,c1,z0,z1⟩,hlt,hbk⟩:=HK.out;clear hlt hbk hb)
     |(go_at_call 99;(with_reducible refine (HF2.out _ HK.out.b).mono ?_);rintro e w3 ⟨b3,k3,rfl,hS,hb⟩
       replace HK:=Dl (HK.out.step hb)
       replace HS1:=Dl (HS1.out.below hb)
       clear hS hb)
     |(go_at_call 99;(with_reducible refine (HF1.out _ HK.out.b).mono ?_);rintro e w2 ⟨b2,k2,rfl,hS,hb⟩
       replace HK:=Dl (HK.out.step hb)
       have HS1:=Dl hS;clear hS hb)
     |(go_at_call 268;(with_reducible refine (HH.out _ HK0.out.b).mono ?_);rintro e w1 ⟨rfl,hb⟩;have HK:=Dl (HK0.out.step hb);clear hb))
   ·obtain ⟨W,hW,⟨d0,d1,_,_⟩,hbW⟩:=Gb.put HK.out.f HK.out.b (Gj _) 0 0;rw [hW];exact ZF (v:=Z8 #[fr 0 0,ZE Z7 501]) XXe1Z rfl ⟨rfl,hbW⟩
   ·obtain ⟨W,hW,⟨d0,d1,_,_⟩,hbW⟩:=Gb.put HK.out.f HK.out.b (Gj _) 2 0;rw [hW];exact ZF (v:=Z8 #[fr 2 0,ZE Z7 0]) XXe1Z rfl ⟨rfl,hbW⟩
 | false=>
   rw [ZO ZX] at hR;have hcase:(le=0/\R=(1,ln,0))∨((le==0)=false/\R=(0,0,le)):=by exact XXELR
   clear hR;rcases hcase with ⟨rfl,rfl⟩ | ⟨tz,rfl⟩;all_goals
    go_enter Tryz.func244,Tryz.ntmps244
    go_wp2_with (first
     |(go_at_call 270;(with_reducible refine (HL.out _ _ _ HS2.out).mono ?_);rintro e w5 ⟨rfl,hb⟩;clear q3 q8
       replace HK:=Dl (HK.out.step hb)
       obtain ⟨q3,q8,⟨c0,c1,z0,z1⟩,hlt,hbk⟩:=HK.out;clear hlt hbk hb)
     |(go_at_call 269;(with_reducible refine (HW.out _ _ _ _ _ HS1.out).mono ?_);rintro e w4 ⟨rfl,hb⟩
       replace HK:=Dl (HK.out.step hb)
       replace HS2:=Dl (HS2.out.below hb)
       obtain ⟨q3,q8,hgb,hlt,hbk⟩:=HK.out;clear hlt hbk hb hgb)
     |(go_at_call 99;(with_reducible refine (HF2.out _ HK.out.b).mono ?_);rintro e w3 ⟨b3,k3,rfl,hS,hb⟩
       replace HK:=Dl (HK.out.step hb)
       replace HS1:=Dl (HS1.out.below hb)
       have HS2:=Dl hS;clear hS hb)
     |(go_at_call 99;(with_reducible refine (HF1.out _ HK.out.b).mono ?_);rintro e w2 ⟨b2,k2,rfl,hS,hb⟩
       replace HK:=Dl (HK.out.step hb)
       have HS1:=Dl hS;clear hS hb)
     |(go_at_call 268;(with_reducible refine (HH.out _ HK0.out.b).mono ?_);rintro e w1 ⟨rfl,hb⟩;have HK:=Dl (HK0.out.step hb);clear hb))
   ·obtain ⟨W,hW,⟨d0,d1,_,_⟩,hbW⟩:=Gb.put HK.out.f HK.out.b (Gj _) 1 ln;rw [hW];exact ZF (v:=Z8 #[fr 1 ln,ZE Z7 0]) XXe1Z rfl ⟨rfl,hbW⟩
   ·obtain ⟨W,hW,⟨d0,d1,_,_⟩,hbW⟩:=Gb.put HK.out.f HK.out.b (Gj _) 0 0;rw [hW];exact ZF (v:=Z8 #[fr 0 0,ZE Z7 le]) XXe1Z rfl ⟨rfl,hbW⟩
end
end Frm
open _root_.Array renaming getElem?_eq_none→Ao
open _root_.ByteArray renaming size_append→Br
open _root_.Classical renaming em→B4
open _root_.Go.ByteArray renaming toList_eq→C3
open _root_.Go.Lib renaming wpList_append_own_string→Dz
open _root_.Go.Proofs.Tryz renaming func159→JB,func202→JN,ntmps159→Ll,ntmps202→L3,underlying22→MZ,underlying5→Nr,underlying9→Ns
open _root_.Int renaming mul_nonneg→CC
open _root_.List renaming getElem?_set_ne→Ez,map_append→Ff
open _root_.Nat renaming zero_add→Gy
open App renaming wpList_append_list→Ai
open _root_.Go.Proofs.YtdfabddnpgjepaaGreatDoor.Fd renaming goes→BX,joined→BY
open Frm renaming clN→Co,clOf→Cp,coding→Cq,decideV→Ct,hostN→Cv,hostsV→Cw,lengthV→Cx,teN→Cz,winsV→C1
open Num renaming spell→G7
open Qk renaming rhas_any→Hu
open Rq renaming request→Is
open Tgt renaming cutAt→Jg
namespace Chk
open Base Txt
def extL (l:List UInt8):List UInt8:=if (Jg 59 l).2.2=true then 59::(Jg 59 l).2.1 else []
def marked (l:List UInt8):Bool:=decide (2<=l.length)&&same (ba (l.take 2)) ⟨#[48,120]⟩
def bare (l:List UInt8):List UInt8:=if marked l=true then l.drop 2 else l
def pieceL (hex blanks:Bool) (z:List UInt8):List UInt8:=if hex=true then bare (if blanks=true then trimL NF z else z) else (if blanks=true then trimL NF z else z)
def sizeL (hex blanks:Bool) (l:List UInt8):List UInt8:=pieceL hex blanks (Jg 59 l).1
def numV (r:Int × Int):Int × Int:=if r.2=22 then (0,400) else if r.2=23 then (0,413) else (r.1,0)
def isx (ext:Int) (l:List UInt8):Bool:=l.isEmpty|| (decide ((l.length:Int)<=ext)&&GA [6] l)
def sizeV (hex blanks:Bool) (ext body:Int) (l:List UInt8):Int × Int:=
 if isx ext (extL l)=true then numV (G6 16 body (sizeL hex blanks l)) else (0,400)
def chunkL (c:List UInt8):List UInt8:=if c= [] then [] else G7 16 c.length ++ [13,10]++c ++ [13,10]
def putL (cs:List (List UInt8)):List UInt8:=cs.flatMap chunkL ++ [48,13,10]
theorem put_snoc (cs:List (List UInt8)) (c:List UInt8):(cs ++ [c]).flatMap chunkL=cs.flatMap chunkL++chunkL c:=by simp [List.flatMap_append]
theorem ext_split (l:List UInt8):l=(Jg 59 l).1++extL l:=by
 unfold extL;rcases Tgt.cut_cases 59 l with h | ⟨a,r,h,hn⟩
 ·rw [Tgt.cutAt_none 59 l h];simp
 ·rw [h,Tgt.cutAt_app 59 a r hn];simp
theorem ext_le (l:List UInt8):(extL l).length<=l.length/\(Jg 59 l).1.length<=l.length:=by have h:=congrArg List.length (ext_split l);rw [EO] at h;omega
theorem isx_eq (ext:Int) (h:0<=ext) (l:List UInt8):isx ext l= !(decide (ext<(l.length:Int)) || !Oct.allOf [6] l):=by
 unfold isx;cases l with
 | nil=>simp [GA,h]
 | cons a t=>
   rw [List.isEmpty_cons,AV,Bool.not_or,Bool.not_not]
   congr 1
   rw [AR];simp
theorem trimL_le (p:UInt8->Bool) (l:List UInt8):(trimL p l).length<=l.length:=by unfold trimL;rw [List.length_reverse];have h1:=(List.dropWhile_sublist p (l:=(l.dropWhile p).reverse)).length_le;have h2:=(List.dropWhile_sublist p (l:=l)).length_le;rw [List.length_reverse] at h1;omega
theorem bare_le (l:List UInt8):(bare l).length<=l.length:=by
 unfold bare;split
 ·rw [ER];omega
 ·exact Gi _
theorem piece_le (hex blanks:Bool) (l:List UInt8):(pieceL hex blanks l).length<=l.length:=by
 have h1:=trimL_le NF l;have h2:=bare_le (trimL NF l);have h3:=bare_le l;cases hex<;>cases blanks<;>simp only [pieceL,if_true,if_false,AT]<;>omega
structure BB (x0 x1 x2 x3 x4 x5 x6 x7:Int) (ch od:Bool) (w0:World) (g:Nat) (w:World):Prop where
 f:Bnd.At w g x0 x1 x2 x3 x4 x5 x6 x7 ch od
 lt:g<w.heap.size
 b:Below w0.heap.size w0 w
section
variable {x0 x1 x2 x3 x4 x5 x6 x7:Int} {ch od:Bool} {w0 w w':World} {g:Nat}
theorem BB.new (hb:Below w0.heap.size w0 w) (t:TypeId) (x0 x1 x2 x3 x4 x5 x6 x7:Int) (ch od:Bool) :
 BB x0 x1 x2 x3 x4 x5 x6 x7 ch od w0 w.heap.size (w.alloc (.cells #[ZE Z7 x0,ZE Z7 x1,ZE Z7 x2,ZE Z7 x3,ZE Z7 x4,ZE Z7 x5,ZE Z7 x6,ZE Z7 x7,ZB ch,ZB od] t)):=
 ⟨Bnd.At.new w t x0 x1 x2 x3 x4 x5 x6 x7 ch od,ZW,hb.alloc hb.size _⟩
theorem BB.step (h:BB x0 x1 x2 x3 x4 x5 x6 x7 ch od w0 g w) (hb:Below w.heap.size w w'):BB x0 x1 x2 x3 x4 x5 x6 x7 ch od w0 g w':=
 ⟨h.f.below h.lt hb,Gn h.lt hb.size,A6 h.b hb⟩
theorem BB.alloc (h:BB x0 x1 x2 x3 x4 x5 x6 x7 ch od w0 g w) (o:Obj):BB x0 x1 x2 x3 x4 x5 x6 x7 ch od w0 g (w.alloc o):=h.step ((AE _ _).alloc (Gi _) _)
theorem BB.drew (h:BB x0 x1 x2 x3 x4 x5 x6 x7 ch od w0 g w) (m:Nat):BB x0 x1 x2 x3 x4 x5 x6 x7 ch od w0 g (w.drewN m):=h.step (Az (AE _ _) m)
end
end Chk
namespace Chk
open Base Txt
theorem drop_ext (l:List UInt8):l.drop (Jg 59 l).1.length=extL l:=by have h:=ext_split l;generalize (Jg 59 l).1=A at *;generalize extL l=E at *;rw [h,List.drop_left]
section
attribute [local go_sem] A8
theorem parts_any (s:ByteArray) (w:World) (hs:s.size<=1000000000):Calls Mm 248 #[ZD s] w λe w'=>
 e=.returned (Z8 #[ZD (ba (Jg 59 s.data.toList).1),ZD (ba (extL s.data.toList))])/\∃n,w'=w.drewN n:=by
 have HI:=Dl (λw=>Tgt.cut_any s 59 w hs);have hle:=(ext_le s.data.toList).2;rw [len] at hle
 have e1:s.extract (Jg 59 s.data.toList).1.length s.size=ba (extL s.data.toList):=ba_ext (by rw [Di,FF XXa22];exact drop_ext s.data.toList);rw [←e1];have hsz:(ba (Jg 59 s.data.toList).1).size=(Jg 59 s.data.toList).1.length:=by rw [←len];rfl
 rw [←hsz] at hle ⊢;clear e1 hsz;generalize Jg 59 s.data.toList=r at *;obtain ⟨r1,r2,r3⟩:=r;dsimp only at HI hle ⊢;generalize ba r1=R1 at *;generalize ba r2=R2 at *;have c1:(R1.size:Int)<=(s.size:Int):=ZZ;have c0:(0:Int)<=(R1.size:Int):=ZZ;go_enter Tryz.func248,Tryz.ntmps248
 go_wp2_with (go_at_call 271;with_reducible refine (HI.out _).mono ?_;rintro e w1 ⟨rfl,n,hw⟩;rw [hw];clear hw);go_quiet (fail);rename_i nq;go_wp2;go_ret2;exact ⟨rfl,n+nq,by simp [World.drewN,Nat.add_assoc]⟩
theorem isExt_any (s:ByteArray) (most:Int) (w:World) (hs:s.size<=1000000000):Calls Mm 249 #[ZD s,ZE Z7 most] w λe w'=>
 e=.returned (ZB (isx most s.data.toList))/\Below w.heap.size w w':=by
 unfold isx;rcases Gg s.size with h0 | h0
 ·obtain rfl:s=⟨#[]⟩:=ba_ext (ET.1 (by rw [len];exact h0));go_enter Tryz.func249,Tryz.ntmps249;go_wp2;go_ret;exact ⟨rfl,AE _ _⟩
 ·have hne:s.data.toList.isEmpty=false:=by
   rw [Bool.eq_false_iff];intro h;rw [List.isEmpty_iff] at h;have:=ZH List.length h;rw [len,EW] at this;omega
  have hne2:¬s.toList= []:=by rw [C3];intro h;rw [h] at hne;cases hne
  have hne3:s.toList.isEmpty=false:=by rw [C3];exact hne
  rw [hne,AV,len];have HA:Hid (∀w a,Ints w a 1 [6]->Calls Mm 263 #[ZD s,.slice a 1 1] w λe w'=>e=.returned (ZB (GA [6] s.data.toList))/\w'=w):=Dl λw a hk=>Oct.all_any s a 1 1 [6] w ZP hk ZX;generalize GA [6] s.data.toList=b at *;rcases Int.lt_or_le most (s.size:Int) with h | h
  ·have d1:decide ((s.size:Int)<=most)=false:=ZL ZZ;rw [d1];clear hs hne;go_enter Tryz.func249,Tryz.ntmps249;go_wp2;go_ret;exact ⟨rfl,AE _ _⟩
  ·have d1:decide ((s.size:Int)<=most)=true:=ZK h;rw [d1];clear hs hne;cases b;all_goals
    go_enter Tryz.func249,Tryz.ntmps249;go_wp2_with (go_at_call 263;with_reducible refine Cm (HA.out _ _ (CO _ _ rfl _ _)) ?_);go_ret;exact ⟨rfl,(AE _ _).alloc (Gi _) _⟩
theorem XXj3R {P:Prop} (h:P:=by
 obtain rfl:T=trim z:=HC.out;generalize trim z=T at *;go_enter Tryz.func251,Tryz.ntmps251
 go_wp2_with (first
  |(go_at_call 84;with_reducible refine Cm (H8.out _) ?_)
  |(go_at_call 84;with_reducible refine Cm (H7.out _) ?_)
  |(go_at_call 192;with_reducible refine Cm (HT.out _) ?_))
 go_ret
 exact ⟨rfl,AE _ _⟩):P:=h
theorem XXOfm {P:Prop} (h:P:=by
 obtain rfl:T=z:=HC.out;clear HT;go_enter Tryz.func251,Tryz.ntmps251
 go_wp2_with (first
  |(go_at_call 84;with_reducible refine Cm (H8.out _) ?_)
  |(go_at_call 84;with_reducible refine Cm (H7.out _) ?_))
 go_ret
 exact ⟨rfl,AE _ _⟩):P:=h
theorem bare_any (z:ByteArray) (p:Nat) (hp:p<4294967296) (w:World) (hz:z.size<=1000000000):Calls Mm 251 #[ZD z,ZE Z5 (p:Nat)] w λe w'=>
 e=.returned (ZD (ba (pieceL (Hs p 27) (Hs p 28) z.data.toList)))/\Below w.heap.size w w':=by
 have H7:=Dl (λw=>Ht p hp 27 w)
 have H8:=Dl (λw=>Ht p hp 28 w);have HT:=Dl (λw=>trim_any z w ZP);have ht:(trim z).size<=z.size:=trim_size _ _;have key:∀(b:Bool) (T:ByteArray),T.data.toList=(if b=true then trimL NF z.data.toList else z.data.toList)->∀a:Bool,pieceL a b z.data.toList=if a=true then bare T.data.toList else T.data.toList:=λb T h a=>by unfold pieceL;rw [←h]
 obtain ⟨b8,h8⟩:∃b,Hs p 28=b:=⟨_,rfl⟩;obtain ⟨b7,h7⟩:∃b,Hs p 27=b:=⟨_,rfl⟩;rw [h7] at H7 ⊢;rw [h8] at H8 ⊢;clear h7 h8;obtain ⟨T,hT,hTz,HC⟩:∃T:ByteArray,T.data.toList=(if b8=true then trimL NF z.data.toList else z.data.toList)/\T.size<=1000000000/\Hid (T=if b8=true then trim z else z):=by
  cases b8 with
  | true=>exact ⟨trim z,rfl,ZZ,Dl rfl⟩
  | false=>exact ⟨z,rfl,hz,Dl rfl⟩
 rw [key b8 T hT b7];clear key hT ht;have e0:ba T.data.toList=T:=ba_ext rfl;cases b7 with
 | false=>
   rw [ZO ZX,e0];clear e0 hz hTz;cases b8 with
   | false=>
     exact XXOfm
   | true=>
     exact XXj3R
 | true=>
   rw [ZN rfl];rcases Gp T.size 2 with h2 | h2
   ·have em:bare T.data.toList=T.data.toList:=by
     unfold bare marked;rw [len,ZL ZZ,AS,ZO ZX]
    rw [em,e0];have d1:decide ((2:Int)<=(T.size:Int))=false:=ZL ZZ;clear em e0 hz hTz;cases b8 with
    | false=>
      exact XXOfm
    | true=>
      exact XXj3R
   ·have hx:T.extract 0 2=ba (T.data.toList.take 2):=ba_ext XXf66;have hx2:T.extract 2 T.size=ba (T.data.toList.drop 2):=ba_ext XXabb;have HS:=Dl (λw=>same_any (T.extract 0 2) ⟨#[48,120]⟩ w (by rw [hx,←len];unfold maxLen;simp [ba];omega));have em:bare T.data.toList=if same (T.extract 0 2) ⟨#[48,120]⟩=true then T.data.toList.drop 2 else T.data.toList:=by unfold bare marked;rw [len,ZK h2,Bg,hx]
    rw [em];generalize same (T.extract 0 2) ⟨#[48,120]⟩=q at *;have e3:ba (if q=true then T.data.toList.drop 2 else T.data.toList)=if q=true then T.extract 2 T.size else T:=by
     cases q
     ·rw [ZO ZX,ZO ZX];exact e0
     ·rw [ZN rfl,ZN rfl];exact hx2.symm
    rw [e3];have d1:decide ((2:Int)<=(T.size:Int))=true:=ZK ZZ;have d2:(2:Int)<=(T.size:Int):=ZZ;clear em e0 e3 hx hx2 hz hTz;cases b8 with
    | false=>
      obtain rfl:T=z:=HC.out;clear HT;cases q;all_goals
       go_enter Tryz.func251,Tryz.ntmps251
       go_wp2_with (first
        |(go_at_call 84;with_reducible refine Cm (H8.out _) ?_)
        |(go_at_call 84;with_reducible refine Cm (H7.out _) ?_)
        |(go_at_call 145;with_reducible refine (HS.out _).mono ?_;rintro e w1 ⟨rfl,hb⟩))
       go_ret;exact ⟨rfl,hb⟩
    | true=>
      obtain rfl:T=trim z:=HC.out;generalize trim z=T at *;cases q;all_goals
       go_enter Tryz.func251,Tryz.ntmps251
       go_wp2_with (first
        |(go_at_call 84;with_reducible refine Cm (H8.out _) ?_)
        |(go_at_call 84;with_reducible refine Cm (H7.out _) ?_)
        |(go_at_call 192;with_reducible refine Cm (HT.out _) ?_)
        |(go_at_call 145;with_reducible refine (HS.out _).mono ?_;rintro e w1 ⟨rfl,hb⟩))
       go_ret;exact ⟨rfl,hb⟩
theorem XXmTI {P:Prop} (h:P:=by
 unfold numV;by_cases h1:r2=22
 ·exact .inl ⟨h1,by rw [ZN h1]⟩
 ·by_cases h2:r2=23
  ·exact .inr (.inl ⟨by simp [h1],h2,by rw [ZO h1,ZN h2]⟩)
  ·exact .inr (.inr ⟨by simp [h1],by simp [h2],by rw [ZO h1,ZO h2]⟩)):P:=h
theorem size_any (s:ByteArray) (p:Nat) (hp:p<4294967296) (x0 x1 x2 x3 x4 x5 x6 x7:Int) (ch od:Bool) (h3:x3<=9223372036854775807) (w:World) (hs:s.size<=1000000000) :
 Calls Mm 227 #[ZD s,ZE Z5 (p:Nat),Bnd.bnd x0 x1 x2 x3 x4 x5 x6 x7 ch od] w λe w'=>e=.returned (Z8 #[ZE Z7 (sizeV (Hs p 27) (Hs p 28) x4 x3 s.data.toList).1,ZE Z7 (sizeV (Hs p 27) (Hs p 28) x4 x3 s.data.toList).2])/\Below w.heap.size w w':=by
 have hle:=ext_le s.data.toList;rw [len] at hle
 have HP:=Dl (λw=>parts_any s w hs);have HX:=Dl (λw=>isExt_any (ba (extL s.data.toList)) x4 w (by rw [←len];show (extL s.data.toList).length<=_;omega));have hb0:(ba (Jg 59 s.data.toList).1).size<=1000000000:=by rw [←len];show (Jg 59 s.data.toList).1.length<=_;omega
 have HB:=Dl (λw=>bare_any (ba (Jg 59 s.data.toList).1) p hp w hb0);have hsl:(ba (sizeL (Hs p 27) (Hs p 28) s.data.toList)).size<=maxLen:=by have h1:=piece_le (Hs p 27) (Hs p 28) (Jg 59 s.data.toList).1;rw [←len];show (pieceL _ _ _).length<=_;unfold maxLen;omega
 have HN:=Dl (λw=>Num.hexN_any x3 h3 (ba (sizeL (Hs p 27) (Hs p 28) s.data.toList)) w hsl);have e1:(ba (sizeL (Hs p 27) (Hs p 28) s.data.toList)).data.toList=sizeL (Hs p 27) (Hs p 28) s.data.toList:=rfl;have e2:(ba (extL s.data.toList)).data.toList=extL s.data.toList:=rfl;have e3:pieceL (Hs p 27) (Hs p 28) (ba (Jg 59 s.data.toList).1).data.toList=sizeL (Hs p 27) (Hs p 28) s.data.toList:=rfl;rw [e1] at HN;rw [e2] at HX;rw [e3] at HB;unfold sizeV;clear e1 e2 e3 hsl hb0 hle;generalize G6 16 x3 (sizeL (Hs p 27) (Hs p 28) s.data.toList)=R at *;generalize ba (sizeL (Hs p 27) (Hs p 28) s.data.toList)=Z at *;generalize isx x4 (extL s.data.toList)=q at *;generalize ba (extL s.data.toList)=E at *;generalize ba (Jg 59 s.data.toList).1=C at *;obtain ⟨r1,r2⟩:=R;dsimp only at HN;have HBB:=Dl (BB.new (AE w.heap.size w) 29 x0 x1 x2 x3 x4 x5 x6 x7 ch od);cases q with
 | false=>
   rw [ZO ZX];clear HN HB;go_enter Tryz.func227,Tryz.ntmps227
   go_wp2_with (first
    |(go_at_call 249;(with_reducible refine (HX.out _).mono ?_);rintro e w2 ⟨rfl,hb⟩;have HB2:=Dl (HBB1.out.step hb);clear hb)
    |(go_at_call 248;(with_reducible refine (HP.out _).mono ?_);rintro e w1 ⟨rfl,m,hw⟩;have HBB1:=Dl (HBB.out.drew m);rw [←hw] at HBB1;obtain ⟨⟨q0,q1,q2,q3,q4,q5,q6,q7,q8,q9⟩,hlt,hbk⟩:=HBB1.out;clear hw hlt hbk))
   go_ret2;exact ⟨rfl,HB2.out.b⟩
 | true=>
   rw [ZN rfl];have hcase:(r2=22/\numV (r1,r2)=(0,400))∨((r2==22)=false/\r2=23/\numV (r1,r2)=(0,413))∨((r2==22)=false/\(r2==23)=false/\numV (r1,r2)=(r1,0)):=by exact XXmTI
   generalize numV (r1,r2)=V at *;have hcase':=Dl hcase;clear hcase;go_enter Tryz.func227,Tryz.ntmps227
   go_upto_region 4 with (first
    |(go_at_call 249;(with_reducible refine (HX.out _).mono ?_);rintro e w2 ⟨rfl,hb⟩;have HB2:=Dl (HBB1.out.step hb);clear hb)
    |(go_at_call 248;(with_reducible refine (HP.out _).mono ?_);rintro e w1 ⟨rfl,m,hw⟩;have HBB1:=Dl (HBB.out.drew m);rw [←hw] at HBB1;obtain ⟨⟨q0,q1,q2,q3,q4,q5,q6,q7,q8,q9⟩,hlt,hbk⟩:=HBB1.out;clear hw hlt hbk))
   clear q0 q1 q2 q3 q4 q5 q6 q7 q8 q9 HBB HBB1 HX HP;obtain ⟨⟨q0,q1,q2,q3,q4,q5,q6,q7,q8,q9⟩,hlt,hbk⟩:=HB2.out;clear q0 q1 q2 q4 q5 q6 q7 q8 q9 hlt hbk;generalize w.heap.size=g at *
   go_cut [10,11] from 22 to 30 (λa b wx=>a=ZE Z7 r1/\b=ZE Z7 r2/\Hid (BB x0 x1 x2 x3 x4 x5 x6 x7 ch od w g wx))
   case first=>
    go_region_with (first
     |(go_at_call 250;(with_reducible refine (HN.out _).mono ?_);rintro e w4 ⟨rfl,hb⟩;have HB4:=Dl (HB3.out.step hb);clear hb)
     |(go_at_call 251;(with_reducible refine (HB.out _).mono ?_);rintro e w3 ⟨rfl,hb⟩;have HB3:=Dl ((HB2.out.drew 1).step hb);obtain ⟨⟨q0,q1,q2,q3,q4,q5,q6,q7,q8,q9⟩,hlt,hbk⟩:=HB3.out;clear q0 q1 q2 q4 q5 q6 q7 q8 q9 hlt hbk hb))
    all_goals
     go_wp2_with fail;go_meet
     case rel=>exact ⟨rfl,rfl,HB4⟩
   case rest=>
    obtain ⟨rfl,rfl,HW⟩:=hcut;rcases hcase'.out with ⟨rfl,rfl⟩ | ⟨t1,rfl,rfl⟩ | ⟨t1,t2,rfl⟩;all_goals
     go_wp2_with fail;go_ret2;exact ⟨rfl,HW.out.b⟩
end
end Chk
theorem XXNIN {P:Prop} (h:P:=by
 have hl:bs.length=n:=by simpa [vals_length] using h.1
 rcases h.2 with ⟨rfl,rfl⟩ | ⟨g,cap,cur,rfl,_,hh,_,hc,_,ht⟩
 ·obtain rfl:bs= []:=ET.1 hl;exact ⟨none,0,rfl,Nums.nil _ _ _⟩
 ·refine ⟨_,_,rfl,⟨by rw [Txt.nums,EV];exact hl,λ_=>⟨g,0,rfl,?_,λk hk=>?_⟩⟩⟩
  ·rcases Gp g w.heap.size with hlt | hge
   ·exact hlt
   ·rw [Ao hge] at hh;cases hh
  ·rw [Gy,cell_of_row w g k cur e (0,0) hh,Txt.nums_at bs k ZZ];have h1:(vals bs)[k]?=some (byteV bs[k]):=by
    rw [vals,Ew,Et ZZ];rfl
   rw [←ht,List.getElem?_take_of_lt ZZ] at h1
   simpa using h1):P:=h
namespace Chk
open Base Txt
abbrev byteV (c:UInt8):Value:=ZE Z6 (c.toNat:Int)
def vals (l:List UInt8):List Value:=l.map byteV
theorem vals_app (a b:List UInt8):vals (a++b)=vals a++vals b:=Ff
theorem vals_length (a:List UInt8):(vals a).length=a.length:=EV _
theorem cells_of (s:ByteArray):Lib.strCells s=vals s.data.toList:=rfl
theorem vals_one (l:List UInt8):∀u∈vals l,u.oneCell'=true:=by intro u hu;obtain ⟨b,_,rfl⟩:=List.mem_map.1 hu;rfl
theorem vals_lie {w:World} {a:Option Addr} {n:Nat} {l:List UInt8} (h:Nums .u8 w a n (nums l)):0<n->∃b off,a=some ⟨b,off,none⟩/\∀j u,(vals l)[j]?=some u->w.cell? ⟨b,off+j,none⟩=some u:=by
 intro hn;obtain ⟨b,off,rfl,_,hc⟩:=h.2 hn;refine ⟨b,off,rfl,λj u hu=>?_⟩;have hl:l.length=n:=by have:=h.1;rwa [nums,EV] at this
 have hj:j<l.length:=by
  rcases Gp j l.length with h | h
  ·exact h
  ·rw [List.getElem?_eq_none (by rw [vals_length];exact h)] at hu;cases hu
 rw [hc j ZZ,nums_at l j hj];rw [vals,Ew,Et hj] at hu;exact hu
theorem nums_of_own {w:World} {base:Nat} {v:Value} {n:Nat} {bs:List UInt8} {e:TypeId} (h:w.ownsRow base e 1 v n (vals bs)):∃A c,v=.slice A n c/\Nums .u8 w A n (Txt.nums bs):=by exact XXNIN
def bodyL (ls:List (List UInt8)) (k:Nat):List UInt8:=(ls.take k).flatMap chunkL
theorem body_snoc (ls:List (List UInt8)) (k:Nat) (h:k<ls.length):bodyL ls (k+1)=bodyL ls k++chunkL (ls[k]?.getD []):=by unfold bodyL;rw [FG h,put_snoc,Et h];rfl
theorem body_all (ls:List (List UInt8)):putL ls=bodyL ls ls.length ++ [48,13,10]:=by unfold bodyL putL;rw [List.take_length]
theorem body_le (ls:List (List UInt8)) (k:Nat) (h:k<ls.length):(bodyL ls k).length+(chunkL (ls[k]?.getD [])).length+3<=(putL ls).length:=by
 have h1:=ZH List.length (body_snoc ls k h);rw [EO] at h1;have h2:(putL ls).length=(bodyL ls (k+1)).length+((ls.drop (k+1)).flatMap chunkL).length+3:=by
  unfold putL bodyL
  conv=>lhs;rw [←FD (k+1) ls]
  rw [List.flatMap_append,EO,EO];rfl
 omega
theorem chunk_of (l:List UInt8) (h:l≠ []):chunkL l=G7 16 l.length ++ [13,10]++l ++ [13,10]:=by unfold chunkL;rw [if_neg h]
theorem row_chunk {w:World} {B:Nat} {e:TypeId} {v:Value} {P l:List UInt8} {D:ByteArray} (hl:l≠ []) (hD:D.data.toList=G7 16 l.length) {n:Nat} (hn:n=P.length+D.size+2+l.length+2)
 {xs:List Value} (hx:xs=vals P++vals D.data.toList++vals [13,10]++vals l++vals [13,10]) (h:w.ownsRow B e 1 v n xs):w.ownsRow B e 1 v (P++chunkL l).length (vals (P++chunkL l)):=by
 have hd:D.size=(G7 16 l.length).length:=by rw [←hD,len]
 have e1:vals (P++chunkL l)=xs:=by rw [hx,chunk_of l hl,hD,vals_app,vals_app,vals_app,vals_app];simp only [D7]
 have e2:(P++chunkL l).length=n:=by rw [hn,hd,chunk_of l hl];simp only [EO,EP,EW];omega
 rw [e1,e2];exact h
section
attribute [local go_sem] A8
theorem put_any (a:Option Addr) (n cap:Nat) (ls:List (List UInt8)) (w:World) (hv:Lines w a n ls) (hn:n<=maxLen) (hz:(putL ls).length<=1000000000) :
 Calls Mm 94 #[.slice a n cap] w λe w'=>∃A c,e=.returned (.slice A (putL ls).length c)/\Nums .u8 w' A (putL ls).length (nums (putL ls))/\Below w.heap.size w w':=by
 unfold maxLen at hn;have HV:=Dl hv;have HL:=Dl hv.1;have HZ:=Dl hz;clear hv hz;obtain ⟨i0,hi0,hz0,hz1,hz2⟩:=info_parts Txt.byte_info;have G1:=Dl hi0;have G2:=Dl hz0;have G3:=Dl hz1;have G4:=Dl hz2;clear hi0 hz0 hz1 hz2;go_enter Tryz.func94,Tryz.ntmps94;go_wp2_with fail
 go_loopw [3,8] (λv i wr=>∃k:Nat,k<=n/\i=ZE Z7 k/\Hid (wr.ownsRow w.heap.size 5 1 v (bodyL ls k).length (vals (bodyL ls k)))/\Hid (Below w.heap.size w wr)) (λ_ i _=>n-(intOf i).toNat)
 case atStart=>exact ⟨0,Gz _,rfl,Dl ⟨rfl,.inl ⟨rfl,rfl⟩⟩,Dl (AE _ _)⟩
 case round=>
  obtain ⟨k,hk,rfl,hS,hbr⟩:=hrel;rcases Gp k n with hlt | hge
  ·obtain ⟨bl,off,rfl,hbl,hc⟩:=HV.out.2 ZZ;obtain ⟨ak,ck,hck,hnk⟩:=hc k hlt;have qc:=(hbr.out.cell (p:=⟨bl,off+k,none⟩) hbl).trans hck;have hkl:k<ls.length:=by rw [HL.out];exact hlt
   have hle:=body_le ls k hkl;have HSN:=Dl (body_snoc ls k hkl);have t1:(k:Int)<(n:Int):=ZZ;clear hc hck hkl;have hz:=HZ.out;generalize bodyL ls k=P at *;have HN:=Dl hnk;clear hnk;generalize ls[k]?.getD []=l at *;by_cases h0:l= []
   ·subst h0;have HSN2:Hid (bodyL ls (k+1)=P):=Dl (by rw [HSN.out];unfold chunkL;rw [ZN rfl,D8]);clear HSN HN hle hz;have qc2:wr.cell? ⟨bl,off+k,none⟩=some (.slice ak 0 ck):=qc;clear qc;go_wp2_with fail;go_roundw
    case rel=>exact ⟨k+1,ZZ,ZT,Dl (by rw [HSN2.out];exact hS.out),hbr⟩
    case measure=>simp [intOf];omega
   ·have hl0:0<l.length:=EX.2 h0;have t2:(0:Int)<(l.length:Int):=by omega
    obtain ⟨D,hD,HP⟩:∃D:ByteArray,D.data.toList=G7 16 l.length/\Hid (∀w,Calls Mm 139 #[ZE Z7 (l.length:Int)] w λe w'=>e=.returned (ZD D)/\∃m,w'=w.drewN m):=
     ⟨Num.str (G7 16 l.length),rfl,Dl (λw=>by
       have:=Num.putHex_any (l.length:Int) w (by rw [chunk_of l h0] at hle;simp only [EO] at hle;omega)
       rwa [Int.toNat_natCast] at this)⟩
    rw [chunk_of l h0,←hD] at hle;simp only [EO,EP,EW,len] at hle;have hsum:P.length+D.size+2+l.length+2<=1000000000:=ZZ;have v1:¬9223372036854775807<D.size+2:=ZZ;have HSUM:=Dl hsum;have HD:=Dl hD;have H0:=Dl h0;clear hle hz hD hsum h0
    go_wp2_with (first
     |(at_builtin;(refine Dz _ rfl _ _ 22 9 rfl w.heap.size 5 i0 MZ Ns G1.out G2.out G3.out G4.out _ _ _ rfl hO2.out ⟨#[13,10]⟩ rfl (by have:=HSUM.out;show _+2<=maxLen;unfold maxLen;omega) (by have:=HSUM.out;show _+2<=_;omega) HB2.out.size ?_);intro v3 w3' hO3' hg3 _;have hO3:=Dl hO3';have HB3:=Dl (HB2.out.grown hg3 HB2.out.size (own_base hO2.out));clear hO3' hg3 hO2 HB2)
     |(at_builtin;(refine Ai _ rfl _ _ 22 rfl w.heap.size 5 i0 (.int .u8 0) 1 1 MZ G1.out G2.out G3.out G4.out rfl ZX _ _ _ rfl hO1.out ak l.length ck (vals l) rfl (by rw [vals_length,Nat.mul_one]) (vals_lie (HN.out.below HB1.out)) (vals_one l) (by have:=HSUM.out;unfold maxLen;omega) (by have:=HSUM.out;omega) HB1.out.size ?_);intro v2 w2' hO2' hg2 _ _;have hO2:=Dl hO2';have HB2:=Dl (HB1.out.grown hg2 HB1.out.size (own_base hO1.out));clear hO2' hg2 hO1 HB1)
     |(at_builtin;(refine Dz _ rfl _ _ 22 9 rfl w.heap.size 5 i0 MZ Ns G1.out G2.out G3.out G4.out _ _ _ rfl hO0.out (D ++⟨#[13,10]⟩) rfl (by have:=HSUM.out;rw [Br];show _+(_+2)<=maxLen;unfold maxLen;omega) (by have:=HSUM.out;rw [Br];show _+(_+2)<=_;omega) HB0.out.size ?_);intro v1 w1' hO1' hg1 _
       have hO1:Hid (w1'.ownsRow w.heap.size 5 1 v1 (P.length+(D.size+2)) (vals P++Lib.strCells (D ++⟨#[13,10]⟩))):=Dl (by have h:=hO1';rw [Br] at h;exact h);have HB1:=Dl (HB0.out.grown hg1 HB0.out.size (own_base hO0.out));clear hO1' hg1 hO0 HB0)
     |(go_at_call 139;(with_reducible refine (HP.out _).mono ?_);rintro e wp ⟨rfl,m,hw⟩
       have hO0:=Dl (Ls.own_below hS.out (Az (AE _ wr) m));have HB0:=Dl (Az hbr.out m);rw [←hw] at hO0 HB0;clear hw))
    go_roundw
    case rel=>
     refine ⟨k+1,ZZ,ZT,Dl ?_,HB3⟩;rw [HSN.out];refine row_chunk H0.out HD.out ?_ ?_ hO3.out
     ·show P.length+(D.size+2)+l.length+2= _;omega
     ·rw [cells_of,cells_of];have e:(D++(⟨#[13,10]⟩:ByteArray)).data.toList=D.data.toList ++ [13,10]:=by simp [Bo]
      rw [e,vals_app];simp only [D7]
    case measure=>simp [intOf];omega
  ·obtain rfl:k=n:=by omega
   have HA:=Dl (body_all ls);have hz:=HZ.out;rw [HA.out,EO] at hz;rw [HL.out] at HA hz;have hz':(bodyL ls k).length+3<=1000000000:=hz;have HZ2:=Dl hz';clear hz hz'
   go_wp2_with (at_builtin;(refine Dz _ rfl _ _ 22 9 rfl w.heap.size 5 i0 MZ Ns G1.out G2.out G3.out G4.out _ _ _ rfl hS.out ⟨#[48,13,10]⟩ rfl (by have:=HZ2.out;show _+3<=maxLen;unfold maxLen;omega) (by have:=HZ2.out;show _+3<=_;omega) hbr.out.size ?_);intro v4 w4' hO4' hg4 _;have hO4:w4'.ownsRow w.heap.size 5 1 v4 (putL ls).length (vals (putL ls)):=by
                 rw [HA.out,vals_app,EO];exact hO4'
                obtain ⟨A4,c4,rfl,hN4⟩:=nums_of_own hO4;have HN4:=Dl hN4;have HB4:=Dl (hbr.out.grown hg4 hbr.out.size (own_base hS.out));clear hO4' hO4 hN4 hg4)
   go_ret;exact ⟨A4,c4,rfl,HN4.out,HB4.out⟩
end
end Chk
namespace Ln
open Base
def ended (x:Int):Bool:=x==1||x==2
def failed (x:Int):Bool:=x==3||x==4
theorem f0:failed 0=false:=rfl
theorem f1:failed 1=false:=rfl
theorem f2:failed 2=false:=rfl
theorem f3:failed 3=true:=rfl
theorem f4:failed 4=true:=rfl
theorem d0:ended 0=false:=rfl
theorem d1:ended 1=true:=rfl
theorem d2:ended 2=true:=rfl
theorem d3:ended 3=false:=rfl
theorem d4:ended 4=false:=rfl
structure M where
 lf:Bool
 cr:Bool
 most:Nat
 buf:List UInt8
 last:Int
 pend:Bool
structure M.Ok (m:M):Prop where
 last:m.last=0∨m.last=1∨m.last=2∨m.last=3∨m.last=4
 most:m.most<=4096
 len:m.buf.length<=m.most
 pend:m.pend=true->m.last=0
def M.line (m:M):List UInt8:=if ended m.last then m.buf else []
def M.len (m:M):Nat:=if ended m.last then 0 else m.buf.length
def M.clear (m:M):M:={m with buf:=if ended m.last then [] else m.buf}
def M.next (m:M) (c:UInt8):Int:=
 if failed m.last then 3 else if m.pend then (if c=10 then 1 else if m.cr then 2 else 3) else if c=10 then (if m.lf then 1 else 3) else if c=13 then 0 else if m.buf.length=m.most then 4 else 0
def M.keeps (m:M) (c:UInt8):Bool:=if failed m.last then false else if m.pend then false else if c=10 then false else if c=13 then false else if m.buf.length=m.most then false else true
def M.told (m:M) (c:UInt8):M:={m with buf:=m.buf++(if m.keeps c then [c] else [])}
def M.byte (m:M) (c:UInt8):M:={m.clear.told c with last:=m.clear.next c,pend:=m.clear.next c==0&&c==13}
theorem M.Ok.clear {m:M} (h:m.Ok):m.clear.Ok:=by
 obtain ⟨h1,h2,h3,h4⟩:=h;refine ⟨h1,h2,?_,h4⟩;show (if ended m.last then [] else m.buf).length<=m.most;split
 ·exact Gz _
 ·exact h3
theorem M.next_is (m:M) (c:UInt8):m.next c=0∨m.next c=1∨m.next c=2∨m.next c=3∨m.next c=4:=by
 unfold M.next
 repeat' split
 all_goals simp
theorem M.Ok.told {m:M} (h:m.Ok) (c:UInt8):(m.told c).buf.length<=m.most:=by
 have h3:=h.len;show (m.buf++(if m.keeps c then [c] else [])).length<=m.most;by_cases hk:m.keeps c=true
 ·rw [ZN hk,EO];unfold M.keeps at hk
  repeat' split at hk
  all_goals first |(exact ZG hk ZX) |(rw [Fa];omega)
 ·rw [ZO hk,D8];exact h3
theorem M.Ok.byte {m:M} (h:m.Ok) (c:UInt8):(m.byte c).Ok:=by refine ⟨M.next_is _ c,h.most,h.clear.told c,λhp=>?_⟩;have:(m.clear.next c==0&&c==13)=true:=hp;simp only [AM,beq_iff_eq] at this;exact this.1
def M.new (lf cr:Bool) (most:Nat):M:=⟨lf,cr,most,[],0,false⟩
theorem M.new_ok (lf cr:Bool) (most:Nat) (h:most<=4096):(M.new lf cr most).Ok:=⟨.inl rfl,h,Gz _,λh=>by cases h⟩
structure R where
 lf:Bool
 cr:Bool
 most:Nat
 B:List UInt8
 CR:Bool
 L:List UInt8
 over:Bool
 dead:Bool
def R.start (q:R):R:={q with L:= [],over:=false}
def R.fin (q:R):R:={q with L:=q.B,B:= [],CR:=false,over:=true}
def R.die (q:R):R:={q with dead:=true}
def R.how (q:R) (c:UInt8):Int:=
 if q.dead then 3 else if q.CR&&c==10 then 1 else if q.CR&&q.cr then 2 else if q.CR then 3 else if c==10&&q.lf then 1 else if c==10 then 3 else if c==13 then 0 else if q.most<=q.B.length then 4 else 0
def R.byte (q:R) (c:UInt8):R:=
 if q.dead then q else if q.CR&&c==10 then q.start.fin else if q.CR&&q.cr then q.start.fin else if q.CR then q.start.die else if c==10&&q.lf then q.start.fin else if c==10 then q.start.die
 else if c==13 then {q.start with CR:=true} else if q.most<=q.B.length then q.start.die else {q.start with B:=q.B ++ [c]}
def R.new (lf cr:Bool) (most:Nat):R:=⟨lf,cr,most,[],false,[],false,false⟩
structure Rel (m:M) (q:R):Prop where
 lf:q.lf=m.lf
 cr:q.cr=m.cr
 most:q.most=m.most
 dead:q.dead=failed m.last
 L:q.L=m.line
 CR:failed m.last=false->q.CR=m.pend
 B:failed m.last=false->q.B=if ended m.last then [] else m.buf
theorem step_how {m:M} {q:R} (h:Rel m q) (hm:m.Ok) (c:UInt8):q.how c=m.clear.next c:=by
 obtain ⟨lf,cr,most,B,CR,L,over,dead⟩:=q;obtain ⟨h1,h2,h3,h4,h5,h6,h7⟩:=h;have hl:=hm.clear.len;simp only at h1 h2 h3 h4 h5 h6 h7;subst h1 h2 h3;unfold R.how M.next;simp only;have e1:m.clear.last=m.last:=rfl;have e2:m.clear.pend=m.pend:=rfl;have e3:m.clear.cr=m.cr:=rfl;have e4:m.clear.lf=m.lf:=rfl;have e5:m.clear.most=m.most:=rfl;rw [e1,e2,e3,e4,e5];rw [e5] at hl;cases hf:failed m.last with
 | true=>rw [h4,hf];simp
 | false=>
   have h8:B=m.clear.buf:=h7 hf;have h9:=h6 hf;subst h8 h9;rw [h4,hf];by_cases c10:c=10
   ·subst c10;cases m.pend<;>cases m.lf<;>cases m.cr<;>simp
   ·by_cases c13:c=13
    ·subst c13;cases m.pend<;>cases m.lf<;>cases m.cr<;>simp
    ·by_cases hq:m.clear.buf.length=m.most
     ·cases m.pend<;>cases m.cr<;>simp [c10,c13,hq]
     ·have:¬m.most<=m.clear.buf.length:=by omega
      cases m.pend<;>cases m.cr<;>simp [c10,c13,hq,this]
theorem step_rel {m:M} {q:R} (h:Rel m q) (hm:m.Ok) (c:UInt8):Rel (m.byte c) (q.byte c):=by
 obtain ⟨lf,cr,most,B,CR,L,over,dead⟩:=q;obtain ⟨h1,h2,h3,h4,h5,h6,h7⟩:=h;have hl:=hm.clear.len;have hp:=hm.pend;simp only at h1 h2 h3 h4 h5 h6 h7;subst h1 h2 h3 h5 h4;have e1:m.clear.last=m.last:=rfl;have e2:m.clear.pend=m.pend:=rfl;have e3:m.clear.cr=m.cr:=rfl;have e4:m.clear.lf=m.lf:=rfl;have e5:m.clear.most=m.most:=rfl;have e6:(m.byte c).last=m.clear.next c:=rfl;have e7:(m.byte c).buf=m.clear.buf++(if m.clear.keeps c then [c] else []):=rfl;have e8:(m.byte c).pend=(m.clear.next c==0&&c==13):=rfl;have e9:(m.byte c).lf=m.lf:=rfl;have e10:(m.byte c).cr=m.cr:=rfl;have e11:(m.byte c).most=m.most:=rfl;rw [e5] at hl;have key:∀(q':R),q'.lf=m.lf->q'.cr=m.cr->q'.most=m.most->q'.dead=failed (m.clear.next c)->(q'.L=if ended (m.clear.next c) then m.clear.buf++(if m.clear.keeps c then [c] else []) else [])->
  (failed (m.clear.next c)=false->q'.CR=(m.clear.next c==0&&c==13))->(failed (m.clear.next c)=false->q'.B=if ended (m.clear.next c) then [] else m.clear.buf++(if m.clear.keeps c then [c] else []))->Rel (m.byte c) q':=by
  intro q' a1 a2 a3 a4 a5 a6 a7;refine ⟨a1,a2,a3,by rw [e6];exact a4,?_,by rw [e6,e8];exact a6,by rw [e6,e7];exact a7⟩;rw [a5,M.line,e6,e7]
 unfold R.byte;simp only;cases hf:failed m.last with
 | true=>
   rw [ZN rfl];have en:m.clear.next c=3:=by unfold M.next;rw [e1,hf,ZN rfl]
   refine key _ rfl rfl rfl ?_ ?_ ?_ ?_
   ·rw [en];rfl
   ·rw [en];show m.line= _;have:ended m.last=false:=by
     unfold failed at hf;unfold ended;rcases hm.last with e | e | e | e | e<;>rw [e] at hf ⊢<;>first | rfl | cases hf
    rw [M.line,this];rfl
   ·rw [en];intro h;cases h
   ·rw [en];intro h;cases h
 | false=>
   have h8:B=m.clear.buf:=h7 hf;have h9:=h6 hf;subst h8 h9;rw [ZO ZX];by_cases c10:c=10
   ·subst c10;cases hpe:m.pend<;>cases hlf:m.lf<;>cases hcr:m.cr<;>refine key _ ?_ ?_ ?_ ?_ ?_ ?_ ?_<;>simp [M.next,M.keeps,R.fin,R.die,R.start,e1,e2,e4,hf,hpe,hlf,hcr,f1,f3,d1,d3]<;>try rfl
   ·by_cases c13:c=13
    ·subst c13;cases hpe:m.pend<;>cases hlf:m.lf<;>cases hcr:m.cr<;>refine key _ ?_ ?_ ?_ ?_ ?_ ?_ ?_<;>simp [M.next,M.keeps,R.fin,R.die,R.start,e1,e2,e3,hf,hpe,hlf,hcr,f0,f2,f3,d0,d2,d3]<;>try rfl
    ·by_cases hq:m.clear.buf.length=m.most
     ·cases hpe:m.pend<;>cases hcr:m.cr<;>refine key _ ?_ ?_ ?_ ?_ ?_ ?_ ?_<;>simp [M.next,M.keeps,R.fin,R.die,R.start,e1,e2,e3,e5,hf,hpe,hcr,f2,f3,f4,d2,d3,d4,c10,c13,hq]<;>try rfl
     ·have:¬m.most<=m.clear.buf.length:=by omega
      cases hpe:m.pend<;>cases hcr:m.cr<;>refine key _ ?_ ?_ ?_ ?_ ?_ ?_ ?_<;>simp [M.next,M.keeps,R.fin,R.die,R.start,e1,e2,e3,e5,hf,hpe,hcr,f0,f2,f3,d0,d2,d3,c10,c13,hq,this]<;>try rfl
end Ln
namespace Ln
open Base
section memory
variable {w w' w'':World} {g k B:Nat} {cs:Array Value} {ty:TypeId} {o o':Option Nat}
theorem row_lt (h:w.heap[g]?=some (.cells cs ty (0,0))):g<w.heap.size:=(Array.getElem?_eq_some_iff.1 h).1
theorem row_cell (h:w.heap[g]?=some (.cells cs ty (0,0))) {v:Value} (hk:cs[k]?=some v):w.cell? ⟨g,k,none⟩=some v:=(cell_of_row w g k cs ty (0,0) h).trans hk
theorem row_frozen (h:w.heap[g]?=some (.cells cs ty (0,0))) (k:Nat):w.frozen? ⟨g,k,none⟩=false:=by simp [World.frozen?,h]
theorem row_set (h:w.heap[g]?=some (.cells cs ty (0,0))) (k:Nat) (v:Value):(w.setCell ⟨g,k,none⟩ v).heap[g]?=some (.cells (cs.setIfInBounds k v) ty (0,0)):=by simp [World.setCell,Array.getElem?_modify,h]
structure Kept (g:Nat) (o:Option Nat) (w w':World):Prop where
 os:w'.os=w.os
 tape:w'.tape=w.tape
 output:w'.output=w.output
 size:w.heap.size<=w'.heap.size
 block:∀k,k<w.heap.size->k≠g->some k≠o->w'.heap[k]?=w.heap[k]?
theorem Kept.refl (g:Nat) (o:Option Nat) (w:World):Kept g o w w:=⟨rfl,rfl,rfl,Gi _,λ_ _ _ _=>rfl⟩
def Moved (w:World) (o o':Option Nat):Prop:=o'=o∨o'=none∨∃k,o'=some k/\w.heap.size<=k
theorem Moved.refl (w:World) (o:Option Nat):Moved w o o:=.inl rfl
theorem Moved.trans {o'':Option Nat} (h:Moved w o o') (h':Moved w' o' o'') (hs:w.heap.size<=w'.heap.size):Moved w o o'':=by
 rcases h' with rfl | rfl | ⟨k,rfl,hk⟩
 ·exact h
 ·exact .inr (.inl rfl)
 ·exact .inr (.inr ⟨k,rfl,Gl hs hk⟩)
theorem Kept.trans (h:Kept g o w w') (h':Kept g o' w' w'') (hm:Moved w o o'):Kept g o w w'':=by
 refine ⟨h'.os.trans h.os,h'.tape.trans h.tape,h'.output.trans h.output,Gl h.size h'.size,λk hk h1 h2=>?_⟩;refine (h'.block k (Gn hk h.size) h1 ?_).trans (h.block k hk h1 h2);rcases hm with rfl | rfl | ⟨j,rfl,hj⟩
 ·exact h2
 ·exact λe=>by cases e
 ·intro e;have:k=j:=by simpa using e
  omega
theorem Kept.set (g:Nat) (o:Option Nat) (w:World) (k:Nat) (v:Value):Kept g o w (w.setCell ⟨g,k,none⟩ v):=⟨rfl,rfl,rfl,ZW,λj _ h1 _=>Below.heap_setCell _ _ _ _ h1⟩
theorem Kept.grown (hg:w.grownBy w' o) (g:Nat):Kept g o w w':=⟨hg.os,hg.tape,hg.output,hg.size,λk hk _ h2=>hg.block k hk h2⟩
theorem Kept.of_below (hb:Below w.heap.size w w') (g:Nat) (o:Option Nat):Kept g o w w':=⟨hb.os,hb.tape,hb.output,hb.size,λk hk _ _=>hb.block k hk⟩
theorem Kept.own (h:Kept g o w w') {e:TypeId} {size:Nat} {v:Value} {n:Nat} {xs:List Value} (hv:w.ownsRow B e size v n xs) (h1:v.ownBlock≠some g) (h2:v.ownBlock=none∨v.ownBlock≠o):w'.ownsRow B e size v n xs:=by
 refine ⟨hv.1,?_⟩;rcases hv.2 with hn | ⟨b,cap,cur,rfl,hb,hgg,rest⟩
 ·exact .inl hn
 ·refine .inr ⟨b,cap,cur,rfl,hb,?_,rest⟩;rw [h.block b (row_lt hgg) (by simpa [Value.ownBlock] using h1) (by simpa [Value.ownBlock] using h2)];exact hgg
theorem own_set {e:TypeId} {size:Nat} {v:Value} {n:Nat} {xs:List Value} (hv:w.ownsRow B e size v n xs) (h1:v.ownBlock≠some g) (k:Nat) (u:Value):(w.setCell ⟨g,k,none⟩ u).ownsRow B e size v n xs:=
 (Kept.set g none w k u).own hv h1 (by cases v.ownBlock<;>simp)
theorem own_none {e:TypeId} {size:Nat} {b:Option Addr} {n cap:Nat} {xs:List Value} (hv:w.ownsRow B e size (.slice b n cap) n xs):w.ownsRow B e size (.slice b 0 cap) 0 []:=by
 refine ⟨ZW,?_⟩;rcases hv.2 with ⟨h,_⟩ | ⟨b',cap',cur,h,hb,hg,hn,hc,hs,ht⟩
 ·cases h;exact .inl ⟨rfl,rfl⟩
 ·cases h;exact .inr ⟨b',cap,cur,rfl,hb,hg,Gz _,hc,hs,ZW⟩
theorem own_slice {e:TypeId} {size:Nat} {v:Value} {n:Nat} {xs:List Value} (hv:w.ownsRow B e size v n xs):∃b cap,v=.slice b n cap/\n<=cap/\cap<=maxLen/\(b=none/\n=0/\cap=0∨∃j,b=some ⟨j,0,none⟩):=by
 rcases hv.2 with ⟨rfl,rfl⟩ | ⟨b',cap',cur,rfl,hb,hg,hn,hc,hs,ht⟩
 ·exact ⟨none,0,rfl,Gi _,Gz _,.inl ⟨rfl,rfl,rfl⟩⟩
 ·exact ⟨_,cap',rfl,hn,hc,.inr ⟨b',rfl⟩⟩
end memory
def vals (l:List UInt8):List Value:=l.map λb=>ZE Z6 (b.toNat:Int)
theorem vals_app (a b:List UInt8):vals (a++b)=vals a++vals b:=Ff
abbrev ptr (g:Nat):Value:=ZA (some ⟨g,0,none⟩)
abbrev byteV (c:UInt8):Value:=ZE Z6 (c.toNat:Int)
abbrev ba (l:List UInt8):ByteArray:=⟨l.toArray⟩
abbrev cellsOf (m:M) (v:Value):Array Value:=#[ZB m.lf,ZB m.cr,ZE Z7 (m.most:Int),v,ZE Z7 m.last,ZB m.pend]
structure Rd (w:World) (B g:Nat) (v:Value) (m:M):Prop where
 row:w.heap[g]?=some (.cells (cellsOf m v) 149 (0,0))
 own:w.ownsRow B 5 1 v m.buf.length (vals m.buf)
 ge:B<=g
 ne:v.ownBlock≠some g
theorem conv_own {w:World} {B:Nat} {v:Value} {l:List UInt8} (h:w.ownsRow B 5 1 v l.length (vals l)):(convert 22 9 v).run Mm w=.ok (ZD (ba l)) w:=by
 rcases h.2 with ⟨rfl,hn⟩ | ⟨b,cap,cur,rfl,hb,hg,_,_,_,ht⟩
 ·obtain rfl:l= []:=ET.1 hn;exact run_convert_bytes_nil w _ 5 MZ Nr 0 0 _ Ns
 ·refine run_convert_bytes_back (P:=Mm) w 22 9 5 ⟨b,0,none⟩ cap l MZ Nr Ns (λj hj=>?_);refine h.cells (g:=b) rfl j _ ?_;rw [vals,Ew,Et hj];rfl
section
attribute [local go_sem] A8
variable {w:World} {g B:Nat} {m:M} {v:Value}
theorem five (h:w.heap[g]?=some (.cells (cellsOf m v) 149 (0,0))):w.cell? ⟨g,0,none⟩=some (ZB m.lf)/\w.cell? ⟨g,1,none⟩=some (ZB m.cr)/\w.cell? ⟨g,2,none⟩=some (ZE Z7 (m.most:Int))/\w.cell? ⟨g,3,none⟩=some v/\w.cell? ⟨g,4,none⟩=some (ZE Z7 m.last)/\w.cell? ⟨g,5,none⟩=some (ZB m.pend):=
 ⟨row_cell h rfl,row_cell h rfl,row_cell h rfl,row_cell h rfl,row_cell h rfl,row_cell h rfl⟩
theorem ended_any (h:w.heap[g]?=some (.cells (cellsOf m v) 149 (0,0))):Calls Mm 120 #[ptr g] w λe w'=>e=.returned (ZB (ended m.last))/\w'=w:=by
 obtain ⟨q0,q1,q2,q3,q4,q5⟩:=five h;clear h q0 q1 q2 q3 q5;rcases B4 (m.last=1) with e | e
 ·rw [e] at q4 ⊢;go_enter Tryz.func120,Tryz.ntmps120;go_wp2;go_ret;exact ⟨rfl,rfl⟩
 ·have e1:(m.last==1)=false:=ZM.2 e;generalize m.last=x at *;go_enter Tryz.func120,Tryz.ntmps120;go_wp2;go_ret;exact ⟨by rw [ended,e1,AV];rfl,rfl⟩
theorem failed_any (h:w.heap[g]?=some (.cells (cellsOf m v) 149 (0,0))):Calls Mm 220 #[ptr g] w λe w'=>e=.returned (ZB (failed m.last))/\w'=w:=by
 obtain ⟨q0,q1,q2,q3,q4,q5⟩:=five h;clear h q0 q1 q2 q3 q5;rcases B4 (m.last=3) with e | e
 ·rw [e] at q4 ⊢;go_enter Tryz.func220,Tryz.ntmps220;go_wp2;go_ret;exact ⟨rfl,rfl⟩
 ·have e1:(m.last==3)=false:=ZM.2 e;generalize m.last=x at *;go_enter Tryz.func220,Tryz.ntmps220;go_wp2;go_ret;exact ⟨by rw [failed,e1,AV];rfl,rfl⟩
theorem pending_any (h:w.heap[g]?=some (.cells (cellsOf m v) 149 (0,0))):Calls Mm 123 #[ptr g] w λe w'=>e=.returned (ZB m.pend)/\w'=w:=by obtain ⟨q0,q1,q2,q3,q4,q5⟩:=five h;clear h q0 q1 q2 q3 q4;go_enter Tryz.func123,Tryz.ntmps123;go_wp2;go_ret;exact ⟨rfl,rfl⟩
theorem bareEnd_any (h:w.heap[g]?=some (.cells (cellsOf m v) 149 (0,0))):Calls Mm 222 #[ptr g] w λe w'=>e=.returned (ZE Z7 (if m.lf then 1 else 3))/\w'=w:=by
 obtain ⟨q0,q1,q2,q3,q4,q5⟩:=five h;clear h q1 q2 q3 q4 q5;cases hb:m.lf;all_goals
  rw [hb] at q0;go_enter Tryz.func222,Tryz.ntmps222;go_wp2;go_ret;exact ⟨rfl,rfl⟩
theorem ne10 {c:UInt8} (h:¬c=10):((c.toNat:Int)==10)=false:=by refine beq_eq_false_iff_ne.2 λe=>h (NI.1 ?_);show c.toNat=10;omega
theorem ne13 {c:UInt8} (h:¬c=13):((c.toNat:Int)==13)=false:=by refine beq_eq_false_iff_ne.2 λe=>h (NI.1 ?_);show c.toNat=13;omega
theorem behindCR_any (c:UInt8) (h:w.heap[g]?=some (.cells (cellsOf m v) 149 (0,0))):Calls Mm 221 #[ptr g,byteV c] w λe w'=>e=.returned (ZE Z7 (if c=10 then 1 else if m.cr then 2 else 3))/\w'=w:=by
 obtain ⟨q0,q1,q2,q3,q4,q5⟩:=five h;clear h q0 q2 q3 q4 q5;by_cases hc:c=10
 ·subst hc;go_enter Tryz.func221,Tryz.ntmps221;go_wp2;go_ret;exact ⟨rfl,rfl⟩
 ·have e1:=ne10 hc;rw [ZO hc];cases hb:m.cr;all_goals
   rw [hb] at q1;go_enter Tryz.func221,Tryz.ntmps221;go_wp2;go_ret;exact ⟨rfl,rfl⟩
theorem len_any (h:w.heap[g]?=some (.cells (cellsOf m v) 149 (0,0))) (hv:w.ownsRow B 5 1 v m.buf.length (vals m.buf)):Calls Mm 79 #[ptr g] w λe w'=>e=.returned (ZE Z7 (m.len:Int))/\w'=w:=by
 have H:=Dl (ended_any h);obtain ⟨q0,q1,q2,q3,q4,q5⟩:=five h;obtain ⟨b,cap,rfl,_⟩:=own_slice hv;clear h q0 q1 q2 q4 q5 hv;unfold M.len;generalize ended m.last=x at *;cases x;all_goals
  go_enter Tryz.func79,Tryz.ntmps79;go_wp2_with (go_at_call 120;with_reducible refine Cm (H.out) ?_);go_ret;exact ⟨rfl,rfl⟩
theorem line_any (h:w.heap[g]?=some (.cells (cellsOf m v) 149 (0,0))) (hv:w.ownsRow B 5 1 v m.buf.length (vals m.buf)):Calls Mm 183 #[ptr g] w λe w'=>e=.returned (ZD (ba m.line))/\w'=w:=by
 have H:=Dl (ended_any h);obtain ⟨q0,q1,q2,q3,q4,q5⟩:=five h;have hcv:=conv_own hv;obtain ⟨b,cap,rfl,_⟩:=own_slice hv;clear h q0 q1 q2 q4 q5 hv;unfold M.line;generalize ended m.last=x at *;cases x;all_goals
  go_enter Tryz.func183,Tryz.ntmps183;go_wp2_with (go_at_call 120;with_reducible refine Cm (H.out) ?_);go_ret;exact ⟨rfl,rfl⟩
end
end Ln
namespace Ln
open Base
def mid (x:Int):Nat:=(min (max x 0) 4096).toNat
theorem mid_le (x:Int):mid x<=4096:=by unfold mid;omega
theorem mid_a (x:Int):((mid x:Nat):Int)=max 0 (min x 4096):=by unfold mid;omega
theorem mid_b (x:Int):((mid x:Nat):Int)=min (max x 0) 4096:=by unfold mid;omega
abbrev M.of (p:Nat) (most:Int):M:=M.new (Hs p 1) (Hs p 2) (mid most)
theorem byte_info:(Mm.info? 5).map (λi=>(i.zero,i.size,i.bytes))=some (some (ZE Z6 0),1,1):=ZY
section
attribute [local go_sem] A8
theorem new_any (p:Nat) (hp:p<4294967296) (most:Int) (w:World):Calls Mm 112 #[ZE Z5 p,ZE Z7 most] w λe w'=>e=.returned (ptr w.heap.size)/\w'=w.alloc (.cells (cellsOf (M.of p most) (ZC none 0 0)) 149):=by
 have H1:=Dl (Ht p hp 1);have H2:=Dl (Ht p hp 2);have HM:=Dl (mid_a most);unfold M.of;generalize Hs p 1=b1 at *;generalize Hs p 2=b2 at *;go_enter Tryz.func112,Tryz.ntmps112
 go_wp2_with (go_at_call 84;first
  |(with_reducible refine Cm (H1.out _) ?_)
  |(with_reducible refine Cm (H2.out _) ?_))
 go_ret;refine ⟨rfl,?_⟩;simp only [M.new,cellsOf,HM.out]
theorem XXR1W {P:Prop} (h:P:=by
 go_ret
 exact ⟨v,rfl,by rw [ST.out HK'.out];exact HR.out,Kept.refl _ _ _,Moved.refl _ _⟩):P:=h
theorem next_any (c:UInt8) (m:M) (hm:m.buf.length<=4096) (w:World) (B g:Nat) (v:Value) (h:Rd w B g v m) :
 Calls Mm 202 #[ptr g,byteV c] w λe w'=>∃v',e=.returned (ZE Z7 (m.next c))/\Rd w' B g v' (m.told c)/\Kept g v.ownBlock w w'/\Moved w v.ownBlock v'.ownBlock:=by
 have HF:=Dl (failed_any h.row);have HE:=Dl (bareEnd_any h.row);have HC:=Dl (behindCR_any c h.row);have HR:=Dl h;have stay:m.keeps c=false->m.told c=m:=λhk=>by unfold M.told;rw [hk,ZO ZX,D8]
 have ST:=Dl stay;clear stay;obtain ⟨q0,q1,q2,q3,q4,q5⟩:=five h.row;clear h q0 q1 q4;have HN:m.next c=m.next c:=rfl
 conv at HN=>rhs;unfold M.next
 have HK:m.keeps c=m.keeps c:=rfl
 conv at HK=>rhs;unfold M.keeps
 cases hf:failed m.last with
 | true=>
   rw [hf] at HF;rw [HN,hf,ZN rfl];rw [hf,ZN rfl] at HK;have HK':=Dl HK;clear HN HK;go_enter JN,L3;go_wp2_with (go_at_call 220;with_reducible refine Cm (HF.out) ?_);exact XXR1W
 | false=>
   rw [hf] at HF;rw [HN,hf,ZO ZX];rw [hf,ZO ZX] at HK;clear HN;cases hp:m.pend with
   | true=>
     rw [hp] at q5;rw [ZN rfl];rw [hp,ZN rfl] at HK;have HK':=Dl HK;clear HK;generalize (if c=10 then (1:Int) else if m.cr=true then 2 else 3)=x at *;go_enter JN,L3
     go_wp2_with (first
      |(go_at_call 220;with_reducible refine Cm (HF.out) ?_)
      |(go_at_call 221;with_reducible refine Cm (HC.out) ?_))
     exact XXR1W
   | false=>
     rw [hp] at q5;rw [ZO ZX];rw [hp,ZO ZX] at HK;by_cases h10:c=10
     ·rw [ZN h10];rw [ZN h10] at HK;have HK':=Dl HK;have e10:((c.toNat:Int)==10)=true:=by rw [h10];rfl
      clear HK h10;generalize (if m.lf=true then (1:Int) else 3)=x at *;go_enter JN,L3
      go_wp2_with (first
       |(go_at_call 220;with_reducible refine Cm (HF.out) ?_)
       |(go_at_call 222;with_reducible refine Cm (HE.out) ?_))
      exact XXR1W
     ·rw [ZO h10];rw [ZO h10] at HK;have e10:=ne10 h10;by_cases h13:c=13
      ·rw [ZN h13];rw [ZN h13] at HK;have HK':=Dl HK;have e13:((c.toNat:Int)==13)=true:=by rw [h13];rfl
       clear HK h13 h10;go_enter JN,L3;go_wp2_with (go_at_call 220;with_reducible refine Cm (HF.out) ?_);exact XXR1W
      ·rw [ZO h13];rw [ZO h13] at HK;have e13:=ne13 h13;obtain ⟨bb,cap,rfl,hcap,_,hbb⟩:=own_slice HR.out.own;by_cases hl:m.buf.length=m.most
       ·rw [ZN hl];rw [ZN hl] at HK;have HK':=Dl HK;have eL:((m.buf.length:Int)==(m.most:Int))=true:=ZI.2 ZZ;clear HK hbb hl h10 h13;go_enter JN,L3
        go_wp2_with (go_at_call 220;with_reducible refine Cm (HF.out) ?_);go_quiet (fail);go_wp2;go_ret;exact ⟨_,rfl,by rw [ST.out HK'.out];exact ⟨HR.out.row,HR.out.own,HR.out.ge,HR.out.ne⟩,Kept.of_below (Az (AE _ _) _) _ _,Moved.refl _ _⟩
       ·rw [ZO hl];rw [ZO hl] at HK;have HK':=Dl HK;have eL:((m.buf.length:Int)==(m.most:Int))=false:=ZM.2 ZZ;clear HK hbb hl h10 h13;obtain ⟨i0,hi,hz0,hz1,hz2⟩:=info_parts byte_info;have G1:=Dl hi;have G2:=Dl hz0;have G3:=Dl hz1;have G4:=Dl hz2;clear hi hz0 hz1 hz2;go_enter JN,L3
        go_wp2_with (go_at_call 220;with_reducible refine Cm (HF.out) ?_);go_quiet (fail);rename_i nq;have HR1:Hid (Rd (w.drewN nq) B g (.slice bb m.buf.length cap) m):=Dl ⟨HR.out.row,HR.out.own,HR.out.ge,HR.out.ne⟩
        have HK1:Hid (Kept g (Value.slice bb m.buf.length cap).ownBlock w (w.drewN nq)):=Dl (Kept.of_below (Az (AE _ _) _) _ _);have HS1:Hid (w.heap.size<=(w.drewN nq).heap.size):=Dl (Gi _);obtain ⟨q0,q1,q2',q3',q4,q5'⟩:=five HR1.out.row;clear q0 q1 q2' q4 q5' q2 q3 q5 HF HE HC eL;generalize w.drewN nq=w1 at *
        go_wp2_with (at_builtin;(refine wpList_append_own_at _ rfl _ _ 22 rfl B 5 i0 (.int .u8 0) 1 1 MZ G1.out G2.out G3.out G4.out rfl ZX _ _ _ rfl (HR1.out.own.alloc _) ⟨w1.heap.size,0,none⟩ 1 1 [byteV c] rfl rfl ?c1 ?c2 ?c3 ?c4 ?c5 ?_))
        case c1=>exact λj u hu=>by have:=news_one w1 (byteV c) 5 j u hu;simpa using this
        case c2=>intro u hu;obtain rfl:u=byteV c:=by simpa using hu
                 rfl
        case c3=>unfold maxLen;omega
        case c4=>omega
        case c5=>have:=row_lt HR1.out.row;have:=HR1.out.ge;simp;omega
        intro v0 w2 hown hgr _ hmv;obtain ⟨b2,cap2,hv2,_,_,_⟩:=own_slice hown;obtain ⟨v',hv'⟩:∃v',v'=Value.slice b2 (m.buf.length+1) cap2:=⟨_,rfl⟩;rw [hv2] at hown hmv ⊢;rw [←hv'] at hown hmv;have hg1:=row_lt HR1.out.row;have hr2:w2.heap[g]?=some (.cells (cellsOf m (.slice bb m.buf.length cap)) 149 (0,0)):=
         (hgr.block g ZQ (λe=>HR1.out.ne e.symm)).trans ((Below.heap_alloc w1 _ g hg1).trans HR1.out.row)
        have HB:(m.told c).buf=m.buf ++ [c]:=by unfold M.told;rw [HK'.out,ZN rfl]
        have HD:Hid (Rd (w2.setCell ⟨g,3,none⟩ v') B g v' (m.told c)):=Dl (by
         have ne':v'.ownBlock≠some g:=by
          rcases hmv with e | e
          ·rw [e];exact HR1.out.ne
          ·rw [e];intro h;simp at h;omega
         refine ⟨(row_set hr2 3 v').trans rfl,own_set ?_ ne' 3 v',HR1.out.ge,ne'⟩;rw [HB,vals_app,EO];exact hown)
        have HKK:Hid (Kept g (Value.slice bb m.buf.length cap).ownBlock w (w2.setCell ⟨g,3,none⟩ v')):=Dl (
         ((HK1.out.trans (Kept.of_below ((AE _ _).alloc (Gi _) _) g _) (Moved.refl _ _)).trans (Kept.grown hgr g) (Moved.refl _ _)).trans (Kept.set g _ w2 3 v') (Moved.refl _ _))
        have HMV:Hid (Moved w (Value.slice bb m.buf.length cap).ownBlock v'.ownBlock):=Dl (by
         rcases hmv with e | e
         ·exact .inl e
         ·exact .inr (.inr ⟨_,e,by have:=HS1.out;simp;omega⟩))
        have q3:=(five hr2).2.2.2.1;have z3:=row_frozen hr2 3;clear hown hgr hmv hr2 HB hv2;subst hv';go_wp2;go_ret;exact ⟨_,rfl,HD.out,HKK.out,HMV.out⟩
theorem clear_of {m:M} (h:ended m.last=false):m.clear=m:=by obtain ⟨lf,cr,most,buf,last,pend⟩:=m;simp only at h;simp [M.clear,h]
theorem tail_rd {w:World} {B g:Nat} {v:Value} {m:M} {c:UInt8} (h:Rd w B g v (m.clear.told c)) :
 Rd ((w.setCell ⟨g,4,none⟩ (ZE Z7 (m.clear.next c))).setCell ⟨g,5,none⟩ (ZB (m.clear.next c==0&&c==13))) B g v (m.byte c):=
 ⟨(row_set (row_set h.row 4 _) 5 _).trans rfl,own_set (own_set h.own h.ne 4 _) h.ne 5 _,h.ge,h.ne⟩
theorem clear_rd {w:World} {B g:Nat} {b:Option Addr} {cap:Nat} {m:M} (he:ended m.last=true) (h:Rd w B g (.slice b m.buf.length cap) m):Rd (w.setCell ⟨g,3,none⟩ (.slice b 0 cap)) B g (.slice b 0 cap) m.clear:=by
 have e:m.clear.buf= []:=by unfold M.clear;simp only;rw [he,ZN rfl]
 have ne:(Value.slice b 0 cap).ownBlock≠some g:=by have:=h.ne;cases b<;>exact this
 refine ⟨(row_set h.row 3 _).trans rfl,own_set ?_ ne 3 _,h.ge,ne⟩;rw [e];exact own_none h.own
theorem byte_any (c:UInt8) (m:M) (hm:m.Ok) (w:World) (B g:Nat) (v:Value) (h:Rd w B g v m) :
 Calls Mm 181 #[ptr g,byteV c] w λe w'=>∃v',e=.returned (ZE Z7 (m.byte c).last)/\Rd w' B g v' (m.byte c)/\Kept g v.ownBlock w w'/\Moved w v.ownBlock v'.ownBlock:=by
 have HE:=Dl (ended_any h.row)
 have HNX:=Dl (λ(w:World) (v:Value) (h:Rd w B g v m.clear)=>next_any c m.clear (Gl hm.clear.len hm.most) w B g v h);have HT:=Dl (λ(w:World) (v:Value) (h:Rd w B g v (m.clear.told c))=>tail_rd h);have HR:=Dl h;have hc:(c=13/\((c.toNat:Int)==13)=true/\(c==13)=true)∨(((c.toNat:Int)==13)=false/\(c==13)=false):=by
  by_cases e:c=13
  ·subst e;exact .inl ⟨rfl,rfl,rfl⟩
  ·exact .inr ⟨ne13 e,ZM.2 e⟩
 have hL:(m.byte c).last=m.clear.next c:=rfl;rw [hL];have hx:m.clear.next c=0∨(m.clear.next c==0)=false:=by
  by_cases e:m.clear.next c=0
  ·exact .inl e
  ·exact .inr (ZM.2 e)
 obtain ⟨b,cap,rfl,hcap,hcm,hbb⟩:=own_slice h.own;have HM:=Dl (show (Value.slice b 0 cap).ownBlock=(Value.slice b m.buf.length cap).ownBlock by cases b<;>rfl);cases he:ended m.last with
 | true=>
   rw [he] at HE;have HCL:=Dl (clear_rd he h);obtain ⟨q0,q1,q2,q3,q4,q5⟩:=five h.row;have z3:=row_frozen h.row 3;clear h hL q0 q1 q2 q4 q5;generalize m.clear.next c=x at *;unfold maxLen at hcm;rcases hbb with ⟨rfl,hn0,rfl⟩ | ⟨j,rfl⟩<;>rcases hx with rfl | hx<;>rcases hc with ⟨hc0,hc,hc'⟩ | ⟨hc,hc'⟩;all_goals
    try clear hc0
    go_enter Tryz.func181,Tryz.ntmps181
    go_wp2_with (first
     |(go_at_call 120;with_reducible refine Cm (HE.out) ?_)
     |(go_at_call 202;with_reducible refine (HNX.out _ _ HCL.out).mono ?_;rintro e w2 ⟨v2,rfl,hD,hK,hV⟩
       have hD':=Dl hD;obtain ⟨_,_,_,_,q4,q5⟩:=five hD.row;have z4:=row_frozen hD.row 4;have z5:=row_frozen hD.row 5;clear hD))
    have HT1:=HT.out _ _ hD'.out;first | rw [hx,hc'] at HT1 | rw [hc'] at HT1
    go_ret;exact ⟨_,rfl,HT1,((Kept.set g _ w 3 _).trans hK (.inl HM.out)).trans ((Kept.set g _ _ 4 _).trans (Kept.set g _ _ 5 _) (Moved.refl _ _)) (Moved.refl _ _),Moved.trans (.inl HM.out) hV ZW⟩
 | false=>
   rw [he] at HE;have HCL:Hid (Rd w B g (.slice b m.buf.length cap) m.clear):=Dl (by rw [clear_of he];exact h);clear h hL;generalize m.clear.next c=x at *;unfold maxLen at hcm;rcases hx with rfl | hx<;>rcases hc with ⟨hc0,hc,hc'⟩ | ⟨hc,hc'⟩;all_goals
    try clear hc0
    go_enter Tryz.func181,Tryz.ntmps181
    go_wp2_with (first
     |(go_at_call 120;with_reducible refine Cm (HE.out) ?_)
     |(go_at_call 202;with_reducible refine (HNX.out _ _ HCL.out).mono ?_;rintro e w2 ⟨v2,rfl,hD,hK,hV⟩
       have hD':=Dl hD;obtain ⟨_,_,_,_,q4,q5⟩:=five hD.row;have z4:=row_frozen hD.row 4;have z5:=row_frozen hD.row 5;clear hD))
    have HT1:=HT.out _ _ hD'.out;first | rw [hx,hc'] at HT1 | rw [hc'] at HT1
    go_ret;exact ⟨_,rfl,HT1,hK.trans ((Kept.set g _ _ 4 _).trans (Kept.set g _ _ 5 _) (Moved.refl _ _)) (Moved.refl _ _),hV⟩
end
end Ln
namespace Ln
open Base
abbrev rcells (p:Nat) (q:R) (v:Value):Array Value:=#[ZE Z5 (p:Int),ZE Z7 (q.most:Int),v,ZB q.CR,ZD (ba q.L),ZB q.over,ZB q.dead]
structure Rr (w:World) (B g:Nat) (v:Value) (p:Nat) (q:R):Prop where
 row:w.heap[g]?=some (.cells (rcells p q v) 112 (0,0))
 own:w.ownsRow B 5 1 v q.B.length (vals q.B)
 ge:B<=g
 ne:v.ownBlock≠some g
theorem seven {w:World} {g:Nat} {v:Value} {p:Nat} {q:R} (h:w.heap[g]?=some (.cells (rcells p q v) 112 (0,0))) :
 w.cell? ⟨g,0,none⟩=some (ZE Z5 (p:Int))/\w.cell? ⟨g,1,none⟩=some (ZE Z7 (q.most:Int))/\w.cell? ⟨g,2,none⟩=some v/\w.cell? ⟨g,3,none⟩=some (ZB q.CR)/\w.cell? ⟨g,4,none⟩=some (ZD (ba q.L))/\w.cell? ⟨g,5,none⟩=some (ZB q.over)/\w.cell? ⟨g,6,none⟩=some (ZB q.dead):=
 ⟨row_cell h rfl,row_cell h rfl,row_cell h rfl,row_cell h rfl,row_cell h rfl,row_cell h rfl,row_cell h rfl⟩
theorem start_rr {w:World} {B g:Nat} {v:Value} {p:Nat} {q:R} (h:Rr w B g v p q):Rr ((w.setCell ⟨g,4,none⟩ (ZD ⟨#[]⟩)).setCell ⟨g,5,none⟩ (ZB false)) B g v p q.start:=
 ⟨(row_set (row_set h.row 4 _) 5 _).trans rfl,own_set (own_set h.own h.ne 4 _) h.ne 5 _,h.ge,h.ne⟩
theorem start_kept (w:World) (g:Nat) (o:Option Nat):Kept g o w ((w.setCell ⟨g,4,none⟩ (ZD ⟨#[]⟩)).setCell ⟨g,5,none⟩ (ZB false)):=(Kept.set g o w 4 _).trans (Kept.set g o _ 5 _) (Moved.refl _ _)
theorem die_rr {w:World} {B g:Nat} {v:Value} {p:Nat} {q:R} (h:Rr w B g v p q):Rr (w.setCell ⟨g,6,none⟩ (ZB true)) B g v p q.die:=
 ⟨(row_set h.row 6 _).trans rfl,own_set h.own h.ne 6 _,h.ge,h.ne⟩
theorem cr_rr {w:World} {B g:Nat} {v:Value} {p:Nat} {q:R} (h:Rr w B g v p q):Rr (w.setCell ⟨g,3,none⟩ (ZB true)) B g v p {q with CR:=true}:=
 ⟨(row_set h.row 3 _).trans rfl,own_set h.own h.ne 3 _,h.ge,h.ne⟩
theorem fin_rr {w:World} {B g:Nat} {v:Value} {p:Nat} {q:R} (h:Rr w B g v p q) :
 Rr ((((w.setCell ⟨g,4,none⟩ (ZD (ba q.B))).setCell ⟨g,2,none⟩ (ZC none 0 0)).setCell ⟨g,3,none⟩ (ZB false)).setCell ⟨g,5,none⟩ (ZB true)) B g (ZC none 0 0) p q.fin:=
 ⟨(row_set (row_set (row_set (row_set h.row 4 _) 2 _) 3 _) 5 _).trans rfl,⟨rfl,.inl ⟨rfl,rfl⟩⟩,h.ge,λe=>by cases e⟩
theorem fin_kept (w:World) (g:Nat) (o:Option Nat) (s:Value):Kept g o w ((((w.setCell ⟨g,4,none⟩ s).setCell ⟨g,2,none⟩ (ZC none 0 0)).setCell ⟨g,3,none⟩ (ZB false)).setCell ⟨g,5,none⟩ (ZB true)):=
 (((Kept.set g o w 4 _).trans (Kept.set g o _ 2 _) (Moved.refl _ _)).trans (Kept.set g o _ 3 _) (Moved.refl _ _)).trans (Kept.set g o _ 5 _) (Moved.refl _ _)
section
attribute [local go_sem] A8
theorem rnew_any (p:Nat) (most:Int) (w:World):Calls Mm 113 #[ZE Z5 p,ZE Z7 most] w
 λe w'=>e=.returned (ptr w.heap.size)/\w'=w.alloc (.cells (rcells p (R.new (Hs p 1) (Hs p 2) (mid most)) (ZC none 0 0)) 112):=by
 have HM:=Dl (mid_b most);go_enter Tryz.func113,Tryz.ntmps113;go_wp2;go_ret;refine ⟨rfl,?_⟩;simp only [R.new,rcells,HM.out]
theorem rdie_any (x:Int) (w:World) (B g:Nat) (v:Value) (p:Nat) (q:R) (h:Rr w B g v p q):Calls Mm 186 #[ptr g,ZE Z7 x] w λe w'=>e=.returned (ZE Z7 x)/\Rr w' B g v p q.die/\∀o,Kept g o w w':=by have HD:=Dl (die_rr h);obtain ⟨q0,q1,q2,q3,q4,q5,q6⟩:=seven h.row;have z6:=row_frozen h.row 6;clear q0 q1 q2 q3 q4 q5 h;go_enter Tryz.func186,Tryz.ntmps186;go_wp2;go_ret;exact ⟨rfl,HD.out,λo=>Kept.set g o w 6 _⟩
theorem rend_any (x:Int) (w:World) (B g:Nat) (v:Value) (p:Nat) (q:R) (h:Rr w B g v p q):Calls Mm 185 #[ptr g,ZE Z7 x] w λe w'=>e=.returned (ZE Z7 x)/\Rr w' B g (ZC none 0 0) p q.fin/\∀o,Kept g o w w':=by have HD:=Dl (fin_rr h);have hcv:=conv_own h.own;obtain ⟨q0,q1,q2,q3,q4,q5,q6⟩:=seven h.row;have z2:=row_frozen h.row 2;have z3:=row_frozen h.row 3;have z4:=row_frozen h.row 4;have z5:=row_frozen h.row 5;obtain ⟨b,cap,rfl,_⟩:=own_slice h.own;clear q0 q1 q6 h;go_enter Tryz.func185,Tryz.ntmps185;go_wp2;go_ret;exact ⟨rfl,HD.out,λo=>fin_kept w g o _⟩
end
end Ln
namespace Ln
open Base
section
attribute [local go_sem] A8
theorem rbyte_any (c:UInt8) (q:R) (hq:q.most<=4096) (p:Nat) (hp:p<4294967296) (h1:q.lf=Hs p 1) (h2:q.cr=Hs p 2) (w:World) (B g:Nat) (v:Value) (h:Rr w B g v p q) :
 Calls Mm 159 #[ptr g,byteV c] w λe w'=>∃v',e=.returned (ZE Z7 (q.how c))/\Rr w' B g v' p (q.byte c)/\Kept g v.ownBlock w w'/\Moved w v.ownBlock v'.ownBlock:=by
 have HR:=Dl h
 have HS:=Dl (start_rr h)
 have HSK:=Dl (start_kept w g v.ownBlock)
 have HEN:=Dl (λx=>rend_any x _ B g v p q.start HS.out)
 have HDI:=Dl (λx=>rdie_any x _ B g v p q.start HS.out);have HL:=Dl (λw=>Hu p hp 1 w);have HC:=Dl (λw=>Hu p hp 2 w);obtain ⟨q0,q1,q2,q3,q4,q5,q6⟩:=seven h.row;have z2:=row_frozen h.row 2;have z3:=row_frozen h.row 3;have z4:=row_frozen h.row 4;have z5:=row_frozen h.row 5;clear h;have HH:q.how c=q.how c:=rfl
 conv at HH=>rhs;unfold R.how
 have HB:q.byte c=q.byte c:=rfl
 conv at HB=>rhs;unfold R.byte
 generalize hd:q.dead=d at *;cases d with
 | true=>
   rw [ZN rfl] at HH HB;rw [HH,HB];clear HH HB;go_enter JB,Ll;go_wp2;go_ret;exact ⟨v,rfl,HR.out,Kept.refl _ _ _,Moved.refl _ _⟩
 | false=>
   rw [ZO ZX] at HH HB;rw [←h1] at HL;rw [←h2] at HC;clear h1 h2;generalize hCR:q.CR=CR at *;have hc:(c=10/\((c.toNat:Int)==10)=true/\(c==10)=true)∨(¬c=10/\((c.toNat:Int)==10)=false/\(c==10)=false):=by
    by_cases e:c=10
    ·subst e;exact .inl ⟨rfl,rfl,rfl⟩
    ·exact .inr ⟨e,ne10 e,ZM.2 e⟩
   obtain ⟨b,cap,rfl,hcap,hcm,hbb⟩:=own_slice HR.out.own;cases CR with
   | true=>
     rcases hc with ⟨hc0,hc1,hc2⟩ | ⟨hc0,hc1,hc2⟩
     ·rw [hc2] at HH HB;simp only [Bool.and_self,if_true] at HH HB;rw [HH,HB];clear HH HB hc0 hc2;go_enter JB,Ll;go_wp2_with (go_at_call 185;with_reducible refine (HEN.out _).mono ?_;rintro e w2 ⟨rfl,hD,hK⟩);go_ret;exact ⟨_,rfl,hD,HSK.out.trans (hK _) (Moved.refl _ _),.inr (.inl rfl)⟩
     ·generalize q.cr=cr at *;rw [hc2] at HH HB;cases cr;all_goals
       simp only [AN,AT,if_true,if_false] at HH HB;rw [HH,HB];clear HH HB hc0 hc2;go_enter JB,Ll
       go_wp2_with (first
        |(go_at_call 185;with_reducible refine (HEN.out _).mono ?_;rintro e w2 ⟨rfl,hD,hK⟩)
        |(go_at_call 186;with_reducible refine (HDI.out _).mono ?_;rintro e w2 ⟨rfl,hD,hK⟩)
        |(go_at_call 44;with_reducible refine Cm (HC.out _) ?_))
       go_ret;first
        | exact ⟨_,rfl,hD,HSK.out.trans (hK _) (Moved.refl _ _),.inr (.inl rfl)⟩
        | exact ⟨_,rfl,hD,HSK.out.trans (hK _) (Moved.refl _ _),Moved.refl _ _⟩
        | exact ⟨rfl,_,hD,HSK.out.trans (hK _) (Moved.refl _ _),.inr (.inl rfl)⟩
        | exact ⟨rfl,_,hD,HSK.out.trans (hK _) (Moved.refl _ _),Moved.refl _ _⟩
   | false=>
     simp only [AS,AT,if_false] at HH HB;rcases hc with ⟨hc0,hc1,hc2⟩ | ⟨hc0,hc1,hc2⟩
     ·generalize q.lf=lf at *;rw [hc2] at HH HB;cases lf;all_goals
       simp only [AN,AT,if_true,if_false] at HH HB;rw [HH,HB];clear HH HB hc0 hc2;go_enter JB,Ll
       go_wp2_with (first
        |(go_at_call 185;with_reducible refine (HEN.out _).mono ?_;rintro e w2 ⟨rfl,hD,hK⟩)
        |(go_at_call 186;with_reducible refine (HDI.out _).mono ?_;rintro e w2 ⟨rfl,hD,hK⟩)
        |(go_at_call 44;with_reducible refine Cm (HL.out _) ?_))
       go_ret;first
        | exact ⟨_,rfl,hD,HSK.out.trans (hK _) (Moved.refl _ _),.inr (.inl rfl)⟩
        | exact ⟨_,rfl,hD,HSK.out.trans (hK _) (Moved.refl _ _),Moved.refl _ _⟩
        | exact ⟨rfl,_,hD,HSK.out.trans (hK _) (Moved.refl _ _),.inr (.inl rfl)⟩
        | exact ⟨rfl,_,hD,HSK.out.trans (hK _) (Moved.refl _ _),Moved.refl _ _⟩
     ·rw [hc2] at HH HB;simp only [AS,AT,if_false] at HH HB;by_cases h13:c=13
      ·have e13:((c.toNat:Int)==13)=true:=by rw [h13];rfl
       have e13':(c==13)=true:=by rw [h13];rfl
       rw [e13'] at HH HB;simp only [if_true] at HH HB
       have HX:=Dl (cr_rr HS.out);have HXK:=Dl (Kept.set g (Value.slice b q.B.length cap).ownBlock ((w.setCell ⟨g,4,none⟩ (ZD ⟨#[]⟩)).setCell ⟨g,5,none⟩ (ZB false)) 3 (ZB true));rw [HH,HB];clear HH HB hc0 hc2 h13 e13';go_enter JB,Ll;go_wp2;go_ret;exact ⟨_,rfl,HX.out,HSK.out.trans HXK.out (Moved.refl _ _),Moved.refl _ _⟩
      ·have e13:=ne13 h13;have e13':(c==13)=false:=ZM.2 h13;rw [e13'] at HH HB;simp only [AT,if_false] at HH HB;by_cases hl:q.most<=q.B.length
       ·rw [ZN hl] at HH HB;rw [HH,HB];have eL:(q.most:Int)<=(q.B.length:Int):=by omega
        clear HH HB hc0 hc2 h13 e13' hl;go_enter JB,Ll;go_wp2;go_quiet (fail);rename_i nq
        have HDI2:=Dl (λx=>rdie_any x (((w.setCell ⟨g,4,none⟩ (ZD ⟨#[]⟩)).setCell ⟨g,5,none⟩ (ZB false)).drewN nq) B g _ p q.start ⟨HS.out.row,HS.out.own,HS.out.ge,HS.out.ne⟩);go_wp2_with (go_at_call 186;with_reducible refine (HDI2.out _).mono ?_;rintro e w2 ⟨rfl,hD,hK⟩);go_ret;exact ⟨_,rfl,hD,(HSK.out.trans (Kept.of_below (Az (AE _ _) nq) g _) (Moved.refl _ _)).trans (hK _) (Moved.refl _ _),Moved.refl _ _⟩
       ·rw [ZO hl] at HH HB;rw [HH,HB];have eL:¬(q.most:Int)<=(q.B.length:Int):=by omega
        clear HH HB hc0 hc2 h13 e13' hl;obtain ⟨i0,hi,hz0,hz1,hz2⟩:=info_parts byte_info;have G1:=Dl hi;have G2:=Dl hz0;have G3:=Dl hz1;have G4:=Dl hz2;clear hi hz0 hz1 hz2;go_enter JB,Ll;go_wp2;go_quiet (fail);rename_i nq;have HK1:Hid (Kept g (Value.slice b q.B.length cap).ownBlock w (((w.setCell ⟨g,4,none⟩ (ZD ⟨#[]⟩)).setCell ⟨g,5,none⟩ (ZB false)).drewN nq)):=Dl (HSK.out.trans (Kept.of_below (Az (AE _ _) nq) g _) (Moved.refl _ _));have HR1:Hid (Rr (((w.setCell ⟨g,4,none⟩ (ZD ⟨#[]⟩)).setCell ⟨g,5,none⟩ (ZB false)).drewN nq) B g (.slice b q.B.length cap) p q.start):=Dl ⟨HS.out.row,HS.out.own,HS.out.ge,HS.out.ne⟩;generalize ((w.setCell ⟨g,4,none⟩ (ZD ⟨#[]⟩)).setCell ⟨g,5,none⟩ (ZB false)).drewN nq=w1 at *;have hg0:=row_lt HR.out.row;have hs0:=HK1.out.size;clear q0 q1 q2 q3 q4 q5 q6 z2 z3 z4 z5 HEN HDI HL HC HS HSK;obtain ⟨q0,q1,q2,q3,q4,q5,q6⟩:=seven HR1.out.row;clear q0 q1 q3 q4 q5 q6
        go_wp2_with (at_builtin;(refine wpList_append_own_at _ rfl _ _ 22 rfl B 5 i0 (.int .u8 0) 1 1 MZ G1.out G2.out G3.out G4.out rfl ZX _ _ _ rfl (HR1.out.own.alloc _) ⟨w1.heap.size,0,none⟩ 1 1 [byteV c] rfl rfl ?c1 ?c2 ?c3 ?c4 ?c5 ?_))
        case c1=>exact λj u hu=>by have:=news_one w1 (byteV c) 5 j u hu;simpa using this
        case c2=>intro u hu;obtain rfl:u=byteV c:=by simpa using hu
                 rfl
        case c3=>show q.B.length+1<=maxLen;unfold maxLen;omega
        case c4=>show (q.B.length+1)*1<=_;omega
        case c5=>have:=row_lt HR1.out.row;have:=HR1.out.ge;simp;omega
        intro v0 w2 hown hgr _ hmv
        replace hown:w2.ownsRow B 5 1 v0 (q.B.length+1) (vals q.B ++ [byteV c]):=hown
        obtain ⟨b2,cap2,hv2,_,_,_⟩:=own_slice hown;obtain ⟨v',hv'⟩:∃v',v'=Value.slice b2 (q.B.length+1) cap2:=⟨_,rfl⟩;rw [hv2] at hown hmv ⊢;rw [←hv'] at hown hmv;have hg1:=row_lt HR1.out.row;have hr2:w2.heap[g]?=some (.cells (rcells p q.start (.slice b q.B.length cap)) 112 (0,0)):=
         (hgr.block g ZQ (λe=>HR1.out.ne e.symm)).trans ((Below.heap_alloc w1 _ g hg1).trans HR1.out.row)
        have HD:Hid (Rr (w2.setCell ⟨g,2,none⟩ v') B g v' p {q.start with B:=q.B ++ [c]}):=Dl (by
         have ne':v'.ownBlock≠some g:=by
          rcases hmv with e | e
          ·rw [e];exact HR1.out.ne
          ·rw [e];intro h;simp at h;omega
         refine ⟨(row_set hr2 2 v').trans rfl,own_set ?_ ne' 2 v',HR1.out.ge,ne'⟩;rw [vals_app,EO];exact hown)
        have HKK:Hid (Kept g (Value.slice b q.B.length cap).ownBlock w (w2.setCell ⟨g,2,none⟩ v')):=Dl (
         ((HK1.out.trans (Kept.of_below ((AE _ _).alloc (Gi _) _) g _) (Moved.refl _ _)).trans (Kept.grown hgr g) (Moved.refl _ _)).trans (Kept.set g _ w2 2 v') (Moved.refl _ _))
        have HMV:Hid (Moved w (Value.slice b q.B.length cap).ownBlock v'.ownBlock):=Dl (by
         rcases hmv with e | e
         ·exact .inl e
         ·refine .inr (.inr ⟨_,e,?_⟩)
          first | omega |(simp;omega))
        have q3:=(seven hr2).2.2.1;have z3:=row_frozen hr2 2;clear hown hgr hmv hr2 hv2;subst hv';go_wp2;go_ret;first | exact ⟨_,rfl,HD.out,HKK.out,HMV.out⟩ | exact ⟨rfl,_,HD.out,HKK.out,HMV.out⟩
end
end Ln
namespace Ln
open Base
structure Apart (g:Nat) (o:Option Nat) (g':Nat) (o':Option Nat):Prop where
 gg:g≠g'
 og:o≠some g'
 go:o'≠some g
 oo:o=none∨o≠o'
def One (w:World) (B g:Nat) (m:M):Prop:=∃v,Rd w B g v m
def Two (w:World) (B g:Nat) (m:M) (g':Nat) (m':M):Prop:=∃v v',Rd w B g v m/\Rd w B g' v' m'/\Apart g v.ownBlock g' v'.ownBlock
def Both (w:World) (B g:Nat) (m:M) (g':Nat) (p:Nat) (q:R):Prop:=∃v v',Rd w B g v m/\Rr w B g' v' p q/\Apart g v.ownBlock g' v'.ownBlock
section
variable {w w':World} {B g g' p:Nat} {m m':M} {q:R}
end
section
variable {w:World} {B g g' p:Nat} {m m':M} {q:R}
end
end Ln
namespace Ln
open Base
abbrev k0:M:=⟨false,false,5,[],0,false⟩
abbrev k6:M:=⟨true,true,5,[],0,false⟩
section
attribute [local go_sem] A8
end
end Ln
namespace Rec
open Base Txt
theorem wrap64_in (x:Int) (h0: -9223372036854775808<=x) (h1:x<=9223372036854775807):wrap64 x=x:=by unfold wrap64;omega
theorem wraps (x:Int) (h: -9223372036854775808<=x/\x<=9223372036854775807):IntKind.i64.wrap x=x/\wrap64 x=x:=⟨wrap_in x h.1 h.2,wrap64_in x h.1 h.2⟩
structure R where
 m:ByteArray
 x:ByteArray
 k:Int
 fs:List Fld
 ch:Bool
 body:List UInt8
 ts:List Fld
def same (a b:R):Bool:=decide (a.m=b.m)&&(decide (a.x=b.x)&&(decide (a.k=b.k)&&(decide (a.fs=b.fs)&&(decide (a.ch=b.ch)&&(decide (a.body=b.body)&&decide (a.ts=b.ts))))))
def all:List R->List R->Bool
 | [],[]=>true
 | a::l,b::r=>same a b&&all l r
 | _,_=>false
def weigh (l:List Fld):Nat:=(l.map λf=>f.1.size+f.2.size).sum
def size (r:R):Nat:=r.m.size+r.x.size+weigh r.fs+weigh r.ts+r.body.length
abbrev connN:ByteArray:=⟨#[67,111,110,110,101,99,116,105,111,110]⟩
abbrev closeW:ByteArray:=⟨#[99,108,111,115,101]⟩
abbrev keepW:ByteArray:=⟨#[107,101,101,112,45,97,108,105,118,101]⟩
abbrev expectN:ByteArray:=⟨#[69,120,112,101,99,116]⟩
abbrev contW:ByteArray:=⟨#[49,48,48,45,99,111,110,116,105,110,117,101]⟩
def closes (r:R):Bool:=one (list (find r.fs connN)) closeW|| (decide (r.k=0) && !one (list (find r.fs connN)) keepW)
def expects (r:R):Bool:=decide (r.k=1)&&one (list (find r.fs expectN)) contW
theorem same_iff (a b:R):same a b=true↔a=b:=by obtain ⟨m,x,k,fs,ch,body,ts⟩:=a;obtain ⟨m',x',k',fs',ch',body',ts'⟩:=b;simp only [same,AM,decide_eq_true_eq,R.mk.injEq]
def Reads (w:World) (V:Value) (r:R):Prop:=
 ∃(fa:Option Addr) (fc:Nat) (ba:Option Addr) (bc:Nat) (ta:Option Addr) (tc:Nat),
  V=Z9 #[ZD r.m,ZD r.x,ZE Z7 r.k,.slice fa r.fs.length fc,ZB r.ch,.slice ba r.body.length bc,.slice ta r.ts.length tc]/\
  Flds w fa r.fs.length r.fs/\Nums .u8 w ba r.body.length (nums r.body)/\Flds w ta r.ts.length r.ts
theorem Reads.below {w w':World} {V:Value} {r:R} (h:Reads w V r) (hb:Below w.heap.size w w'):Reads w' V r:=by obtain ⟨fa,fc,ba,bc,ta,tc,e,h1,h2,h3⟩:=h;exact ⟨fa,fc,ba,bc,ta,tc,e,h1.below hb,h2.below hb,h3.below hb⟩
structure Fit (r:R):Prop where
 m:r.m.size<=1000000000
 x:r.x.size<=1000000000
 fs:r.fs.length<=500
 f:∀f∈r.fs,f.1.size<=1000000/\f.2.size<=1000000
 body:r.body.length<=1000000000
 ts:r.ts.length<=500
 t:∀f∈r.ts,f.1.size<=1000000/\f.2.size<=1000000
structure Bk (w:World) (g:Nat) (vs:List Value):Prop where
 c:∀(k:Nat) (v:Value),vs[k]?=some v->w.cell? ⟨g,k,none⟩=some v
 z:∀k,k<vs.length->w.frozen? ⟨g,k,none⟩=false
 lt:g<w.heap.size
section
variable {w w':World} {g:Nat} {vs:List Value}
theorem Bk.below (h:Bk w g vs) (hb:Below w.heap.size w w'):Bk w' g vs:=
 ⟨λk v hv=>(hb.cell (p:=⟨g,k,none⟩) h.lt).trans (h.c k v hv),λk hk=>(hb.frozen (p:=⟨g,k,none⟩) h.lt).trans (h.z k hk),Gn h.lt hb.size⟩
theorem Bk.alloc (h:Bk w g vs) (o:Obj):Bk (w.alloc o) g vs:=h.below ((AE _ _).alloc (Gi _) _)
theorem Bk.drew (h:Bk w g vs) (n:Nat):Bk (w.drewN n) g vs:=h.below (Az (AE _ _) n)
theorem Bk.new (w:World) (g:Nat) (hg:g=w.heap.size) (t:TypeId) (vs:List Value):Bk (w.alloc (.cells vs.toArray t)) g vs:=by
 subst hg;have hh:=heap_alloc_new w (.cells vs.toArray t);refine ⟨λk v hv=>(cell_of_row (w.alloc _) w.heap.size k _ t (0,0) hh).trans (by simpa using hv),λk _=>?_,ZW⟩;unfold World.frozen?;simp only [hh];simp
theorem Bk.set (h:Bk w g vs) (k:Nat) (v:Value) (hk:k<vs.length):Bk (w.setCell ⟨g,k,none⟩ v) g (vs.set k v):=by
 have h1:=Et hk;have hk1:=h.c k vs[k] h1;have hz1:=h.z k hk;refine ⟨λj u hu=>?_,λj hj=>?_,by have:=h.lt;simpa using this⟩
 ·by_cases e:k=j
  ·subst e;rw [List.getElem?_set_self hk] at hu;obtain rfl:v=u:=GZ.inj hu;go_simp
  ·rw [Ez e] at hu;have hj1:=h.c j u hu;have e':¬j=k:=λx=>e x.symm;go_simp
 ·rw [List.length_set] at hj;have hz2:=h.z j hj;go_simp
theorem Bk.other (h:Bk w g vs) (g' o:Nat) (u:Value) (ne:¬g'=g):Bk (w.setCell ⟨g',o,none⟩ u) g vs:=by
 refine ⟨λj v hv=>?_,λj hj=>?_,by have:=h.lt;simpa using this⟩
 ·have h1:=h.c j v hv;go_simp
 ·have h1:=h.z j hj;go_simp
end
end Rec
namespace Par
open Base Txt
structure Bd where
 x0:Int
 x1:Int
 x2:Int
 x3:Int
 x4:Int
 x5:Int
 x6:Int
 x7:Int
 ch:Bool
 od:Bool
def Bd.right (b:Bd):Bool:=Bnd.right b.x0 b.x1 b.x2 b.x3 b.x4 b.x5 b.x6 b.x7
structure S where
 st:Nat
 rd:Ln.R
 r:Rec.R
 lines:Nat
 head:Nat
 left:Nat
 fresh:Bool
 clean:Bool
 e:Nat
 out:List Rec.R
abbrev E0:ByteArray:=⟨#[]⟩
def zero:Rec.R:=⟨E0,E0,0,[],false,[],[]⟩
def nl (p:Nat) (most:Int):Ln.R:=Ln.R.new (Hs p 1) (Hs p 2) (Ln.mid most)
def headed (st:Nat):Bool:=st==0||st==1||st==6
def bodied (st:Nat):Bool:=st==2||st==4
def joinF (f:Fld) (ln:List UInt8):Fld:=(f.1,ba (BY f.2.data.toList ln))
def fieldV (p lines:Nat) (l:List Fld) (ln:List UInt8) (most:Int):Nat ⊕ List Fld:=
 if most<((lines+1:Nat):Int) then .inl 431
 else if (BX p ln && !l.isEmpty)=true then .inr (l.dropLast ++ [joinF (l.getLast?.getD dflt) ln])
 else match Fd.parse (Fd.clOf p) ln with
  | none=>.inl 400
  | some none=>.inr l
  | some (some (n,v))=>.inr (l ++ [(ba n,ba v)])
section
variable (p:Nat) (b:Bd)
def S.fail (s:S) (e:Nat):S:={s with e:=e,clean:=false,r:=zero}
def S.next (s:S):S:={s with r:=zero,st:=0,lines:=0,head:=0,fresh:=false,clean:=true,rd:=nl p b.x0}
def S.whole (s:S):S:=S.next p b {s with out:=s.out ++ [s.r]}
def S.over (s:S):S:=
 let d:=Ct (Cp p) b.ch b.x3 s.r.k s.r.fs
 if d.2.2≠0 then s.fail d.2.2.toNat
 else if d.1=2 then {s with r:={s.r with ch:=true},st:=3,fresh:=true,rd:=nl p b.x0}
 else if d.2.1=0 then s.whole p b
 else {s with st:=2,left:=d.2.1.toNat,fresh:=true}
def S.chunk (s:S) (ln:List UInt8):S:=
 let z:=Chk.sizeV (Hs p 27) (Hs p 28) b.x4 b.x3 ln
 if z.2≠0 then s.fail z.2.toNat
 else if z.1=0 then {s with st:=6,lines:=0,rd:=nl p b.x0}
 else if b.x3-(s.r.body.length:Int)<z.1 then s.fail 413
 else {s with st:=4,left:=z.1.toNat}
def S.first (s:S) (ln:List UInt8):S:=
 if ln= [] then (if Hs p 0=true then {s with clean:=true} else s.fail 400)
 else
  let q:=Is (Rq.clOf p) b.od ln
  if q.2.2.2≠0 then s.fail q.2.2.2 else {s with r:={s.r with m:=ba q.1,x:=ba q.2.1,k:=(q.2.2.1:Int)},st:=1}
def S.fields (s:S) (ln:List UInt8):S:=
 if ln= [] then s.over p b
 else match fieldV p s.lines s.r.fs ln b.x1 with
  | .inl e=>S.fail {s with lines:=s.lines+1} e
  | .inr l=>{s with lines:=s.lines+1,r:={s.r with fs:=l}}
def S.trail (s:S) (ln:List UInt8):S:=
 if ln= [] then s.whole p b
 else match fieldV p s.lines s.r.ts ln b.x5 with
  | .inl e=>S.fail {s with lines:=s.lines+1} e
  | .inr l=>{s with lines:=s.lines+1,r:={s.r with ts:=l}}
def S.ended (s:S) (ln:List UInt8):S:=
 match s.st with
 | 0=>s.first p b ln
 | 1=>s.fields p b ln
 | 3=>s.chunk p b ln
 | 5=>{s with st:=3,rd:=nl p b.x0}
 | 6=>s.trail p b ln
 | _=>s
def S.bodyB (s:S) (c:UInt8):S:=
 let s1:={s with r:={s.r with body:=s.r.body ++ [c]},left:=s.left-1}
 if 1<s.left then s1 else if s.st=2 then s1.whole p b else {s1 with st:=5,rd:=nl p 0}
def longE (st:Nat):Nat:=if st=0 then 414 else if headed st=true then 431 else 400
def S.plain (s:S) (c:UInt8):S:=
 let s0:={s with fresh:=false}
 if bodied s.st=true then s0.bodyB p b c
 else
  let s1:={s0 with rd:=s.rd.byte c}
  if s.rd.how c=3 then s1.fail 400
  else if s.rd.how c=4 then s1.fail (longE s.st)
  else if s.rd.how c=0 then s1
  else s1.ended p b (s.rd.byte c).L
def S.count (f:S->S) (s:S):S:=
 if s.e≠0 then s
 else if headed s.st=true then (if b.x2<((s.head+1:Nat):Int) then S.fail {s with head:=s.head+1} 431 else f {s with head:=s.head+1,clean:=false})
 else f {s with clean:=false}
def S.again (s:S) (c:UInt8) (was:Nat):S:=
 if (s.st==0 && !(was==0))=true then s.count b (λs=>s.plain p b c)
 else
  let s1:={s with clean:=false}
  if (!headed was&&s.st==6)=true then s1.count b (λs=>s.plain p b c) else s1.plain p b c
def S.byte1 (s:S) (c:UInt8):S:=
 let s0:={s with fresh:=false}
 if bodied s.st=true then s0.bodyB p b c
 else
  let s1:={s0 with rd:=s.rd.byte c}
  if s.rd.how c=3 then s1.fail 400
  else if s.rd.how c=4 then (if (s.st==5&&Hs p 29)=true then S.plain p b {s1 with st:=3,rd:=nl p b.x0} c else s1.fail (longE s.st))
  else if s.rd.how c=0 then s1
  else if s.rd.how c=2 then (if (s1.ended p b (s.rd.byte c).L).e=0 then S.again p b (s1.ended p b (s.rd.byte c).L) c s.st else s1.ended p b (s.rd.byte c).L)
  else s1.ended p b (s.rd.byte c).L
def S.byte (s:S) (c:UInt8):S:=s.count b (λs=>s.byte1 p b c)
def S.feed (s:S) (cs:List UInt8):S:=cs.foldl (S.byte p b) s
def S.new:S:=if (b.right&&decide (p<1073741824))=true then ⟨0,nl p b.x0,zero,0,0,0,false,true,0,[]⟩ else ⟨0,nl p b.x0,zero,0,0,0,false,false,20,[]⟩
def S.waits (s:S):Bool:=decide (s.e=0)&&(s.fresh&&Rec.expects s.r)
def S.held (s:S):Nat:=if s.e=0 then Rec.size s.r+(if bodied s.st=true then 0 else s.rd.B.length) else 0
def S.read (cs:List UInt8):S:=S.feed p b (S.new p b) cs
end
theorem S.feed_app (p:Nat) (b:Bd) (s:S) (xs ys:List UInt8):s.feed p b (xs++ys)=(s.feed p b xs).feed p b ys:=List.foldl_append
theorem S.count_dead {b:Bd} {f:S->S} {s:S} (h:s.e≠0):s.count b f=s:=by unfold S.count;rw [if_pos h]
theorem S.byte_dead {p:Nat} {b:Bd} {s:S} (h:s.e≠0) (c:UInt8):s.byte p b c=s:=S.count_dead h
end Par
namespace Pg
open Base Txt Par
structure T where
 st:Nat
 rd:Ln.M
 r:Rec.R
 hl:Nat
 bl:Nat
 size:Nat
 cnt:Bool
 left:Nat
 out:List Rec.R
inductive Q
 | live (t:T)
 | dead (e:Nat) (out:List Rec.R)
section
variable (p:Nat) (b:Bd)
def T.fin (t:T):T:={t with out:=t.out ++ [t.r],r:=zero,hl:=0,bl:=0,size:=0,cnt:=false,left:=0,st:=1}
def T.enter (t:T) (st:Nat) (most:Int):T:={t with st:=st,rd:=Ln.M.of p most}
def T.endData (t:T):T:=if t.r.ch=true then t.enter p 6 0 else t.fin
def T.keep (t:T) (c:UInt8):T:={t with r:={t.r with body:=t.r.body ++ [c]},left:=t.left-1}
def T.first (t:T) (s:List UInt8):Nat × T:=
 if s= [] then (if Hs p 0=true then 0 else 400,t)
 else
  let q:=Is (Rq.clOf p) b.od s
  if q.2.2.2=0 then (0,{t with r:={t.r with m:=ba q.1,x:=ba q.2.1,k:=(q.2.2.1:Int)},st:=2}) else (q.2.2.2,t)
def T.endHead (t:T):Nat × T:=
 let d:=Ct (Cp p) b.ch b.x3 t.r.k t.r.fs
 if d.2.2≠0 then (d.2.2.toNat,t)
 else if d.1=2 then (0,{t with r:={t.r with ch:=true},st:=4})
 else if d.2.1=0 then (0,t.fin)
 else (0,{t with left:=d.2.1.toNat,st:=3})
def listE:Nat ⊕ List Fld->Nat
 | .inl e=>e
 | .inr _=>0
def listL (l:List Fld):Nat ⊕ List Fld->List Fld
 | .inl _=>l
 | .inr l'=>l'
def T.fields (t:T) (s:List UInt8):Nat × T:=
 if s= [] then t.endHead p b
 else (listE (fieldV p t.hl t.r.fs s b.x1),{t with hl:=t.hl+1,r:={t.r with fs:=listL t.r.fs (fieldV p t.hl t.r.fs s b.x1)}})
def T.trail (t:T) (s:List UInt8):Nat × T:=
 if s= [] then (0,t.fin)
 else (listE (fieldV p t.bl t.r.ts s b.x5),{t with bl:=t.bl+1,r:={t.r with ts:=listL t.r.ts (fieldV p t.bl t.r.ts s b.x5)}})
def T.chunk (t:T) (s:List UInt8):Nat × T:=
 let z:=Chk.sizeV (Hs p 27) (Hs p 28) b.x4 b.x3 s
 if z.2≠0 then (z.2.toNat,t)
 else if z.1=0 then (0,{t with st:=7})
 else if b.x3-(t.r.body.length:Int)<z.1 then (413,t)
 else (0,{t with left:=z.1.toNat,st:=5})
def T.line (t:T) (s:List UInt8):Nat × T:=
 if t.st=1 then t.first p b s else if t.st=2 then t.fields p b s else if t.st=4 then t.chunk p b s else if t.st=7 then t.trail p b s
 else (0,t.enter p 4 b.x0)
def longE (st:Nat):Nat:=if st=1 then 414 else if st=2∨st=7 then 431 else 400
def ends (x:Nat × T):Q:=if x.1=0 then .live x.2 else .dead x.1 x.2.out
def T.inLine (t:T) (c:UInt8):Q × Bool:=
 let t1:={t with rd:=t.rd.byte c}
 let how:=t.rd.clear.next c
 if how=0 then (.live t1,true)
 else if how=3 then (.dead 400 t.out,true)
 else if how=4 then (if (t.st==6&&Hs p 29)=true then (.live (t1.enter p 4 b.x0),false) else (.dead (longE t.st) t.out,true))
 else (ends (t1.line p b (t.rd.byte c).line),!(how==2))
def T.counted (t:T):T:=if t.cnt=true then t else {t with cnt:=true,size:=t.size+1}
def headed (st:Nat):Bool:=st==1||st==2||st==7
def bodied (st:Nat):Bool:=st==3||st==5
def T.look (t:T) (c:UInt8):Q × Bool:=
 if bodied t.st=true then (.live (if t.left=1 then (t.keep c).endData p else t.keep c),true)
 else if headed t.st=true then (if b.x2<(t.counted.size:Int) then (.dead 431 t.out,true) else t.counted.inLine p b c)
 else t.inLine p b c
def T.take (t:T) (c:UInt8):Q:=
 match ({t with cnt:=false}:T).look p b c with
 |(.live t1,false)=>(t1.look p b c).1
 |(x,_)=>x
def Q.byte (x:Q) (c:UInt8):Q:=
 match x with
 | .live t=>t.take p b c
 | x=>x
def Q.feed (x:Q) (cs:List UInt8):Q:=cs.foldl (Q.byte p b) x
def T.new:T:=⟨1,Ln.M.of p b.x0,zero,0,0,0,false,0,[]⟩
def Q.new:Q:=if (b.right&&decide (p<1073741824))=true then .live (T.new p b) else .dead 20 []
def Q.read (cs:List UInt8):Q:=(Q.new p b).feed p b cs
end
def Q.err:Q->Nat
 | .live _=>0
 | .dead e _=>e
def Q.out:Q->List Rec.R
 | .live t=>t.out
 | .dead _ out=>out
def Q.told:Q->Q
 | .live t=>.live {t with out:= []}
 | .dead e _=>.dead e []
def T.isNew (t:T):Bool:=decide (t.rd.len=0) && !t.rd.pend
def T.next (t:T):Bool:=(t.st==3||t.st==4)&&(t.r.body.isEmpty&&t.isNew)
def Q.waits:Q->Bool
 | .live t=>t.next&&Rec.expects t.r
 | .dead _ _=>false
def Q.held:Q->Nat
 | .live t=>t.rd.len+Rec.size t.r
 | .dead _ _=>0
def Q.clean:Q->Bool
 | .live t=>t.st==1&&t.isNew
 | .dead _ _=>false
end Pg
namespace Par
open Base Txt
theorem grow_facts {base most:Int} (hb:1<=base) (hm:0<=most):∀(l:List UInt8) (n k:Int),0<=n->n<=most->Num.grow base most n l=some k->0<=k/\k<=most
 | [],n,k,h0,h1,h=>by
   simp only [Num.grow,GZ.injEq] at h;omega
 | c::r,n,k,h0,h1,h=>by
   unfold Num.grow at h;by_cases hc:most<Num.dig c∨(most-Num.dig c)/base<n
   ·rw [ZN hc] at h;cases h
   ·rw [ZO hc] at h;have hd:=Num.dig_nonneg c;have h2:n<=(most-Num.dig c)/base:=by omega
    have h3:n*base<=most-Num.dig c:=by
     have:=Int.mul_le_mul_of_nonneg_right h2 (by omega:0<=base);have h4:=Int.ediv_mul_le (most-Num.dig c) (by omega:base≠0);omega
    have h5:0<=n*base:=CC h0 ZZ;exact grow_facts hb hm r _ k ZZ ZZ h
theorem read_facts (base most:Int) (hb:1<=base) (l:List UInt8):((G6 base most l).2=0/\0<=(G6 base most l).1/\(G6 base most l).1<=max most 0)∨(G6 base most l).2=22∨(G6 base most l).2=23:=by
 unfold G6;split
 ·exact .inr (.inl rfl)
 ·cases h:Num.grow base (max most 0) 0 l with
  | none=>exact .inr (.inr rfl)
  | some k=>
    have:=grow_facts hb ZZ l 0 k ZZ ZZ h;exact .inl ⟨rfl,this.1,this.2⟩
theorem chunk_facts (hex blanks:Bool) (ext body:Int) (l:List UInt8):((Chk.sizeV hex blanks ext body l).2=0/\0<=(Chk.sizeV hex blanks ext body l).1/\(Chk.sizeV hex blanks ext body l).1<=max body 0)∨(Chk.sizeV hex blanks ext body l).2=400∨(Chk.sizeV hex blanks ext body l).2=413:=by
 unfold Chk.sizeV;split
 ·rcases read_facts 16 body ZX (Chk.sizeL hex blanks l) with ⟨h0,h1,h2⟩ | h | h
  ·unfold Chk.numV;rw [h0,ZO ZX,ZO ZX];exact .inl ⟨rfl,h1,h2⟩
  ·unfold Chk.numV
   rw [h,ZN rfl];exact .inr (.inl rfl)
  ·unfold Chk.numV
   rw [h,ZO ZX,ZN rfl];exact .inr (.inr rfl)
 ·exact .inr (.inl rfl)
theorem length_facts (lp lc lf ll:Bool) (most:Int) (vs:List ByteArray):((Cx lp lc lf ll most vs).2=0/\0<=(Cx lp lc lf ll most vs).1/\(Cx lp lc lf ll most vs).1<=max most 0)∨(Cx lp lc lf ll most vs).2=400∨(Cx lp lc lf ll most vs).2=413:=by
 unfold Cx;split
 ·exact .inl ⟨rfl,ZX,by show (0:Int)<=_;omega⟩
 ·split
  ·exact .inr (.inl rfl)
  ·rename_i s _;rcases read_facts 10 most ZX (Frm.unplus lp s).data.toList with ⟨h0,h1,h2⟩ | h | h
   ·unfold Frm.numV;rw [h0,ZO ZX,ZO ZX];exact .inl ⟨rfl,h1,h2⟩
   ·unfold Frm.numV
    rw [h,ZN rfl];exact .inr (.inl rfl)
   ·unfold Frm.numV
    rw [h,ZO ZX,ZN rfl];exact .inr (.inr rfl)
theorem decide_facts (c:Frm.Cl) (ch:Bool) (body minor:Int) (fs:List Fld) :
 Ct c ch body minor fs=(2,0,0)∨(∃n:Nat,(n:Int)<=max body 0/\Ct c ch body minor fs=(1,(n:Int),0))∨∃e:Nat,(e=400∨e=413∨e=501)/\Ct c ch body minor fs=(0,0,(e:Int)):=by
 unfold Ct Frm.bodyV;have hh:Cw c.nh c.mh minor (find fs Cv)=0∨Cw c.nh c.mh minor (find fs Cv)=400:=by
  unfold Cw;split
  ·exact .inr rfl
  ·split
   ·exact .inl rfl
   ·exact .inr rfl
 rcases hh with h | h
 ·rw [h,ZO ZX];obtain ⟨W,hW⟩:∃W,C1 c.td c.ti c.tw c.lw minor (find fs Cz).length (find fs Co).length (Cq c.tb c.tl (find fs Cz))=W:=⟨_,rfl⟩;have hw:W.2=0∨W.2=400∨W.2=501:=by
   rw [←hW];unfold C1
   repeat' split
   all_goals simp
  rw [hW];rcases hw with w | w | w
  ·rw [w,ZO ZX];split
   ·split
    ·exact .inl rfl
    ·exact .inr (.inr ⟨501,ZW,rfl⟩)
   ·rcases length_facts c.lp c.lc c.lf c.ll body (find fs Co) with ⟨h0,h1,h2⟩ | h0 | h0
    ·refine .inr (.inl ⟨(Cx c.lp c.lc c.lf c.ll body (find fs Co)).1.toNat,ZZ,?_⟩);unfold Frm.fixedV;rw [h0,ZN rfl,Int.toNat_of_nonneg h1]
    ·refine .inr (.inr ⟨400,ZW,?_⟩);unfold Frm.fixedV;rw [h0,ZO ZX];rfl
    ·refine .inr (.inr ⟨413,ZW,?_⟩);unfold Frm.fixedV;rw [h0,ZO ZX];rfl
  ·rw [w,ZN ZX];exact .inr (.inr ⟨400,ZW,rfl⟩)
  ·rw [w,ZN ZX];exact .inr (.inr ⟨501,ZW,rfl⟩)
 ·rw [h,ZN ZX];exact .inr (.inr ⟨400,ZW,rfl⟩)
theorem request_facts (c:Rq.Cl) (old:Bool) (l:List UInt8):((Is c old l).2.2.2=0/\(Is c old l).1.length<=l.length/\(Is c old l).2.1.length<=l.length/\(Is c old l).2.2.1<=1)∨(Is c old l).2.2.2=400∨(Is c old l).2.2.2=505:=by
 unfold Is;split
 ·exact .inr (.inl rfl)
 ·rename_i m t v hp;split
  ·split
   ·exact .inr (.inr rfl)
   ·rename_i k hk;split
    ·exact .inr (.inr rfl)
    ·obtain ⟨-,h1, -,h2, -⟩:=Rq.pick_some hp;refine .inl ⟨rfl,h1,h2,?_⟩;show k<=1;unfold Rq.verL at hk
     repeat' split at hk
     all_goals first |(cases hk;omega) | cases hk
  ·exact .inr (.inl rfl)
end Par
end Go.Proofs.YtdfabddnpgjepaaGreatDoor
