import Derived.Test.YtimoakmcelocfaaGreatAyt
namespace Go.Proofs.YtimoakmcelocfaaGreat.Wit
open Go.RowKit Base Txt Par Pg Flt
def Lasts (p:Nat) (b:Bd) (l:List UInt8) (c:UInt8):Prop:=(F.feed p b (F.new p b) l).1.parted=false∧(F.feed p b (F.new p b) (l ++ [c])).1.parted=true
section
variable {p:Nat} {b:Bd} {t t2:T} {l s:List UInt8} {c:UInt8} {e:Nat} {o:List Rec.R}
abbrev none' (t:T):T:={t with out:= []}
theorem none_pre (t:T):(none' t).pre t.out=t:=by show ({t with out:=t.out ++ []}:T)=t;rw [List.append_nil]
theorem none_take (h:t.take p b c=.live t2):∃t3,(none' t).take p b c=.live t3∧none' t3=none' t2:=by
 have e1:=take_pre (p:=p) (b:=b) (t:=none' t) (o:=t.out) (c:=c);rw [none_pre,h] at e1;cases hq:(none' t).take p b c with
 | live t3=>
   rw [hq] at e1;have e2:t2=t3.pre t.out:=by cases e1;rfl
   exact ⟨t3,rfl,by rw [e2];rfl⟩
 | dead e o=>rw [hq] at e1;cases e1
theorem live_new (hb:b.right=true) (hp:p<1073741824):F.new p b=⟨.live (T.new 0 b),.live ((T.new 0 b).wide p),0,false⟩:=by
 have e:Q.new p b=.live (T.new p b):=if_pos (by rw [hb,decide_eq_true hp];rfl)
 have e0:Q.new 0 b=.live (T.new 0 b):=if_pos (by rw [hb];rfl);unfold F.new;rw [e,e0,(new_wide (p:=p) (b:=b)).1];rfl
theorem feed_state (hp:p<1073741824) (hb:b.right=true):∀(n:Nat) (l:List UInt8) (t:T),l.length=n→(Q.live (T.new 0 b)).feed 0 b l=.live t→
 (F.feed p b (F.new p b) l).1=⟨.live (none' t),.live (none' (t.wide p)),0,false⟩∧t.Strict:=by
 intro n
 induction n with
 | zero=>
   intro l t hl h;obtain rfl:=List.length_eq_zero_iff.1 hl;have e1:T.new 0 b=t:=by have h':Q.live (T.new 0 b)=.live t:=h;cases h';rfl
   subst e1;refine ⟨?_,(new_wide (p:=p)).2⟩;show F.new p b= _;rw [live_new hb hp];rfl
 | succ n ih=>
   intro l t hl h;rcases List.eq_nil_or_concat l with e0 | ⟨l',c,e0⟩
   ·rw [e0] at hl;cases hl
   subst e0;rw [List.length_concat] at hl;rw [List.concat_eq_append] at h ⊢;rw [feed_app] at h;cases hq:(Q.live (T.new 0 b)).feed 0 b l' with
   | dead e o=>rw [hq,feed_dead] at h;cases h
   | live t1=>
     rw [hq] at h;have ht:t1.take 0 b c=.live t:=h;obtain ⟨i1,i2⟩:=ih l' t1 (by omega) hq;obtain ⟨k1,k2⟩:=take_wide (p:=p) ht i2;refine ⟨?_,k2⟩;obtain ⟨t3,f1,f2⟩:=none_take ht;obtain ⟨t4,g1,g2⟩:=none_take k1;rw [F.feed_snoc,i1];unfold F.byte;rw [if_pos rfl];unfold F.look;have e1:(Q.live (none' t1)).byte 0 b c=.live t3:=f1;have e2:(Q.live (none' (t1.wide p))).byte p b c=.live t4:=g1;have e4:t4=t3.wide p:=by have:=(take_wide (p:=p) f1 (⟨i2.lf,i2.cr⟩:(none' t1).Strict)).1;have e5:(none' t1).wide p=none' (t1.wide p):=rfl;rw [e5,g1] at this;cases this;rfl
     subst e4;dsimp only;rw [e1,e2];have e3:Rec.all (Q.live t3).out (Q.live (t3.wide p)).out=true:=all_self _;rw [e3];show (⟨.live (none' t3),.live (none' (t3.wide p)),0,false⟩:F)= _;rw [f2];have:none' (t3.wide p)=none' (t.wide p):=by show (none' t3).wide p=(none' t).wide p;rw [f2]
     rw [this]
theorem lasts_of (hp:p<1073741824) (hb:b.right=true) (h1:(Q.live (T.new 0 b)).feed 0 b l=.live t) (ho:t.out= []) (he:e≠0) (h2:t.take 0 b c=.dead e o) (h3:((t.wide p).take p b c).err=0):Lasts p b l c:=by
 obtain ⟨i1,i2⟩:=feed_state hp hb _ l t rfl h1;have e1:none' t=t:=by show ({t with out:= []}:T)=t;rw [←ho]
 have e2:none' (t.wide p)=t.wide p:=by show (none' t).wide p= _;rw [e1]
 rw [e1,e2] at i1;refine ⟨by rw [i1],?_⟩;rw [F.feed_snoc,i1];unfold F.byte;rw [if_pos rfl];unfold F.look;have f1:(Q.live t).byte 0 b c=.dead e o:=h2;have f2:(Q.live (t.wide p)).byte p b c=(t.wide p).take p b c:=rfl;dsimp only;rw [f1,f2,h3];unfold F.judge;rw [if_pos (show (Q.dead e o).err≠0 from he)];rfl
theorem last_line (hp:p<1073741824) (hb:b.right=true) (h1:(Q.live (T.new 0 b)).feed 0 b l=.live t) (ho:t.out= []) (h:t.Open) (h0:t.rd.clear.buf= []) (hc:s.all (fun c=>!(c==10) && !(c==13))=true) (hm:s.length≤t.rd.most) (hr:t.room b (s.length+2))
 (bad:∀t':T,t'.st=t.st→t'.r=t.r→t'.hl=t.hl→(T.line 0 b t' s).1≠0) (good:∀t':T,t'.st=t.st→t'.r=t.r→t'.hl=t.hl→(T.line p b t' s).1=0):Lasts p b (l++(s ++ [13])) 10:=by
 have hc':∀c∈s,c≠10∧c≠13:=fun c hx=>by simpa using List.all_eq_true.1 hc c hx
 have key:∀(q:Nat) (u:T),u.Open→u.rd.clear.buf= []→s.length≤u.rd.most→u.room b (s.length+2)→∃u1,(Q.live u).feed q b (s ++ [13])=.live u1∧u1.out=u.out∧u1.st=u.st∧u1.r=u.r∧u1.hl=u.hl∧u1.take q b 10=ends (T.line q b (u1.went {u1.rd with last:=1,pend:=false} 1) s):=by
  intro q u a1 a2 a3 a4;have k0:∃u0,(Q.live u).feed q b s=.live u0∧u0.Open∧u0.rd.clear.buf=s∧u0.room b 2∧u0.out=u.out∧u0.st=u.st∧u0.r=u.r∧u0.hl=u.hl:=by
   rcases List.eq_nil_or_concat s with e0 | ⟨_,_,e0⟩
   ·subst e0;exact ⟨u,rfl,a1,a2,a4,rfl,rfl,rfl,rfl⟩
   ·have hne:s≠ []:=by rw [e0];simp
    refine ⟨_,feed_plain s u hne a1 hc' (by rw [a2];simpa using a3) (room_le a4 (by omega)),went_open a1.st rfl rfl _,?_,went_room a4,rfl,rfl,rfl,rfl⟩;show ((u.rd.clear.buf++s):List UInt8)=s;rw [a2];rfl
  obtain ⟨u0,b1,b2,b3,b4,b5,b6,b7,b8⟩:=k0;refine ⟨u0.went {u0.rd with buf:=u0.rd.clear.buf,last:=0,pend:=true} 1,?_,b5,b6,b7,b8,?_⟩
  ·rw [feed_app,b1,feed_cons,feed_nil]
   exact take_cr b2 (room_le b4 (by omega))
  ·have:=take_lf (p:=q) (b:=b) (t:=u0.went {u0.rd with buf:=u0.rd.clear.buf,last:=0,pend:=true} 1) b2.st rfl rfl (went_room b4);rw [this];show ends (T.line q b _ u0.rd.clear.buf)= _;rw [b3]
 obtain ⟨u,c1,c2,c3,c4,c5,c6⟩:=key 0 t h h0 hm hr;have hs:=(feed_state hp hb _ l t rfl h1).2;obtain ⟨w,d1,d2,d3,d4,d5,d6⟩:=key p (t.wide p) ⟨h.st,h.pend,h.nf⟩ h0 hm hr;have ew:w=u.wide p:=by have:=(feed_wide (p:=p) _ hs c1).1;rw [d1] at this;cases this;rfl
 have hbad:=bad (u.went {u.rd with last:=1,pend:=false} 1) c3 c4 c5;have hgood:=good (w.went {w.rd with last:=1,pend:=false} 1) d3 d4 d5;refine lasts_of hp hb (t:=u) (e:=(T.line 0 b (u.went {u.rd with last:=1,pend:=false} 1) s).1) (o:=(T.line 0 b (u.went {u.rd with last:=1,pend:=false} 1) s).2.out) ?_ (c2.trans ho) hbad ?_ ?_
 ·rw [feed_app,h1];exact c1
 ·rw [c6];unfold ends;rw [if_neg hbad]
 ·rw [←ew,d6];unfold ends;rw [if_pos hgood];rfl
abbrev hdR (k:Int) (fs:List Fld):Rec.R:=⟨ba [71,69,84],ba [47],k,fs,false,[],[]⟩
structure Hd (b:Bd) (t:T) (k:Int) (fs:List Fld) (n:Nat):Prop where
 st:t.st=2
 pend:t.rd.pend=false
 nf:Ln.failed t.rd.last=false
 buf:t.rd.clear.buf= []
 most:t.rd.most=Ln.mid b.x0
 r:t.r=hdR k fs
 hl:t.hl=fs.length
 size:t.size=n
 out:t.out= []
theorem Hd.open {k:Int} {fs:List Fld} {n:Nat} (h:Hd b t k fs n):t.Open:=⟨by rw [h.st];rfl,h.pend,h.nf⟩
theorem mid_least (hb:b.right=true):64≤Ln.mid b.x0:=by have:=(Bd.edges hb).1;unfold Ln.mid;omega
theorem plainL (h:s.all (fun c=>!(c==10) && !(c==13))=true):∀c∈s,c≠10∧c≠13:=fun c hx=>by simpa using List.all_eq_true.1 h c hx
theorem hd_start (hb:b.right=true) {k:Nat} (hs:s≠ []) (hc:s.all (fun c=>!(c==10) && !(c==13))=true) (hl:s.length≤40) (hq:Rq.request (Rq.clOf 0) b.od s=([71,69,84],[47],k,0)) :
 ∃t',(Q.live (T.new 0 b)).feed 0 b (s ++ [13,10])=.live t'∧Hd b t' k [] (s.length+2):=by
 have hm:=mid_least hb;have h2:=(Bd.edges hb).2.2.1
 have e1:=feed_line (p:=0) (b:=b) (t:=T.new 0 b) s ⟨rfl,rfl,rfl⟩ rfl (plainL hc) (by show s.length≤Ln.mid b.x0;omega) (by intro _;show ((0+(s.length+2):Nat):Int)≤b.x2;omega);obtain ⟨u,hu⟩:∃u,(T.new 0 b).went {(T.new 0 b).rd with buf:=s,last:=1,pend:=false} (s.length+2)=u:=⟨_,rfl⟩;have hl1:T.line 0 b u s=(0,{u with r:={u.r with m:=ba [71,69,84],x:=ba [47],k:=(k:Int)},st:=2}):=by unfold T.line;rw [if_pos (by rw [←hu];rfl)];unfold T.first;rw [if_neg hs,hq];rfl
 refine ⟨_,e1.trans ((by rw [hu];exact congrArg ends hl1)),?_⟩;rw [←hu];exact ⟨rfl,rfl,rfl,rfl,rfl,rfl,rfl,(by show (0+(s.length+2):Nat)= _;omega),rfl⟩
theorem line_two {q:Nat} (h:t.st=2):T.line q b t s=T.fields q b t s:=by unfold T.line;rw [if_neg (by rw [h];decide),if_pos h]
theorem hd_field (hb:b.right=true) {k:Int} {fs:List Fld} {n:Nat} {nm v:List UInt8} (h:Hd b t k fs n) (hs:s≠ []) (hc:s.all (fun c=>!(c==10) && !(c==13))=true) (hl:s.length≤60) (hn:n+s.length+2≤250) (hf:fs.length≤3) (hp:Fd.parse (Fd.clOf 0) s=some (some (nm,v))) :
 ∃t',(Q.live t).feed 0 b (s ++ [13,10])=.live t'∧Hd b t' k (fs ++ [(ba nm,ba v)]) (n+(s.length+2)):=by
 have hm:=mid_least hb;have hx:=Bd.edges hb;have hg:Fd.goes 0 s=false:=by unfold Fd.goes;rw [none0,Bool.false_and]
 have e:=feed_line (p:=0) (b:=b) (t:=t) s h.open h.buf (plainL hc) (by rw [h.most];omega) (by intro _;rw [h.size];omega);have hv:fieldV 0 t.hl t.r.fs s b.x1=.inr (fs ++ [(ba nm,ba v)]):=by rw [h.hl,h.r];show fieldV 0 fs.length fs s b.x1= _;unfold fieldV;rw [if_neg (by omega),hg,if_neg (by simp),hp]
 obtain ⟨t',ht'⟩:∃t',({t.went {t.rd with buf:=s,last:=1,pend:=false} (s.length+2) with hl:=t.hl+1,r:={t.r with fs:=fs ++ [(ba nm,ba v)]}}:T)=t':=⟨_,rfl⟩;have hl:T.line 0 b (t.went {t.rd with buf:=s,last:=1,pend:=false} (s.length+2)) s=(0,t'):=by refine (line_two (show (t.went {t.rd with buf:=s,last:=1,pend:=false} (s.length+2)).st=2 from h.st)).trans ?_;unfold T.fields;rw [if_neg hs,←ht'];show (listE (fieldV 0 t.hl t.r.fs s b.x1),({t.went _ _ with hl:=t.hl+1,r:={t.r with fs:=listL t.r.fs (fieldV 0 t.hl t.r.fs s b.x1)}}:T))= _;rw [hv];rfl
 refine ⟨t',e.trans (congrArg ends hl),?_⟩;rw [←ht'];refine ⟨h.st,rfl,rfl,rfl,h.most,?_,?_,?_,h.out⟩
 ·show ({t.r with fs:=fs ++ [(ba nm,ba v)]}:Rec.R)= _;rw [h.r]
 ·show t.hl+1= _;rw [h.hl,List.length_append];rfl
 ·show (if Pg.headed t.st=true then t.size+(s.length+2) else t.size)= _;rw [h.st,h.size];rfl
end
end Go.Proofs.YtimoakmcelocfaaGreat.Wit
namespace Go.Proofs.YtimoakmcelocfaaGreat.Wit
open Go.RowKit Base Txt Par Pg Flt
section
variable {p:Nat} {b:Bd} {t t2:T} {l s:List UInt8} {c:UInt8}
theorem first_err (t:T) (hs:s≠ []) (h:t.st=1):(T.line p b t s).1=(Rq.request (Rq.clOf p) b.od s).2.2.2:=by
 unfold T.line;rw [if_pos h];unfold T.first;rw [if_neg hs];dsimp only;split
 ·rename_i h0;exact h0.symm
 ·rfl
theorem first_last (hp:p<1073741824) (hb:b.right=true) (hs:s≠ []) (hc:s.all (fun c=>!(c==10) && !(c==13))=true) (hl:s.length≤60) (bad:∀o,(Rq.request (Rq.clOf 0) o s).2.2.2≠0) (good:(Rq.request (Rq.clOf p) b.od s).2.2.2=0):Lasts p b (s ++ [13]) 10:=by
 rw [←List.nil_append (s ++ [13])];have hm:=mid_least hb;have hx:=Bd.edges hb;refine last_line hp hb (t:=T.new 0 b) rfl rfl ⟨rfl,rfl,rfl⟩ rfl hc (by show s.length≤Ln.mid b.x0;omega) (by intro _;show ((0+(s.length+2):Nat):Int)≤b.x2;omega) ?_ ?_
 ·intro t' h1 _ _;rw [first_err t' hs h1];exact bad _
 ·intro t' h1 _ _;rw [first_err t' hs h1];exact good
theorem field_err (t:T) (hs:s≠ []) (h:t.st=2):(T.line p b t s).1=listE (fieldV p t.hl t.r.fs s b.x1):=by rw [line_two h];unfold T.fields;rw [if_neg hs]
theorem field_none {n:Nat} {fs:List Fld} {most:Int} (h:Fd.parse (Fd.clOf 0) s=none):listE (fieldV 0 n fs s most)≠0:=by
 unfold fieldV;split
 ·decide
 ·have hg:Fd.goes 0 s=false:=by unfold Fd.goes;rw [none0,Bool.false_and]
  rw [if_neg (by rw [hg,Bool.false_and];exact Bool.false_ne_true),h];show (400:Nat)≠0;decide
theorem field_some {n:Nat} {fs:List Fld} {most:Int} (hn:((n+1:Nat):Int)≤most) (h:Fd.goes p s=true∧fs≠ []∨Fd.parse (Fd.clOf p) s≠none):listE (fieldV p n fs s most)=0:=by
 unfold fieldV;rw [if_neg (by omega)];by_cases hg:(Fd.goes p s && !fs.isEmpty)=true
 ·rw [if_pos hg];rfl
 ·rw [if_neg hg];rcases h with ⟨h1,h2⟩ | h
  ·exfalso;apply hg;rw [h1,Bool.true_and,Bool.not_eq_true',List.isEmpty_eq_false_iff];exact h2
  ·rcases hq:Fd.parse (Fd.clOf p) s with _ | _ | ⟨n,v⟩
   ·exact absurd hq h
   ·rfl
   ·rfl
theorem field_last (hp:p<1073741824) (hb:b.right=true) {k:Int} {fs:List Fld} {n:Nat} (h1:(Q.live (T.new 0 b)).feed 0 b l=.live t) (h:Hd b t k fs n) (hs:s≠ []) (hc:s.all (fun c=>!(c==10) && !(c==13))=true) (hl:s.length≤60) (hn:n+s.length+2≤250) (hf:fs.length≤3)
 (bad:Fd.parse (Fd.clOf 0) s=none) (good:Fd.goes p s=true∧fs≠ []∨Fd.parse (Fd.clOf p) s≠none):Lasts p b (l++(s ++ [13])) 10:=by
 have hm:=mid_least hb;have hx:=Bd.edges hb;refine last_line hp hb h1 h.out h.open h.buf hc (by rw [h.most];omega) (by intro _;rw [h.size];omega) ?_ ?_
 ·intro t' e1 e2 e3;rw [field_err t' hs (e1.trans h.st)];exact field_none bad
 ·intro t' e1 e2 e3;rw [field_err t' hs (e1.trans h.st),e2,e3,h.r,h.hl];exact field_some (by omega) good
theorem head_err (t:T) (h:t.st=2):(T.line p b t []).1=(Frm.decideV (Frm.clOf p) b.ch b.x3 t.r.k t.r.fs).2.2.toNat:=by
 rw [line_two h];unfold T.fields;rw [if_pos rfl];unfold T.endHead;dsimp only;split
 ·rfl
 ·rename_i h0;have h0:=Decidable.not_not.1 h0;rw [h0];split
  ·rfl
  ·split<;>rfl
theorem head_last (hp:p<1073741824) (hb:b.right=true) {k:Int} {fs:List Fld} {n:Nat} (h1:(Q.live (T.new 0 b)).feed 0 b l=.live t) (h:Hd b t k fs n) (hn:n≤240)
 (bad:(Frm.decideV (Frm.clOf 0) b.ch b.x3 k fs).2.2≠0) (good:(Frm.decideV (Frm.clOf p) b.ch b.x3 k fs).2.2=0):Lasts p b (l++([] ++ [13])) 10:=by
 have hx:=Bd.edges hb;refine last_line hp hb h1 h.out h.open h.buf rfl (Nat.zero_le _) (by intro _;rw [h.size];show ((n+2:Nat):Int)≤b.x2;omega) ?_ ?_
 ·intro t' e1 e2 e3;rw [head_err t' (e1.trans h.st),e2,h.r];exact decide_pos rfl bad
 ·intro t' e1 e2 e3;rw [head_err t' (e1.trans h.st),e2,h.r];show (Frm.decideV (Frm.clOf p) b.ch b.x3 k fs).2.2.toNat=0;rw [good];rfl
end
def topL:List UInt8:= [71,69,84,32,47,32,72,84,84,80,47,49,46,49]
def oldL:List UInt8:= [71,69,84,32,47,32,72,84,84,80,47,49,46,48]
def hostL:List UInt8:= [72,111,115,116,58,32,97]
def chkL:List UInt8:= [84,114,97,110,115,102,101,114,45,69,110,99,111,100,105,110,103,58,32,99,104,117,110,107,101,100]
def unkL:List UInt8:= [84,114,97,110,115,102,101,114,45,69,110,99,111,100,105,110,103,58,32,103,122,105,112]
def nobL:List UInt8:= [67,111,110,116,101,110,116,45,76,101,110,103,116,104,58,32,48]
def oneL:List UInt8:= [67,111,110,116,101,110,116,45,76,101,110,103,116,104,58,32,49]
def fld (n v:List UInt8):Fld:=(ba n,ba v)
abbrev hostF:Fld:=fld [72,111,115,116] [97]
abbrev teF (v:List UInt8):Fld:=fld [84,114,97,110,115,102,101,114,45,69,110,99,111,100,105,110,103] v
abbrev clF (v:List UInt8):Fld:=fld [67,111,110,116,101,110,116,45,76,101,110,103,116,104] v
section
variable {p:Nat} {b:Bd}
theorem top_start (hb:b.right=true):∃t',(Q.live (T.new 0 b)).feed 0 b (topL ++ [13,10])=.live t'∧Hd b t' 1 [] 16:=by
 have hq:∀o:Bool,Rq.request (Rq.clOf 0) o topL=([71,69,84],[47],1,0):=by rw [Rq.clOf_zero];decide +kernel
 exact hd_start hb (by decide) (by decide) (by decide) (hq _)
theorem old_start (hb:b.right=true) (ho:b.od=true):∃t',(Q.live (T.new 0 b)).feed 0 b (oldL ++ [13,10])=.live t'∧Hd b t' 0 [] 16:=by
 have hq:Rq.request (Rq.clOf 0) true oldL=([71,69,84],[47],0,0):=by rw [Rq.clOf_zero];decide +kernel
 exact hd_start hb (by decide) (by decide) (by decide) (by rw [ho];exact hq)
def linesL (ls:List (List UInt8)):List UInt8:=ls.flatMap fun s=>s ++ [13,10]
theorem hd_lines (hb:b.right=true) {k:Int}:∀(ls:List (List UInt8)) (gs:List Fld) (l:List UInt8) (t:T) (fs:List Fld) (n:Nat),(Q.live (T.new 0 b)).feed 0 b l=.live t→Hd b t k fs n→n+(linesL ls).length≤240→fs.length+ls.length≤4→
 (ls.map fun s=>Fd.parse Fd.c0 s)=(gs.map fun f=>some (some (f.1.data.toList,f.2.data.toList)))→(ls.all fun s=>!s.isEmpty&&(s.all (fun c=>!(c==10) && !(c==13))&&decide (s.length≤60)))=true→
 ∃t',(Q.live (T.new 0 b)).feed 0 b (l++linesL ls)=.live t'∧Hd b t' k (fs++gs) (n+(linesL ls).length)
 | [],gs,l,t,fs,n,h1,h2,_,_,hg,_=>by
   obtain rfl:gs= []:=List.map_eq_nil_iff.1 hg.symm;exact ⟨t,by rw [show linesL []= [] from rfl,List.append_nil];exact h1,by rw [List.append_nil];exact h2⟩
 | s::ls,gs,l,t,fs,n,h1,h2,hn,hf,hg,ha=>by
   match gs,hg with
   | g::gs,hg=>
     rw [List.map_cons,List.map_cons,List.cons.injEq] at hg;obtain ⟨hg1,hg2⟩:=hg;rw [List.all_cons,Bool.and_eq_true,Bool.and_eq_true,Bool.and_eq_true,Bool.not_eq_true',List.isEmpty_eq_false_iff,decide_eq_true_eq] at ha;obtain ⟨⟨a1,a2,a3⟩,ha⟩:=ha;have hl:(linesL (s::ls)).length=s.length+2+(linesL ls).length:=by show ((s ++ [13,10])++linesL ls).length= _;rw [List.length_append,List.length_append];rfl
     rw [List.length_cons] at hf
     obtain ⟨t',k1,k2⟩:=hd_field hb h2 a1 a2 a3 (by omega) (by omega) (by rw [Fd.clOf_zero];exact hg1);have eg:(ba g.1.data.toList,ba g.2.data.toList)=g:=by
      have e1:ba g.1.data.toList=g.1:=ba_ext (by simp [ba])
      have e2:ba g.2.data.toList=g.2:=ba_ext (by simp [ba]);rw [e1,e2]
     rw [eg] at k2;have k3:(Q.live (T.new 0 b)).feed 0 b (l++(s ++ [13,10]))=.live t':=by rw [feed_app,h1];exact k1
     obtain ⟨t'',m1,m2⟩:=hd_lines hb ls gs (l++(s ++ [13,10])) t' (fs ++ [g]) (n+(s.length+2)) k3 k2 (by omega) (by rw [List.length_append];show fs.length+1+ls.length≤4;omega) hg2 ha;refine ⟨t'',?_,?_⟩
     ·rw [show linesL (s::ls)=(s ++ [13,10])++linesL ls from rfl,←List.append_assoc];exact m1
     ·rw [show fs++g::gs=(fs ++ [g])++gs by simp,hl,←Nat.add_assoc];exact m2
theorem last_3 (hp:p<1073741824) (hb:b.right=true) (h:Qk.has p 3=true):Lasts p b ([71,69,84,32,32,47,32,72,84,84,80,47,49,46,49] ++ [13]) 10:=by
 have k1:∀o:Bool,(Rq.request Rq.c0 o [71,69,84,32,32,47,32,72,84,84,80,47,49,46,49]).2.2.2≠0:=by decide +kernel
 have k2:∀b2 b3 b4 b5 b6 o:Bool,(Rq.request ⟨true,b2,b3,b4,b5,b6⟩ o [71,69,84,32,32,47,32,72,84,84,80,47,49,46,49]).2.2.2=0:=by decide +kernel
 refine first_last hp hb (by decide) (by decide) (by decide) (by rw [Rq.clOf_zero];exact k1) ?_;unfold Rq.clOf;rw [h];exact k2 _ _ _ _ _ _
theorem last_4 (hp:p<1073741824) (hb:b.right=true) (h:Qk.has p 4=true):Lasts p b ([71,69,84,32,47,32,72,84,84,80,47,49,46,50] ++ [13]) 10:=by
 have k1:∀o:Bool,(Rq.request Rq.c0 o [71,69,84,32,47,32,72,84,84,80,47,49,46,50]).2.2.2≠0:=by decide +kernel
 have k2:∀b1 b3 b4 b5 b6 o:Bool,(Rq.request ⟨b1,true,b3,b4,b5,b6⟩ o [71,69,84,32,47,32,72,84,84,80,47,49,46,50]).2.2.2=0:=by decide +kernel
 refine first_last hp hb (by decide) (by decide) (by decide) (by rw [Rq.clOf_zero];exact k1) ?_;unfold Rq.clOf;rw [h];exact k2 _ _ _ _ _ _
theorem last_5 (hp:p<1073741824) (hb:b.right=true) (h:Qk.has p 5=true):Lasts p b ([71,69,84,32,47,32,104,116,116,112,47,49,46,49] ++ [13]) 10:=by
 have k1:∀o:Bool,(Rq.request Rq.c0 o [71,69,84,32,47,32,104,116,116,112,47,49,46,49]).2.2.2≠0:=by decide +kernel
 have k2:∀b1 b2 b4 b5 b6 o:Bool,(Rq.request ⟨b1,b2,true,b4,b5,b6⟩ o [71,69,84,32,47,32,104,116,116,112,47,49,46,49]).2.2.2=0:=by decide +kernel
 refine first_last hp hb (by decide) (by decide) (by decide) (by rw [Rq.clOf_zero];exact k1) ?_;unfold Rq.clOf;rw [h];exact k2 _ _ _ _ _ _
theorem last_6 (hp:p<1073741824) (hb:b.right=true) (h:Qk.has p 6=true) (ho:b.od=true):Lasts p b ([71,69,84,32,47] ++ [13]) 10:=by
 have k1:∀o:Bool,(Rq.request Rq.c0 o [71,69,84,32,47]).2.2.2≠0:=by decide +kernel
 have k2:∀b1 b2 b3 b5 b6:Bool,(Rq.request ⟨b1,b2,b3,true,b5,b6⟩ true [71,69,84,32,47]).2.2.2=0:=by decide +kernel
 refine first_last hp hb (by decide) (by decide) (by decide) (by rw [Rq.clOf_zero];exact k1) ?_;unfold Rq.clOf;rw [h,ho];exact k2 _ _ _ _ _
theorem last_7 (hp:p<1073741824) (hb:b.right=true) (h:Qk.has p 7=true):Lasts p b ([71,69,84,32,47,97,32,98,32,72,84,84,80,47,49,46,49] ++ [13]) 10:=by
 have k1:∀o:Bool,(Rq.request Rq.c0 o [71,69,84,32,47,97,32,98,32,72,84,84,80,47,49,46,49]).2.2.2≠0:=by decide +kernel
 have k2:∀b1 b2 b3 b4 b6 o:Bool,(Rq.request ⟨b1,b2,b3,b4,true,b6⟩ o [71,69,84,32,47,97,32,98,32,72,84,84,80,47,49,46,49]).2.2.2=0:=by decide +kernel
 refine first_last hp hb (by decide) (by decide) (by decide) (by rw [Rq.clOf_zero];exact k1) ?_;unfold Rq.clOf;rw [h];exact k2 _ _ _ _ _ _
theorem last_8 (hp:p<1073741824) (hb:b.right=true) (h:Qk.has p 8=true):Lasts p b ([71,69,84,32,47,1,32,72,84,84,80,47,49,46,49] ++ [13]) 10:=by
 have k1:∀o:Bool,(Rq.request Rq.c0 o [71,69,84,32,47,1,32,72,84,84,80,47,49,46,49]).2.2.2≠0:=by decide +kernel
 have k2:∀b1 b2 b3 b4 b5 o:Bool,(Rq.request ⟨b1,b2,b3,b4,b5,true⟩ o [71,69,84,32,47,1,32,72,84,84,80,47,49,46,49]).2.2.2=0:=by decide +kernel
 refine first_last hp hb (by decide) (by decide) (by decide) (by rw [Rq.clOf_zero];exact k1) ?_;unfold Rq.clOf;rw [h];exact k2 _ _ _ _ _ _
theorem last_0 (hp:p<1073741824) (hb:b.right=true) (h:Qk.has p 0=true):Lasts p b ([] ++ [13]) 10:=by
 have hx:=Bd.edges hb;refine last_line hp hb (l:= []) (s:= []) (t:=T.new 0 b) rfl rfl ⟨rfl,rfl,rfl⟩ rfl rfl (Nat.zero_le _) (by intro _;show ((0+2:Nat):Int)≤b.x2;omega) ?_ ?_
 ·intro t' h1 _ _;unfold T.line;rw [if_pos (show t'.st=1 from h1)];unfold T.first;rw [if_pos rfl,none0];show (400:Nat)≠0;decide
 ·intro t' h1 _ _;unfold T.line;rw [if_pos (show t'.st=1 from h1)];unfold T.first;rw [if_pos rfl,h];rfl
theorem last_9 (hp:p<1073741824) (hb:b.right=true) (h:Qk.has p 9=true):Lasts p b (((topL ++ [13,10])++linesL [])++([72,111,115,116,32,58,32,97] ++ [13])) 10:=by
 have k1:Fd.parse Fd.c0 [72,111,115,116,32,58,32,97]=none:=by decide +kernel
 have k2:∀b2 b3 b4 b5:Bool,Fd.parse ⟨true,b2,b3,b4,b5⟩ [72,111,115,116,32,58,32,97]≠none:=by decide +kernel
 obtain ⟨t0,f0,g0⟩:=top_start hb
 obtain ⟨t,f1,g1⟩:=hd_lines hb [] [] _ t0 [] 16 f0 g0 (by decide) (by decide) (by decide +kernel) (by decide);rw [List.nil_append] at g1
 exact field_last hp hb f1 g1 (by decide) (by decide) (by decide) (by decide) (by decide) (by rw [Fd.clOf_zero];exact k1) (.inr (by unfold Fd.clOf;rw [h];exact k2 _ _ _ _))
theorem last_10 (hp:p<1073741824) (hb:b.right=true) (h:Qk.has p 10=true):Lasts p b (((topL ++ [13,10])++linesL [])++([40,58,32,97] ++ [13])) 10:=by
 have k1:Fd.parse Fd.c0 [40,58,32,97]=none:=by decide +kernel
 have k2:∀b1 b3 b4 b5:Bool,Fd.parse ⟨b1,true,b3,b4,b5⟩ [40,58,32,97]≠none:=by decide +kernel
 obtain ⟨t0,f0,g0⟩:=top_start hb
 obtain ⟨t,f1,g1⟩:=hd_lines hb [] [] _ t0 [] 16 f0 g0 (by decide) (by decide) (by decide +kernel) (by decide);rw [List.nil_append] at g1
 exact field_last hp hb f1 g1 (by decide) (by decide) (by decide) (by decide) (by decide) (by rw [Fd.clOf_zero];exact k1) (.inr (by unfold Fd.clOf;rw [h];exact k2 _ _ _ _))
theorem last_11 (hp:p<1073741824) (hb:b.right=true) (h:Qk.has p 11=true):Lasts p b (((topL ++ [13,10])++linesL [])++([97] ++ [13])) 10:=by
 have k1:Fd.parse Fd.c0 [97]=none:=by decide +kernel
 have k2:∀b1 b2 b4 b5:Bool,Fd.parse ⟨b1,b2,true,b4,b5⟩ [97]≠none:=by decide +kernel
 obtain ⟨t0,f0,g0⟩:=top_start hb
 obtain ⟨t,f1,g1⟩:=hd_lines hb [] [] _ t0 [] 16 f0 g0 (by decide) (by decide) (by decide +kernel) (by decide);rw [List.nil_append] at g1
 exact field_last hp hb f1 g1 (by decide) (by decide) (by decide) (by decide) (by decide) (by rw [Fd.clOf_zero];exact k1) (.inr (by unfold Fd.clOf;rw [h];exact k2 _ _ _ _))
theorem last_12 (hp:p<1073741824) (hb:b.right=true) (h:Qk.has p 12=true):Lasts p b (((topL ++ [13,10])++linesL [])++([58,32,97] ++ [13])) 10:=by
 have k1:Fd.parse Fd.c0 [58,32,97]=none:=by decide +kernel
 have k2:∀b1 b2 b3 b5:Bool,Fd.parse ⟨b1,b2,b3,true,b5⟩ [58,32,97]≠none:=by decide +kernel
 obtain ⟨t0,f0,g0⟩:=top_start hb
 obtain ⟨t,f1,g1⟩:=hd_lines hb [] [] _ t0 [] 16 f0 g0 (by decide) (by decide) (by decide +kernel) (by decide);rw [List.nil_append] at g1
 exact field_last hp hb f1 g1 (by decide) (by decide) (by decide) (by decide) (by decide) (by rw [Fd.clOf_zero];exact k1) (.inr (by unfold Fd.clOf;rw [h];exact k2 _ _ _ _))
theorem last_13 (hp:p<1073741824) (hb:b.right=true) (h:Qk.has p 13=true):Lasts p b (((topL ++ [13,10])++linesL [hostL])++([32,98] ++ [13])) 10:=by
 have k1:Fd.parse Fd.c0 [32,98]=none:=by decide +kernel
 obtain ⟨t0,f0,g0⟩:=top_start hb
 obtain ⟨t,f1,g1⟩:=hd_lines hb [hostL] [hostF] _ t0 [] 16 f0 g0 (by decide) (by decide) (by decide +kernel) (by decide);rw [List.nil_append] at g1
 exact field_last hp hb f1 g1 (by decide) (by decide) (by decide) (by decide) (by decide) (by rw [Fd.clOf_zero];exact k1) (.inl ⟨by unfold Fd.goes;rw [h];rfl,by simp⟩)
theorem last_14 (hp:p<1073741824) (hb:b.right=true) (h:Qk.has p 14=true):Lasts p b (((topL ++ [13,10])++linesL [])++([65,58,32,1] ++ [13])) 10:=by
 have k1:Fd.parse Fd.c0 [65,58,32,1]=none:=by decide +kernel
 have k2:∀b1 b2 b3 b4:Bool,Fd.parse ⟨b1,b2,b3,b4,true⟩ [65,58,32,1]≠none:=by decide +kernel
 obtain ⟨t0,f0,g0⟩:=top_start hb
 obtain ⟨t,f1,g1⟩:=hd_lines hb [] [] _ t0 [] 16 f0 g0 (by decide) (by decide) (by decide +kernel) (by decide);rw [List.nil_append] at g1
 exact field_last hp hb f1 g1 (by decide) (by decide) (by decide) (by decide) (by decide) (by rw [Fd.clOf_zero];exact k1) (.inr (by unfold Fd.clOf;rw [h];exact k2 _ _ _ _))
theorem last_17 (hp:p<1073741824) (hb:b.right=true) (h14:Qk.has p 14=true):Lasts p b (((topL ++ [13,10])++linesL [])++([84,114,97,110,115,102,101,114,45,69,110,99,111,100,105,110,103,58,32,11,99,104,117,110,107,101,100] ++ [13])) 10:=by
 have k1:Fd.parse Fd.c0 [84,114,97,110,115,102,101,114,45,69,110,99,111,100,105,110,103,58,32,11,99,104,117,110,107,101,100]=none:=by decide +kernel
 have k2:∀b1 b2 b3 b4:Bool,Fd.parse ⟨b1,b2,b3,b4,true⟩ [84,114,97,110,115,102,101,114,45,69,110,99,111,100,105,110,103,58,32,11,99,104,117,110,107,101,100]≠none:=by decide +kernel
 obtain ⟨t0,f0,g0⟩:=top_start hb
 obtain ⟨t,f1,g1⟩:=hd_lines hb [] [] _ t0 [] 16 f0 g0 (by decide) (by decide) (by decide +kernel) (by decide);rw [List.nil_append] at g1
 exact field_last hp hb f1 g1 (by decide) (by decide) (by decide) (by decide) (by decide) (by rw [Fd.clOf_zero];exact k1) (.inr (by unfold Fd.clOf;rw [h14];exact k2 _ _ _ _))
theorem decide_of {fs:List Fld} {H TE CL:List ByteArray} (h1:find fs Frm.hostN=H) (h2:find fs Frm.teN=TE) (h3:find fs Frm.clN=CL) (c:Frm.Cl) (ch:Bool) (body k:Int) :
 Frm.decideV c ch body k fs=Frm.bodyV (Frm.hostsV c.nh c.mh k H) ch (Frm.winsV c.td c.ti c.tw c.lw k TE.length CL.length (Frm.coding c.tb c.tl TE)) (Frm.lengthV c.lp c.lc c.lf c.ll body CL):=by
 unfold Frm.decideV;rw [h1,h2,h3]
theorem digit_read {base most:Int} (c:UInt8) (h1:Num.digitOf base c=true) (h2:0≤Num.dig c∧Num.dig c≤1) (hb:0<base) (h3:16≤most):Num.readOf base most [c]=(Num.dig c,0):=by
 unfold Num.readOf;rw [if_neg (by simp [h1])];have e:Num.grow base (max most 0) 0 [c]=some (Num.dig c):=by
  have e1:max most 0=most:=by omega
  unfold Num.grow;have h4:¬(max most 0<Num.dig c∨(max most 0-Num.dig c)/base<0):=by
   rw [e1]
   have:=Int.ediv_nonneg (a:=most-Num.dig c) (b:=base) (by omega) (by omega);omega
  rw [if_neg h4];unfold Num.grow;rw [Int.zero_mul,Int.zero_add]
 rw [e];rfl
theorem len_of {vs:List ByteArray} {lp lc lf ll:Bool} {most:Int} {v:ByteArray} {c:UInt8} (h0:vs≠ []) (h1:Frm.counts lc lf ll (if lc=true then list vs else vs)=some v) (h2:(Frm.unplus lp v).data.toList= [c]) (h3:Num.digitOf 10 c=true) (h4:0≤Num.dig c∧Num.dig c≤1) (hm:16≤most):Frm.lengthV lp lc lf ll most vs=(Num.dig c,0):=by unfold Frm.lengthV;rw [if_neg h0,h1];dsimp only;rw [h2,digit_read c h3 h4 (by decide) hm];rfl
theorem len_none (lp lc lf ll:Bool) (most:Int):Frm.lengthV lp lc lf ll most []=(0,0):=rfl
theorem body_len {ch:Bool} {x:Int × Int} (h:x.2=0):(Frm.bodyV 0 ch (false,0) x).2.2=0:=by unfold Frm.bodyV Frm.fixedV;rw [if_neg (by decide),if_neg (by decide),if_neg (by decide),if_pos h]
theorem body_bad {ch:Bool} {w:Bool × Int} {x:Int × Int} (h:w.2≠0):(Frm.bodyV 0 ch w x).2.2≠0:=by unfold Frm.bodyV;rw [if_neg (by decide),if_pos h];exact h
theorem cl_zero:Frm.clOf 0=⟨false,false,false,false,false,false,false,false,false,false,false,false⟩:=by simp only [Frm.clOf,none0]
theorem last_15 (hp:p<1073741824) (hb:b.right=true) (h:Qk.has p 15=true):Lasts p b (((topL ++ [13,10])++linesL [])++([] ++ [13])) 10:=by
 have hx:=Bd.edges hb;obtain ⟨t0,f0,g0⟩:=top_start hb
 obtain ⟨t,f1,g1⟩:=hd_lines hb [] [] _ t0 [] 16 f0 g0 (by decide) (by decide) (by decide +kernel) (by decide);rw [List.nil_append] at g1;have e1:find [] Frm.hostN= []:=by decide +kernel
 have e2:find [] Frm.teN= []:=by decide +kernel
 have e3:find [] Frm.clN= []:=by decide +kernel
 refine head_last hp hb f1 g1 (by decide) ?_ ?_
 ·rw [decide_of e1 e2 e3,cl_zero];dsimp only;have:Frm.hostsV false false 1 []=400:=by decide +kernel
  rw [this];show (400:Int)≠0;decide
 ·rw [decide_of e1 e2 e3];unfold Frm.clOf;dsimp only;have kh:∀mh:Bool,Frm.hostsV true mh 1 []=0:=by decide +kernel
  rw [h,kh,len_none];exact body_len rfl
theorem last_16 (hp:p<1073741824) (hb:b.right=true) (h:Qk.has p 16=true):Lasts p b (((topL ++ [13,10])++linesL [hostL,hostL])++([] ++ [13])) 10:=by
 have hx:=Bd.edges hb;obtain ⟨t0,f0,g0⟩:=top_start hb
 obtain ⟨t,f1,g1⟩:=hd_lines hb [hostL,hostL] [hostF,hostF] _ t0 [] 16 f0 g0 (by decide) (by decide) (by decide +kernel) (by decide);rw [List.nil_append] at g1;have e1:find [hostF,hostF] Frm.hostN= [ba [97],ba [97]]:=by decide +kernel
 have e2:find [hostF,hostF] Frm.teN= []:=by decide +kernel
 have e3:find [hostF,hostF] Frm.clN= []:=by decide +kernel
 refine head_last hp hb f1 g1 (by decide) ?_ ?_
 ·rw [decide_of e1 e2 e3,cl_zero];dsimp only;have:Frm.hostsV false false 1 [ba [97],ba [97]]=400:=by decide +kernel
  rw [this];show (400:Int)≠0;decide
 ·rw [decide_of e1 e2 e3];unfold Frm.clOf;dsimp only;have kh:∀nh:Bool,Frm.hostsV nh true 1 [ba [97],ba [97]]=0:=by decide +kernel
  rw [h,kh,len_none];exact body_len rfl
theorem last_18 (hp:p<1073741824) (hb:b.right=true) (h:Qk.has p 18=true) (hch:b.ch=true):Lasts p b (((topL ++ [13,10])++linesL [hostL,[84,114,97,110,115,102,101,114,45,69,110,99,111,100,105,110,103,58,32,103,122,105,112,44,32,99,104,117,110,107,101,100]])++([] ++ [13])) 10:=by
 have hx:=Bd.edges hb;obtain ⟨t0,f0,g0⟩:=top_start hb
 obtain ⟨t,f1,g1⟩:=hd_lines hb [hostL,[84,114,97,110,115,102,101,114,45,69,110,99,111,100,105,110,103,58,32,103,122,105,112,44,32,99,104,117,110,107,101,100]] [hostF,teF [103,122,105,112,44,32,99,104,117,110,107,101,100]] _ t0 [] 16 f0 g0 (by decide) (by decide) (by decide +kernel) (by decide);rw [List.nil_append] at g1;have e1:find [hostF,teF [103,122,105,112,44,32,99,104,117,110,107,101,100]] Frm.hostN= [ba [97]]:=by decide +kernel
 have e2:find [hostF,teF [103,122,105,112,44,32,99,104,117,110,107,101,100]] Frm.teN= [ba [103,122,105,112,44,32,99,104,117,110,107,101,100]]:=by decide +kernel
 have e3:find [hostF,teF [103,122,105,112,44,32,99,104,117,110,107,101,100]] Frm.clN= []:=by decide +kernel
 refine head_last hp hb f1 g1 (by decide) ?_ ?_
 ·rw [decide_of e1 e2 e3,cl_zero];dsimp only;have:∀ch:Bool,Frm.hostsV false false 1 [ba [97]]=0∧(Frm.winsV false false false false 1 1 0 (Frm.coding false false [ba [103,122,105,112,44,32,99,104,117,110,107,101,100]])).2≠0:=by decide +kernel
  rw [(this true).1];exact body_bad (this true).2
 ·rw [decide_of e1 e2 e3];unfold Frm.clOf;dsimp only;have kh:∀nh mh:Bool,Frm.hostsV nh mh 1 [ba [97]]=0:=by decide +kernel
  have kc:∀tb:Bool,Frm.coding tb true [ba [103,122,105,112,44,32,99,104,117,110,107,101,100]]=true:=by decide +kernel
  have kw:∀td ti tw lw:Bool,Frm.winsV td ti tw lw 1 1 0 true=(true,0):=by decide +kernel
  rw [h,kh,kc,hch];show (Frm.bodyV 0 true (Frm.winsV _ _ _ _ 1 1 0 true) _).2.2=0;rw [kw];rfl
theorem last_19 (hp:p<1073741824) (hb:b.right=true) (h:Qk.has p 19=true):Lasts p b (((topL ++ [13,10])++linesL [hostL,unkL])++([] ++ [13])) 10:=by
 have hx:=Bd.edges hb;obtain ⟨t0,f0,g0⟩:=top_start hb
 obtain ⟨t,f1,g1⟩:=hd_lines hb [hostL,unkL] [hostF,teF [103,122,105,112]] _ t0 [] 16 f0 g0 (by decide) (by decide) (by decide +kernel) (by decide);rw [List.nil_append] at g1;have e1:find [hostF,teF [103,122,105,112]] Frm.hostN= [ba [97]]:=by decide +kernel
 have e2:find [hostF,teF [103,122,105,112]] Frm.teN= [ba [103,122,105,112]]:=by decide +kernel
 have e3:find [hostF,teF [103,122,105,112]] Frm.clN= []:=by decide +kernel
 refine head_last hp hb f1 g1 (by decide) ?_ ?_
 ·rw [decide_of e1 e2 e3,cl_zero];dsimp only;have:∀ch:Bool,Frm.hostsV false false 1 [ba [97]]=0∧(Frm.winsV false false false false 1 1 0 (Frm.coding false false [ba [103,122,105,112]])).2≠0:=by decide +kernel
  rw [(this true).1];exact body_bad (this true).2
 ·rw [decide_of e1 e2 e3];unfold Frm.clOf;dsimp only;have kh:∀nh mh:Bool,Frm.hostsV nh mh 1 [ba [97]]=0:=by decide +kernel
  have kc:∀tb tl:Bool,Frm.coding tb tl [ba [103,122,105,112]]=false:=by decide +kernel
  have kw:∀td tw lw:Bool,Frm.winsV td true tw lw 1 1 0 false=(false,0):=by decide +kernel
  rw [h,kh,kc,len_none];show (Frm.bodyV 0 b.ch (Frm.winsV _ _ _ _ 1 1 0 false) _).2.2=0;rw [kw];exact body_len rfl
theorem last_21 (hp:p<1073741824) (hb:b.right=true) (h:Qk.has p 21=true) (hch:b.ch=true):Lasts p b (((topL ++ [13,10])++linesL [hostL,chkL,nobL])++([] ++ [13])) 10:=by
 have hx:=Bd.edges hb;obtain ⟨t0,f0,g0⟩:=top_start hb
 obtain ⟨t,f1,g1⟩:=hd_lines hb [hostL,chkL,nobL] [hostF,teF [99,104,117,110,107,101,100],clF [48]] _ t0 [] 16 f0 g0 (by decide) (by decide) (by decide +kernel) (by decide);rw [List.nil_append] at g1;have e1:find [hostF,teF [99,104,117,110,107,101,100],clF [48]] Frm.hostN= [ba [97]]:=by decide +kernel
 have e2:find [hostF,teF [99,104,117,110,107,101,100],clF [48]] Frm.teN= [ba [99,104,117,110,107,101,100]]:=by decide +kernel
 have e3:find [hostF,teF [99,104,117,110,107,101,100],clF [48]] Frm.clN= [ba [48]]:=by decide +kernel
 refine head_last hp hb f1 g1 (by decide) ?_ ?_
 ·rw [decide_of e1 e2 e3,cl_zero];dsimp only;have:∀ch:Bool,Frm.hostsV false false 1 [ba [97]]=0∧(Frm.winsV false false false false 1 1 1 (Frm.coding false false [ba [99,104,117,110,107,101,100]])).2≠0:=by decide +kernel
  rw [(this true).1];exact body_bad (this true).2
 ·rw [decide_of e1 e2 e3];unfold Frm.clOf;dsimp only;have kh:∀nh mh:Bool,Frm.hostsV nh mh 1 [ba [97]]=0:=by decide +kernel
  have kc:∀tb tl:Bool,Frm.coding tb tl [ba [99,104,117,110,107,101,100]]=true:=by decide +kernel
  have kw:∀td ti lw:Bool,Frm.winsV td ti true lw 1 1 1 true=(true,0):=by decide +kernel
  rw [h,kh,kc,hch];show (Frm.bodyV 0 true (Frm.winsV _ _ _ _ 1 1 1 true) _).2.2=0;rw [kw];rfl
theorem last_22 (hp:p<1073741824) (hb:b.right=true) (h:Qk.has p 22=true) (h21:Qk.has p 21=false):Lasts p b (((topL ++ [13,10])++linesL [hostL,chkL,nobL])++([] ++ [13])) 10:=by
 have hx:=Bd.edges hb;obtain ⟨t0,f0,g0⟩:=top_start hb
 obtain ⟨t,f1,g1⟩:=hd_lines hb [hostL,chkL,nobL] [hostF,teF [99,104,117,110,107,101,100],clF [48]] _ t0 [] 16 f0 g0 (by decide) (by decide) (by decide +kernel) (by decide);rw [List.nil_append] at g1;have e1:find [hostF,teF [99,104,117,110,107,101,100],clF [48]] Frm.hostN= [ba [97]]:=by decide +kernel
 have e2:find [hostF,teF [99,104,117,110,107,101,100],clF [48]] Frm.teN= [ba [99,104,117,110,107,101,100]]:=by decide +kernel
 have e3:find [hostF,teF [99,104,117,110,107,101,100],clF [48]] Frm.clN= [ba [48]]:=by decide +kernel
 refine head_last hp hb f1 g1 (by decide) ?_ ?_
 ·rw [decide_of e1 e2 e3,cl_zero];dsimp only;have:∀ch:Bool,Frm.hostsV false false 1 [ba [97]]=0∧(Frm.winsV false false false false 1 1 1 (Frm.coding false false [ba [99,104,117,110,107,101,100]])).2≠0:=by decide +kernel
  rw [(this true).1];exact body_bad (this true).2
 ·rw [decide_of e1 e2 e3];unfold Frm.clOf;dsimp only;have kh:∀nh mh:Bool,Frm.hostsV nh mh 1 [ba [97]]=0:=by decide +kernel
  have kc:∀tb tl:Bool,Frm.coding tb tl [ba [99,104,117,110,107,101,100]]=true:=by decide +kernel
  have kw:∀td ti:Bool,Frm.winsV td ti false true 1 1 1 true=(false,0):=by decide +kernel
  have kl:∀lp lc lf ll:Bool,(Frm.lengthV lp lc lf ll b.x3 [ba [48]]).2=0:=by
   intro lp lc lf ll;have kk:∀lp lc lf ll:Bool,∃c v,Frm.counts lc lf ll (if lc=true then list [ba [48]] else [ba [48]])=some v∧(Frm.unplus lp v).data.toList= [c]∧Num.digitOf 10 c=true∧(0≤Num.dig c∧Num.dig c≤1):=by intro lp lc lf ll;refine ⟨48,ba [48],?_⟩;revert lp lc lf ll;decide +kernel
   obtain ⟨c,v,h1,h2,h3,h4⟩:=kk lp lc lf ll;rw [len_of (by simp) h1 h2 h3 h4 (by omega)]
  rw [h,h21,kh,kc];show (Frm.bodyV 0 b.ch (Frm.winsV _ _ _ _ 1 1 1 true) _).2.2=0;rw [kw]
  exact body_len (kl _ _ _ _)
theorem last_23 (hp:p<1073741824) (hb:b.right=true) (h:Qk.has p 23=true):Lasts p b (((topL ++ [13,10])++linesL [hostL,[67,111,110,116,101,110,116,45,76,101,110,103,116,104,58,32,43,48]])++([] ++ [13])) 10:=by
 have hx:=Bd.edges hb;obtain ⟨t0,f0,g0⟩:=top_start hb
 obtain ⟨t,f1,g1⟩:=hd_lines hb [hostL,[67,111,110,116,101,110,116,45,76,101,110,103,116,104,58,32,43,48]] [hostF,clF [43,48]] _ t0 [] 16 f0 g0 (by decide) (by decide) (by decide +kernel) (by decide);rw [List.nil_append] at g1;have e1:find [hostF,clF [43,48]] Frm.hostN= [ba [97]]:=by decide +kernel
 have e2:find [hostF,clF [43,48]] Frm.teN= []:=by decide +kernel
 have e3:find [hostF,clF [43,48]] Frm.clN= [ba [43,48]]:=by decide +kernel
 refine head_last hp hb f1 g1 (by decide) ?_ ?_
 ·rw [decide_of e1 e2 e3,cl_zero];dsimp only;have h1:Frm.hostsV false false 1 [ba [97]]=0∧Frm.winsV false false false false 1 0 1 (Frm.coding false false [])=(false,0):=by decide +kernel
  rw [h1.1];show (Frm.bodyV 0 b.ch (Frm.winsV _ _ _ _ 1 0 1 _) _).2.2≠0;rw [h1.2];have kl:Frm.lengthV false false false false b.x3 [ba [43,48]]=(0,400):=by
   have kr:∀most,Num.readOf 10 most [43,48]=(0,22):=fun most=>by unfold Num.readOf;rw [if_pos (by decide +kernel)]
   unfold Frm.lengthV;rw [if_neg (by simp),show Frm.counts false false false (if false=true then list [ba [43,48]] else [ba [43,48]])=some (ba [43,48]) by decide +kernel];dsimp only;rw [show (Frm.unplus false (ba [43,48])).data.toList= [43,48] by decide +kernel,kr];rfl
  rw [kl];show (400:Int)≠0;decide
 ·rw [decide_of e1 e2 e3];unfold Frm.clOf;dsimp only;have kh:∀nh mh:Bool,Frm.hostsV nh mh 1 [ba [97]]=0:=by decide +kernel
  have kw:∀td ti tw lw cod:Bool,Frm.winsV td ti tw lw 1 0 1 cod=(false,0):=by decide +kernel
  have kl:∀lc lf ll:Bool,(Frm.lengthV true lc lf ll b.x3 [ba [43,48]]).2=0:=by
   intro lc lf ll;have kk:∀lc lf ll:Bool,∃c v,Frm.counts lc lf ll (if lc=true then list [ba [43,48]] else [ba [43,48]])=some v∧(Frm.unplus true v).data.toList= [c]∧Num.digitOf 10 c=true∧(0≤Num.dig c∧Num.dig c≤1):=by intro lc lf ll;refine ⟨48,ba [43,48],?_⟩;revert lc lf ll;decide +kernel
   obtain ⟨c,v,h1,h2,h3,h4⟩:=kk lc lf ll;rw [len_of (by simp) h1 h2 h3 h4 (by omega)]
  rw [h,kh];show (Frm.bodyV 0 b.ch (Frm.winsV _ _ _ _ 1 0 1 _) _).2.2=0;rw [kw]
  exact body_len (kl _ _ _)
theorem last_24 (hp:p<1073741824) (hb:b.right=true) (h:Qk.has p 24=true):Lasts p b (((topL ++ [13,10])++linesL [hostL,[67,111,110,116,101,110,116,45,76,101,110,103,116,104,58,32,48,44,32,48]])++([] ++ [13])) 10:=by
 have hx:=Bd.edges hb;obtain ⟨t0,f0,g0⟩:=top_start hb
 obtain ⟨t,f1,g1⟩:=hd_lines hb [hostL,[67,111,110,116,101,110,116,45,76,101,110,103,116,104,58,32,48,44,32,48]] [hostF,clF [48,44,32,48]] _ t0 [] 16 f0 g0 (by decide) (by decide) (by decide +kernel) (by decide);rw [List.nil_append] at g1;have e1:find [hostF,clF [48,44,32,48]] Frm.hostN= [ba [97]]:=by decide +kernel
 have e2:find [hostF,clF [48,44,32,48]] Frm.teN= []:=by decide +kernel
 have e3:find [hostF,clF [48,44,32,48]] Frm.clN= [ba [48,44,32,48]]:=by decide +kernel
 refine head_last hp hb f1 g1 (by decide) ?_ ?_
 ·rw [decide_of e1 e2 e3,cl_zero];dsimp only;have h1:Frm.hostsV false false 1 [ba [97]]=0∧Frm.winsV false false false false 1 0 1 (Frm.coding false false [])=(false,0):=by decide +kernel
  rw [h1.1];show (Frm.bodyV 0 b.ch (Frm.winsV _ _ _ _ 1 0 1 _) _).2.2≠0;rw [h1.2];have kl:Frm.lengthV false false false false b.x3 [ba [48,44,32,48]]=(0,400):=by
   have kr:∀most,Num.readOf 10 most [48,44,32,48]=(0,22):=fun most=>by unfold Num.readOf;rw [if_pos (by decide +kernel)]
   unfold Frm.lengthV;rw [if_neg (by simp),show Frm.counts false false false (if false=true then list [ba [48,44,32,48]] else [ba [48,44,32,48]])=some (ba [48,44,32,48]) by decide +kernel];dsimp only;rw [show (Frm.unplus false (ba [48,44,32,48])).data.toList= [48,44,32,48] by decide +kernel,kr];rfl
  rw [kl];show (400:Int)≠0;decide
 ·rw [decide_of e1 e2 e3];unfold Frm.clOf;dsimp only;have kh:∀nh mh:Bool,Frm.hostsV nh mh 1 [ba [97]]=0:=by decide +kernel
  have kw:∀td ti tw lw cod:Bool,Frm.winsV td ti tw lw 1 0 1 cod=(false,0):=by decide +kernel
  have kl:∀lp lf ll:Bool,(Frm.lengthV lp true lf ll b.x3 [ba [48,44,32,48]]).2=0:=by
   intro lp lf ll;have kk:∀lp lf ll:Bool,∃c v,Frm.counts true lf ll (if true=true then list [ba [48,44,32,48]] else [ba [48,44,32,48]])=some v∧(Frm.unplus lp v).data.toList= [c]∧Num.digitOf 10 c=true∧(0≤Num.dig c∧Num.dig c≤1):=by intro lp lf ll;refine ⟨48,ba [48],?_⟩;revert lp lf ll;decide +kernel
   obtain ⟨c,v,h1,h2,h3,h4⟩:=kk lp lf ll;rw [len_of (by simp) h1 h2 h3 h4 (by omega)]
  rw [h,kh];show (Frm.bodyV 0 b.ch (Frm.winsV _ _ _ _ 1 0 1 _) _).2.2=0;rw [kw]
  exact body_len (kl _ _ _)
theorem last_25 (hp:p<1073741824) (hb:b.right=true) (h:Qk.has p 25=true):Lasts p b (((topL ++ [13,10])++linesL [hostL,nobL,oneL])++([] ++ [13])) 10:=by
 have hx:=Bd.edges hb;obtain ⟨t0,f0,g0⟩:=top_start hb
 obtain ⟨t,f1,g1⟩:=hd_lines hb [hostL,nobL,oneL] [hostF,clF [48],clF [49]] _ t0 [] 16 f0 g0 (by decide) (by decide) (by decide +kernel) (by decide);rw [List.nil_append] at g1;have e1:find [hostF,clF [48],clF [49]] Frm.hostN= [ba [97]]:=by decide +kernel
 have e2:find [hostF,clF [48],clF [49]] Frm.teN= []:=by decide +kernel
 have e3:find [hostF,clF [48],clF [49]] Frm.clN= [ba [48],ba [49]]:=by decide +kernel
 refine head_last hp hb f1 g1 (by decide) ?_ ?_
 ·rw [decide_of e1 e2 e3,cl_zero];dsimp only;have h1:Frm.hostsV false false 1 [ba [97]]=0∧Frm.winsV false false false false 1 0 2 (Frm.coding false false [])=(false,0):=by decide +kernel
  rw [h1.1];show (Frm.bodyV 0 b.ch (Frm.winsV _ _ _ _ 1 0 2 _) _).2.2≠0;rw [h1.2];have kl:Frm.lengthV false false false false b.x3 [ba [48],ba [49]]=(0,400):=by unfold Frm.lengthV;rw [if_neg (by simp),show Frm.counts false false false (if false=true then list [ba [48],ba [49]] else [ba [48],ba [49]])=none by decide +kernel]
  rw [kl];show (400:Int)≠0;decide
 ·rw [decide_of e1 e2 e3];unfold Frm.clOf;dsimp only;have kh:∀nh mh:Bool,Frm.hostsV nh mh 1 [ba [97]]=0:=by decide +kernel
  have kw:∀td ti tw lw cod:Bool,Frm.winsV td ti tw lw 1 0 2 cod=(false,0):=by decide +kernel
  have kl:∀lp lc ll:Bool,(Frm.lengthV lp lc true ll b.x3 [ba [48],ba [49]]).2=0:=by
   intro lp lc ll;have kk:∀lp lc ll:Bool,∃c v,Frm.counts lc true ll (if lc=true then list [ba [48],ba [49]] else [ba [48],ba [49]])=some v∧(Frm.unplus lp v).data.toList= [c]∧Num.digitOf 10 c=true∧(0≤Num.dig c∧Num.dig c≤1):=by intro lp lc ll;refine ⟨48,ba [48],?_⟩;revert lp lc ll;decide +kernel
   obtain ⟨c,v,h1,h2,h3,h4⟩:=kk lp lc ll;rw [len_of (by simp) h1 h2 h3 h4 (by omega)]
  rw [h,kh];show (Frm.bodyV 0 b.ch (Frm.winsV _ _ _ _ 1 0 2 _) _).2.2=0;rw [kw]
  exact body_len (kl _ _ _)
theorem last_26 (hp:p<1073741824) (hb:b.right=true) (h:Qk.has p 26=true) (h25:Qk.has p 25=false):Lasts p b (((topL ++ [13,10])++linesL [hostL,nobL,oneL])++([] ++ [13])) 10:=by
 have hx:=Bd.edges hb;obtain ⟨t0,f0,g0⟩:=top_start hb
 obtain ⟨t,f1,g1⟩:=hd_lines hb [hostL,nobL,oneL] [hostF,clF [48],clF [49]] _ t0 [] 16 f0 g0 (by decide) (by decide) (by decide +kernel) (by decide);rw [List.nil_append] at g1;have e1:find [hostF,clF [48],clF [49]] Frm.hostN= [ba [97]]:=by decide +kernel
 have e2:find [hostF,clF [48],clF [49]] Frm.teN= []:=by decide +kernel
 have e3:find [hostF,clF [48],clF [49]] Frm.clN= [ba [48],ba [49]]:=by decide +kernel
 refine head_last hp hb f1 g1 (by decide) ?_ ?_
 ·rw [decide_of e1 e2 e3,cl_zero];dsimp only;have h1:Frm.hostsV false false 1 [ba [97]]=0∧Frm.winsV false false false false 1 0 2 (Frm.coding false false [])=(false,0):=by decide +kernel
  rw [h1.1];show (Frm.bodyV 0 b.ch (Frm.winsV _ _ _ _ 1 0 2 _) _).2.2≠0;rw [h1.2];have kl:Frm.lengthV false false false false b.x3 [ba [48],ba [49]]=(0,400):=by unfold Frm.lengthV;rw [if_neg (by simp),show Frm.counts false false false (if false=true then list [ba [48],ba [49]] else [ba [48],ba [49]])=none by decide +kernel]
  rw [kl];show (400:Int)≠0;decide
 ·rw [decide_of e1 e2 e3];unfold Frm.clOf;dsimp only;have kh:∀nh mh:Bool,Frm.hostsV nh mh 1 [ba [97]]=0:=by decide +kernel
  have kw:∀td ti tw lw cod:Bool,Frm.winsV td ti tw lw 1 0 2 cod=(false,0):=by decide +kernel
  have kl:∀lp lc:Bool,(Frm.lengthV lp lc false true b.x3 [ba [48],ba [49]]).2=0:=by
   intro lp lc;have kk:∀lp lc:Bool,∃c v,Frm.counts lc false true (if lc=true then list [ba [48],ba [49]] else [ba [48],ba [49]])=some v∧(Frm.unplus lp v).data.toList= [c]∧Num.digitOf 10 c=true∧(0≤Num.dig c∧Num.dig c≤1):=by intro lp lc;refine ⟨49,ba [49],?_⟩;revert lp lc;decide +kernel
   obtain ⟨c,v,h1,h2,h3,h4⟩:=kk lp lc;rw [len_of (by simp) h1 h2 h3 h4 (by omega)]
  rw [h,h25,kh];show (Frm.bodyV 0 b.ch (Frm.winsV _ _ _ _ 1 0 2 _) _).2.2=0;rw [kw]
  exact body_len (kl _ _)
theorem last_20a (hp:p<1073741824) (hb:b.right=true) (ho:b.od=true) (h:Qk.has p 20=true) (hch:b.ch=true):Lasts p b (((oldL ++ [13,10])++linesL [chkL])++([] ++ [13])) 10:=by
 have hx:=Bd.edges hb;obtain ⟨t0,f0,g0⟩:=old_start hb ho
 obtain ⟨t,f1,g1⟩:=hd_lines hb [chkL] [teF [99,104,117,110,107,101,100]] _ t0 [] 16 f0 g0 (by decide) (by decide) (by decide +kernel) (by decide);rw [List.nil_append] at g1;have e1:find [teF [99,104,117,110,107,101,100]] Frm.hostN= []:=by decide +kernel
 have e2:find [teF [99,104,117,110,107,101,100]] Frm.teN= [ba [99,104,117,110,107,101,100]]:=by decide +kernel
 have e3:find [teF [99,104,117,110,107,101,100]] Frm.clN= []:=by decide +kernel
 refine head_last hp hb f1 g1 (by decide) ?_ ?_
 ·rw [decide_of e1 e2 e3,cl_zero];dsimp only;have:∀ch:Bool,Frm.hostsV false false 0 []=0∧(Frm.winsV false false false false 0 1 0 (Frm.coding false false [ba [99,104,117,110,107,101,100]])).2≠0:=by decide +kernel
  rw [(this true).1];exact body_bad (this true).2
 ·rw [decide_of e1 e2 e3];unfold Frm.clOf;dsimp only;have kh:∀nh mh:Bool,Frm.hostsV nh mh 0 []=0:=by decide +kernel
  have kc:∀tb tl:Bool,Frm.coding tb tl [ba [99,104,117,110,107,101,100]]=true:=by decide +kernel
  have kw:∀ti tw lw:Bool,Frm.winsV true ti tw lw 0 1 0 true=(true,0):=by decide +kernel
  rw [h,kh,kc,hch];show (Frm.bodyV 0 true (Frm.winsV _ _ _ _ 0 1 0 true) _).2.2=0;rw [kw];rfl
theorem last_20b (hp:p<1073741824) (hb:b.right=true) (ho:b.od=true) (h:Qk.has p 20=true) (h19:Qk.has p 19=true):Lasts p b (((oldL ++ [13,10])++linesL [unkL])++([] ++ [13])) 10:=by
 have hx:=Bd.edges hb;obtain ⟨t0,f0,g0⟩:=old_start hb ho
 obtain ⟨t,f1,g1⟩:=hd_lines hb [unkL] [teF [103,122,105,112]] _ t0 [] 16 f0 g0 (by decide) (by decide) (by decide +kernel) (by decide);rw [List.nil_append] at g1;have e1:find [teF [103,122,105,112]] Frm.hostN= []:=by decide +kernel
 have e2:find [teF [103,122,105,112]] Frm.teN= [ba [103,122,105,112]]:=by decide +kernel
 have e3:find [teF [103,122,105,112]] Frm.clN= []:=by decide +kernel
 refine head_last hp hb f1 g1 (by decide) ?_ ?_
 ·rw [decide_of e1 e2 e3,cl_zero];dsimp only;have:∀ch:Bool,Frm.hostsV false false 0 []=0∧(Frm.winsV false false false false 0 1 0 (Frm.coding false false [ba [103,122,105,112]])).2≠0:=by decide +kernel
  rw [(this true).1];exact body_bad (this true).2
 ·rw [decide_of e1 e2 e3];unfold Frm.clOf;dsimp only;have kh:∀nh mh:Bool,Frm.hostsV nh mh 0 []=0:=by decide +kernel
  have kc:∀tb tl:Bool,Frm.coding tb tl [ba [103,122,105,112]]=false:=by decide +kernel
  have kw:∀tw lw:Bool,Frm.winsV true true tw lw 0 1 0 false=(false,0):=by decide +kernel
  rw [h,h19,kh,kc,len_none];show (Frm.bodyV 0 b.ch (Frm.winsV _ _ _ _ 0 1 0 false) _).2.2=0;rw [kw];exact body_len rfl
theorem last_20c (hp:p<1073741824) (hb:b.right=true) (ho:b.od=true) (h:Qk.has p 20=true) (h22:Qk.has p 22=true) (h21:Qk.has p 21=false):Lasts p b (((oldL ++ [13,10])++linesL [chkL,nobL])++([] ++ [13])) 10:=by
 have hx:=Bd.edges hb;obtain ⟨t0,f0,g0⟩:=old_start hb ho
 obtain ⟨t,f1,g1⟩:=hd_lines hb [chkL,nobL] [teF [99,104,117,110,107,101,100],clF [48]] _ t0 [] 16 f0 g0 (by decide) (by decide) (by decide +kernel) (by decide);rw [List.nil_append] at g1;have e1:find [teF [99,104,117,110,107,101,100],clF [48]] Frm.hostN= []:=by decide +kernel
 have e2:find [teF [99,104,117,110,107,101,100],clF [48]] Frm.teN= [ba [99,104,117,110,107,101,100]]:=by decide +kernel
 have e3:find [teF [99,104,117,110,107,101,100],clF [48]] Frm.clN= [ba [48]]:=by decide +kernel
 refine head_last hp hb f1 g1 (by decide) ?_ ?_
 ·rw [decide_of e1 e2 e3,cl_zero];dsimp only;have:∀ch:Bool,Frm.hostsV false false 0 []=0∧(Frm.winsV false false false false 0 1 1 (Frm.coding false false [ba [99,104,117,110,107,101,100]])).2≠0:=by decide +kernel
  rw [(this true).1];exact body_bad (this true).2
 ·rw [decide_of e1 e2 e3];unfold Frm.clOf;dsimp only;have kh:∀nh mh:Bool,Frm.hostsV nh mh 0 []=0:=by decide +kernel
  have kc:∀tb tl:Bool,Frm.coding tb tl [ba [99,104,117,110,107,101,100]]=true:=by decide +kernel
  have kw:∀ti:Bool,Frm.winsV true ti false true 0 1 1 true=(false,0):=by decide +kernel
  have kl:∀lp lc lf ll:Bool,(Frm.lengthV lp lc lf ll b.x3 [ba [48]]).2=0:=by
   intro lp lc lf ll;have kk:∀lp lc lf ll:Bool,∃c v,Frm.counts lc lf ll (if lc=true then list [ba [48]] else [ba [48]])=some v∧(Frm.unplus lp v).data.toList= [c]∧Num.digitOf 10 c=true∧(0≤Num.dig c∧Num.dig c≤1):=by intro lp lc lf ll;refine ⟨48,ba [48],?_⟩;revert lp lc lf ll;decide +kernel
   obtain ⟨c,v,h1,h2,h3,h4⟩:=kk lp lc lf ll;rw [len_of (by simp) h1 h2 h3 h4 (by omega)]
  rw [h,h22,h21,kh,kc];show (Frm.bodyV 0 b.ch (Frm.winsV _ _ _ _ 0 1 1 true) _).2.2=0;rw [kw]
  exact body_len (kl _ _ _ _)
end
end Go.Proofs.YtimoakmcelocfaaGreat.Wit
namespace Go.Proofs.YtimoakmcelocfaaGreat.Wit
open Go.RowKit Base Txt Par Pg Flt
section
variable {p:Nat} {b:Bd} {t:T} {l s:List UInt8}
structure Ck (b:Bd) (t:T):Prop where
 st:t.st=4
 pend:t.rd.pend=false
 nf:Ln.failed t.rd.last=false
 buf:t.rd.clear.buf= []
 most:t.rd.most=Ln.mid b.x0
 ch:t.r.ch=true
 body:t.r.body= []
 out:t.out= []
theorem Ck.open (h:Ck b t):t.Open:=⟨by rw [h.st];rfl,h.pend,h.nf⟩
theorem Ck.room (h:Ck b t) (n:Nat):t.room b n:=fun hh=>by rw [h.st] at hh;cases hh
def ckL:List UInt8:=(((topL ++ [13,10])++linesL [hostL,chkL]) ++ [13,10])
theorem ck_start (hb:b.right=true) (hch:b.ch=true):∃t',(Q.live (T.new 0 b)).feed 0 b ckL=.live t'∧Ck b t':=by
 obtain ⟨t0,f0,g0⟩:=top_start hb
 obtain ⟨t,f1,g1⟩:=hd_lines hb [hostL,chkL] [hostF,teF [99,104,117,110,107,101,100]] _ t0 [] 16 f0 g0 (by decide) (by decide) (by decide +kernel) (by decide);rw [List.nil_append] at g1;have hx:=Bd.edges hb
 have e:=feed_line (p:=0) (b:=b) (t:=t) [] g1.open g1.buf (by intro c hc;cases hc) (Nat.zero_le _) (by intro _;rw [g1.size];show ((16+37+2:Nat):Int)≤b.x2;omega);have hd:Frm.decideV (Frm.clOf 0) true b.x3 1 [hostF,teF [99,104,117,110,107,101,100]]=(2,0,0):=by rw [decide_of (H:= [ba [97]]) (TE:= [ba [99,104,117,110,107,101,100]]) (CL:= []) (by decide +kernel) (by decide +kernel) (by decide +kernel),cl_zero];dsimp only;rw [len_none];decide +kernel
 obtain ⟨u,hu⟩:∃u,t.went {t.rd with buf:= [],last:=1,pend:=false} (([]:List UInt8).length+2)=u:=⟨_,rfl⟩;have hl:T.line 0 b u []=(0,{u with r:={u.r with ch:=true},st:=4}):=by refine (line_two (show u.st=2 by rw [←hu];exact g1.st)).trans ?_;unfold T.fields;rw [if_pos rfl];unfold T.endHead;rw [hch,show u.r=hdR 1 [hostF,teF [99,104,117,110,107,101,100]] by rw [←hu];exact g1.r];rw [show (hdR 1 [hostF,teF [99,104,117,110,107,101,100]]).k=1 from rfl,show (hdR 1 [hostF,teF [99,104,117,110,107,101,100]]).fs= [hostF,teF [99,104,117,110,107,101,100]] from rfl,hd];rfl
 refine ⟨{u with r:={u.r with ch:=true},st:=4},?_,?_⟩
 ·unfold ckL;rw [feed_app,f1];rw [hu,hl] at e;exact e
 ·rw [←hu];refine ⟨rfl,rfl,rfl,rfl,g1.most,rfl,?_,g1.out⟩;show t.r.body= [];rw [g1.r]
theorem size_err (t:T) (h:t.st=4):(T.line p b t s).1=(T.chunk p b t s).1:=by unfold T.line;rw [if_neg (by rw [h];decide),if_neg (by rw [h];decide),if_pos h]
theorem chunk_bad (t:T) {z:Int × Int} (hz:Chk.sizeV (Qk.has p 27) (Qk.has p 28) b.x4 b.x3 s=z) (h:0<z.2):(T.chunk p b t s).1≠0:=by unfold T.chunk;rw [hz];dsimp only;rw [if_pos (by omega)];show z.2.toNat≠0;omega
theorem chunk_one (t:T) (hb:b.right=true) (hz:Chk.sizeV (Qk.has p 27) (Qk.has p 28) b.x4 b.x3 s=(1,0)) (h:t.r.body= []):T.chunk p b t s=(0,{t with left:=1,st:=5}):=by have hx:=Bd.edges hb;unfold T.chunk;rw [hz,h];dsimp only;rw [if_neg (by decide),if_neg (by decide),if_neg (by show¬b.x3-((0:Nat):Int)<1;omega)];rfl
theorem size_no {hex bl:Bool} {ext body:Int} (h1:(Chk.extL s).isEmpty=true) (h2:(Chk.sizeL hex bl s).all (Num.digitOf 16)=false):Chk.sizeV hex bl ext body s=(0,400):=by unfold Chk.sizeV;rw [if_pos (by unfold Chk.isx;rw [h1];rfl)];unfold Num.readOf;rw [h2,if_pos (by simp)];rfl
theorem size_one {hex bl:Bool} {ext body:Int} (hm:16≤body) (h1:(Chk.extL s).isEmpty=true) (h2:Chk.sizeL hex bl s= [49]):Chk.sizeV hex bl ext body s=(1,0):=by unfold Chk.sizeV;rw [if_pos (by unfold Chk.isx;rw [h1];rfl),h2,digit_read 49 (by decide) (by decide) (by decide) hm];rfl
theorem ck_last (hp:p<1073741824) (hb:b.right=true) (hch:b.ch=true) (hc:s.all (fun c=>!(c==10) && !(c==13))=true) (hs:s.length≤60)
 (h1:(Chk.extL s).isEmpty=true) (bad:(Chk.sizeL false false s).all (Num.digitOf 16)=false) (good:Chk.sizeL (Qk.has p 27) (Qk.has p 28) s= [49]):Lasts p b (ckL++(s ++ [13])) 10:=by
 have hx:=Bd.edges hb;have hm:=mid_least hb;obtain ⟨t,f,g⟩:=ck_start hb hch;refine last_line hp hb f g.out g.open g.buf hc (by rw [g.most];omega) (g.room _) ?_ ?_
 ·intro t' e1 e2 _;rw [size_err t' (e1.trans g.st)]
  exact chunk_bad (z:=(0,400)) t' (by rw [none0,none0];exact size_no h1 bad) (by decide)
 ·intro t' e1 e2 _;rw [size_err t' (e1.trans g.st),chunk_one t' hb (size_one (by omega) h1 good) (by rw [e2,g.body])]
theorem last_27 (hp:p<1073741824) (hb:b.right=true) (h:Qk.has p 27=true) (hch:b.ch=true):Lasts p b (ckL++([48,120,49] ++ [13])) 10:=by
 have k:∀bl:Bool,Chk.sizeL true bl [48,120,49]= [49]:=by decide +kernel
 exact ck_last hp hb hch (by decide) (by decide) (by decide +kernel) (by decide +kernel) (by rw [h];exact k _)
theorem last_28 (hp:p<1073741824) (hb:b.right=true) (h:Qk.has p 28=true) (hch:b.ch=true):Lasts p b (ckL++([32,49] ++ [13])) 10:=by
 have k:∀hex:Bool,Chk.sizeL hex true [32,49]= [49]:=by decide +kernel
 exact ck_last hp hb hch (by decide) (by decide) (by decide +kernel) (by decide +kernel) (by rw [h];exact k _)
theorem last_29 (hp:p<1073741824) (hb:b.right=true) (h:Qk.has p 29=true) (hch:b.ch=true):Lasts p b (ckL++([49] ++ [13,10]) ++ [97]) 48:=by
 have hx:=Bd.edges hb;have hm:=mid_least hb;obtain ⟨t,f,g⟩:=ck_start hb hch
 have e:=feed_line (p:=0) (b:=b) (t:=t) [49] g.open g.buf (plainL (by decide)) (by rw [g.most];show 1≤_;omega) (g.room _);obtain ⟨u,hu⟩:∃u,t.went {t.rd with buf:= [49],last:=1,pend:=false} (([49]:List UInt8).length+2)=u:=⟨_,rfl⟩;have hl:T.line 0 b u [49]=(0,{u with left:=1,st:=5}):=by
  unfold T.line;have hst:u.st=4:=by rw [←hu];exact g.st
  rw [if_neg (by rw [hst];decide),if_neg (by rw [hst];decide),if_pos hst]
  exact chunk_one u hb (by rw [none0,none0];exact size_one (by omega) (by decide +kernel) (by decide +kernel)) (by rw [←hu];exact g.body)
 rw [hu,hl] at e;have e2:(Q.live (T.new 0 b)).feed 0 b (ckL++([49] ++ [13,10]))=.live {u with left:=1,st:=5}:=by rw [feed_app,f];exact e
 obtain ⟨v,hv⟩:∃v,({u with left:=1,st:=5,cnt:=false,r:={u.r with body:=u.r.body ++ [97]}}:T)=v:=⟨_,rfl⟩;have hvc:v.r.ch=true:=by rw [←hv,←hu];exact g.ch
 have hvo:v.out= []:=by rw [←hv,←hu];exact g.out
 have e3:T.take 0 b {u with left:=1,st:=5} 97=.live (({v with left:=0}:T).enter 0 6 0):=by
  rw [take_body (by rfl) 97,if_pos rfl]
  congr 1
  unfold T.endData;rw [if_pos (show (T.keep {u with left:=1,st:=5,cnt:=false} 97).r.ch=true by rw [←hu];exact g.ch),←hv];rfl
 have e4:(Q.live (T.new 0 b)).feed 0 b (ckL++([49] ++ [13,10]) ++ [97])=.live (({v with left:=0}:T).enter 0 6 0):=by rw [feed_app,e2,feed_cons,feed_nil];exact e3
 obtain ⟨x,hxx⟩:∃x,({v with left:=0}:T)=x:=⟨_,rfl⟩;rw [hxx] at e4;have hxo:x.out= []:=by rw [←hxx];exact hvo
 refine lasts_of hp hb (e:=400) (o:= []) e4 hxo (by decide) ?_ ?_
 ·rw [take_line (by rfl) 48 (fun hh=>by cases hh)];unfold T.inLine;have hn:Ln.M.next (Ln.M.clear (x.enter 0 6 0).rd) 48=4:=by
   show Ln.M.next (Ln.M.clear (Ln.M.of 0 0)) 48=4;rw [show Ln.M.of 0 0=⟨false,false,0,[],0,false⟩ by unfold Ln.M.of;rw [none0,none0];rfl];decide
  dsimp only;rw [show (x.enter 0 6 0).rd.clear.next 48=4 from hn,if_neg (by decide),if_neg (by decide),if_pos rfl,none0,Bool.and_false,if_neg (by decide)];show Q.dead 400 x.out= _;rw [hxo]
 ·have ew:(x.enter 0 6 0).wide p=x.enter p 6 0:=rfl;rw [ew,take_line (by rfl) 48 (fun hh=>by cases hh)];have hn:∀a c:Bool,Ln.M.next (Ln.M.clear ⟨a,c,0,[],0,false⟩) 48=4:=by decide
  have hm0:Ln.M.of p 0=⟨Qk.has p 1,Qk.has p 2,0,[],0,false⟩:=rfl;unfold T.inLine;dsimp only;rw [show (x.enter p 6 0).rd.clear.next 48=4 from hn _ _,if_neg (by decide),if_neg (by decide),if_pos rfl,h,if_pos (by rfl)];dsimp only;unfold T.look;rw [if_neg (by exact Bool.false_ne_true),if_neg (by exact Bool.false_ne_true)];unfold T.inLine;have hk:∀a c:Bool,Ln.M.next (Ln.M.clear ⟨a,c,Ln.mid b.x0,[],0,false⟩) 48=0:=by intro a c;unfold Ln.M.next Ln.M.clear;dsimp only;rw [if_neg (by decide),if_neg (by decide),if_neg (by decide),if_neg (by decide),if_neg (by show¬(0:Nat)= _;omega)]
  dsimp only;rw [show∀y:T,(y.enter p 4 b.x0).rd.clear.next 48=0 from fun y=>hk _ _,if_pos rfl];rfl
theorem top_plain (hb:b.right=true):∃t',(Q.live (T.new 0 b)).feed 0 b topL=.live t'∧t'.st=1∧t'.rd.buf=topL∧t'.rd.last=0∧t'.rd.pend=false∧t'.rd.lf=false∧t'.rd.cr=false∧t'.rd.most=Ln.mid b.x0∧t'.size=14∧t'.out= []∧t'.r=zero:=by
 have hm:=mid_least hb;have hx:=Bd.edges hb
 have e:=feed_plain (p:=0) (b:=b) topL (T.new 0 b) (by decide) ⟨rfl,rfl,rfl⟩ (plainL (by decide)) (by show 0+14≤Ln.mid b.x0;omega) (by intro _;show ((0+14:Nat):Int)≤b.x2;omega);exact ⟨_,e,rfl,rfl,rfl,rfl,none0 1,none0 2,rfl,rfl,rfl,rfl⟩
theorem top_any (q:Nat) (o:Bool):Rq.request (Rq.clOf q) o topL=([71,69,84],[47],1,0):=by
 have hq:∀o:Bool,Rq.request Rq.c0 o topL=([71,69,84],[47],1,0):=by decide +kernel
 exact (Rq.extends_all (hq o)).1 (Rq.clOf q)
theorem last_1 (hp:p<1073741824) (hb:b.right=true) (h:Qk.has p 1=true):Lasts p b topL 10:=by
 have hx:=Bd.edges hb;obtain ⟨t,f,h1,h2,h3,h4,h5,h6,h7,h8,h9,h10⟩:=top_plain hb;have hbd:Pg.bodied t.st=false:=by rw [h1];rfl
 have hr:t.room b 1:=fun _=>by rw [h8];show ((14+1:Nat):Int)≤b.x2;omega
 refine lasts_of hp hb (e:=400) (o:= []) f h9 (by decide) ?_ ?_
 ·rw [take_line hbd 10 hr];unfold T.inLine;dsimp only;have hn:t.rd.clear.next 10=3:=by
   rw [Ln.clear_of (by rw [h3];rfl)];unfold Ln.M.next;rw [h3,h4,h5];rfl
  rw [hn,if_neg (by decide),if_pos rfl,h9]
 ·rw [take_line (show Pg.bodied (t.wide p).st=false from hbd) 10 hr];unfold T.inLine;dsimp only
  have hc:(t.wide p).rd.clear=(t.wide p).rd:=Ln.clear_of (show Ln.ended t.rd.last=false by rw [h3];rfl);have hn:(t.wide p).rd.clear.next 10=1:=by rw [hc];unfold Ln.M.next;rw [show (t.wide p).rd.last=0 from h3,show (t.wide p).rd.pend=false from h4,show (t.wide p).rd.lf=true from h];rfl
  rw [hn,if_neg (by decide),if_neg (by decide),if_neg (by decide)];have hk:(t.wide p).rd.clear.keeps 10=false:=by rw [hc];unfold Ln.M.keeps;rw [show (t.wide p).rd.last=0 from h3,show (t.wide p).rd.pend=false from h4];rfl
  have hl:((t.wide p).rd.byte 10).line=topL:=by unfold Ln.M.byte Ln.M.told;rw [hn,hk,hc,if_neg (by decide),List.append_nil];exact h2
  rw [hl];have hz:∀y:T,y.st=1→(ends (y.line p b topL)).err=0:=by intro y hy;have:=first_err (p:=p) (b:=b) (s:=topL) y (by decide) hy;rw [top_any] at this;unfold ends;rw [if_pos this];rfl
  have hz':=hz {t.wide p with size:=if Pg.headed t.st=true then t.size+1 else t.size,cnt:=Pg.headed t.st,rd:=(t.wide p).rd.byte 10} h1;revert hz';show (ends _).err=0→_;intro hz';have:∀(x:Q),x.err=0→(match (x,!((1:Int)==2)) with |(.live t1,false)=>(t1.look p b 10).1 |(x,_)=>x).err=0:=by intro x hx;cases x<;>exact hx
  exact this _ hz'
theorem last_2 (hp:p<1073741824) (hb:b.right=true) (h:Qk.has p 2=true):Lasts p b (topL ++ [13]) 72:=by
 have hx:=Bd.edges hb;have hm:=mid_least hb;obtain ⟨t0,f,h1,h2,h3,h4,h5,h6,h7,h8,h9,h10⟩:=top_plain hb
 have e:=take_cr (p:=0) (b:=b) (t:=t0) ⟨by rw [h1];rfl,h4,by rw [h3];rfl⟩ (fun _=>by rw [h8];show ((14+1:Nat):Int)≤b.x2;omega)
 have hc0:t0.rd.clear=t0.rd:=Ln.clear_of (by rw [h3];rfl);rw [hc0] at e;obtain ⟨t,ht⟩:∃t,t0.went {t0.rd with buf:=t0.rd.buf,last:=0,pend:=true} 1=t:=⟨_,rfl⟩;rw [ht] at e;have f':(Q.live (T.new 0 b)).feed 0 b (topL ++ [13])=.live t:=by rw [feed_app,f,feed_cons,feed_nil];exact e
 have a1:t.st=1:=by rw [←ht];exact h1
 have a2:t.rd.buf=topL:=by rw [←ht];exact h2
 have a3:t.rd.last=0:=by rw [←ht];rfl
 have a4:t.rd.pend=true:=by rw [←ht];rfl
 have a5:t.rd.cr=false:=by rw [←ht];exact h6
 have a6:t.rd.most=Ln.mid b.x0:=by rw [←ht];exact h7
 have a7:t.size=15:=by rw [←ht];show (if Pg.headed t0.st=true then t0.size+1 else t0.size)=15;rw [h1,h8];rfl
 have a8:t.out= []:=by rw [←ht];exact h9
 have hbd:Pg.bodied t.st=false:=by rw [a1];rfl
 have hr:t.room b 1:=fun _=>by rw [a7];show ((15+1:Nat):Int)≤b.x2;omega
 refine lasts_of hp hb (e:=400) (o:= []) f' a8 (by decide) ?_ ?_
 ·rw [take_line hbd 72 hr];unfold T.inLine;dsimp only;have hn:t.rd.clear.next 72=3:=by
   rw [Ln.clear_of (by rw [a3];rfl)];unfold Ln.M.next;rw [a3,a4,a5];rfl
  rw [hn,if_neg (by decide),if_pos rfl,a8]
 ·rw [take_line (show Pg.bodied (t.wide p).st=false from hbd) 72 hr];unfold T.inLine;dsimp only
  have hc:(t.wide p).rd.clear=(t.wide p).rd:=Ln.clear_of (show Ln.ended t.rd.last=false by rw [a3];rfl);have hn:(t.wide p).rd.clear.next 72=2:=by rw [hc];unfold Ln.M.next;rw [show (t.wide p).rd.last=0 from a3,show (t.wide p).rd.pend=true from a4,show (t.wide p).rd.cr=true from h];rfl
  rw [hn,if_neg (by decide),if_neg (by decide),if_neg (by decide)];have hk:(t.wide p).rd.clear.keeps 72=false:=by rw [hc];unfold Ln.M.keeps;rw [show (t.wide p).rd.last=0 from a3,show (t.wide p).rd.pend=true from a4];rfl
  have hby:(t.wide p).rd.byte 72={(t.wide p).rd with last:=2,pend:=false}:=by unfold Ln.M.byte Ln.M.told;rw [hn,hk,hc,if_neg (by decide),List.append_nil];rfl
  have hl:((t.wide p).rd.byte 72).line=topL:=by rw [hby];exact a2
  rw [hl,hby];have hz:∀y:T,y.st=1→y.line p b topL=(0,{y with r:={y.r with m:=ba [71,69,84],x:=ba [47],k:=1},st:=2}):=by intro y hy;unfold T.line;rw [if_pos hy];unfold T.first;rw [if_neg (by decide),top_any];rfl
  have hz':=hz {t.wide p with size:=if Pg.headed t.st=true then t.size+1 else t.size,cnt:=Pg.headed t.st,rd:={(t.wide p).rd with last:=2,pend:=false}} a1;rw [show (if Pg.headed (t.wide p).st=true then (t.wide p).size+1 else (t.wide p).size)=(if Pg.headed t.st=true then t.size+1 else t.size) from rfl,show Pg.headed (t.wide p).st=Pg.headed t.st from rfl,hz'];show (T.look p b _ 72).1.err=0;unfold T.look;rw [if_neg (by exact Bool.false_ne_true),if_pos (by rfl)];unfold T.counted;have hcn:Pg.headed t.st=true:=by rw [a1];rfl
  rw [hcn];simp only [if_true];rw [if_neg (by rw [a7];show¬b.x2<((15+1:Nat):Int);omega)];unfold T.inLine;have hk2:∀a c:Bool,∀bf:List UInt8,Ln.M.next (Ln.M.clear ⟨a,c,Ln.mid b.x0,bf,2,false⟩) 72=0:=by intro a c bf;unfold Ln.M.next Ln.M.clear;dsimp only;rw [if_neg (by decide),if_neg (by decide),if_neg (by decide),if_neg (by decide),if_neg (by rw [show Ln.ended 2=true from rfl,if_pos rfl];show¬(0:Nat)= _;omega)]
  have hk3:Ln.M.next (Ln.M.clear {(t.wide p).rd with last:=2,pend:=false}) 72=0:=by
   have e5:({(t.wide p).rd with last:=2,pend:=false}:Ln.M)=⟨Qk.has p 1,Qk.has p 2,Ln.mid b.x0,t.rd.buf,2,false⟩:=by rw [←a6];rfl
   rw [e5];exact hk2 _ _ _
  dsimp only;rw [hk3,if_pos rfl];rfl
end
end Go.Proofs.YtimoakmcelocfaaGreat.Wit
