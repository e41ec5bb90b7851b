import Derived.Test.YtnabkcglnbdfeaaGreatDoorFet
namespace Go.Proofs.YtnabkcglnbdfeaaGreatDoor.Wit
open Go.RowKit Base Txt Par Pg Flt
def Lasts (p:Nat) (b:Bd) (l:List UInt8) (c:UInt8):Prop:=(F.feed p b (F.new p b) l).1.parted=false∧(F.feed p b (F.new p b) (l ++ [c])).1.parted=true
section
variable {p:Nat} {b:Bd} {t t2:T} {l s:List UInt8} {c:UInt8} {e:Nat} {o:List Rec.R}
abbrev none' (t:T):T:={t with out:= []}
theorem none_pre (t:T):(none' t).pre t.out=t:=by show ({t with out:=t.out ++ []}:T)=t;rw [List.append_nil]
theorem none_take (h:t.take p b c=.live t2):∃t3,(none' t).take p b c=.live t3∧none' t3=none' t2:=by
 have e1:=take_pre (p:=p) (b:=b) (t:=none' t) (o:=t.out) (c:=c);rw [none_pre,h] at e1;cases hq:(none' t).take p b c with
 | live t3=>
   rw [hq] at e1;have e2:t2=t3.pre t.out:=by cases e1;rfl
   exact ⟨t3,rfl,by rw [e2];rfl⟩
 | dead e o=>rw [hq] at e1;cases e1
theorem live_new (hb:b.right=true) (hp:p<1073741824):F.new p b=⟨.live (T.new 0 b),.live ((T.new 0 b).wide p),0,false⟩:=by
 have e:Q.new p b=.live (T.new p b):=if_pos (by rw [hb,decide_eq_true hp];rfl)
 have e0:Q.new 0 b=.live (T.new 0 b):=if_pos (by rw [hb];rfl);unfold F.new;rw [e,e0,(new_wide (p:=p) (b:=b)).1];rfl
theorem feed_state (hp:p<1073741824) (hb:b.right=true):∀(n:Nat) (l:List UInt8) (t:T),l.length=n→(Q.live (T.new 0 b)).feed 0 b l=.live t→
 (F.feed p b (F.new p b) l).1=⟨.live (none' t),.live (none' (t.wide p)),0,false⟩∧t.Strict:=by
 intro n
 induction n with
 | zero=>
   intro l t hl h;obtain rfl:=List.length_eq_zero_iff.1 hl;have e1:T.new 0 b=t:=by have h':Q.live (T.new 0 b)=.live t:=h;cases h';rfl
   subst e1;refine ⟨?_,(new_wide (p:=p)).2⟩;show F.new p b= _;rw [live_new hb hp];rfl
 | succ n ih=>
   intro l t hl h;rcases List.eq_nil_or_concat l with e0 | ⟨l',c,e0⟩
   ·rw [e0] at hl;cases hl
   subst e0;rw [List.length_concat] at hl;rw [List.concat_eq_append] at h ⊢;rw [feed_app] at h;cases hq:(Q.live (T.new 0 b)).feed 0 b l' with
   | dead e o=>rw [hq,feed_dead] at h;cases h
   | live t1=>
     rw [hq] at h;have ht:t1.take 0 b c=.live t:=h;obtain ⟨i1,i2⟩:=ih l' t1 (by omega) hq;obtain ⟨k1,k2⟩:=take_wide (p:=p) ht i2;refine ⟨?_,k2⟩;obtain ⟨t3,f1,f2⟩:=none_take ht;obtain ⟨t4,g1,g2⟩:=none_take k1;rw [F.feed_snoc,i1];unfold F.byte;rw [if_pos rfl];unfold F.look;have e1:(Q.live (none' t1)).byte 0 b c=.live t3:=f1;have e2:(Q.live (none' (t1.wide p))).byte p b c=.live t4:=g1;have e4:t4=t3.wide p:=by have:=(take_wide (p:=p) f1 (⟨i2.lf,i2.cr⟩:(none' t1).Strict)).1;have e5:(none' t1).wide p=none' (t1.wide p):=rfl;rw [e5,g1] at this;cases this;rfl
     subst e4;dsimp only;rw [e1,e2];have e3:Rec.all (Q.live t3).out (Q.live (t3.wide p)).out=true:=all_self _;rw [e3];show (⟨.live (none' t3),.live (none' (t3.wide p)),0,false⟩:F)= _;rw [f2];have:none' (t3.wide p)=none' (t.wide p):=by show (none' t3).wide p=(none' t).wide p;rw [f2]
     rw [this]
theorem lasts_of (hp:p<1073741824) (hb:b.right=true) (h1:(Q.live (T.new 0 b)).feed 0 b l=.live t) (ho:t.out= []) (he:e≠0) (h2:t.take 0 b c=.dead e o) (h3:((t.wide p).take p b c).err=0):Lasts p b l c:=by
 obtain ⟨i1,i2⟩:=feed_state hp hb _ l t rfl h1;have e1:none' t=t:=by show ({t with out:= []}:T)=t;rw [←ho]
 have e2:none' (t.wide p)=t.wide p:=by show (none' t).wide p= _;rw [e1]
 rw [e1,e2] at i1;refine ⟨by rw [i1],?_⟩;rw [F.feed_snoc,i1];unfold F.byte;rw [if_pos rfl];unfold F.look;have f1:(Q.live t).byte 0 b c=.dead e o:=h2;have f2:(Q.live (t.wide p)).byte p b c=(t.wide p).take p b c:=rfl;dsimp only;rw [f1,f2,h3];unfold F.judge;rw [if_pos (show (Q.dead e o).err≠0 from he)];rfl
theorem last_line (hp:p<1073741824) (hb:b.right=true) (h1:(Q.live (T.new 0 b)).feed 0 b l=.live t) (ho:t.out= []) (h:t.Open) (h0:t.rd.clear.buf= []) (hc:s.all (fun c=>!(c==10) && !(c==13))=true) (hm:s.length≤t.rd.most) (hr:t.room b (s.length+2))
 (bad:∀t':T,t'.st=t.st→t'.r=t.r→t'.hl=t.hl→(T.line 0 b t' s).1≠0) (good:∀t':T,t'.st=t.st→t'.r=t.r→t'.hl=t.hl→(T.line p b t' s).1=0):Lasts p b (l++(s ++ [13])) 10:=by
 have hc':∀c∈s,c≠10∧c≠13:=fun c hx=>by simpa using List.all_eq_true.1 hc c hx
 have key:∀(q:Nat) (u:T),u.Open→u.rd.clear.buf= []→s.length≤u.rd.most→u.room b (s.length+2)→∃u1,(Q.live u).feed q b (s ++ [13])=.live u1∧u1.out=u.out∧u1.st=u.st∧u1.r=u.r∧u1.hl=u.hl∧u1.take q b 10=ends (T.line q b (u1.went {u1.rd with last:=1,pend:=false} 1) s):=by
  intro q u a1 a2 a3 a4;have k0:∃u0,(Q.live u).feed q b s=.live u0∧u0.Open∧u0.rd.clear.buf=s∧u0.room b 2∧u0.out=u.out∧u0.st=u.st∧u0.r=u.r∧u0.hl=u.hl:=by
   rcases List.eq_nil_or_concat s with e0 | ⟨_,_,e0⟩
   ·subst e0;exact ⟨u,rfl,a1,a2,a4,rfl,rfl,rfl,rfl⟩
   ·have hne:s≠ []:=by rw [e0];simp
    refine ⟨_,feed_plain s u hne a1 hc' (by rw [a2];simpa using a3) (room_le a4 (by omega)),went_open a1.st rfl rfl _,?_,went_room a4,rfl,rfl,rfl,rfl⟩;show ((u.rd.clear.buf++s):List UInt8)=s;rw [a2];rfl
  obtain ⟨u0,b1,b2,b3,b4,b5,b6,b7,b8⟩:=k0;refine ⟨u0.went {u0.rd with buf:=u0.rd.clear.buf,last:=0,pend:=true} 1,?_,b5,b6,b7,b8,?_⟩
  ·rw [feed_app,b1,feed_cons,feed_nil]
   exact take_cr b2 (room_le b4 (by omega))
  ·have:=take_lf (p:=q) (b:=b) (t:=u0.went {u0.rd with buf:=u0.rd.clear.buf,last:=0,pend:=true} 1) b2.st rfl rfl (went_room b4);rw [this];show ends (T.line q b _ u0.rd.clear.buf)= _;rw [b3]
 obtain ⟨u,c1,c2,c3,c4,c5,c6⟩:=key 0 t h h0 hm hr;have hs:=(feed_state hp hb _ l t rfl h1).2;obtain ⟨w,d1,d2,d3,d4,d5,d6⟩:=key p (t.wide p) ⟨h.st,h.pend,h.nf⟩ h0 hm hr;have ew:w=u.wide p:=by have:=(feed_wide (p:=p) _ hs c1).1;rw [d1] at this;cases this;rfl
 have hbad:=bad (u.went {u.rd with last:=1,pend:=false} 1) c3 c4 c5;have hgood:=good (w.went {w.rd with last:=1,pend:=false} 1) d3 d4 d5;refine lasts_of hp hb (t:=u) (e:=(T.line 0 b (u.went {u.rd with last:=1,pend:=false} 1) s).1) (o:=(T.line 0 b (u.went {u.rd with last:=1,pend:=false} 1) s).2.out) ?_ (c2.trans ho) hbad ?_ ?_
 ·rw [feed_app,h1];exact c1
 ·rw [c6];unfold ends;rw [if_neg hbad]
 ·rw [←ew,d6];unfold ends;rw [if_pos hgood];rfl
abbrev hdR (k:Int) (fs:List Fld):Rec.R:=⟨ba [71,69,84],ba [47],k,fs,false,[],[]⟩
structure Hd (b:Bd) (t:T) (k:Int) (fs:List Fld) (n:Nat):Prop where
 st:t.st=2
 pend:t.rd.pend=false
 nf:Ln.failed t.rd.last=false
 buf:t.rd.clear.buf= []
 most:t.rd.most=Ln.mid b.x0
 r:t.r=hdR k fs
 hl:t.hl=fs.length
 size:t.size=n
 out:t.out= []
theorem Hd.open {k:Int} {fs:List Fld} {n:Nat} (h:Hd b t k fs n):t.Open:=⟨by rw [h.st];rfl,h.pend,h.nf⟩
theorem mid_least (hb:b.right=true):64≤Ln.mid b.x0:=by have:=(Bd.edges hb).1;unfold Ln.mid;omega
theorem plainL (h:s.all (fun c=>!(c==10) && !(c==13))=true):∀c∈s,c≠10∧c≠13:=fun c hx=>by simpa using List.all_eq_true.1 h c hx
theorem hd_start (hb:b.right=true) {k:Nat} (hs:s≠ []) (hc:s.all (fun c=>!(c==10) && !(c==13))=true) (hl:s.length≤40) (hq:Rq.request (Rq.clOf 0) b.od s=([71,69,84],[47],k,0)) :
 ∃t',(Q.live (T.new 0 b)).feed 0 b (s ++ [13,10])=.live t'∧Hd b t' k [] (s.length+2):=by
 have hm:=mid_least hb;have h2:=(Bd.edges hb).2.2.1
 have e1:=feed_line (p:=0) (b:=b) (t:=T.new 0 b) s ⟨rfl,rfl,rfl⟩ rfl (plainL hc) (by show s.length≤Ln.mid b.x0;omega) (by intro _;show ((0+(s.length+2):Nat):Int)≤b.x2;omega);obtain ⟨u,hu⟩:∃u,(T.new 0 b).went {(T.new 0 b).rd with buf:=s,last:=1,pend:=false} (s.length+2)=u:=⟨_,rfl⟩;have hl1:T.line 0 b u s=(0,{u with r:={u.r with m:=ba [71,69,84],x:=ba [47],k:=(k:Int)},st:=2}):=by unfold T.line;rw [if_pos (by rw [←hu];rfl)];unfold T.first;rw [if_neg hs,hq];rfl
 refine ⟨_,e1.trans ((by rw [hu];exact congrArg ends hl1)),?_⟩;rw [←hu];exact ⟨rfl,rfl,rfl,rfl,rfl,rfl,rfl,(by show (0+(s.length+2):Nat)= _;omega),rfl⟩
theorem line_two {q:Nat} (h:t.st=2):T.line q b t s=T.fields q b t s:=by unfold T.line;rw [if_neg (by rw [h];decide),if_pos h]
theorem hd_field (hb:b.right=true) {k:Int} {fs:List Fld} {n:Nat} {nm v:List UInt8} (h:Hd b t k fs n) (hs:s≠ []) (hc:s.all (fun c=>!(c==10) && !(c==13))=true) (hl:s.length≤60) (hn:n+s.length+2≤250) (hf:fs.length≤3) (hp:Fd.parse (Fd.clOf 0) s=some (some (nm,v))) :
 ∃t',(Q.live t).feed 0 b (s ++ [13,10])=.live t'∧Hd b t' k (fs ++ [(ba nm,ba v)]) (n+(s.length+2)):=by
 have hm:=mid_least hb;have hx:=Bd.edges hb;have hg:Fd.goes 0 s=false:=by unfold Fd.goes;rw [none0,Bool.false_and]
 have e:=feed_line (p:=0) (b:=b) (t:=t) s h.open h.buf (plainL hc) (by rw [h.most];omega) (by intro _;rw [h.size];omega);have hv:fieldV 0 t.hl t.r.fs s b.x1=.inr (fs ++ [(ba nm,ba v)]):=by rw [h.hl,h.r];show fieldV 0 fs.length fs s b.x1= _;unfold fieldV;rw [if_neg (by omega),hg,if_neg (by simp),hp]
 obtain ⟨t',ht'⟩:∃t',({t.went {t.rd with buf:=s,last:=1,pend:=false} (s.length+2) with hl:=t.hl+1,r:={t.r with fs:=fs ++ [(ba nm,ba v)]}}:T)=t':=⟨_,rfl⟩;have hl:T.line 0 b (t.went {t.rd with buf:=s,last:=1,pend:=false} (s.length+2)) s=(0,t'):=by refine (line_two (show (t.went {t.rd with buf:=s,last:=1,pend:=false} (s.length+2)).st=2 from h.st)).trans ?_;unfold T.fields;rw [if_neg hs,←ht'];show (listE (fieldV 0 t.hl t.r.fs s b.x1),({t.went _ _ with hl:=t.hl+1,r:={t.r with fs:=listL t.r.fs (fieldV 0 t.hl t.r.fs s b.x1)}}:T))= _;rw [hv];rfl
 refine ⟨t',e.trans (congrArg ends hl),?_⟩;rw [←ht'];refine ⟨h.st,rfl,rfl,rfl,h.most,?_,?_,?_,h.out⟩
 ·show ({t.r with fs:=fs ++ [(ba nm,ba v)]}:Rec.R)= _;rw [h.r]
 ·show t.hl+1= _;rw [h.hl,List.length_append];rfl
 ·show (if Pg.headed t.st=true then t.size+(s.length+2) else t.size)= _;rw [h.st,h.size];rfl
end
end Go.Proofs.YtnabkcglnbdfeaaGreatDoor.Wit
namespace Go.Proofs.YtnabkcglnbdfeaaGreatDoor.Wit
open Go.RowKit Base Txt Par Pg Flt
section
variable {p:Nat} {b:Bd} {t t2:T} {l s:List UInt8} {c:UInt8}
theorem first_err (t:T) (hs:s≠ []) (h:t.st=1):(T.line p b t s).1=(Rq.request (Rq.clOf p) b.od s).2.2.2:=by
 unfold T.line;rw [if_pos h];unfold T.first;rw [if_neg hs];dsimp only;split
 ·rename_i h0;exact h0.symm
 ·rfl
theorem field_err (t:T) (hs:s≠ []) (h:t.st=2):(T.line p b t s).1=listE (fieldV p t.hl t.r.fs s b.x1):=by rw [line_two h];unfold T.fields;rw [if_neg hs]
theorem field_none {n:Nat} {fs:List Fld} {most:Int} (h:Fd.parse (Fd.clOf 0) s=none):listE (fieldV 0 n fs s most)≠0:=by
 unfold fieldV;split
 ·decide
 ·have hg:Fd.goes 0 s=false:=by unfold Fd.goes;rw [none0,Bool.false_and]
  rw [if_neg (by rw [hg,Bool.false_and];exact Bool.false_ne_true),h];show (400:Nat)≠0;decide
theorem field_some {n:Nat} {fs:List Fld} {most:Int} (hn:((n+1:Nat):Int)≤most) (h:Fd.goes p s=true∧fs≠ []∨Fd.parse (Fd.clOf p) s≠none):listE (fieldV p n fs s most)=0:=by
 unfold fieldV;rw [if_neg (by omega)];by_cases hg:(Fd.goes p s && !fs.isEmpty)=true
 ·rw [if_pos hg];rfl
 ·rw [if_neg hg];rcases h with ⟨h1,h2⟩ | h
  ·exfalso;apply hg;rw [h1,Bool.true_and,Bool.not_eq_true',List.isEmpty_eq_false_iff];exact h2
  ·rcases hq:Fd.parse (Fd.clOf p) s with _ | _ | ⟨n,v⟩
   ·exact absurd hq h
   ·rfl
   ·rfl
theorem field_last (hp:p<1073741824) (hb:b.right=true) {k:Int} {fs:List Fld} {n:Nat} (h1:(Q.live (T.new 0 b)).feed 0 b l=.live t) (h:Hd b t k fs n) (hs:s≠ []) (hc:s.all (fun c=>!(c==10) && !(c==13))=true) (hl:s.length≤60) (hn:n+s.length+2≤250) (hf:fs.length≤3)
 (bad:Fd.parse (Fd.clOf 0) s=none) (good:Fd.goes p s=true∧fs≠ []∨Fd.parse (Fd.clOf p) s≠none):Lasts p b (l++(s ++ [13])) 10:=by
 have hm:=mid_least hb;have hx:=Bd.edges hb;refine last_line hp hb h1 h.out h.open h.buf hc (by rw [h.most];omega) (by intro _;rw [h.size];omega) ?_ ?_
 ·intro t' e1 e2 e3;rw [field_err t' hs (e1.trans h.st)];exact field_none bad
 ·intro t' e1 e2 e3;rw [field_err t' hs (e1.trans h.st),e2,e3,h.r,h.hl];exact field_some (by omega) good
theorem head_err (t:T) (h:t.st=2):(T.line p b t []).1=(Frm.decideV (Frm.clOf p) b.ch b.x3 t.r.k t.r.fs).2.2.toNat:=by
 rw [line_two h];unfold T.fields;rw [if_pos rfl];unfold T.endHead;dsimp only;split
 ·rfl
 ·rename_i h0;have h0:=Decidable.not_not.1 h0;rw [h0];split
  ·rfl
  ·split<;>rfl
theorem head_last (hp:p<1073741824) (hb:b.right=true) {k:Int} {fs:List Fld} {n:Nat} (h1:(Q.live (T.new 0 b)).feed 0 b l=.live t) (h:Hd b t k fs n) (hn:n≤240)
 (bad:(Frm.decideV (Frm.clOf 0) b.ch b.x3 k fs).2.2≠0) (good:(Frm.decideV (Frm.clOf p) b.ch b.x3 k fs).2.2=0):Lasts p b (l++([] ++ [13])) 10:=by
 have hx:=Bd.edges hb;refine last_line hp hb h1 h.out h.open h.buf rfl (Nat.zero_le _) (by intro _;rw [h.size];show ((n+2:Nat):Int)≤b.x2;omega) ?_ ?_
 ·intro t' e1 e2 e3;rw [head_err t' (e1.trans h.st),e2,h.r];exact decide_pos rfl bad
 ·intro t' e1 e2 e3;rw [head_err t' (e1.trans h.st),e2,h.r];show (Frm.decideV (Frm.clOf p) b.ch b.x3 k fs).2.2.toNat=0;rw [good];rfl
end
def topL:List UInt8:= [71,69,84,32,47,32,72,84,84,80,47,49,46,49]
def oldL:List UInt8:= [71,69,84,32,47,32,72,84,84,80,47,49,46,48]
def hostL:List UInt8:= [72,111,115,116,58,32,97]
def chkL:List UInt8:= [84,114,97,110,115,102,101,114,45,69,110,99,111,100,105,110,103,58,32,99,104,117,110,107,101,100]
def unkL:List UInt8:= [84,114,97,110,115,102,101,114,45,69,110,99,111,100,105,110,103,58,32,103,122,105,112]
def nobL:List UInt8:= [67,111,110,116,101,110,116,45,76,101,110,103,116,104,58,32,48]
def oneL:List UInt8:= [67,111,110,116,101,110,116,45,76,101,110,103,116,104,58,32,49]
def fld (n v:List UInt8):Fld:=(ba n,ba v)
abbrev hostF:Fld:=fld [72,111,115,116] [97]
abbrev teF (v:List UInt8):Fld:=fld [84,114,97,110,115,102,101,114,45,69,110,99,111,100,105,110,103] v
abbrev clF (v:List UInt8):Fld:=fld [67,111,110,116,101,110,116,45,76,101,110,103,116,104] v
section
variable {p:Nat} {b:Bd}
theorem top_start (hb:b.right=true):∃t',(Q.live (T.new 0 b)).feed 0 b (topL ++ [13,10])=.live t'∧Hd b t' 1 [] 16:=by
 have hq:∀o:Bool,Rq.request (Rq.clOf 0) o topL=([71,69,84],[47],1,0):=by rw [Rq.clOf_zero];decide +kernel
 exact hd_start hb (by decide) (by decide) (by decide) (hq _)
def linesL (ls:List (List UInt8)):List UInt8:=ls.flatMap fun s=>s ++ [13,10]
theorem hd_lines (hb:b.right=true) {k:Int}:∀(ls:List (List UInt8)) (gs:List Fld) (l:List UInt8) (t:T) (fs:List Fld) (n:Nat),(Q.live (T.new 0 b)).feed 0 b l=.live t→Hd b t k fs n→n+(linesL ls).length≤240→fs.length+ls.length≤4→
 (ls.map fun s=>Fd.parse Fd.c0 s)=(gs.map fun f=>some (some (f.1.data.toList,f.2.data.toList)))→(ls.all fun s=>!s.isEmpty&&(s.all (fun c=>!(c==10) && !(c==13))&&decide (s.length≤60)))=true→
 ∃t',(Q.live (T.new 0 b)).feed 0 b (l++linesL ls)=.live t'∧Hd b t' k (fs++gs) (n+(linesL ls).length)
 | [],gs,l,t,fs,n,h1,h2,_,_,hg,_=>by
   obtain rfl:gs= []:=List.map_eq_nil_iff.1 hg.symm;exact ⟨t,by rw [show linesL []= [] from rfl,List.append_nil];exact h1,by rw [List.append_nil];exact h2⟩
 | s::ls,gs,l,t,fs,n,h1,h2,hn,hf,hg,ha=>by
   match gs,hg with
   | g::gs,hg=>
     rw [List.map_cons,List.map_cons,List.cons.injEq] at hg;obtain ⟨hg1,hg2⟩:=hg;rw [List.all_cons,Bool.and_eq_true,Bool.and_eq_true,Bool.and_eq_true,Bool.not_eq_true',List.isEmpty_eq_false_iff,decide_eq_true_eq] at ha;obtain ⟨⟨a1,a2,a3⟩,ha⟩:=ha;have hl:(linesL (s::ls)).length=s.length+2+(linesL ls).length:=by show ((s ++ [13,10])++linesL ls).length= _;rw [List.length_append,List.length_append];rfl
     rw [List.length_cons] at hf
     obtain ⟨t',k1,k2⟩:=hd_field hb h2 a1 a2 a3 (by omega) (by omega) (by rw [Fd.clOf_zero];exact hg1);have eg:(ba g.1.data.toList,ba g.2.data.toList)=g:=by
      have e1:ba g.1.data.toList=g.1:=ba_ext (by simp [ba])
      have e2:ba g.2.data.toList=g.2:=ba_ext (by simp [ba]);rw [e1,e2]
     rw [eg] at k2;have k3:(Q.live (T.new 0 b)).feed 0 b (l++(s ++ [13,10]))=.live t':=by rw [feed_app,h1];exact k1
     obtain ⟨t'',m1,m2⟩:=hd_lines hb ls gs (l++(s ++ [13,10])) t' (fs ++ [g]) (n+(s.length+2)) k3 k2 (by omega) (by rw [List.length_append];show fs.length+1+ls.length≤4;omega) hg2 ha;refine ⟨t'',?_,?_⟩
     ·rw [show linesL (s::ls)=(s ++ [13,10])++linesL ls from rfl,←List.append_assoc];exact m1
     ·rw [show fs++g::gs=(fs ++ [g])++gs by simp,hl,←Nat.add_assoc];exact m2
theorem last_9 (hp:p<1073741824) (hb:b.right=true) (h:Qk.has p 9=true):Lasts p b (((topL ++ [13,10])++linesL [])++([72,111,115,116,32,58,32,97] ++ [13])) 10:=by
 have k1:Fd.parse Fd.c0 [72,111,115,116,32,58,32,97]=none:=by decide +kernel
 have k2:∀b2 b3 b4 b5:Bool,Fd.parse ⟨true,b2,b3,b4,b5⟩ [72,111,115,116,32,58,32,97]≠none:=by decide +kernel
 obtain ⟨t0,f0,g0⟩:=top_start hb
 obtain ⟨t,f1,g1⟩:=hd_lines hb [] [] _ t0 [] 16 f0 g0 (by decide) (by decide) (by decide +kernel) (by decide);rw [List.nil_append] at g1
 exact field_last hp hb f1 g1 (by decide) (by decide) (by decide) (by decide) (by decide) (by rw [Fd.clOf_zero];exact k1) (.inr (by unfold Fd.clOf;rw [h];exact k2 _ _ _ _))
theorem decide_of {fs:List Fld} {H TE CL:List ByteArray} (h1:find fs Frm.hostN=H) (h2:find fs Frm.teN=TE) (h3:find fs Frm.clN=CL) (c:Frm.Cl) (ch:Bool) (body k:Int) :
 Frm.decideV c ch body k fs=Frm.bodyV (Frm.hostsV c.nh c.mh k H) ch (Frm.winsV c.td c.ti c.tw c.lw k TE.length CL.length (Frm.coding c.tb c.tl TE)) (Frm.lengthV c.lp c.lc c.lf c.ll body CL):=by
 unfold Frm.decideV;rw [h1,h2,h3]
theorem len_none (lp lc lf ll:Bool) (most:Int):Frm.lengthV lp lc lf ll most []=(0,0):=rfl
theorem body_len {ch:Bool} {x:Int × Int} (h:x.2=0):(Frm.bodyV 0 ch (false,0) x).2.2=0:=by unfold Frm.bodyV Frm.fixedV;rw [if_neg (by decide),if_neg (by decide),if_neg (by decide),if_pos h]
theorem cl_zero:Frm.clOf 0=⟨false,false,false,false,false,false,false,false,false,false,false,false⟩:=by simp only [Frm.clOf,none0]
theorem last_15 (hp:p<1073741824) (hb:b.right=true) (h:Qk.has p 15=true):Lasts p b (((topL ++ [13,10])++linesL [])++([] ++ [13])) 10:=by
 have hx:=Bd.edges hb;obtain ⟨t0,f0,g0⟩:=top_start hb
 obtain ⟨t,f1,g1⟩:=hd_lines hb [] [] _ t0 [] 16 f0 g0 (by decide) (by decide) (by decide +kernel) (by decide);rw [List.nil_append] at g1;have e1:find [] Frm.hostN= []:=by decide +kernel
 have e2:find [] Frm.teN= []:=by decide +kernel
 have e3:find [] Frm.clN= []:=by decide +kernel
 refine head_last hp hb f1 g1 (by decide) ?_ ?_
 ·rw [decide_of e1 e2 e3,cl_zero];dsimp only;have:Frm.hostsV false false 1 []=400:=by decide +kernel
  rw [this];show (400:Int)≠0;decide
 ·rw [decide_of e1 e2 e3];unfold Frm.clOf;dsimp only;have kh:∀mh:Bool,Frm.hostsV true mh 1 []=0:=by decide +kernel
  rw [h,kh,len_none];exact body_len rfl
end
end Go.Proofs.YtnabkcglnbdfeaaGreatDoor.Wit
namespace Go.Proofs.YtnabkcglnbdfeaaGreatDoor.Wit
open Go.RowKit Base Txt Par Pg Flt
section
variable {p:Nat} {b:Bd} {t:T} {l s:List UInt8}
structure Ck (b:Bd) (t:T):Prop where
 st:t.st=4
 pend:t.rd.pend=false
 nf:Ln.failed t.rd.last=false
 buf:t.rd.clear.buf= []
 most:t.rd.most=Ln.mid b.x0
 ch:t.r.ch=true
 body:t.r.body= []
 out:t.out= []
def ckL:List UInt8:=(((topL ++ [13,10])++linesL [hostL,chkL]) ++ [13,10])
theorem top_plain (hb:b.right=true):∃t',(Q.live (T.new 0 b)).feed 0 b topL=.live t'∧t'.st=1∧t'.rd.buf=topL∧t'.rd.last=0∧t'.rd.pend=false∧t'.rd.lf=false∧t'.rd.cr=false∧t'.rd.most=Ln.mid b.x0∧t'.size=14∧t'.out= []∧t'.r=zero:=by
 have hm:=mid_least hb;have hx:=Bd.edges hb
 have e:=feed_plain (p:=0) (b:=b) topL (T.new 0 b) (by decide) ⟨rfl,rfl,rfl⟩ (plainL (by decide)) (by show 0+14≤Ln.mid b.x0;omega) (by intro _;show ((0+14:Nat):Int)≤b.x2;omega);exact ⟨_,e,rfl,rfl,rfl,rfl,none0 1,none0 2,rfl,rfl,rfl,rfl⟩
theorem top_any (q:Nat) (o:Bool):Rq.request (Rq.clOf q) o topL=([71,69,84],[47],1,0):=by
 have hq:∀o:Bool,Rq.request Rq.c0 o topL=([71,69,84],[47],1,0):=by decide +kernel
 exact (Rq.extends_all (hq o)).1 (Rq.clOf q)
theorem last_1 (hp:p<1073741824) (hb:b.right=true) (h:Qk.has p 1=true):Lasts p b topL 10:=by
 have hx:=Bd.edges hb;obtain ⟨t,f,h1,h2,h3,h4,h5,h6,h7,h8,h9,h10⟩:=top_plain hb;have hbd:Pg.bodied t.st=false:=by rw [h1];rfl
 have hr:t.room b 1:=fun _=>by rw [h8];show ((14+1:Nat):Int)≤b.x2;omega
 refine lasts_of hp hb (e:=400) (o:= []) f h9 (by decide) ?_ ?_
 ·rw [take_line hbd 10 hr];unfold T.inLine;dsimp only;have hn:t.rd.clear.next 10=3:=by
   rw [Ln.clear_of (by rw [h3];rfl)];unfold Ln.M.next;rw [h3,h4,h5];rfl
  rw [hn,if_neg (by decide),if_pos rfl,h9]
 ·rw [take_line (show Pg.bodied (t.wide p).st=false from hbd) 10 hr];unfold T.inLine;dsimp only
  have hc:(t.wide p).rd.clear=(t.wide p).rd:=Ln.clear_of (show Ln.ended t.rd.last=false by rw [h3];rfl);have hn:(t.wide p).rd.clear.next 10=1:=by rw [hc];unfold Ln.M.next;rw [show (t.wide p).rd.last=0 from h3,show (t.wide p).rd.pend=false from h4,show (t.wide p).rd.lf=true from h];rfl
  rw [hn,if_neg (by decide),if_neg (by decide),if_neg (by decide)];have hk:(t.wide p).rd.clear.keeps 10=false:=by rw [hc];unfold Ln.M.keeps;rw [show (t.wide p).rd.last=0 from h3,show (t.wide p).rd.pend=false from h4];rfl
  have hl:((t.wide p).rd.byte 10).line=topL:=by unfold Ln.M.byte Ln.M.told;rw [hn,hk,hc,if_neg (by decide),List.append_nil];exact h2
  rw [hl];have hz:∀y:T,y.st=1→(ends (y.line p b topL)).err=0:=by intro y hy;have:=first_err (p:=p) (b:=b) (s:=topL) y (by decide) hy;rw [top_any] at this;unfold ends;rw [if_pos this];rfl
  have hz':=hz {t.wide p with size:=if Pg.headed t.st=true then t.size+1 else t.size,cnt:=Pg.headed t.st,rd:=(t.wide p).rd.byte 10} h1;revert hz';show (ends _).err=0→_;intro hz';have:∀(x:Q),x.err=0→(match (x,!((1:Int)==2)) with |(.live t1,false)=>(t1.look p b 10).1 |(x,_)=>x).err=0:=by intro x hx;cases x<;>exact hx
  exact this _ hz'
theorem last_2 (hp:p<1073741824) (hb:b.right=true) (h:Qk.has p 2=true):Lasts p b (topL ++ [13]) 72:=by
 have hx:=Bd.edges hb;have hm:=mid_least hb;obtain ⟨t0,f,h1,h2,h3,h4,h5,h6,h7,h8,h9,h10⟩:=top_plain hb
 have e:=take_cr (p:=0) (b:=b) (t:=t0) ⟨by rw [h1];rfl,h4,by rw [h3];rfl⟩ (fun _=>by rw [h8];show ((14+1:Nat):Int)≤b.x2;omega)
 have hc0:t0.rd.clear=t0.rd:=Ln.clear_of (by rw [h3];rfl);rw [hc0] at e;obtain ⟨t,ht⟩:∃t,t0.went {t0.rd with buf:=t0.rd.buf,last:=0,pend:=true} 1=t:=⟨_,rfl⟩;rw [ht] at e;have f':(Q.live (T.new 0 b)).feed 0 b (topL ++ [13])=.live t:=by rw [feed_app,f,feed_cons,feed_nil];exact e
 have a1:t.st=1:=by rw [←ht];exact h1
 have a2:t.rd.buf=topL:=by rw [←ht];exact h2
 have a3:t.rd.last=0:=by rw [←ht];rfl
 have a4:t.rd.pend=true:=by rw [←ht];rfl
 have a5:t.rd.cr=false:=by rw [←ht];exact h6
 have a6:t.rd.most=Ln.mid b.x0:=by rw [←ht];exact h7
 have a7:t.size=15:=by rw [←ht];show (if Pg.headed t0.st=true then t0.size+1 else t0.size)=15;rw [h1,h8];rfl
 have a8:t.out= []:=by rw [←ht];exact h9
 have hbd:Pg.bodied t.st=false:=by rw [a1];rfl
 have hr:t.room b 1:=fun _=>by rw [a7];show ((15+1:Nat):Int)≤b.x2;omega
 refine lasts_of hp hb (e:=400) (o:= []) f' a8 (by decide) ?_ ?_
 ·rw [take_line hbd 72 hr];unfold T.inLine;dsimp only;have hn:t.rd.clear.next 72=3:=by
   rw [Ln.clear_of (by rw [a3];rfl)];unfold Ln.M.next;rw [a3,a4,a5];rfl
  rw [hn,if_neg (by decide),if_pos rfl,a8]
 ·rw [take_line (show Pg.bodied (t.wide p).st=false from hbd) 72 hr];unfold T.inLine;dsimp only
  have hc:(t.wide p).rd.clear=(t.wide p).rd:=Ln.clear_of (show Ln.ended t.rd.last=false by rw [a3];rfl);have hn:(t.wide p).rd.clear.next 72=2:=by rw [hc];unfold Ln.M.next;rw [show (t.wide p).rd.last=0 from a3,show (t.wide p).rd.pend=true from a4,show (t.wide p).rd.cr=true from h];rfl
  rw [hn,if_neg (by decide),if_neg (by decide),if_neg (by decide)];have hk:(t.wide p).rd.clear.keeps 72=false:=by rw [hc];unfold Ln.M.keeps;rw [show (t.wide p).rd.last=0 from a3,show (t.wide p).rd.pend=true from a4];rfl
  have hby:(t.wide p).rd.byte 72={(t.wide p).rd with last:=2,pend:=false}:=by unfold Ln.M.byte Ln.M.told;rw [hn,hk,hc,if_neg (by decide),List.append_nil];rfl
  have hl:((t.wide p).rd.byte 72).line=topL:=by rw [hby];exact a2
  rw [hl,hby];have hz:∀y:T,y.st=1→y.line p b topL=(0,{y with r:={y.r with m:=ba [71,69,84],x:=ba [47],k:=1},st:=2}):=by intro y hy;unfold T.line;rw [if_pos hy];unfold T.first;rw [if_neg (by decide),top_any];rfl
  have hz':=hz {t.wide p with size:=if Pg.headed t.st=true then t.size+1 else t.size,cnt:=Pg.headed t.st,rd:={(t.wide p).rd with last:=2,pend:=false}} a1;rw [show (if Pg.headed (t.wide p).st=true then (t.wide p).size+1 else (t.wide p).size)=(if Pg.headed t.st=true then t.size+1 else t.size) from rfl,show Pg.headed (t.wide p).st=Pg.headed t.st from rfl,hz'];show (T.look p b _ 72).1.err=0;unfold T.look;rw [if_neg (by exact Bool.false_ne_true),if_pos (by rfl)];unfold T.counted;have hcn:Pg.headed t.st=true:=by rw [a1];rfl
  rw [hcn];simp only [if_true];rw [if_neg (by rw [a7];show¬b.x2<((15+1:Nat):Int);omega)];unfold T.inLine;have hk2:∀a c:Bool,∀bf:List UInt8,Ln.M.next (Ln.M.clear ⟨a,c,Ln.mid b.x0,bf,2,false⟩) 72=0:=by intro a c bf;unfold Ln.M.next Ln.M.clear;dsimp only;rw [if_neg (by decide),if_neg (by decide),if_neg (by decide),if_neg (by decide),if_neg (by rw [show Ln.ended 2=true from rfl,if_pos rfl];show¬(0:Nat)= _;omega)]
  have hk3:Ln.M.next (Ln.M.clear {(t.wide p).rd with last:=2,pend:=false}) 72=0:=by
   have e5:({(t.wide p).rd with last:=2,pend:=false}:Ln.M)=⟨Qk.has p 1,Qk.has p 2,Ln.mid b.x0,t.rd.buf,2,false⟩:=by rw [←a6];rfl
   rw [e5];exact hk2 _ _ _
  dsimp only;rw [hk3,if_pos rfl];rfl
end
end Go.Proofs.YtnabkcglnbdfeaaGreatDoor.Wit
namespace Go.Proofs.YtnabkcglnbdfeaaGreatDoor.FltC
open Go.RowKit Base Txt Par Pg Flt Wit Can
section
variable {p:Nat} {b:Bd} {t u:T} {l s:List UInt8} {c:UInt8} {o:List Rec.R} {m:Ln.M}
theorem rd_same (hp:m.pend=false) (hf:Ln.failed m.last=false) (hb:m.clear.buf= []) (c:UInt8) :
 m.clear.next c=(⟨m.lf,m.cr,m.most,[],0,false⟩:Ln.M).clear.next c∧m.byte c=(⟨m.lf,m.cr,m.most,[],0,false⟩:Ln.M).byte c:=by
 have e:m.clear=⟨m.lf,m.cr,m.most,[],m.last,false⟩:=by have h1:m.clear=⟨m.lf,m.cr,m.most,m.clear.buf,m.last,m.pend⟩:=rfl;rw [h1,hb,hp]
 have e0:(⟨m.lf,m.cr,m.most,[],0,false⟩:Ln.M).clear=⟨m.lf,m.cr,m.most,[],0,false⟩:=rfl;have f0:Ln.failed 0=false:=rfl;have h1:m.clear.next c=(⟨m.lf,m.cr,m.most,[],0,false⟩:Ln.M).clear.next c:=by rw [e,e0];unfold Ln.M.next;dsimp only;rw [hf,f0]
 refine ⟨h1,?_⟩;unfold Ln.M.byte;rw [h1,e,e0];unfold Ln.M.told Ln.M.keeps;dsimp only;rw [hf,f0]
theorem inLine_same (h1:m.clear.next c=t.rd.clear.next c) (h2:m.byte c=t.rd.byte c):({t with rd:=m}:T).inLine p b c=t.inLine p b c:=by unfold T.inLine;dsimp only;rw [h1,h2]
theorem look_same (hs:Pg.bodied t.st=false) (h1:m.clear.next c=t.rd.clear.next c) (h2:m.byte c=t.rd.byte c):({t with rd:=m}:T).look p b c=t.look p b c:=by
 unfold T.look;have hn:¬Pg.bodied t.st=true:=by rw [hs];decide
 show (if Pg.bodied t.st=true then _ else (if Pg.headed t.st=true then _ else _))= _;rw [if_neg hn,if_neg hn];have e:({t with rd:=m}:T).counted={t.counted with rd:=m}:=by unfold T.counted;dsimp only;split<;>rfl
 have e2:t.counted.rd=t.rd:=by unfold T.counted;split<;>rfl
 split
 ·rw [e];show (if b.x2<(t.counted.size:Int) then _ else _)= _;split
  ·rfl
  ·exact inLine_same (by rw [e2];exact h1) (by rw [e2];exact h2)
 ·exact inLine_same h1 h2
theorem take_same (e:({t with cnt:=false,rd:=u.rd}:T)={u with cnt:=false}) (hs:Pg.bodied t.st=false) (h1:t.rd.clear.next c=u.rd.clear.next c) (h2:t.rd.byte c=u.rd.byte c):t.take p b c=u.take p b c:=by have k:=look_same (p:=p) (b:=b) (t:={t with cnt:=false,rd:=u.rd}) (m:=t.rd) (c:=c) hs h1 h2;unfold T.take;rw [←e,←k]
theorem fr_take (h:Fr b t o) (hs:t.Strict) (c:UInt8):(none' t).take 0 b c=(T.new 0 b).take 0 b c∧(none' (t.wide p)).take p b c=((T.new 0 b).wide p).take p b c:=by
 obtain ⟨k1,k2⟩:=rd_same h.pend h.nf h.buf c;have e0:(T.new 0 b).rd=⟨t.rd.lf,t.rd.cr,t.rd.most,[],0,false⟩:=by rw [hs.lf,hs.cr,h.most];show Ln.M.of 0 b.x0= _;unfold Ln.M.of;rw [none0,none0];rfl
 have ew:((T.new 0 b).wide p).rd=⟨(wideM p t.rd).lf,(wideM p t.rd).cr,(wideM p t.rd).most,[],0,false⟩:=by show wideM p (T.new 0 b).rd= _;rw [e0];rfl
 obtain ⟨j1,j2⟩:=rd_same (m:=wideM p t.rd) h.pend h.nf h.buf c;have hr:∀m:Ln.M,({none' t with cnt:=false,rd:=m}:T)=⟨1,m,zero,0,0,0,false,0,[]⟩:=by intro m;show (⟨t.st,m,t.r,t.hl,t.bl,t.size,false,t.left,[]⟩:T)= _;rw [h.st,h.r,h.hl,h.bl,h.size,h.left]
 refine ⟨take_same (hr _) (show Pg.bodied t.st=false by rw [h.st];rfl) ?_ ?_,take_same (hr _) (show Pg.bodied t.st=false by rw [h.st];rfl) ?_ ?_⟩
 ·rw [e0];exact k1
 ·rw [e0];exact k2
 ·rw [ew];exact j1
 ·rw [ew];exact j2
theorem fr_feed (hp:p<1073741824) (hb:b.right=true) (h1:(Q.live (T.new 0 b)).feed 0 b l=.live t) (h:Fr b t o) (hs:s≠ []) :
 F.feed p b (F.new p b) (l++s)=((F.feed p b (F.new p b) s).1,o++(F.feed p b (F.new p b) s).2):=by
 obtain ⟨i1,i2⟩:=feed_state hp hb _ l t rfl h1;have ho:(F.feed p b (F.new p b) l).2=o:=by
  rw [(pass_all hp hb l).1]
  have e0:Q.new 0 b=.live (T.new 0 b):=if_pos (by rw [hb];rfl);unfold Q.read;rw [e0,h1];exact h.out
 rw [F.feed_app,i1,ho];cases s with
 | nil=>exact absurd rfl hs
 | cons c s=>
   obtain ⟨k1,k2⟩:=fr_take (p:=p) h i2 c;have e:F.byte p b ⟨.live (none' t),.live (none' (t.wide p)),0,false⟩ c=F.byte p b (F.new p b) c:=by rw [live_new hb hp];unfold F.byte;rw [if_pos rfl,if_pos rfl];unfold F.look;have a1:(Q.live (none' t)).byte 0 b c=(Q.live (T.new 0 b)).byte 0 b c:=k1;have a2:(Q.live (none' (t.wide p))).byte p b c=(Q.live ((T.new 0 b).wide p)).byte p b c:=k2;dsimp only;rw [a1,a2]
   show (((F.feed p b (F.byte p b _ c).1 s).1,o++((F.byte p b _ c).2++(F.feed p b (F.byte p b _ c).1 s).2)):F × List Rec.R)= _;rw [e];rfl
theorem put_feed {r:Rec.R} (hr:Neat r) (hp:p<1073741824) (hs:s≠ []) :
 F.feed p usual (F.new p usual) (putR r++s)=((F.feed p usual (F.new p usual) s).1,wrR r::(F.feed p usual (F.new p usual) s).2):=by
 obtain ⟨t,e,k⟩:=read_put usual_right (neat_usual hr) (fr_new usual);have:=fr_feed hp usual_right e k hs;rw [List.nil_append,wr_form] at this;exact this
theorem put_lasts {r:Rec.R} (hr:Neat r) (hp:p<1073741824) (hl:Lasts p usual l c) (hx:((Q.read 0 usual (l ++ [c])).err≠0∧(Q.read 0 usual (l ++ [c])).out= [])) :
 (F.feed p usual (F.new p usual) (putR r++(l ++ [c]))).2= [wrR r]∧(F.feed p usual (F.new p usual) (putR r++(l ++ [c]))).1.code=(Q.read 0 usual (l ++ [c])).err∧(F.feed p usual (F.new p usual) (putR r++(l ++ [c]))).1.parted=true:=by
 rw [put_feed hr hp (by simp)]
 obtain ⟨h1,h2, -⟩:=pass_all hp usual_right (l ++ [c]);exact ⟨by rw [h1,hx.2],h2,hl.2⟩
end
end Go.Proofs.YtnabkcglnbdfeaaGreatDoor.FltC
namespace Go.Proofs.YtnabkcglnbdfeaaGreatDoor.FltC
open Go.RowKit Base Txt Par Pg Flt Wit Can
section
variable {p:Nat} {b:Bd}
abbrev cl0:List UInt8:= [71,69,84,32,47,32,72,84,84,80,47,49,46,49]
abbrev cl1:List UInt8:= [71,69,84,32,47,32,72,84,84,80,47,49,46,49,13]
abbrev cl2:List UInt8:= [71,69,84,32,47,32,72,84,84,80,47,49,46,49,13,10,72,111,115,116,32,58,32,97,13]
abbrev cl3:List UInt8:= [71,69,84,32,47,32,72,84,84,80,47,49,46,49,13,10,97,98,99,13]
abbrev cl4:List UInt8:= [80,85,84,32,47,32,72,84,84,80,47,49,46,49,13,10,72,111,115,116,58,32,97,13,10,84,114,97,110,115,102,101,114,45,69,110,99,111,100,105,110,103,58,32,99,104,117,110,107,101,100,13,10,13,10,49,13,10,65]
abbrev cl5:List UInt8:= [71,69,84,32,47,32,72,84,84,80,47,49,46,49,13,10,13]
def cked (q:Q):Bool:=match q with
 | .live t=>t.st==6&&(!t.rd.lf&&(!t.rd.cr&&(t.rd.most==0&&(t.rd.buf.isEmpty&&(decide (t.rd.last=0)&&(!t.rd.pend&&t.out.isEmpty))))))
 | .dead _ _=>false
theorem cked_4:cked ((Q.live (T.new 0 usual)).feed 0 usual cl4)=true:=by decide +kernel
theorem lasts_4 (hp:p<1073741824) (h:Qk.has p 29=true):Lasts p usual cl4 48:=by
 have k:=cked_4;cases hq:(Q.live (T.new 0 usual)).feed 0 usual cl4 with
 | dead e o=>rw [hq] at k;cases k
 | live t=>
   rw [hq] at k;unfold cked at k;simp only [Bool.and_eq_true,Bool.not_eq_true',beq_iff_eq,List.isEmpty_iff,decide_eq_true_eq] at k;obtain ⟨k1,k2,k3,k4,k5,k6,k7,k8⟩:=k;have et:t=t.enter 0 6 0:=by
    have e1:t.rd=⟨t.rd.lf,t.rd.cr,t.rd.most,t.rd.buf,t.rd.last,t.rd.pend⟩:=rfl;have e2:t.rd=Ln.M.of 0 0:=by rw [e1,k2,k3,k4,k5,k6,k7];unfold Ln.M.of;rw [none0,none0];rfl
    have e3:t=⟨t.st,t.rd,t.r,t.hl,t.bl,t.size,t.cnt,t.left,t.out⟩:=rfl;have e4:t.enter 0 6 0=⟨6,Ln.M.of 0 0,t.r,t.hl,t.bl,t.size,t.cnt,t.left,t.out⟩:=rfl;rw [e4,←e2,←k1]
   refine lasts_of hp usual_right (e:=400) (o:= []) hq k8 (by decide) ?_ ?_
   ·rw [et,take_line (by rfl) 48 (fun hh=>by cases hh)];unfold T.inLine;have hn:Ln.M.next (Ln.M.clear (t.enter 0 6 0).rd) 48=4:=by
     show Ln.M.next (Ln.M.clear (Ln.M.of 0 0)) 48=4;rw [show Ln.M.of 0 0=⟨false,false,0,[],0,false⟩ by unfold Ln.M.of;rw [none0,none0];rfl];decide
    dsimp only;rw [show (t.enter 0 6 0).rd.clear.next 48=4 from hn,if_neg (by decide),if_neg (by decide),if_pos rfl,none0,Bool.and_false,if_neg (by decide)];show Q.dead 400 t.out= _;rw [k8]
   ·have ew:t.wide p=t.enter p 6 0:=by rw [et];rfl
    rw [ew,take_line (by rfl) 48 (fun hh=>by cases hh)];have hn:∀a c:Bool,Ln.M.next (Ln.M.clear ⟨a,c,0,[],0,false⟩) 48=4:=by decide
    unfold T.inLine;dsimp only;rw [show (t.enter p 6 0).rd.clear.next 48=4 from hn _ _,if_neg (by decide),if_neg (by decide),if_pos rfl,h,if_pos (by rfl)];dsimp only;unfold T.look;rw [if_neg (by exact Bool.false_ne_true),if_neg (by exact Bool.false_ne_true)];unfold T.inLine;have hk:∀a c:Bool,Ln.M.next (Ln.M.clear ⟨a,c,Ln.mid usual.x0,[],0,false⟩) 48=0:=by intro a c;unfold Ln.M.next Ln.M.clear;dsimp only;rw [if_neg (by decide),if_neg (by decide),if_neg (by decide),if_neg (by decide),if_neg (by rw [usual_mid];show¬(0:Nat)= _;decide)]
    dsimp only;rw [show∀y:T,(y.enter p 4 usual.x0).rd.clear.next 48=0 from fun y=>hk _ _,if_pos rfl];rfl
theorem lasts_3 (hp:p<1073741824) (hb:b.right=true) (h:Qk.has p 11=true):Lasts p b (((topL ++ [13,10])++linesL [])++([97,98,99] ++ [13])) 10:=by
 have k1:Fd.parse Fd.c0 [97,98,99]=none:=by decide +kernel
 have k2:∀b1 b2 b4 b5:Bool,Fd.parse ⟨b1,b2,true,b4,b5⟩ [97,98,99]≠none:=by decide +kernel
 obtain ⟨t0,f0,g0⟩:=top_start hb
 obtain ⟨t,f1,g1⟩:=hd_lines hb [] [] _ t0 [] 16 f0 g0 (by decide) (by decide) (by decide +kernel) (by decide);rw [List.nil_append] at g1
 exact field_last hp hb f1 g1 (by decide) (by decide) (by decide) (by decide) (by decide) (by rw [Fd.clOf_zero];exact k1) (.inr (by unfold Fd.clOf;rw [h];exact k2 _ _ _ _))
abbrev clBit:Nat→Nat
 | 0=>1 | 1=>2 | 2=>9 | 3=>11 | 4=>29 | _=>15
abbrev clHead:Nat→List UInt8
 | 0=>cl0 | 1=>cl1 | 2=>cl2 | 3=>cl3 | 4=>cl4 | _=>cl5
abbrev clLast:Nat→UInt8
 | 1=>72 | 4=>48 | _=>10
abbrev clS (j:Nat):List UInt8:=clHead j ++ [clLast j]
theorem cl_0 (hp:p<1073741824) (h:Qk.has p 1=true):Lasts p usual cl0 10:=last_1 hp usual_right h
theorem cl_1 (hp:p<1073741824) (h:Qk.has p 2=true):Lasts p usual cl1 72:=last_2 hp usual_right h
theorem cl_2 (hp:p<1073741824) (h:Qk.has p 9=true):Lasts p usual cl2 10:=last_9 hp usual_right h
theorem cl_3 (hp:p<1073741824) (h:Qk.has p 11=true):Lasts p usual cl3 10:=lasts_3 hp usual_right h
theorem cl_4 (hp:p<1073741824) (h:Qk.has p 29=true):Lasts p usual cl4 48:=lasts_4 hp h
theorem cl_5 (hp:p<1073741824) (h:Qk.has p 15=true):Lasts p usual cl5 10:=last_15 hp usual_right h
theorem cl_lasts (hp:p<1073741824):∀{j:Nat},j<6→Qk.has p (clBit j)=true→Lasts p usual (clHead j) (clLast j)
 | 0,_,h=>cl_0 hp h
 | 1,_,h=>cl_1 hp h
 | 2,_,h=>cl_2 hp h
 | 3,_,h=>cl_3 hp h
 | 4,_,h=>cl_4 hp h
 | 5,_,h=>cl_5 hp h
def clBad (j:Nat):Bool:=!(decide ((Q.read 0 usual (clS j)).err=0))&&(Q.read 0 usual (clS j)).out.isEmpty && !(F.feed 0 usual (F.new 0 usual) (clS j)).1.parted
theorem cl_bad:∀{j:Nat},j<6→clBad j=true
 | 0,_=>by decide +kernel
 | 1,_=>by decide +kernel
 | 2,_=>by decide +kernel
 | 3,_=>by decide +kernel
 | 4,_=>by decide +kernel
 | 5,_=>by decide +kernel
theorem clauses {r:Rec.R} {j:Nat} (hr:Neat r) (hp:p<1073741824) (hj:j<6) (h:Qk.has p (clBit j)=true) :
 ∃e:Nat,e≠0∧(∃f:F,F.feed p usual (F.new p usual) (putR r++clS j)=(f,[wrR r])∧f.code=e∧f.parted=true)∧(∃g:F,F.feed 0 usual (F.new 0 usual) (putR r++clS j)=(g,[wrR r])∧g.code=e∧g.parted=false):=by
 have hb:=cl_bad hj;unfold clBad at hb;simp only [Bool.and_eq_true,Bool.not_eq_true',decide_eq_false_iff_not,List.isEmpty_iff] at hb;obtain ⟨⟨h1,h2⟩,h3⟩:=hb;obtain ⟨a1,a2,a3⟩:=put_lasts hr hp (cl_lasts hp hj h) ⟨h1,h2⟩;refine ⟨_,h1,⟨_,Prod.ext rfl a1,a2,a3⟩,⟨_,Prod.ext rfl ?_,?_,?_⟩⟩
 ·rw [put_feed (p:=0) hr (by decide) (by simp)];show wrR r :: _= _;rw [(pass_all (p:=0) (by decide) usual_right (clS j)).1,h2]
 ·rw [put_feed (p:=0) hr (by decide) (by simp)];exact (pass_all (p:=0) (by decide) usual_right (clS j)).2.1
 ·rw [put_feed (p:=0) hr (by decide) (by simp)];exact h3
end
end Go.Proofs.YtnabkcglnbdfeaaGreatDoor.FltC
namespace Go.Proofs.YtnabkcglnbdfeaaGreatDoor.Can
open Go.RowKit Base Txt Par Pg
def kr:Rec.R:=⟨⟨#[80,79,83,84]⟩,⟨#[47]⟩,0,[],false,[97,98],[]⟩
def er:Rec.R:=⟨⟨#[]⟩,⟨#[]⟩,0,[],false,[],[]⟩
def BufF (xs:List UInt8):Each.Fact:=fun v w=>∃B,By.Buf w B v xs
section code
set_option maxHeartbeats 8000000
set_option maxRecDepth 100000
attribute [local go_sem] Base.some_undef
end code
end Go.Proofs.YtnabkcglnbdfeaaGreatDoor.Can
namespace Go.Proofs.YtnabkcglnbdfeaaGreatDoor.Hp
open Go.RowKit Base Txt
def small (f:Fld):Bool:=decide (f.1.size+f.2.size≤120)
def fieldsOk (fs:List Fld):Bool:=decide (fs.length≤20)&&fs.all small
section code
set_option maxHeartbeats 4000000
set_option maxRecDepth 100000
attribute [local go_sem] Base.some_undef
end code
end Go.Proofs.YtnabkcglnbdfeaaGreatDoor.Hp
namespace Go.Proofs.YtnabkcglnbdfeaaGreatDoor.Rec
open Go.RowKit Base Txt
structure Small (r:R):Prop where
 m:r.m.size≤1000
 x:r.x.size≤1000
 fs:r.fs.length≤100
 f:∀f∈r.fs,f.1.size≤1000∧f.2.size≤1000
 body:r.body.length≤1000
 ts:r.ts.length≤100
 t:∀f∈r.ts,f.1.size≤1000∧f.2.size≤1000
def bent (q:Nat) (s:ByteArray) (r:R):R:=
 match q with
 | 0=>{r with m:=r.m ++⟨#[88]⟩}
 | 1=>{r with x:=r.x ++⟨#[120]⟩}
 | 2=>{r with k:=wrap64 (1-r.k)}
 | 3=>{r with fs:=r.fs ++ [(connN,s)]}
 | 4=>{r with ch:=!r.ch}
 | 5=>{r with body:=r.body ++ [120]}
 | _=>{r with ts:=r.ts ++ [(⟨#[90]⟩,⟨#[]⟩)]}
def recordOk (r:R):Bool:=decide (r.m.size+r.x.size+r.body.length<300)&&(Hp.fieldsOk r.fs&&Hp.fieldsOk r.ts)
structure Came (r:R):Prop where
 m:r.m.size≤140737488351232
 x:r.x.size≤140737488351232
 b:r.body.length≤140737488351232
 fs:r.fs.length≤maxLen
 f:∀f∈r.fs,f.1.size≤140737488351232∧f.2.size≤140737488351232
 ts:r.ts.length≤maxLen
 t:∀f∈r.ts,f.1.size≤140737488351232∧f.2.size≤140737488351232
section code
set_option maxHeartbeats 2000000
attribute [local go_sem] Base.some_undef
end code
end Go.Proofs.YtnabkcglnbdfeaaGreatDoor.Rec
namespace Go.Proofs.YtnabkcglnbdfeaaGreatDoor.Rec
open Go.RowKit Base Txt
theorem Bk.grown {w w':World} {g:Nat} {vs:List Value} {row:Option Nat} (h:Bk w g vs) (hg:w.grownBy w' row) (hne:some g≠row):Bk w' g vs:=by
 have hb:=hg.block g h.lt hne;refine ⟨fun k v hv=>?_,fun k hk=>?_,Nat.lt_of_lt_of_le h.lt hg.size⟩
 ·have:=h.c k v hv;unfold World.cell? at this ⊢;simp only [hb];exact this
 ·have:=h.z k hk;unfold World.frozen? at this ⊢;simp only [hb];exact this
theorem lit_lie (w:World) (g:Nat) (hg:g=w.heap.size) (t:TypeId) (vs:List Value) (n:Nat):0<n→∃b off,(some ⟨g,0,none⟩:Option Addr)=some ⟨b,off,none⟩∧∀j u,vs[j]?=some u→(w.alloc (.cells vs.toArray t)).cell? ⟨b,off+j,none⟩=some u:=by intro _;exact ⟨g,0,rfl,fun j u hu=>by rw [Nat.zero_add];exact (Bk.new w g hg t vs).c j u hu⟩
section code
set_option maxHeartbeats 2000000
set_option maxRecDepth 10000
end code
end Go.Proofs.YtnabkcglnbdfeaaGreatDoor.Rec
namespace Go.Proofs.YtnabkcglnbdfeaaGreatDoor.Fd
open Go.RowKit Base Txt Tgt
theorem ba_put_snoc (fs:List Fld) (k:Nat) (h:k<fs.length):((((ba (put (fs.take k))++(fs[k]?.getD dflt).1) ++⟨#[58,32]⟩)++(fs[k]?.getD dflt).2) ++⟨#[13,10]⟩)=ba (put (fs.take (k+1))):=ba_ext (by rw [show (ba (put (fs.take (k+1)))).data.toList=put (fs.take (k+1)) from rfl,put_snoc fs k h];generalize fs[k]?.getD dflt=f;simp [line,ba,ByteArray.data_append])
section code
set_option maxHeartbeats 4000000
set_option maxRecDepth 100000
attribute [local go_sem] Base.some_undef
theorem rput_any (a:Option Addr) (n cap:Nat) (fs:List Fld) (w:World) (hv:Flds w a n fs) (hn:n≤1000000000) (hz:(put fs).length≤1000000000000) :
 Calls Tryz.prog 88 #[.slice a n cap] w fun e w'=>e=.returned (.string (ba (put fs)))∧∃m,w'=w.drewN m:=by
 have HV:=Lib.hid hv;have HL:=Lib.hid hv.1;have HZ:=Lib.hid hz;clear hv hz;obtain ⟨R,hR⟩:∃R,ba (put fs)=R:=⟨_,rfl⟩;rw [hR];have HR:=Lib.hid hR;clear hR;go_enter Tryz.func88,Tryz.ntmps88;go_wp2
 go_loopw [3,4] (fun t i wr=>∃(k q:Nat) (S:ByteArray),k≤n∧i=.int .i64 k∧t=.string S∧wr=w.drewN q∧Hid (S=ba (put (fs.take k)))) (fun _ i _=>n-(intOf i).toNat)
 case atStart=>exact ⟨0,0,⟨#[]⟩,Nat.zero_le _,rfl,rfl,rfl,Lib.hid rfl⟩
 case round=>
  obtain ⟨k,q,S,hk,rfl,rfl,rfl,HS⟩:=hrel;rcases Nat.lt_or_ge k n with hlt | hge
  ·obtain ⟨bl,off,rfl,hbl,hc⟩:=HV.out.2 (by omega);obtain ⟨hc0,hc1⟩:=hc k hlt;have hkl:k<fs.length:=by rw [HL.out];exact hlt
   have hle:=put_take_line fs k hkl;rw [line_length] at hle;have hz:=HZ.out;have hsz:S.size=(put (fs.take k)).length:=by rw [HS.out,Txt.ba_size]
   have HN:=Lib.hid (ba_put_snoc fs k hkl);rw [←HS.out] at HN;clear hc;generalize fs[k]?.getD dflt=f at *;obtain ⟨f0,f1⟩:=f;simp only at hc0 hc1 hle HN;have i1:(k:Int)<(n:Int):=by omega
   have v1:¬9223372036854775807<S.size+f0.size:=by omega
   have v2:¬9223372036854775807<S.size+f0.size+2:=by omega
   have v3:¬9223372036854775807<S.size+f0.size+2+f1.size:=by omega
   have v4:¬9223372036854775807<S.size+f0.size+2+f1.size+2:=by omega
   clear hle hz hsz HS hkl;go_wp2_with fail
   go_quiet (fail);rename_i nq;go_wp2;go_roundw
   case rel=>first | exact ⟨k+1,q+nq,_,by omega,by go_num,rfl,(World.drewN_drewN _ _ _).symm ▸ rfl,HN⟩ | exact ⟨k+1,q+nq,_,by omega,by go_num,rfl,by rw [World.drewN_drewN],HN⟩ | exact ⟨k+1,q+nq,_,by omega,by go_num,rfl,rfl,HN⟩
   case measure=>simp [intOf];omega
  ·obtain rfl:k=n:=by omega
   have hput:fs.take k=fs:=List.take_of_length_le (by rw [HL.out];exact Nat.le_refl _)
   have HF:=Lib.hid (show S=R by rw [HS.out,hput];exact HR.out);clear hput HS;go_wp2;go_ret;exact ⟨by rw [←HF.out];rfl,q,rfl⟩
end code
end Go.Proofs.YtnabkcglnbdfeaaGreatDoor.Fd
namespace Go.Proofs.YtnabkcglnbdfeaaGreatDoor.Fd
open Go.RowKit Base Txt Tgt
section code
set_option maxHeartbeats 4000000
set_option maxRecDepth 100000
attribute [local go_sem] Base.some_undef
end code
end Go.Proofs.YtnabkcglnbdfeaaGreatDoor.Fd
namespace Go.Proofs.YtnabkcglnbdfeaaGreatDoor.Fd
open Go.RowKit Base Txt Tgt
theorem colon_cases (l:List UInt8):((58:UInt8)∉l∧(cutAt 58 l).2.2=false)∨∃j,∃h:j<l.length,l[j]=58∧(58:UInt8)∉l.take j∧(cutAt 58 l).1=l.take j∧(cutAt 58 l).2.1=l.drop (j+1)∧(cutAt 58 l).2.2=true:=by
 rcases cut_cases 58 l with h | ⟨a,r,rfl,h⟩
 ·exact .inl ⟨h,by rw [cutAt_none 58 l h]⟩
 ·refine .inr ⟨a.length,by simp,by simp,by simpa using h,?_,?_,?_⟩
  ·rw [cutAt_app 58 a r h];simp
  ·rw [cutAt_app 58 a r h];simp
  ·rw [cutAt_app 58 a r h]
def nameAt (t:Nat) (w:World):Nat:=match w.cell? ⟨t,0,none⟩ with
 | some (.string b)=>b.size
 | _=>0
theorem nameAt_of {t:Nat} {w:World} {b:ByteArray} (h:w.cell? ⟨t,0,none⟩=some (.string b)):nameAt t w=b.size:=by unfold nameAt;rw [h]
theorem Two.set0 {w0 w:World} {n v N V:ByteArray} {t:Nat} (h:Two w0 n v t N V w) (N':ByteArray):Two w0 n v t N' V (w.setCell ⟨t,0,none⟩ (.string N')):=by
 have h1:=h.k.f.other t 0 (.string N') h.ne
 have hb:=h.k.b.setCell (p:=⟨t,0,none⟩) h.ge (.string N');obtain ⟨c0,c1,z0,z1⟩:=h.f;exact ⟨⟨h1,by simpa using h.k.g,hb⟩,⟨by go_simp,by go_simp,by go_simp,by go_simp⟩,h.ne,by simpa using h.lt,h.ge⟩
theorem not_colon (s:ByteArray) (k:Nat) (h:k<s.size) (j:Nat) (hj:k<j) (hn:(58:UInt8)∉s.data.toList.take j):((s[k].toNat:Int)==58)=false:=by
 refine beq_eq_false_iff_ne.2 fun e=>hn ?_;have hl:k<s.data.toList.length:=by rw [len];exact h
 have e1:s.data.toList[k]=58:=UInt8.toNat_inj.1 (by show s[k].toNat=58;omega);rw [←e1];rw [List.mem_take_iff_getElem];exact ⟨k,by omega,rfl⟩
theorem last_of (n0:List UInt8) (m:Nat) (h:m<n0.length):∃Nn:ByteArray,ba (n0.take (m+1))=Nn∧Nn.size=m+1∧(∃h2:m<Nn.size,Nn[m]=n0[m])∧Nn.extract 0 m=ba (n0.take m):=by
 have hl:(n0.take (m+1)).length=m+1:=by rw [List.length_take];omega
 refine ⟨_,rfl,by rw [Txt.ba_size];exact hl,⟨by rw [Txt.ba_size];omega,?_⟩,?_⟩
 ·show (n0.take (m+1))[m]'(by omega)=n0[m];rw [List.getElem_take]
 ·exact ba_ext (by
   rw [Lib.extract_data];show ((n0.take (m+1)).drop 0).take (m-0)=n0.take m;rw [List.drop_zero,List.take_take]
   congr 1;omega)
section code
set_option maxHeartbeats 4000000
set_option maxRecDepth 100000
attribute [local go_sem] Base.some_undef
theorem rparse_none (s:ByteArray) (p:Nat) (hp:p<4294967296) (w:World) (hs:s.size≤1000000000) (hno:(58:UInt8)∉s.data.toList) :
 Calls Tryz.prog 91 #[.string s,.int .u32 (p:Nat)] w fun e w'=>e=.returned (rv (out (Qk.has p 11)))∧Below w.heap.size w w':=by
 have HH:=Lib.hid (fun w=>Qk.rhas_any p hp 11 w);have HNO:=Lib.hid hno;clear hno;obtain ⟨b,hb⟩:∃b,Qk.has p 11=b:=⟨_,rfl⟩;rw [hb] at HH ⊢;clear hb
 have hW:=Lib.hid (show Below w.heap.size w (w.alloc (.cells #[.string E0,.string E0] 126)) from (Below.refl _ _).alloc (Nat.le_refl _) _);go_enter Tryz.func91,Tryz.ntmps91;go_wp2
 go_loop [7,8] (fun c i=>∃k:Nat,k≤s.size∧c=.int .i64 (-1)∧i=.int .i64 k) (fun _ i=>s.size-(intOf i).toNat)
 case atStart=>exact ⟨0,Nat.zero_le _,rfl,rfl⟩
 case round=>
  obtain ⟨k,hk,rfl,rfl⟩:=hrel;rcases Nat.lt_or_ge k s.size with hlt | hge
  ·have t1:=not_colon s k hlt (k+1) (by omega) (fun h=>HNO.out (List.mem_of_mem_take h));go_wp2;go_round
   case rel=>exact ⟨k+1,by omega,rfl,by go_num⟩
   case measure=>simp [intOf];omega
  ·cases b
   ·go_wp2_with (go_at_call 53;with_reducible refine (HH.out _).mono ?_;rintro e w1 ⟨rfl,hw⟩;rw [hw];clear hw);exact bodyPost_ret (v:=.tuple #[fv E0 E0,.bool false,.int .i64 400]) (by simp [results,Tryz.results91,go_sem]) rfl ⟨rfl,hW.out⟩
   ·go_wp2_with (go_at_call 53;with_reducible refine (HH.out _).mono ?_;rintro e w1 ⟨rfl,hw⟩;rw [hw];clear hw);exact bodyPost_ret (v:=.tuple #[fv E0 E0,.bool false,.int .i64 0]) (by simp [results,Tryz.results91,go_sem]) rfl ⟨rfl,hW.out⟩
theorem rparse_some (s:ByteArray) (p:Nat) (hp:p<4294967296) (w:World) (hs:s.size≤1000000000) (j:Nat) (hj:j<s.size) (hc:s[j]=58) (hno:(58:UInt8)∉s.data.toList.take j) :
 Calls Tryz.prog 91 #[.string s,.int .u32 (p:Nat)] w fun e w'=>e=.returned (rv (read (clOf p) (nameL (clOf p) (s.data.toList.take j)) (trimL Txt.blank (s.data.toList.drop (j+1)))))∧Below w.heap.size w w':=by
 have H9:=Lib.hid (fun w=>Qk.rhas_any p hp 9 w)
 have H10:=Lib.hid (fun w=>Qk.rhas_any p hp 10 w)
 have H12:=Lib.hid (fun w=>Qk.rhas_any p hp 12 w)
 have H14:=Lib.hid (fun w=>Qk.rhas_any p hp 14 w)
 have e1:s.extract 0 j=ba (s.data.toList.take j):=ba_ext (by rw [Lib.extract_data];simp [ba])
 have e2:s.extract (j+1) s.size=ba (s.data.toList.drop (j+1)):=ba_ext (by rw [Lib.extract_data,List.take_of_length_le (by rw [List.length_drop,len];omega)];rfl)
 have HT:=Lib.hid (fun w=>rtrim_any (s.extract (j+1) s.size) w (by unfold maxLen;rw [ByteArray.size_extract];omega));have hT:trim (s.extract (j+1) s.size)=ba (trimL Txt.blank (s.data.toList.drop (j+1))):=by rw [e2];rfl
 rw [hT] at HT
 have hvl:(trimL Txt.blank (s.data.toList.drop (j+1))).length≤s.size:=Nat.le_trans (trimL_length _ _) (by rw [List.length_drop,len];omega);have hnl:(s.data.toList.take j).length=j:=by rw [List.length_take,len];omega
 have E1:=Lib.hid e1;have t0:((s[j].toNat:Int)==58)=true:=by rw [hc];rfl
 have HNC:=Lib.hid (fun k (h:k<s.size) (hk:k<j)=>not_colon s k h j hk hno);clear e1 e2 hT hno hc;generalize s.data.toList.take j=n0 at *;generalize trimL Txt.blank (s.data.toList.drop (j+1))=v1 at *
 have hW:=Lib.hid (show Below w.heap.size w (w.alloc (.cells #[.string E0,.string E0] 126)) from (Below.refl _ _).alloc (Nat.le_refl _) _);obtain ⟨R,hR⟩:∃R,rv (read (clOf p) (nameL (clOf p) n0) v1)=R:=⟨_,rfl⟩;rw [hR];have HR0:=Lib.hid hR;clear hR;go_enter Tryz.func91,Tryz.ntmps91;go_upto_block 0 with fail
 go_cut [7,8] from 10 (fun c i wx=>c=.int .i64 (j:Nat)∧wx=w.alloc (.cells #[.string E0,.string E0] 126))
 case first=>
  go_wp2_with fail
  go_loop [7,8] (fun c i=>(∃k:Nat,k≤j∧c=.int .i64 (-1)∧i=.int .i64 k)∨(c=.int .i64 (j:Nat)∧i=.int .i64 ((j+1:Nat):Int))) (fun _ i=>s.size-(intOf i).toNat)
  case atStart=>exact .inl ⟨0,Nat.zero_le _,rfl,rfl⟩
  case round=>
   rcases hrel with ⟨k,hk,rfl,rfl⟩ | ⟨rfl,rfl⟩
   ·have hlt:k<s.size:=by omega
    rcases Nat.lt_or_ge k j with hkj | hkj
    ·have t1:=HNC.out k hlt hkj;clear t0;go_wp2;go_round
     case rel=>exact .inl ⟨k+1,by omega,rfl,by go_num⟩
     case measure=>simp [intOf];omega
    ·obtain rfl:k=j:=by omega
     go_wp2;go_round
     case rel=>exact .inr ⟨rfl,by go_num⟩
     case measure=>simp [intOf];omega
   ·have q0:¬(j:Int)<0:=by omega
    go_wp2;all_goals
     go_meet
     case rel=>exact ⟨rfl,rfl⟩
 case rest=>
  obtain ⟨rfl,hw0⟩:=hcut;rw [hw0];clear hw0;have q0:¬(j:Int)<0:=by omega
  have q1:(0:Int)≤(j:Int):=by omega
  have q2:(j:Int)≤(s.size:Int):=by omega
  have q3:IntKind.i64.wrap ((j:Int)+1)=((j+1:Nat):Int):=by rw [wrap_in _ (by omega) (by omega)];omega
  have q4:((j+1:Nat):Int)≤(s.size:Int):=by omega
  have q5:(0:Int)≤((j+1:Nat):Int):=by omega
  go_upto_region 11 with fail
  go_cut [9] from 31 (fun f wx=>f=.pointer (some ⟨w.heap.size+1,0,none⟩)∧wx=((w.alloc (.cells #[.string E0,.string E0] 126)).alloc (.cells #[.string (s.extract 0 j),.string (ba v1)] 126)).drew)
  case first=>
   go_region_with (go_at_call 129;with_reducible refine (HT.out _).mono ?_;rintro e w1 ⟨rfl,hw⟩;rw [hw];clear hw);all_goals
    go_wp2_with fail;go_meet
    case rel=>exact ⟨rfl,rfl⟩
  case rest=>
   obtain ⟨rfl,hw0⟩:=hcut;have hts:(w.alloc (.cells #[.string E0,.string E0] 126)).heap.size=w.heap.size+1:=by simp
   have HX:=(Two.new (Keep.new w 126 E0 E0) 126 (s.extract 0 j) (ba v1)).drew 1;rw [hts,E1.out] at HX;rw [E1.out] at hw0
   replace HX:=Lib.hid (show Two w E0 E0 (w.heap.size+1) (ba n0) (ba v1) wc by rw [hw0];exact HX)
   clear hw0 hts hW HT E1 HNC t0 q0 q1 q2 q3 q4 q5;have htz:w.heap.size+1=w.heap.size+1:=rfl;generalize w.heap.size+1=t at *;clear htz;have hnf:∀x,nameL (clOf p) x=if Qk.has p 9=true then trimEnd x else x:=fun _=>rfl
   obtain ⟨sp,hsp⟩:∃sp,Qk.has p 9=sp:=⟨_,rfl⟩;rw [hsp] at H9 hnf;clear hsp;have HNF:=Lib.hid hnf;clear hnf;have hn1l:=nameL_le (clOf p) n0;rw [hnl] at hn1l;go_upto_block 2 with fail
   go_cut [] from 40 (fun wx=>Hid (Two w E0 E0 t (ba (nameL (clOf p) n0)) (ba v1) wx))
   case first=>
    go_wp2_with fail
    go_loopw [] (fun wr=>∃m:Nat,m≤j∧Hid (Two w E0 E0 t (ba (n0.take m)) (ba v1) wr)∧Hid (nameL (clOf p) (n0.take m)=nameL (clOf p) n0)) (fun wr=>nameAt t wr)
    case atStart=>exact ⟨j,Nat.le_refl _,Lib.hid (by rw [List.take_of_length_le (by omega)];exact HX.out),Lib.hid (by rw [List.take_of_length_le (by omega)])⟩
    case round=>
     obtain ⟨m,hm,HY,HR⟩:=hrel;obtain ⟨⟨⟨c0,c1,z0,z1⟩,hg,hbk⟩,⟨d0,d1,y0,y1⟩,hne,hlt,hge⟩:=HY.out;have hna:=nameAt_of d0;clear c0 c1 z0 z1 hg hbk hlt hge;cases sp with
     | false=>
       have HZ:=Lib.hid (show Two w E0 E0 t (ba (nameL (clOf p) n0)) (ba v1) wr by rw [←HR.out,HNF.out,if_neg (by decide)];exact HY.out)
       go_wp2_with (go_at_call 53;with_reducible refine (H9.out _).mono ?_;rintro e w1 ⟨rfl,hw⟩;rw [hw];clear hw);go_meet
       case rel=>exact HZ
     | true=>
       rcases m with _ | m
       ·have HZ:=Lib.hid (show Two w E0 E0 t (ba (nameL (clOf p) n0)) (ba v1) wr by
         rw [←HR.out,HNF.out,if_pos rfl];exact HY.out)
        rw [show ba (n0.take 0)=E0 from rfl] at d0
        go_wp2_with (go_at_call 53;with_reducible refine (H9.out _).mono ?_;rintro e w1 ⟨rfl,hw⟩;rw [hw];clear hw);go_meet
        case rel=>exact HZ
       ·have hml:m<n0.length:=by omega
        have htk:=List.take_succ_eq_append_getElem hml;obtain ⟨Nn,hNn,hsz,⟨z2,hat⟩,hex⟩:=last_of n0 m hml;rw [hNn] at d0 hna
        have hno:=first_no Nn (by omega);have HB:Hid (∀w,Calls Tryz.prog 130 #[.int .u8 (Nn[m].toNat:Int)] w fun e w'=>e=.returned (.bool (Txt.blank n0[m]))∧w'=w):=Lib.hid fun w=>by
         have:=Oct.rblank_any (Nn[m].toNat:Int) w;rw [blank_is] at this
         rwa [show Txt.blank Nn[m]=Txt.blank n0[m] from congrArg _ hat] at this
        have z1:IntKind.i64.wrap ((Nn.size:Int)-1)=(m:Int):=by rw [wrap_in _ (by omega) (by omega)];omega
        have z3:(m:Int)<(Nn.size:Int):=by omega
        have z4:(m:Int)≤(Nn.size:Int):=by omega
        have z5:(0:Int)≤(m:Int):=by omega
        cases hb:Txt.blank n0[m] with
        | false=>
          rw [hb] at HB
          have HZ:=Lib.hid (show Two w E0 E0 t (ba (nameL (clOf p) n0)) (ba v1) wr by rw [←HR.out,HNF.out,if_pos rfl,htk,trimEnd_stop _ _ hb,←htk];exact HY.out)
          clear hb htk HY HR hex hat hNn
          go_wp2_with (first
           |(go_at_call 53;with_reducible refine (H9.out _).mono ?_;rintro e w1 ⟨rfl,hw⟩;rw [hw];clear hw)
           |(go_at_call 130;with_reducible refine (HB.out _).mono ?_;rintro e w1 ⟨rfl,hw⟩;rw [hw];clear hw))
          go_meet
          case rel=>exact HZ
        | true=>
          rw [hb] at HB
          have HY2:=Lib.hid (HY.out.set0 (Nn.extract 0 m))
          have HR2:=Lib.hid (show nameL (clOf p) (n0.take m)=nameL (clOf p) n0 by rw [←HR.out,HNF.out,HNF.out,if_pos rfl,if_pos rfl,htk,trimEnd_snoc _ _ hb])
          have HE:=Lib.hid hex;clear hb htk HY HR hex hat hNn
          go_wp2_with (first
           |(go_at_call 53;with_reducible refine (H9.out _).mono ?_;rintro e w1 ⟨rfl,hw⟩;rw [hw];clear hw)
           |(go_at_call 130;with_reducible refine (HB.out _).mono ?_;rintro e w1 ⟨rfl,hw⟩;rw [hw];clear hw))
          have hd:=HY2.out.f.c0;have hs2:(Nn.extract 0 m).size=m:=by rw [ByteArray.size_extract];omega
          rw [HE.out] at HY2;go_roundw
          case rel=>exact ⟨m,by omega,by first | exact HY2 |(rw [HE.out];exact HY2),HR2⟩
          case measure=>rw [nameAt_of hd,hna];omega
   case rest=>
    clear HX;have HX:=hcut;clear hcut H9 HNF;generalize nameL (clOf p) n0=n1 at *;by_cases hn:n1= []
    ·subst hn;have hRv:R=rv (out (Qk.has p 12)):=by rw [←HR0.out];rfl
     clear HR0;generalize Qk.has p 12=nn at *;obtain ⟨⟨⟨c0,c1,z0,z1⟩,hg,hbk⟩,⟨d0,d1,y0,y1⟩,hne,hlt,hge⟩:=HX.out;obtain ⟨W9,hW9,⟨r0,r1,_,_⟩,hbW⟩:=Fb.put HX.out.k.f HX.out.k.b (Nat.le_refl _) E0 E0;rw [show ba []=E0 from rfl] at d0;clear hg hbk hlt hge;cases nn
     ·go_wp2_with (go_at_call 53;with_reducible refine (H12.out _).mono ?_;rintro e w1 ⟨rfl,hw⟩;rw [hw];clear hw);try rw [hW9]
      exact bodyPost_ret (v:=.tuple #[fv E0 E0,.bool false,.int .i64 400]) (by simp [results,Tryz.results91,go_sem,r0,r1]) rfl ⟨by first | rfl |(rw [hRv];rfl),hbW⟩
     ·go_wp2_with (go_at_call 53;with_reducible refine (H12.out _).mono ?_;rintro e w1 ⟨rfl,hw⟩;rw [hw];clear hw);try rw [hW9]
      exact bodyPost_ret (v:=.tuple #[fv E0 E0,.bool false,.int .i64 0]) (by simp [results,Tryz.results91,go_sem,r0,r1]) rfl ⟨by first | rfl |(rw [hRv];rfl),hbW⟩
    ·have t0:=first_no (ba n1) (ba_pos hn)
     have HN:=Lib.hid (fun w a (hk:Ints w a 1 [1])=>Oct.rall_any (ba n1) a 1 1 [1] w (by rw [Txt.ba_size];unfold maxLen;omega) hk (by decide))
     have HV:=Lib.hid (fun w a (hk:Ints w a 1 [6])=>Oct.rall_any (ba v1) a 1 1 [6] w (by rw [Txt.ba_size];unfold maxLen;omega) hk (by decide));rw [show (ba n1).data.toList=n1 from rfl] at HN;rw [show (ba v1).data.toList=v1 from rfl] at HV;obtain ⟨G,hG⟩:∃G,(!(goodN (clOf p) n1&&goodV (clOf p) v1))=G:=⟨_,rfl⟩
     have HG:=Lib.hid (show G= !((Qk.has p 10||Oct.allOf [1] n1)&&(Qk.has p 14||Oct.allOf [6] v1)) from hG.symm)
     have HRv:=Lib.hid (show R=if G=true then rv none else rv (some (some (n1,v1))) by rw [←HR0.out,←hG];unfold read;rw [if_neg hn];cases (goodN (clOf p) n1&&goodV (clOf p) v1)<;>rfl)
     have HF:Hid (rv (some (some (n1,v1)))=.tuple #[fv (ba n1) (ba v1),.bool true,.int .i64 0]):=Lib.hid rfl;clear hG HR0 hn hnl hvl hn1l H12;generalize ba n1=N1 at *;generalize ba v1=V1 at *;obtain ⟨⟨⟨c0,c1,z0,z1⟩,hg,hbk⟩,⟨d0,d1,y0,y1⟩,hne,hlt,hge⟩:=HX.out;clear hg hbk hlt hge c0 c1 z0 z1;go_upto_region 18 with fail
     go_cut [93] from 72 (fun v wx=>v=.bool G∧Hid (Two w E0 E0 t N1 V1 wx))
     case first=>
      clear HRv HF t0;generalize Qk.has p 10=nb at *;generalize Qk.has p 14=vb at *;generalize Oct.allOf [1] n1=tn at *;generalize Oct.allOf [6] v1=tv at *;have hGG:=HG.out;clear HG;cases nb<;>cases tn<;>cases vb<;>cases tv;all_goals
       obtain rfl:=hGG
       go_wp2_with (first
        |(go_at_call 53;with_reducible refine (H10.out _).mono ?_;rintro e w1 ⟨rfl,hw⟩;rw [hw];clear hw)
        |(go_at_call 53;with_reducible refine (H14.out _).mono ?_;rintro e w1 ⟨rfl,hw⟩;rw [hw];clear hw)
        |(go_at_call 131;(with_reducible refine (HV.out _ _ (Ints.one _ _ rfl _ _)).mono ?_);rintro e w1 ⟨rfl,m,hw⟩
          replace HX:=Lib.hid ((HX.out.step ((Below.refl _ _).alloc (Nat.le_refl _) (.cells #[.int .i64 6] 3))).drew m)
          rw [←hw] at HX;clear hw)
        |(go_at_call 131;(with_reducible refine (HN.out _ _ (Ints.one _ _ rfl _ _)).mono ?_);rintro e w1 ⟨rfl,m,hw⟩
          replace HX:=Lib.hid ((HX.out.step ((Below.refl _ _).alloc (Nat.le_refl _) (.cells #[.int .i64 1] 3))).drew m)
          rw [←hw] at HX;clear hw d0 d1 y0 y1;obtain ⟨d0,d1,y0,y1⟩:=HX.out.f))
       go_meet
       case rel=>exact ⟨by rfl,HX⟩
     case rest=>
      obtain ⟨rfl,HY⟩:=hcut;clear HX HG d0 d1 y0 y1 t0 HN HV H10 H14;obtain ⟨⟨⟨c0,c1,z0,z1⟩,hg,hbk⟩,⟨d0,d1,y0,y1⟩,hne,hlt,hge⟩:=HY.out;clear hg hbk hlt hge;cases G with
      | true=>
        have hRv:=HRv.out;rw [if_pos rfl] at hRv;obtain ⟨W9,hW9,⟨r0,r1,_,_⟩,hbW⟩:=Fb.put HY.out.k.f HY.out.k.b (Nat.le_refl _) E0 E0;go_wp2_with fail;try rw [hW9]
        exact bodyPost_ret (v:=.tuple #[fv E0 E0,.bool false,.int .i64 400]) (by simp [results,Tryz.results91,go_sem,r0,r1]) rfl ⟨by first | rfl |(rw [hRv];rfl),hbW⟩
      | false=>
        have hRv:=HRv.out;rw [if_neg (by decide),HF.out] at hRv;obtain ⟨W9,hW9,⟨r0,r1,_,_⟩,hbW⟩:=Fb.put HY.out.k.f HY.out.k.b (Nat.le_refl _) N1 V1;go_wp2_with fail;try rw [hW9]
        exact bodyPost_ret (v:=.tuple #[fv N1 V1,.bool true,.int .i64 0]) (by simp [results,Tryz.results91,go_sem,r0,r1]) rfl ⟨by first | rfl | rw [hRv],hbW⟩
theorem rparse_any (s:ByteArray) (p:Nat) (hp:p<4294967296) (w:World) (hs:s.size≤1000000000):Calls Tryz.prog 91 #[.string s,.int .u32 (p:Nat)] w fun e w'=>e=.returned (rv (parse (clOf p) s.data.toList))∧Below w.heap.size w w':=by
 rcases colon_cases s.data.toList with ⟨h1,h2⟩ | ⟨j,hj,h1,h2,h3,h4,h5⟩
 ·have:=rparse_none s p hp w hs h1;unfold parse;rw [if_neg (by rw [h2];decide)];exact this
 ·have:=rparse_some s p hp w hs j (by rw [←len];exact hj) h1 h2;unfold parse;rw [if_pos h5,h3,h4];exact this
end code
end Go.Proofs.YtnabkcglnbdfeaaGreatDoor.Fd
