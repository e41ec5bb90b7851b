import Derived.Test.YtnabkcglnbdfeaaGreatDoorFej
namespace Go.Proofs.YtnabkcglnbdfeaaGreatDoor.Pg
open Go.RowKit Base Txt Par
structure RelW (m:Ln.M) (q:Ln.R):Prop where
 lf:q.lf=m.lf
 cr:q.cr=m.cr
 most:q.most=m.most
 dead:q.dead=false
 CR:q.CR=m.pend
 B:q.B=if Ln.ended m.last then [] else m.buf
structure Fresh (m:Ln.M):Prop where
 buf:(if Ln.ended m.last then [] else m.buf)= []
 pend:m.pend=false
theorem RelW.step {m:Ln.M} {q:Ln.R} (h:RelW m q) (hm:m.Ok) (hf:Ln.failed m.last=false) (c:UInt8) :
 q.how c=m.clear.next c∧(Ln.failed (m.clear.next c)=false→RelW (m.byte c) (q.byte c)∧(q.byte c).L=(m.byte c).line):=by
 have hr:Ln.Rel m {q with L:=m.line}:=⟨h.lf,h.cr,h.most,h.dead.trans hf.symm,rfl,fun _=>h.CR,fun _=>h.B⟩;have h1:=Ln.step_how hr hm c;have h2:=Ln.step_rel hr hm c;have e:({q with L:=m.line}:Ln.R).byte c=q.byte c:=by simp [Ln.R.byte,Ln.R.start,Ln.R.fin,Ln.R.die,h.dead]
 rw [e] at h2;refine ⟨h1,fun hn=>?_⟩;exact ⟨⟨h2.lf,h2.cr,h2.most,h2.dead.trans hn,h2.CR hn,h2.B hn⟩,h2.L⟩
theorem Fresh.isNew {t:T} (h:Fresh t.rd):t.isNew=true:=by
 have h1:t.rd.len=0:=by
  have:=congrArg List.length h.buf;unfold Ln.M.len;split
  ·rfl
  ·rename_i hn;rw [if_neg hn] at this;exact this
 unfold T.isNew;rw [h1,h.pend];rfl
structure R0 (p:Nat) (b:Bd) (t:T) (s:S):Prop where
 e:s.e=0
 st:t.st=s.st+1
 r:s.r=t.r
 out:s.out=t.out
 head:s.head=t.size
 hl:s.st≤1→s.lines=t.hl
 bl:s.st=6→s.lines=t.bl
 bl0:s.st≠6→t.bl=0
 left:Par.bodied s.st=true→s.left=t.left
 rd:Par.bodied s.st=false→RelW t.rd s.rd
 fr:Par.bodied s.st=true→Fresh t.rd
 lf:t.rd.lf=Qk.has p 1
 cr:t.rd.cr=Qk.has p 2
 most:s.st≠5→t.rd.most=Ln.mid b.x0
 beh:s.st=5→t.r.body≠ []
 ch:t.r.ch=decide (3≤s.st)
structure RR (p:Nat) (b:Bd) (t:T) (s:S):Prop extends R0 p b t s where
 fresh:s.fresh=t.next
 clean:s.clean=(t.st==1&&t.isNew)
def RQ (p:Nat) (b:Bd):Q→S→Prop
 | .live t,s=>RR p b t s
 | .dead e o,s=>s.e=e∧e≠0∧s.out=o∧s.clean=false
section
variable {p:Nat} {b:Bd} {t:T} {s:S}
theorem Fresh.nl {m:Ln.M} (h:Fresh m) (hl:m.lf=Qk.has p 1) (hc:m.cr=Qk.has p 2) (hm:m.most=Ln.mid b.x0):RelW m (nl p b.x0):=
 ⟨hl.symm,hc.symm,hm.symm,rfl,h.pend.symm,h.buf.symm⟩
theorem fresh_of (most:Int):Fresh (Ln.M.of p most):=⟨rfl,rfl⟩
theorem next_st (h3:t.st≠3) (h4:t.st≠4):t.next=false:=by unfold T.next;rw [beq_eq_false_iff_ne.2 h3,beq_eq_false_iff_ne.2 h4];rfl
theorem next_body (h:t.r.body≠ []):t.next=false:=by
 unfold T.next;have:t.r.body.isEmpty=false:=by
  cases hb:t.r.body with
  | nil=>exact absurd hb h
  | cons _ _=>rfl
 rw [this,Bool.false_and,Bool.and_false]
theorem clean_st (h:t.st≠1):(t.st==1&&t.isNew)=false:=by rw [beq_eq_false_iff_ne.2 h];rfl
theorem ends_err {e:Nat} {t:T} (he:e≠0):ends (e,t)=.dead e t.out:=if_neg he
theorem fail_sim {e:Nat} (h:R0 p b t s) (he:e≠0):RQ p b (.dead e t.out) (s.fail e):=⟨rfl,he,h.out,rfl⟩
theorem bod (h:R0 p b t s):Pg.bodied t.st=Par.bodied s.st:=by
 rw [h.st];unfold Pg.bodied Par.bodied;have e1:(s.st+1==3)=(s.st==2):=by rw [Bool.eq_iff_iff,beq_iff_eq,beq_iff_eq];omega
 have e2:(s.st+1==5)=(s.st==4):=by rw [Bool.eq_iff_iff,beq_iff_eq,beq_iff_eq];omega
 rw [e1,e2]
theorem hed (h:R0 p b t s):Pg.headed t.st=Par.headed s.st:=by
 rw [h.st];unfold Pg.headed Par.headed;have e1:(s.st+1==1)=(s.st==0):=by rw [Bool.eq_iff_iff,beq_iff_eq,beq_iff_eq];omega
 have e2:(s.st+1==2)=(s.st==1):=by rw [Bool.eq_iff_iff,beq_iff_eq,beq_iff_eq];omega
 have e3:(s.st+1==7)=(s.st==6):=by rw [Bool.eq_iff_iff,beq_iff_eq,beq_iff_eq];omega
 rw [e1,e2,e3]
theorem long_sim (h:R0 p b t s):Pg.longE t.st=Par.longE s.st∧Par.longE s.st≠0:=by
 rw [h.st];unfold Pg.longE Par.longE Par.headed;by_cases h0:s.st=0
 ·simp [h0]
 ·by_cases h1:s.st=1
  ·simp [h1]
  ·by_cases h6:s.st=6
   ·simp [h6]
   ·rw [if_neg (by omega),if_neg (by omega),if_neg h0,if_neg (by simp [h0,h1,h6])];decide
theorem whole_sim (h:R0 p b t s) (hf:Fresh t.rd) (h5:s.st≠5):RR p b t.fin (s.whole p b) where
 e:=h.e
 st:=rfl
 r:=rfl
 out:=by show s.out ++ [s.r]=t.out ++ [t.r];rw [h.out,h.r]
 head:=rfl
 hl:=fun _=>rfl
 bl:=fun e=>absurd e (by show (0:Nat)≠6;decide)
 bl0:=fun _=>rfl
 left:=fun e=>absurd e (by show Par.bodied 0≠true;decide)
 rd:=fun _=>hf.nl h.lf h.cr (h.most h5)
 fr:=fun e=>absurd e (by show Par.bodied 0≠true;decide)
 lf:=h.lf
 cr:=h.cr
 most:=fun _=>h.most h5
 beh:=fun e=>absurd e (by show (0:Nat)≠5;decide)
 ch:=rfl
 fresh:=(next_st (t:=t.fin) (by show (1:Nat)≠3;decide) (by show (1:Nat)≠4;decide)).symm
 clean:=by
  have:t.fin.isNew=true:=Fresh.isNew (t:=t.fin) hf
  show true=((1:Nat)==1&&t.fin.isNew);rw [this];rfl
theorem first_sim (h:R0 p b t s) (hf:Fresh t.rd) (hc:s.clean=false) (hfr:s.fresh=false) (hs:s.st=0) (ln:List UInt8):RQ p b (ends (t.first p b ln)) (s.first p b ln):=by
 have ht:t.st=1:=by rw [h.st,hs]
 unfold T.first S.first;by_cases h0:ln= []
 ·simp only [if_pos h0];cases hq:Qk.has p 0 with
  | true=>
    simp only [if_true]
    exact {h with
     fresh:=hfr.trans (next_st (t:=t) (by omega) (by omega)).symm
     clean:=by
      show true= _
      rw [hf.isNew,ht];rfl}
  | false=>
    simp only [Bool.false_eq_true,if_false];rw [ends_err (by decide)]
    exact fail_sim h (by decide)
 ·simp only [if_neg h0];generalize Rq.request (Rq.clOf p) b.od ln=q;by_cases hq:q.2.2.2=0
  ·simp only [hq,if_true,ne_eq,not_true_eq_false,if_false];show RR p b _ _
   exact {
    e:=h.e
    st:=rfl
    r:=by show ({s.r with m:=ba q.1,x:=ba q.2.1,k:=(q.2.2.1:Int)}:Rec.R)={t.r with m:=ba q.1,x:=ba q.2.1,k:=(q.2.2.1:Int)};rw [h.r]
    out:=h.out
    head:=h.head
    hl:=fun _=>h.hl (by omega)
    bl:=fun e=>absurd e (by show (1:Nat)≠6;decide)
    bl0:=fun _=>h.bl0 (by omega)
    left:=fun e=>absurd e (by show Par.bodied 1≠true;decide)
    rd:=fun _=>h.rd (by rw [hs];rfl)
    fr:=fun e=>absurd e (by show Par.bodied 1≠true;decide)
    lf:=h.lf
    cr:=h.cr
    most:=fun _=>h.most (by omega)
    beh:=fun e=>absurd e (by show (1:Nat)≠5;decide)
    ch:=by show t.r.ch=decide (3≤1);rw [h.ch,hs];rfl
    fresh:=hfr.trans (next_st (t:={t with r:={t.r with m:=ba q.1,x:=ba q.2.1,k:=(q.2.2.1:Int)},st:=2}) (by show (2:Nat)≠3;decide) (by show (2:Nat)≠4;decide)).symm
    clean:=hc}
  ·rw [if_neg hq,if_pos hq,ends_err hq];exact fail_sim h hq
theorem over_sim (h:R0 p b t s) (ok:t.Ok) (hf:Fresh t.rd) (hc:s.clean=false) (hs:s.st=1):RQ p b (ends (t.endHead p b)) (s.over p b):=by
 have ht:t.st=2:=by rw [h.st,hs]
 have hbody:t.r.body= []:=ok.early (by omega);have hnew:=hf.isNew;unfold T.endHead S.over;rw [h.r];have hp:=fun h1=>decide_pos (d:=Frm.decideV (Frm.clOf p) b.ch b.x3 t.r.k t.r.fs) rfl h1;generalize Frm.decideV (Frm.clOf p) b.ch b.x3 t.r.k t.r.fs=d at hp ⊢;by_cases h1:d.2.2=0
 ·simp only [h1,ne_eq,not_true_eq_false,if_false];by_cases h2:d.1=2
  ·simp only [if_pos h2];show RR p b _ _
   exact {
    e:=h.e
    st:=rfl
    r:=rfl
    out:=h.out
    head:=h.head
    hl:=fun e=>absurd e (by show¬(3:Nat)≤1;decide)
    bl:=fun e=>absurd e (by show (3:Nat)≠6;decide)
    bl0:=fun _=>h.bl0 (by omega)
    left:=fun e=>absurd e (by show Par.bodied 3≠true;decide)
    rd:=fun _=>hf.nl h.lf h.cr (h.most (by omega))
    fr:=fun e=>absurd e (by show Par.bodied 3≠true;decide)
    lf:=h.lf
    cr:=h.cr
    most:=fun _=>h.most (by omega)
    beh:=fun e=>absurd e (by show (3:Nat)≠5;decide)
    ch:=rfl
    fresh:=by show true=(((4:Nat)==3|| (4:Nat)==4)&&(t.r.body.isEmpty&&t.isNew));rw [hbody,hnew];rfl
    clean:=hc.trans (clean_st (t:={t with r:={t.r with ch:=true},st:=4}) (by show (4:Nat)≠1;decide)).symm}
  ·simp only [if_neg h2];by_cases h3:d.2.1=0
   ·simp only [if_pos h3]
    exact whole_sim h hf (by omega)
   ·simp only [if_neg h3];show RR p b _ _
    exact {
     e:=h.e
     st:=rfl
     r:=rfl
     out:=h.out
     head:=h.head
     hl:=fun e=>absurd e (by show¬(2:Nat)≤1;decide)
     bl:=fun e=>absurd e (by show (2:Nat)≠6;decide)
     bl0:=fun _=>h.bl0 (by omega)
     left:=fun _=>rfl
     rd:=fun e=>absurd e (by show Par.bodied 2≠false;decide)
     fr:=fun _=>hf
     lf:=h.lf
     cr:=h.cr
     most:=fun _=>h.most (by omega)
     beh:=fun e=>absurd e (by show (2:Nat)≠5;decide)
     ch:=by show t.r.ch=decide (3≤2);rw [h.ch,hs];rfl
     fresh:=by show true=(((3:Nat)==3|| (3:Nat)==4)&&(t.r.body.isEmpty&&t.isNew));rw [hbody,hnew];rfl
     clean:=hc.trans (clean_st (t:={t with left:=d.2.1.toNat,st:=3}) (by show (3:Nat)≠1;decide)).symm}
 ·simp only [ne_eq,h1,not_false_eq_true,if_true];rw [ends_err (hp h1)]
  exact fail_sim h (hp h1)
theorem fields_sim (h:R0 p b t s) (ok:t.Ok) (hf:Fresh t.rd) (hc:s.clean=false) (hfr:s.fresh=false) (hs:s.st=1) (ln:List UInt8):RQ p b (ends (t.fields p b ln)) (s.fields p b ln):=by
 have ht:t.st=2:=by rw [h.st,hs]
 unfold T.fields S.fields;by_cases h0:ln= []
 ·simp only [if_pos h0];exact over_sim h ok hf hc hs
 ·simp only [if_neg h0];rw [h.r,h.hl (by omega)];cases hv:fieldV p t.hl t.r.fs ln b.x1 with
  | inl e=>
    have he:e≠0:=by rcases fieldV_err hv with e1 | e1<;>rw [e1]<;>decide
    simp only [listE];rw [ends_err he];exact ⟨rfl,he,h.out,rfl⟩
  | inr l=>
    show RR p b _ _
    exact {
     e:=h.e
     st:=h.st
     r:=rfl
     out:=h.out
     head:=h.head
     hl:=fun _=>rfl
     bl:=fun e=>absurd e (by show s.st≠6;omega)
     bl0:=fun _=>h.bl0 (by omega)
     left:=fun e=>absurd e (by show Par.bodied s.st≠true;rw [hs];decide)
     rd:=fun _=>h.rd (by rw [hs];rfl)
     fr:=fun e=>absurd e (by show Par.bodied s.st≠true;rw [hs];decide)
     lf:=h.lf
     cr:=h.cr
     most:=fun _=>h.most (by omega)
     beh:=fun e=>absurd e (by show s.st≠5;omega)
     ch:=h.ch
     fresh:=hfr.trans (next_st (t:={t with hl:=t.hl+1,r:={t.r with fs:=l}}) (by show t.st≠3;omega) (by show t.st≠4;omega)).symm
     clean:=hc.trans (clean_st (t:={t with hl:=t.hl+1,r:={t.r with fs:=l}}) (by show t.st≠1;omega)).symm}
theorem trail_sim (h:R0 p b t s) (hf:Fresh t.rd) (hc:s.clean=false) (hfr:s.fresh=false) (hs:s.st=6) (ln:List UInt8):RQ p b (ends (t.trail p b ln)) (s.trail p b ln):=by
 have ht:t.st=7:=by rw [h.st,hs]
 unfold T.trail S.trail;by_cases h0:ln= []
 ·simp only [if_pos h0]
  exact whole_sim h hf (by omega)
 ·simp only [if_neg h0];rw [h.r,h.bl hs];cases hv:fieldV p t.bl t.r.ts ln b.x5 with
  | inl e=>
    have he:e≠0:=by rcases fieldV_err hv with e1 | e1<;>rw [e1]<;>decide
    simp only [listE];rw [ends_err he];exact ⟨rfl,he,h.out,rfl⟩
  | inr l=>
    show RR p b _ _
    exact {
     e:=h.e
     st:=h.st
     r:=rfl
     out:=h.out
     head:=h.head
     hl:=fun e=>absurd e (by show¬s.st≤1;omega)
     bl:=fun _=>rfl
     bl0:=fun e=>absurd hs e
     left:=fun e=>absurd e (by show Par.bodied s.st≠true;rw [hs];decide)
     rd:=fun _=>h.rd (by rw [hs];rfl)
     fr:=fun e=>absurd e (by show Par.bodied s.st≠true;rw [hs];decide)
     lf:=h.lf
     cr:=h.cr
     most:=fun _=>h.most (by omega)
     beh:=fun e=>absurd e (by show s.st≠5;omega)
     ch:=h.ch
     fresh:=hfr.trans (next_st (t:={t with bl:=t.bl+1,r:={t.r with ts:=l}}) (by show t.st≠3;omega) (by show t.st≠4;omega)).symm
     clean:=hc.trans (clean_st (t:={t with bl:=t.bl+1,r:={t.r with ts:=l}}) (by show t.st≠1;omega)).symm}
theorem chunk_sim (h:R0 p b t s) (hf:Fresh t.rd) (hc:s.clean=false) (hfr:s.fresh=false) (hs:s.st=3) (ln:List UInt8):RQ p b (ends (t.chunk p b ln)) (s.chunk p b ln):=by
 have ht:t.st=4:=by rw [h.st,hs]
 unfold T.chunk S.chunk;rw [h.r];have hp:=fun h1=>size_pos (z:=Chk.sizeV (Qk.has p 27) (Qk.has p 28) b.x4 b.x3 ln) rfl h1;generalize Chk.sizeV (Qk.has p 27) (Qk.has p 28) b.x4 b.x3 ln=z at hp ⊢;by_cases h1:z.2=0
 ·simp only [h1,ne_eq,not_true_eq_false,if_false];by_cases h2:z.1=0
  ·simp only [if_pos h2];show RR p b _ _
   exact {
    e:=h.e
    st:=rfl
    r:=rfl
    out:=h.out
    head:=h.head
    hl:=fun e=>absurd e (by show¬(6:Nat)≤1;decide)
    bl:=fun _=>(h.bl0 (by omega)).symm
    bl0:=fun e=>absurd rfl e
    left:=fun e=>absurd e (by show Par.bodied 6≠true;decide)
    rd:=fun _=>hf.nl h.lf h.cr (h.most (by omega))
    fr:=fun e=>absurd e (by show Par.bodied 6≠true;decide)
    lf:=h.lf
    cr:=h.cr
    most:=fun _=>h.most (by omega)
    beh:=fun e=>absurd e (by show (6:Nat)≠5;decide)
    ch:=by show t.r.ch=decide (3≤6);rw [h.ch,hs];rfl
    fresh:=hfr.trans (next_st (t:={t with st:=7}) (by show (7:Nat)≠3;decide) (by show (7:Nat)≠4;decide)).symm
    clean:=hc.trans (clean_st (t:={t with st:=7}) (by show (7:Nat)≠1;decide)).symm}
  ·simp only [if_neg h2];by_cases h3:b.x3-(t.r.body.length:Int)<z.1
   ·simp only [if_pos h3];rw [ends_err (by decide)]
    exact fail_sim h (by decide)
   ·simp only [if_neg h3];show RR p b _ _
    exact {
     e:=h.e
     st:=rfl
     r:=rfl
     out:=h.out
     head:=h.head
     hl:=fun e=>absurd e (by show¬(4:Nat)≤1;decide)
     bl:=fun e=>absurd e (by show (4:Nat)≠6;decide)
     bl0:=fun _=>h.bl0 (by omega)
     left:=fun _=>rfl
     rd:=fun e=>absurd e (by show Par.bodied 4≠false;decide)
     fr:=fun _=>hf
     lf:=h.lf
     cr:=h.cr
     most:=fun _=>h.most (by omega)
     beh:=fun e=>absurd e (by show (4:Nat)≠5;decide)
     ch:=by show t.r.ch=decide (3≤4);rw [h.ch,hs];rfl
     fresh:=hfr.trans (next_st (t:={t with left:=z.1.toNat,st:=5}) (by show (5:Nat)≠3;decide) (by show (5:Nat)≠4;decide)).symm
     clean:=hc.trans (clean_st (t:={t with left:=z.1.toNat,st:=5}) (by show (5:Nat)≠1;decide)).symm}
 ·simp only [ne_eq,h1,not_false_eq_true,if_true];rw [ends_err (hp h1)]
  exact fail_sim h (hp h1)
theorem enter_sim (h:R0 p b t s) (hs:s.st=5):R0 p b (t.enter p 4 b.x0) {s with st:=3,rd:=nl p b.x0} where
 e:=h.e
 st:=rfl
 r:=h.r
 out:=h.out
 head:=h.head
 hl:=fun e=>absurd e (by show¬(3:Nat)≤1;decide)
 bl:=fun e=>absurd e (by show (3:Nat)≠6;decide)
 bl0:=fun _=>h.bl0 (by omega)
 left:=fun e=>absurd e (by show Par.bodied 3≠true;decide)
 rd:=fun _=>(fresh_of b.x0).nl rfl rfl rfl
 fr:=fun e=>absurd e (by show Par.bodied 3≠true;decide)
 lf:=rfl
 cr:=rfl
 most:=fun _=>rfl
 beh:=fun e=>absurd e (by show (3:Nat)≠5;decide)
 ch:=by show t.r.ch=decide (3≤3);rw [h.ch,hs];rfl
theorem line_sim (h:R0 p b t s) (ok:t.Ok) (hf:Fresh t.rd) (hc:s.clean=false) (hfr:s.fresh=false) (hn:Par.bodied s.st=false) (ln:List UInt8):RQ p b (ends (t.line p b ln)) (s.ended p b ln):=by
 have h7:=ok.st;have ht:=h.st;have hn2:s.st≠2∧s.st≠4:=by constructor<;> (intro e;rw [e] at hn;exact absurd hn (by decide))
 have hcs:s.st=0∨s.st=1∨s.st=3∨s.st=5∨s.st=6:=by omega
 unfold T.line S.ended;rcases hcs with e | e | e | e | e
 ·rw [ht,e];exact first_sim h hf hc hfr e ln
 ·rw [ht,e];exact fields_sim h ok hf hc hfr e ln
 ·rw [ht,e];exact chunk_sim h hf hc hfr e ln
 ·rw [ht,e];have h1:=enter_sim h e;show RR p b (t.enter p 4 b.x0) {s with st:=3,rd:=nl p b.x0}
  exact {h1 with
   fresh:=hfr.trans (next_body (t:=t.enter p 4 b.x0) (h.beh e)).symm
   clean:=hc.trans (clean_st (t:=t.enter p 4 b.x0) (by show (4:Nat)≠1;decide)).symm}
 ·rw [ht,e];exact trail_sim h hf hc hfr e ln
theorem body_sim (h:R0 p b t s) (ok:t.Ok) (hc:s.clean=false) (hfr:s.fresh=false) (hn:Par.bodied s.st=true) (c:UInt8) :
 RR p b (if t.left=1 then (t.keep c).endData p else t.keep c) (s.bodyB p b c):=by
 have hst:s.st=2∨s.st=4:=by unfold Par.bodied at hn;simpa using hn
 have hl:1≤t.left:=ok.left (by rw [bod h];exact hn);have hle:=h.left hn;have hfr0:=h.fr hn;have hbd:(t.keep c).r.body≠ []:=by show t.r.body ++ [c]≠ [];simp
 have er:({s.r with body:=s.r.body ++ [c]}:Rec.R)={t.r with body:=t.r.body ++ [c]}:=by rw [h.r]
 have hk:R0 p b (t.keep c) {s with r:={s.r with body:=s.r.body ++ [c]},left:=s.left-1}:={
  e:=h.e
  st:=h.st
  r:=er
  out:=h.out
  head:=h.head
  hl:=h.hl
  bl:=h.bl
  bl0:=h.bl0
  left:=fun _=>by show s.left-1=t.left-1;rw [hle]
  rd:=fun e=>h.rd e
  fr:=fun _=>hfr0
  lf:=h.lf
  cr:=h.cr
  most:=h.most
  beh:=fun _=>hbd
  ch:=h.ch}
 unfold S.bodyB;by_cases h1:1<s.left
 ·rw [if_neg (by omega)];simp only [if_pos h1]
  exact {hk with
   fresh:=hfr.trans (next_body hbd).symm
   clean:=hc.trans (clean_st (t:=t.keep c) (by show t.st≠1;have:=h.st;omega)).symm}
 ·rw [if_pos (by omega)];simp only [if_neg h1];unfold T.endData;have e2:(t.keep c).r.ch=t.r.ch:=rfl;rw [e2,h.ch];rcases hst with e | e
  ·simp only [e,Nat.reduceLeDiff,decide_false,Bool.false_eq_true,if_false,if_true]
   have:=whole_sim hk hfr0 (by show s.st≠5;omega);rw [e] at this;exact this
  ·simp only [e,Nat.reduceLeDiff,decide_true,if_true,Nat.reduceEqDiff,if_false]
   exact {
    e:=h.e
    st:=rfl
    r:=er
    out:=h.out
    head:=h.head
    hl:=fun e=>absurd e (by show¬(5:Nat)≤1;decide)
    bl:=fun e=>absurd e (by show (5:Nat)≠6;decide)
    bl0:=fun _=>h.bl0 (by omega)
    left:=fun e=>absurd e (by show Par.bodied 5≠true;decide)
    rd:=fun _=>⟨rfl,rfl,rfl,rfl,rfl,rfl⟩
    fr:=fun e=>absurd e (by show Par.bodied 5≠true;decide)
    lf:=rfl
    cr:=rfl
    most:=fun e=>absurd rfl e
    beh:=fun _=>hbd
    ch:=by show t.r.ch=decide (3≤5);rw [h.ch,e];rfl
    fresh:=hfr.trans (next_st (t:=(t.keep c).enter p 6 0) (by show (6:Nat)≠3;decide) (by show (6:Nat)≠4;decide)).symm
    clean:=hc.trans (clean_st (t:=(t.keep c).enter p 6 0) (by show (6:Nat)≠1;decide)).symm}
theorem ended_fresh {m:Ln.M} {c:UInt8} {n:Int} (hn:m.clear.next c=n) (h:n=1∨n=2):Fresh (m.byte c)∧Ln.failed (m.byte c).last=false:=by
 have hl:(m.byte c).last=n:=hn;refine ⟨⟨?_,?_⟩,?_⟩
 ·rw [hl,if_pos];rcases h with rfl | rfl<;>rfl
 ·show (m.clear.next c==0&&c==13)=false;rw [hn];rcases h with rfl | rfl<;>rfl
 ·rw [hl];rcases h with rfl | rfl<;>rfl
theorem byte_some {m:Ln.M} {c:UInt8} (hm:m.next c=0):¬((m.told c).buf= []∧(m.next c==0&&c==13)=false):=by
 rintro ⟨h1,h2⟩;rw [hm] at h2;have hc:c≠13:=by
  intro e;rw [e] at h2
  exact absurd h2 (by decide)
 have hk:m.keeps c=true:=by
  unfold Ln.M.next at hm;unfold Ln.M.keeps;by_cases g1:Ln.failed m.last=true
  ·simp [g1] at hm
  ·by_cases g2:m.pend=true
   ·by_cases g3:c=10
    ·simp [g1,g2,g3] at hm
    ·by_cases g4:m.cr=true
     ·simp [g1,g2,g3,g4] at hm
     ·simp [g1,g2,g3,g4] at hm
   ·by_cases g3:c=10
    ·by_cases g4:m.lf=true
     ·simp [g1,g2,g3,g4] at hm
     ·simp [g1,g2,g3,g4] at hm
    ·by_cases g5:m.buf.length=m.most
     ·simp [g1,g2,g3,hc,g5] at hm
     ·simp [g1,g2,g3,hc,g5]
 have:(m.told c).buf=m.buf ++ [c]:=by show m.buf++(if m.keeps c then [c] else [])= _;rw [if_pos hk]
 rw [this] at h1;simp at h1
theorem more_new {c:UInt8} (hn:t.rd.clear.next c=0):({t with rd:=t.rd.byte c}:T).isNew=false:=by
 have h:=byte_some (m:=t.rd.clear) hn;have e1:(t.rd.byte c).len=(t.rd.clear.told c).buf.length:=by unfold Ln.M.len;have hl:(t.rd.byte c).last=0:=hn;rw [hl];rfl
 have e2:(t.rd.byte c).pend=(t.rd.clear.next c==0&&c==13):=rfl;unfold T.isNew;rw [Bool.eq_false_iff];intro hh;rw [Bool.and_eq_true,decide_eq_true_eq,Bool.not_eq_true'] at hh;exact h ⟨List.eq_nil_of_length_eq_zero (e1 ▸ hh.1),e2 ▸ hh.2⟩
theorem next_new (h:t.isNew=false):t.next=false:=by unfold T.next;rw [h,Bool.and_false,Bool.and_false]
theorem step_sim (h:R0 p b t s) (hn:Par.bodied s.st=false) (ok:t.Ok) (c:UInt8) :
 s.rd.how c=t.rd.clear.next c∧(Ln.failed (t.rd.clear.next c)=false→
  R0 p b {t with rd:=t.rd.byte c} {s with fresh:=false,rd:=s.rd.byte c}∧({t with rd:=t.rd.byte c}:T).Ok∧(s.rd.byte c).L=(t.rd.byte c).line):=by
 obtain ⟨h1,h2⟩:=(h.rd hn).step ok.rd ok.nf c;refine ⟨h1,fun hf=>?_⟩;obtain ⟨h3,h4⟩:=h2 hf
 exact ⟨{
  e:=h.e
  st:=h.st
  r:=h.r
  out:=h.out
  head:=h.head
  hl:=h.hl
  bl:=h.bl
  bl0:=h.bl0
  left:=h.left
  rd:=fun _=>h3
  fr:=fun e=>absurd (hn.symm.trans e) (by decide)
  lf:=h.lf
  cr:=h.cr
  most:=h.most
  beh:=h.beh
  ch:=h.ch},ok.byteR c hf,h4⟩
theorem nextM_is (m:Ln.M) (c:UInt8) (hp:m.pend=false):m.next c≠2:=by
 unfold Ln.M.next;split
 ·decide
 ·rw [hp];simp only [Bool.false_eq_true,if_false];split
  ·split<;>decide
  ·split
   ·decide
   ·split<;>decide
theorem took_sim (h:R0 p b t s) (hn:Par.bodied s.st=false) (ok:t.Ok) (hc:s.clean=false) (c:UInt8) {n:Int} (hnx:t.rd.clear.next c=n) :
 s.rd.how c=n∧(n=0→RR p b {t with rd:=t.rd.byte c} {s with fresh:=false,rd:=s.rd.byte c})∧
 (n=1∨n=2→RQ p b (ends (({t with rd:=t.rd.byte c}:T).line p b (t.rd.byte c).line)) (({s with fresh:=false,rd:=s.rd.byte c}:S).ended p b (s.rd.byte c).L)):=by
 obtain ⟨k1,k2⟩:=step_sim h hn ok c;rw [hnx] at k1 k2;refine ⟨k1,fun h0=>?_,fun h12=>?_⟩
 ·obtain ⟨k3,k4,k5⟩:=k2 (by rw [h0];rfl)
  have hw:=more_new (t:=t) (c:=c) (hnx.trans h0)
  exact {k3 with
   fresh:=(next_new hw).symm
   clean:=by
    show s.clean= _
    rw [hw,Bool.and_false];exact hc}
 ·obtain ⟨k3,k4,k5⟩:=k2 (by rcases h12 with e | e<;> (rw [e];rfl));have hf:=(ended_fresh hnx h12).1;rw [k5];exact line_sim k3 k4 hf hc rfl hn _
theorem plain_sim (h:R0 p b t s) (hn:Par.bodied s.st=false) (ok:t.Ok) (hc:s.clean=false) (hp:t.rd.pend=false) (h6:t.st≠6) (c:UInt8) :
 RQ p b (t.inLine p b c).1 (s.plain p b c):=by
 have hn':¬Par.bodied s.st=true:=by rw [hn];decide
 obtain ⟨n,hnx⟩:∃n,t.rd.clear.next c=n:=⟨_,rfl⟩;obtain ⟨k1,k2,k3⟩:=took_sim h hn ok hc c hnx;have h2:n≠2:=by rw [←hnx];exact nextM_is t.rd.clear c hp
 have his:=Ln.M.next_is t.rd.clear c;rw [hnx] at his;have h6':(t.st==6)=false:=beq_eq_false_iff_ne.2 h6;unfold T.inLine S.plain;simp only [if_neg hn',k1,hnx,h6',Bool.false_and,Bool.false_eq_true,if_false];rcases his with e | e | e | e | e
 ·subst e;exact k2 rfl
 ·subst e
  exact k3 (.inl rfl)
 ·exact absurd e h2
 ·subst e;exact ⟨rfl,by decide,h.out,rfl⟩
 ·subst e;obtain ⟨g1,g2⟩:=long_sim h;simp only [Int.reduceEq,if_false,if_true];rw [g1];exact ⟨rfl,g2,h.out,rfl⟩
theorem line_cnt (ln:List UInt8) :
 ((t.line p b ln).2.cnt=t.cnt∧(t.line p b ln).2.size=t.size∧((t.line p b ln).2.st=1→t.st=1)∧((t.line p b ln).2.st=2→t.st=1∨t.st=2))∨
 ((t.line p b ln).2.cnt=false∧(t.line p b ln).2.size=0∧(t.line p b ln).2.st=1∧t.st≠1):=by
 unfold T.line;by_cases h1:t.st=1
 ·left;simp only [if_pos h1];unfold T.first;split
  ·exact ⟨rfl,rfl,fun _=>h1,fun _=>.inl h1⟩
  ·simp only;split
   ·exact ⟨rfl,rfl,fun _=>h1,fun _=>.inl h1⟩
   ·exact ⟨rfl,rfl,fun _=>h1,fun _=>.inl h1⟩
 simp only [if_neg h1];by_cases h2:t.st=2
 ·simp only [if_pos h2];unfold T.fields;by_cases hs:ln= []
  ·simp only [if_pos hs];unfold T.endHead;generalize Frm.decideV (Frm.clOf p) b.ch b.x3 t.r.k t.r.fs=d;simp only;split
   ·exact .inl ⟨rfl,rfl,fun e=>absurd (h2.symm.trans e) (by decide),fun _=>.inr h2⟩
   ·split
    ·exact .inl ⟨rfl,rfl,fun e=>absurd e (by show (4:Nat)≠1;decide),fun _=>.inr h2⟩
    ·split
     ·exact .inr ⟨rfl,rfl,rfl,h1⟩
     ·exact .inl ⟨rfl,rfl,fun e=>absurd e (by show (3:Nat)≠1;decide),fun _=>.inr h2⟩
  ·simp only [if_neg hs];exact .inl ⟨by trivial,by trivial,fun e=>e,fun _=>.inr h2⟩
 simp only [if_neg h2];by_cases h4:t.st=4
 ·left;simp only [if_pos h4];unfold T.chunk;simp only;split
  ·exact ⟨rfl,rfl,fun e=>absurd (h4.symm.trans e) (by decide),fun e=>absurd (h4.symm.trans e) (by decide)⟩
  ·split
   ·exact ⟨rfl,rfl,fun e=>absurd e (by show (7:Nat)≠1;decide),fun e=>absurd e (by show (7:Nat)≠2;decide)⟩
   ·split
    ·exact ⟨rfl,rfl,fun e=>absurd (h4.symm.trans e) (by decide),fun e=>absurd (h4.symm.trans e) (by decide)⟩
    ·exact ⟨rfl,rfl,fun e=>absurd e (by show (5:Nat)≠1;decide),fun e=>absurd e (by show (5:Nat)≠2;decide)⟩
 simp only [if_neg h4];by_cases h7:t.st=7
 ·simp only [if_pos h7];unfold T.trail;by_cases hs:ln= []
  ·simp only [if_pos hs];exact .inr ⟨rfl,rfl,rfl,h1⟩
  ·simp only [if_neg hs];exact .inl ⟨by trivial,by trivial,fun e=>e,fun e=>absurd e h2⟩
 simp only [if_neg h7];exact .inl ⟨rfl,rfl,fun e=>absurd e (by show (4:Nat)≠1;decide),fun e=>absurd e (by show (4:Nat)≠2;decide)⟩
theorem R0.of_counted (h:R0 p b t s) (hc:t.cnt=false):R0 p b t.counted {s with head:=s.head+1,clean:=false}:=by
 have e:t.counted={t with cnt:=true,size:=t.size+1}:=by unfold T.counted;rw [hc];rfl
 rw [e];exact ⟨h.e,h.st,h.r,h.out,congrArg (·+1) h.head,h.hl,h.bl,h.bl0,h.left,h.rd,h.fr,h.lf,h.cr,h.most,h.beh,h.ch⟩
theorem R0.dirty (h:R0 p b t s):R0 p b t {s with clean:=false}:=⟨h.e,h.st,h.r,h.out,h.head,h.hl,h.bl,h.bl0,h.left,h.rd,h.fr,h.lf,h.cr,h.most,h.beh,h.ch⟩
theorem RQ.err {e:Nat} {o:List Rec.R} (h:RQ p b (.dead e o) s):s.e≠0:=by obtain ⟨h1,h2, -, -⟩:=h;rw [h1];exact h2
theorem look_count (h:R0 p b t s) (ok:t.Ok) (hb:b.right=true) (hc:t.cnt=false) (hh:Par.headed s.st=true) (hp:t.rd.pend=false) (h6:t.st≠6) (c:UInt8) :
 RQ p b (t.look p b c).1 (s.count b (fun s=>s.plain p b c)):=by
 have hbd:Par.bodied s.st=false:=by
  unfold Par.headed at hh;unfold Par.bodied;simp only [Bool.or_eq_true,beq_iff_eq] at hh
  rcases hh with (e | e) | e<;> (rw [e];rfl)
 have hb':Pg.bodied t.st=false:=(bod h).trans hbd;have hh':Pg.headed t.st=true:=(hed h).trans hh;have h1:=h.of_counted hc;have esz:t.counted.size=s.head+1:=h1.head.symm;have eS:s.count b (fun s=>s.plain p b c)=if b.x2<((s.head+1:Nat):Int) then S.fail {s with head:=s.head+1} 431 else ({s with head:=s.head+1,clean:=false}:S).plain p b c:=by unfold S.count;rw [if_neg (fun hn=>hn h.e),if_pos hh]
 rw [eS];unfold T.look;rw [if_neg (by rw [hb'];decide),if_pos hh',esz]
 by_cases hx:b.x2<((s.head+1:Nat):Int)
 ·rw [if_pos hx,if_pos hx];exact ⟨rfl,by decide,h.out,rfl⟩
 ·rw [if_neg hx,if_neg hx]
  have hok:t.counted.Ok:=ok.counted hb (by rw [esz];exact hx);exact plain_sim h1 hbd hok rfl (by rw [counted_rd];exact hp) (by rw [counted_st];exact h6) c
theorem look_plain (h:R0 p b t s) (ok:t.Ok) (hh:Pg.headed t.st=true→t.cnt=true∧¬b.x2<(t.size:Int)) (hc:s.clean=false) (hp:t.rd.pend=false) (h6:t.st≠6) (c:UInt8) :
 RQ p b (t.look p b c).1 (s.plain p b c):=by
 unfold T.look;by_cases hbd:Par.bodied s.st=true
 ·rw [if_pos ((bod h).trans hbd)];unfold S.plain;simp only [if_pos hbd];exact body_sim (s:={s with fresh:=false}) {h with} ok hc rfl hbd c
 ·have hb':Par.bodied s.st=false:=by simpa using hbd
  rw [if_neg (by rw [bod h];exact hbd)];by_cases h2:Pg.headed t.st=true
  ·obtain ⟨e1,e2⟩:=hh h2;have e3:t.counted=t:=by unfold T.counted;rw [if_pos e1]
   rw [if_pos h2,e3,if_neg e2];exact plain_sim h hb' ok hc hp h6 c
  ·rw [if_neg h2];exact plain_sim h hb' ok hc hp h6 c
theorem again_sim {t1 t2:T} {s2:S} (h:RR p b t2 s2) (ok2:t2.Ok) (hb:b.right=true) (hp:t2.rd.pend=false) (h6:t2.st≠6) {was:Nat} (hw:t1.st=was+1)
 (hcnt:t1.cnt=Par.headed was) (hsz:Par.headed was=true→¬b.x2<(t1.size:Int)) {ln:List UInt8} (he:t1.line p b ln=(0,t2)) (c:UInt8) :
 RQ p b (t2.look p b c).1 (s2.again p b c was):=by
 have hl:=line_cnt (p:=p) (b:=b) (t:=t1) ln;rw [he] at hl;simp only at hl;have hst:=h.st;unfold S.again;by_cases hA:s2.st=0∧was≠0
 ·rw [if_pos (by simp [hA.1,hA.2])];rcases hl with ⟨-, -,k, -⟩ | ⟨k, -, -, -⟩
  ·have:=k (by omega);omega
  ·exact look_count h.toR0 ok2 hb k (by rw [hA.1];rfl) hp h6 c
 ·rw [if_neg (by
   intro hh;rw [Bool.and_eq_true,beq_iff_eq,Bool.not_eq_true',beq_eq_false_iff_ne] at hh
   exact hA hh)]
  simp only;by_cases hB:Par.headed was=false∧s2.st=6
  ·rw [if_pos (by simp [hB.1,hB.2])];have k:t2.cnt=false:=by
    rcases hl with ⟨k, -, -, -⟩ | ⟨k, -, -, -⟩
    ·rw [k,hcnt];exact hB.1
    ·exact k
   exact look_count (s:={s2 with clean:=false}) h.toR0.dirty ok2 hb k (by show Par.headed s2.st=true;rw [hB.2];rfl) hp h6 c
  ·rw [if_neg (by
    intro hh;rw [Bool.and_eq_true,beq_iff_eq,Bool.not_eq_true'] at hh
    exact hB hh)]
   refine look_plain h.toR0.dirty ok2 (fun hh=>?_) rfl hp h6 c;have hh2:Par.headed s2.st=true:=(hed h.toR0).symm.trans hh;have hwas:Par.headed was=true∧t2.cnt=t1.cnt∧t2.size=t1.size:=by
    rcases hl with ⟨k1,k2,k3,k4⟩ | ⟨-, -,k3,k4⟩
    ·refine ⟨?_,k1,k2⟩;unfold Par.headed at hh2;simp only [Bool.or_eq_true,beq_iff_eq] at hh2;rcases hh2 with (e | e) | e
     ·have:=k3 (by omega);have:was=0:=by omega
      rw [this];rfl
     ·rcases k4 (by omega) with e1 | e1
      ·have:was=0:=by omega
       rw [this];rfl
      ·have:was=1:=by omega
       rw [this];rfl
     ·cases hw2:Par.headed was with
      | true=>rfl
      | false=>exact absurd ⟨hw2,e⟩ hB
    ·exact absurd ⟨by omega,by omega⟩ hA
   obtain ⟨g1,g2,g3⟩:=hwas;exact ⟨by rw [g2,hcnt];exact g1,by rw [g3];exact hsz g1⟩
theorem ends_cases {x:Nat × T} {q:Q} (h:ends x=q):(∃t2,x=(0,t2)∧q=.live t2)∨∃e o,q=.dead e o:=by
 unfold ends at h;split at h
 ·rename_i h0;exact .inl ⟨x.2,Prod.ext h0 rfl,h.symm⟩
 ·exact .inr ⟨_,_,h.symm⟩
theorem byte1_sim {t0:T} (h:R0 p b t0 s) (hn:Par.bodied s.st=false) (ok:t0.Ok) (hb:b.right=true) (hc:s.clean=false) (hcnt:t0.cnt=Par.headed s.st) (hsz:Par.headed s.st=true→¬b.x2<(t0.size:Int)) (c:UInt8) :
 RQ p b (match t0.inLine p b c with
  |(.live t1,false)=>(t1.look p b c).1
  |(x,_)=>x) (s.byte1 p b c):=by
 have hn':¬Par.bodied s.st=true:=by rw [hn];decide
 have hb0:Pg.bodied t0.st=false:=(bod h).trans hn;obtain ⟨n,hnx⟩:∃n,t0.rd.clear.next c=n:=⟨_,rfl⟩;obtain ⟨k1,k2,k3⟩:=took_sim h hn ok hc c hnx;have his:=Ln.M.next_is t0.rd.clear c;rw [hnx] at his;have e5:(t0.st==6)=(s.st==5):=by rw [Bool.eq_iff_iff,beq_iff_eq,beq_iff_eq,h.st];omega
 have hag:∀t',t0.inLine p b c=(.live t',false)→t'.rd.pend=false∧t'.st≠6:=fun t'=>inLine_again hb0 c
 have hok:∀t' u,t0.inLine p b c=(.live t',u)→t'.Ok:=fun t' u e=>ok.inLine hb c (by rw [e]);unfold S.byte1;simp only [if_neg hn',k1];unfold T.inLine at hag hok ⊢;simp only [hnx,e5] at hag hok ⊢;rcases his with e | e | e | e | e
 ·subst e;exact k2 rfl
 ·subst e;simp only [Int.reduceEq,if_false,Int.reduceBEq,Bool.not_false] at hag hok ⊢
  have k4:=k3 (.inl rfl);generalize ends (T.line p b {t0 with rd:=t0.rd.byte c} (t0.rd.byte c).line)=q at k4 ⊢;cases q<;>exact k4
 ·subst e
  have k4:=k3 (.inr rfl);simp only [Int.reduceEq,if_false,if_true,BEq.rfl,Bool.not_true] at hag hok ⊢;generalize hq:ends (T.line p b {t0 with rd:=t0.rd.byte c} (t0.rd.byte c).line)=q at hag hok k4 ⊢;generalize hs2:S.ended p b {s with fresh:=false,rd:=s.rd.byte c} (s.rd.byte c).L=s2 at k4 ⊢;rcases ends_cases hq with ⟨t2,g1,rfl⟩ | ⟨e,o,rfl⟩
  ·have k5:RR p b t2 s2:=k4;simp only;rw [if_pos k5.e];obtain ⟨g2,g3⟩:=hag t2 rfl;exact again_sim k5 (hok t2 false rfl) hb g2 g3 (t1:={t0 with rd:=t0.rd.byte c}) h.st hcnt hsz g1 c
  ·simp only;rw [if_neg k4.err];exact k4
 ·subst e;exact ⟨rfl,by decide,h.out,rfl⟩
 ·subst e;obtain ⟨g1,g2⟩:=long_sim h;simp only [Int.reduceEq,if_false,if_true] at hag hok ⊢;by_cases hce:(s.st==5&&Qk.has p 29)=true
  ·simp only [if_pos hce] at hag hok ⊢;have hs5:s.st=5:=by
    rw [Bool.and_eq_true,beq_iff_eq] at hce;exact hce.1
   obtain ⟨g3,g4⟩:=hag _ rfl;have he:=enter_sim (t:=t0) (s:={s with fresh:=false}) {h with} hs5;exact look_plain he (hok _ _ rfl) (fun hh=>absurd hh (by show Pg.headed 4≠true;decide)) hc g3 g4 c
  ·simp only [if_neg hce];rw [g1];exact ⟨rfl,g2,h.out,rfl⟩
theorem take_sim (h:RR p b t s) (ok:t.Ok) (hb:b.right=true) (c:UInt8):RQ p b (t.take p b c) (s.byte p b c):=by
 have h0:R0 p b ({t with cnt:=false}:T) {s with clean:=false}:=⟨h.e,h.st,h.r,h.out,h.head,h.hl,h.bl,h.bl0,h.left,h.rd,h.fr,h.lf,h.cr,h.most,h.beh,h.ch⟩;have ok0:({t with cnt:=false}:T).Ok:=ok.cleared;unfold T.take S.byte S.count;rw [if_neg (fun hn=>hn h.e)];unfold T.look;have hbe:Pg.bodied ({t with cnt:=false}:T).st=Par.bodied s.st:=bod (t:=t) h.toR0;have hhe:Pg.headed ({t with cnt:=false}:T).st=Par.headed s.st:=hed (t:=t) h.toR0;rw [hbe,hhe];by_cases hbd:Par.bodied s.st=true
 ·have hnh:¬Par.headed s.st=true:=by
   unfold Par.bodied at hbd;unfold Par.headed;simp only [Bool.or_eq_true,beq_iff_eq] at hbd ⊢;omega
  rw [if_pos hbd,if_neg hnh];have e1:({s with clean:=false}:S).byte1 p b c=({s with fresh:=false,clean:=false}:S).bodyB p b c:=by unfold S.byte1;simp only [if_pos hbd]
  simp only [e1];exact body_sim (s:={s with fresh:=false,clean:=false}) {h0 with} ok0 rfl rfl hbd c
 ·have hbd':Par.bodied s.st=false:=by simpa using hbd
  rw [if_neg hbd];by_cases hh:Par.headed s.st=true
  ·rw [if_pos hh,if_pos hh];have h1:R0 p b ({t with cnt:=false}:T).counted {s with head:=s.head+1,clean:=false}:=h0.of_counted rfl;have esz:({t with cnt:=false}:T).counted.size=s.head+1:=h1.head.symm;rw [esz]
   by_cases hx:b.x2<((s.head+1:Nat):Int)
   ·rw [if_pos hx,if_pos hx];exact ⟨rfl,by decide,h.out,rfl⟩
   ·rw [if_neg hx,if_neg hx]
    have hok:=ok0.counted hb (by rw [esz];exact hx);exact byte1_sim h1 hbd' hok hb rfl hh.symm (fun _=>by rw [esz];exact hx) c
  ·rw [if_neg hh,if_neg hh];have hh':Par.headed s.st=false:=by simpa using hh
   exact byte1_sim h0 hbd' ok0 hb rfl hh'.symm (fun e=>absurd e hh) c
def Q.Fine (b:Bd):Q→Prop
 | .live t=>t.Ok∧b.right=true
 | .dead _ _=>True
theorem new_sim:RQ p b (Q.new p b) (S.new p b):=by
 unfold Q.new S.new;by_cases h:(b.right&&decide (p<1073741824))=true
 ·rw [if_pos h,if_pos h]
  exact {
   e:=rfl
   st:=rfl
   r:=rfl
   out:=rfl
   head:=rfl
   hl:=fun _=>rfl
   bl:=fun e=>absurd e (by show (0:Nat)≠6;decide)
   bl0:=fun _=>rfl
   left:=fun e=>absurd e (by show Par.bodied 0≠true;decide)
   rd:=fun _=>⟨rfl,rfl,rfl,rfl,rfl,rfl⟩
   fr:=fun e=>absurd e (by show Par.bodied 0≠true;decide)
   lf:=rfl
   cr:=rfl
   most:=fun _=>rfl
   beh:=fun e=>absurd e (by show (0:Nat)≠5;decide)
   ch:=rfl
   fresh:=rfl
   clean:=rfl}
 ·rw [if_neg h,if_neg h];exact ⟨rfl,by decide,rfl,rfl⟩
theorem told_sim {x:Q} (h:RQ p b x s):RQ p b x.told {s with out:= []}:=by
 cases x with
 | live t=>exact ⟨⟨h.e,h.st,h.r,rfl,h.head,h.hl,h.bl,h.bl0,h.left,h.rd,h.fr,h.lf,h.cr,h.most,h.beh,h.ch⟩,h.fresh,h.clean⟩
 | dead e o=>
   obtain ⟨h1,h2, -,h4⟩:=h;exact ⟨h1,h2,rfl,h4⟩
theorem told_fine {x:Q} (h:x.Fine b):x.told.Fine b:=by
 cases x with
 | live t=>exact ⟨⟨h.1.rd,h.1.nf,h.1.st,h.1.hl,h.1.bl,h.1.fsl,h.1.tsl,h.1.fss,h.1.tss,h.1.m,h.1.x,h.1.body,h.1.left,h.1.early,h.1.size⟩,h.2⟩
 | dead e o=>trivial
end
end Go.Proofs.YtnabkcglnbdfeaaGreatDoor.Pg
namespace Go.Proofs.YtnabkcglnbdfeaaGreatDoor.Each
open Go.RowKit Base
abbrev Fact:=Value→World→Prop
def Lasts (f:Fact):Prop:=∀v w w',Below w.heap.size w w'→f v w→f v w'
def has (l:List Oper) (fs:List Fact) (ev:Operand→Value) (w:World):List Edge→Prop
 | []=>True
 | e::es=>(if Region.binds .any e=true then (match l[e.on]?,fs[e.on]? with
    | some o,some f=>(match o.dst with
      | some d=>f (ev (.tmp d)) w
      | none=>True)
    | _,_=>True) else True)∧has l fs ev w es
def one (l:List Oper) (fs:List Fact) (ev:Operand→Value) (w:World):Option Edge→Prop
 | some e=>(if Region.binds .any e=true then (match l[e.on]?,fs[e.on]? with
    | some o,some f=>(match o.dst with
      | some d=>f (ev (.tmp d)) w
      | none=>True)
    | _,_=>True) else True)
 | none=>True
theorem has.at {l:List Oper} {fs:List Fact} {ev:Operand→Value} {w:World}:∀{es:List Edge},has l fs ev w es→∀n:Nat,one l fs ev w es[n]?
 | [],_,n=>by simp [one]
 | e::es,h,0=>by simpa [one] using h.1
 | e::es,h,n+1=>by simpa using has.at h.2 n
def yld (l:List Oper) (ev:Operand→Value) (j:Nat):Option Bool:=
 match (l[j]?).bind (·.dst) with
 | some d=>(match ev (.tmp d) with
   | .bool b=>some b
   | _=>none)
 | none=>none
structure Reads (a0:Act) (ds:List Nat) (ev:Operand→Value):Prop where
 const:∀v,ev (.const v)=v
 func:∀f,ev (.func f)=.func (.func f) #[] #[]
 global:∀g,ev (.global g)=.pointer (some ⟨g,0,none⟩)
 old:∀s,ds.contains s=false→ev (.tmp s)=a0.tmps.getD s undef
inductive Goes (P:Program) (o:Oper) (ev:Operand→Value) (f:Fact) (w:World):Prop
 | value (v:Value) (w':World) (h:(execOp ev o).run P w=.ok (.value v) w') (hb:Below w.heap.size w w') (hf:f v w'):Goes P o ev f w
 | enter (g:FuncId) (args:Array Value) (h:(execOp ev o).run P w=.ok (.enter g args) w) (hc:Calls P g args w fun e w'=>∃v,e=.returned v∧Below w.heap.size w w'∧f v w'):Goes P o ev f w
inductive GoesR (P:Program) (o:Oper) (ev:Operand→Value) (f:Fact) (R:World→World→Prop) (w:World):Prop
 | value (v:Value) (w':World) (h:(execOp ev o).run P w=.ok (.value v) w') (hb:R w w') (hf:f v w'):GoesR P o ev f R w
 | enter (g:FuncId) (args:Array Value) (h:(execOp ev o).run P w=.ok (.enter g args) w) (hc:Calls P g args w fun e w'=>∃v,e=.returned v∧R w w'∧f v w'):GoesR P o ev f R w
theorem Goes.gen {P:Program} {o:Oper} {ev:Operand→Value} {f:Fact} {w:World} (h:Goes P o ev f w) {R:World→World→Prop} (hR:∀w',Below w.heap.size w w'→R w w'):GoesR P o ev f R w:=by
 cases h with
 | value v w' hrun hb hfv=>exact .value v w' hrun (hR _ hb) hfv
 | enter g args hrun hc=>
   refine .enter g args hrun (hc.mono ?_);rintro e w' ⟨v,rfl,hb,hfv⟩;exact ⟨v,rfl,hR _ hb,hfv⟩
def FineR (P:Program) (l:List Oper) (fs:List Fact) (R:Nat→World→World→Prop) (K:Array Bool→World→Prop) (a0:Act) (ds:List Nat) (k:Nat) (o:Oper) (f:Fact):Prop:=
 ∀(ev:Operand→Value) (b:Array Bool) (w:World),Reads a0 ds ev→K b w→b.getD k false=false→has l fs ev w o.after.toList→
  (Region.wanted o (yld l ev)=true→GoesR P o ev f (R k) w)∧(Region.wanted o (yld l ev)=false→f undef w)
def Fine (P:Program) (l:List Oper) (fs:List Fact) (W:World) (a0:Act) (ds:List Nat) (o:Oper) (f:Fact):Prop:=
 ∀(ev:Operand→Value) (w:World),Reads a0 ds ev→Below W.heap.size W w→has l fs ev w o.after.toList→
  (Region.wanted o (yld l ev)=true→Goes P o ev f w)∧(Region.wanted o (yld l ev)=false→f undef w)
def marks (l:List Oper):Nat→Array Bool→Array Bool
 | 0,b=>b
 | k+1,b=>marks l k (if b.getD k false=true then (match l[k]? with
    | some o=>o.after.toList.foldl (fun b e=>if Region.binds .any e=true then b.setIfInBounds e.on true else b) b
    | none=>b) else b)
def fill (n m:Nat) (lm:List Bool):Array Bool:=((List.range n).map fun i=>decide (i<m) && !lm.getD i false).toArray
def good (l:List Oper) (m:Nat) (ds:List Nat) (lm:List Bool) (r:Nat):Bool:=
 decide (m≤l.length)&&(decide ((l.take m).map (·.dst)=ds.map some)&&(decide ds.Nodup &&
 ((List.range l.length).all (fun k=>match l[k]? with
   | some o=>o.after.toList.all fun e=>!Region.binds .any e|| (decide (e.on<k)&&(lm.getD k false||decide (m≤k) || !lm.getD e.on false))
   | none=>true) &&
 ((List.range l.length).all (fun i=>(decide (i<m) && !lm.getD i false)|| (List.range m).all fun k=>lm.getD k false|| (marks l l.length ((Array.replicate l.length false).setIfInBounds i true)).getD k false) &&
 decide ((List.range m).countP (fun k=>!lm.getD k false)+r≤l.length)))))
def putg (g:Nat→Value):List Nat→Act→Act
 | [],a=>a
 | d::ds,a=>putg g ds (a.put (some d) (g d))
def fone (g:Nat→Value) (w:World):Option Nat→Option Fact→Prop
 | some d,some f=>f (g d) w
 | _,_=>True
def facts (g:Nat→Value) (w:World):List Nat→List Fact→Prop
 | d::ds,f::fs=>f (g d) w∧facts g w ds fs
 | _,_=>True
theorem facts.at {g:Nat→Value} {w:World}:∀{ds:List Nat} {fs:List Fact},facts g w ds fs→∀n:Nat,fone g w ds[n]? fs[n]?
 | [],_,_,n=>by simp [fone]
 | _ :: _,[],_,n=>by simp [fone]
 | _ :: _,_ :: _,h,0=>by simpa [fone] using h.1
 | _ :: _,_ :: _,h,n+1=>by simpa using facts.at h.2 n
section
variable {P:Program} {l:List Oper} {Q:Exit→Act→World→Prop} {fs:List Fact} {W:World} {a0:Act} {m:Nat} {ds:List Nat} {lm:List Bool} {r:Nat} {K:Array Bool→World→Prop} {R:Nat→World→World→Prop}
structure Inv (l:List Oper) (fs:List Fact) (K:Array Bool→World→Prop) (a0:Act) (m:Nat) (ds:List Nat) (lm:List Bool) (b:Array Bool) (a:Act) (w:World):Prop where
 bel:K b w
 size:a.tmps.size=a0.tmps.size
 defs:a.defers=a0.defers
 old:∀s,s∉ds→a.tmps[s]?=a0.tmps[s]?
 fact:∀(k d:Nat) (f:Fact),ds[k]?=some d→fs[k]?=some f→b.getD k false=true→f (a.eval (.tmp d)) w
 down:∀(k:Nat) (o:Oper),l[k]?=some o→b.getD k false=true→∀e∈o.after.toList,Region.binds .any e=true→b.getD e.on false=true
 bsize:b.size=l.length
 rest:∀k,m≤k∨lm.getD k false=true→b.getD k false=false
theorem get_set (b:Array Bool) (i k:Nat) (hi:i<b.size):(b.setIfInBounds i true).getD k false=if k=i then true else b.getD k false:=by
 by_cases h:k=i
 ·subst h;simp [Array.getD_eq_getD_getElem?,hi]
 ·have h':¬i=k:=fun e=>h e.symm;simp [Array.getD_eq_getD_getElem?,h,h']
theorem get_set_sub (b:Array Bool) (i k:Nat) (h:(b.setIfInBounds i true).getD k false=true):k=i∨b.getD k false=true:=by
 rcases Nat.lt_or_ge i b.size with hi | hi
 ·rw [get_set b i k hi] at h;by_cases hk:k=i
  ·exact .inl hk
  ·rw [if_neg hk] at h;exact .inr h
 ·rw [Array.setIfInBounds_eq_of_size_le hi] at h;exact .inr h
theorem fold_sub (b0:Array Bool) (p:Nat→Prop) (es:List Edge) (hp:∀k,b0.getD k false=true→p k) (he:∀e∈es,Region.binds .any e=true→p e.on) :
 ∀k,(es.foldl (fun b e=>if Region.binds .any e=true then b.setIfInBounds e.on true else b) b0).getD k false=true→p k:=by
 induction es generalizing b0 with
 | nil=>exact hp
 | cons e es ih=>
   rw [List.foldl_cons]
   refine ih _ ?_ (fun x hx=>he x (by simp [hx]));intro k hk;by_cases hb:Region.binds .any e=true
   ·rw [if_pos hb] at hk;rcases get_set_sub _ _ _ hk with rfl | h
    ·exact he e (by simp) hb
    ·exact hp k h
   ·rw [if_neg hb] at hk;exact hp k hk
theorem marks_sub (b:Array Bool) (hdown:∀(k:Nat) (o:Oper),l[k]?=some o→b.getD k false=true→∀e∈o.after.toList,Region.binds .any e=true→b.getD e.on false=true) :
 ∀(n:Nat) (i:Nat) (c:Array Bool),(∀k,c.getD k false=true→k=i∨b.getD k false=true)→(∀o,l[i]?=some o→∀e∈o.after.toList,Region.binds .any e=true→b.getD e.on false=true)→
  ∀k,(marks l n c).getD k false=true→k=i∨b.getD k false=true
 | 0,_,_,h,_=>h
 | n+1,i,c,h,hi=>by
   rw [marks];refine marks_sub b hdown n i _ ?_ hi;by_cases hc:c.getD n false=true
   ·rw [if_pos hc];cases ho:l[n]? with
    | none=>exact h
    | some o=>
      refine fold_sub c (fun k=>k=i∨b.getD k false=true) _ h ?_;intro e he hb;rcases h n hc with rfl | hn
      ·exact .inr (hi o ho e he hb)
      ·exact .inr (hdown n o ho hn e he hb)
   ·rw [if_neg hc];exact h
theorem count_less (p:Nat→Bool) (i:Nat) (hi:p i=true):∀xs:List Nat,i∈xs→xs.countP (fun k=>p k && !(k==i))+1≤xs.countP p
 | [],h=>by simp at h
 | x::xs,h=>by
   have hle:∀ys:List Nat,ys.countP (fun k=>p k && !(k==i))≤ys.countP p:=fun ys=>List.countP_mono_left (fun k _ hk=>by simp at hk;exact hk.1);by_cases hx:x=i
   ·subst hx;rw [List.countP_cons,List.countP_cons];have:=hle xs;simp [hi];omega
   ·have hm:i∈xs:=by
     rcases List.mem_cons.1 h with h | h
     ·exact absurd h.symm hx
     ·exact h
    have ih:=count_less p i hi xs hm;rw [List.countP_cons,List.countP_cons];have hne:(x==i)=false:=by simp [hx]
    rw [hne];simp only [Bool.not_false,Bool.and_true];omega
theorem wpAnyH_more {ops:Array Oper} {S:World→Prop}:∀(n:Nat) (b:Array Bool) (a:Act) (w:World),wpAnyH P .any ops Q S n b a w→wpAnyH P .any ops Q S (n+1) b a w
 | 0,_,_,_,h=>⟨fun _=>h.2,by rw [h.1];simp⟩
 | n+1,_,_,_,h=>⟨h.1,fun i hi=>wpOp_mono (fun a' w' h'=>⟨h'.1,wpAnyH_more n _ a' w' h'.2⟩) (h.2 i hi)⟩
theorem wpAnyH_up {ops:Array Oper} {S:World→Prop} (n:Nat):∀(k:Nat) (b:Array Bool) (a:Act) (w:World),wpAnyH P .any ops Q S n b a w→wpAnyH P .any ops Q S (n+k) b a w
 | 0,_,_,_,h=>h
 | k+1,b,a,w,h=>wpAnyH_more (n+k) b a w (wpAnyH_up n k b a w h)
theorem yielded_eval (a:Act) (j:Nat):yielded l.toArray a.tmps j=yld l a.eval j:=by
 unfold yielded yld;have e:l.toArray[j]?=l[j]?:=by simp
 rw [e];cases (l[j]?).bind (·.dst) with
 | none=>rfl
 | some d=>
   simp only [Option.bind_some,Act.eval];rw [Array.getD_eq_getD_getElem?];cases h:a.tmps[d]? with
   | none=>rfl
   | some v=>cases v<;>rfl
theorem put_get (a:Act) (d s:Nat) (v:Value):(a.put (some d) v).tmps[s]?=if s=d then (if d<a.tmps.size then some v else none) else a.tmps[s]?:=by
 simp only [Act.put,Array.getElem?_setIfInBounds];by_cases h:s=d
 ·subst h;simp
 ·rw [if_neg h,if_neg (fun e=>h e.symm)]
theorem put_size (a:Act) (d:Nat) (v:Value):(a.put (some d) v).tmps.size=a.tmps.size:=by simp [Act.put]
theorem putg_size (g:Nat→Value):∀(ds:List Nat) (a:Act),(putg g ds a).tmps.size=a.tmps.size
 | [],_=>rfl
 | d::ds,a=>by rw [putg,putg_size g ds,put_size]
theorem putg_defers (g:Nat→Value):∀(ds:List Nat) (a:Act),(putg g ds a).defers=a.defers
 | [],_=>rfl
 | d::ds,a=>by rw [putg,putg_defers g ds];rfl
theorem putg_get (g:Nat→Value) (s:Nat):∀(ds:List Nat) (a:Act),s<a.tmps.size→(putg g ds a).tmps[s]?=if s∈ds then some (g s) else a.tmps[s]?
 | [],a,_=>by simp [putg]
 | d::ds,a,h=>by
   rw [putg,putg_get g s ds _ (by rw [put_size];exact h),put_get];by_cases h1:s∈ds
   ·simp [h1]
   ·by_cases h2:s=d
    ·subst h2;simp [h1,h]
    ·simp [h1,h2]
theorem act_of {b:Array Bool} {a:Act} {w:World} (hI:Inv l fs K a0 m ds lm b a w):a=putg (fun d=>a.eval (.tmp d)) ds a0:=by
 have h1:=hI.size;have h2:=hI.defs;have h3:=hI.old;generalize hg:(fun d=>a.eval (.tmp d))=g;have hg':∀d,g d=a.tmps.getD d undef:=fun d=>by rw [←hg];rfl
 have ht:a.tmps=(putg g ds a0).tmps:=by
  refine Array.ext (by rw [putg_size,h1]) fun i hi hi'=>?_;have e1:a.tmps[i]?=(putg g ds a0).tmps[i]?:=by
   rw [putg_get g i ds a0 (by omega)];by_cases h:i∈ds
   ·rw [if_pos h,hg',Array.getD_eq_getD_getElem?,Array.getElem?_eq_getElem hi];rfl
   ·rw [if_neg h,h3 i h]
  rw [Array.getElem?_eq_getElem hi,Array.getElem?_eq_getElem hi'] at e1;exact Option.some.inj e1
 cases a with
 | mk t df=>
   simp only at ht h2;have:putg g ds a0=⟨(putg g ds a0).tmps,(putg g ds a0).defers⟩:=rfl;rw [this,←ht,putg_defers,←h2]
theorem facts_of {w:World} (g:Nat→Value):∀(ds:List Nat) (fs:List Fact),(∀(k d:Nat) (f:Fact),ds[k]?=some d→fs[k]?=some f→f (g d) w)→facts g w ds fs
 | [],_,_=>by simp [facts]
 | _ :: _,[],_=>by simp [facts]
 | d::ds,f::fs,h=>⟨h 0 d f rfl rfl,facts_of g ds fs fun k d f hd hf=>h (k+1) d f (by simpa using hd) (by simpa using hf)⟩
theorem has_of {b:Array Bool} {a:Act} {w:World} (hdst:(l.take m).map (·.dst)=ds.map some) (hI:Inv l fs K a0 m ds lm b a w):∀es:List Edge,(∀e∈es,Region.binds .any e=true→b.getD e.on false=true)→has l fs a.eval w es
 | [],_=>trivial
 | e::es,h=>by
   refine ⟨?_,has_of hdst hI es fun x hx=>h x (by simp [hx])⟩;by_cases hb:Region.binds .any e=true
   ·rw [if_pos hb];have hl:=h e (by simp) hb;cases ho:l[e.on]? with
    | none=>simp
    | some o=>
      cases hf:fs[e.on]? with
      | none=>simp
      | some f=>
        cases hd:o.dst with
        | none=>simp [hd]
        | some d=>
          simp only [hd];have hm:e.on<m:=by
           rcases Nat.lt_or_ge e.on m with h | h
           ·exact h
           ·rw [hI.rest _ (.inl h)] at hl;cases hl
          have hk:ds[e.on]?=some d:=by
           have h1:=congrArg (fun x:List (Option Nat)=>x[e.on]?) hdst;simp only [List.getElem?_map,List.getElem?_take_of_lt hm,ho,Option.map_some,hd] at h1;cases h2:ds[e.on]? with
           | none=>rw [h2] at h1;simp at h1
           | some d'=>rw [h2] at h1;simp at h1;rw [h1]
          exact hI.fact _ _ _ hk hf hl
   ·rw [if_neg hb];trivial
theorem step (hm:m≤l.length) (hdst:(l.take m).map (·.dst)=ds.map some) (hnd:ds.Nodup) (hsz:∀d∈ds,d<a0.tmps.size) (hlen:fs.length=m)
 (hK:∀(b:Array Bool) (k:Nat) (w w':World),k<m→b.getD k false=false→K b w→R k w w'→K (b.setIfInBounds k true) w') (hid:∀k w,R k w w) (hlast:∀(k j:Nat) (f:Fact),fs[k]?=some f→j≠k→(∀o,l[k]?=some o→∀e∈o.after.toList,Region.binds .any e=true→e.on≠j)→∀v w w',R j w w'→f v w→f v w') (hfine:∀(k:Nat) (o:Oper) (f:Fact),l[k]?=some o→fs[k]?=some f→lm.getD k false=false→FineR P l fs R K a0 ds k o f)
 {b:Array Bool} {a:Act} {w:World} (hI:Inv l fs K a0 m ds lm b a w) {i:Nat} (him:i<m) (hil:lm.getD i false=false)
 (hr:i∈Region.ready .any l.toArray b):wpOp P l.toArray Q i (fun a' w'=>Inv l fs K a0 m ds lm (b.setIfInBounds i true) a' w') a w:=by
 obtain ⟨hun,o,ho,hall⟩:=mem_ready.1 hr;have ho':l[i]?=some o:=by simpa using ho
 have hfl:i<fs.length:=by omega
 obtain ⟨f,hf⟩:∃f,fs[i]?=some f:=⟨fs[i],by rw [List.getElem?_eq_getElem hfl]⟩;obtain ⟨d,hd,hod⟩:∃d,ds[i]?=some d∧o.dst=some d:=by
  have h1:=congrArg (fun x:List (Option Nat)=>x[i]?) hdst;simp only [List.getElem?_map,List.getElem?_take_of_lt him,ho',Option.map_some] at h1;cases h2:ds[i]? with
  | none=>rw [h2] at h1;simp at h1
  | some d=>rw [h2] at h1;exact ⟨d,rfl,by simpa using h1⟩
 have hbi:i<b.size:=by rw [hI.bsize];omega
 have hun':b.getD i false=false:=by rw [Array.getD_eq_getD_getElem?] at hun ⊢;simpa [hbi] using hun
 have hdm:d∈ds:=List.mem_of_getElem? hd;have hdlt:d<a.tmps.size:=by rw [hI.size];exact hsz d hdm
 have hev:Reads a0 ds a.eval:=⟨fun _=>rfl,fun _=>rfl,fun _=>rfl,fun s hs=>by
  have hs':s∉ds:=by simpa using hs
  have:=hI.old s hs'
  simp only [Act.eval,Array.getD_eq_getD_getElem?,this]⟩
 have hhas:=has_of hdst hI o.after.toList fun e he hb=>hall e (by simpa using he) hb;obtain ⟨h1,h2⟩:=hfine i o f ho' hf hil a.eval b w hev hI.bel hun' hhas;have hw:Region.wanted o (yielded l.toArray a.tmps)=Region.wanted o (yld l a.eval):=by have:yielded l.toArray a.tmps=yld l a.eval:=funext fun j=>yielded_eval a j;rw [this]
 have key:∀(v:Value) (w':World),R i w w'→f v w'→Inv l fs K a0 m ds lm (b.setIfInBounds i true) (a.put o.dst v) w':=by
  intro v w' hb hfv;rw [hod];refine ⟨hK b i w w' him hun' hI.bel hb,by rw [put_size];exact hI.size,hI.defs,?_,?_,?_,by simp [hI.bsize],?_⟩
  ·intro s hs;rw [put_get,if_neg (fun (e:s=d)=>hs (by rw [e];exact hdm))];exact hI.old s hs
  ·intro k d' f' hd' hf' hk;have hev':(a.put (some d) v).eval (.tmp d')=if d'=d then v else a.eval (.tmp d'):=by
    simp only [Act.eval,Array.getD_eq_getD_getElem?,put_get];by_cases h:d'=d
    ·simp [h,hdlt]
    ·simp [h]
   rw [get_set b i k hbi] at hk;rw [hev'];by_cases hki:k=i
   ·subst hki;obtain rfl:d=d':=by rw [hd] at hd';exact Option.some.inj hd'
    obtain rfl:f=f':=by rw [hf] at hf';exact Option.some.inj hf'
    rw [if_pos rfl];exact hfv
   ·rw [if_neg hki] at hk;have hne:d'≠d:=fun e=>by
     subst e;have hk1:k<ds.length:=(List.getElem?_eq_some_iff.1 hd').1
     exact hki ((List.getElem?_inj hk1 hnd).1 (hd'.trans hd.symm))
    rw [if_neg hne]
    exact hlast k i f' hf' (fun e=>hki e.symm) (fun o2 ho2 e he hbe hei=>by have:=hI.down k o2 ho2 hk e he hbe;rw [hei,hun'] at this;cases this) _ _ _ hb (hI.fact k d' f' hd' hf' hk)
  ·intro k o' hk hbk e he hbe;rw [get_set b i k hbi] at hbk;rw [get_set b i e.on hbi];by_cases hki:k=i
   ·subst hki;obtain rfl:o=o':=by rw [ho'] at hk;exact Option.some.inj hk
    have:=hall e (by simpa using he) hbe;by_cases h:e.on=k
    ·rw [if_pos h]
    ·rw [if_neg h];exact this
   ·rw [if_neg hki] at hbk;have:=hI.down k o' hk hbk e he hbe;by_cases h:e.on=i
    ·rw [if_pos h]
    ·rw [if_neg h];exact this
  ·intro k hk
   rw [get_set b i k hbi,if_neg (fun e=>by
    rcases hk with hk | hk
    ·omega
    ·rw [e,hil] at hk;cases hk)]
   exact hI.rest k hk
 unfold wpOp;simp only [ho];rw [hw];by_cases hwant:Region.wanted o (yld l a.eval)=true
 ·rw [if_pos hwant];refine .inl ?_;unfold Oper.wp;cases h1 hwant with
  | value v w' hrun hb hfv=>rw [hrun,Oper.upon_value];exact key v w' hb hfv
  | enter g args hrun hc=>
    rw [hrun,Oper.upon_enter];refine hc.mono ?_;rintro e w' ⟨v,rfl,hb,hfv⟩;exact key v w' hb hfv
 ·rw [if_neg hwant]
  exact key undef w (hid i w) (h2 (by simpa using hwant))
theorem all_of (hm:m≤l.length) (hdst:(l.take m).map (·.dst)=ds.map some) (hnd:ds.Nodup) (hsz:∀d∈ds,d<a0.tmps.size) (hlen:fs.length=m)
 (hK:∀(b:Array Bool) (k:Nat) (w w':World),k<m→b.getD k false=false→K b w→R k w w'→K (b.setIfInBounds k true) w') (hid:∀k w,R k w w) (hlast:∀(k j:Nat) (f:Fact),fs[k]?=some f→j≠k→(∀o,l[k]?=some o→∀e∈o.after.toList,Region.binds .any e=true→e.on≠j)→∀v w w',R j w w'→f v w→f v w') (hidle:∀(k:Nat) (f:Fact),fs[k]?=some f→lm.getD k false=true→∀v w,f v w)
 (hfine:∀(k:Nat) (o:Oper) (f:Fact),l[k]?=some o→fs[k]?=some f→lm.getD k false=false→FineR P l fs R K a0 ds k o f)
 (hback:∀(k:Nat) (o:Oper),l[k]?=some o→∀e∈o.after.toList,Region.binds .any e=true→e.on<k)
 (hfree:∀(k:Nat) (o:Oper),l[k]?=some o→k<m→lm.getD k false=false→∀e∈o.after.toList,Region.binds .any e=true→lm.getD e.on false=false)
 (hcov:∀i,i<l.length→m≤i∨lm.getD i false=true→∀k,k<m→lm.getD k false=false→(marks l l.length ((Array.replicate l.length false).setIfInBounds i true)).getD k false=true)
 (hrest:∀(g:Nat→Value) (w:World),K (fill l.length m lm) w→facts g w ds fs→wpAnyH P .any l.toArray Q (fun _=>True) r (fill l.length m lm) (putg g ds a0) w) :
 ∀(n:Nat) (b:Array Bool) (a:Act) (w:World),Inv l fs K a0 m ds lm b a w→(List.range m).countP (fun k=>!b.getD k false && !lm.getD k false)+r≤n→wpAnyH P .any l.toArray Q (fun _=>True) n b a w:=by
 have base:∀(b:Array Bool) (a:Act) (w:World),Inv l fs K a0 m ds lm b a w→(List.range m).countP (fun k=>!b.getD k false && !lm.getD k false)=0→wpAnyH P .any l.toArray Q (fun _=>True) r b a w:=by
  intro b a w hI hc;have hall:∀k,k<m→lm.getD k false=false→b.getD k false=true:=fun k hk hl=>by have:=List.countP_eq_zero.1 hc k (by simpa using hk);rw [hl] at this;simpa using this
  have hb:b=fill l.length m lm:=by
   refine Array.ext (by simp [fill,hI.bsize]) fun i h1 h2=>?_;have e:b.getD i false=b[i]:=by simp [Array.getD_eq_getD_getElem?,h1]
   rw [←e];have e2:(fill l.length m lm)[i]=(decide (i<m) && !lm.getD i false):=by simp [fill]
   rw [e2];rcases Nat.lt_or_ge i m with hi | hi
   ·cases hl:lm.getD i false with
    | true=>rw [hI.rest i (.inr hl)];simp
    | false=>rw [hall i hi hl];simp [hi]
   ·rw [hI.rest i (.inl hi)];simp [show¬i<m by omega]
  have:=hrest _ w (hb ▸ hI.bel) (facts_of (fun d=>a.eval (.tmp d)) ds fs fun k d f hd hf=>by
   cases hl:lm.getD k false with
   | true=>exact hidle k f hf hl _ _
   | false=>exact hI.fact k d f hd hf (hall k (by have:=(List.getElem?_eq_some_iff.1 hf).1;omega) hl))
  rw [←act_of hI,←hb] at this;exact this
 intro n
 induction n with
 | zero=>
   intro b a w hI hn
   have:=base b a w hI (by omega);rw [show r=0 by omega] at this;exact this
 | succ n ih=>
   intro b a w hI hn;by_cases hc:(List.range m).countP (fun k=>!b.getD k false && !lm.getD k false)=0
   ·have h2:=wpAnyH_up r (n+1-r) _ _ _ (base b a w hI hc);rw [show r+(n+1-r)=n+1 by omega] at h2;exact h2
   ·
    have hex:∃k,k<m∧lm.getD k false=false∧b.getD k false=false:=by
     rcases Classical.em (∃k,k<m∧lm.getD k false=false∧b.getD k false=false) with h | h
     ·exact h
     ·refine absurd ?_ hc;rw [List.countP_eq_zero];intro k hk;have hk':k<m:=by simpa using hk
      cases hl:lm.getD k false with
      | true=>simp
      | false=>
        cases hb:b.getD k false with
        | true=>simp
        | false=>exact absurd ⟨k,hk',hl,hb⟩ h
    have hin:∀i∈Region.ready .any l.toArray b,i<m∧lm.getD i false=false:=by
     intro i hi;obtain ⟨hun,o,ho,hal⟩:=mem_ready.1 hi;have ho':l[i]?=some o:=by simpa using ho
     have hil:i<l.length:=(List.getElem?_eq_some_iff.1 ho').1;have key:m≤i∨lm.getD i false=true→False:=by
      intro h;obtain ⟨k,hk,hlk,hbk⟩:=hex;have hmk:=hcov i hil h k hk hlk
      have:=marks_sub b hI.down l.length i _ (fun k hk=>(get_set_sub _ _ _ hk).imp_right fun h=>by
       rw [Array.getD_eq_getD_getElem?] at h;rcases Nat.lt_or_ge k l.length with hkl | hkl
       ·simp [hkl] at h
       ·simp [hkl] at h) (fun o2 ho2 e he hb=>by
        obtain rfl:o=o2:=by rw [ho'] at ho2;exact Option.some.inj ho2
        exact hal e (by simpa using he) hb) k hmk
      rcases this with h' | h'
      ·subst h';rcases h with h | h
       ·omega
       ·rw [hlk] at h;cases h
      ·rw [hbk] at h';cases h'
     refine ⟨?_,?_⟩
     ·rcases Nat.lt_or_ge i m with h | h
      ·exact h
      ·exact absurd (.inl h) key
     ·cases h:lm.getD i false with
      | false=>rfl
      | true=>exact absurd (.inr h) key
    have hne:Region.ready .any l.toArray b≠ []:=by
     have:∀k,k<m→lm.getD k false=false→b.getD k false=false→∃i,i∈Region.ready .any l.toArray b:=by
      intro k
      induction k using Nat.strongRecOn with
      | _ k ihk=>
        intro hk hlk hbk;have hkl:k<l.length:=by omega
        rcases Classical.em (∃e∈(l[k]).after.toList,Region.binds .any e=true∧b.getD e.on false=false) with h | h
        ·obtain ⟨e,he,hb,hbe⟩:=h;have:=hback k _ (List.getElem?_eq_getElem hkl) e he hb;exact ihk e.on this (by omega) (hfree k _ (List.getElem?_eq_getElem hkl) hk hlk e he hb) hbe
        ·refine ⟨k,mem_ready.2 ⟨?_,l[k],by simp [hkl],fun e he hb=>?_⟩⟩
         ·have:k<b.size:=by rw [hI.bsize];exact hkl
          rw [Array.getD_eq_getD_getElem?] at hbk ⊢;simpa [this] using hbk
         ·cases hbe:b.getD e.on false with
          | true=>rfl
          | false=>exact absurd ⟨e,by simpa using he,hb,hbe⟩ h
     obtain ⟨k,hk,hlk,hbk⟩:=hex;obtain ⟨i,hi⟩:=this k hk hlk hbk;intro h0;rw [h0] at hi;cases hi
    refine wpAnyH_all rfl hne ?_;intro i hi;obtain ⟨him,hil⟩:=hin i hi
    refine wpOp_mono (fun a' w' h'=>⟨trivial,ih _ a' w' h' ?_⟩) (step hm hdst hnd hsz hlen hK hid hlast hfine hI him hil hi);obtain ⟨hun,o,ho,hal⟩:=mem_ready.1 hi;have hbi:i<b.size:=by rw [hI.bsize];omega
    have hun':b.getD i false=false:=by rw [Array.getD_eq_getD_getElem?] at hun ⊢;simpa [hbi] using hun
    have e:(List.range m).countP (fun k=>!(b.setIfInBounds i true).getD k false && !lm.getD k false)=(List.range m).countP (fun k=>(!b.getD k false && !lm.getD k false) && !(k==i)):=by
     refine List.countP_congr fun k _=>?_;rw [get_set b i k hbi];by_cases h:k=i
     ·simp [h]
     ·simp [h]
    have:=count_less (fun k=>!b.getD k false && !lm.getD k false) i (by rw [hun',hil];rfl) (List.range m) (by simpa using him);rw [e];omega
theorem Goes.mono {o:Oper} {ev:Operand→Value} {f f':Fact} {w:World} (h:Goes P o ev f w) (hf:∀v w,f v w→f' v w):Goes P o ev f' w:=by
 cases h with
 | value v w' hrun hb hfv=>exact .value v w' hrun hb (hf _ _ hfv)
 | enter g args hrun hc=>
   refine .enter g args hrun (hc.mono ?_);rintro e w' ⟨v,rfl,hb,hfv⟩;exact ⟨v,rfl,hb,hf _ _ hfv⟩
theorem Goes.same {o:Oper} {ev:Operand→Value} {w:World} {v:Value} (h:(execOp ev o).run P w=.ok (.value v) w):Goes P o ev (fun x _=>x=v) w:=
 .value v w h (Below.refl _ _) rfl
def When (b want:Bool) (f:Fact):Fact:=fun v w=>b=want→f v w
theorem Lasts.when {b want:Bool} {f:Fact} (h:Lasts f):Lasts (When b want f):=fun v w w' hb hf e=>h v w w' hb (hf e)
theorem Lasts.eq (x:Value):Lasts (fun v _=>v=x):=fun _ _ _ _ h=>h
theorem fine {o:Oper} {f:Fact} (hg:o.guard=none) (h:∀(ev:Operand→Value) (w:World),Reads a0 ds ev→Below W.heap.size W w→has l fs ev w o.after.toList→Goes P o ev f w):Fine P l fs W a0 ds o f:=
 fun ev w h1 h2 h3=>⟨fun _=>h ev w h1 h2 h3,fun hw=>by simp [Region.wanted,hg] at hw⟩
theorem fine_when {o:Oper} {f:Fact} {b want:Bool} (j d:Nat) (hg:o.guard=some (j,want)) (hd:(l[j]?).bind (·.dst)=some d) (hb:∀(ev:Operand→Value) (w:World),has l fs ev w o.after.toList→ev (.tmp d)=.bool b)
 (h:b=want→∀(ev:Operand→Value) (w:World),Reads a0 ds ev→Below W.heap.size W w→has l fs ev w o.after.toList→Goes P o ev f w):Fine P l fs W a0 ds o (When b want f):=by
 intro ev w h1 h2 h3;have e:Region.wanted o (yld l ev)=(some b==some want):=by simp only [Region.wanted,hg,yld,hd,hb ev w h3]
 rw [e];refine ⟨fun hw=>?_,fun hw hbw=>?_⟩
 ·have hbw:b=want:=by simpa using hw
  exact (h hbw ev w h1 h2 h3).mono fun _ _ hf _=>hf
 ·rw [hbw] at hw;simp at hw
def All (P:Program) (l:List Oper) (fs:List Fact) (W:World) (a0:Act) (ds:List Nat):List Bool→List Oper→List Fact→Prop
 | [],o::os,f::gs=>Fine P l fs W a0 ds o f∧All P l fs W a0 ds [] os gs
 | false::bs,o::os,f::gs=>Fine P l fs W a0 ds o f∧All P l fs W a0 ds bs os gs
 | true::bs,_::os,_::gs=>True∧All P l fs W a0 ds bs os gs
 | _,_,_=>True
theorem all_at:∀{bs:List Bool} {os:List Oper} {gs:List Fact},All P l fs W a0 ds bs os gs→∀(k:Nat) (o:Oper) (f:Fact),os[k]?=some o→gs[k]?=some f→bs.getD k false=false→Fine P l fs W a0 ds o f
 | [],_ :: _,_ :: _,h,0,o,f,ho,hf,_=>by simp at ho hf;subst ho hf;exact h.1
 | [],_ :: _,_ :: _,h,k+1,o,f,ho,hf,hb=>all_at (bs:= []) h.2 k o f (by simpa using ho) (by simpa using hf) (by simp)
 | false :: _,_ :: _,_ :: _,h,0,o,f,ho,hf,_=>by simp at ho hf;subst ho hf;exact h.1
 | true :: _,_ :: _,_ :: _,h,0,o,f,ho,hf,hb=>by simp at hb
 | false :: _,_ :: _,_ :: _,h,k+1,o,f,ho,hf,hb=>all_at h.2 k o f (by simpa using ho) (by simpa using hf) (by simpa using hb)
 | true :: _,_ :: _,_ :: _,h,k+1,o,f,ho,hf,hb=>all_at h.2 k o f (by simpa using ho) (by simpa using hf) (by simpa using hb)
 | _,[],_,_,k,o,f,ho,hf,_=>by simp at ho
 | _,_ :: _,[],_,k,o,f,ho,hf,_=>by simp at hf
def Every (fs:List Fact):Prop:=match fs with
 | []=>True
 | f::fs=>Lasts f∧Every fs
theorem every_at:∀{fs:List Fact},Every fs→∀f∈fs,Lasts f
 | [],_,f,hf=>by simp at hf
 | g::fs,h,f,hf=>by
   rcases List.mem_cons.1 hf with rfl | hf
   ·exact h.1
   ·exact every_at h.2 f hf
def Idle:List Bool→List Fact→Prop
 | true::bs,f::fs=>(∀v w,f v w)∧Idle bs fs
 | false::bs,_::fs=>Idle bs fs
 | _,_=>True
theorem idle_at:∀{bs:List Bool} {fs:List Fact},Idle bs fs→∀(k:Nat) (f:Fact),fs[k]?=some f→bs.getD k false=true→∀v w,f v w
 | [],_,_,k,f,_,hb=>by simp at hb
 | true :: _,_ :: _,h,0,f,hf,_=>by simp at hf;subst hf;exact h.1
 | false :: _,_ :: _,_,0,f,_,hb=>by simp at hb
 | true :: _,_ :: _,h,k+1,f,hf,hb=>idle_at h.2 k f (by simpa using hf) (by simpa using hb)
 | false::bs,_::fs,h,k+1,f,hf,hb=>idle_at (bs:=bs) (fs:=fs) h k f (by simpa using hf) (by simpa using hb)
 | _ :: _,[],_,k,f,hf,_=>by simp at hf
theorem region_gen (m:Nat) (ds:List Nat) (fs:List Fact) (lm:List Bool) (r:Nat) (p:Tree.Plan) {id:Nat} {a0:Act} {w:World} (hmo:P.follows .mixedOrders=true) (hg:good l m ds lm r=true) (hns:Region.noSelect l.toArray=true)
 (hp:Tree.fits l.toArray p r (fill l.length m lm)=true) (hQ:∀c a d v w,Q (.panic c) (Act.put a d v) w→Q (.panic c) a w)
 (hsz:ds.all (fun d=>decide (d<a0.tmps.size))=true) (hlen:fs.length=m) (hK0:K (Array.replicate l.length false) (w.drewN 1)) (hK:∀(b:Array Bool) (k:Nat) (w w':World),k<m→b.getD k false=false→K b w→R k w w'→K (b.setIfInBounds k true) w') (hid:∀k w,R k w w) (hlast:∀(k j:Nat) (f:Fact),fs[k]?=some f→j≠k→(∀o,l[k]?=some o→∀e∈o.after.toList,Region.binds .any e=true→e.on≠j)→∀v w w',R j w w'→f v w→f v w') (hidle:Idle lm fs)
 (hfine:∀(k:Nat) (o:Oper) (f:Fact),l[k]?=some o→fs[k]?=some f→lm.getD k false=false→FineR P l fs R K a0 ds k o f)
 (hrest:∀(g:Nat→Value) (w':World),K (fill l.length m lm) w'→facts g w' ds fs→Tree.Step P l.toArray Q (fun _=>True) (Tree.grow l p) (putg g ds a0) w'):(Code.region id l.toArray true).wp P Q a0 w:=by
 simp only [good,Bool.and_eq_true,List.all_eq_true,decide_eq_true_eq,List.mem_range,Bool.or_eq_true] at hg;obtain ⟨h1,h2,h3,h4,h5,h6⟩:=hg;refine wp_region_held (S:=fun _=>True) hmo ?_;have hb4:∀(k:Nat) (o:Oper),l[k]?=some o→∀e∈o.after.toList,Region.binds .any e=true→e.on<k∧(k<m→lm.getD k false=false→lm.getD e.on false=false):=by
  intro k o hk e he hb;have:=h4 k (List.getElem?_eq_some_iff.1 hk).1;rw [hk] at this;simp only [List.all_eq_true,Bool.or_eq_true,Bool.and_eq_true,Bool.not_eq_true',decide_eq_true_eq] at this;rcases this e he with h | ⟨h,h'⟩
  ·rw [hb] at h;cases h
  ·refine ⟨h,fun hk hl=>?_⟩;rcases h' with (h' | h') | h'
   ·rw [hl] at h';cases h'
   ·omega
   ·exact h'
 have hcov:∀i,i<l.length→m≤i∨lm.getD i false=true→∀k,k<m→lm.getD k false=false→(marks l l.length ((Array.replicate l.length false).setIfInBounds i true)).getD k false=true:=by
  intro i hi hmi k hk hl;rcases h5 i hi with ⟨h,h'⟩ | h
  ·rcases hmi with hmi | hmi
   ·omega
   ·rw [hmi] at h';cases h'
  ·rcases h k hk with h | h
   ·rw [hl] at h;cases h
   ·exact h
 have hsz':∀d∈ds,d<a0.tmps.size:=by simpa using hsz
 have hI:Inv l fs K a0 m ds lm (Array.replicate l.length false) a0 (w.drewN 1):=by
  have hrep:∀k,(Array.replicate l.length false).getD k false=false:=fun k=>by rw [Array.getD_eq_getD_getElem?];rcases Nat.lt_or_ge k l.length with h | h<;>simp [h]
  refine ⟨hK0,rfl,rfl,fun _ _=>rfl,fun k d f _ _ h=>?_,fun k o _ h=>?_,by simp,fun k _=>hrep k⟩
  ·rw [hrep] at h;cases h
  ·rw [hrep] at h;cases h
 have:=all_of (P:=P) (Q:=Q) (r:=r) h1 h2 h3 hsz' hlen hK hid hlast (idle_at hidle) hfine (fun k o hk e he hb=>(hb4 k o hk e he hb).1)
  (fun k o hk hkm hl e he hb=>(hb4 k o hk e he hb).2 hkm hl) hcov
  (fun g w' hb hf=>Tree.held_of_walk hns hQ p _ _ _ w' hp trivial (hrest g w' hb hf).out) l.length _ a0 (w.drewN 1) hI (by
    have:(List.range m).countP (fun k=>!(Array.replicate l.length false).getD k false && !lm.getD k false)≤(List.range m).countP (fun k=>!lm.getD k false):=
     List.countP_mono_left fun k _ hk=>by simp at hk;simpa using hk.2
    omega)
 simpa [World.drewN] using this
theorem region_late (m:Nat) (ds:List Nat) (fs:List Fact) (lm:List Bool) (r:Nat) (p:Tree.Plan) {id:Nat} {a0:Act} {w:World} (hmo:P.follows .mixedOrders=true) (hg:good l m ds lm r=true) (hns:Region.noSelect l.toArray=true)
 (hp:Tree.fits l.toArray p r (fill l.length m lm)=true) (hQ:∀c a d v w,Q (.panic c) (Act.put a d v) w→Q (.panic c) a w)
 (hsz:ds.all (fun d=>decide (d<a0.tmps.size))=true) (hlen:fs.length=m) (hlast:Every fs) (hidle:Idle lm fs) (hfine:All P l fs (w.drewN 1) a0 ds lm l fs)
 (hrest:∀(g:Nat→Value) (w':World),Below w.heap.size w w'→facts g w' ds fs→Tree.Step P l.toArray Q (fun _=>True) (Tree.grow l p) (putg g ds a0) w'):(Code.region id l.toArray true).wp P Q a0 w:=
 region_gen (K:=fun _ w'=>Below (w.drewN 1).heap.size (w.drewN 1) w') (R:=fun _ w w'=>Below w.heap.size w w') m ds fs lm r p hmo hg hns hp hQ hsz hlen (Below.refl _ _)
  (fun _ _ _ _ _ _ h h'=>h.trans (h'.mono h.size)) (fun _ _=>Below.refl _ _) (fun _ _ f hf _ _=>every_at hlast f (List.mem_of_getElem? hf)) hidle
  (fun k o f ho hf hl ev _ w' h1 h2 _ h4=>⟨fun hw=>((all_at hfine k o f ho hf hl ev w' h1 h2 h4).1 hw).gen fun _ h=>h,(all_at hfine k o f ho hf hl ev w' h1 h2 h4).2⟩)
  fun g w' hb hf=>hrest g w' ((Base.below_drewN (Below.refl w.heap.size w) 1).trans hb) hf
theorem region (m:Nat) (ds:List Nat) (fs:List Fact) (p:Tree.Plan) {id:Nat} {a0:Act} {w:World} (hmo:P.follows .mixedOrders=true) (hg:good l m ds [] (l.length-m)=true) (hns:Region.noSelect l.toArray=true)
 (hp:Tree.fits l.toArray p (l.length-m) (fill l.length m [])=true) (hQ:∀c a d v w,Q (.panic c) (Act.put a d v) w→Q (.panic c) a w)
 (hsz:ds.all (fun d=>decide (d<a0.tmps.size))=true) (hlen:fs.length=m) (hlast:Every fs) (hfine:All P l fs (w.drewN 1) a0 ds [] l fs)
 (hrest:∀(g:Nat→Value) (w':World),Below w.heap.size w w'→facts g w' ds fs→Tree.Step P l.toArray Q (fun _=>True) (Tree.grow l p) (putg g ds a0) w'):(Code.region id l.toArray true).wp P Q a0 w:=
 region_late m ds fs [] (l.length-m) p hmo hg hns hp hQ hsz hlen hlast trivial hfine hrest
theorem region_all (m:Nat) (ds:List Nat) (fs:List Fact) {id:Nat} {a0:Act} {w:World} (hmo:P.follows .mixedOrders=true) (hg:good l m ds [] (l.length-m)=true) (hns:Region.noSelect l.toArray=true)
 (hp:Tree.fits l.toArray .done (l.length-m) (fill l.length m [])=true) (hQ:∀c a d v w,Q (.panic c) (Act.put a d v) w→Q (.panic c) a w)
 (hsz:ds.all (fun d=>decide (d<a0.tmps.size))=true) (hlen:fs.length=m) (hlast:Every fs) (hfine:All P l fs (w.drewN 1) a0 ds [] l fs)
 (hrest:∀(g:Nat→Value) (w':World),Below w.heap.size w w'→facts g w' ds fs→Q .normal (putg g ds a0) w'):(Code.region id l.toArray true).wp P Q a0 w:=
 region m ds fs .done hmo hg hns hp hQ hsz hlen hlast hfine fun g w' hb hf=>by rw [Tree.grow];exact Tree.done (hrest g w' hb hf)
end
end Go.Proofs.YtnabkcglnbdfeaaGreatDoor.Each
