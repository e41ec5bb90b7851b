import Derived.Test.YtimoakmcelocfaaGreatAyg
namespace Go.Proofs.YtimoakmcelocfaaGreat.Pg
open Go.RowKit Base Txt Par
structure RelW (m:Ln.M) (q:Ln.R):Prop where
 lf:q.lf=m.lf
 cr:q.cr=m.cr
 most:q.most=m.most
 dead:q.dead=false
 CR:q.CR=m.pend
 B:q.B=if Ln.ended m.last then [] else m.buf
structure Fresh (m:Ln.M):Prop where
 buf:(if Ln.ended m.last then [] else m.buf)= []
 pend:m.pend=false
theorem RelW.step {m:Ln.M} {q:Ln.R} (h:RelW m q) (hm:m.Ok) (hf:Ln.failed m.last=false) (c:UInt8) :
 q.how c=m.clear.next c∧(Ln.failed (m.clear.next c)=false→RelW (m.byte c) (q.byte c)∧(q.byte c).L=(m.byte c).line):=by
 have hr:Ln.Rel m {q with L:=m.line}:=⟨h.lf,h.cr,h.most,h.dead.trans hf.symm,rfl,fun _=>h.CR,fun _=>h.B⟩;have h1:=Ln.step_how hr hm c;have h2:=Ln.step_rel hr hm c;have e:({q with L:=m.line}:Ln.R).byte c=q.byte c:=by simp [Ln.R.byte,Ln.R.start,Ln.R.fin,Ln.R.die,h.dead]
 rw [e] at h2;refine ⟨h1,fun hn=>?_⟩;exact ⟨⟨h2.lf,h2.cr,h2.most,h2.dead.trans hn,h2.CR hn,h2.B hn⟩,h2.L⟩
theorem Fresh.isNew {t:T} (h:Fresh t.rd):t.isNew=true:=by
 have h1:t.rd.len=0:=by
  have:=congrArg List.length h.buf;unfold Ln.M.len;split
  ·rfl
  ·rename_i hn;rw [if_neg hn] at this;exact this
 unfold T.isNew;rw [h1,h.pend];rfl
structure R0 (p:Nat) (b:Bd) (t:T) (s:S):Prop where
 e:s.e=0
 st:t.st=s.st+1
 r:s.r=t.r
 out:s.out=t.out
 head:s.head=t.size
 hl:s.st≤1→s.lines=t.hl
 bl:s.st=6→s.lines=t.bl
 bl0:s.st≠6→t.bl=0
 left:Par.bodied s.st=true→s.left=t.left
 rd:Par.bodied s.st=false→RelW t.rd s.rd
 fr:Par.bodied s.st=true→Fresh t.rd
 lf:t.rd.lf=Qk.has p 1
 cr:t.rd.cr=Qk.has p 2
 most:s.st≠5→t.rd.most=Ln.mid b.x0
 beh:s.st=5→t.r.body≠ []
 ch:t.r.ch=decide (3≤s.st)
structure RR (p:Nat) (b:Bd) (t:T) (s:S):Prop extends R0 p b t s where
 fresh:s.fresh=t.next
 clean:s.clean=(t.st==1&&t.isNew)
def RQ (p:Nat) (b:Bd):Q→S→Prop
 | .live t,s=>RR p b t s
 | .dead e o,s=>s.e=e∧e≠0∧s.out=o∧s.clean=false
section
variable {p:Nat} {b:Bd} {t:T} {s:S}
theorem Fresh.nl {m:Ln.M} (h:Fresh m) (hl:m.lf=Qk.has p 1) (hc:m.cr=Qk.has p 2) (hm:m.most=Ln.mid b.x0):RelW m (nl p b.x0):=
 ⟨hl.symm,hc.symm,hm.symm,rfl,h.pend.symm,h.buf.symm⟩
theorem fresh_of (most:Int):Fresh (Ln.M.of p most):=⟨rfl,rfl⟩
theorem next_st (h3:t.st≠3) (h4:t.st≠4):t.next=false:=by unfold T.next;rw [beq_eq_false_iff_ne.2 h3,beq_eq_false_iff_ne.2 h4];rfl
theorem next_body (h:t.r.body≠ []):t.next=false:=by
 unfold T.next;have:t.r.body.isEmpty=false:=by
  cases hb:t.r.body with
  | nil=>exact absurd hb h
  | cons _ _=>rfl
 rw [this,Bool.false_and,Bool.and_false]
theorem clean_st (h:t.st≠1):(t.st==1&&t.isNew)=false:=by rw [beq_eq_false_iff_ne.2 h];rfl
theorem ends_err {e:Nat} {t:T} (he:e≠0):ends (e,t)=.dead e t.out:=if_neg he
theorem fail_sim {e:Nat} (h:R0 p b t s) (he:e≠0):RQ p b (.dead e t.out) (s.fail e):=⟨rfl,he,h.out,rfl⟩
theorem bod (h:R0 p b t s):Pg.bodied t.st=Par.bodied s.st:=by
 rw [h.st];unfold Pg.bodied Par.bodied;have e1:(s.st+1==3)=(s.st==2):=by rw [Bool.eq_iff_iff,beq_iff_eq,beq_iff_eq];omega
 have e2:(s.st+1==5)=(s.st==4):=by rw [Bool.eq_iff_iff,beq_iff_eq,beq_iff_eq];omega
 rw [e1,e2]
theorem hed (h:R0 p b t s):Pg.headed t.st=Par.headed s.st:=by
 rw [h.st];unfold Pg.headed Par.headed;have e1:(s.st+1==1)=(s.st==0):=by rw [Bool.eq_iff_iff,beq_iff_eq,beq_iff_eq];omega
 have e2:(s.st+1==2)=(s.st==1):=by rw [Bool.eq_iff_iff,beq_iff_eq,beq_iff_eq];omega
 have e3:(s.st+1==7)=(s.st==6):=by rw [Bool.eq_iff_iff,beq_iff_eq,beq_iff_eq];omega
 rw [e1,e2,e3]
theorem long_sim (h:R0 p b t s):Pg.longE t.st=Par.longE s.st∧Par.longE s.st≠0:=by
 rw [h.st];unfold Pg.longE Par.longE Par.headed;by_cases h0:s.st=0
 ·simp [h0]
 ·by_cases h1:s.st=1
  ·simp [h1]
  ·by_cases h6:s.st=6
   ·simp [h6]
   ·rw [if_neg (by omega),if_neg (by omega),if_neg h0,if_neg (by simp [h0,h1,h6])];decide
theorem whole_sim (h:R0 p b t s) (hf:Fresh t.rd) (h5:s.st≠5):RR p b t.fin (s.whole p b) where
 e:=h.e
 st:=rfl
 r:=rfl
 out:=by show s.out ++ [s.r]=t.out ++ [t.r];rw [h.out,h.r]
 head:=rfl
 hl:=fun _=>rfl
 bl:=fun e=>absurd e (by show (0:Nat)≠6;decide)
 bl0:=fun _=>rfl
 left:=fun e=>absurd e (by show Par.bodied 0≠true;decide)
 rd:=fun _=>hf.nl h.lf h.cr (h.most h5)
 fr:=fun e=>absurd e (by show Par.bodied 0≠true;decide)
 lf:=h.lf
 cr:=h.cr
 most:=fun _=>h.most h5
 beh:=fun e=>absurd e (by show (0:Nat)≠5;decide)
 ch:=rfl
 fresh:=(next_st (t:=t.fin) (by show (1:Nat)≠3;decide) (by show (1:Nat)≠4;decide)).symm
 clean:=by
  have:t.fin.isNew=true:=Fresh.isNew (t:=t.fin) hf
  show true=((1:Nat)==1&&t.fin.isNew);rw [this];rfl
theorem first_sim (h:R0 p b t s) (hf:Fresh t.rd) (hc:s.clean=false) (hfr:s.fresh=false) (hs:s.st=0) (ln:List UInt8):RQ p b (ends (t.first p b ln)) (s.first p b ln):=by
 have ht:t.st=1:=by rw [h.st,hs]
 unfold T.first S.first;by_cases h0:ln= []
 ·simp only [if_pos h0];cases hq:Qk.has p 0 with
  | true=>
    simp only [if_true]
    exact {h with
     fresh:=hfr.trans (next_st (t:=t) (by omega) (by omega)).symm
     clean:=by
      show true= _
      rw [hf.isNew,ht];rfl}
  | false=>
    simp only [Bool.false_eq_true,if_false];rw [ends_err (by decide)]
    exact fail_sim h (by decide)
 ·simp only [if_neg h0];generalize Rq.request (Rq.clOf p) b.od ln=q;by_cases hq:q.2.2.2=0
  ·simp only [hq,if_true,ne_eq,not_true_eq_false,if_false];show RR p b _ _
   exact {
    e:=h.e
    st:=rfl
    r:=by show ({s.r with m:=ba q.1,x:=ba q.2.1,k:=(q.2.2.1:Int)}:Rec.R)={t.r with m:=ba q.1,x:=ba q.2.1,k:=(q.2.2.1:Int)};rw [h.r]
    out:=h.out
    head:=h.head
    hl:=fun _=>h.hl (by omega)
    bl:=fun e=>absurd e (by show (1:Nat)≠6;decide)
    bl0:=fun _=>h.bl0 (by omega)
    left:=fun e=>absurd e (by show Par.bodied 1≠true;decide)
    rd:=fun _=>h.rd (by rw [hs];rfl)
    fr:=fun e=>absurd e (by show Par.bodied 1≠true;decide)
    lf:=h.lf
    cr:=h.cr
    most:=fun _=>h.most (by omega)
    beh:=fun e=>absurd e (by show (1:Nat)≠5;decide)
    ch:=by show t.r.ch=decide (3≤1);rw [h.ch,hs];rfl
    fresh:=hfr.trans (next_st (t:={t with r:={t.r with m:=ba q.1,x:=ba q.2.1,k:=(q.2.2.1:Int)},st:=2}) (by show (2:Nat)≠3;decide) (by show (2:Nat)≠4;decide)).symm
    clean:=hc}
  ·rw [if_neg hq,if_pos hq,ends_err hq];exact fail_sim h hq
theorem over_sim (h:R0 p b t s) (ok:t.Ok) (hf:Fresh t.rd) (hc:s.clean=false) (hs:s.st=1):RQ p b (ends (t.endHead p b)) (s.over p b):=by
 have ht:t.st=2:=by rw [h.st,hs]
 have hbody:t.r.body= []:=ok.early (by omega);have hnew:=hf.isNew;unfold T.endHead S.over;rw [h.r];have hp:=fun h1=>decide_pos (d:=Frm.decideV (Frm.clOf p) b.ch b.x3 t.r.k t.r.fs) rfl h1;generalize Frm.decideV (Frm.clOf p) b.ch b.x3 t.r.k t.r.fs=d at hp ⊢;by_cases h1:d.2.2=0
 ·simp only [h1,ne_eq,not_true_eq_false,if_false];by_cases h2:d.1=2
  ·simp only [if_pos h2];show RR p b _ _
   exact {
    e:=h.e
    st:=rfl
    r:=rfl
    out:=h.out
    head:=h.head
    hl:=fun e=>absurd e (by show¬(3:Nat)≤1;decide)
    bl:=fun e=>absurd e (by show (3:Nat)≠6;decide)
    bl0:=fun _=>h.bl0 (by omega)
    left:=fun e=>absurd e (by show Par.bodied 3≠true;decide)
    rd:=fun _=>hf.nl h.lf h.cr (h.most (by omega))
    fr:=fun e=>absurd e (by show Par.bodied 3≠true;decide)
    lf:=h.lf
    cr:=h.cr
    most:=fun _=>h.most (by omega)
    beh:=fun e=>absurd e (by show (3:Nat)≠5;decide)
    ch:=rfl
    fresh:=by show true=(((4:Nat)==3|| (4:Nat)==4)&&(t.r.body.isEmpty&&t.isNew));rw [hbody,hnew];rfl
    clean:=hc.trans (clean_st (t:={t with r:={t.r with ch:=true},st:=4}) (by show (4:Nat)≠1;decide)).symm}
  ·simp only [if_neg h2];by_cases h3:d.2.1=0
   ·simp only [if_pos h3]
    exact whole_sim h hf (by omega)
   ·simp only [if_neg h3];show RR p b _ _
    exact {
     e:=h.e
     st:=rfl
     r:=rfl
     out:=h.out
     head:=h.head
     hl:=fun e=>absurd e (by show¬(2:Nat)≤1;decide)
     bl:=fun e=>absurd e (by show (2:Nat)≠6;decide)
     bl0:=fun _=>h.bl0 (by omega)
     left:=fun _=>rfl
     rd:=fun e=>absurd e (by show Par.bodied 2≠false;decide)
     fr:=fun _=>hf
     lf:=h.lf
     cr:=h.cr
     most:=fun _=>h.most (by omega)
     beh:=fun e=>absurd e (by show (2:Nat)≠5;decide)
     ch:=by show t.r.ch=decide (3≤2);rw [h.ch,hs];rfl
     fresh:=by show true=(((3:Nat)==3|| (3:Nat)==4)&&(t.r.body.isEmpty&&t.isNew));rw [hbody,hnew];rfl
     clean:=hc.trans (clean_st (t:={t with left:=d.2.1.toNat,st:=3}) (by show (3:Nat)≠1;decide)).symm}
 ·simp only [ne_eq,h1,not_false_eq_true,if_true];rw [ends_err (hp h1)]
  exact fail_sim h (hp h1)
theorem fields_sim (h:R0 p b t s) (ok:t.Ok) (hf:Fresh t.rd) (hc:s.clean=false) (hfr:s.fresh=false) (hs:s.st=1) (ln:List UInt8):RQ p b (ends (t.fields p b ln)) (s.fields p b ln):=by
 have ht:t.st=2:=by rw [h.st,hs]
 unfold T.fields S.fields;by_cases h0:ln= []
 ·simp only [if_pos h0];exact over_sim h ok hf hc hs
 ·simp only [if_neg h0];rw [h.r,h.hl (by omega)];cases hv:fieldV p t.hl t.r.fs ln b.x1 with
  | inl e=>
    have he:e≠0:=by rcases fieldV_err hv with e1 | e1<;>rw [e1]<;>decide
    simp only [listE];rw [ends_err he];exact ⟨rfl,he,h.out,rfl⟩
  | inr l=>
    show RR p b _ _
    exact {
     e:=h.e
     st:=h.st
     r:=rfl
     out:=h.out
     head:=h.head
     hl:=fun _=>rfl
     bl:=fun e=>absurd e (by show s.st≠6;omega)
     bl0:=fun _=>h.bl0 (by omega)
     left:=fun e=>absurd e (by show Par.bodied s.st≠true;rw [hs];decide)
     rd:=fun _=>h.rd (by rw [hs];rfl)
     fr:=fun e=>absurd e (by show Par.bodied s.st≠true;rw [hs];decide)
     lf:=h.lf
     cr:=h.cr
     most:=fun _=>h.most (by omega)
     beh:=fun e=>absurd e (by show s.st≠5;omega)
     ch:=h.ch
     fresh:=hfr.trans (next_st (t:={t with hl:=t.hl+1,r:={t.r with fs:=l}}) (by show t.st≠3;omega) (by show t.st≠4;omega)).symm
     clean:=hc.trans (clean_st (t:={t with hl:=t.hl+1,r:={t.r with fs:=l}}) (by show t.st≠1;omega)).symm}
theorem trail_sim (h:R0 p b t s) (hf:Fresh t.rd) (hc:s.clean=false) (hfr:s.fresh=false) (hs:s.st=6) (ln:List UInt8):RQ p b (ends (t.trail p b ln)) (s.trail p b ln):=by
 have ht:t.st=7:=by rw [h.st,hs]
 unfold T.trail S.trail;by_cases h0:ln= []
 ·simp only [if_pos h0]
  exact whole_sim h hf (by omega)
 ·simp only [if_neg h0];rw [h.r,h.bl hs];cases hv:fieldV p t.bl t.r.ts ln b.x5 with
  | inl e=>
    have he:e≠0:=by rcases fieldV_err hv with e1 | e1<;>rw [e1]<;>decide
    simp only [listE];rw [ends_err he];exact ⟨rfl,he,h.out,rfl⟩
  | inr l=>
    show RR p b _ _
    exact {
     e:=h.e
     st:=h.st
     r:=rfl
     out:=h.out
     head:=h.head
     hl:=fun e=>absurd e (by show¬s.st≤1;omega)
     bl:=fun _=>rfl
     bl0:=fun e=>absurd hs e
     left:=fun e=>absurd e (by show Par.bodied s.st≠true;rw [hs];decide)
     rd:=fun _=>h.rd (by rw [hs];rfl)
     fr:=fun e=>absurd e (by show Par.bodied s.st≠true;rw [hs];decide)
     lf:=h.lf
     cr:=h.cr
     most:=fun _=>h.most (by omega)
     beh:=fun e=>absurd e (by show s.st≠5;omega)
     ch:=h.ch
     fresh:=hfr.trans (next_st (t:={t with bl:=t.bl+1,r:={t.r with ts:=l}}) (by show t.st≠3;omega) (by show t.st≠4;omega)).symm
     clean:=hc.trans (clean_st (t:={t with bl:=t.bl+1,r:={t.r with ts:=l}}) (by show t.st≠1;omega)).symm}
theorem chunk_sim (h:R0 p b t s) (hf:Fresh t.rd) (hc:s.clean=false) (hfr:s.fresh=false) (hs:s.st=3) (ln:List UInt8):RQ p b (ends (t.chunk p b ln)) (s.chunk p b ln):=by
 have ht:t.st=4:=by rw [h.st,hs]
 unfold T.chunk S.chunk;rw [h.r];have hp:=fun h1=>size_pos (z:=Chk.sizeV (Qk.has p 27) (Qk.has p 28) b.x4 b.x3 ln) rfl h1;generalize Chk.sizeV (Qk.has p 27) (Qk.has p 28) b.x4 b.x3 ln=z at hp ⊢;by_cases h1:z.2=0
 ·simp only [h1,ne_eq,not_true_eq_false,if_false];by_cases h2:z.1=0
  ·simp only [if_pos h2];show RR p b _ _
   exact {
    e:=h.e
    st:=rfl
    r:=rfl
    out:=h.out
    head:=h.head
    hl:=fun e=>absurd e (by show¬(6:Nat)≤1;decide)
    bl:=fun _=>(h.bl0 (by omega)).symm
    bl0:=fun e=>absurd rfl e
    left:=fun e=>absurd e (by show Par.bodied 6≠true;decide)
    rd:=fun _=>hf.nl h.lf h.cr (h.most (by omega))
    fr:=fun e=>absurd e (by show Par.bodied 6≠true;decide)
    lf:=h.lf
    cr:=h.cr
    most:=fun _=>h.most (by omega)
    beh:=fun e=>absurd e (by show (6:Nat)≠5;decide)
    ch:=by show t.r.ch=decide (3≤6);rw [h.ch,hs];rfl
    fresh:=hfr.trans (next_st (t:={t with st:=7}) (by show (7:Nat)≠3;decide) (by show (7:Nat)≠4;decide)).symm
    clean:=hc.trans (clean_st (t:={t with st:=7}) (by show (7:Nat)≠1;decide)).symm}
  ·simp only [if_neg h2];by_cases h3:b.x3-(t.r.body.length:Int)<z.1
   ·simp only [if_pos h3];rw [ends_err (by decide)]
    exact fail_sim h (by decide)
   ·simp only [if_neg h3];show RR p b _ _
    exact {
     e:=h.e
     st:=rfl
     r:=rfl
     out:=h.out
     head:=h.head
     hl:=fun e=>absurd e (by show¬(4:Nat)≤1;decide)
     bl:=fun e=>absurd e (by show (4:Nat)≠6;decide)
     bl0:=fun _=>h.bl0 (by omega)
     left:=fun _=>rfl
     rd:=fun e=>absurd e (by show Par.bodied 4≠false;decide)
     fr:=fun _=>hf
     lf:=h.lf
     cr:=h.cr
     most:=fun _=>h.most (by omega)
     beh:=fun e=>absurd e (by show (4:Nat)≠5;decide)
     ch:=by show t.r.ch=decide (3≤4);rw [h.ch,hs];rfl
     fresh:=hfr.trans (next_st (t:={t with left:=z.1.toNat,st:=5}) (by show (5:Nat)≠3;decide) (by show (5:Nat)≠4;decide)).symm
     clean:=hc.trans (clean_st (t:={t with left:=z.1.toNat,st:=5}) (by show (5:Nat)≠1;decide)).symm}
 ·simp only [ne_eq,h1,not_false_eq_true,if_true];rw [ends_err (hp h1)]
  exact fail_sim h (hp h1)
theorem enter_sim (h:R0 p b t s) (hs:s.st=5):R0 p b (t.enter p 4 b.x0) {s with st:=3,rd:=nl p b.x0} where
 e:=h.e
 st:=rfl
 r:=h.r
 out:=h.out
 head:=h.head
 hl:=fun e=>absurd e (by show¬(3:Nat)≤1;decide)
 bl:=fun e=>absurd e (by show (3:Nat)≠6;decide)
 bl0:=fun _=>h.bl0 (by omega)
 left:=fun e=>absurd e (by show Par.bodied 3≠true;decide)
 rd:=fun _=>(fresh_of b.x0).nl rfl rfl rfl
 fr:=fun e=>absurd e (by show Par.bodied 3≠true;decide)
 lf:=rfl
 cr:=rfl
 most:=fun _=>rfl
 beh:=fun e=>absurd e (by show (3:Nat)≠5;decide)
 ch:=by show t.r.ch=decide (3≤3);rw [h.ch,hs];rfl
theorem line_sim (h:R0 p b t s) (ok:t.Ok) (hf:Fresh t.rd) (hc:s.clean=false) (hfr:s.fresh=false) (hn:Par.bodied s.st=false) (ln:List UInt8):RQ p b (ends (t.line p b ln)) (s.ended p b ln):=by
 have h7:=ok.st;have ht:=h.st;have hn2:s.st≠2∧s.st≠4:=by constructor<;> (intro e;rw [e] at hn;exact absurd hn (by decide))
 have hcs:s.st=0∨s.st=1∨s.st=3∨s.st=5∨s.st=6:=by omega
 unfold T.line S.ended;rcases hcs with e | e | e | e | e
 ·rw [ht,e];exact first_sim h hf hc hfr e ln
 ·rw [ht,e];exact fields_sim h ok hf hc hfr e ln
 ·rw [ht,e];exact chunk_sim h hf hc hfr e ln
 ·rw [ht,e];have h1:=enter_sim h e;show RR p b (t.enter p 4 b.x0) {s with st:=3,rd:=nl p b.x0}
  exact {h1 with
   fresh:=hfr.trans (next_body (t:=t.enter p 4 b.x0) (h.beh e)).symm
   clean:=hc.trans (clean_st (t:=t.enter p 4 b.x0) (by show (4:Nat)≠1;decide)).symm}
 ·rw [ht,e];exact trail_sim h hf hc hfr e ln
theorem body_sim (h:R0 p b t s) (ok:t.Ok) (hc:s.clean=false) (hfr:s.fresh=false) (hn:Par.bodied s.st=true) (c:UInt8) :
 RR p b (if t.left=1 then (t.keep c).endData p else t.keep c) (s.bodyB p b c):=by
 have hst:s.st=2∨s.st=4:=by unfold Par.bodied at hn;simpa using hn
 have hl:1≤t.left:=ok.left (by rw [bod h];exact hn);have hle:=h.left hn;have hfr0:=h.fr hn;have hbd:(t.keep c).r.body≠ []:=by show t.r.body ++ [c]≠ [];simp
 have er:({s.r with body:=s.r.body ++ [c]}:Rec.R)={t.r with body:=t.r.body ++ [c]}:=by rw [h.r]
 have hk:R0 p b (t.keep c) {s with r:={s.r with body:=s.r.body ++ [c]},left:=s.left-1}:={
  e:=h.e
  st:=h.st
  r:=er
  out:=h.out
  head:=h.head
  hl:=h.hl
  bl:=h.bl
  bl0:=h.bl0
  left:=fun _=>by show s.left-1=t.left-1;rw [hle]
  rd:=fun e=>h.rd e
  fr:=fun _=>hfr0
  lf:=h.lf
  cr:=h.cr
  most:=h.most
  beh:=fun _=>hbd
  ch:=h.ch}
 unfold S.bodyB;by_cases h1:1<s.left
 ·rw [if_neg (by omega)];simp only [if_pos h1]
  exact {hk with
   fresh:=hfr.trans (next_body hbd).symm
   clean:=hc.trans (clean_st (t:=t.keep c) (by show t.st≠1;have:=h.st;omega)).symm}
 ·rw [if_pos (by omega)];simp only [if_neg h1];unfold T.endData;have e2:(t.keep c).r.ch=t.r.ch:=rfl;rw [e2,h.ch];rcases hst with e | e
  ·simp only [e,Nat.reduceLeDiff,decide_false,Bool.false_eq_true,if_false,if_true]
   have:=whole_sim hk hfr0 (by show s.st≠5;omega);rw [e] at this;exact this
  ·simp only [e,Nat.reduceLeDiff,decide_true,if_true,Nat.reduceEqDiff,if_false]
   exact {
    e:=h.e
    st:=rfl
    r:=er
    out:=h.out
    head:=h.head
    hl:=fun e=>absurd e (by show¬(5:Nat)≤1;decide)
    bl:=fun e=>absurd e (by show (5:Nat)≠6;decide)
    bl0:=fun _=>h.bl0 (by omega)
    left:=fun e=>absurd e (by show Par.bodied 5≠true;decide)
    rd:=fun _=>⟨rfl,rfl,rfl,rfl,rfl,rfl⟩
    fr:=fun e=>absurd e (by show Par.bodied 5≠true;decide)
    lf:=rfl
    cr:=rfl
    most:=fun e=>absurd rfl e
    beh:=fun _=>hbd
    ch:=by show t.r.ch=decide (3≤5);rw [h.ch,e];rfl
    fresh:=hfr.trans (next_st (t:=(t.keep c).enter p 6 0) (by show (6:Nat)≠3;decide) (by show (6:Nat)≠4;decide)).symm
    clean:=hc.trans (clean_st (t:=(t.keep c).enter p 6 0) (by show (6:Nat)≠1;decide)).symm}
theorem ended_fresh {m:Ln.M} {c:UInt8} {n:Int} (hn:m.clear.next c=n) (h:n=1∨n=2):Fresh (m.byte c)∧Ln.failed (m.byte c).last=false:=by
 have hl:(m.byte c).last=n:=hn;refine ⟨⟨?_,?_⟩,?_⟩
 ·rw [hl,if_pos];rcases h with rfl | rfl<;>rfl
 ·show (m.clear.next c==0&&c==13)=false;rw [hn];rcases h with rfl | rfl<;>rfl
 ·rw [hl];rcases h with rfl | rfl<;>rfl
theorem byte_some {m:Ln.M} {c:UInt8} (hm:m.next c=0):¬((m.told c).buf= []∧(m.next c==0&&c==13)=false):=by
 rintro ⟨h1,h2⟩;rw [hm] at h2;have hc:c≠13:=by
  intro e;rw [e] at h2
  exact absurd h2 (by decide)
 have hk:m.keeps c=true:=by
  unfold Ln.M.next at hm;unfold Ln.M.keeps;by_cases g1:Ln.failed m.last=true
  ·simp [g1] at hm
  ·by_cases g2:m.pend=true
   ·by_cases g3:c=10
    ·simp [g1,g2,g3] at hm
    ·by_cases g4:m.cr=true
     ·simp [g1,g2,g3,g4] at hm
     ·simp [g1,g2,g3,g4] at hm
   ·by_cases g3:c=10
    ·by_cases g4:m.lf=true
     ·simp [g1,g2,g3,g4] at hm
     ·simp [g1,g2,g3,g4] at hm
    ·by_cases g5:m.buf.length=m.most
     ·simp [g1,g2,g3,hc,g5] at hm
     ·simp [g1,g2,g3,hc,g5]
 have:(m.told c).buf=m.buf ++ [c]:=by show m.buf++(if m.keeps c then [c] else [])= _;rw [if_pos hk]
 rw [this] at h1;simp at h1
theorem more_new {c:UInt8} (hn:t.rd.clear.next c=0):({t with rd:=t.rd.byte c}:T).isNew=false:=by
 have h:=byte_some (m:=t.rd.clear) hn;have e1:(t.rd.byte c).len=(t.rd.clear.told c).buf.length:=by unfold Ln.M.len;have hl:(t.rd.byte c).last=0:=hn;rw [hl];rfl
 have e2:(t.rd.byte c).pend=(t.rd.clear.next c==0&&c==13):=rfl;unfold T.isNew;rw [Bool.eq_false_iff];intro hh;rw [Bool.and_eq_true,decide_eq_true_eq,Bool.not_eq_true'] at hh;exact h ⟨List.eq_nil_of_length_eq_zero (e1 ▸ hh.1),e2 ▸ hh.2⟩
theorem next_new (h:t.isNew=false):t.next=false:=by unfold T.next;rw [h,Bool.and_false,Bool.and_false]
theorem step_sim (h:R0 p b t s) (hn:Par.bodied s.st=false) (ok:t.Ok) (c:UInt8) :
 s.rd.how c=t.rd.clear.next c∧(Ln.failed (t.rd.clear.next c)=false→
  R0 p b {t with rd:=t.rd.byte c} {s with fresh:=false,rd:=s.rd.byte c}∧({t with rd:=t.rd.byte c}:T).Ok∧(s.rd.byte c).L=(t.rd.byte c).line):=by
 obtain ⟨h1,h2⟩:=(h.rd hn).step ok.rd ok.nf c;refine ⟨h1,fun hf=>?_⟩;obtain ⟨h3,h4⟩:=h2 hf
 exact ⟨{
  e:=h.e
  st:=h.st
  r:=h.r
  out:=h.out
  head:=h.head
  hl:=h.hl
  bl:=h.bl
  bl0:=h.bl0
  left:=h.left
  rd:=fun _=>h3
  fr:=fun e=>absurd (hn.symm.trans e) (by decide)
  lf:=h.lf
  cr:=h.cr
  most:=h.most
  beh:=h.beh
  ch:=h.ch},ok.byteR c hf,h4⟩
theorem nextM_is (m:Ln.M) (c:UInt8) (hp:m.pend=false):m.next c≠2:=by
 unfold Ln.M.next;split
 ·decide
 ·rw [hp];simp only [Bool.false_eq_true,if_false];split
  ·split<;>decide
  ·split
   ·decide
   ·split<;>decide
theorem took_sim (h:R0 p b t s) (hn:Par.bodied s.st=false) (ok:t.Ok) (hc:s.clean=false) (c:UInt8) {n:Int} (hnx:t.rd.clear.next c=n) :
 s.rd.how c=n∧(n=0→RR p b {t with rd:=t.rd.byte c} {s with fresh:=false,rd:=s.rd.byte c})∧
 (n=1∨n=2→RQ p b (ends (({t with rd:=t.rd.byte c}:T).line p b (t.rd.byte c).line)) (({s with fresh:=false,rd:=s.rd.byte c}:S).ended p b (s.rd.byte c).L)):=by
 obtain ⟨k1,k2⟩:=step_sim h hn ok c;rw [hnx] at k1 k2;refine ⟨k1,fun h0=>?_,fun h12=>?_⟩
 ·obtain ⟨k3,k4,k5⟩:=k2 (by rw [h0];rfl)
  have hw:=more_new (t:=t) (c:=c) (hnx.trans h0)
  exact {k3 with
   fresh:=(next_new hw).symm
   clean:=by
    show s.clean= _
    rw [hw,Bool.and_false];exact hc}
 ·obtain ⟨k3,k4,k5⟩:=k2 (by rcases h12 with e | e<;> (rw [e];rfl));have hf:=(ended_fresh hnx h12).1;rw [k5];exact line_sim k3 k4 hf hc rfl hn _
theorem plain_sim (h:R0 p b t s) (hn:Par.bodied s.st=false) (ok:t.Ok) (hc:s.clean=false) (hp:t.rd.pend=false) (h6:t.st≠6) (c:UInt8) :
 RQ p b (t.inLine p b c).1 (s.plain p b c):=by
 have hn':¬Par.bodied s.st=true:=by rw [hn];decide
 obtain ⟨n,hnx⟩:∃n,t.rd.clear.next c=n:=⟨_,rfl⟩;obtain ⟨k1,k2,k3⟩:=took_sim h hn ok hc c hnx;have h2:n≠2:=by rw [←hnx];exact nextM_is t.rd.clear c hp
 have his:=Ln.M.next_is t.rd.clear c;rw [hnx] at his;have h6':(t.st==6)=false:=beq_eq_false_iff_ne.2 h6;unfold T.inLine S.plain;simp only [if_neg hn',k1,hnx,h6',Bool.false_and,Bool.false_eq_true,if_false];rcases his with e | e | e | e | e
 ·subst e;exact k2 rfl
 ·subst e
  exact k3 (.inl rfl)
 ·exact absurd e h2
 ·subst e;exact ⟨rfl,by decide,h.out,rfl⟩
 ·subst e;obtain ⟨g1,g2⟩:=long_sim h;simp only [Int.reduceEq,if_false,if_true];rw [g1];exact ⟨rfl,g2,h.out,rfl⟩
theorem line_cnt (ln:List UInt8) :
 ((t.line p b ln).2.cnt=t.cnt∧(t.line p b ln).2.size=t.size∧((t.line p b ln).2.st=1→t.st=1)∧((t.line p b ln).2.st=2→t.st=1∨t.st=2))∨
 ((t.line p b ln).2.cnt=false∧(t.line p b ln).2.size=0∧(t.line p b ln).2.st=1∧t.st≠1):=by
 unfold T.line;by_cases h1:t.st=1
 ·left;simp only [if_pos h1];unfold T.first;split
  ·exact ⟨rfl,rfl,fun _=>h1,fun _=>.inl h1⟩
  ·simp only;split
   ·exact ⟨rfl,rfl,fun _=>h1,fun _=>.inl h1⟩
   ·exact ⟨rfl,rfl,fun _=>h1,fun _=>.inl h1⟩
 simp only [if_neg h1];by_cases h2:t.st=2
 ·simp only [if_pos h2];unfold T.fields;by_cases hs:ln= []
  ·simp only [if_pos hs];unfold T.endHead;generalize Frm.decideV (Frm.clOf p) b.ch b.x3 t.r.k t.r.fs=d;simp only;split
   ·exact .inl ⟨rfl,rfl,fun e=>absurd (h2.symm.trans e) (by decide),fun _=>.inr h2⟩
   ·split
    ·exact .inl ⟨rfl,rfl,fun e=>absurd e (by show (4:Nat)≠1;decide),fun _=>.inr h2⟩
    ·split
     ·exact .inr ⟨rfl,rfl,rfl,h1⟩
     ·exact .inl ⟨rfl,rfl,fun e=>absurd e (by show (3:Nat)≠1;decide),fun _=>.inr h2⟩
  ·simp only [if_neg hs];exact .inl ⟨by trivial,by trivial,fun e=>e,fun _=>.inr h2⟩
 simp only [if_neg h2];by_cases h4:t.st=4
 ·left;simp only [if_pos h4];unfold T.chunk;simp only;split
  ·exact ⟨rfl,rfl,fun e=>absurd (h4.symm.trans e) (by decide),fun e=>absurd (h4.symm.trans e) (by decide)⟩
  ·split
   ·exact ⟨rfl,rfl,fun e=>absurd e (by show (7:Nat)≠1;decide),fun e=>absurd e (by show (7:Nat)≠2;decide)⟩
   ·split
    ·exact ⟨rfl,rfl,fun e=>absurd (h4.symm.trans e) (by decide),fun e=>absurd (h4.symm.trans e) (by decide)⟩
    ·exact ⟨rfl,rfl,fun e=>absurd e (by show (5:Nat)≠1;decide),fun e=>absurd e (by show (5:Nat)≠2;decide)⟩
 simp only [if_neg h4];by_cases h7:t.st=7
 ·simp only [if_pos h7];unfold T.trail;by_cases hs:ln= []
  ·simp only [if_pos hs];exact .inr ⟨rfl,rfl,rfl,h1⟩
  ·simp only [if_neg hs];exact .inl ⟨by trivial,by trivial,fun e=>e,fun e=>absurd e h2⟩
 simp only [if_neg h7];exact .inl ⟨rfl,rfl,fun e=>absurd e (by show (4:Nat)≠1;decide),fun e=>absurd e (by show (4:Nat)≠2;decide)⟩
theorem R0.of_counted (h:R0 p b t s) (hc:t.cnt=false):R0 p b t.counted {s with head:=s.head+1,clean:=false}:=by
 have e:t.counted={t with cnt:=true,size:=t.size+1}:=by unfold T.counted;rw [hc];rfl
 rw [e];exact ⟨h.e,h.st,h.r,h.out,congrArg (·+1) h.head,h.hl,h.bl,h.bl0,h.left,h.rd,h.fr,h.lf,h.cr,h.most,h.beh,h.ch⟩
theorem R0.dirty (h:R0 p b t s):R0 p b t {s with clean:=false}:=⟨h.e,h.st,h.r,h.out,h.head,h.hl,h.bl,h.bl0,h.left,h.rd,h.fr,h.lf,h.cr,h.most,h.beh,h.ch⟩
theorem RQ.err {e:Nat} {o:List Rec.R} (h:RQ p b (.dead e o) s):s.e≠0:=by obtain ⟨h1,h2, -, -⟩:=h;rw [h1];exact h2
theorem look_count (h:R0 p b t s) (ok:t.Ok) (hb:b.right=true) (hc:t.cnt=false) (hh:Par.headed s.st=true) (hp:t.rd.pend=false) (h6:t.st≠6) (c:UInt8) :
 RQ p b (t.look p b c).1 (s.count b (fun s=>s.plain p b c)):=by
 have hbd:Par.bodied s.st=false:=by
  unfold Par.headed at hh;unfold Par.bodied;simp only [Bool.or_eq_true,beq_iff_eq] at hh
  rcases hh with (e | e) | e<;> (rw [e];rfl)
 have hb':Pg.bodied t.st=false:=(bod h).trans hbd;have hh':Pg.headed t.st=true:=(hed h).trans hh;have h1:=h.of_counted hc;have esz:t.counted.size=s.head+1:=h1.head.symm;have eS:s.count b (fun s=>s.plain p b c)=if b.x2<((s.head+1:Nat):Int) then S.fail {s with head:=s.head+1} 431 else ({s with head:=s.head+1,clean:=false}:S).plain p b c:=by unfold S.count;rw [if_neg (fun hn=>hn h.e),if_pos hh]
 rw [eS];unfold T.look;rw [if_neg (by rw [hb'];decide),if_pos hh',esz]
 by_cases hx:b.x2<((s.head+1:Nat):Int)
 ·rw [if_pos hx,if_pos hx];exact ⟨rfl,by decide,h.out,rfl⟩
 ·rw [if_neg hx,if_neg hx]
  have hok:t.counted.Ok:=ok.counted hb (by rw [esz];exact hx);exact plain_sim h1 hbd hok rfl (by rw [counted_rd];exact hp) (by rw [counted_st];exact h6) c
theorem look_plain (h:R0 p b t s) (ok:t.Ok) (hh:Pg.headed t.st=true→t.cnt=true∧¬b.x2<(t.size:Int)) (hc:s.clean=false) (hp:t.rd.pend=false) (h6:t.st≠6) (c:UInt8) :
 RQ p b (t.look p b c).1 (s.plain p b c):=by
 unfold T.look;by_cases hbd:Par.bodied s.st=true
 ·rw [if_pos ((bod h).trans hbd)];unfold S.plain;simp only [if_pos hbd];exact body_sim (s:={s with fresh:=false}) {h with} ok hc rfl hbd c
 ·have hb':Par.bodied s.st=false:=by simpa using hbd
  rw [if_neg (by rw [bod h];exact hbd)];by_cases h2:Pg.headed t.st=true
  ·obtain ⟨e1,e2⟩:=hh h2;have e3:t.counted=t:=by unfold T.counted;rw [if_pos e1]
   rw [if_pos h2,e3,if_neg e2];exact plain_sim h hb' ok hc hp h6 c
  ·rw [if_neg h2];exact plain_sim h hb' ok hc hp h6 c
theorem again_sim {t1 t2:T} {s2:S} (h:RR p b t2 s2) (ok2:t2.Ok) (hb:b.right=true) (hp:t2.rd.pend=false) (h6:t2.st≠6) {was:Nat} (hw:t1.st=was+1)
 (hcnt:t1.cnt=Par.headed was) (hsz:Par.headed was=true→¬b.x2<(t1.size:Int)) {ln:List UInt8} (he:t1.line p b ln=(0,t2)) (c:UInt8) :
 RQ p b (t2.look p b c).1 (s2.again p b c was):=by
 have hl:=line_cnt (p:=p) (b:=b) (t:=t1) ln;rw [he] at hl;simp only at hl;have hst:=h.st;unfold S.again;by_cases hA:s2.st=0∧was≠0
 ·rw [if_pos (by simp [hA.1,hA.2])];rcases hl with ⟨-, -,k, -⟩ | ⟨k, -, -, -⟩
  ·have:=k (by omega);omega
  ·exact look_count h.toR0 ok2 hb k (by rw [hA.1];rfl) hp h6 c
 ·rw [if_neg (by
   intro hh;rw [Bool.and_eq_true,beq_iff_eq,Bool.not_eq_true',beq_eq_false_iff_ne] at hh
   exact hA hh)]
  simp only;by_cases hB:Par.headed was=false∧s2.st=6
  ·rw [if_pos (by simp [hB.1,hB.2])];have k:t2.cnt=false:=by
    rcases hl with ⟨k, -, -, -⟩ | ⟨k, -, -, -⟩
    ·rw [k,hcnt];exact hB.1
    ·exact k
   exact look_count (s:={s2 with clean:=false}) h.toR0.dirty ok2 hb k (by show Par.headed s2.st=true;rw [hB.2];rfl) hp h6 c
  ·rw [if_neg (by
    intro hh;rw [Bool.and_eq_true,beq_iff_eq,Bool.not_eq_true'] at hh
    exact hB hh)]
   refine look_plain h.toR0.dirty ok2 (fun hh=>?_) rfl hp h6 c;have hh2:Par.headed s2.st=true:=(hed h.toR0).symm.trans hh;have hwas:Par.headed was=true∧t2.cnt=t1.cnt∧t2.size=t1.size:=by
    rcases hl with ⟨k1,k2,k3,k4⟩ | ⟨-, -,k3,k4⟩
    ·refine ⟨?_,k1,k2⟩;unfold Par.headed at hh2;simp only [Bool.or_eq_true,beq_iff_eq] at hh2;rcases hh2 with (e | e) | e
     ·have:=k3 (by omega);have:was=0:=by omega
      rw [this];rfl
     ·rcases k4 (by omega) with e1 | e1
      ·have:was=0:=by omega
       rw [this];rfl
      ·have:was=1:=by omega
       rw [this];rfl
     ·cases hw2:Par.headed was with
      | true=>rfl
      | false=>exact absurd ⟨hw2,e⟩ hB
    ·exact absurd ⟨by omega,by omega⟩ hA
   obtain ⟨g1,g2,g3⟩:=hwas;exact ⟨by rw [g2,hcnt];exact g1,by rw [g3];exact hsz g1⟩
theorem ends_cases {x:Nat × T} {q:Q} (h:ends x=q):(∃t2,x=(0,t2)∧q=.live t2)∨∃e o,q=.dead e o:=by
 unfold ends at h;split at h
 ·rename_i h0;exact .inl ⟨x.2,Prod.ext h0 rfl,h.symm⟩
 ·exact .inr ⟨_,_,h.symm⟩
theorem byte1_sim {t0:T} (h:R0 p b t0 s) (hn:Par.bodied s.st=false) (ok:t0.Ok) (hb:b.right=true) (hc:s.clean=false) (hcnt:t0.cnt=Par.headed s.st) (hsz:Par.headed s.st=true→¬b.x2<(t0.size:Int)) (c:UInt8) :
 RQ p b (match t0.inLine p b c with
  |(.live t1,false)=>(t1.look p b c).1
  |(x,_)=>x) (s.byte1 p b c):=by
 have hn':¬Par.bodied s.st=true:=by rw [hn];decide
 have hb0:Pg.bodied t0.st=false:=(bod h).trans hn;obtain ⟨n,hnx⟩:∃n,t0.rd.clear.next c=n:=⟨_,rfl⟩;obtain ⟨k1,k2,k3⟩:=took_sim h hn ok hc c hnx;have his:=Ln.M.next_is t0.rd.clear c;rw [hnx] at his;have e5:(t0.st==6)=(s.st==5):=by rw [Bool.eq_iff_iff,beq_iff_eq,beq_iff_eq,h.st];omega
 have hag:∀t',t0.inLine p b c=(.live t',false)→t'.rd.pend=false∧t'.st≠6:=fun t'=>inLine_again hb0 c
 have hok:∀t' u,t0.inLine p b c=(.live t',u)→t'.Ok:=fun t' u e=>ok.inLine hb c (by rw [e]);unfold S.byte1;simp only [if_neg hn',k1];unfold T.inLine at hag hok ⊢;simp only [hnx,e5] at hag hok ⊢;rcases his with e | e | e | e | e
 ·subst e;exact k2 rfl
 ·subst e;simp only [Int.reduceEq,if_false,Int.reduceBEq,Bool.not_false] at hag hok ⊢
  have k4:=k3 (.inl rfl);generalize ends (T.line p b {t0 with rd:=t0.rd.byte c} (t0.rd.byte c).line)=q at k4 ⊢;cases q<;>exact k4
 ·subst e
  have k4:=k3 (.inr rfl);simp only [Int.reduceEq,if_false,if_true,BEq.rfl,Bool.not_true] at hag hok ⊢;generalize hq:ends (T.line p b {t0 with rd:=t0.rd.byte c} (t0.rd.byte c).line)=q at hag hok k4 ⊢;generalize hs2:S.ended p b {s with fresh:=false,rd:=s.rd.byte c} (s.rd.byte c).L=s2 at k4 ⊢;rcases ends_cases hq with ⟨t2,g1,rfl⟩ | ⟨e,o,rfl⟩
  ·have k5:RR p b t2 s2:=k4;simp only;rw [if_pos k5.e];obtain ⟨g2,g3⟩:=hag t2 rfl;exact again_sim k5 (hok t2 false rfl) hb g2 g3 (t1:={t0 with rd:=t0.rd.byte c}) h.st hcnt hsz g1 c
  ·simp only;rw [if_neg k4.err];exact k4
 ·subst e;exact ⟨rfl,by decide,h.out,rfl⟩
 ·subst e;obtain ⟨g1,g2⟩:=long_sim h;simp only [Int.reduceEq,if_false,if_true] at hag hok ⊢;by_cases hce:(s.st==5&&Qk.has p 29)=true
  ·simp only [if_pos hce] at hag hok ⊢;have hs5:s.st=5:=by
    rw [Bool.and_eq_true,beq_iff_eq] at hce;exact hce.1
   obtain ⟨g3,g4⟩:=hag _ rfl;have he:=enter_sim (t:=t0) (s:={s with fresh:=false}) {h with} hs5;exact look_plain he (hok _ _ rfl) (fun hh=>absurd hh (by show Pg.headed 4≠true;decide)) hc g3 g4 c
  ·simp only [if_neg hce];rw [g1];exact ⟨rfl,g2,h.out,rfl⟩
theorem take_sim (h:RR p b t s) (ok:t.Ok) (hb:b.right=true) (c:UInt8):RQ p b (t.take p b c) (s.byte p b c):=by
 have h0:R0 p b ({t with cnt:=false}:T) {s with clean:=false}:=⟨h.e,h.st,h.r,h.out,h.head,h.hl,h.bl,h.bl0,h.left,h.rd,h.fr,h.lf,h.cr,h.most,h.beh,h.ch⟩;have ok0:({t with cnt:=false}:T).Ok:=ok.cleared;unfold T.take S.byte S.count;rw [if_neg (fun hn=>hn h.e)];unfold T.look;have hbe:Pg.bodied ({t with cnt:=false}:T).st=Par.bodied s.st:=bod (t:=t) h.toR0;have hhe:Pg.headed ({t with cnt:=false}:T).st=Par.headed s.st:=hed (t:=t) h.toR0;rw [hbe,hhe];by_cases hbd:Par.bodied s.st=true
 ·have hnh:¬Par.headed s.st=true:=by
   unfold Par.bodied at hbd;unfold Par.headed;simp only [Bool.or_eq_true,beq_iff_eq] at hbd ⊢;omega
  rw [if_pos hbd,if_neg hnh];have e1:({s with clean:=false}:S).byte1 p b c=({s with fresh:=false,clean:=false}:S).bodyB p b c:=by unfold S.byte1;simp only [if_pos hbd]
  simp only [e1];exact body_sim (s:={s with fresh:=false,clean:=false}) {h0 with} ok0 rfl rfl hbd c
 ·have hbd':Par.bodied s.st=false:=by simpa using hbd
  rw [if_neg hbd];by_cases hh:Par.headed s.st=true
  ·rw [if_pos hh,if_pos hh];have h1:R0 p b ({t with cnt:=false}:T).counted {s with head:=s.head+1,clean:=false}:=h0.of_counted rfl;have esz:({t with cnt:=false}:T).counted.size=s.head+1:=h1.head.symm;rw [esz]
   by_cases hx:b.x2<((s.head+1:Nat):Int)
   ·rw [if_pos hx,if_pos hx];exact ⟨rfl,by decide,h.out,rfl⟩
   ·rw [if_neg hx,if_neg hx]
    have hok:=ok0.counted hb (by rw [esz];exact hx);exact byte1_sim h1 hbd' hok hb rfl hh.symm (fun _=>by rw [esz];exact hx) c
  ·rw [if_neg hh,if_neg hh];have hh':Par.headed s.st=false:=by simpa using hh
   exact byte1_sim h0 hbd' ok0 hb rfl hh'.symm (fun e=>absurd e hh) c
def Q.Fine (b:Bd):Q→Prop
 | .live t=>t.Ok∧b.right=true
 | .dead _ _=>True
theorem Q.Fine.byte {x:Q} (h:x.Fine b) (c:UInt8):(x.byte p b c).Fine b:=by
 cases x with
 | live t=>
   show (t.take p b c).Fine b;cases hq:t.take p b c with
   | live t'=>exact ⟨h.1.take h.2 c hq,h.2⟩
   | dead e o=>trivial
 | dead e o=>trivial
theorem byte_sim {x:Q} (h:RQ p b x s) (ok:x.Fine b) (c:UInt8):RQ p b (x.byte p b c) (s.byte p b c):=by
 cases x with
 | live t=>exact take_sim h ok.1 ok.2 c
 | dead e o=>
   rw [S.byte_dead h.err];exact h
theorem feed_sim (l:List UInt8):∀{x:Q} {s:S},RQ p b x s→x.Fine b→RQ p b (x.feed p b l) (s.feed p b l)∧(x.feed p b l).Fine b:=by
 induction l with
 | nil=>intro x s h ok;exact ⟨h,ok⟩
 | cons c l ih=>intro x s h ok;exact ih (byte_sim h ok c) (ok.byte c)
theorem new_sim:RQ p b (Q.new p b) (S.new p b):=by
 unfold Q.new S.new;by_cases h:(b.right&&decide (p<1073741824))=true
 ·rw [if_pos h,if_pos h]
  exact {
   e:=rfl
   st:=rfl
   r:=rfl
   out:=rfl
   head:=rfl
   hl:=fun _=>rfl
   bl:=fun e=>absurd e (by show (0:Nat)≠6;decide)
   bl0:=fun _=>rfl
   left:=fun e=>absurd e (by show Par.bodied 0≠true;decide)
   rd:=fun _=>⟨rfl,rfl,rfl,rfl,rfl,rfl⟩
   fr:=fun e=>absurd e (by show Par.bodied 0≠true;decide)
   lf:=rfl
   cr:=rfl
   most:=fun _=>rfl
   beh:=fun e=>absurd e (by show (0:Nat)≠5;decide)
   ch:=rfl
   fresh:=rfl
   clean:=rfl}
 ·rw [if_neg h,if_neg h];exact ⟨rfl,by decide,rfl,rfl⟩
theorem said_sim {x:Q} (h:RQ p b x s) (ok:x.Fine b):s.e=x.err∧s.out=x.out∧s.waits=x.waits∧s.held=x.held∧s.clean=x.clean:=by
 cases x with
 | live t=>
   refine ⟨h.e,h.out,?_,?_,h.clean⟩
   ·show (decide (s.e=0)&&(s.fresh&&Rec.expects s.r))=(t.next&&Rec.expects t.r);rw [h.e,h.fresh,h.r];rfl
   ·show (if s.e=0 then Rec.size s.r+(if Par.bodied s.st=true then 0 else s.rd.B.length) else 0)=t.rd.len+Rec.size t.r;rw [if_pos h.e,h.r];by_cases hb:Par.bodied s.st=true
    ·rw [if_pos hb];have:=(h.fr hb).isNew;unfold T.isNew at this;rw [Bool.and_eq_true,decide_eq_true_eq] at this;rw [this.1];omega
    ·rw [if_neg hb];have h1:=(h.rd (by simpa using hb)).B;have:s.rd.B.length=t.rd.len:=by
      rw [h1];unfold Ln.M.len;split<;>rfl
     omega
 | dead e o=>
   obtain ⟨h1,h2,h3,h4⟩:=h;refine ⟨h1,h3,?_,?_,h4⟩
   ·show (decide (s.e=0) && _)=false;rw [decide_eq_false (by rw [h1];exact h2),Bool.false_and]
   ·show (if s.e=0 then _ else 0)=0;rw [if_neg (by rw [h1];exact h2)]
theorem told_sim {x:Q} (h:RQ p b x s):RQ p b x.told {s with out:= []}:=by
 cases x with
 | live t=>exact ⟨⟨h.e,h.st,h.r,rfl,h.head,h.hl,h.bl,h.bl0,h.left,h.rd,h.fr,h.lf,h.cr,h.most,h.beh,h.ch⟩,h.fresh,h.clean⟩
 | dead e o=>
   obtain ⟨h1,h2, -,h4⟩:=h;exact ⟨h1,h2,rfl,h4⟩
theorem told_fine {x:Q} (h:x.Fine b):x.told.Fine b:=by
 cases x with
 | live t=>exact ⟨⟨h.1.rd,h.1.nf,h.1.st,h.1.hl,h.1.bl,h.1.fsl,h.1.tsl,h.1.fss,h.1.tss,h.1.m,h.1.x,h.1.body,h.1.left,h.1.early,h.1.size⟩,h.2⟩
 | dead e o=>trivial
end
end Go.Proofs.YtimoakmcelocfaaGreat.Pg
namespace Go.Proofs.YtimoakmcelocfaaGreat.Txt
open Go.RowKit Base Oct
theorem stands_isIn (set:ByteArray) (x:UInt8):stands set.data.toList (x.toNat:Int)=isIn set x:=by
 unfold stands isIn;rw [Bool.eq_iff_iff,List.any_eq_true,List.contains_iff_exists_mem_beq];constructor
 ·rintro ⟨b,hb,e⟩;exact ⟨b,hb,by rw [beq_iff_eq] at e ⊢;exact (UInt8.toNat_inj.1 (by omega)).symm⟩
 ·rintro ⟨b,hb,e⟩;rw [beq_iff_eq] at e;subst e;exact ⟨x,hb,by simp⟩
def Bytes (w:World) (g:Nat) (l:List UInt8):Prop:=∀j (h:j<l.length),w.cell? ⟨g,j,none⟩=some (.int .u8 (l[j].toNat:Int))∧w.frozen? ⟨g,j,none⟩=false
theorem Bytes.set {w:World} {g:Nat} {l:List UInt8} (h:Bytes w g l) (k:Nat) (b:UInt8):Bytes (w.setCell ⟨g,k,none⟩ (.int .u8 (b.toNat:Int))) g (l.set k b):=by
 intro j hj;rw [List.length_set] at hj;obtain ⟨c,z⟩:=h j hj;refine ⟨?_,by rw [World.frozen?_setCell];exact z⟩;by_cases e:k=j
 ·subst e;rw [World.cell?_setCell_same _ _ _ c,List.getElem_set_self]
 ·rw [World.cell?_setCell_other _ _ _ _ (by simp<;>omega),List.getElem_set_ne e];exact c
theorem conv_bytes (s:ByteArray) (w:World):∃W cap,(convert 9 34 (.string s)).run Tryz.prog w=.ok (.slice (some ⟨w.heap.size,0,none⟩) s.size cap) W∧Bytes W w.heap.size s.data.toList∧w.heap.size<W.heap.size∧Below w.heap.size w W:=by
 have hcv:=run_bytes_of_string (P:=Tryz.prog) w 9 34 5 s Tryz.underlying9 Tryz.underlying34 Tryz.underlying5;refine ⟨_,_,hcv,fun j hj=>?_,by simp,(Below.refl _ _).drew.alloc (Nat.le_refl _) _⟩;have hj':j<s.data.size:=by simpa using hj
 refine ⟨(World.cell?_alloc_mark w.drew _ _ _ j).trans (bytesRow_at s _ j hj'),(World.frozen?_alloc_mark w.drew _ _ _ _ j).trans ?_⟩;have:¬(bytesRow s (grownCap w s.size 0 5)).size≤j:=by unfold bytesRow;rw [Array.size_append,Array.size_map];omega
 simp [this]
theorem mix_put (l:List UInt8) (k:Nat) (h:k<l.length):(mix l k).set k (lowB l[k])=mix l (k+1):=by
 unfold mix low;rw [List.set_append_right _ _ (by simp;omega),List.take_succ_eq_append_getElem h,List.drop_eq_getElem_cons h];have:k-(List.map lowB (List.take k l)).length=0:=by simp;omega
 rw [this,List.set_cons_zero,List.map_append,List.append_assoc];rfl
theorem mix_get (l:List UInt8) (k:Nat) (h:k<l.length):(mix l k)[k]'(by rw [mix_length];exact h)=l[k]:=by
 unfold mix low;rw [List.getElem_append_right (by simp;omega)];have:k-(List.map lowB (List.take k l)).length=0:=by simp;omega
 simp only [this,List.getElem_drop,Nat.add_zero]
theorem mix_skip (l:List UInt8) (k:Nat) (h:k<l.length) (e:lowB l[k]=l[k]):mix l k=mix l (k+1):=by rw [←mix_put l k h,e,←mix_get l k h,List.set_getElem_self]
def tbytes:Value→Nat
 | .string t=>t.size
 | _=>0
section code
set_option maxHeartbeats 1000000
attribute [local go_sem] Base.some_undef
theorem rlower_any (s:ByteArray) (w:World) (hs:s.size≤1099511627776):Calls Tryz.prog 120 #[.string s] w fun e w'=>e=.returned (.string (lower s))∧Below w.heap.size w w':=by
 obtain ⟨W,cap,hcv,hB,hg,hb⟩:=conv_bytes s w
 have hB0:=Lib.hid (show Bytes W w.heap.size (mix s.data.toList 0) by rw [mix_zero];exact hB);have hb0:=Lib.hid hb;clear hB hb;go_enter Tryz.func120,Tryz.ntmps120;go_wp2;clear hcv;generalize hgw:w.heap.size=g at *;have HG:=Lib.hid hgw;clear hgw
 go_loopw [4] (fun i wr=>∃k:Nat,k≤s.size∧i=.int .i64 k∧Hid (Bytes wr g (mix s.data.toList k))∧Hid (Below g w wr)) (fun i _=>s.size-(intOf i).toNat)
 case atStart=>exact ⟨0,Nat.zero_le _,rfl,hB0,hb0⟩
 case round=>
  obtain ⟨k,hk,rfl,hB,hbr⟩:=hrel;rcases Nat.lt_or_ge k s.size with hlt | hge
  ·have hll:k<s.data.toList.length:=by rw [len];exact hlt
   obtain ⟨hc,hz⟩:=hB.out k (by rw [mix_length];exact hll);rw [mix_get _ _ hll] at hc;have i1:(k:Int)<(s.size:Int):=by omega
   have hb0:0≤(s.data.toList[k].toNat:Int):=by omega
   have hb1:=byte_lt s.data.toList[k];by_cases hx:65≤s.data.toList[k].toNat∧s.data.toList[k].toNat≤90
   ·obtain ⟨x0,x1⟩:=hx;have e0:=lowB_toNat s.data.toList[k];have e1:lowN (s.data.toList[k].toNat:Int)=(s.data.toList[k].toNat:Int)+32:=by unfold lowN;rw [if_pos (by omega)]
    have hset:=(hB.out.set k (lowB s.data.toList[k]));rw [mix_put _ _ hll,e0,e1] at hset;have HS:=Lib.hid hset;have y0:(65:Int)≤(s.data.toList[k].toNat:Int):=by omega
    have y1:(s.data.toList[k].toNat:Int)≤90:=by omega
    clear e0 e1 hset x0 x1;generalize (s.data.toList[k].toNat:Int)=x at *;have e2:IntKind.u8.wrap (x+32)=x+32:=by rw [IntKind.wrap_u8];omega
    go_wp2;go_roundw
    case rel=>exact ⟨k+1,by omega,by go_num,HS,Lib.hid (hbr.out.setCell (Nat.le_refl _) _)⟩
    case measure=>simp [intOf];omega
   ·have e0:lowB s.data.toList[k]=s.data.toList[k]:=by unfold lowB;rw [if_neg hx]
    have hB2:=hB.out;rw [mix_skip _ _ hll e0] at hB2;have HS:=Lib.hid hB2;clear hB2 e0;rcases Nat.lt_or_ge s.data.toList[k].toNat 65 with h | h
    ·have y0:¬(65:Int)≤(s.data.toList[k].toNat:Int):=by omega
     generalize (s.data.toList[k].toNat:Int)=x at *;go_wp2;go_roundw
     case rel=>exact ⟨k+1,by omega,by go_num,HS,hbr⟩
     case measure=>simp [intOf];omega
    ·have y0:(65:Int)≤(s.data.toList[k].toNat:Int):=by omega
     have y1:¬(s.data.toList[k].toNat:Int)≤90:=by omega
     generalize (s.data.toList[k].toNat:Int)=x at *;go_wp2;go_roundw
     case rel=>exact ⟨k+1,by omega,by go_num,HS,hbr⟩
     case measure=>simp [intOf];omega
  ·obtain rfl:k=s.size:=by omega
   have hconv:=run_convert_bytes_back (P:=Tryz.prog) wr 34 9 5 ⟨g,0,none⟩ cap (low s.data.toList) Tryz.underlying34 Tryz.underlying5 Tryz.underlying9 (fun j hj=>by
    have h1:=(hB.out j (by rw [mix_length];simpa [low] using hj)).1;have e:(⟨g,0,none⟩:Addr).add j=⟨g,j,none⟩:=by unfold Addr.add;by_cases h:j=0<;>simp [h]
    rw [e,h1]
    congr 4
    simp only [mix_all s.data.toList s.size (by rw [len];exact Nat.le_refl _)])
   have hl:(low s.data.toList).length=s.size:=by rw [low,List.length_map,len]
   rw [hl] at hconv;go_wp2;go_ret;exact ⟨rfl,by rw [HG.out];exact hbr.out⟩
theorem rsame_any (a b:ByteArray) (w:World) (ha:a.size≤1099511627776) (hb:b.size≤1099511627776):Calls Tryz.prog 104 #[.string a,.string b] w fun e w'=>e=.returned (.bool (same a b))∧Below w.heap.size w w':=by
 have h1:=Lib.hid (fun w=>rlower_any a w ha)
 have h2:=Lib.hid (fun w=>rlower_any b w hb);have hr:((lower a).toList==(lower b).toList)=same a b:=by rw [Lib.toList_data,Lib.toList_data];rfl
 generalize lower a=x at *;generalize lower b=y at *;go_enter Tryz.func104,Tryz.ntmps104
 go_wp2_with (first
  |(go_at_call 120;with_reducible refine (h1.out _).mono ?_;rintro e w1 ⟨rfl,hb1⟩)
  |(go_at_call 120;with_reducible refine (h2.out _).mono ?_;rintro e w2 ⟨rfl,hb2⟩))
 go_ret;exact ⟨by rw [←hr];rfl,Base.below_step hb1 hb2⟩
theorem first_of (t:ByteArray) (h:0<t.size):t.data.toList=t[0]::t.data.toList.drop 1∧(t.extract 1 t.size).data.toList=t.data.toList.drop 1∧t.toList.isEmpty=false:=by
 have hl:0<t.data.toList.length:=by rw [len];exact h
 have e:t.data.toList=t[0]::t.data.toList.drop 1:=by
  conv=>lhs;rw [←List.drop_zero (l:=t.data.toList),List.drop_eq_getElem_cons hl]
  rfl
 refine ⟨e,?_,?_⟩
 ·rw [Lib.extract_data,List.take_of_length_le (by rw [List.length_drop,len];exact Nat.le_refl _)]
 ·rw [Lib.toList_data,e];rfl
theorem last_of (t:ByteArray) (h:0<t.size):t.data.toList=t.data.toList.take (t.size-1) ++ [t[t.size-1]]∧(t.extract 0 (t.size-1)).data.toList=t.data.toList.take (t.size-1)∧t.toList.isEmpty=false:=by
 have e:=take_snoc t (t.size-1) (by omega);rw [show t.size-1+1=t.size by omega,take_all t _ (Nat.le_refl _)] at e;refine ⟨e,?_,?_⟩
 ·rw [Lib.extract_data,List.drop_zero,Nat.sub_zero]
 ·rw [Lib.toList_data];cases hl:t.data.toList with
  | nil=>exfalso;have h2:=len t;rw [hl,List.length_nil] at h2;omega
  | cons _ _=>rfl
theorem in_any (x:UInt8) (r:Bool) (set:ByteArray) (w:World) (ht:set.size≤maxLen) (hq:isIn set x=r):Calls Tryz.prog 126 #[.int .u8 x.toNat,.string set] w fun e w'=>e=.returned (.bool r)∧w'=w:=by have:=Oct.stands_any (x.toNat:Int) set w ht;rw [stands_isIn,hq] at this;exact this
theorem rtrimOf_any (s set:ByteArray) (w:World) (ht:set.size≤maxLen) (hs:s.size≤maxLen):Calls Tryz.prog 124 #[.string s,.string set] w fun e w'=>e=.returned (.string (trimOf s set))∧w'=w:=by
 unfold maxLen at hs;go_enter Tryz.func124,Tryz.ntmps124;go_wp2
 go_loop [0] (fun x=>∃t:ByteArray,x=.string t∧t.size≤s.size∧Hid (t.data.toList.dropWhile (isIn set)=s.data.toList.dropWhile (isIn set))) (fun x=>tbytes x)
 case atStart=>exact ⟨s,rfl,Nat.le_refl _,Lib.hid rfl⟩
 case round=>
  obtain ⟨t,rfl,hts,hdw⟩:=hrel;by_cases hgo:∃h:0<t.size,isIn set t[0]=true
  ·obtain ⟨h0,hq⟩:=hgo
   have HC:=Lib.hid (in_any t[0] true set w ht hq);obtain ⟨e1,e2,e3⟩:=first_of t h0
   have HD:=Lib.hid (show (t.extract 1 t.size).data.toList.dropWhile (isIn set)=s.data.toList.dropWhile (isIn set) by
    rw [←hdw.out,e2]
    conv=>rhs;rw [e1,List.dropWhile_cons,if_pos hq])
   have i0:t.toList.isEmpty=false:=e3;have i1:(1:Int)≤(t.size:Int):=by omega
   have i2:(t.size:Int)≤9223372036854775807:=by omega
   have hsz:(t.extract 1 t.size).size=t.size-1:=by rw [ByteArray.size_extract];omega
   clear e1 e2 e3 hq
   go_wp2_with (go_at_call 126;with_reducible refine HC.out.mono ?_;rintro e w' ⟨rfl,hw⟩;rw [hw];clear hw);go_round
   case rel=>exact ⟨_,rfl,by omega,HD⟩
   case measure=>simp [tbytes];omega
  ·have hst:t.data.toList.dropWhile (isIn set)=t.data.toList:=by
    rcases Nat.eq_zero_or_pos t.size with h0 | h0
    ·have:t.data.toList= []:=List.length_eq_zero_iff.1 (by rw [len];exact h0);rw [this];rfl
    ·obtain ⟨e1,_,_⟩:=first_of t h0;rw [e1];refine dropWhile_stop ?_;cases hq:isIn set t[0] with
     | false=>rfl
     | true=>exact absurd ⟨h0,hq⟩ hgo
   have hfin:=Lib.hid (show trimL (isIn set) s.data.toList=(t.data.toList.reverse.dropWhile (isIn set)).reverse by unfold trimL;rw [←hdw.out,hst])
   have hlast:=Lib.hid (show∀h:0<t.size,isIn set t[0]=false from fun h=>by
    cases hq:isIn set t[0] with
    | false=>rfl
    | true=>exact absurd ⟨h,hq⟩ hgo)
   clear hgo hst;rcases Nat.eq_zero_or_pos t.size with h0 | h0
   all_goals (first
    |(have i0:t.toList.isEmpty=false:=(first_of t h0).2.2
      have HC:=Lib.hid (in_any t[0] false set w ht (hlast.out h0))
      (go_wp2_with (go_at_call 126;with_reducible refine HC.out.mono ?_;rintro e w' ⟨rfl,hw⟩;rw [hw];clear hw)))
    |(have i0:t.toList.isEmpty=true:=by
       rw [Lib.toList_data,List.length_eq_zero_iff.1 (show t.data.toList.length=0 by rw [len];exact h0)];rfl
      go_wp2))
   all_goals
    clear i0
    go_loop [0] (fun x=>∃u:ByteArray,x=.string u∧u.size≤t.size∧Hid (u.data.toList.reverse.dropWhile (isIn set)=t.data.toList.reverse.dropWhile (isIn set))) (fun x=>tbytes x)
    case atStart=>exact ⟨t,rfl,Nat.le_refl _,Lib.hid rfl⟩
    case round=>
     obtain ⟨u,rfl,hus,hrv⟩:=hrel;rcases Nat.eq_zero_or_pos u.size with hu0 | hu0
     ·have e0:u.data.toList= []:=List.length_eq_zero_iff.1 (by rw [len];exact hu0);have i0:u.toList.isEmpty=true:=by rw [Lib.toList_data,e0];rfl
      have HF:=Lib.hid (show u=trimOf s set from ba_ext (by rw [trimOf,trimB_list,hfin.out,←hrv.out,e0];rfl))
      clear e0;go_wp2;go_ret;exact ⟨by rw [←HF.out];rfl,rfl⟩
     ·first
      |(exfalso;omega)
      |(
       obtain ⟨e1,e2,e3⟩:=last_of u hu0;have i0:u.toList.isEmpty=false:=e3;have i1:u.size-1<u.size:=by omega
       have i3:(u.size:Int)-1<(u.size:Int):=by omega
       have i4:0≤(u.size:Int)-1:=by omega
       have i5:IntKind.i64.wrap ((u.size:Int)-1)=(u.size:Int)-1:=wrap_in _ (by omega) (by omega);have i6:((u.size:Int)-1).toNat=u.size-1:=by omega
       have i7:(u.size:Int)-1≤(u.size:Int):=by omega
       cases hq:isIn set u[u.size-1] with
       | true=>
         have HC:=Lib.hid (in_any u[u.size-1] true set w ht hq)
         have HD:=Lib.hid (show (u.extract 0 (u.size-1)).data.toList.reverse.dropWhile (isIn set)=t.data.toList.reverse.dropWhile (isIn set) by
          rw [←hrv.out,e2]
          conv=>rhs;rw [e1,List.reverse_append,List.reverse_singleton,List.singleton_append,List.dropWhile_cons,if_pos hq])
         have hsz:(u.extract 0 (u.size-1)).size=u.size-1:=by rw [ByteArray.size_extract];omega
         clear e1 e2 e3 hq
         go_wp2_with (go_at_call 126;with_reducible refine HC.out.mono ?_;rintro e w' ⟨rfl,hw⟩;rw [hw];clear hw);go_round
         case rel=>exact ⟨_,rfl,by omega,HD⟩
         case measure=>simp [tbytes];omega
       | false=>
         have HC:=Lib.hid (in_any u[u.size-1] false set w ht hq)
         have HF:=Lib.hid (show u=trimOf s set from ba_ext (by rw [trimOf,trimB_list,hfin.out,←hrv.out,e1,List.reverse_append,List.reverse_singleton,List.singleton_append,dropWhile_stop hq];simp))
         clear e1 e2 e3 hq
         go_wp2_with (go_at_call 126;with_reducible refine HC.out.mono ?_;rintro e w' ⟨rfl,hw⟩;rw [hw];clear hw);go_ret;exact ⟨by rw [←HF.out];rfl,rfl⟩)
theorem rtrim_any (s:ByteArray) (w:World) (hs:s.size≤maxLen):Calls Tryz.prog 111 #[.string s] w fun e w'=>e=.returned (.string (trim s))∧w'=w:=by
 have h:=Lib.hid (rtrimOf_any s ⟨#[32,9]⟩ w (by decide) hs);have e:trimOf s ⟨#[32,9]⟩=trim s:=by
  unfold trimOf trim
  congr 1
  funext x
  simp only [isIn,blank,List.contains_cons,List.contains_nil,Bool.or_false]
 rw [e] at h;go_enter Tryz.func111,Tryz.ntmps111
 go_wp2_with (go_at_call 124;with_reducible refine h.out.mono ?_;rintro e w' ⟨rfl,rfl⟩);go_ret;exact ⟨rfl,rfl⟩
end code
end Go.Proofs.YtimoakmcelocfaaGreat.Txt
namespace Go.Proofs.YtimoakmcelocfaaGreat.Txt
open Go.RowKit Base Oct
def Part (c:UInt8) (l:List UInt8) (f k:Nat) (done:List (List UInt8)):Prop:=
 (k≤l.length∧f≤k∧parts c l=done++parts c (l.drop f)∧c∉(l.drop f).take (k-f))∨(k=l.length+1∧f=l.length+1∧parts c l=done)
theorem Part.start (c:UInt8) (l:List UInt8):Part c l 0 0 []:=.inl ⟨Nat.zero_le _,Nat.le_refl _,rfl,by simp⟩
theorem Part.last {c:UInt8} {l:List UInt8} {f:Nat} {done:List (List UInt8)} (h:Part c l f l.length done):f≤l.length∧Part c l (l.length+1) (l.length+1) (done ++ [l.drop f]):=by
 rcases h with ⟨_,h1,h2,h3⟩ | ⟨h,_⟩
 ·refine ⟨h1,.inr ⟨rfl,rfl,?_⟩⟩;rw [List.take_of_length_le (by rw [List.length_drop];omega)] at h3;rw [h2,parts_none c _ h3]
 ·omega
theorem Part.hit {c:UInt8} {l:List UInt8} {f k:Nat} {done:List (List UInt8)} (h:Part c l f k done) (hk:k<l.length) (hc:l[k]=c):f≤k∧Part c l (k+1) (k+1) (done ++ [(l.drop f).take (k-f)]):=by
 rcases h with ⟨_,h1,h2,h3⟩ | ⟨h,_⟩
 ·refine ⟨h1,.inl ⟨by omega,Nat.le_refl _,?_,by simp⟩⟩;have e:l.drop f=(l.drop f).take (k-f)++c::l.drop (k+1):=by
   conv=>lhs;rw [←List.take_append_drop (k-f) (l.drop f)]
   rw [List.drop_drop,show f+(k-f)=k by omega,List.drop_eq_getElem_cons hk,hc]
  rw [h2]
  conv=>lhs;rw [e]
  rw [parts_cut c _ _ h3,List.append_assoc];rfl
 ·omega
theorem Part.miss {c:UInt8} {l:List UInt8} {f k:Nat} {done:List (List UInt8)} (h:Part c l f k done) (hk:k<l.length) (hc:l[k]≠c):Part c l f (k+1) done:=by
 rcases h with ⟨_,h1,h2,h3⟩ | ⟨h,_⟩
 ·refine .inl ⟨by omega,by omega,h2,?_⟩;have hlt:k-f<(l.drop f).length:=by rw [List.length_drop];omega
  rw [show k+1-f=(k-f)+1 by omega,List.take_succ_eq_append_getElem hlt,List.mem_append,not_or];refine ⟨h3,?_⟩;rw [List.getElem_drop,List.mem_singleton];simp only [show f+(k-f)=k by omega];exact fun e=>hc e.symm
 ·omega
section code
set_option maxHeartbeats 1000000
attribute [local go_sem] Base.some_undef
set_option maxRecDepth 10000 in
theorem rsplit_any (s:ByteArray) (c:UInt8) (w:World) (hs:s.size≤1000000000) :
 Calls Tryz.prog 117 #[.string s,.int .u8 c.toNat] w fun e w'=>∃b m cp,e=.returned (.slice b m cp)∧m=(parts c s.data.toList).length∧Strs w' b m ((parts c s.data.toList).map ba)∧Below w.heap.size w w':=by
 obtain ⟨i0,hi,hz0,hz1,hz2⟩:=info_parts text_info;have G1:=Lib.hid hi;have G2:=Lib.hid hz0;have G3:=Lib.hid hz1;have G4:=Lib.hid hz2;clear hi hz0 hz1 hz2;obtain ⟨PS,hPS⟩:∃PS,parts c s.data.toList=PS:=⟨_,rfl⟩;rw [hPS];have HPS:=Lib.hid hPS;clear hPS;go_enter Tryz.func117,Tryz.ntmps117;go_wp2
 go_loopw [5,6,7] (fun v fr i wr=>∃(k f:Nat) (done:List (List UInt8)),k≤s.size+1∧f≤s.size+1∧done.length≤k∧fr=.int .i64 f∧i=.int .i64 k∧Hid (Part c s.data.toList f k done)∧Hid (wr.ownsRow w.heap.size 9 1 v done.length ((done.map ba).map Value.string))∧Hid (Below w.heap.size w wr)) (fun _ _ i _=>s.size+1-(intOf i).toNat)
 case atStart=>exact ⟨0,0,[],by omega,by omega,Nat.le_refl _,rfl,rfl,Lib.hid (Part.start _ _),Lib.hid ⟨rfl,.inl ⟨rfl,rfl⟩⟩,Lib.hid (Below.refl _ _)⟩
 case round=>
  obtain ⟨k,f,done,hk,hf,hdn,rfl,rfl,hpt,hown,hbr⟩:=hrel;rcases Nat.lt_or_ge k s.size with hlt | hge
  ·have t0:(k:Int)≤(s.size:Int):=by omega
   have t1:((k:Int)==(s.size:Int))=false:=beq_eq_false_iff_ne.2 (by omega);have i1:(k:Int)<(s.size:Int):=by omega
   have hkl:k<s.data.toList.length:=by rw [len];exact hlt
   have e0:s[k]=s.data.toList[k]:=rfl;by_cases hc:s.data.toList[k]=c
   ·have t2:((s[k].toNat:Int)==(c.toNat:Int))=true:=by rw [e0,hc];exact beq_self_eq_true _
    obtain ⟨hfk,hP⟩:=hpt.out.hit hkl hc;have HP:=Lib.hid hP
    have ex:s.extract f k=ba ((s.data.toList.drop f).take (k-f)):=ba_ext (by rw [Lib.extract_data];rfl);have c1:(f:Int)≤(k:Int):=by omega
    have m1:IntKind.i64.wrap ((k:Int)+1)=((k+1:Nat):Int):=by rw [wrap_in _ (by omega) (by omega)];omega
    clear hP hpt hc e0;generalize (s.data.toList.drop f).take (k-f)=p at *;have HX:=Lib.hid ex;clear ex
    go_wp2_with (at_builtin;refine wpList_append_own _ rfl _ _ 89 rfl w.heap.size 9 i0 (.string ByteArray.empty) 1 16 Tryz.underlying89 G1.out G2.out G3.out G4.out rfl (by decide) _ _ _ rfl (hown.out.alloc _) ⟨wr.heap.size,0,none⟩ 1 1 [.string (s.extract f k)] rfl rfl ?c1 ?c2 ?c3 ?c4 ?c5 ?_)
    case c1=>exact news_one wr _ _
    case c2=>intro u hu;obtain rfl:u=.string (s.extract f k):=by simpa using hu
             rfl
    case c3=>unfold maxLen;omega
    case c4=>omega
    case c5=>have:=hbr.out.size;simp;omega
    intro v' w' hown' hgr _
    have H2:Hid (w'.ownsRow w.heap.size 9 1 v' (done ++ [p]).length (((done ++ [p]).map ba).map Value.string)):=Lib.hid (by rw [HX.out] at hown';simpa using hown')
    have H3:=Lib.hid ((hbr.out.alloc hbr.out.size _).grown hgr (by have:=hbr.out.size;simp;omega) (own_base hown.out));clear hown' hgr hown hbr;go_wp2;go_roundw
    case rel=>exact ⟨k+1,k+1,done ++ [p],by omega,by omega,by rw [List.length_append,List.length_singleton];omega,by go_num,by go_num,HP,H2,H3⟩
    case measure=>simp [intOf];omega
   ·have t2:((s[k].toNat:Int)==(c.toNat:Int))=false:=beq_eq_false_iff_ne.2 fun e=>hc (UInt8.toNat_inj.1 (by rw [e0] at e;omega))
    have HP:=Lib.hid (hpt.out.miss hkl hc);clear hpt hc e0;go_wp2;go_roundw
    case rel=>exact ⟨k+1,f,done,by omega,hf,by omega,rfl,by go_num,HP,hown,hbr⟩
    case measure=>simp [intOf];omega
  ·rcases Nat.lt_or_ge s.size k with hgt | hle
   ·obtain rfl:k=s.size+1:=by omega
    have t0:¬((s.size+1:Nat):Int)≤(s.size:Int):=by omega
    have hfin:done=PS:=by
     rcases hpt.out with ⟨h,_⟩ | ⟨_,_,h⟩
     ·rw [len] at h;omega
     ·rw [←h,HPS.out]
    subst hfin;obtain ⟨A,cp,rfl,hA⟩:=Strs.of_own hown.out;have HA:=Lib.hid hA;clear hA hown hpt;go_wp2;go_ret;first | exact ⟨A,⟨cp,rfl⟩,HA.out,hbr.out⟩ | exact ⟨A,_,⟨cp,rfl⟩,rfl,HA.out,hbr.out⟩ | exact ⟨A,_,⟨cp,rfl⟩,HA.out,hbr.out⟩
   ·obtain rfl:k=s.size:=by omega
    have hpt':=hpt.out;rw [←len s] at hpt';obtain ⟨hfk,hP⟩:=hpt'.last;rw [len] at hfk hP;have HP:=Lib.hid hP
    have ex:s.extract f s.size=ba (s.data.toList.drop f):=ba_ext (by rw [Lib.extract_data,List.take_of_length_le (by rw [List.length_drop,len];omega)];rfl);have c1:(f:Int)≤(s.size:Int):=by omega
    have t0:(s.size:Int)≤(s.size:Int):=by omega
    have t1:((s.size:Int)==(s.size:Int))=true:=beq_self_eq_true _;have m1:IntKind.i64.wrap ((s.size:Int)+1)=((s.size+1:Nat):Int):=by rw [wrap_in _ (by omega) (by omega)];omega
    clear hP hpt hpt';generalize s.data.toList.drop f=p at *;have HX:=Lib.hid ex;clear ex
    go_wp2_with (at_builtin;refine wpList_append_own _ rfl _ _ 89 rfl w.heap.size 9 i0 (.string ByteArray.empty) 1 16 Tryz.underlying89 G1.out G2.out G3.out G4.out rfl (by decide) _ _ _ rfl (hown.out.alloc _) ⟨wr.heap.size,0,none⟩ 1 1 [.string (s.extract f s.size)] rfl rfl ?c1 ?c2 ?c3 ?c4 ?c5 ?_)
    case c1=>exact news_one wr _ _
    case c2=>intro u hu;obtain rfl:u=.string (s.extract f s.size):=by simpa using hu
             rfl
    case c3=>unfold maxLen;omega
    case c4=>omega
    case c5=>have:=hbr.out.size;simp;omega
    intro v' w' hown' hgr _
    have H2:Hid (w'.ownsRow w.heap.size 9 1 v' (done ++ [p]).length (((done ++ [p]).map ba).map Value.string)):=Lib.hid (by rw [HX.out] at hown';simpa using hown')
    have H3:=Lib.hid ((hbr.out.alloc hbr.out.size _).grown hgr (by have:=hbr.out.size;simp;omega) (own_base hown.out));clear hown' hgr hown hbr;go_wp2;go_roundw
    case rel=>exact ⟨s.size+1,s.size+1,done ++ [p],by omega,by omega,by rw [List.length_append,List.length_singleton];omega,by go_num,by go_num,HP,H2,H3⟩
    case measure=>simp [intOf]
end code
end Go.Proofs.YtimoakmcelocfaaGreat.Txt
