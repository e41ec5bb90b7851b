import Derived.Test.YtnabkcglnbdfeaaGreatDoorFes
namespace Go.Proofs.YtnabkcglnbdfeaaGreatDoor.Can
open Go.RowKit Base Txt Par Pg
section
variable {b:Bd} {t:T} {s m x body:List UInt8} {o:List Rec.R} {fs ts:List Fld} {n:Nat}
structure Kh (b:Bd) (t:T) (m x:List UInt8) (fs:List Fld) (body:List UInt8) (n:Nat) (o:List Rec.R):Prop where
 st:t.st=4
 pend:t.rd.pend=false
 nf:Ln.failed t.rd.last=false
 buf:t.rd.clear.buf= []
 most:t.rd.most=Ln.mid b.x0
 r:t.r=⟨ba m,ba x,1,fs,true,body,[]⟩
 bl:t.bl=0
 size:t.size=n
 out:t.out=o
structure Kt (b:Bd) (t:T) (m x:List UInt8) (fs:List Fld) (body:List UInt8) (ts:List Fld) (n:Nat) (o:List Rec.R):Prop where
 st:t.st=7
 pend:t.rd.pend=false
 nf:Ln.failed t.rd.last=false
 buf:t.rd.clear.buf= []
 most:t.rd.most=Ln.mid b.x0
 r:t.r=⟨ba m,ba x,1,fs,true,body,ts⟩
 bl:t.bl=ts.length
 size:t.size=n
 out:t.out=o
theorem Kh.open (h:Kh b t m x fs body n o):t.Open:=⟨by rw [h.st];rfl,h.pend,h.nf⟩
theorem Kt.open (h:Kt b t m x fs body ts n o):t.Open:=⟨by rw [h.st];rfl,h.pend,h.nf⟩
theorem end_chunked (h:Mh b t m x fs n o) (hn:((n+2:Nat):Int)≤b.x2) {L:Int} (hd:Frm.decideV (Frm.clOf 0) b.ch b.x3 1 fs=(2,L,0)) :
 ∃t',(Q.live t).feed 0 b [13,10]=.live t'∧Kh b t' m x fs [] (n+2) o:=by
 have e:=end_line h hn;obtain ⟨u,hu⟩:∃u,({t.went {t.rd with buf:= [],last:=1,pend:=false} 2 with r:={t.r with ch:=true},st:=4}:T)=u:=⟨_,rfl⟩;have he:T.endHead 0 b (t.went {t.rd with buf:= [],last:=1,pend:=false} 2)=(0,u):=by
  unfold T.endHead;have hd':Frm.decideV (Frm.clOf 0) b.ch b.x3 (t.went {t.rd with buf:= [],last:=1,pend:=false} 2).r.k (t.went {t.rd with buf:= [],last:=1,pend:=false} 2).r.fs=(2,L,0):=by show Frm.decideV (Frm.clOf 0) b.ch b.x3 t.r.k t.r.fs= _;rw [h.r];exact hd
  rw [hd'];dsimp only;rw [if_neg (by decide),if_pos rfl,←hu];rfl
 rw [he] at e;refine ⟨u,e,?_⟩;rw [←hu];refine ⟨rfl,rfl,rfl,rfl,h.most,?_,h.bl,?_,h.out⟩
 ·show ({t.r with ch:=true}:Rec.R)= _;rw [h.r]
 ·show (if Pg.headed t.st=true then t.size+2 else t.size)= _;rw [h.st,h.size];rfl
theorem size_line (h:Kh b t m x fs body n o) (hc:∀c∈s,c≠10∧c≠13) (hl:s.length≤Ln.mid b.x0) :
 (Q.live t).feed 0 b (s ++ [13,10])=ends (T.chunk 0 b (t.went {t.rd with buf:=s,last:=1,pend:=false} (s.length+2)) s):=by
 have e:=feed_line (p:=0) (b:=b) (t:=t) s h.open h.buf hc (by rw [h.most];exact hl) (by intro hh;rw [h.st] at hh;cases hh)
 refine e.trans (congrArg ends ?_);unfold T.line;have:(t.went {t.rd with buf:=s,last:=1,pend:=false} (s.length+2)).st=4:=h.st;rw [this,if_neg (by decide),if_neg (by decide),if_pos rfl]
theorem kh_chunk (h:Kh b t m x fs body n o) (d:List UInt8) (hd:d≠ []) (hc:∀c∈s,c≠10∧c≠13) (hl:s.length≤Ln.mid b.x0) (hz:Chk.sizeV (Qk.has 0 27) (Qk.has 0 28) b.x4 b.x3 s=((d.length:Int),0)) (hs:((body.length+d.length:Nat):Int)≤b.x3) :
 ∃t',(Q.live t).feed 0 b ((s ++ [13,10])++(d ++ [13,10]))=.live t'∧Kh b t' m x fs (body++d) n o:=by
 have hp:0<d.length:=List.length_pos_iff.2 hd;obtain ⟨t0,ht0⟩:∃t0,t.went {t.rd with buf:=s,last:=1,pend:=false} (s.length+2)=t0:=⟨_,rfl⟩;have hr0:t0.r=⟨ba m,ba x,1,fs,true,body,[]⟩:=by rw [←ht0];exact h.r
 have e1:=size_line h hc hl;rw [ht0] at e1;obtain ⟨t1,ht1⟩:∃t1,({t0 with left:=d.length,st:=5}:T)=t1:=⟨_,rfl⟩;have hlc:T.chunk 0 b t0 s=(0,t1):=by unfold T.chunk;rw [hz];dsimp only;rw [if_neg (by decide),if_neg (by omega),if_neg (by rw [hr0];show¬(b.x3-(body.length:Int)<(d.length:Int));omega),←ht1];rfl
 rw [hlc] at e1
 have e2:=feed_body (p:=0) (b:=b) d t1 (by rw [←ht1];rfl) hd (by rw [←ht1];exact Nat.le_refl _);rw [if_pos (by rw [←ht1])] at e2;have hr1:t1.r=⟨ba m,ba x,1,fs,true,body,[]⟩:=by rw [←ht1];exact hr0
 obtain ⟨t2,ht2⟩:∃t2,(({t1 with cnt:=false,r:={t1.r with body:=t1.r.body++d},left:=0}:T).enter 0 6 0)=t2:=⟨_,rfl⟩;have hed:T.endData 0 {t1 with cnt:=false,r:={t1.r with body:=t1.r.body++d},left:=0}=t2:=by unfold T.endData;rw [if_pos (by rw [hr1]),ht2]
 rw [hed] at e2
 have e3:=feed_line (p:=0) (b:=b) (t:=t2) [] ⟨by rw [←ht2];rfl,by rw [←ht2];rfl,by rw [←ht2];rfl⟩ (by rw [←ht2];rfl) (by intro c hc;cases hc) (Nat.zero_le _) (by intro hh;rw [←ht2] at hh;cases hh);have hl2:T.line 0 b (t2.went {t2.rd with buf:= [],last:=1,pend:=false} (([]:List UInt8).length+2)) []=(0,(t2.went {t2.rd with buf:= [],last:=1,pend:=false} 2).enter 0 4 b.x0):=by
  unfold T.line;have:(t2.went {t2.rd with buf:= [],last:=1,pend:=false} (([]:List UInt8).length+2)).st=6:=by rw [←ht2];rfl
  rw [this,if_neg (by decide),if_neg (by decide),if_neg (by decide),if_neg (by decide)];rfl
 rw [hl2] at e3;refine ⟨(t2.went {t2.rd with buf:= [],last:=1,pend:=false} 2).enter 0 4 b.x0,?_,⟨rfl,rfl,rfl,rfl,rfl,?_,?_,?_,?_⟩⟩
 ·rw [feed_app,e1,feed_app];show ((Q.live t1).feed 0 b d).feed 0 b [13,10]= _;rw [e2];exact e3
 ·show t2.r= _;rw [←ht2];show ({t1.r with body:=t1.r.body++d}:Rec.R)= _;rw [hr1]
 ·show t2.bl=0;rw [←ht2,←ht1,←ht0];exact h.bl
 ·show (if Pg.headed t2.st=true then t2.size+2 else t2.size)=n;rw [←ht2,←ht1,←ht0];show (if Pg.headed t.st=true then t.size+ _ else t.size)=n;rw [h.st,h.size];rfl
 ·show t2.out=o;rw [←ht2,←ht1,←ht0];exact h.out
theorem kh_last (h:Kh b t m x fs body n o) (hc:∀c∈s,c≠10∧c≠13) (hl:s.length≤Ln.mid b.x0) (hz:Chk.sizeV (Qk.has 0 27) (Qk.has 0 28) b.x4 b.x3 s=(0,0)) :
 ∃t',(Q.live t).feed 0 b (s ++ [13,10])=.live t'∧Kt b t' m x fs body [] n o:=by
 have e1:=size_line h hc hl;obtain ⟨t0,ht0⟩:∃t0,t.went {t.rd with buf:=s,last:=1,pend:=false} (s.length+2)=t0:=⟨_,rfl⟩;rw [ht0] at e1;have hlc:T.chunk 0 b t0 s=(0,{t0 with st:=7}):=by unfold T.chunk;rw [hz];dsimp only;rw [if_neg (by decide),if_pos rfl]
 rw [hlc] at e1;refine ⟨_,e1,?_⟩;rw [←ht0];refine ⟨rfl,rfl,rfl,rfl,h.most,h.r,h.bl,?_,h.out⟩;show (if Pg.headed t.st=true then t.size+ _ else t.size)=n;rw [h.st,h.size];rfl
theorem line_seven (h:t.st=7):T.line 0 b t s=T.trail 0 b t s:=by unfold T.line;rw [if_neg (by rw [h];decide),if_neg (by rw [h];decide),if_neg (by rw [h];decide),if_pos h]
theorem kt_field {nm v:List UInt8} (h:Kt b t m x fs body ts n o) (hs:s≠ []) (hc:∀c∈s,c≠10∧c≠13) (hl:s.length≤Ln.mid b.x0) (hn:((n+(s.length+2):Nat):Int)≤b.x2) (hf:((ts.length+1:Nat):Int)≤b.x5) (hp:Fd.parse (Fd.clOf 0) s=some (some (nm,v))) :
 ∃t',(Q.live t).feed 0 b (s ++ [13,10])=.live t'∧Kt b t' m x fs body (ts ++ [(ba nm,ba v)]) (n+(s.length+2)) o:=by
 have hg:Fd.goes 0 s=false:=by unfold Fd.goes;rw [none0,Bool.false_and]
 have e:=feed_line (p:=0) (b:=b) (t:=t) s h.open h.buf hc (by rw [h.most];exact hl) (by intro _;rw [h.size];exact hn);have hv:fieldV 0 t.bl t.r.ts s b.x5=.inr (ts ++ [(ba nm,ba v)]):=by rw [h.bl,h.r];show fieldV 0 ts.length ts s b.x5= _;unfold fieldV;rw [if_neg (by omega),hg,if_neg (by simp),hp]
 obtain ⟨t',ht'⟩:∃t',({t.went {t.rd with buf:=s,last:=1,pend:=false} (s.length+2) with bl:=t.bl+1,r:={t.r with ts:=ts ++ [(ba nm,ba v)]}}:T)=t':=⟨_,rfl⟩;have hl:T.line 0 b (t.went {t.rd with buf:=s,last:=1,pend:=false} (s.length+2)) s=(0,t'):=by refine (line_seven (show (t.went {t.rd with buf:=s,last:=1,pend:=false} (s.length+2)).st=7 from h.st)).trans ?_;unfold T.trail;rw [if_neg hs,←ht'];show (listE (fieldV 0 t.bl t.r.ts s b.x5),({t.went _ _ with bl:=t.bl+1,r:={t.r with ts:=listL t.r.ts (fieldV 0 t.bl t.r.ts s b.x5)}}:T))= _;rw [hv];rfl
 refine ⟨t',e.trans (congrArg ends hl),?_⟩;rw [←ht'];refine ⟨h.st,rfl,rfl,rfl,h.most,?_,?_,?_,h.out⟩
 ·show ({t.r with ts:=ts ++ [(ba nm,ba v)]}:Rec.R)= _;rw [h.r]
 ·show t.bl+1= _;rw [h.bl,List.length_append];rfl
 ·show (if Pg.headed t.st=true then t.size+(s.length+2) else t.size)= _;rw [h.st,h.size];rfl
theorem kt_fields:∀(gs ts:List Fld) (t:T) (n:Nat),Kt b t m x fs body ts n o→(∀f∈gs,okF f∧(bare f).length≤Ln.mid b.x0)→((n+(Fd.put gs).length:Nat):Int)≤b.x2→((ts.length+gs.length:Nat):Int)≤b.x5→
 ∃t',(Q.live t).feed 0 b (Fd.put gs)=.live t'∧Kt b t' m x fs body (ts++gs) (n+(Fd.put gs).length) o
 | [],ts,t,n,h,_,_,_=>⟨t,rfl,by rw [List.append_nil];exact h⟩
 | f::gs,ts,t,n,h,hg,hn,hf=>by
   have e:Fd.put (f::gs)=(bare f ++ [13,10])++Fd.put gs:=by rw [←line_bare];rfl
   have hlen:(Fd.put (f::gs)).length=((bare f).length+2)+(Fd.put gs).length:=by rw [e];simp;omega
   rw [hlen] at hn;rw [List.length_cons] at hf
   have h1:=hg f (by simp)
   obtain ⟨t1,e1,k1⟩:=kt_field h (bare_ne f) (bare_plain h1.1) h1.2 (by omega) (by omega) (Fd.parse_line (Fd.clOf 0) h1.1);rw [ba_back,ba_back] at k1
   obtain ⟨t2,e2,k2⟩:=kt_fields gs (ts ++ [(f.1,f.2)]) t1 _ k1 (fun g hm=>hg g (by simp [hm])) (by omega) (by rw [List.length_append,List.length_singleton];omega);refine ⟨t2,?_,?_⟩
   ·rw [e,feed_app,e1];exact e2
   ·rw [List.append_assoc] at k2;rw [hlen,←Nat.add_assoc];exact k2
theorem kt_end (h:Kt b t m x fs body ts n o) (hn:((n+2:Nat):Int)≤b.x2) :
 ∃t',(Q.live t).feed 0 b [13,10]=.live t'∧Fr b t' (o ++ [⟨ba m,ba x,1,fs,true,body,ts⟩]):=by
 have e:=feed_line (p:=0) (b:=b) (t:=t) [] h.open h.buf (fun c hc=>by cases hc) (Nat.zero_le _) (by intro _;rw [h.size];exact hn);have hl:T.line 0 b (t.went {t.rd with buf:= [],last:=1,pend:=false} (([]:List UInt8).length+2)) []=(0,(t.went {t.rd with buf:= [],last:=1,pend:=false} 2).fin):=by refine (line_seven (show (t.went {t.rd with buf:= [],last:=1,pend:=false} (([]:List UInt8).length+2)).st=7 from h.st)).trans ?_;unfold T.trail;rw [if_pos rfl];rfl
 rw [hl] at e;refine ⟨_,e,⟨rfl,rfl,rfl,rfl,rfl,h.most,rfl,rfl,rfl,rfl,?_,rfl⟩⟩;show t.out ++ [t.r]= _;rw [h.out,h.r]
end
end Go.Proofs.YtnabkcglnbdfeaaGreatDoor.Can
namespace Go.Proofs.YtnabkcglnbdfeaaGreatDoor.Can
open Go.RowKit Base Txt Par Pg
def localV:ByteArray:=⟨#[108,111,99,97,108,104,111,115,116]⟩
def posts:List (List UInt8):= [[80,79,83,84],[80,85,84],[80,65,84,67,72]]
def hostA (l:List Fld):List Fld:=if find l Frm.hostN= [] then (Frm.hostN,localV)::l else l
def lenV (n:Nat):ByteArray:=ba (Num.spell 10 n)
def fieldsV (m:ByteArray) (fs:List Fld) (body:List UInt8) (ts:List Fld):List Fld:=
 if ts≠ [] then hostA (without fs [Frm.clN,Frm.teN]) ++ [(Frm.teN,Frm.chunked)]
 else if body≠ []∨m.data.toList∈posts then hostA (without fs [Frm.clN,Frm.teN]) ++ [(Frm.clN,lenV body.length)]
 else hostA (without fs [Frm.clN,Frm.teN])
theorem find_app (a c:List Fld) (n:ByteArray):find (a++c) n=find a n++find c n:=by simp [find,List.filter_append]
theorem same_trans {a c n:ByteArray} (h:same a n=true) (k:same c n=false):same c a=false:=by
 cases e:same c a with
 | false=>rfl
 | true=>
   unfold same at h k e;rw [beq_iff_eq] at h e;rw [e,h] at k;simp at k
theorem find_without_out (l:List Fld) (ns:List ByteArray) (n:ByteArray) (h:n∈ns):find (without l ns) n= []:=by unfold find without;rw [List.map_eq_nil_iff,List.filter_filter,List.filter_eq_nil_iff];intro f _;rw [Bool.and_eq_true];rintro ⟨h1,h2⟩;have:one ns f.1=true:=List.any_eq_true.2 ⟨n,h,by rw [same_comm];exact h1⟩;rw [this] at h2;cases h2
theorem find_without_in (l:List Fld) (ns:List ByteArray) (n:ByteArray) (h:∀c∈ns,same c n=false):find (without l ns) n=find l n:=by
 unfold find without;rw [List.filter_filter]
 congr 1
 apply List.filter_congr;intro f _;cases e:same f.1 n with
 | false=>rfl
 | true=>
   have:one ns f.1=false:=by unfold one;rw [List.any_eq_false];intro c hc;rw [same_trans e (h c hc)];simp
   rw [this];rfl
section
variable (fs:List Fld)
theorem host_te:find (hostA (without fs [Frm.clN,Frm.teN])) Frm.teN= []:=by
 have h:=find_without_out fs [Frm.clN,Frm.teN] Frm.teN (by simp);unfold hostA;split
 ·exact (find_app [(Frm.hostN,localV)] (without fs [Frm.clN,Frm.teN]) Frm.teN).trans (by rw [h];decide +kernel)
 ·exact h
theorem host_cl:find (hostA (without fs [Frm.clN,Frm.teN])) Frm.clN= []:=by
 have h:=find_without_out fs [Frm.clN,Frm.teN] Frm.clN (by simp);unfold hostA;split
 ·exact (find_app [(Frm.hostN,localV)] (without fs [Frm.clN,Frm.teN]) Frm.clN).trans (by rw [h];decide +kernel)
 ·exact h
def okH (fs:List Fld):Prop:=find fs Frm.hostN= []∨Frm.hostsV false false 1 (find fs Frm.hostN)=0
theorem host_host (h:okH fs):Frm.hostsV false false 1 (find (hostA (without fs [Frm.clN,Frm.teN])) Frm.hostN)=0:=by
 have e:=find_without_in fs [Frm.clN,Frm.teN] Frm.hostN (by decide +kernel);unfold hostA;rw [e];split
 ·rename_i h0;rw [show find ((Frm.hostN,localV)::without fs [Frm.clN,Frm.teN]) Frm.hostN=find [(Frm.hostN,localV)] Frm.hostN from (find_app [(Frm.hostN,localV)] (without fs [Frm.clN,Frm.teN]) Frm.hostN).trans (by rw [e,h0,List.append_nil])];decide +kernel
 ·rename_i h0;rw [e];exact h.resolve_left h0
end
theorem cl_zero:Frm.clOf 0=⟨false,false,false,false,false,false,false,false,false,false,false,false⟩:=by simp only [Frm.clOf,none0]
section
variable {m:ByteArray} {fs ts:List Fld} {body:List UInt8} {most:Int}
theorem decide_chunked (h:okH fs) (ht:ts≠ []):Frm.decideV (Frm.clOf 0) true most 1 (fieldsV m fs body ts)=(2,0,0):=by unfold fieldsV;rw [if_pos ht,cl_zero];unfold Frm.decideV;dsimp only;rw [find_app,find_app,find_app,host_te,host_cl,show find [(Frm.teN,Frm.chunked)] Frm.hostN= [] by decide +kernel,show find [(Frm.teN,Frm.chunked)] Frm.teN= [Frm.chunked] by decide +kernel,show find [(Frm.teN,Frm.chunked)] Frm.clN= [] by decide +kernel,List.append_nil,host_host fs h];show Frm.bodyV 0 true (Frm.winsV false false false false 1 1 0 (Frm.coding false false [Frm.chunked])) (0,0)= _;rw [show Frm.coding false false [Frm.chunked]=true by decide +kernel];rfl
theorem decide_none (h:okH fs) (ch:Bool) (hb:body= []) (ht:ts= []) (hm:m.data.toList∉posts):Frm.decideV (Frm.clOf 0) ch most 1 (fieldsV m fs body ts)=(1,0,0):=by unfold fieldsV;rw [if_neg (by simp [ht]),if_neg (by simp [hb,hm]),cl_zero];unfold Frm.decideV;dsimp only;rw [host_te,host_cl,host_host fs h];rfl
theorem decide_len (h:okH fs) (ch:Bool) (hb:body≠ []∨m.data.toList∈posts) (ht:ts= []) (h0:0≤most) (hl:(body.length:Int)≤most):Frm.decideV (Frm.clOf 0) ch most 1 (fieldsV m fs body ts)=(1,(body.length:Int),0):=by
 unfold fieldsV;rw [if_neg (by simp [ht]),if_pos hb,cl_zero];unfold Frm.decideV;dsimp only;have e0:∀n:ByteArray,find [(Frm.clN,lenV body.length)] n=if same Frm.clN n=true then [lenV body.length] else []:=fun n=>by unfold find;rw [List.filter_cons];split<;>rfl
 have e1:=(e0 Frm.hostN).trans (if_neg (by decide +kernel))
 have e2:=(e0 Frm.teN).trans (if_neg (by decide +kernel))
 have e3:=(e0 Frm.clN).trans (if_pos (by decide +kernel));rw [find_app,find_app,find_app,host_te,host_cl,e1,e2,e3,List.append_nil,host_host fs h];have el:Frm.lengthV false false false false most [lenV body.length]=((body.length:Int),0):=by unfold Frm.lengthV;rw [if_neg (by simp),if_neg (by simp)];show Frm.numV (Num.readOf 10 most (lenV body.length).data.toList)= _;have h9:=Num.read_spell (b:=10) (by decide) (by decide) body.length 0 most h0;rw [if_pos hl] at h9;have this:Num.readOf 10 most (List.replicate 0 48++Num.spell 10 body.length)=((body.length:Int),0):=h9;rw [show (lenV body.length).data.toList=List.replicate 0 48++Num.spell 10 body.length by simp [lenV,ba],this];rfl
 show Frm.bodyV 0 ch (false,0) (Frm.lengthV false false false false most [lenV body.length])= _;rw [el];rfl
end
end Go.Proofs.YtnabkcglnbdfeaaGreatDoor.Can
namespace Go.Proofs.YtnabkcglnbdfeaaGreatDoor.Can
open Go.RowKit Base Txt Par Pg
def reqL (m x:List UInt8):List UInt8:=m++32::(x ++ [32,72,84,84,80,47,49,46,49])
def putV (m x:List UInt8) (fs:List Fld) (body:List UInt8) (ts:List Fld):List UInt8:=
 (reqL m x ++ [13,10])++(Fd.put (fieldsV (ba m) fs body ts)++([13,10]++if ts≠ [] then Chk.putL [body]++(Fd.put ts ++ [13,10]) else body))
structure Fits (b:Bd) (m x:List UInt8) (fs:List Fld) (body:List UInt8) (ts:List Fld):Prop where
 req:Rq.request (Rq.clOf 0) b.od (reqL m x)=(m,x,1,0)
 plain:∀c∈reqL m x,c≠10∧c≠13
 len:(reqL m x).length≤Ln.mid b.x0
 fields:∀f∈fieldsV (ba m) fs body ts,okF f∧(bare f).length≤Ln.mid b.x0
 trailers:∀f∈ts,okF f∧(bare f).length≤Ln.mid b.x0
 many:(((fieldsV (ba m) fs body ts).length:Nat):Int)≤b.x1
 head:(((reqL m x).length+2+(Fd.put (fieldsV (ba m) fs body ts)).length+2+(Fd.put ts).length+2:Nat):Int)≤b.x2
 room:(body.length:Int)≤b.x3
 most:((ts.length:Nat):Int)≤b.x5
 host:okH fs
 ch:ts≠ []→b.ch=true
 size:ts≠ []→body≠ []→Chk.sizeV (Qk.has 0 27) (Qk.has 0 28) b.x4 b.x3 (Num.spell 16 body.length)=((body.length:Int),0)∧(∀c∈Num.spell 16 body.length,c≠10∧c≠13)∧(Num.spell 16 body.length).length≤Ln.mid b.x0
 last:ts≠ []→Chk.sizeV (Qk.has 0 27) (Qk.has 0 28) b.x4 b.x3 [48]=(0,0)∧1≤Ln.mid b.x0
section
variable {b:Bd} {t:T} {m x body:List UInt8} {o:List Rec.R} {fs ts:List Fld}
theorem reqL_ne (m x:List UInt8):reqL m x≠ []:=by unfold reqL;simp
theorem read_put (hb:b.right=true) (h:Fits b m x fs body ts) (hf:Fr b t o) :
 ∃t',(Q.live t).feed 0 b (putV m x fs body ts)=.live t'∧Fr b t' (o ++ [⟨ba m,ba x,1,fieldsV (ba m) fs body ts,decide (ts≠ []),body,ts⟩]):=by
 have hx:=Bd.edges hb;have hh:=h.head;obtain ⟨t1,e1,k1⟩:=mh_start hf (reqL_ne m x) h.plain h.len (by omega) h.req
 obtain ⟨t2,e2,k2⟩:=mh_fields (fieldsV (ba m) fs body ts) [] t1 _ k1 h.fields (by omega) (by have:=h.many;simpa using this);rw [List.nil_append] at k2;unfold putV;rw [feed_app,e1,feed_app,e2];by_cases ht:ts= []
 ·subst ht;rw [if_neg (by simp),decide_eq_false (by simp)];by_cases h0:body= []
  ·subst h0;rw [List.append_nil];by_cases hm:m∈posts
   ·obtain ⟨t3,e3,k3⟩:=end_none k2 (by omega) (by decide) (decide_len (m:=ba m) h.host b.ch (.inr (by simpa [ba] using hm)) rfl (by omega) h.room);refine ⟨t3,e3,?_⟩;exact k3
   ·obtain ⟨t3,e3,k3⟩:=end_none k2 (by omega) (by decide) (decide_none (m:=ba m) h.host b.ch rfl rfl (by simpa [ba] using hm));refine ⟨t3,e3,?_⟩;exact k3
  ·obtain ⟨t3,e3,k3⟩:=end_body k2 (by omega) (by decide) body h0 (decide_len (m:=ba m) h.host b.ch (.inl h0) rfl (by omega) h.room);refine ⟨t3,e3,?_⟩;exact k3
 ·rw [if_pos ht];have hd:=decide_chunked (m:=ba m) (body:=body) (most:=b.x3) h.host ht;rw [←h.ch ht] at hd;obtain ⟨t3,e3,k3⟩:=end_chunked k2 (by omega) hd;obtain ⟨z1,z2⟩:=h.last ht;have ep:Chk.putL [body]=Chk.chunkL body ++ [48,13,10]:=by unfold Chk.putL;simp
  obtain ⟨t4,e4,k4⟩:∃t4,(Q.live t3).feed 0 b (Chk.chunkL body)=.live t4∧Kh b t4 m x (fieldsV (ba m) fs body ts) body ((reqL m x).length+2+(Fd.put (fieldsV (ba m) fs body ts)).length+2) o:=by
   by_cases h0:body= []
   ·subst h0;exact ⟨t3,by unfold Chk.chunkL;rw [if_pos rfl];rfl,k3⟩
   ·obtain ⟨s1,s2,s3⟩:=h.size ht h0
    obtain ⟨t4,e4,k4⟩:=kh_chunk k3 body h0 s2 s3 s1 (by have:=h.room;simpa using this);refine ⟨t4,?_,by simpa using k4⟩;unfold Chk.chunkL;rw [if_neg h0];simpa using e4
  obtain ⟨t5,e5,k5⟩:=kh_last (s:= [48]) k4 (by intro c hc;rw [List.mem_singleton.1 hc];decide) z2 z1
  obtain ⟨t6,e6,k6⟩:=kt_fields ts [] t5 _ k5 h.trailers (by omega) (by have:=h.most;simpa using this);rw [List.nil_append] at k6
  obtain ⟨t7,e7,k7⟩:=kt_end k6 (by omega);refine ⟨t7,?_,by rw [decide_eq_true ht];exact k7⟩;rw [feed_app,e3,ep,List.append_assoc,feed_app,e4,feed_app];rw [show (Q.live t4).feed 0 b [48,13,10]=.live t5 from e5,feed_app,e6];exact e7
end
end Go.Proofs.YtnabkcglnbdfeaaGreatDoor.Can
namespace Go.Proofs.YtnabkcglnbdfeaaGreatDoor.Can
open Go.RowKit Base Txt Rq
theorem token_32 {l:List UInt8} (h:methOk l=true):(∀c∈l,c≠10∧c≠13)∧(32:UInt8)∉l:=by
 unfold methOk at h;rw [Bool.and_eq_true] at h;refine ⟨token_plain h.2,fun hc=>?_⟩;have h1:=List.all_eq_true.1 h.2 32 hc
 exact absurd h1 (by decide)
theorem target_32 {m l:List UInt8} (h:tgtOk c0 m l=true):(∀c∈l,c≠10∧c≠13)∧(32:UInt8)∉l:=by
 unfold tgtOk at h;rw [Bool.and_eq_true] at h;have ht:=h.1;unfold tgtB at ht;rw [List.all_eq_true] at ht;refine ⟨fun c hc=>⟨fun e=>?_,fun e=>?_⟩,fun hc=>?_⟩
 ·have:=ht c hc;rw [e] at this;exact absurd this (by decide)
 ·have:=ht c hc;rw [e] at this;exact absurd this (by decide)
 ·have:=ht 32 hc;exact absurd this (by decide)
theorem put_line {old:Bool} {m t:List UInt8} (hm:methOk m=true) (ht:tgtOk c0 m t=true) (h0:m≠ []) (h1:t≠ []):request c0 old (reqL m t)=(m,t,1,0):=by
 have hn:=(token_32 hm).2;have hn2:=(target_32 ht).2;have hp:parts 32 (reqL m t)= [m,t,[72,84,84,80,47,49,46,49]]:=by unfold reqL;rw [parts_cut 32 m _ hn,show t ++ [32,72,84,84,80,47,49,46,49]=t++32 :: [72,84,84,80,47,49,46,49] from rfl,parts_cut 32 t _ hn2];rfl
 have hw:words c0.bl (reqL m t)= [m,t,[72,84,84,80,47,49,46,49]]:=hp;have hpk:=(pick_three (c:=c0) (l:=reqL m t) (by rw [hw];simp;exact ⟨h0,h1⟩) (by rw [hw];rfl)).1;rw [hw] at hpk;have hb:between c0.bl (reqL m t) m [72,84,84,80,47,49,46,49]=t:=by
  show ext (reqL m t) (m.length+1,(reqL m t).length-8-1)=t;have e:reqL m t=(m ++ [32])++(t ++ [32,72,84,84,80,47,49,46,49]):=by simp [reqL]
  have e2:=ext_mid (m ++ [32]) t [32,72,84,84,80,47,49,46,49];rw [←e] at e2;have e3:ext (reqL m t) (m.length+1,(reqL m t).length-8-1)=ext (reqL m t) ((m ++ [32]).length,(m ++ [32]).length+t.length):=by
   congr 2
   ·simp
   ·rw [e];simp;omega
  rw [e3];exact e2
 have hpk':pick c0 (reqL m t)=some (m,between c0.bl (reqL m t) m [72,84,84,80,47,49,46,49],[72,84,84,80,47,49,46,49]):=hpk;rw [hb] at hpk';unfold request;rw [hpk'];dsimp only;rw [hm,ht,show verL c0 [72,84,84,80,47,49,46,49]=some 1 by decide];rfl
theorem request_again {old old':Bool} {l m t:List UInt8} {k:Nat} (h:request c0 old l=(m,t,k,0)):request c0 old' (reqL m t)=(m,t,1,0)∧(∀c∈reqL m t,c≠10∧c≠13)∧m.length≤l.length∧t.length≤l.length:=by
 unfold request at h;cases hp:pick c0 l with
 | none=>rw [hp] at h;simp [badR] at h
 | some x=>
   obtain ⟨m',t',v⟩:=x;rw [hp] at h;dsimp only at h;by_cases hok:(methOk m'&&tgtOk c0 m' t')=true
   ·rw [if_pos hok] at h;cases hv:verL c0 v with
    | none=>rw [hv] at h;simp [verR] at h
    | some j=>
      rw [hv] at h;dsimp only at h;by_cases ho:(j==0 && !old)=true
      ·rw [if_pos ho] at h;simp [verR] at h
      ·rw [if_neg ho] at h;simp only [Prod.mk.injEq,and_true] at h;obtain ⟨rfl,rfl,rfl⟩:=h;have hz:=pick_some hp;rw [Bool.and_eq_true] at hok;refine ⟨put_line hok.1 hok.2 (List.length_pos_iff.1 hz.1) (List.length_pos_iff.1 hz.2.2.1),fun c hc=>?_,hz.2.1,hz.2.2.2.1⟩;unfold reqL at hc;rw [List.mem_append,List.mem_cons,List.mem_append] at hc;rcases hc with hc | rfl | hc | hc
       ·exact (token_32 hok.1).1 c hc
       ·decide
       ·exact (target_32 hok.2).1 c hc
       ·exact (by decide:∀c∈([32,72,84,84,80,47,49,46,49]:List UInt8),c≠10∧c≠13) c hc
   ·rw [if_neg hok] at h;simp [badR] at h
end Go.Proofs.YtnabkcglnbdfeaaGreatDoor.Can
namespace Go.Proofs.YtnabkcglnbdfeaaGreatDoor.Pg
open Go.RowKit Base Txt Par
def T.pre (o:List Rec.R) (t:T):T:={t with out:=o++t.out}
def Q.pre (o:List Rec.R):Q→Q
 | .live t=>.live (t.pre o)
 | .dead e x=>.dead e (o++x)
section
variable {p:Nat} {b:Bd} {t:T} {o:List Rec.R} {s:List UInt8} {c:UInt8}
theorem fin_pre:(t.pre o).fin=t.fin.pre o:=by show ({t with out:=(o++t.out) ++ [t.r],r:=zero,hl:=0,bl:=0,size:=0,cnt:=false,left:=0,st:=1}:T)={t with out:=o++(t.out ++ [t.r]),r:=zero,hl:=0,bl:=0,size:=0,cnt:=false,left:=0,st:=1};rw [List.append_assoc]
theorem endData_pre:(t.pre o).endData p=(t.endData p).pre o:=by
 unfold T.endData;show (if t.r.ch=true then _ else _)= _;by_cases h:t.r.ch=true
 ·rw [if_pos h,if_pos h];rfl
 ·rw [if_neg h,if_neg h];exact fin_pre
theorem first_pre:(t.pre o).first p b s=((t.first p b s).1,(t.first p b s).2.pre o):=by
 unfold T.first;by_cases h:s= []
 ·rw [if_pos h,if_pos h]
 ·rw [if_neg h,if_neg h];dsimp only;by_cases h2:(Rq.request (Rq.clOf p) b.od s).2.2.2=0
  ·rw [if_pos h2,if_pos h2];rfl
  ·rw [if_neg h2,if_neg h2]
theorem endHead_pre:(t.pre o).endHead p b=((t.endHead p b).1,(t.endHead p b).2.pre o):=by
 unfold T.endHead;have er:(t.pre o).r=t.r:=rfl;rw [er];generalize Frm.decideV (Frm.clOf p) b.ch b.x3 t.r.k t.r.fs=d;dsimp only;by_cases h1:d.2.2≠0
 ·rw [if_pos h1,if_pos h1]
 ·rw [if_neg h1,if_neg h1];by_cases h2:d.1=2
  ·rw [if_pos h2,if_pos h2];rfl
  ·rw [if_neg h2,if_neg h2];by_cases h3:d.2.1=0
   ·rw [if_pos h3,if_pos h3];exact Prod.ext rfl fin_pre
   ·rw [if_neg h3,if_neg h3];rfl
theorem fields_pre:(t.pre o).fields p b s=((t.fields p b s).1,(t.fields p b s).2.pre o):=by
 unfold T.fields;by_cases h:s= []
 ·rw [if_pos h,if_pos h];exact endHead_pre
 ·rw [if_neg h,if_neg h];rfl
theorem trail_pre:(t.pre o).trail p b s=((t.trail p b s).1,(t.trail p b s).2.pre o):=by
 unfold T.trail;by_cases h:s= []
 ·rw [if_pos h,if_pos h];exact Prod.ext rfl fin_pre
 ·rw [if_neg h,if_neg h];rfl
theorem chunk_pre:(t.pre o).chunk p b s=((t.chunk p b s).1,(t.chunk p b s).2.pre o):=by
 unfold T.chunk;generalize Chk.sizeV (Qk.has p 27) (Qk.has p 28) b.x4 b.x3 s=z;dsimp only;by_cases h1:z.2≠0
 ·rw [if_pos h1,if_pos h1]
 ·rw [if_neg h1,if_neg h1];by_cases h2:z.1=0
  ·rw [if_pos h2,if_pos h2];rfl
  ·rw [if_neg h2,if_neg h2];show (if b.x3-(t.r.body.length:Int)<z.1 then _ else _)= _;by_cases h3:b.x3-(t.r.body.length:Int)<z.1
   ·rw [if_pos h3,if_pos h3]
   ·rw [if_neg h3,if_neg h3];rfl
theorem line_pre:(t.pre o).line p b s=((t.line p b s).1,(t.line p b s).2.pre o):=by
 unfold T.line;show (if t.st=1 then _ else _)= _;by_cases h1:t.st=1
 ·rw [if_pos h1,if_pos h1];exact first_pre
 ·rw [if_neg h1,if_neg h1];show (if t.st=2 then _ else _)= _;by_cases h2:t.st=2
  ·rw [if_pos h2,if_pos h2];exact fields_pre
  ·rw [if_neg h2,if_neg h2];show (if t.st=4 then _ else _)= _;by_cases h4:t.st=4
   ·rw [if_pos h4,if_pos h4];exact chunk_pre
   ·rw [if_neg h4,if_neg h4];show (if t.st=7 then _ else _)= _;by_cases h7:t.st=7
    ·rw [if_pos h7,if_pos h7];exact trail_pre
    ·rw [if_neg h7,if_neg h7];rfl
theorem ends_pre (x:Nat × T):ends (x.1,x.2.pre o)=(ends x).pre o:=by
 unfold ends;by_cases h:x.1=0
 ·rw [if_pos h,if_pos h];rfl
 ·rw [if_neg h,if_neg h];rfl
theorem inLine_pre:(t.pre o).inLine p b c=((t.inLine p b c).1.pre o,(t.inLine p b c).2):=by
 unfold T.inLine;have er:(t.pre o).rd=t.rd:=rfl;have es:(t.pre o).st=t.st:=rfl;have eo:(t.pre o).out=o++t.out:=rfl;rw [er,es,eo];generalize t.rd.clear.next c=how;dsimp only;by_cases h0:how=0
 ·rw [if_pos h0,if_pos h0];rfl
 ·rw [if_neg h0,if_neg h0];by_cases h3:how=3
  ·rw [if_pos h3,if_pos h3];rfl
  ·rw [if_neg h3,if_neg h3];by_cases h4:how=4
   ·rw [if_pos h4,if_pos h4];by_cases h5:(t.st==6&&Qk.has p 29)=true
    ·rw [if_pos h5,if_pos h5];rfl
    ·rw [if_neg h5,if_neg h5];rfl
   ·rw [if_neg h4,if_neg h4];refine Prod.ext ?_ rfl;show ends ((({t with rd:=t.rd.byte c}:T).pre o).line p b (t.rd.byte c).line)= _;rw [line_pre,ends_pre]
theorem counted_pre:(t.pre o).counted=t.counted.pre o:=by
 unfold T.counted;show (if t.cnt=true then _ else _)= _;by_cases h:t.cnt=true
 ·rw [if_pos h,if_pos h]
 ·rw [if_neg h,if_neg h];rfl
theorem look_pre:(t.pre o).look p b c=((t.look p b c).1.pre o,(t.look p b c).2):=by
 unfold T.look;show (if bodied t.st=true then _ else _)= _;by_cases h1:bodied t.st=true
 ·rw [if_pos h1,if_pos h1];refine Prod.ext ?_ rfl;show Q.live (if t.left=1 then _ else _)= _;by_cases h2:t.left=1
  ·rw [if_pos h2,if_pos h2];show Q.live (((t.keep c).pre o).endData p)= _;rw [endData_pre];rfl
  ·rw [if_neg h2,if_neg h2];rfl
 ·rw [if_neg h1,if_neg h1];show (if headed t.st=true then _ else _)= _;by_cases h2:headed t.st=true
  ·rw [if_pos h2,if_pos h2,counted_pre];show (if b.x2<(t.counted.size:Int) then _ else _)= _
   by_cases h3:b.x2<(t.counted.size:Int)
   ·rw [if_pos h3,if_pos h3];rfl
   ·rw [if_neg h3,if_neg h3];exact inLine_pre
  ·rw [if_neg h2,if_neg h2];exact inLine_pre
theorem take_pre:(t.pre o).take p b c=(t.take p b c).pre o:=by
 unfold T.take;have e:({(t.pre o) with cnt:=false}:T)=({t with cnt:=false}:T).pre o:=rfl;rw [e,look_pre];rcases ({t with cnt:=false}:T).look p b c with ⟨x,u⟩;cases x with
 | dead e1 o1=>cases u<;>rfl
 | live t1=>
   cases u with
   | true=>rfl
   | false=>
     show ((t1.pre o).look p b c).1=((t1.look p b c).1).pre o;rw [look_pre]
theorem byte_pre (x:Q):(x.pre o).byte p b c=(x.byte p b c).pre o:=by
 cases x with
 | live t=>exact take_pre
 | dead e o1=>rfl
theorem feed_pre (l:List UInt8):∀x:Q,(x.pre o).feed p b l=(x.feed p b l).pre o:=by
 induction l with
 | nil=>intro x;rfl
 | cons c l ih=>
   intro x;show ((x.pre o).byte p b c).feed p b l=((x.byte p b c).feed p b l).pre o;rw [byte_pre,ih]
theorem pre_told (x:Q):x.told.pre x.out=x:=by
 cases x with
 | live t=>
   show Q.live {t with out:=t.out ++ []}= _;rw [List.append_nil]
 | dead e o1=>
   show Q.dead e (o1 ++ [])= _;rw [List.append_nil]
theorem pre_err (x:Q):(x.pre o).err=x.err:=by cases x<;>rfl
theorem pre_out (x:Q):(x.pre o).out=o++x.out:=by cases x<;>rfl
end
end Go.Proofs.YtnabkcglnbdfeaaGreatDoor.Pg
namespace Go.Proofs.YtnabkcglnbdfeaaGreatDoor.Flt
open Go.RowKit Base Txt Par Pg
section
variable {p:Nat} {b:Bd} {t:T} {s:List UInt8} {c:UInt8}
theorem line_bad_out (h:(t.line p b s).1≠0):(t.line p b s).2.out=t.out:=by
 revert h;unfold T.line;split
 ·unfold T.first;split
  ·intro _;rfl
  ·dsimp only;split
   ·intro h;exact absurd rfl h
   ·intro _;rfl
 ·split
  ·unfold T.fields;split
   ·unfold T.endHead;dsimp only;split
    ·intro _;rfl
    ·split
     ·intro _;rfl
     ·split
      ·intro h;exact absurd rfl h
      ·intro _;rfl
   ·intro _;rfl
  ·split
   ·unfold T.chunk;dsimp only;split
    ·intro _;rfl
    ·split
     ·intro _;rfl
     ·split
      ·intro _;rfl
      ·intro _;rfl
   ·split
    ·unfold T.trail;split
     ·intro h;exact absurd rfl h
     ·intro _;rfl
    ·intro _;rfl
theorem inLine_bad_out {e:Nat} {o:List Rec.R} {u:Bool} (h:t.inLine p b c=(.dead e o,u)):o=t.out:=by
 unfold T.inLine at h;dsimp only at h;split at h
 ·cases h
 ·split at h
  ·cases h;rfl
  ·split at h
   ·split at h
    ·cases h
    ·cases h;rfl
   ·have h1:=congrArg Prod.fst h;unfold ends at h1;dsimp only at h1;split at h1
    ·cases h1
    ·rename_i h0;have:=line_bad_out h0;cases h1;exact this
theorem look_bad_out {e:Nat} {o:List Rec.R} {u:Bool} (h:t.look p b c=(.dead e o,u)):o=t.out:=by
 unfold T.look at h;split at h
 ·cases h
 ·split at h
  ·split at h
   ·cases h;rfl
   ·have:=inLine_bad_out h
    rwa [counted_out] at this
  ·exact inLine_bad_out h
theorem strict_used (hs:t.Strict):(t.inLine 0 b c).2=true:=by
 have h2:t.rd.clear.next c≠2:=by
  unfold Ln.M.next;have e1:t.rd.clear.cr=false:=hs.cr;rw [e1];simp only [Bool.false_eq_true,if_false]
  repeat' split
  all_goals decide
 unfold T.inLine;obtain ⟨how,hh⟩:∃how,t.rd.clear.next c=how:=⟨_,rfl⟩;simp only [hh] at h2 ⊢;split
 ·rfl
 ·split
  ·rfl
  ·split
   ·rw [none0 29,Bool.and_false];rfl
   ·simp only [Bool.not_eq_true',beq_eq_false_iff_ne];exact h2
theorem strict_look (hs:t.Strict):(t.look 0 b c).2=true:=by
 unfold T.look;split
 ·rfl
 ·split
  ·split
   ·rfl
   ·exact strict_used ⟨by rw [counted_rd];exact hs.lf,by rw [counted_rd];exact hs.cr⟩
  ·exact strict_used hs
theorem strict_bad {e:Nat} {o:List Rec.R} (hs:t.Strict) (h:t.take 0 b c=.dead e o):o=t.out:=by
 unfold T.take at h;have hs0:({t with cnt:=false}:T).Strict:=⟨hs.lf,hs.cr⟩;have hu:=strict_look (b:=b) (c:=c) hs0;rcases hq:({t with cnt:=false}:T).look 0 b c with ⟨q,u⟩;rw [hq] at h hu;cases q with
 | dead e1 o1=>
   have:=look_bad_out hq
   cases u<;> (cases h;exact this)
 | live t1=>
   have hu:u=true:=hu;subst hu;cases h
theorem pass_feed (l:List UInt8):∀{f:F} {t:T},f.Just p b→f.code=0→f.x=.live t→(F.feed p b f l).2=((Q.live t).feed 0 b l).out∧(F.feed p b f l).1.code=((Q.live t).feed 0 b l).err:=by
 induction l with
 | nil=>
   intro f t hj h0 hx;rcases hj with ⟨h1,h2,t',h3,h4,h5, -⟩ | ⟨h1, -⟩
   ·have e:t'=t:=by rw [h3] at hx;cases hx;rfl
    subst e;exact ⟨h5.symm,h0⟩
   ·exact absurd h0 h1
 | cons c l ih=>
   intro f t hj h0 hx;have hj2:=just_byte hj c;rcases hj with ⟨h1,h2,t',h3,h4,h5,h6,h7,h8,s,h9⟩ | ⟨h1, -⟩
   ·have e:t'=t:=by rw [h3] at hx;cases hx;rfl
    subst e;have eb:f.byte p b c=f.look p b c:=if_pos h0;have e1:(Q.live t').byte 0 b c=t'.take 0 b c:=rfl;have e2:(Q.live (t'.wide p)).byte p b c=(t'.wide p).take p b c:=rfl;have ef:F.feed p b f (c::l)=((F.feed p b (f.byte p b c).1 l).1,(f.byte p b c).2++(F.feed p b (f.byte p b c).1 l).2):=rfl;have eq:(Q.live t').feed 0 b (c::l)=(t'.take 0 b c).feed 0 b l:=rfl;rw [ef,eq];cases ht:t'.take 0 b c with
    | live t2=>
      obtain ⟨k1,k2⟩:=take_wide (p:=p) ht h4;have hl:f.look p b c=(⟨.live {t2 with out:= []},.live {t2.wide p with out:= []},f.code,f.parted⟩,t2.out):=by unfold F.look;rw [h3,h6];simp only [e1,e2,ht,k1];have e3:Rec.all (Q.live t2).out (Q.live (t2.wide p)).out=true:=all_self _;rw [e3];rfl
      rw [eb,hl] at hj2 ⊢;obtain ⟨i1,i2⟩:=ih (t:={t2 with out:= []}) hj2 h0 rfl;have ep:(Q.live t2).feed 0 b l=((Q.live {t2 with out:= []}).feed 0 b l).pre t2.out:=by
       rw [←feed_pre]
       have:(Q.live {t2 with out:= []}).pre t2.out=Q.live t2:=pre_told (.live t2);rw [this]
      rw [ep,pre_out,pre_err];exact ⟨by rw [i1],i2⟩
    | dead e o=>
      have ho:o= []:=(strict_bad h4 ht).trans h5;subst ho;rw [ht] at e1;have hs:=take_sim h9 h7 h8 c;rw [ht] at hs;obtain ⟨k1,k2,k3,k4⟩:=hs;have hl2:(f.look p b c).2= []:=by unfold F.look;rw [h3,h6];simp only [e1];show (if _ then ([]:List Rec.R) else [])= [];split<;>rfl
      have hl1:(f.look p b c).1.code=e:=by unfold F.look;rw [h3,h6];simp only [e1];unfold F.judge;rw [if_pos (show (Q.dead e []).err≠0 from k2)];rfl
      rw [eb,hl2,F.feed_blocked p b _ (by rw [hl1];exact k2),feed_dead];exact ⟨rfl,hl1⟩
   ·exact absurd h0 h1
theorem pass_all (hp:p<1073741824) (hb:b.right=true) (l:List UInt8) :
 (F.feed p b (F.new p b) l).2=(Q.read 0 b l).out∧(F.feed p b (F.new p b) l).1.code=(Q.read 0 b l).err∧((Q.read 0 b l).err=0→(F.feed p b (F.new p b) l).1.parted=false):=by
 have hj:=just_new hp hb
 have e0:Q.new 0 b=.live (T.new 0 b):=if_pos (by rw [hb];rfl)
 have e:Q.new p b=.live (T.new p b):=if_pos (by rw [hb,decide_eq_true hp];rfl);have hc:(F.new p b).code=0:=by show (Q.new p b).err=0;rw [e];rfl
 obtain ⟨h1,h2⟩:=pass_feed l hj hc e0;have er:Q.read 0 b l=(Q.live (T.new 0 b)).feed 0 b l:=by unfold Q.read;rw [e0]
 rw [er];refine ⟨h1,h2,fun h=>?_⟩;rcases just_feed l hj with ⟨-,h3, -⟩ | ⟨h3, -⟩
 ·exact h3
 ·exact absurd (h2.trans h) h3
end
end Go.Proofs.YtnabkcglnbdfeaaGreatDoor.Flt
namespace Go.Proofs.YtnabkcglnbdfeaaGreatDoor.Can
open Go.RowKit Base Txt Par Pg Flt
def lineR (r:Rec.R):Prop:=∃(old:Bool) (l:List UInt8) (k:Nat),Rq.request (Rq.clOf 0) old l=(r.m.data.toList,r.x.data.toList,k,0)∧r.k=(k:Int)
def hostR (r:Rec.R):Prop:=Frm.hostsV false false r.k (find r.fs Frm.hostN)=0
structure Good (r:Rec.R):Prop where
 line:lineR r
 host:hostR r
 fields:∀f∈r.fs,okF f
 trailers:∀f∈r.ts,okF f
structure On (t:T):Prop where
 line:t.st≠1→lineR t.r
 host:3≤t.st→hostR t.r
 fields:∀f∈t.r.fs,okF f
 trailers:∀f∈t.r.ts,okF f
 out:∀r∈t.out,Good r
section
variable {b:Bd} {t t2:T} {s:List UInt8} {c:UInt8}
end
end Go.Proofs.YtnabkcglnbdfeaaGreatDoor.Can
namespace Go.Proofs.YtnabkcglnbdfeaaGreatDoor.Can
open Go.RowKit Base Txt Par Pg Flt
def chR (r:Rec.R):Prop:=r.ch=decide (find r.fs Frm.teN≠ [])
structure Kn (t:T):Prop where
 no:t.st≤2→t.r.ch=false
 said:3≤t.st→chR t.r
 out:∀r∈t.out,chR r
section
variable {b:Bd} {t t2:T} {s:List UInt8} {c:UInt8}
end
end Go.Proofs.YtnabkcglnbdfeaaGreatDoor.Can
namespace Go.Proofs.YtnabkcglnbdfeaaGreatDoor.Can
open Go.RowKit Base Txt Par Pg
section code
set_option maxHeartbeats 4000000
set_option maxRecDepth 100000
attribute [local go_sem] Base.some_undef
def frameV (m:List UInt8) (body:List UInt8) (ts:List Fld):List Fld:=
 if ts≠ [] then [(Frm.teN,Frm.chunked)] else if body≠ []∨m∈posts then [(Frm.clN,lenV body.length)] else []
theorem flds_one (w:World) (t:TypeId) (n v:ByteArray):Flds (w.alloc (.cells #[.string n,.string v] t)) (some ⟨w.heap.size,0,none⟩) 1 [(n,v)]:=by refine Flds.of_cells rfl (by simp) fun j hj=>?_;rw [cell_of_row _ _ j _ t (0,0) (heap_alloc_new w _)];rcases (by omega:j=0∨j=1) with rfl | rfl<;>rfl
end code
end Go.Proofs.YtnabkcglnbdfeaaGreatDoor.Can
namespace Go.Proofs.YtnabkcglnbdfeaaGreatDoor.Bld
open Go.RowKit
abbrev T:TypeId:=183
abbrev E:TypeId:=5
section code
set_option maxHeartbeats 2000000
set_option maxRecDepth 100000
end code
end Go.Proofs.YtnabkcglnbdfeaaGreatDoor.Bld
namespace Go.Proofs.YtnabkcglnbdfeaaGreatDoor.Fd
open Go.RowKit Base Txt Tgt
abbrev lineB (f:Fld):ByteArray:=((f.1 ++⟨#[58,32]⟩)++f.2) ++⟨#[13,10]⟩
theorem put_take (fs:List Fld) (k:Nat):(put (fs.take k)).length≤(put fs).length:=by
 conv=>rhs;rw [←List.take_append_drop k fs,put_append,List.length_append]
 omega
theorem put_take_line (fs:List Fld) (k:Nat) (h:k<fs.length):(put (fs.take k)).length+(line (fs[k]?.getD dflt)).length≤(put fs).length:=by
 rw [←List.length_append,←put_snoc fs k h]
 exact put_take fs (k+1)
section code
set_option maxHeartbeats 4000000
set_option maxRecDepth 100000
attribute [local go_sem] Base.some_undef
end code
end Go.Proofs.YtnabkcglnbdfeaaGreatDoor.Fd
namespace Go.Proofs.YtnabkcglnbdfeaaGreatDoor.Can
open Go.RowKit Base Txt Par Pg
theorem fields_frame (m:ByteArray) (fs ts:List Fld) (body:List UInt8):fieldsV m fs body ts=hostA (without fs [Frm.clN,Frm.teN])++frameV m.data.toList body ts:=by
 unfold fieldsV frameV;split
 ·rfl
 ·split
  ·rfl
  ·rw [List.append_nil]
section code
set_option maxHeartbeats 4000000
set_option maxRecDepth 100000
attribute [local go_sem] Base.some_undef
end code
end Go.Proofs.YtnabkcglnbdfeaaGreatDoor.Can
namespace Go.Proofs.YtnabkcglnbdfeaaGreatDoor.Can
open Go.RowKit Base Txt Par Pg Flt
def SzF (M:Nat) (f:Fld):Prop:=f.1.size+f.2.size≤M
structure SzR (b:Bd) (r:Rec.R):Prop where
 m:r.m.size≤Ln.mid b.x0
 x:r.x.size≤Ln.mid b.x0
 fs:∀f∈r.fs,SzF (Ln.mid b.x0) f
 ts:∀f∈r.ts,SzF (Ln.mid b.x0) f
 fl:(r.fs.length:Int)≤b.x1
 tl:(r.ts.length:Int)≤b.x5
 body:r.body.length≤1048576
structure Sz (b:Bd) (t:T):Prop where
 most:t.rd.most≤Ln.mid b.x0
 m:t.r.m.size≤Ln.mid b.x0
 x:t.r.x.size≤Ln.mid b.x0
 fs:∀f∈t.r.fs,SzF (Ln.mid b.x0) f
 ts:∀f∈t.r.ts,SzF (Ln.mid b.x0) f
 fl:(t.r.fs.length:Int)≤t.hl∧(t.hl:Int)≤b.x1
 tl:(t.r.ts.length:Int)≤t.bl∧(t.bl:Int)≤b.x5
 out:∀r∈t.out,SzR b r
section
variable {b:Bd} {t t2:T} {s:List UInt8} {c:UInt8}
end
end Go.Proofs.YtnabkcglnbdfeaaGreatDoor.Can
namespace Go.Proofs.YtnabkcglnbdfeaaGreatDoor.Can
open Go.RowKit Base Txt Par Pg
theorem dw_none {q:UInt8→Bool}:∀{l:List UInt8},(∀x∈l,q x=false)→l.dropWhile q=l
 | [],_=>rfl
 | x::l,h=>by rw [List.dropWhile_cons,h x (by simp)];rfl
theorem trim_none {q:UInt8→Bool} {l:List UInt8} (h:∀x∈l,q x=false):trimL q l=l:=by unfold trimL;rw [dw_none h,dw_none (fun x hx=>h x (List.mem_reverse.1 hx)),List.reverse_reverse]
theorem dig_tab:∀k:Fin 256,Num.digitOf 10 (UInt8.ofNat k.val)=true→Oct.oneOf [6] (UInt8.ofNat k.val).toNat=true∧Txt.blank (UInt8.ofNat k.val)=false:=by decide +kernel
theorem dig_ok {x:UInt8} (h:Num.digitOf 10 x=true):Oct.oneOf [6] x.toNat=true∧Txt.blank x=false:=by have:=dig_tab ⟨x.toNat,x.toNat_lt⟩;simp only [UInt8.ofNat_toNat] at this;exact this h
theorem len_ok (n:Nat):okF (Frm.clN,lenV n):=by
 have hd:∀x∈Num.spell 10 n,Num.digitOf 10 x=true:=List.all_eq_true.1 (Num.spell_all (b:=10) (by decide) (by decide) n);have e:(lenV n).data.toList=Num.spell 10 n:=by simp [lenV,ba]
 show Fd.right Frm.clN.data.toList (lenV n).data.toList=true;rw [e];unfold Fd.right;rw [show Oct.allOf [6] (Num.spell 10 n)=true from List.all_eq_true.2 fun x hx=>(dig_ok (hd x hx)).1,decide_eq_true (trim_none fun x hx=>(dig_ok (hd x hx)).2)];decide +kernel
theorem len_size {n:Nat} (h:n≤1048576):(lenV n).size≤21:=by
 show (ba _).size≤21;rw [size_ba]
 exact Num.spell_len (b:=10) (by decide) 21 n (by omega) (by decide)
theorem mem_host {l:List Fld} {f:Fld} (h:f∈hostA l):f∈l∨f=(Frm.hostN,localV):=by
 unfold hostA at h;split at h
 ·rcases List.mem_cons.1 h with h | h
  ·exact .inr h
  ·exact .inl h
 ·exact .inl h
theorem mem_fields {m:ByteArray} {fs ts:List Fld} {body:List UInt8} {f:Fld} (h:f∈fieldsV m fs body ts):f∈fs∨f=(Frm.hostN,localV)∨f=(Frm.teN,Frm.chunked)∨f=(Frm.clN,lenV body.length):=by
 have key:f∈hostA (without fs [Frm.clN,Frm.teN])→f∈fs∨f=(Frm.hostN,localV):=fun h=>(mem_host h).imp_left fun h=>(List.mem_filter.1 h).1;unfold fieldsV at h;split at h
 ·rcases List.mem_append.1 h with h | h
  ·exact (key h).imp_right .inl
  ·exact .inr (.inr (.inl (List.mem_singleton.1 h)))
 ·split at h
  ·rcases List.mem_append.1 h with h | h
   ·exact (key h).imp_right .inl
   ·exact .inr (.inr (.inr (List.mem_singleton.1 h)))
  ·exact (key h).imp_right .inl
theorem fields_len (m:ByteArray) (fs ts:List Fld) (body:List UInt8):(fieldsV m fs body ts).length≤fs.length+2:=by
 have h1:(hostA (without fs [Frm.clN,Frm.teN])).length≤fs.length+1:=by
  have:(without fs [Frm.clN,Frm.teN]).length≤fs.length:=List.length_filter_le _ _;unfold hostA;split
  ·simp;omega
  ·omega
 unfold fieldsV;split
 ·simp;omega
 ·split
  ·simp;omega
  ·omega
theorem put_le {M:Nat}:∀{l:List Fld},(∀f∈l,(bare f).length≤M)→(Fd.put l).length≤(M+2)*l.length
 | [],_=>by simp [Fd.put]
 | f::l,h=>by
   have h1:=h f (by simp)
   have h2:=put_le (l:=l) fun g hg=>h g (by simp [hg]);have e:Fd.put (f::l)=(bare f ++ [13,10])++Fd.put l:=by rw [←line_bare];rfl
   rw [e];simp only [List.length_append,List.length_cons,List.length_nil,Nat.mul_succ] at h2 ⊢;omega
theorem bare_len (f:Fld):(bare f).length=f.1.size+f.2.size+2:=by
 unfold bare;simp only [List.length_append,List.length_cons];show f.1.data.toList.length+(f.2.data.toList.length+1+1)= _;have h1:f.1.data.toList.length=f.1.size:=by simp
 have h2:f.2.data.toList.length=f.2.size:=by simp
 omega
theorem okH_of {r:Rec.R} (h:Good r):okH r.fs:=by
 obtain ⟨old,l,k,hq,hk⟩:=h.line;have hh:=h.host;unfold hostR Frm.hostsV at hh;unfold okH;rcases List.eq_nil_or_concat (find r.fs Frm.hostN) with h0 | ⟨a,y,h0⟩
 ·exact .inl h0
 ·right;unfold Frm.hostsV;split at hh
  ·exact absurd hh (by decide)
  ·rename_i h1;have h2:decide (1<(find r.fs Frm.hostN).length)=false:=by
    cases e:decide (1<(find r.fs Frm.hostN).length) with
    | false=>rfl
    | true=>rw [e] at h1;simp at h1
   have h3:decide ((find r.fs Frm.hostN).length=0)=false:=by rw [h0];simp
   rw [h2,h3];exact hh
theorem hex_tab:∀k:Fin 256,Num.digitOf 16 (UInt8.ofNat k.val)=true→UInt8.ofNat k.val≠59∧UInt8.ofNat k.val≠10∧UInt8.ofNat k.val≠13:=by decide +kernel
theorem hex_ok {x:UInt8} (h:Num.digitOf 16 x=true):x≠59∧x≠10∧x≠13:=by have:=hex_tab ⟨x.toNat,x.toNat_lt⟩;simp only [UInt8.ofNat_toNat] at this;exact this h
theorem size_spell {n:Nat} {ext body:Int} (h0:0≤body) (h:(n:Int)≤body):Chk.sizeV (Qk.has 0 27) (Qk.has 0 28) ext body (Num.spell 16 n)=((n:Int),0):=by have hd:∀x∈Num.spell 16 n,Num.digitOf 16 x=true:=List.all_eq_true.1 (Num.spell_all (b:=16) (by decide) (by decide) n);have hc:Tgt.cutAt 59 (Num.spell 16 n)=(Num.spell 16 n,[],false):=Tgt.cutAt_none 59 _ fun hm=>(hex_ok (hd 59 hm)).1 rfl;have h9:=Num.read_spell (b:=16) (by decide) (by decide) n 0 body h0;rw [if_pos h] at h9;have h8:Num.readOf 16 body (Num.spell 16 n)=((n:Int),0):=h9;unfold Chk.sizeV Chk.sizeL Chk.extL;rw [none0,none0,hc];show (if Chk.isx ext []=true then Chk.numV (Num.readOf 16 body (Num.spell 16 n)) else (0,400))= _;rw [if_pos (show Chk.isx ext []=true from rfl),h8];rfl
theorem spell_plain (n:Nat):∀c∈Num.spell 16 n,c≠10∧c≠13:=fun c hc=>(hex_ok (List.all_eq_true.1 (Num.spell_all (b:=16) (by decide) (by decide) n) c hc)).2
end Go.Proofs.YtnabkcglnbdfeaaGreatDoor.Can
namespace Go.Proofs.YtnabkcglnbdfeaaGreatDoor.By
open Go.RowKit Base
abbrev bv (c:UInt8):Value:=.int .u8 (c.toNat:Int)
def Buf (w:World) (B:Nat) (v:Value) (xs:List UInt8):Prop:=∃g cap,v=.slice (some ⟨g,0,none⟩) xs.length cap∧B≤g∧g<w.heap.size∧xs.length≤cap∧(∀j (h:j<xs.length),w.cell? ⟨g,j,none⟩=some (bv xs[j]))∧
 ∀j,xs.length≤j→j<cap→(w.cell? ⟨g,j,none⟩).isSome=true∧w.frozen? ⟨g,j,none⟩=false
def Rd (w:World) (v:Value) (ys:List UInt8):Prop:=∃a c,v=.slice a ys.length c∧Nums .u8 w a ys.length (ys.map fun c=>(c.toNat:Int))
theorem row_clear {w:World} {g:Nat} {cs:Array Value} {ty:TypeId} (h:w.heap[g]?=some (.cells cs ty (0,0))) (k:Nat):w.frozen? ⟨g,k,none⟩=false:=by simp [World.frozen?,h]
theorem lt_alloc (w:World) (o:Obj):w.heap.size<(w.drew.alloc o).heap.size:=by
 have h:w.drew.heap.size<(w.drew.alloc o).heap.size:=by simp
 exact h
section
variable {w w':World} {B:Nat} {v x:Value} {xs ys:List UInt8}
theorem Buf.below (h:Buf w B v xs) (hb:Below w.heap.size w w'):Buf w' B v xs:=by obtain ⟨g,cap,e,h1,h2,h3,h4,h5⟩:=h;exact ⟨g,cap,e,h1,Nat.lt_of_lt_of_le h2 hb.size,h3,fun j hj=>(hb.cell (p:=⟨g,j,none⟩) h2).trans (h4 j hj),fun j k1 k2=>⟨by rw [hb.cell (p:=⟨g,j,none⟩) h2];exact (h5 j k1 k2).1,by rw [hb.frozen (p:=⟨g,j,none⟩) h2];exact (h5 j k1 k2).2⟩⟩
theorem u8_info:(Tryz.prog.info? 5).map (fun i=>(i.zero,i.size,i.bytes))=some (some (.int .u8 0),1,1):=by kernel_rfl
theorem Rd.src (h:Rd w x ys):Src Tryz.prog 1 22 x ys.length (ys.map bv) w:=by
 obtain ⟨a,c,e,hl,hc⟩:=h;subst e;rcases Nat.eq_zero_or_pos ys.length with h0 | h0
 ·have:ys= []:=List.eq_nil_of_length_eq_zero h0;subst this;cases a with
  | none=>exact Src.ofNil w Tryz.underlying22 c
  | some a=>exact Src.ofSlice w Tryz.underlying22 a 0 c [] rfl (fun j u hu=>by cases hu) (fun u hu=>by cases hu)
 ·obtain ⟨b,off,rfl,hlt,hcc⟩:=hc h0
  refine Src.ofSlice w Tryz.underlying22 _ _ c _ (by simp) (fun j u hu=>?_) (fun u hu=>?_)
  ·have hj:j<ys.length:=by have:=(List.getElem?_eq_some_iff.1 hu).1;simpa using this
   have e:(⟨b,off,none⟩:Addr).add j=⟨b,off+j,none⟩:=by unfold Addr.add;by_cases h:j=0<;>simp [h]
   rw [e,hcc j hj];rw [List.getElem?_map,List.getElem?_eq_getElem hj] at hu;simp [hj] at hu ⊢;exact hu
  ·obtain ⟨c, -,rfl⟩:=List.mem_map.1 hu;rfl
theorem str_src (s:ByteArray):Src Tryz.prog 1 9 (.string s) s.data.toList.length (s.data.toList.map bv) w:=by have h:=Src.ofString (P:=Tryz.prog) (w:=w) (tx:=9) Tryz.underlying9 s;have e:s.data.toList.length=s.size:=Array.length_toList;have e2:byteCells s=s.data.toList.map bv:=rfl;rw [e,←e2];exact h
theorem Buf.mono (h:Buf w B v xs) {B':Nat} (hB:B'≤B):Buf w B' v xs:=by obtain ⟨g,cap,rfl,h1,h2⟩:=h;exact ⟨g,cap,rfl,Nat.le_trans hB h1,h2⟩
theorem buf_grow {g cap:Nat} (h4:∀j (h:j<xs.length),w.cell? ⟨g,j,none⟩=some (bv xs[j])) (tx:TypeId) (hs:Src Tryz.prog 1 tx x ys.length (ys.map bv) w) (hlen:xs.length+ys.length≤1000000000) (hr:cap<xs.length+ys.length) :
 ∃v' w',(Builtin.append_ #[22,tx] 22 #[.slice (some ⟨g,0,none⟩) xs.length cap,x]).run Tryz.prog w=.ok v' w'∧Buf w' w.heap.size v' (xs++ys)∧Below w.heap.size w w':=by
 obtain ⟨i,hi,hzz⟩:=Option.map_eq_some_iff.1 u8_info;simp only [Prod.mk.injEq] at hzz;obtain ⟨hz,hsz,hby⟩:=hzz;have hml:(ys.map bv).length=ys.length:=by simp
 have hold:(Builtin.firstCells i.size xs.length (.slice (some ⟨g,0,none⟩) xs.length cap)).run Tryz.prog w.drew=.ok (xs.map bv).toArray w.drew:=by
  rw [hsz]
  refine run_firstCells_some w.drew 1 xs.length ⟨g,0,none⟩ xs.length cap (xs.map bv) (by simp) (fun j u hu=>?_);have hj:j<xs.length:=by have:=(List.getElem?_eq_some_iff.1 hu).1;simpa using this
  have e:(⟨g,0,none⟩:Addr).add j=⟨g,j,none⟩:=by unfold Addr.add;by_cases h:j=0<;>simp [h]
  rw [e];show w.cell? ⟨g,j,none⟩=some u;rw [h4 j hj];rw [List.getElem?_map,List.getElem?_eq_getElem hj] at hu;exact hu
 have hrun:=run_append_grow_src (P:=Tryz.prog) (w:=w) 22 tx 22 5 i (.int .u8 0) Tryz.underlying22 hi hz (some ⟨g,0,none⟩) xs.length cap (xs.map bv) hold x ys.length (ys.map bv) (by rw [hsz];exact hs) hr (by omega)
  (by rw [hby];have:=nextslicecap_le hr;omega)
 have hgc:=grownCap_ge w (xs.length+ys.length) cap 5;refine ⟨_,_,hrun,⟨w.heap.size,_,by rw [List.length_append],Nat.le_refl _,lt_alloc w _,by rw [List.length_append];exact hgc,fun j hj=>?_,fun j k1 k2=>?_⟩,(Below.refl _ _).drew.alloc (Nat.le_refl _) _⟩
 ·have hrow:=cell_of_row (w.drew.alloc (.cells (((xs.map bv)++(ys.map bv)).toArray++Builtin.zeroCells (Value.int .u8 0).cells (grownCap w (xs.length+ys.length) cap 5-(xs.length+ys.length))) 5)) w.heap.size j _ 5 (0,0) (heap_alloc_new w.drew _);rw [hrow,Array.getElem?_append_left (by rw [List.length_append] at hj;simpa using hj),List.getElem?_toArray,←List.map_append,List.getElem?_map,List.getElem?_eq_getElem hj];rfl
 ·have hrow:=cell_of_row (w.drew.alloc (.cells (((xs.map bv)++(ys.map bv)).toArray++Builtin.zeroCells (Value.int .u8 0).cells (grownCap w (xs.length+ys.length) cap 5-(xs.length+ys.length))) 5)) w.heap.size j _ 5 (0,0) (heap_alloc_new w.drew _);refine ⟨?_,row_clear (heap_alloc_new w.drew _) j⟩;rw [hrow];have hzl:(Builtin.zeroCells (Value.int .u8 0).cells (grownCap w (xs.length+ys.length) cap 5-(xs.length+ys.length))).size=grownCap w (xs.length+ys.length) cap 5-(xs.length+ys.length):=by
   have e1:(Value.int IntKind.u8 0).cells.size=1:=rfl;simp [Builtin.zeroCells,e1]
  rw [List.length_append] at k1;rw [Array.getElem?_eq_getElem (by rw [Array.size_append,hzl];simp;omega)];rfl
theorem Buf.append (h:Buf w B v xs) (tx:TypeId) (hs:Src Tryz.prog 1 tx x ys.length (ys.map bv) w) (hlen:xs.length+ys.length≤1000000000) (hB:B≤w.heap.size) :
 ∃v' w',(Builtin.append_ #[22,tx] 22 #[v,x]).run Tryz.prog w=.ok v' w'∧Buf w' B v' (xs++ys)∧Below B w w':=by
 obtain ⟨g,cap,rfl,h1,h2,h3,h4,h5⟩:=h;obtain ⟨i,hi,hzz⟩:=Option.map_eq_some_iff.1 u8_info;simp only [Prod.mk.injEq] at hzz;obtain ⟨hz,hsz,hby⟩:=hzz;have hml:(ys.map bv).length=ys.length:=by simp
 rcases Nat.lt_or_ge cap (xs.length+ys.length) with hr | hr
 ·obtain ⟨v',w',hrun,hb,hbw⟩:=buf_grow h4 tx hs hlen hr;exact ⟨v',w',hrun,hb.mono hB,hbw.mono hB⟩
 ·have hrun:=run_append_room_src (P:=Tryz.prog) (w:=w) 22 tx 22 5 i Tryz.underlying22 hi g 0 xs.length cap x ys.length (ys.map bv) (by rw [hsz];exact hs) hr
   (fun j hj=>by rw [hsz,Nat.zero_add,Nat.mul_one];rw [hml] at hj;exact (h5 (xs.length+j) (by omega) (by omega)).1)
   (fun j hj=>by rw [hsz,Nat.zero_add,Nat.mul_one];rw [hml] at hj;exact (h5 (xs.length+j) (by omega) (by omega)).2)
  rw [hsz,Nat.zero_add,Nat.mul_one] at hrun;have hbw:Below B w (w.setCells g xs.length (ys.map bv)):=Lib.below_setCells_w h1 _ _ _;refine ⟨_,_,hrun,⟨g,cap,by rw [List.length_append],h1,Nat.lt_of_lt_of_le h2 hbw.size,by rw [List.length_append];exact hr,fun j hj=>?_,fun j k1 k2=>?_⟩,hbw⟩
  ·rcases Nat.lt_or_ge j xs.length with hjx | hjx
   ·rw [World.cell?_setCells_out g _ _ _ _ (fun _ _=>.inl hjx),h4 j hjx,List.getElem_append_left hjx]
   ·have hj':j-xs.length<(ys.map bv).length:=by rw [hml];rw [List.length_append] at hj;omega
    have:=World.cell?_setCells_in g (ys.map bv) xs.length w (fun k hk=>by rw [hml] at hk;exact (h5 (xs.length+k) (by omega) (by omega)).1) (j-xs.length) hj';rw [show xs.length+(j-xs.length)=j by omega] at this;rw [this,List.getElem_append_right hjx];simp
  ·rw [List.length_append] at k1;refine ⟨?_,by rw [World.frozen?_setCells];exact (h5 j (by omega) k2).2⟩;rw [World.cell?_setCells_out g _ _ _ _ (fun _ _=>.inr (by rw [hml];exact k1))];exact (h5 j (by omega) k2).1
theorem exec_append {P:Program} {o:Oper} {ev:Operand→Value} {v u v':Value} (s z:Operand) (t tx:TypeId) (ho:o.op=.call {callee:=.builtin .append,args:=#[s,z],argTypes:=#[t,tx]}) (hs:ev s=v) (hx:ev z=u)
 (hr:(Builtin.append_ #[t,tx] o.type #[v,u]).run P w=.ok v' w'):(execOp ev o).run P w=.ok (.value v') w':=by
 unfold execOp;simp only [ho,resolve,invoke,builtin,Sem.run_bind,Sem.run_pure,Result.andThen_ok,List.map_toArray,List.map_cons,List.map_nil,hs,hx,hr]
theorem oper_append {P:Program} {o:Oper} {a:Act} {K:Act→World→Prop} {Q:Exit→Act→World→Prop} {v u v':Value} (s z:Operand) (t tx:TypeId) (ho:o.op=.call {callee:=.builtin .append,args:=#[s,z],argTypes:=#[t,tx]}) (hs:a.eval s=v) (hx:a.eval z=u)
 (hr:(Builtin.append_ #[t,tx] o.type #[v,u]).run P w=.ok v' w') (h:K (a.put o.dst v') w'):o.wp P a w K Q:=by
 unfold Oper.wp;rw [exec_append s z t tx ho hs hx hr,Oper.upon_value];exact h
end
end Go.Proofs.YtnabkcglnbdfeaaGreatDoor.By
namespace Go.Proofs.YtnabkcglnbdfeaaGreatDoor.Can
open Go.RowKit Base Txt Par Pg
def putR (r:Rec.R):List UInt8:=putV r.m.data.toList r.x.data.toList r.fs r.body r.ts
def fieldsR (r:Rec.R):List Fld:=fieldsV r.m r.fs r.body r.ts
structure Sm (r:Rec.R):Prop where
 m:r.m.size≤1000000
 x:r.x.size≤1000000
 fl:r.fs.length≤200
 fs:∀f∈r.fs,f.1.size+f.2.size≤200000
 body:r.body.length≤1048576
 tl:r.ts.length≤200
 ts:∀f∈r.ts,f.1.size+f.2.size≤200000
section
variable {r:Rec.R}
theorem Sm.fields (h:Sm r):(∀f∈fieldsR r,f.1.size+f.2.size≤200000)∧(fieldsR r).length≤202:=by
 refine ⟨fun f hf=>?_,by have:=fields_len r.m r.fs r.ts r.body;have:=h.fl;unfold fieldsR;omega⟩;rcases mem_fields hf with h1 | rfl | rfl | rfl
 ·exact h.fs f h1
 ·decide
 ·decide
 ·have:=len_size h.body;have e:Frm.clN.size=14:=by decide
  show Frm.clN.size+(lenV r.body.length).size≤200000;omega
theorem put_size {l:List Fld} {n:Nat} (h:∀f∈l,f.1.size+f.2.size≤200000) (hn:l.length≤n):(Fd.put l).length≤200004*n:=by
 have h1:=put_le (M:=200002) (l:=l) fun f hf=>by rw [bare_len];have:=h f hf;omega
 have h2:200004*l.length≤200004*n:=Nat.mul_le_mul_left _ hn;omega
theorem chunk_size (h:Sm r):(Chk.putL [r.body]).length≤1048700:=by
 have e:Chk.putL [r.body]=Chk.chunkL r.body ++ [48,13,10]:=by unfold Chk.putL;simp
 have hb:=h.body
 have:=Num.spell_len (b:=16) (by decide) 21 r.body.length (by omega) (by decide);rw [e];unfold Chk.chunkL;split<;>simp only [List.length_append,List.length_cons,List.length_nil]<;>omega
theorem Sm.put (h:Sm r):(putR r).length≤100000000:=by
 obtain ⟨h1,h2⟩:=h.fields;have h3:=put_size h1 h2;have h4:=put_size h.ts h.tl;have h5:=chunk_size h;have hm:=h.m;have hx:=h.x;have hb:=h.body;have em:r.m.data.toList.length=r.m.size:=by simp
 have ex:r.x.data.toList.length=r.x.size:=by simp
 have ef:fieldsV (ba r.m.data.toList) r.fs r.body r.ts=fieldsR r:=rfl;unfold putR putV reqL;rw [ef];split<;>simp only [List.length_append,List.length_cons,List.length_nil]<;>omega
end
theorem lines_one {w:World} {v:Value} {y:List UInt8} (h:By.Rd w v y) (t:TypeId):Txt.Lines (w.alloc (.cells #[v] t)) (some ⟨w.heap.size,0,none⟩) 1 [y]:=by
 obtain ⟨a,c,rfl,n⟩:=h;have hb:Below w.heap.size w (w.alloc (.cells #[.slice a y.length c] t)):=(Below.refl _ _).alloc (Nat.le_refl _) _;refine ⟨rfl,fun _=>⟨w.heap.size,0,rfl,by simp,fun k hk=>?_⟩⟩;obtain rfl:k=0:=by omega
 exact ⟨a,c,(cell_of_row (w.alloc _) w.heap.size 0 _ t (0,0) (heap_alloc_new w _)).trans rfl,n.below hb⟩
section code
set_option maxHeartbeats 4000000
set_option maxRecDepth 100000
attribute [local go_sem] Base.some_undef
theorem conv_buf (s:ByteArray) (w:World):∃W V,(convert 9 22 (.string s)).run Tryz.prog w=.ok V W∧By.Buf W w.heap.size V s.data.toList∧Below w.heap.size w W:=by
 have hcv:=run_bytes_of_string (P:=Tryz.prog) w 9 22 5 s Tryz.underlying9 Tryz.underlying22 Tryz.underlying5;have hg:=grownCap_ge w s.size 0 5;have hl:s.data.toList.length=s.size:=by simp
 have hrs:(bytesRow s (grownCap w s.size 0 5)).size=grownCap w s.size 0 5:=by unfold bytesRow;have e:s.data.size=s.size:=rfl;rw [Array.size_append,Array.size_map,Array.size_replicate,e];omega
 refine ⟨_,_,hcv,⟨w.heap.size,_,by rw [hl],Nat.le_refl _,by simp,by rw [hl];exact hg,fun j hj=>?_,fun j h1 h2=>?_⟩,(Below.refl _ _).drew.alloc (Nat.le_refl _) _⟩
 ·have hj':j<s.data.size:=by simpa using hj
  exact (World.cell?_alloc_mark w.drew _ _ _ j).trans (bytesRow_at s _ j hj')
 ·refine ⟨?_,(World.frozen?_alloc_mark w.drew _ _ _ _ j).trans ?_⟩
  ·have e:=World.cell?_alloc_mark w.drew (bytesRow s (grownCap w s.size 0 5)) 5 ((bytesRow s (grownCap w s.size 0 5)).size,(bytesRow s (grownCap w s.size 0 5)).size+1) j;refine (congrArg Option.isSome e).trans ?_;rw [Array.getElem?_eq_getElem (by rw [hrs];exact h2)];rfl
  ·have:¬(bytesRow s (grownCap w s.size 0 5)).size≤j:=by rw [hrs];omega
   simp [this]
theorem wp_append2 {P:Program} {w:World} {ops:Array Oper} {rest:List Oper} {o:Oper} {a:Act} {Q:Exit→Act→World→Prop} (hw:Region.wanted o (yielded ops a.tmps)=true) (s x:Operand) (t tx:TypeId) (ho:o.op=.call {callee:=.builtin .append,args:=#[s,x],argTypes:=#[t,tx]}) (v u:Value) (hs:a.eval s=v) (hx:a.eval x=u) (v':Value) (w':World)
 (hr:(Builtin.append_ #[t,tx] o.type #[v,u]).run P w=.ok v' w') (h:wpList P ops Q rest (a.put o.dst v') w'):wpList P ops Q (o::rest) a w:=by
 unfold wpList;rw [if_pos hw];left;exact By.oper_append s x t tx ho hs hx hr h
end code
end Go.Proofs.YtnabkcglnbdfeaaGreatDoor.Can
namespace Go.Proofs.YtnabkcglnbdfeaaGreatDoor.Can
open Go.RowKit Base Txt Par Pg
def wrR (r:Rec.R):Rec.R:=⟨r.m,r.x,1,fieldsR r,decide (r.ts≠ []),r.body,r.ts⟩
def rightV (b:Bd) (r:Rec.R):Bool:=(Q.read 0 b (putR r)).clean&&Rec.all (Q.read 0 b (putR r)).out [wrR r]
theorem Sm.fit {r:Rec.R} (h:Sm r):Rec.Fit (wrR r):=by
 obtain ⟨h1,h2⟩:=h.fields;have hm:=h.m;have hx:=h.x;have hb:=h.body;have ht:=h.tl;refine ⟨?_,?_,?_,fun f hf=>?_,?_,?_,fun f hf=>?_⟩
 ·show r.m.size≤_;omega
 ·show r.x.size≤_;omega
 ·show (fieldsR r).length≤_;omega
 ·have:=h1 f hf;omega
 ·show r.body.length≤_;omega
 ·show r.ts.length≤_;omega
 ·have:=h.ts f hf;omega
def BtsF (l:List UInt8):Each.Fact:=fun v w=>∃a c,v=.slice a l.length c∧Bts [] w a l
def SaidF (out:List Rec.R):Each.Fact:=fun v w=>Said w v out
def TupF (e:Nat) (cl:Bool) (out:List Rec.R):Each.Fact:=fun v w=>∃o,v=.tuple #[o,.int .i64 (e:Int),.bool cl]∧Said w o out
section code
set_option maxHeartbeats 4000000
set_option maxRecDepth 100000
attribute [local go_sem] Base.some_undef
end code
end Go.Proofs.YtnabkcglnbdfeaaGreatDoor.Can
namespace Go.Proofs.YtnabkcglnbdfeaaGreatDoor.Can
open Go.RowKit Base Txt Par Pg
end Go.Proofs.YtnabkcglnbdfeaaGreatDoor.Can
namespace Go.Proofs.YtnabkcglnbdfeaaGreatDoor.Can
open Go.RowKit Base Txt Par Pg
def neatM:List ByteArray:= [⟨#[71,69,84]⟩,⟨#[80,79,83,84]⟩,⟨#[80,85,84]⟩,⟨#[68,69,76,69,84,69]⟩,⟨#[72,69,65,68]⟩]
def neatX:List ByteArray:= [⟨#[47]⟩,⟨#[47,97]⟩,⟨#[47,97,47,98,63,120,61,49]⟩,⟨#[47,118,49,47,105,116,101,109,47,55]⟩,⟨#[47,115,116,97,116,105,99,47,99,115,115,47,109,46,99,115,115]⟩,⟨#[104,116,116,112,58,47,47,97,47,113]⟩]
def neatH:List ByteArray:= [⟨#[97]⟩,⟨#[104,46,111,114,103]⟩]
def neatF:List Fld:= [(⟨#[65]⟩,⟨#[98]⟩),(⟨#[88,45,89]⟩,⟨#[122]⟩),(⟨#[65,99,99,101,112,116]⟩,⟨#[42,47,42]⟩),(⟨#[67,111,111,107,105,101]⟩,⟨#[97,61,49]⟩)]
def neatB:List UInt8:= [48,49,50,51,52,53,54,55,56,57,97,98,99,100,101,102]
def neatT:Fld:=(⟨#[84]⟩,⟨#[117]⟩)
structure Neat (r:Rec.R):Prop where
 m:r.m∈neatM
 x:r.x∈neatX
 k:r.k=1
 fs:∃h∈neatH,∃gs:List Fld,r.fs=(Frm.hostN,h)::gs∧gs.length≤2∧∀g∈gs,g∈neatF
 body:∃n,n≤15∧r.body=neatB.take n
 ts:r.ts= []∨r.ts= [neatT]
theorem neat_line:∀(i:Fin 5) (j:Fin 6),Rq.request (Rq.clOf 0) true (reqL (neatM[i.val]).data.toList (neatX[j.val]).data.toList)=((neatM[i.val]).data.toList,(neatX[j.val]).data.toList,1,0)∧(neatM[i.val]).size≤60∧(neatX[j.val]).size≤60:=by decide +kernel
theorem neat_fields:∀i:Fin 4,Fd.right (neatF[i.val]).1.data.toList (neatF[i.val]).2.data.toList=true∧(neatF[i.val]).1.size+(neatF[i.val]).2.size≤60∧same (neatF[i.val]).1 Frm.hostN=false:=by decide +kernel
theorem neat_hosts:∀i:Fin 2,Fd.right Frm.hostN.data.toList (neatH[i.val]).data.toList=true∧(neatH[i.val]).size≤40∧Frm.hostsV false false 1 [neatH[i.val]]=0:=by decide +kernel
theorem neat_trail:Fd.right neatT.1.data.toList neatT.2.data.toList=true∧neatT.1.size+neatT.2.size≤60:=by decide +kernel
theorem mem_at {α:Type} {l:List α} {a:α} (h:a∈l):∃i,∃hi:i<l.length,l[i]=a:=List.getElem_of_mem h
section
variable {r:Rec.R}
theorem Neat.line (h:Neat r):Rq.request (Rq.clOf 0) true (reqL r.m.data.toList r.x.data.toList)=(r.m.data.toList,r.x.data.toList,1,0)∧r.m.size≤60∧r.x.size≤60:=by obtain ⟨i,hi,e1⟩:=mem_at h.m;obtain ⟨j,hj,e2⟩:=mem_at h.x;have:=neat_line ⟨i,hi⟩ ⟨j,hj⟩;simp only [e1,e2] at this;exact this
theorem Neat.field (h:Neat r):∀f∈r.fs,okF f∧f.1.size+f.2.size≤60:=by
 obtain ⟨v,hv,gs,e, -,hg⟩:=h.fs;intro f hf;rw [e] at hf;rcases List.mem_cons.1 hf with rfl | hf
 ·obtain ⟨i,hi,e1⟩:=mem_at hv;have:=neat_hosts ⟨i,hi⟩;simp only [e1] at this
  exact ⟨this.1,by show Frm.hostN.size+v.size≤60;have e:Frm.hostN.size=4:=by decide
                   omega⟩
 ·obtain ⟨i,hi,e1⟩:=mem_at (hg f hf);have:=neat_fields ⟨i,hi⟩;simp only [e1] at this;exact ⟨this.1,this.2.1⟩
theorem Neat.good (h:Neat r):Good r:=by
 have hl:=h.line;refine ⟨⟨true,_,1,hl.1,by rw [h.k];rfl⟩,?_,fun f hf=>(h.field f hf).1,fun f hf=>?_⟩
 ·obtain ⟨v,hv,gs,e, -,hg⟩:=h.fs;unfold hostR;rw [h.k,e];have h0:find gs Frm.hostN= []:=by
   unfold find;rw [List.map_eq_nil_iff,List.filter_eq_nil_iff];intro g hm
   obtain ⟨i,hi,e1⟩:=mem_at (hg g hm);have:=neat_fields ⟨i,hi⟩;simp only [e1] at this;rw [this.2.2];simp
  have e2:find ((Frm.hostN,v)::gs) Frm.hostN= [v]:=by
   have e3:find ((Frm.hostN,v)::gs) Frm.hostN=v::find gs Frm.hostN:=by unfold find;rw [List.filter_cons,if_pos (show same Frm.hostN Frm.hostN=true by decide +kernel)];rfl
   rw [e3,h0]
  rw [e2];obtain ⟨i,hi,e1⟩:=mem_at hv;have:=neat_hosts ⟨i,hi⟩;simp only [e1] at this;exact this.2.2
 ·rcases h.ts with e | e
  ·rw [e] at hf;cases hf
  ·rw [e] at hf;rw [List.mem_singleton.1 hf];exact neat_trail.1
theorem Neat.size (h:Neat r) {b:Bd} (h0:1024≤Ln.mid b.x0) (h1:4≤b.x1) (h5:1≤b.x5):SzR b r:=by
 have hl:=h.line;refine ⟨by omega,by omega,fun f hf=>?_,fun f hf=>?_,?_,?_,?_⟩
 ·have:=(h.field f hf).2;unfold SzF;omega
 ·rcases h.ts with e | e
  ·rw [e] at hf;cases hf
  ·rw [e] at hf;rw [List.mem_singleton.1 hf];have:=neat_trail.2;unfold SzF;omega
 ·obtain ⟨v,hv,gs,e,hg, -⟩:=h.fs;rw [e,List.length_cons];omega
 ·rcases h.ts with e | e
  ·rw [e,List.length_nil];omega
  ·rw [e,List.length_singleton];omega
 ·obtain ⟨n,hn,e⟩:=h.body;rw [e,List.length_take];omega
end
end Go.Proofs.YtnabkcglnbdfeaaGreatDoor.Can
namespace Go.Proofs.YtnabkcglnbdfeaaGreatDoor.Can
open Go.RowKit Base Txt Par Pg
abbrev wide:Bd:=⟨4096,100,65536,1048576,256,100,16,1000,true,true⟩
theorem usual_right:usual.right=true:=by decide
theorem usual_mid:Ln.mid usual.x0=1024:=by decide
section
variable {r:Rec.R}
theorem neat_fits {b:Bd} (h:Neat r) (w0:1024≤Ln.mid b.x0) (w1:32≤b.x1) (w2:8192≤b.x2) (w3:65536≤b.x3) (w5:8≤b.x5) (wc:b.ch=true):Fits b r.m.data.toList r.x.data.toList r.fs r.body r.ts:=by
 have hg:=h.good;obtain ⟨hl,hm,hx⟩:=h.line
 obtain ⟨q1,q2, -, -⟩:=request_again (old':=b.od) (by rw [Rq.clOf_zero] at hl;exact hl);have em:r.m.data.toList.length=r.m.size:=by simp
 have ex:r.x.data.toList.length=r.x.size:=by simp
 have hlen:(reqL r.m.data.toList r.x.data.toList).length≤130:=by unfold reqL;simp only [List.length_append,List.length_cons,List.length_nil];omega
 have hbd:r.body.length≤15:=by obtain ⟨n,hn,e⟩:=h.body;rw [e,List.length_take];omega
 have hfl:r.fs.length≤3:=by obtain ⟨v,hv,gs,e,hn, -⟩:=h.fs;rw [e,List.length_cons];omega
 have htl:r.ts.length≤1:=by
  rcases h.ts with e | e
  ·rw [e,List.length_nil];omega
  ·rw [e,List.length_singleton];omega
 have hF:∀f∈fieldsV (ba r.m.data.toList) r.fs r.body r.ts,okF f∧(bare f).length≤62:=by
  intro f hf;rcases mem_fields hf with h1 | rfl | rfl | rfl
  ·have:=(h.field f h1).2;exact ⟨hg.fields f h1,by rw [bare_len];omega⟩
  ·exact ⟨by unfold okF;decide +kernel,by rw [bare_len];decide⟩
  ·exact ⟨by unfold okF;decide +kernel,by rw [bare_len];decide⟩
  ·refine ⟨len_ok _,?_⟩;rw [bare_len]
   have:=len_size (n:=r.body.length) (by omega);show Frm.clN.size+(lenV r.body.length).size+2≤62;have e:Frm.clN.size=14:=by decide
   omega
 have hT:∀f∈r.ts,okF f∧(bare f).length≤62:=fun f hm=>⟨hg.trailers f hm,by
  rcases h.ts with e | e
  ·rw [e] at hm;cases hm
  ·rw [e] at hm;rw [List.mem_singleton.1 hm,bare_len];have:=neat_trail.2
   omega⟩
 have hn:=fields_len (ba r.m.data.toList) r.fs r.ts r.body;have p1:=put_le (M:=62) fun f hf=>(hF f hf).2;have p2:=put_le (M:=62) fun f hf=>(hT f hf).2
 have p3:(62+2)*(fieldsV (ba r.m.data.toList) r.fs r.body r.ts).length≤(62+2)*5:=Nat.mul_le_mul_left _ (by omega);have p4:(62+2)*r.ts.length≤(62+2)*1:=Nat.mul_le_mul_left _ htl;refine ⟨by rw [Rq.clOf_zero];exact q1,q2,by omega,fun f hf=>⟨(hF f hf).1,by have:=(hF f hf).2;omega⟩,fun f hf=>⟨(hT f hf).1,by have:=(hT f hf).2;omega⟩,by omega,by omega,by omega,by omega,okH_of hg,fun _=>wc,fun _ _=>⟨size_spell (by omega) (by omega),spell_plain _,?_⟩,fun _=>⟨?_,by omega⟩⟩
 ·have:=Num.spell_len (b:=16) (by decide) 21 r.body.length (by omega) (by decide);omega
 ·have:=size_spell (n:=0) (ext:=b.x4) (body:=b.x3) (by omega) (by omega);exact (show Num.spell 16 0= [48] by decide +kernel) ▸ this
theorem wr_form (r:Rec.R):(⟨ba r.m.data.toList,ba r.x.data.toList,1,fieldsV (ba r.m.data.toList) r.fs r.body r.ts,decide (r.ts≠ []),r.body,r.ts⟩:Rec.R)=wrR r:=by rw [ba_back,ba_back];rfl
theorem Neat.sm (h:Neat r):Sm r:=by
 have hs:=h.size (b:=usual) (by decide) (by decide) (by decide);have e:=usual_mid;refine ⟨by have:=hs.m;omega,by have:=hs.x;omega,by have:=hs.fl;show r.fs.length≤200;have e1:usual.x1=32:=rfl;omega,fun f hf=>?_,hs.body,by have:=hs.tl;have e1:usual.x5=8:=rfl;omega,fun f hf=>?_⟩
 ·have:=hs.fs f hf;unfold SzF at this;omega
 ·have:=hs.ts f hf;unfold SzF at this;omega
theorem neat_usual (h:Neat r):Fits usual r.m.data.toList r.x.data.toList r.fs r.body r.ts:=neat_fits h (by decide) (by decide) (by decide) (by decide) (by decide) rfl
structure Came (r:Rec.R):Prop where
 good:Good r
 size:SzR usual r
def sameB (x r:Rec.R):Bool:=decide (x.m=r.m)&&(decide (x.x=r.x)&&(decide (x.k=1)&&(decide (x.body=r.body)&&(decide (x.ts=r.ts)&&decide (x.fs=fieldsR r)))))
end
end Go.Proofs.YtnabkcglnbdfeaaGreatDoor.Can
