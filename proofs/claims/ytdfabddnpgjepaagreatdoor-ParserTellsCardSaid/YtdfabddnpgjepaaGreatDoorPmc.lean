import Derived.Test.YtdfabddnpgjepaaGreatDoorPmb
set_option linter.unusedSimpArgs false
open Array renaming getD_eq_getD_getElem?→Ag,replicate→Aj
open Bool renaming and_eq_true→Ao,false_eq_true→Aw,not_eq_true'→Ay,or_eq_true→Az
open ByteArray renaming empty→A8
open Go.Act renaming put→Ab
open Go.Lib renaming hid→Bx
open Go.Proofs.Tryz renaming prog→EW,underlying22→F0
open Go.Proofs.YtdfabddnpgjepaaGreatDoor.Base renaming below_drewN→Ak,below_step→Al,some_undef→Am
open Go.Proofs.YtdfabddnpgjepaaGreatDoor.Ln renaming own_slice→CT,row_frozen→CV
open Go.Proofs.YtdfabddnpgjepaaGreatDoor.Qk renaming has_any→D3,has→D0
open Go.Proofs.YtdfabddnpgjepaaGreatDoor.Rec renaming Bk→D5,R→D7,wraps→DD
open Go.Proofs.YtdfabddnpgjepaaGreatDoor.Rec.Bk renaming new→D6
open Go.Proofs.YtdfabddnpgjepaaGreatDoor.Tree renaming change→Ec,done→Ed,grow→Ee,put1→Ef,quiet→Eg
open Go.Proofs.YtdfabddnpgjepaaGreatDoor.Txt renaming blank→FK
open Go.Region renaming binds→DE,ready→DG,wanted→DH
open Go.RowKit.Below renaming refl→An
open Go.World renaming ownsRow_nil→FV
open Go.World.ownsRow renaming lt→FU
open List renaming getElem?_cons_succ→BY,getElem?_cons_zero→BZ,getElem?_eq_getElem→Ca,getElem?_map→Cd,getElem?_toArray→Cg,getElem_mem→Ci,length_append→Cr,length_map→Cw,mem_append→C3,mem_cons→C6,mem_of_getElem?→C8,mem_singleton→CB,not_mem_nil→CD,range→CE,setIfInBounds_toArray→CH,set_cons_succ→CJ,set_cons_zero→CK,take_of_length_le→CN
open Nat renaming eq_zero_or_pos→CZ,le_of_lt→Da,le_refl→Db,le_trans→Dd,lt_of_lt_of_le→Df,lt_or_ge→Dg,zero_add→Di,zero_le→Dj
open Option renaming getD_some→Ds,some→Du
open Go.Value renaming int→ZZ,string→ZY,slice→ZX,bool→ZW,pointer→ZV,agg→ZU,tuple→ZT
open Go.IntKind renaming i64→ZS,u8→ZR,u32→ZQ
namespace Go.Proofs.YtdfabddnpgjepaaGreatDoor.Each
open Go.RowKit Base
abbrev Fact:=Value->World->Prop
def Lasts (f:Fact):Prop:=∀v w w',Below w.heap.size w w'->f v w->f v w'
def has (l:List Oper) (fs:List Fact) (ev:Operand->Value) (w:World):List Edge->Prop
 | []=>True
 | e::es=>(if DE .any e=true then (match l[e.on]?,fs[e.on]? with
    | some o,some f=>(match o.dst with
      | some d=>f (ev (.tmp d)) w
      | none=>True)
    | _,_=>True) else True)/\has l fs ev w es
def one (l:List Oper) (fs:List Fact) (ev:Operand->Value) (w:World):Option Edge->Prop
 | some e=>(if DE .any e=true then (match l[e.on]?,fs[e.on]? with
    | some o,some f=>(match o.dst with
      | some d=>f (ev (.tmp d)) w
      | none=>True)
    | _,_=>True) else True)
 | none=>True
theorem has.at {l:List Oper} {fs:List Fact} {ev:Operand->Value} {w:World}:∀{es:List Edge},has l fs ev w es->∀n:Nat,one l fs ev w es[n]?
 | [],_,n=>by simp [one]
 | e::es,h,0=>by simpa [one] using h.1
 | e::es,h,n+1=>by simpa using has.at h.2 n
def yld (l:List Oper) (ev:Operand->Value) (j:Nat):Option Bool:=
 match (l[j]?).bind (·.dst) with
 | some d=>(match ev (.tmp d) with
   | .bool b=>some b
   | _=>none)
 | none=>none
structure Reads (a0:Act) (ds:List Nat) (ev:Operand->Value):Prop where
 const:∀v,ev (.const v)=v
 func:∀f,ev (.func f)=.func (.func f) #[] #[]
 global:∀g,ev (.global g)=ZV (some ⟨g,0,none⟩)
 old:∀s,ds.contains s=false->ev (.tmp s)=a0.tmps.getD s undef
inductive Goes (P:Program) (o:Oper) (ev:Operand->Value) (f:Fact) (w:World):Prop
 | value (v:Value) (w':World) (h:(execOp ev o).run P w=.ok (.value v) w') (hb:Below w.heap.size w w') (hf:f v w'):Goes P o ev f w
 | enter (g:FuncId) (args:Array Value) (h:(execOp ev o).run P w=.ok (.enter g args) w) (hc:Calls P g args w λe w'=>∃v,e=.returned v/\Below w.heap.size w w'/\f v w'):Goes P o ev f w
inductive GoesR (P:Program) (o:Oper) (ev:Operand->Value) (f:Fact) (R:World->World->Prop) (w:World):Prop
 | value (v:Value) (w':World) (h:(execOp ev o).run P w=.ok (.value v) w') (hb:R w w') (hf:f v w'):GoesR P o ev f R w
 | enter (g:FuncId) (args:Array Value) (h:(execOp ev o).run P w=.ok (.enter g args) w) (hc:Calls P g args w λe w'=>∃v,e=.returned v/\R w w'/\f v w'):GoesR P o ev f R w
theorem XXmLr {P:Prop} (h:P:=by
 refine .enter g args hrun (hc.mono ?_);rintro e w' ⟨v,rfl,hb,hfv⟩;first
  |exact ⟨v,rfl,hR _ hb,hfv⟩
  |exact ⟨v,rfl,hb,hf _ _ hfv⟩
  |exact ⟨v,rfl,.inr hb,hfv⟩):P:=h
theorem Goes.gen {P:Program} {o:Oper} {ev:Operand->Value} {f:Fact} {w:World} (h:Goes P o ev f w) {R:World->World->Prop} (hR:∀w',Below w.heap.size w w'->R w w'):GoesR P o ev f R w:=by
 cases h with
 | value v w' hrun hb hfv=>exact .value v w' hrun (hR _ hb) hfv
 | enter g args hrun hc=>
   exact XXmLr
def FineR (P:Program) (l:List Oper) (fs:List Fact) (R:Nat->World->World->Prop) (K:Array Bool->World->Prop) (a0:Act) (ds:List Nat) (k:Nat) (o:Oper) (f:Fact):Prop:=
 ∀(ev:Operand->Value) (b:Array Bool) (w:World),Reads a0 ds ev->K b w->b.getD k false=false->has l fs ev w o.after.toList->
  (DH o (yld l ev)=true->GoesR P o ev f (R k) w)/\(DH o (yld l ev)=false->f undef w)
def Fine (P:Program) (l:List Oper) (fs:List Fact) (W:World) (a0:Act) (ds:List Nat) (o:Oper) (f:Fact):Prop:=
 ∀(ev:Operand->Value) (w:World),Reads a0 ds ev->Below W.heap.size W w->has l fs ev w o.after.toList->
  (DH o (yld l ev)=true->Goes P o ev f w)/\(DH o (yld l ev)=false->f undef w)
def marks (l:List Oper):Nat->Array Bool->Array Bool
 | 0,b=>b
 | k+1,b=>marks l k (if b.getD k false=true then (match l[k]? with
    | some o=>o.after.toList.foldl (λb e=>if DE .any e=true then b.setIfInBounds e.on true else b) b
    | none=>b) else b)
def fill (n m:Nat) (lm:List Bool):Array Bool:=((CE n).map λi=>decide (i<m) && !lm.getD i false).toArray
def good (l:List Oper) (m:Nat) (ds:List Nat) (lm:List Bool) (r:Nat):Bool:=
 decide (m<=l.length)&&(decide ((l.take m).map (·.dst)=ds.map some)&&(decide ds.Nodup &&
 ((CE l.length).all (λk=>match l[k]? with
   | some o=>o.after.toList.all λe=>!Region.binds .any e|| (decide (e.on<k)&&(lm.getD k false||decide (m<=k) || !lm.getD e.on false))
   | none=>true) &&
 ((CE l.length).all (λi=>(decide (i<m) && !lm.getD i false)|| (CE m).all λk=>lm.getD k false|| (marks l l.length ((Aj l.length false).setIfInBounds i true)).getD k false) &&
 decide ((CE m).countP (λk=>!lm.getD k false)+r<=l.length)))))
def putg (g:Nat->Value):List Nat->Act->Act
 | [],a=>a
 | d::ds,a=>putg g ds (a.put (some d) (g d))
def fone (g:Nat->Value) (w:World):Option Nat->Option Fact->Prop
 | some d,some f=>f (g d) w
 | _,_=>True
def facts (g:Nat->Value) (w:World):List Nat->List Fact->Prop
 | d::ds,f::fs=>f (g d) w/\facts g w ds fs
 | _,_=>True
theorem facts.at {g:Nat->Value} {w:World}:∀{ds:List Nat} {fs:List Fact},facts g w ds fs->∀n:Nat,fone g w ds[n]? fs[n]?
 | [],_,_,n=>by simp [fone]
 | _ :: _,[],_,n=>by simp [fone]
 | _ :: _,_ :: _,h,0=>by simpa [fone] using h.1
 | _ :: _,_ :: _,h,n+1=>by simpa using facts.at h.2 n
section
variable {P:Program} {l:List Oper} {Q:Exit->Act->World->Prop} {fs:List Fact} {W:World} {a0:Act} {m:Nat} {ds:List Nat} {lm:List Bool} {r:Nat} {K:Array Bool->World->Prop} {R:Nat->World->World->Prop}
structure Inv (l:List Oper) (fs:List Fact) (K:Array Bool->World->Prop) (a0:Act) (m:Nat) (ds:List Nat) (lm:List Bool) (b:Array Bool) (a:Act) (w:World):Prop where
 bel:K b w
 size:a.tmps.size=a0.tmps.size
 defs:a.defers=a0.defers
 old:∀s,s∉ds->a.tmps[s]?=a0.tmps[s]?
 fact:∀(k d:Nat) (f:Fact),ds[k]?=some d->fs[k]?=some f->b.getD k false=true->f (a.eval (.tmp d)) w
 down:∀(k:Nat) (o:Oper),l[k]?=some o->b.getD k false=true->∀e∈o.after.toList,DE .any e=true->b.getD e.on false=true
 bsize:b.size=l.length
 rest:∀k,m<=k∨lm.getD k false=true->b.getD k false=false
theorem get_set (b:Array Bool) (i k:Nat) (hi:i<b.size):(b.setIfInBounds i true).getD k false=if k=i then true else b.getD k false:=by
 by_cases h:k=i
 ·subst h;simp [Ag,hi]
 ·have h':¬i=k:=λe=>h e.symm;simp [Ag,h,h']
theorem get_set_sub (b:Array Bool) (i k:Nat) (h:(b.setIfInBounds i true).getD k false=true):k=i∨b.getD k false=true:=by
 rcases Dg i b.size with hi | hi
 ·rw [get_set b i k hi] at h;by_cases hk:k=i
  ·exact .inl hk
  ·rw [if_neg hk] at h;exact .inr h
 ·rw [Array.setIfInBounds_eq_of_size_le hi] at h;exact .inr h
theorem fold_sub (b0:Array Bool) (p:Nat->Prop) (es:List Edge) (hp:∀k,b0.getD k false=true->p k) (he:∀e∈es,DE .any e=true->p e.on) :
 ∀k,(es.foldl (λb e=>if DE .any e=true then b.setIfInBounds e.on true else b) b0).getD k false=true->p k:=by
 induction es generalizing b0 with
 | nil=>exact hp
 | cons e es ih=>
   rw [List.foldl_cons]
   refine ih _ ?_ (λx hx=>he x (by simp [hx]));intro k hk;by_cases hb:DE .any e=true
   ·rw [if_pos hb] at hk;rcases get_set_sub _ _ _ hk with rfl | h
    ·exact he e (by simp) hb
    ·exact hp k h
   ·rw [if_neg hb] at hk;exact hp k hk
theorem marks_sub (b:Array Bool) (hdown:∀(k:Nat) (o:Oper),l[k]?=some o->b.getD k false=true->∀e∈o.after.toList,DE .any e=true->b.getD e.on false=true) :
 ∀(n:Nat) (i:Nat) (c:Array Bool),(∀k,c.getD k false=true->k=i∨b.getD k false=true)->(∀o,l[i]?=some o->∀e∈o.after.toList,DE .any e=true->b.getD e.on false=true)->
  ∀k,(marks l n c).getD k false=true->k=i∨b.getD k false=true
 | 0,_,_,h,_=>h
 | n+1,i,c,h,hi=>by
   rw [marks];refine marks_sub b hdown n i _ ?_ hi;by_cases hc:c.getD n false=true
   ·rw [if_pos hc];cases ho:l[n]? with
    | none=>exact h
    | some o=>
      refine fold_sub c (λk=>k=i∨b.getD k false=true) _ h ?_;intro e he hb;rcases h n hc with rfl | hn
      ·exact .inr (hi o ho e he hb)
      ·exact .inr (hdown n o ho hn e he hb)
   ·rw [if_neg hc];exact h
theorem count_less (p:Nat->Bool) (i:Nat) (hi:p i=true):∀xs:List Nat,i∈xs->xs.countP (λk=>p k && !(k==i))+1<=xs.countP p
 | [],h=>by simp at h
 | x::xs,h=>by
   have hle:∀ys:List Nat,ys.countP (λk=>p k && !(k==i))<=ys.countP p:=λys=>List.countP_mono_left (λk _ hk=>by simp at hk;exact hk.1);by_cases hx:x=i
   ·subst hx;rw [List.countP_cons,List.countP_cons];have:=hle xs;simp [hi];omega
   ·have hm:i∈xs:=by
     rcases C6.1 h with h | h
     ·exact absurd h.symm hx
     ·exact h
    have ih:=count_less p i hi xs hm;rw [List.countP_cons,List.countP_cons];have hne:(x==i)=false:=by simp [hx]
    rw [hne];simp only [Bool.not_false,Bool.and_true];omega
theorem wpAnyH_more {ops:Array Oper} {S:World->Prop}:∀(n:Nat) (b:Array Bool) (a:Act) (w:World),wpAnyH P .any ops Q S n b a w->wpAnyH P .any ops Q S (n+1) b a w
 | 0,_,_,_,h=>⟨λ_=>h.2,by rw [h.1];simp⟩
 | n+1,_,_,_,h=>⟨h.1,λi hi=>wpOp_mono (λa' w' h'=>⟨h'.1,wpAnyH_more n _ a' w' h'.2⟩) (h.2 i hi)⟩
theorem wpAnyH_up {ops:Array Oper} {S:World->Prop} (n:Nat):∀(k:Nat) (b:Array Bool) (a:Act) (w:World),wpAnyH P .any ops Q S n b a w->wpAnyH P .any ops Q S (n+k) b a w
 | 0,_,_,_,h=>h
 | k+1,b,a,w,h=>wpAnyH_more (n+k) b a w (wpAnyH_up n k b a w h)
theorem yielded_eval (a:Act) (j:Nat):yielded l.toArray a.tmps j=yld l a.eval j:=by
 unfold yielded yld;have e:l.toArray[j]?=l[j]?:=by simp
 rw [e];cases (l[j]?).bind (·.dst) with
 | none=>rfl
 | some d=>
   simp only [Option.bind_some,Act.eval];rw [Ag];cases h:a.tmps[d]? with
   | none=>rfl
   | some v=>cases v<;>rfl
theorem put_get (a:Act) (d s:Nat) (v:Value):(a.put (some d) v).tmps[s]?=if s=d then (if d<a.tmps.size then some v else none) else a.tmps[s]?:=by
 simp only [Ab,Array.getElem?_setIfInBounds];by_cases h:s=d
 ·subst h;simp
 ·rw [if_neg h,if_neg (λe=>h e.symm)]
theorem put_size (a:Act) (d:Nat) (v:Value):(a.put (some d) v).tmps.size=a.tmps.size:=by simp [Ab]
theorem putg_size (g:Nat->Value):∀(ds:List Nat) (a:Act),(putg g ds a).tmps.size=a.tmps.size
 | [],_=>rfl
 | d::ds,a=>by rw [putg,putg_size g ds,put_size]
theorem putg_defers (g:Nat->Value):∀(ds:List Nat) (a:Act),(putg g ds a).defers=a.defers
 | [],_=>rfl
 | d::ds,a=>by rw [putg,putg_defers g ds];rfl
theorem putg_get (g:Nat->Value) (s:Nat):∀(ds:List Nat) (a:Act),s<a.tmps.size->(putg g ds a).tmps[s]?=if s∈ds then some (g s) else a.tmps[s]?
 | [],a,_=>by simp [putg]
 | d::ds,a,h=>by
   rw [putg,putg_get g s ds _ (by rw [put_size];exact h),put_get];by_cases h1:s∈ds
   ·simp [h1]
   ·by_cases h2:s=d
    ·subst h2;simp [h1,h]
    ·simp [h1,h2]
theorem act_of {b:Array Bool} {a:Act} {w:World} (hI:Inv l fs K a0 m ds lm b a w):a=putg (λd=>a.eval (.tmp d)) ds a0:=by
 have h1:=hI.size;have h2:=hI.defs;have h3:=hI.old;generalize hg:(λd=>a.eval (.tmp d))=g;have hg':∀d,g d=a.tmps.getD d undef:=λd=>by rw [←hg];rfl
 have ht:a.tmps=(putg g ds a0).tmps:=by
  refine Array.ext (by rw [putg_size,h1]) λi hi hi'=>?_;have e1:a.tmps[i]?=(putg g ds a0).tmps[i]?:=by
   rw [putg_get g i ds a0 (by omega)];by_cases h:i∈ds
   ·rw [if_pos h,hg',Ag,Array.getElem?_eq_getElem hi];rfl
   ·rw [if_neg h,h3 i h]
  rw [Array.getElem?_eq_getElem hi,Array.getElem?_eq_getElem hi'] at e1;exact Du.inj e1
 cases a with
 | mk t df=>
   simp only at ht h2;have:putg g ds a0=⟨(putg g ds a0).tmps,(putg g ds a0).defers⟩:=rfl;rw [this,←ht,putg_defers,←h2]
theorem facts_of {w:World} (g:Nat->Value):∀(ds:List Nat) (fs:List Fact),(∀(k d:Nat) (f:Fact),ds[k]?=some d->fs[k]?=some f->f (g d) w)->facts g w ds fs
 | [],_,_=>by simp [facts]
 | _ :: _,[],_=>by simp [facts]
 | d::ds,f::fs,h=>⟨h 0 d f rfl rfl,facts_of g ds fs λk d f hd hf=>h (k+1) d f (by simpa using hd) (by simpa using hf)⟩
theorem has_of {b:Array Bool} {a:Act} {w:World} (hdst:(l.take m).map (·.dst)=ds.map some) (hI:Inv l fs K a0 m ds lm b a w):∀es:List Edge,(∀e∈es,DE .any e=true->b.getD e.on false=true)->has l fs a.eval w es
 | [],_=>trivial
 | e::es,h=>by
   refine ⟨?_,has_of hdst hI es λx hx=>h x (by simp [hx])⟩;by_cases hb:DE .any e=true
   ·rw [if_pos hb];have hl:=h e (by simp) hb;cases ho:l[e.on]? with
    | none=>simp
    | some o=>
      cases hf:fs[e.on]? with
      | none=>simp
      | some f=>
        cases hd:o.dst with
        | none=>simp [hd]
        | some d=>
          simp only [hd];have hm:e.on<m:=by
           rcases Dg e.on m with h | h
           ·exact h
           ·rw [hI.rest _ (.inl h)] at hl;cases hl
          have hk:ds[e.on]?=some d:=by
           have h1:=congrArg (λx:List (Option Nat)=>x[e.on]?) hdst;simp only [Cd,List.getElem?_take_of_lt hm,ho,Option.map_some,hd] at h1;cases h2:ds[e.on]? with
           | none=>rw [h2] at h1;simp at h1
           | some d'=>rw [h2] at h1;simp at h1;rw [h1]
          exact hI.fact _ _ _ hk hf hl
   ·rw [if_neg hb];trivial
theorem step (hm:m<=l.length) (hdst:(l.take m).map (·.dst)=ds.map some) (hnd:ds.Nodup) (hsz:∀d∈ds,d<a0.tmps.size) (hlen:fs.length=m)
 (hK:∀(b:Array Bool) (k:Nat) (w w':World),k<m->b.getD k false=false->K b w->R k w w'->K (b.setIfInBounds k true) w') (hid:∀k w,R k w w) (hlast:∀(k j:Nat) (f:Fact),fs[k]?=some f->j≠k->(∀o,l[k]?=some o->∀e∈o.after.toList,DE .any e=true->e.on≠j)->∀v w w',R j w w'->f v w->f v w') (hfine:∀(k:Nat) (o:Oper) (f:Fact),l[k]?=some o->fs[k]?=some f->lm.getD k false=false->FineR P l fs R K a0 ds k o f)
 {b:Array Bool} {a:Act} {w:World} (hI:Inv l fs K a0 m ds lm b a w) {i:Nat} (him:i<m) (hil:lm.getD i false=false)
 (hr:i∈DG .any l.toArray b):wpOp P l.toArray Q i (λa' w'=>Inv l fs K a0 m ds lm (b.setIfInBounds i true) a' w') a w:=by
 obtain ⟨hun,o,ho,hall⟩:=mem_ready.1 hr;have ho':l[i]?=some o:=by simpa using ho
 have hfl:i<fs.length:=by omega
 obtain ⟨f,hf⟩:∃f,fs[i]?=some f:=⟨fs[i],by rw [Ca hfl]⟩;obtain ⟨d,hd,hod⟩:∃d,ds[i]?=some d/\o.dst=some d:=by
  have h1:=congrArg (λx:List (Option Nat)=>x[i]?) hdst;simp only [Cd,List.getElem?_take_of_lt him,ho',Option.map_some] at h1;cases h2:ds[i]? with
  | none=>rw [h2] at h1;simp at h1
  | some d=>rw [h2] at h1;exact ⟨d,rfl,by simpa using h1⟩
 have hbi:i<b.size:=by rw [hI.bsize];omega
 have hun':b.getD i false=false:=by rw [Ag] at hun ⊢;simpa [hbi] using hun
 have hdm:d∈ds:=C8 hd;have hdlt:d<a.tmps.size:=by rw [hI.size];exact hsz d hdm
 have hev:Reads a0 ds a.eval:=⟨λ_=>rfl,λ_=>rfl,λ_=>rfl,λs hs=>by
  have hs':s∉ds:=by simpa using hs
  have:=hI.old s hs'
  simp only [Act.eval,Ag,this]⟩
 have hhas:=has_of hdst hI o.after.toList λe he hb=>hall e (by simpa using he) hb;obtain ⟨h1,h2⟩:=hfine i o f ho' hf hil a.eval b w hev hI.bel hun' hhas;have hw:DH o (yielded l.toArray a.tmps)=DH o (yld l a.eval):=by have:yielded l.toArray a.tmps=yld l a.eval:=funext λj=>yielded_eval a j;rw [this]
 have key:∀(v:Value) (w':World),R i w w'->f v w'->Inv l fs K a0 m ds lm (b.setIfInBounds i true) (a.put o.dst v) w':=by
  intro v w' hb hfv;rw [hod];refine ⟨hK b i w w' him hun' hI.bel hb,by rw [put_size];exact hI.size,hI.defs,?_,?_,?_,by simp [hI.bsize],?_⟩
  ·intro s hs;rw [put_get,if_neg (λ(e:s=d)=>hs (by rw [e];exact hdm))];exact hI.old s hs
  ·intro k d' f' hd' hf' hk;have hev':(a.put (some d) v).eval (.tmp d')=if d'=d then v else a.eval (.tmp d'):=by
    simp only [Act.eval,Ag,put_get];by_cases h:d'=d
    ·simp [h,hdlt]
    ·simp [h]
   rw [get_set b i k hbi] at hk;rw [hev'];by_cases hki:k=i
   ·subst hki;obtain rfl:d=d':=by rw [hd] at hd';exact Du.inj hd'
    obtain rfl:f=f':=by rw [hf] at hf';exact Du.inj hf'
    rw [if_pos rfl];exact hfv
   ·rw [if_neg hki] at hk;have hne:d'≠d:=λe=>by
     subst e;have hk1:k<ds.length:=(List.getElem?_eq_some_iff.1 hd').1
     exact hki ((List.getElem?_inj hk1 hnd).1 (hd'.trans hd.symm))
    rw [if_neg hne]
    exact hlast k i f' hf' (λe=>hki e.symm) (λo2 ho2 e he hbe hei=>by have:=hI.down k o2 ho2 hk e he hbe;rw [hei,hun'] at this;cases this) _ _ _ hb (hI.fact k d' f' hd' hf' hk)
  ·intro k o' hk hbk e he hbe;rw [get_set b i k hbi] at hbk;rw [get_set b i e.on hbi];by_cases hki:k=i
   ·subst hki;obtain rfl:o=o':=by rw [ho'] at hk;exact Du.inj hk
    have:=hall e (by simpa using he) hbe;by_cases h:e.on=k
    ·rw [if_pos h]
    ·rw [if_neg h];exact this
   ·rw [if_neg hki] at hbk;have:=hI.down k o' hk hbk e he hbe;by_cases h:e.on=i
    ·rw [if_pos h]
    ·rw [if_neg h];exact this
  ·intro k hk
   rw [get_set b i k hbi,if_neg (λe=>by
    rcases hk with hk | hk
    ·omega
    ·rw [e,hil] at hk;cases hk)]
   exact hI.rest k hk
 unfold wpOp;simp only [ho];rw [hw];by_cases hwant:DH o (yld l a.eval)=true
 ·rw [if_pos hwant];refine .inl ?_;unfold Oper.wp;cases h1 hwant with
  | value v w' hrun hb hfv=>rw [hrun,Oper.upon_value];exact key v w' hb hfv
  | enter g args hrun hc=>
    rw [hrun,Oper.upon_enter];refine hc.mono ?_;rintro e w' ⟨v,rfl,hb,hfv⟩;exact key v w' hb hfv
 ·rw [if_neg hwant]
  exact key undef w (hid i w) (h2 (by simpa using hwant))
theorem XXcCR {P:Prop} (h:P:=by
 intro hk hlk hbk;have hkl:k<l.length:=by omega
 rcases Classical.em (∃e∈(l[k]).after.toList,DE .any e=true/\b.getD e.on false=false) with h | h
 ·obtain ⟨e,he,hb,hbe⟩:=h;have:=hback k _ (Ca hkl) e he hb;exact ihk e.on this (by omega) (hfree k _ (Ca hkl) hk hlk e he hb) hbe
 ·refine ⟨k,mem_ready.2 ⟨?_,l[k],by simp [hkl],λe he hb=>?_⟩⟩
  ·have:k<b.size:=by rw [hI.bsize];exact hkl
   rw [Ag] at hbk ⊢;simpa [this] using hbk
  ·cases hbe:b.getD e.on false with
   | true=>rfl
   | false=>exact absurd ⟨e,by simpa using he,hb,hbe⟩ h):P:=h
theorem XXuDq {P:Prop} (h:P:=by
 obtain ⟨hun,o,ho,hal⟩:=mem_ready.1 hi;have hbi:i<b.size:=by rw [hI.bsize];omega
 have hun':b.getD i false=false:=by rw [Ag] at hun ⊢;simpa [hbi] using hun
 have e:(CE m).countP (λk=>!(b.setIfInBounds i true).getD k false && !lm.getD k false)=(CE m).countP (λk=>(!b.getD k false && !lm.getD k false) && !(k==i)):=by
  refine List.countP_congr λk _=>?_;rw [get_set b i k hbi];by_cases h:k=i
  ·simp [h]
  ·simp [h]
 have:=count_less (λk=>!b.getD k false && !lm.getD k false) i (by rw [hun',hil];rfl) (CE m) (by simpa using him);rw [e]
 omega):P:=h
theorem XX5Ks {P:Prop} (h:P:=by
 have:=marks_sub b hI.down l.length i _ (λk hk=>(get_set_sub _ _ _ hk).imp_right λh=>by
  rw [Ag] at h;rcases Dg k l.length with hkl | hkl
  ·simp [hkl] at h
  ·simp [hkl] at h) (λo2 ho2 e he hb=>by
   obtain rfl:o=o2:=by rw [ho'] at ho2;exact Du.inj ho2
   exact hal e (by simpa using he) hb) k hmk
 rcases this with h' | h'
 ·subst h';rcases h with h | h
  ·omega
  ·rw [hlk] at h;cases h
 ·rw [hbk] at h';cases h'):P:=h
theorem XXSDj {P:Prop} (h:P:=by
 refine ⟨?_,?_⟩
 ·rcases Dg i m with h | h
  ·exact h
  ·exact absurd (.inl h) key
 ·cases h:lm.getD i false with
  | false=>rfl
  | true=>exact absurd (.inr h) key):P:=h
theorem all_of (hm:m<=l.length) (hdst:(l.take m).map (·.dst)=ds.map some) (hnd:ds.Nodup) (hsz:∀d∈ds,d<a0.tmps.size) (hlen:fs.length=m)
 (hK:∀(b:Array Bool) (k:Nat) (w w':World),k<m->b.getD k false=false->K b w->R k w w'->K (b.setIfInBounds k true) w') (hid:∀k w,R k w w) (hlast:∀(k j:Nat) (f:Fact),fs[k]?=some f->j≠k->(∀o,l[k]?=some o->∀e∈o.after.toList,DE .any e=true->e.on≠j)->∀v w w',R j w w'->f v w->f v w') (hidle:∀(k:Nat) (f:Fact),fs[k]?=some f->lm.getD k false=true->∀v w,f v w)
 (hfine:∀(k:Nat) (o:Oper) (f:Fact),l[k]?=some o->fs[k]?=some f->lm.getD k false=false->FineR P l fs R K a0 ds k o f)
 (hback:∀(k:Nat) (o:Oper),l[k]?=some o->∀e∈o.after.toList,DE .any e=true->e.on<k)
 (hfree:∀(k:Nat) (o:Oper),l[k]?=some o->k<m->lm.getD k false=false->∀e∈o.after.toList,DE .any e=true->lm.getD e.on false=false)
 (hcov:∀i,i<l.length->m<=i∨lm.getD i false=true->∀k,k<m->lm.getD k false=false->(marks l l.length ((Aj l.length false).setIfInBounds i true)).getD k false=true)
 (hrest:∀(g:Nat->Value) (w:World),K (fill l.length m lm) w->facts g w ds fs->wpAnyH P .any l.toArray Q (λ_=>True) r (fill l.length m lm) (putg g ds a0) w) :
 ∀(n:Nat) (b:Array Bool) (a:Act) (w:World),Inv l fs K a0 m ds lm b a w->(CE m).countP (λk=>!b.getD k false && !lm.getD k false)+r<=n->wpAnyH P .any l.toArray Q (λ_=>True) n b a w:=by
 have base:∀(b:Array Bool) (a:Act) (w:World),Inv l fs K a0 m ds lm b a w->(CE m).countP (λk=>!b.getD k false && !lm.getD k false)=0->wpAnyH P .any l.toArray Q (λ_=>True) r b a w:=by
  intro b a w hI hc;have hall:∀k,k<m->lm.getD k false=false->b.getD k false=true:=λk hk hl=>by have:=List.countP_eq_zero.1 hc k (by simpa using hk);rw [hl] at this;simpa using this
  have hb:b=fill l.length m lm:=by
   refine Array.ext (by simp [fill,hI.bsize]) λi h1 h2=>?_;have e:b.getD i false=b[i]:=by simp [Ag,h1]
   rw [←e];have e2:(fill l.length m lm)[i]=(decide (i<m) && !lm.getD i false):=by simp [fill]
   rw [e2];rcases Dg i m with hi | hi
   ·cases hl:lm.getD i false with
    | true=>rw [hI.rest i (.inr hl)];simp
    | false=>rw [hall i hi hl];simp [hi]
   ·rw [hI.rest i (.inl hi)];simp [show¬i<m by omega]
  have:=hrest _ w (hb ▸ hI.bel) (facts_of (λd=>a.eval (.tmp d)) ds fs λk d f hd hf=>by
   cases hl:lm.getD k false with
   | true=>exact hidle k f hf hl _ _
   | false=>exact hI.fact k d f hd hf (hall k (by have:=(List.getElem?_eq_some_iff.1 hf).1;omega) hl))
  rw [←act_of hI,←hb] at this;exact this
 intro n
 induction n with
 | zero=>
   intro b a w hI hn
   have:=base b a w hI (by omega);rw [show r=0 by omega] at this;exact this
 | succ n ih=>
   intro b a w hI hn;by_cases hc:(CE m).countP (λk=>!b.getD k false && !lm.getD k false)=0
   ·have h2:=wpAnyH_up r (n+1-r) _ _ _ (base b a w hI hc);rw [show r+(n+1-r)=n+1 by omega] at h2;exact h2
   ·
    have hex:∃k,k<m/\lm.getD k false=false/\b.getD k false=false:=by
     rcases Classical.em (∃k,k<m/\lm.getD k false=false/\b.getD k false=false) with h | h
     ·exact h
     ·refine absurd ?_ hc;rw [List.countP_eq_zero];intro k hk;have hk':k<m:=by simpa using hk
      cases hl:lm.getD k false with
      | true=>simp
      | false=>
        cases hb:b.getD k false with
        | true=>simp
        | false=>exact absurd ⟨k,hk',hl,hb⟩ h
    have hin:∀i∈DG .any l.toArray b,i<m/\lm.getD i false=false:=by
     intro i hi;obtain ⟨hun,o,ho,hal⟩:=mem_ready.1 hi;have ho':l[i]?=some o:=by simpa using ho
     have hil:i<l.length:=(List.getElem?_eq_some_iff.1 ho').1;have key:m<=i∨lm.getD i false=true->False:=by intro h;obtain ⟨k,hk,hlk,hbk⟩:=hex;have hmk:=hcov i hil h k hk hlk;exact XX5Ks
     exact XXSDj
    have hne:DG .any l.toArray b≠ []:=by
     have:∀k,k<m->lm.getD k false=false->b.getD k false=false->∃i,i∈DG .any l.toArray b:=by
      intro k
      induction k using Nat.strongRecOn with
      | _ k ihk=>
        exact XXcCR
     obtain ⟨k,hk,hlk,hbk⟩:=hex;obtain ⟨i,hi⟩:=this k hk hlk hbk;intro h0;rw [h0] at hi;cases hi
    refine wpAnyH_all rfl hne ?_;intro i hi;obtain ⟨him,hil⟩:=hin i hi
    refine wpOp_mono (λa' w' h'=>⟨trivial,ih _ a' w' h' ?_⟩) (step hm hdst hnd hsz hlen hK hid hlast hfine hI him hil hi);exact XXuDq
theorem Goes.mono {o:Oper} {ev:Operand->Value} {f f':Fact} {w:World} (h:Goes P o ev f w) (hf:∀v w,f v w->f' v w):Goes P o ev f' w:=by
 cases h with
 | value v w' hrun hb hfv=>exact .value v w' hrun hb (hf _ _ hfv)
 | enter g args hrun hc=>
   exact XXmLr
theorem Goes.same {o:Oper} {ev:Operand->Value} {w:World} {v:Value} (h:(execOp ev o).run P w=.ok (.value v) w):Goes P o ev (λx _=>x=v) w:=
 .value v w h (An _ _) rfl
def When (b want:Bool) (f:Fact):Fact:=λv w=>b=want->f v w
theorem Lasts.when {b want:Bool} {f:Fact} (h:Lasts f):Lasts (When b want f):=λv w w' hb hf e=>h v w w' hb (hf e)
theorem Lasts.eq (x:Value):Lasts (λv _=>v=x):=λ_ _ _ _ h=>h
theorem fine {o:Oper} {f:Fact} (hg:o.guard=none) (h:∀(ev:Operand->Value) (w:World),Reads a0 ds ev->Below W.heap.size W w->has l fs ev w o.after.toList->Goes P o ev f w):Fine P l fs W a0 ds o f:=
 λev w h1 h2 h3=>⟨λ_=>h ev w h1 h2 h3,λhw=>by simp [DH,hg] at hw⟩
theorem fine_when {o:Oper} {f:Fact} {b want:Bool} (j d:Nat) (hg:o.guard=some (j,want)) (hd:(l[j]?).bind (·.dst)=some d) (hb:∀(ev:Operand->Value) (w:World),has l fs ev w o.after.toList->ev (.tmp d)=ZW b)
 (h:b=want->∀(ev:Operand->Value) (w:World),Reads a0 ds ev->Below W.heap.size W w->has l fs ev w o.after.toList->Goes P o ev f w):Fine P l fs W a0 ds o (When b want f):=by
 intro ev w h1 h2 h3;have e:DH o (yld l ev)=(some b==some want):=by simp only [DH,hg,yld,hd,hb ev w h3]
 rw [e];refine ⟨λhw=>?_,λhw hbw=>?_⟩
 ·have hbw:b=want:=by simpa using hw
  exact (h hbw ev w h1 h2 h3).mono λ_ _ hf _=>hf
 ·rw [hbw] at hw;simp at hw
def All (P:Program) (l:List Oper) (fs:List Fact) (W:World) (a0:Act) (ds:List Nat):List Bool->List Oper->List Fact->Prop
 | [],o::os,f::gs=>Fine P l fs W a0 ds o f/\All P l fs W a0 ds [] os gs
 | false::bs,o::os,f::gs=>Fine P l fs W a0 ds o f/\All P l fs W a0 ds bs os gs
 | true::bs,_::os,_::gs=>True/\All P l fs W a0 ds bs os gs
 | _,_,_=>True
theorem all_at:∀{bs:List Bool} {os:List Oper} {gs:List Fact},All P l fs W a0 ds bs os gs->∀(k:Nat) (o:Oper) (f:Fact),os[k]?=some o->gs[k]?=some f->bs.getD k false=false->Fine P l fs W a0 ds o f
 | [],_ :: _,_ :: _,h,0,o,f,ho,hf,_=>by simp at ho hf;subst ho hf;exact h.1
 | [],_ :: _,_ :: _,h,k+1,o,f,ho,hf,hb=>all_at (bs:= []) h.2 k o f (by simpa using ho) (by simpa using hf) (by simp)
 | false :: _,_ :: _,_ :: _,h,0,o,f,ho,hf,_=>by simp at ho hf;subst ho hf;exact h.1
 | true :: _,_ :: _,_ :: _,h,0,o,f,ho,hf,hb=>by simp at hb
 | false :: _,_ :: _,_ :: _,h,k+1,o,f,ho,hf,hb=>all_at h.2 k o f (by simpa using ho) (by simpa using hf) (by simpa using hb)
 | true :: _,_ :: _,_ :: _,h,k+1,o,f,ho,hf,hb=>all_at h.2 k o f (by simpa using ho) (by simpa using hf) (by simpa using hb)
 | _,[],_,_,k,o,f,ho,hf,_=>by simp at ho
 | _,_ :: _,[],_,k,o,f,ho,hf,_=>by simp at hf
def Every (fs:List Fact):Prop:=match fs with
 | []=>True
 | f::fs=>Lasts f/\Every fs
theorem every_at:∀{fs:List Fact},Every fs->∀f∈fs,Lasts f
 | [],_,f,hf=>by simp at hf
 | g::fs,h,f,hf=>by
   rcases C6.1 hf with rfl | hf
   ·exact h.1
   ·exact every_at h.2 f hf
def Idle:List Bool->List Fact->Prop
 | true::bs,f::fs=>(∀v w,f v w)/\Idle bs fs
 | false::bs,_::fs=>Idle bs fs
 | _,_=>True
theorem idle_at:∀{bs:List Bool} {fs:List Fact},Idle bs fs->∀(k:Nat) (f:Fact),fs[k]?=some f->bs.getD k false=true->∀v w,f v w
 | [],_,_,k,f,_,hb=>by simp at hb
 | true :: _,_ :: _,h,0,f,hf,_=>by simp at hf;subst hf;exact h.1
 | false :: _,_ :: _,_,0,f,_,hb=>by simp at hb
 | true :: _,_ :: _,h,k+1,f,hf,hb=>idle_at h.2 k f (by simpa using hf) (by simpa using hb)
 | false::bs,_::fs,h,k+1,f,hf,hb=>idle_at (bs:=bs) (fs:=fs) h k f (by simpa using hf) (by simpa using hb)
 | _ :: _,[],_,k,f,hf,_=>by simp at hf
theorem XXjkq {P:Prop} (h:P:=by
 intro k o hk e he hb;have:=h4 k (List.getElem?_eq_some_iff.1 hk).1;rw [hk] at this;simp only [List.all_eq_true,Az,Ao,Ay,decide_eq_true_eq] at this;rcases this e he with h | ⟨h,h'⟩
 ·rw [hb] at h;cases h
 ·refine ⟨h,λhk hl=>?_⟩;rcases h' with (h' | h') | h'
  ·rw [hl] at h';cases h'
  ·omega
  ·exact h'):P:=h
theorem region_gen (m:Nat) (ds:List Nat) (fs:List Fact) (lm:List Bool) (r:Nat) (p:Tree.Plan) {id:Nat} {a0:Act} {w:World} (hmo:P.follows .mixedOrders=true) (hg:good l m ds lm r=true) (hns:Region.noSelect l.toArray=true)
 (hp:Tree.fits l.toArray p r (fill l.length m lm)=true) (hQ:∀c a d v w,Q (.panic c) (Ab a d v) w->Q (.panic c) a w)
 (hsz:ds.all (λd=>decide (d<a0.tmps.size))=true) (hlen:fs.length=m) (hK0:K (Aj l.length false) (w.drewN 1)) (hK:∀(b:Array Bool) (k:Nat) (w w':World),k<m->b.getD k false=false->K b w->R k w w'->K (b.setIfInBounds k true) w') (hid:∀k w,R k w w) (hlast:∀(k j:Nat) (f:Fact),fs[k]?=some f->j≠k->(∀o,l[k]?=some o->∀e∈o.after.toList,DE .any e=true->e.on≠j)->∀v w w',R j w w'->f v w->f v w') (hidle:Idle lm fs)
 (hfine:∀(k:Nat) (o:Oper) (f:Fact),l[k]?=some o->fs[k]?=some f->lm.getD k false=false->FineR P l fs R K a0 ds k o f)
 (hrest:∀(g:Nat->Value) (w':World),K (fill l.length m lm) w'->facts g w' ds fs->Tree.Step P l.toArray Q (λ_=>True) (Ee l p) (putg g ds a0) w'):(Code.region id l.toArray true).wp P Q a0 w:=by
 simp only [good,Ao,List.all_eq_true,decide_eq_true_eq,List.mem_range,Az] at hg;obtain ⟨h1,h2,h3,h4,h5,h6⟩:=hg;refine wp_region_held (S:=λ_=>True) hmo ?_;have hb4:∀(k:Nat) (o:Oper),l[k]?=some o->∀e∈o.after.toList,DE .any e=true->e.on<k/\(k<m->lm.getD k false=false->lm.getD e.on false=false):=by exact XXjkq
 have hcov:∀i,i<l.length->m<=i∨lm.getD i false=true->∀k,k<m->lm.getD k false=false->(marks l l.length ((Aj l.length false).setIfInBounds i true)).getD k false=true:=by
  intro i hi hmi k hk hl;rcases h5 i hi with ⟨h,h'⟩ | h
  ·rcases hmi with hmi | hmi
   ·omega
   ·rw [hmi] at h';cases h'
  ·rcases h k hk with h | h
   ·rw [hl] at h;cases h
   ·exact h
 have hsz':∀d∈ds,d<a0.tmps.size:=by simpa using hsz
 have hI:Inv l fs K a0 m ds lm (Aj l.length false) a0 (w.drewN 1):=by
  have hrep:∀k,(Aj l.length false).getD k false=false:=λk=>by rw [Ag];rcases Dg k l.length with h | h<;>simp [h]
  refine ⟨hK0,rfl,rfl,λ_ _=>rfl,λk d f _ _ h=>?_,λk o _ h=>?_,by simp,λk _=>hrep k⟩
  ·rw [hrep] at h;cases h
  ·rw [hrep] at h;cases h
 have:=all_of (P:=P) (Q:=Q) (r:=r) h1 h2 h3 hsz' hlen hK hid hlast (idle_at hidle) hfine (λk o hk e he hb=>(hb4 k o hk e he hb).1)
  (λk o hk hkm hl e he hb=>(hb4 k o hk e he hb).2 hkm hl) hcov
  (λg w' hb hf=>Tree.held_of_walk hns hQ p _ _ _ w' hp trivial (hrest g w' hb hf).out) l.length _ a0 (w.drewN 1) hI (by
    have:(CE m).countP (λk=>!(Aj l.length false).getD k false && !lm.getD k false)<=(CE m).countP (λk=>!lm.getD k false):=
     List.countP_mono_left λk _ hk=>by simp at hk;simpa using hk.2
    omega)
 simpa [World.drewN] using this
theorem region_late (m:Nat) (ds:List Nat) (fs:List Fact) (lm:List Bool) (r:Nat) (p:Tree.Plan) {id:Nat} {a0:Act} {w:World} (hmo:P.follows .mixedOrders=true) (hg:good l m ds lm r=true) (hns:Region.noSelect l.toArray=true)
 (hp:Tree.fits l.toArray p r (fill l.length m lm)=true) (hQ:∀c a d v w,Q (.panic c) (Ab a d v) w->Q (.panic c) a w)
 (hsz:ds.all (λd=>decide (d<a0.tmps.size))=true) (hlen:fs.length=m) (hlast:Every fs) (hidle:Idle lm fs) (hfine:All P l fs (w.drewN 1) a0 ds lm l fs)
 (hrest:∀(g:Nat->Value) (w':World),Below w.heap.size w w'->facts g w' ds fs->Tree.Step P l.toArray Q (λ_=>True) (Ee l p) (putg g ds a0) w'):(Code.region id l.toArray true).wp P Q a0 w:=
 region_gen (K:=λ_ w'=>Below (w.drewN 1).heap.size (w.drewN 1) w') (R:=λ_ w w'=>Below w.heap.size w w') m ds fs lm r p hmo hg hns hp hQ hsz hlen (An _ _)
  (λ_ _ _ _ _ _ h h'=>h.trans (h'.mono h.size)) (λ_ _=>An _ _) (λ_ _ f hf _ _=>every_at hlast f (C8 hf)) hidle
  (λk o f ho hf hl ev _ w' h1 h2 _ h4=>⟨λhw=>((all_at hfine k o f ho hf hl ev w' h1 h2 h4).1 hw).gen λ_ h=>h,(all_at hfine k o f ho hf hl ev w' h1 h2 h4).2⟩)
  λg w' hb hf=>hrest g w' ((Ak (An w.heap.size w) 1).trans hb) hf
theorem region (m:Nat) (ds:List Nat) (fs:List Fact) (p:Tree.Plan) {id:Nat} {a0:Act} {w:World} (hmo:P.follows .mixedOrders=true) (hg:good l m ds [] (l.length-m)=true) (hns:Region.noSelect l.toArray=true)
 (hp:Tree.fits l.toArray p (l.length-m) (fill l.length m [])=true) (hQ:∀c a d v w,Q (.panic c) (Ab a d v) w->Q (.panic c) a w)
 (hsz:ds.all (λd=>decide (d<a0.tmps.size))=true) (hlen:fs.length=m) (hlast:Every fs) (hfine:All P l fs (w.drewN 1) a0 ds [] l fs)
 (hrest:∀(g:Nat->Value) (w':World),Below w.heap.size w w'->facts g w' ds fs->Tree.Step P l.toArray Q (λ_=>True) (Ee l p) (putg g ds a0) w'):(Code.region id l.toArray true).wp P Q a0 w:=
 region_late m ds fs [] (l.length-m) p hmo hg hns hp hQ hsz hlen hlast trivial hfine hrest
theorem region_all (m:Nat) (ds:List Nat) (fs:List Fact) {id:Nat} {a0:Act} {w:World} (hmo:P.follows .mixedOrders=true) (hg:good l m ds [] (l.length-m)=true) (hns:Region.noSelect l.toArray=true)
 (hp:Tree.fits l.toArray .done (l.length-m) (fill l.length m [])=true) (hQ:∀c a d v w,Q (.panic c) (Ab a d v) w->Q (.panic c) a w)
 (hsz:ds.all (λd=>decide (d<a0.tmps.size))=true) (hlen:fs.length=m) (hlast:Every fs) (hfine:All P l fs (w.drewN 1) a0 ds [] l fs)
 (hrest:∀(g:Nat->Value) (w':World),Below w.heap.size w w'->facts g w' ds fs->Q .normal (putg g ds a0) w'):(Code.region id l.toArray true).wp P Q a0 w:=
 region m ds fs .done hmo hg hns hp hQ hsz hlen hlast hfine λg w' hb hf=>by rw [Ee];exact Ed (hrest g w' hb hf)
end
abbrev _root_.Go.Proofs.YtdfabddnpgjepaaGreatDoor.eQ (x:Value):Fact:=λv _=>v=x
abbrev _root_.Go.Proofs.YtdfabddnpgjepaaGreatDoor.eP (g k:Nat):Fact:=eQ (ZV (some ⟨g,k,none⟩))
theorem std {P:Prop} (h:P:=by simp [Each.has,Region.binds] at hh;refine Each.Goes.same ?_;go_simp;(try with_reducible rfl);first | done | fail):P:=h
end Go.Proofs.YtdfabddnpgjepaaGreatDoor.Each
namespace Go.Proofs.YtdfabddnpgjepaaGreatDoor.Rec
open Go.RowKit Base Txt
section
set_option maxHeartbeats 1000000
end
def plainEq (a b:R):Bool:=decide (a.m=b.m)&&(decide (a.x=b.x)&&(decide (a.k=b.k)&&decide (a.ch=b.ch)))
theorem ba_list_inj {a b:List UInt8}:ba a=ba b↔a=b:=⟨λh=>by have:=congrArg (λx:ByteArray=>x.data.toList) h;simpa [ba] using this,λh=>by rw [h]⟩
section
set_option maxHeartbeats 1000000
theorem XX5cG {P:Prop} (h:P:=by
 obtain rfl:k=n:=by omega
 have HT:=Bx (show fs.take k=fs from CN (by rw [HL.out];omega));go_wp2;go_ret
 exact ⟨by first | rfl |(rw [HT.out];rfl),hbr.out⟩):P:=h
theorem weigh_any (a:Option Addr) (n cap:Nat) (fs:List Fld) (w:World) (hv:Flds w a n fs) (hn:n<=500) (hz:∀f∈fs,f.1.size<=1000000/\f.2.size<=1000000) :
 Calls EW 121 #[.slice a n cap] w λe w'=>e=.returned (ZZ ZS (weigh fs:Nat))/\Below w.heap.size w w':=by
 have HV:=Bx hv;have HL:=Bx hv.1;have HZ:=Bx hz
 have HM:=Bx (weigh_le fs 1000000 hz);clear hv hz;go_enter Tryz.func121,Tryz.ntmps121;go_wp2
 go_loopw [3,8] (λv i wr=>∃k:Nat,k<=n/\i=ZZ ZS k/\v=ZZ ZS ((weigh (fs.take k):Nat):Int)/\Hid (Below w.heap.size w wr)) (λ_ i _=>n-(intOf i).toNat)
 case atStart=>exact ⟨0,Dj _,rfl,rfl,Bx (An _ _)⟩
 case round=>
  obtain ⟨k,hk,rfl,rfl,hbr⟩:=hrel;rcases Dg k n with hlt | hge
  ·obtain ⟨bl,off,rfl,hbl,hc⟩:=(HV.out.below hbr.out).2 (by omega);obtain ⟨hc0,hc1⟩:=hc k hlt;have hkl:k<fs.length:=by rw [HL.out];exact hlt
   have hin:fs[k]?.getD dflt∈fs:=by rw [Ca hkl];exact Ci hkl
   obtain ⟨y0,y1⟩:=HZ.out _ hin;have hsn:=weigh_snoc fs k hkl;have hle:=weigh_take_le fs k;have hm:=HM.out;rw [HL.out] at hm;clear hc hin hkl;generalize fs[k]?.getD dflt=f at *;obtain ⟨f0,f1⟩:=f;simp only at hc0 hc1 y0 y1 hsn;generalize weigh (fs.take k)=S at *;have i1:(k:Int)<(n:Int):=by omega
   have e1:(((f0.size+f1.size):Nat):Int)=(f0.size:Int)+(f1.size:Int):=by omega
   have b1: -9223372036854775808<=(f0.size:Int)+(f1.size:Int)/\(f0.size:Int)+(f1.size:Int)<=9223372036854775807:=⟨by omega,by omega⟩;have b2: -9223372036854775808<=(S:Int)+((f0.size:Int)+(f1.size:Int))/\(S:Int)+((f0.size:Int)+(f1.size:Int))<=9223372036854775807:=⟨by omega,by omega⟩
   have H1:Hid ((S:Int)+((f0.size:Int)+(f1.size:Int))=((weigh (fs.take (k+1)):Nat):Int)):=Bx (by omega)
   have H3:∀o,Hid (Below w.heap.size w (wr.alloc o)):=λo=>Bx (hbr.out.alloc hbr.out.size o);clear hsn hle hm y0 y1 e1;obtain ⟨w1,w3⟩:=wraps _ b1;obtain ⟨w2,w4⟩:=wraps _ b2;clear b1 b2;go_wp2;go_roundw
   case rel=>exact ⟨k+1,by omega,by go_num,by rw [H1.out],H3 _⟩
   case measure=>simp [intOf];omega
  ·exact XX5cG
theorem XXSLX {P:Prop} (h:P:=by refine Each.fine rfl (λev w1 hR hb hh=>?_);have e1:=hR.old 1 rfl;simp only [Ag,Cg,BY,BZ,Ds] at e1;have q0:=(HA.out.below hb).c 0 _ rfl;have q1:=(HA.out.below hb).c 1 _ rfl;have q3:=(HA.out.below hb).c 3 _ rfl;have q5:=(HA.out.below hb).c 5 _ rfl;have q6:=(HA.out.below hb).c 6 _ rfl;exact Each.std):P:=h
theorem XXOmi {P:Prop} (h:P:=by
 clear hh;have b1:=HF.out.m;have b2:=HF.out.x;have b3:=HF.out.fs;have b4:=HF.out.ts;have b5:=HF.out.body;have b6:=M1.out;have b7:=M3.out;refine Each.Goes.same ?_;go_simp
 first | done | with_reducible rfl | exact wrap_in _ (by omega) (by omega)):P:=h
theorem XXWvA {P:Prop} (h:P:=by
 intro g1 w2 hb hf;have z2:g1 2= _:=hf.at 19;clear hf;simp only [Each.putg,Ab,CH,CK,CJ];rw [z2];go_wp2;go_ret
 exact ⟨rfl,Al hbw0.out hb⟩):P:=h
theorem XXCGs {P:Prop} (h:P:=by
 rintro e w2 ⟨rfl,hb2⟩
 exact ⟨_,rfl,hb2,rfl⟩):P:=h
theorem size_any (V:Value) (r:R) (w:World) (h:Reads w V r) (hf:Fit r):Calls EW 80 #[V] w λe w'=>e=.returned (ZZ ZS (size r:Nat))/\Below w.heap.size w w':=by
 have HF:=Bx hf;have HV:=Bx h;obtain ⟨fa,fc,ba,bc,ta,tc,rfl,h1,h2,h3⟩:=h;have H1:=Bx h1;have H3:=Bx h3
 have M1:=Bx (weigh_le r.fs 1000000 hf.f);have M3:=Bx (weigh_le r.ts 1000000 hf.t);clear hf h1 h2 h3;have hsz:size r=(((r.m.size+r.x.size)+weigh r.fs)+r.body.length)+weigh r.ts:=by unfold size;omega
 rw [hsz];clear hsz;go_enter Tryz.func80,Tryz.ntmps80;go_wp2_with fail
 have hbw0:=Bx (((An _ _).alloc (Db _) (.cells #[ZY r.m,ZY r.x,ZZ ZS r.k,.slice fa r.fs.length fc,ZW r.ch,.slice ba r.body.length bc,.slice ta r.ts.length tc] 58)):Below w.heap.size w _)
 have hbw:=Bx (Ak hbw0.out 1)
 have HA:=Bx ((Bk.new w w.heap.size rfl 58 [ZY r.m,ZY r.x,ZZ ZS r.k,.slice fa r.fs.length fc,ZW r.ch,.slice ba r.body.length bc,.slice ta r.ts.length tc]).drew 1)
 replace H1:=Bx (H1.out.below hbw.out);replace H3:=Bx (H3.out.below hbw.out)
 clear HV;refine Each.region_all 20 [3,4,5,6,7,8,9,10,11,12,13,14,15,16,17,18,19,20,21,2] [eQ (ZV (some ⟨w.heap.size,0,none⟩)),eQ (ZY r.m),eQ (ZZ ZS ((r.m.size:Nat):Int)),eQ (ZV (some ⟨w.heap.size,1,none⟩)),eQ (ZY r.x),eQ (ZZ ZS ((r.x.size:Nat):Int)),eQ (ZZ ZS (((r.m.size+r.x.size):Nat):Int)),eQ (ZV (some ⟨w.heap.size,3,none⟩)),eQ (.slice fa r.fs.length fc),eQ (ZZ ZS ((weigh r.fs:Nat):Int)),eQ (ZZ ZS ((((r.m.size+r.x.size)+weigh r.fs):Nat):Int)),eQ (ZV (some ⟨w.heap.size,5,none⟩)),eQ (.slice ba r.body.length bc),eQ (ZZ ZS ((r.body.length:Nat):Int)),eQ (ZZ ZS (((((r.m.size+r.x.size)+weigh r.fs)+r.body.length):Nat):Int)),eQ (ZV (some ⟨w.heap.size,6,none⟩)),eQ (.slice ta r.ts.length tc),eQ (ZZ ZS ((weigh r.ts:Nat):Int)),eQ (ZZ ZS ((((((r.m.size+r.x.size)+weigh r.fs)+r.body.length)+weigh r.ts):Nat):Int)),eQ (ZZ ZS ((((((r.m.size+r.x.size)+weigh r.fs)+r.body.length)+weigh r.ts):Nat):Int))] (by kernel_rfl) (by kernel_rfl) (by kernel_rfl) (by kernel_rfl) (λ_ _ d _ _ h=>by cases d<;>exact h) (by rfl) (by rfl) (by repeat first | exact trivial | refine ⟨Each.Lasts.eq _,?_⟩) ?_ ?_
 ·refine ⟨?_,?_,?_,?_,?_,?_,?_,?_,?_,?_,?_,?_,?_,?_,?_,?_,?_,?_,?_,?_,trivial⟩
  ·exact XXSLX
  ·exact XXSLX
  ·exact XXSLX
  ·exact XXSLX
  ·exact XXSLX
  ·exact XXSLX
  ·refine Each.fine rfl (λev w1 hR hb hh=>?_);have e5:ev (.tmp 5)= _:=hh.at 0;have e8:ev (.tmp 8)= _:=hh.at 1;exact XXOmi
  ·exact XXSLX
  ·exact XXSLX
  ·refine Each.fine rfl (λev w1 hR hb hh=>?_);have e11:ev (.tmp 11)= _:=hh.at 0;clear hh;have ef:=hR.func
   refine Each.Goes.enter 121 #[.slice fa r.fs.length fc] (by go_simp) (((weigh_any fa _ fc _ w1 (H1.out.below hb) HF.out.fs HF.out.f)).mono ?_);exact XXCGs
  ·refine Each.fine rfl (λev w1 hR hb hh=>?_);have e9:ev (.tmp 9)= _:=hh.at 0;have e12:ev (.tmp 12)= _:=hh.at 1;exact XXOmi
  ·exact XXSLX
  ·exact XXSLX
  ·exact XXSLX
  ·refine Each.fine rfl (λev w1 hR hb hh=>?_);have e13:ev (.tmp 13)= _:=hh.at 0;have e16:ev (.tmp 16)= _:=hh.at 1;exact XXOmi
  ·exact XXSLX
  ·exact XXSLX
  ·refine Each.fine rfl (λev w1 hR hb hh=>?_);have e19:ev (.tmp 19)= _:=hh.at 0;clear hh;have ef:=hR.func
   refine Each.Goes.enter 121 #[.slice ta r.ts.length tc] (by go_simp) (((weigh_any ta _ tc _ w1 (H3.out.below hb) HF.out.ts HF.out.t)).mono ?_);exact XXCGs
  ·refine Each.fine rfl (λev w1 hR hb hh=>?_);have e17:ev (.tmp 17)= _:=hh.at 0;have e20:ev (.tmp 20)= _:=hh.at 1;exact XXOmi
  ·exact XXSLX
 exact XXWvA
theorem room_le:∀(vs:List ByteArray) (B:Nat),(∀v∈vs,v.size<=B)->room vs<=vs.length*(B+1)
 | [],_,_=>Dj _
 | v::r,B,h=>by
   exact XXUxS
theorem find_sizes (fs:List Fld) (name:ByteArray) (B:Nat) (h:∀f∈fs,f.2.size<=B):∀v∈find fs name,v.size<=B:=by intro v hv;unfold find at hv;obtain ⟨f,hf,rfl⟩:=List.mem_map.1 hv;exact h f (List.mem_filter.1 hf).1
theorem list_mem_size (vs:List ByteArray) (x:ByteArray) (hx:x∈list vs):x.size<=room vs:=by exact XXopR
theorem list_fit (fs:List Fld) (name:ByteArray) (hn:fs.length<=500) (hz:∀f∈fs,f.1.size<=1000000/\f.2.size<=1000000) :
 room (find fs name)<=1000000000/\(list (find fs name)).length<=1000000000/\∀x∈list (find fs name),x.size<=1000000000:=by
 have h1:=find_sizes fs name 1000000 (λf hf=>(hz f hf).2);have h2:=room_le _ _ h1;have h3:=find_le fs name
 have h4:=list_le (find fs name)
 have h5:(find fs name).length*(1000000+1)<=500*1000001:=Nat.mul_le_mul (by omega) (Db _);refine ⟨by omega,by omega,λx hx=>?_⟩;have:=list_mem_size _ x hx;omega
theorem one_snoc (names:List ByteArray) (s:ByteArray) (k:Nat) (h:k<names.length):one (names.take (k+1)) s=(one (names.take k) s||Txt.same (names[k]?.getD A8) s):=by rw [strs_snoc names k h];simp [one]
theorem one_hit (names:List ByteArray) (s:ByteArray) (k:Nat) (h:k<names.length) (hq:Txt.same (names[k]?.getD A8) s=true):one names s=true:=by rw [Ca h] at hq;exact List.any_eq_true.2 ⟨names[k],Ci h,hq⟩
theorem saysFn_any (x word:ByteArray) (G:Nat) (w:World) (hc:w.cell? ⟨G,0,none⟩=some (ZY word)) (hx:x.size<=maxLen) :
 Calls EW 165 #[ZY x,ZV (some ⟨G,0,none⟩)] w λe w'=>e=.returned (ZW (Txt.same x word))/\Below w.heap.size w w':=by
 have HC:=Bx (Txt.same_any x word w hx);go_enter Tryz.func165,Tryz.ntmps165
 go_wp2_with (go_at_call 145;with_reducible refine HC.out.mono ?_;rintro e w2 ⟨rfl,hb2⟩);go_ret;exact ⟨rfl,hb2⟩
theorem index_any (a:Option Addr) (n cap:Nat) (ss:List ByteArray) (word:ByteArray) (G:Nat) (w:World) (hv:Strs w a n ss) (hn:n<=1000000000) (hz:∀x∈ss,x.size<=1000000000)
 (hc:w.cell? ⟨G,0,none⟩=some (ZY word)) (hG:G<w.heap.size) :
 Calls EW 193 #[.slice a n cap,.func (.func 165) #[] #[ZV (some ⟨G,0,none⟩)]] w λe w'=>∃z:Int,e=.returned (ZZ ZS z)/\decide (0<=z)=one ss word/\Below w.heap.size w w':=by
 have eg:∀args w,(callFunc 165 args).run EW w=.ok (.enter 165 args) w:=enters_of Tryz.func165 (by kernel_rfl) rfl;have HV:=Bx hv;have HL:=Bx hv.1;have HZ:=Bx hz;have HC:=Bx hc;clear hv hz hc;go_enter Tryz.func193,Tryz.ntmps193;go_wp2
 go_loopw [8] (λi wr=>∃k:Nat,k<=n/\i=ZZ ZS k/\Hid (one (ss.take k) word=false)/\Hid (Below w.heap.size w wr)) (λi _=>n-(intOf i).toNat)
 case atStart=>exact ⟨0,Dj _,rfl,Bx rfl,Bx (An _ _)⟩
 case round=>
  obtain ⟨k,hk,rfl,hpre,hbr⟩:=hrel;rcases Dg k n with hlt | hge
  ·obtain ⟨bl,off,rfl,hbl,hcs⟩:=(HV.out.below hbr.out).2 (by omega);have hck:=hcs k hlt;have hkl:k<ss.length:=by rw [HL.out];exact hlt
   have hsz:(ss[k]?.getD A8).size<=maxLen:=by
    have:(ss[k]?.getD A8).size<=1000000000:=by
     rw [Ca hkl]
     exact HZ.out _ (Ci hkl)
    unfold maxLen;omega
   have hsn:=one_snoc ss word k hkl;rw [hpre.out,Bool.false_or] at hsn
   have hhit:=Bx (one_hit ss word k hkl);clear hcs hkl;generalize ss[k]?.getD A8=x at *
   have HX:=Bx (λ(hb:Below w.heap.size w wr)=>saysFn_any x word G wr ((hb.cell (p:=⟨G,0,none⟩) hG).trans HC.out) hsz)
   have HX':=Bx (HX.out hbr.out);have i1:(k:Int)<(n:Int):=by omega
   clear HX hsz;cases hq:Txt.same x word with
   | false=>
     rw [hq] at HX' hsn;have hsn':=Bx hsn;clear hsn hq hhit
     go_wp2_with (go_at_fn 165;with_reducible refine HX'.out.mono ?_;rintro e w2 ⟨rfl,hb2⟩)
     have H3:=Bx (Al hbr.out hb2);clear hb2;go_roundw
     case rel=>exact ⟨k+1,by omega,by go_num,hsn',H3⟩
     case measure=>simp [intOf];omega
   | true=>
     rw [hq] at HX' hhit
     have HH:=Bx (hhit.out rfl);clear hsn hq hhit
     go_wp2_with (go_at_fn 165;with_reducible refine HX'.out.mono ?_;rintro e w2 ⟨rfl,hb2⟩);go_ret;exact ⟨_,rfl,by rw [HH.out,decide_eq_true_eq];omega,Al hbr.out hb2⟩
  ·obtain rfl:k=n:=by omega
   have HT:=Bx (show one ss word=false by rw [←hpre.out,CN (by rw [HL.out];omega)]);clear hpre;go_wp2;go_ret;exact ⟨_,rfl,by rw [HT.out];rfl,hbr.out⟩
theorem contains_any (a:Option Addr) (n cap:Nat) (ss:List ByteArray) (word:ByteArray) (G:Nat) (w:World) (hv:Strs w a n ss) (hn:n<=1000000000) (hz:∀x∈ss,x.size<=1000000000)
 (hc:w.cell? ⟨G,0,none⟩=some (ZY word)) (hG:G<w.heap.size) :
 Calls EW 164 #[.slice a n cap,.func (.func 165) #[] #[ZV (some ⟨G,0,none⟩)]] w λe w'=>e=.returned (ZW (one ss word))/\Below w.heap.size w w':=by
 have HI:=Bx (index_any a n cap ss word G w hv hn hz hc hG);clear hv hz hc;go_enter Tryz.func164,Tryz.ntmps164
 go_wp2_with (go_at_call 193;with_reducible refine HI.out.mono ?_;rintro e w2 ⟨z,rfl,hz,hb2⟩);go_ret;exact ⟨by rw [←hz];rfl,hb2⟩
theorem says_any (V:Value) (r:R) (name word:ByteArray) (w:World) (h:Reads w V r) (hf:Fit r) :
 Calls EW 117 #[V,ZY name,ZY word] w λe w'=>e=.returned (ZW (one (list (find r.fs name)) word))/\Below w.heap.size w w':=by
 obtain ⟨fa,fc,ba,bc,ta,tc,rfl,h1,h2,h3⟩:=h;clear h2 h3;obtain ⟨l1,l2,l3⟩:=list_fit r.fs name hf.fs hf.f
 have hn:r.fs.length<=1000000000:=Dd hf.fs (by decide)
 have hs:∀f∈r.fs,f.1.size<=maxLen:=λf hh=>Dd (hf.f f hh).1 (by decide)
 have HFd:=Bx (λw (hv:Flds w fa r.fs.length r.fs)=>find_any fa r.fs.length fc r.fs name w hv hn hs);have HV:=Bx h1;clear h1 hf hn hs;generalize find r.fs name=F at *
 have HLi:=Bx (λw a c (hv:Strs w a F.length F)=>list_any a F.length c F w hv l1)
 have HCo:=Bx (λw a c G (hv:Strs w a (list F).length (list F)) (hc:w.cell? ⟨G,0,none⟩=some (ZY word)) (hG:G<w.heap.size)=>contains_any a (list F).length c (list F) word G w hv l2 l3 hc hG);clear l1 l2 l3;generalize list F=L at *;go_enter Tryz.func117,Tryz.ntmps117;go_wp2_with fail
 have hbw:=Bx ((((An _ _).alloc (Db _) (.cells #[ZY r.m,ZY r.x,ZZ ZS r.k,.slice fa r.fs.length fc,ZW r.ch,.slice ba r.body.length bc,.slice ta r.ts.length tc] 58)).alloc (by simp) (.cells #[ZY word] 9)):Below w.heap.size w _);have hcell:((w.alloc (.cells #[ZY r.m,ZY r.x,ZZ ZS r.k,.slice fa r.fs.length fc,ZW r.ch,.slice ba r.body.length bc,.slice ta r.ts.length tc] 58)).alloc (.cells #[ZY word] 9)).cell? ⟨w.heap.size+1,0,none⟩=some (ZY word):=(Bk.new (w.alloc (.cells #[ZY r.m,ZY r.x,ZZ ZS r.k,.slice fa r.fs.length fc,ZW r.ch,.slice ba r.body.length bc,.slice ta r.ts.length tc] 58)) (w.heap.size+1) (by simp) 9 [ZY word]).c 0 _ rfl;have hcl:w.heap.size+1<((w.alloc (.cells #[ZY r.m,ZY r.x,ZZ ZS r.k,.slice fa r.fs.length fc,ZW r.ch,.slice ba r.body.length bc,.slice ta r.ts.length tc] 58)).alloc (.cells #[ZY word] 9)).heap.size:=by simp
 have HCE:=Bx hcell;have HCL:=Bx hcl;clear hcell hcl
 go_wp2_with (first
  |(go_at_call 99;with_reducible refine (HFd.out _ (HV.out.below hbw.out)).mono ?_;rintro e w1 ⟨b1,m1,c1,rfl,rfl,hS1,hb1⟩
    have HS1:=Bx hS1;have HB1:=Bx (Al hbw.out hb1);have HCE1:=Bx ((hb1.cell (p:=⟨w.heap.size+1,0,none⟩) HCL.out).trans HCE.out);have HCL1:=Bx (Df HCL.out hb1.size);clear hS1 hb1)
  |(go_at_call 163;with_reducible refine (HLi.out _ _ _ HS1.out).mono ?_;rintro e w2 ⟨b2,m2,c2,rfl,rfl,hS2,hb2⟩
    have HS2:=Bx hS2;have HB2:=Bx (Al HB1.out hb2);have HCE2:=Bx ((hb2.cell (p:=⟨w.heap.size+1,0,none⟩) HCL1.out).trans HCE1.out);have HCL2:=Bx (Df HCL1.out hb2.size);clear hS2 hb2)
  |(go_at_call 164;with_reducible refine (HCo.out _ _ _ _ HS2.out HCE2.out HCL2.out).mono ?_;rintro e w3 ⟨rfl,hb3⟩))
 go_ret;exact ⟨rfl,Al HB2.out hb3⟩
theorem expects_any (V:Value) (r:R) (w:World) (h:Reads w V r) (hf:Fit r):Calls EW 75 #[V] w λe w'=>e=.returned (ZW (expects r))/\Below w.heap.size w w':=by
 have HC:=Bx (λw (h:Reads w V r)=>says_any V r expectN contW w h hf);have HV:=Bx h;unfold expects;generalize one (list (find r.fs expectN)) contW=a1 at *;obtain ⟨fa,fc,ba,bc,ta,tc,rfl,h1,h2,h3⟩:=h;clear h1 h2 h3 hf
 have hbw:=Bx (((An _ _).alloc (Db _) (.cells #[ZY r.m,ZY r.x,ZZ ZS r.k,.slice fa r.fs.length fc,ZW r.ch,.slice ba r.body.length bc,.slice ta r.ts.length tc] 58)):Below w.heap.size w _);by_cases hk0:r.k=1
 ·have t0:(r.k==1)=true:=by rw [hk0];rfl
  rw [decide_eq_true hk0];clear hk0;go_enter Tryz.func75,Tryz.ntmps75
  go_wp2_with (go_at_call 117;with_reducible refine (HC.out _ (HV.out.below hbw.out)).mono ?_;rintro e w1 ⟨rfl,hb1⟩);go_ret;exact ⟨rfl,Al hbw.out hb1⟩
 ·have t0:(r.k==1)=false:=decide_eq_false hk0;rw [decide_eq_false hk0];clear hk0;go_enter Tryz.func75,Tryz.ntmps75;go_wp2;go_ret;exact ⟨rfl,hbw.out⟩
end
end Go.Proofs.YtdfabddnpgjepaaGreatDoor.Rec
namespace Go.Proofs.YtdfabddnpgjepaaGreatDoor.Rec
open Go.RowKit Base Txt
abbrev byteV (c:UInt8):Value:=ZZ ZR (c.toNat:Int)
def vals (l:List UInt8):List Value:=l.map byteV
theorem vals_app (a b:List UInt8):vals (a++b)=vals a++vals b:=List.map_append
theorem vals_length (a:List UInt8):(vals a).length=a.length:=Cw _
theorem vals_one (l:List UInt8):∀u∈vals l,u.oneCell'=true:=by intro u hu;obtain ⟨b,_,rfl⟩:=List.mem_map.1 hu;rfl
theorem vals_lie {w:World} {a:Option Addr} {n:Nat} {l:List UInt8} (h:Nums .u8 w a n (nums l)):0<n->∃b off,a=some ⟨b,off,none⟩/\∀j u,(vals l)[j]?=some u->w.cell? ⟨b,off+j,none⟩=some u:=by
 intro hn;obtain ⟨b,off,rfl,_,hc⟩:=h.2 hn;refine ⟨b,off,rfl,λj u hu=>?_⟩;have hl:l.length=n:=by have:=h.1;rwa [nums,Cw] at this
 have hj:j<l.length:=by
  rcases Dg j l.length with h | h
  ·exact h
  ·rw [List.getElem?_eq_none (by rw [vals_length];exact h)] at hu;cases hu
 rw [hc j (by omega),nums_at l j hj];rw [vals,Cd,Ca hj] at hu;exact hu
theorem nums_of_own {w:World} {base:Nat} {v:Value} {n:Nat} {bs:List UInt8} {e:TypeId} (h:w.ownsRow base e 1 v n (vals bs)):∃A c,v=.slice A n c/\Nums .u8 w A n (Txt.nums bs):=by
 have hl:bs.length=n:=by simpa [vals_length] using h.1
 rcases h.2 with ⟨rfl,rfl⟩ | ⟨g,cap,cur,rfl,_,hh,_,hc,_,ht⟩
 ·obtain rfl:bs= []:=List.length_eq_zero_iff.1 hl;exact ⟨none,0,rfl,Nums.nil _ _ _⟩
 ·refine ⟨_,_,rfl,⟨by rw [Txt.nums,Cw];exact hl,λ_=>⟨g,0,rfl,?_,λk hk=>?_⟩⟩⟩
  ·exact XXPZ2
  ·rw [Di,cell_of_row w g k cur e (0,0) hh,Txt.nums_at bs k (by omega)];have h1:(vals bs)[k]?=some (byteV bs[k]):=by
    rw [vals,Cd,Ca (by omega)];rfl
   rw [←ht,List.getElem?_take_of_lt (by omega)] at h1;simpa using h1
theorem put7 {w0 w:World} {B g:Nat} {zs:List Value} (hZ:Bk w g zs) (hl:zs.length=7) (hb:Below B w0 w) (hg:B<=g) (v0 v1 v2 v3 v4 v5 v6:Value) :
 ∃W,((((((w.setCell ⟨g,0,none⟩ v0).setCell ⟨g,1,none⟩ v1).setCell ⟨g,2,none⟩ v2).setCell ⟨g,3,none⟩ v3).setCell ⟨g,4,none⟩ v4).setCell ⟨g,5,none⟩ v5).setCell ⟨g,6,none⟩ v6=W/\Bk W g [v0,v1,v2,v3,v4,v5,v6]/\Below B w0 W/\W.heap.size=w.heap.size/\
  (∀(base:Nat) (e:TypeId) (size:Nat) (v:Value) (n:Nat) (xs:List Value),w.ownsRow base e size v n xs->v.ownBlock≠some g->W.ownsRow base e size v n xs)/\∀(g':Nat) (vs:List Value),¬g'=g->Bk w g' vs->Bk W g' vs:=by
 obtain ⟨z0,z1,z2,z3,z4,z5,z6,rfl⟩:∃z0 z1 z2 z3 z4 z5 z6,zs= [z0,z1,z2,z3,z4,z5,z6]:=by
  match zs,hl with
  | [a,b,c,d,e,f,g],_=>exact ⟨a,b,c,d,e,f,g,rfl⟩
 refine ⟨_,rfl,?_,((((((hb.setCell hg _).setCell hg _).setCell hg _).setCell hg _).setCell hg _).setCell hg _).setCell hg _,by simp,?_,?_⟩
 ·exact ((((((hZ.set 0 v0 (by simp)).set 1 v1 (by simp)).set 2 v2 (by simp)).set 3 v3 (by simp)).set 4 v4 (by simp)).set 5 v5 (by simp)).set 6 v6 (by simp)
 ·intro base e size v n xs h hne;exact ownsRow_setCell_other (ownsRow_setCell_other (ownsRow_setCell_other (ownsRow_setCell_other (ownsRow_setCell_other (ownsRow_setCell_other (ownsRow_setCell_other h hne _) hne _) hne _) hne _) hne _) hne _) hne _
 ·intro g' vs hne h;have hne':¬g=g':=λe=>hne e.symm;exact ((((((h.other g 0 v0 hne').other g 1 v1 hne').other g 2 v2 hne').other g 3 v3 hne').other g 4 v4 hne').other g 5 v5 hne').other g 6 v6 hne'
structure Owns (w:World) (B:Nat) (fa:Option Addr) (fc:Nat) (ba:Option Addr) (bc:Nat) (ta:Option Addr) (tc:Nat) (r:R):Prop where
 f:w.ownsRow B 126 2 (.slice fa r.fs.length fc) r.fs.length (cells r.fs)
 b:w.ownsRow B 5 1 (.slice ba r.body.length bc) r.body.length (vals r.body)
 t:w.ownsRow B 126 2 (.slice ta r.ts.length tc) r.ts.length (cells r.ts)
 fb:∀g,(Value.slice fa r.fs.length fc).ownBlock=some g->(Value.slice ba r.body.length bc).ownBlock≠some g
 ft:∀g,(Value.slice fa r.fs.length fc).ownBlock=some g->(Value.slice ta r.ts.length tc).ownBlock≠some g
 bt:∀g,(Value.slice ba r.body.length bc).ownBlock=some g->(Value.slice ta r.ts.length tc).ownBlock≠some g
section
set_option maxHeartbeats 1000000
end
end Go.Proofs.YtdfabddnpgjepaaGreatDoor.Rec
namespace Go.Proofs.YtdfabddnpgjepaaGreatDoor.Mem
open Go.RowKit Base
def Lone (L:List (Option Nat)):Prop:=∀i j k:Nat,L[i]?=some (some k)->L[j]?=some (some k)->i=j
def In (w:World) (L:List (Option Nat)):Prop:=∀k,some k∈L->k<w.heap.size
def Of (w:World) (L L':List (Option Nat)):Prop:=∀k,some k∈L'->some k∈L∨w.heap.size<=k
structure Keeps (L:List (Option Nat)) (w w':World):Prop where
 os:w'.os=w.os
 tape:w'.tape=w.tape
 output:w'.output=w.output
 size:w.heap.size<=w'.heap.size
 block:∀k,k<w.heap.size->some k∉L->w'.heap[k]?=w.heap[k]?
section
variable {L L' L'':List (Option Nat)} {w w' w'':World} {B:Nat}
theorem Lone.ne (h:Lone L) {i j k:Nat} (hi:L[i]?=some (some k)) (hij:i≠j):L[j]?≠some (some k):=λhj=>hij (h i j k hi hj)
theorem Lone.set (h:Lone L) (hin:In w L) (i:Nat) (o:Option Nat) (ho:o=none∨L[i]?=some o∨∃k,o=some k/\w.heap.size<=k):Lone (L.set i o):=by
 have key:∀a b k,a≠b->(L.set i o)[a]?=some (some k)->(L.set i o)[b]?=some (some k)->a=i->False:=by
  intro a b k hab ha hb hai;subst hai;rw [List.getElem?_set_ne hab] at hb;have hlt:a<L.length:=by
   rcases Dg a L.length with h | h
   ·exact h
   ·rw [List.getElem?_eq_none (by simpa using h)] at ha;cases ha
  rw [List.getElem?_set_self hlt] at ha;obtain rfl:o=some k:=Du.inj ha;rcases ho with ho | ho | ⟨k',ho,hk⟩
  ·cases ho
  ·exact hab (h a b k ho hb)
  ·obtain rfl:k=k':=Du.inj ho
   have:=hin k (C8 hb);omega
 intro a b k ha hb;by_cases hab:a=b
 ·exact hab
 ·by_cases hai:a=i
  ·exact (key a b k hab ha hb hai).elim
  ·by_cases hbi:b=i
   ·exact (key b a k (λe=>hab e.symm) hb ha hbi).elim
   ·rw [List.getElem?_set_ne (λe=>hai e.symm)] at ha;rw [List.getElem?_set_ne (λe=>hbi e.symm)] at hb;exact h a b k ha hb
theorem Of.refl:Of w L L:=λ_ h=>.inl h
theorem Of.trans (h:Of w L L') (h':Of w' L' L'') (hs:w.heap.size<=w'.heap.size):Of w L L'':=λk hk=>by
 rcases h' k hk with h1 | h1
 ·exact h k h1
 ·exact .inr (by omega)
theorem Of.set (i:Nat) (o:Option Nat) (ho:o=none∨L[i]?=some o∨∃k,o=some k/\w.heap.size<=k):Of w L (L.set i o):=λk hk=>by
 rcases List.mem_or_eq_of_mem_set hk with h | h
 ·exact .inl h
 ·rcases ho with ho | ho | ⟨k',ho,hk⟩
  ·rw [ho] at h;cases h
  ·exact .inl (by rw [h];exact C8 ho)
  ·rw [ho] at h;cases h;exact .inr hk
theorem Keeps.refl:Keeps L w w:=⟨rfl,rfl,rfl,Db _,λ_ _ _=>rfl⟩
theorem Keeps.trans (h:Keeps L w w') (h':Keeps L' w' w'') (ho:Of w L L'):Keeps L w w'':=by
 refine ⟨h'.os.trans h.os,h'.tape.trans h.tape,h'.output.trans h.output,Dd h.size h'.size,λk hk hn=>?_⟩
 refine (h'.block k (Df hk h.size) λhm=>?_).trans (h.block k hk hn);rcases ho k hm with h1 | h1
 ·exact hn h1
 ·omega
theorem Keeps.mono (h:Keeps L w w') (hs:∀k,some k∈L->some k∈L'):Keeps L' w w':=⟨h.os,h.tape,h.output,h.size,λk hk hn=>h.block k hk λhm=>hn (hs k hm)⟩
theorem Keeps.below (h:Keeps L w w') (hB:B<=w.heap.size) (hL:∀k,some k∈L->B<=k):Below B w w':=
 ⟨h.os,h.tape,h.output,h.size,λk hk=>h.block k (by omega) λhm=>by have:=hL k hm;omega⟩
theorem Keeps.of_below (h:Below w.heap.size w w'):Keeps L w w':=⟨h.os,h.tape,h.output,h.size,λk hk _=>h.block k hk⟩
theorem Keeps.set (g k:Nat) (v:Value) (hg:some g∈L):Keeps L w (w.setCell ⟨g,k,none⟩ v):=
 ⟨rfl,rfl,rfl,by simp,λj _ hn=>Below.heap_setCell _ _ _ _ (λe=>hn (by rw [e];exact hg))⟩
theorem Keeps.grown {o:Option Nat} (h:w.grownBy w' o) (ho:∀k,o=some k->some k∈L):Keeps L w w':=
 ⟨h.os,h.tape,h.output,h.size,λk hk hn=>h.block k hk λe=>hn (ho k e.symm)⟩
theorem Keeps.of_kept {g:Nat} {o:Option Nat} (h:Ln.Kept g o w w') (hg:some g∈L) (ho:∀k,o=some k->some k∈L):Keeps L w w':=
 ⟨h.os,h.tape,h.output,h.size,λk hk hn=>h.block k hk (λe=>hn (by rw [e];exact hg)) λe=>hn (ho k e.symm)⟩
theorem Keeps.cell (h:Keeps L w w') {p:Addr} (hp:p.block<w.heap.size) (hn:some p.block∉L):w'.cell? p=w.cell? p:=by unfold World.cell?;rw [h.block _ hp hn]
theorem Keeps.row (h:Keeps L w w') {j:Nat} {cs:Array Value} {ty:TypeId} (hr:w.heap[j]?=some (.cells cs ty (0,0))) (hn:some j∉L):w'.heap[j]?=some (.cells cs ty (0,0)):=(h.block j (Ln.row_lt hr) hn).trans hr
theorem Keeps.own (h:Keeps L w w') {e:TypeId} {size:Nat} {v:Value} {n:Nat} {xs:List Value} (hv:w.ownsRow B e size v n xs) (hn:∀k,v.ownBlock=some k->some k∉L):w'.ownsRow B e size v n xs:=by
 refine ⟨hv.1,?_⟩;rcases hv.2 with h0 | ⟨b,cap,cur,rfl,hb,hgg,rest⟩
 ·exact .inl h0
 ·refine .inr ⟨b,cap,cur,rfl,hb,?_,rest⟩;rw [h.block b (Ln.row_lt hgg) (hn b (by simp [Value.ownBlock]))];exact hgg
theorem In.mono (h:In w L) (hs:w.heap.size<=w'.heap.size):In w' L:=λk hk=>Df (h k hk) hs
end
structure Zone where
 b:Nat
 z:List (Option Nat)
instance:CoeOut Zone Nat:=⟨Zone.b⟩
structure Clear (w:World) (Z L:List (Option Nat)):Prop where
 inz:∀k,some k∈Z->k<w.heap.size
 off:∀k,some k∈L->some k∉Z
theorem Clear.of {w w':World} {Z L L':List (Option Nat)} (h:Clear w Z L) (hs:w.heap.size<=w'.heap.size) (ho:Of w L L'):Clear w' Z L':=
 ⟨λk hk=>Df (h.inz k hk) hs,λk hk hz=>by
   rcases ho k hk with e | e
   ·exact h.off k e hz
   ·have:=h.inz k hz;omega⟩
theorem Clear.nil {w:World} {L:List (Option Nat)}:Clear w [] L:=⟨(λk hk=>by cases hk),(λk _ hz=>by cases hz)⟩
def slot:Value->Option Nat
 | .slice (some a) _ _=>some a.block
 | _=>none
def blocks:Value->List (Option Nat)
 | .agg cs=>cs.toList.map slot
 | _=> []
structure Far (L Z:List (Option Nat)) (w:World) (V:Value) (r:D7):Prop where
 reads:Rec.Reads w V r
 far:∀k,some k∈blocks V->some k∉L/\k<w.heap.size
 off:∀k,some k∈blocks V->some k∉Z
section
variable {L L' Z:List (Option Nat)} {w w':World} {V:Value} {r:D7}
theorem XX1Rn {P:Prop} (h:P:=by
 refine ⟨h.1,λh0=>?_⟩;obtain ⟨b,off,rfl,hlt,hc⟩:=h.2 h0;have hb:some b∉L:=by
  rcases hn 0 with e | ⟨k,e,hk⟩
  ·cases e
  ·cases e;exact hk
 first
  |exact ⟨b,off,rfl,Df hlt hk.size,λk hkn=>⟨(hk.cell (p:=⟨b,off+k*2,none⟩) hlt hb).trans (hc k hkn).1,(hk.cell (p:=⟨b,off+k*2+1,none⟩) hlt hb).trans (hc k hkn).2⟩⟩
  |exact ⟨b,off,rfl,Df hlt hk.size,λk hkn=>(hk.cell (p:=⟨b,off+k,none⟩) hlt hb).trans (hc k hkn)⟩):P:=h
theorem flds_keeps {a:Option Addr} {n:Nat} {fs:List Txt.Fld} (h:Txt.Flds w a n fs) (hk:Keeps L w w') (hn:∀c,slot (.slice a n c)=none∨∃k,slot (.slice a n c)=some k/\some k∉L):Txt.Flds w' a n fs:=by exact XX1Rn
theorem nums_keeps {a:Option Addr} {n:Nat} {kd:IntKind} {zs:List Int} (h:Nums kd w a n zs) (hk:Keeps L w w') (hn:∀c,slot (.slice a n c)=none∨∃k,slot (.slice a n c)=some k/\some k∉L):Nums kd w' a n zs:=by exact XX1Rn
theorem Far.keeps (h:Far L Z w V r) (hk:Keeps L w w'):Far L Z w' V r:=by
 refine ⟨?_,λk hb=>⟨(h.far k hb).1,Df (h.far k hb).2 hk.size⟩,h.off⟩;obtain ⟨fa,fc,ba,bc,ta,tc,rfl,h1,h2,h3⟩:=h.reads;have hf:=h.far;simp only [blocks,List.map_cons,List.map_nil,C6,CD,or_false] at hf;have key:∀(a:Option Addr) (n c:Nat),(∀k,some k=slot (.slice a n c)->some k∉L/\k<w.heap.size)->∀c',slot (.slice a n c')=none∨∃k,slot (.slice a n c')=some k/\some k∉L:=by
  intro a n c h c';cases a with
  | none=>exact .inl rfl
  | some a=>exact .inr ⟨a.block,rfl,(h a.block rfl).1⟩
 refine ⟨fa,fc,ba,bc,ta,tc,rfl,flds_keeps h1 hk (key _ _ fc λk e=>hf k ?_),nums_keeps h2 hk (key _ _ bc λk e=>hf k ?_),flds_keeps h3 hk (key _ _ tc λk e=>hf k ?_)⟩
 ·rw [e];simp
 ·rw [e];simp
 ·rw [e];simp
theorem Far.of (h:Far L Z w V r) (ho:∀k,some k∈L'->some k∈L∨w.heap.size<=k):Far L' Z w V r:=
 ⟨h.reads,λk hb=>⟨λhm=>by
   have:=h.far k hb;rcases ho k hm with h1 | h1
   ·exact this.1 h1
   ·omega,(h.far k hb).2⟩,h.off⟩
end
end Go.Proofs.YtdfabddnpgjepaaGreatDoor.Mem
namespace Go.Proofs.YtdfabddnpgjepaaGreatDoor.Par
open Go.RowKit Base Txt Mem
theorem row_cellL {w:World} {g k:Nat} {l:List Value} {ty:TypeId} (h:w.heap[g]?=some (.cells l.toArray ty (0,0))) {v:Value} (hk:l[k]?=some v):w.cell? ⟨g,k,none⟩=some v:=Ln.row_cell h (by rw [Cg];exact hk)
theorem row_setL {w:World} {g:Nat} {l:List Value} {ty:TypeId} (h:w.heap[g]?=some (.cells l.toArray ty (0,0))) (k:Nat) (v:Value):(w.setCell ⟨g,k,none⟩ v).heap[g]?=some (.cells (l.set k v).toArray ty (0,0)):=by rw [←CH];exact Ln.row_set h k v
abbrev ptr (g:Nat):Value:=ZV (some ⟨g,0,none⟩)
abbrev pcells (p:Nat) (b:Bd) (s:S) (q:Nat) (f bd t o:Value):List Value:=
 [ZZ ZQ (p:Int),ZZ ZS b.x0,ZZ ZS b.x1,ZZ ZS b.x2,ZZ ZS b.x3,ZZ ZS b.x4,ZZ ZS b.x5,ZZ ZS b.x6,ZZ ZS b.x7,ZW b.ch,ZW b.od,ZZ ZS (s.st:Int),ptr q,
   ZY s.r.m,ZY s.r.x,ZZ ZS s.r.k,f,ZW s.r.ch,bd,t,ZZ ZS (s.lines:Int),ZZ ZS (s.head:Int),ZZ ZS (s.left:Int),ZW s.fresh,ZW s.clean,ZZ ZS (s.e:Int),o]
abbrev blks (g q:Nat) (v f bd t o:Value):List (Option Nat):= [some g,some q,v.ownBlock,f.ownBlock,bd.ownBlock,t.ownBlock,o.ownBlock]
def Outs (L:List (Option Nat)) (B:Zone) (w:World) (o:Value) (out:List D7):Prop:=
 ∃ps:List (Array Value × D7),ps.map (·.2)=out/\(∀x∈ps,x.1.size=7/\Far L B.z w (ZU x.1) x.2)/\w.ownsRow B 58 7 o out.length (ps.flatMap (·.1.toList))
structure Own (w:World) (B:Zone) (g q:Nat) (v f bd t o:Value) (p:Nat) (rd:Ln.R) (fs:List Fld) (body:List UInt8) (ts:List Fld) (out:List D7):Prop where
 R:Ln.Rr w B q v p rd
 F:w.ownsRow B 126 2 f fs.length (cells fs)
 D:w.ownsRow B 5 1 bd body.length (Rec.vals body)
 T:w.ownsRow B 126 2 t ts.length (cells ts)
 O:Outs (blks g q v f bd t o) B w o out
 lone:Lone (blks g q v f bd t o)
 ge:B<=g
 lt:g<w.heap.size
 zone:Clear w B.z (blks g q v f bd t o)
structure PR (w:World) (B:Zone) (g q:Nat) (v f bd t o:Value) (p:Nat) (b:Bd) (s:S):Prop where
 row:w.heap[g]?=some (.cells (pcells p b s q f bd t o).toArray 60 (0,0))
 own:Own w B g q v f bd t o p s.rd s.r.fs s.r.body s.r.ts s.out
section
variable {w w':World} {B:Zone} {g q:Nat} {v f bd t o:Value} {p:Nat} {b:Bd} {s:S} {rd:Ln.R} {fs ts:List Fld} {body:List UInt8} {out:List D7} {L:List (Option Nat)}
theorem Outs.keeps (h:Outs L B w o out) {L2:List (Option Nat)} (hk:Keeps L2 w w') (hs:∀k,some k∈L2->some k∈L) (ho:∀k,o.ownBlock=some k->some k∉L2):Outs L B w' o out:=by obtain ⟨ps,h1,h2,h3⟩:=h;exact ⟨ps,h1,λx hx=>⟨(h2 x hx).1,(h2 x hx).2.keeps (hk.mono hs)⟩,hk.own h3 ho⟩
theorem Own.in (h:Own w B g q v f bd t o p rd fs body ts out):In w (blks g q v f bd t o):=by
 intro k hk;simp only [C6,CD,or_false,Du.injEq] at hk;obtain ⟨ps,h1,h2,h3⟩:=h.O;rcases hk with rfl | rfl | hk | hk | hk | hk | hk
 ·exact h.lt
 ·exact Ln.row_lt h.R.row
 ·exact (FU h.R.own k hk.symm).2
 ·exact (FU h.F k hk.symm).2
 ·exact (FU h.D k hk.symm).2
 ·exact (FU h.T k hk.symm).2
 ·exact (FU h3 k hk.symm).2
theorem Own.low (h:Own w B g q v f bd t o p rd fs body ts out):∀k,some k∈blks g q v f bd t o->B<=k:=by
 intro k hk;simp only [C6,CD,or_false,Du.injEq] at hk;obtain ⟨ps,h1,h2,h3⟩:=h.O;rcases hk with rfl | rfl | hk | hk | hk | hk | hk
 ·exact h.ge
 ·exact h.R.ge
 ·exact (FU h.R.own k hk.symm).1
 ·exact (FU h.F k hk.symm).1
 ·exact (FU h.D k hk.symm).1
 ·exact (FU h.T k hk.symm).1
 ·exact (FU h3 k hk.symm).1
theorem Own.set (h:Own w B g q v f bd t o p rd fs body ts out) (k:Nat) (u:Value):Own (w.setCell ⟨g,k,none⟩ u) B g q v f bd t o p rd fs body ts out:=by
 have hk:Keeps [some g] w (w.setCell ⟨g,k,none⟩ u):=Keeps.set g k u (by simp);have hn:∀i j,i≠0->(blks g q v f bd t o)[i]?=some (some j)->some j∉ [some g]:=λi j hi hj hm=>by
  have e:j=g:=by simpa using hm
  rw [e] at hj
  exact hi (h.lone i 0 g hj rfl)
 exact ⟨⟨hk.row h.R.row (hn 1 q (by decide) rfl),hk.own h.R.own λj e=>hn 2 j (by decide) (by rw [←e];rfl),h.R.ge,h.R.ne⟩,
  hk.own h.F λj e=>hn 3 j (by decide) (by rw [←e];rfl),hk.own h.D λj e=>hn 4 j (by decide) (by rw [←e];rfl),hk.own h.T λj e=>hn 5 j (by decide) (by rw [←e];rfl),
  h.O.keeps hk (λj hj=>by obtain rfl:j=g:=by simpa using hj
                          simp) λj e=>hn 6 j (by decide) (by rw [←e];rfl),
  h.lone,h.ge,by simpa using h.lt,h.zone.of hk.size Of.refl⟩
theorem Own.below (h:Own w B g q v f bd t o p rd fs body ts out) (hb:Below w.heap.size w w'):Own w' B g q v f bd t o p rd fs body ts out:=by have hk:Keeps [] w w':=Keeps.of_below hb;refine ⟨⟨hk.row h.R.row (by simp),hk.own h.R.own (by simp),h.R.ge,h.R.ne⟩,hk.own h.F (by simp),hk.own h.D (by simp),hk.own h.T (by simp),h.O.keeps hk (by simp) (by simp),h.lone,h.ge,Df h.lt hb.size,h.zone.of hb.size Of.refl⟩
theorem PR.below (h:PR w B g q v f bd t o p b s) (hb:Below w.heap.size w w'):PR w' B g q v f bd t o p b s:=
 ⟨(hb.block g h.own.lt).trans h.row,h.own.below hb⟩
theorem PR.drew (h:PR w B g q v f bd t o p b s) (n:Nat):PR (w.drewN n) B g q v f bd t o p b s:=h.below (Ak (An _ _) n)
theorem PR.put (h:PR w B g q v f bd t o p b s) (k:Nat) (u:Value) (s':S) (hc:(pcells p b s q f bd t o).set k u=pcells p b s' q f bd t o) (hd:s'.rd=s.rd) (h1:s'.r.fs=s.r.fs) (h2:s'.r.body=s.r.body) (h3:s'.r.ts=s.r.ts) (h4:s'.out=s.out) :
 PR (w.setCell ⟨g,k,none⟩ u) B g q v f bd t o p b s':=by
 refine ⟨?_,?_⟩
 ·rw [←hc,←CH];exact Ln.row_set h.row k u
 ·rw [hd,h1,h2,h3,h4];exact h.own.set k u
theorem _root_.Go.Proofs.YtdfabddnpgjepaaGreatDoor.XXVVx {P:Prop} (h:P:=by
 have hsub:∀k,some k∈blks g q v (ZX none 0 0) (ZX none 0 0) (ZX none 0 0) o->some k∈blks g q v f bd t o:=by
  intro k hk;simp only [C6,CD,or_false,Value.ownBlock,reduceCtorEq,false_or] at hk ⊢;rcases hk with hk | hk | hk | hk
  ·exact .inl hk
  ·exact .inr (.inl hk)
  ·exact .inr (.inr (.inl hk))
  ·exact .inr (.inr (.inr (.inr (.inr (.inr hk)))))
 obtain ⟨ps,h1,h2,h3⟩:=h.O;refine ⟨h.R,FV _ _ _ _,FV _ _ _ _,FV _ _ _ _,⟨ps,h1,λx hx=>⟨(h2 x hx).1,(h2 x hx).2.of λk hk=>.inl (hsub k hk)⟩,h3⟩,?_,h.ge,h.lt,h.zone.of (Db _) λk hk=>.inl (hsub k hk)⟩;have e:blks g q v (ZX none 0 0) (ZX none 0 0) (ZX none 0 0) o=(((blks g q v f bd t o).set 3 none).set 4 none).set 5 none:=rfl;rw [e]
 exact ((h.lone.set h.in 3 none (.inl rfl)).set (λk hk=>h.in k (by
  rcases List.mem_or_eq_of_mem_set hk with hk | hk
  ·exact hk
  ·cases hk)) 4 none (.inl rfl)).set (λk hk=>h.in k (by
  rcases List.mem_or_eq_of_mem_set hk with hk | hk
  ·rcases List.mem_or_eq_of_mem_set hk with hk | hk
   ·exact hk
   ·cases hk
  ·cases hk)) 5 none (.inl rfl)):P:=h
theorem Own.zero (h:Own w B g q v f bd t o p rd fs body ts out):Own w B g q v (ZX none 0 0) (ZX none 0 0) (ZX none 0 0) o p rd [] [] [] out:=by exact XXVVx
theorem _root_.Go.Proofs.YtdfabddnpgjepaaGreatDoor.XXCuB {P:Prop} (h:P:=by
 rw [e];intro i j k hi hj
 have hL:=h.lone.set h.in 1 (some q1) (.inr (.inr ⟨q1,rfl,hq⟩));have hi':((blks g q v f bd t o).set 1 (some q1))[i]?=some (some k):=by
  by_cases e2:2=i
  ·subst e2;simp at hi
  ·rwa [List.getElem?_set_ne e2] at hi
 have hj':((blks g q v f bd t o).set 1 (some q1))[j]?=some (some k):=by
  by_cases e2:2=j
  ·subst e2;simp at hj
  ·rwa [List.getElem?_set_ne e2] at hj
 exact hL i j k hi' hj'):P:=h
theorem Own.line (h:Own w B g q v f bd t o p rd fs body ts out) (hb:Below w.heap.size w w') {q1:Nat} {rd1:Ln.R} (hr:Ln.Rr w' B q1 (ZX none 0 0) p rd1) (hq:w.heap.size<=q1):Own w' B g q1 (ZX none 0 0) f bd t o p rd1 fs body ts out:=by
 have e:blks g q1 (ZX none 0 0) f bd t o=((blks g q v f bd t o).set 1 (some q1)).set 2 none:=rfl;have hof:Of w (blks g q v f bd t o) (blks g q1 (ZX none 0 0) f bd t o):=by
  rw [e]
  exact (Of.set 1 (some q1) (.inr (.inr ⟨q1,rfl,hq⟩))).trans (Of.set 2 none (.inl rfl)) (Db _)
 have hw:=h.below hb;obtain ⟨ps,h1,h2,h3⟩:=h.O;have hk:Keeps (blks g q1 (ZX none 0 0) f bd t o) w w':=Keeps.of_below hb;refine ⟨hr,hw.F,hw.D,hw.T,⟨ps,h1,λx hx=>⟨(h2 x hx).1,((h2 x hx).2.of hof).keeps hk⟩,by obtain ⟨ps',h1',h2',h3'⟩:=hw.O;exact (Keeps.of_below hb:Keeps [] w w').own h3 (by simp)⟩,?_,h.ge,hw.lt,h.zone.of hb.size hof⟩;exact XXCuB
theorem PR.line (h:PR w B g q v f bd t o p b s) (hb:Below w.heap.size w w') {q1:Nat} {rd1:Ln.R} (hr:Ln.Rr w' B q1 (ZX none 0 0) p rd1) (hq:w.heap.size<=q1):PR (w'.setCell ⟨g,12,none⟩ (ptr q1)) B g q1 (ZX none 0 0) f bd t o p b {s with rd:=rd1}:=
 ⟨row_setL ((hb.block g h.own.lt).trans h.row) 12 (ptr q1),(h.own.line hb hr hq).set 12 (ptr q1)⟩
theorem slot_own {w:World} {B:Zone} {e:TypeId} {size:Nat} {v:Value} {n:Nat} {xs:List Value} (h:w.ownsRow B e size v n xs):slot v=v.ownBlock:=by rcases h.2 with ⟨rfl,_⟩ | ⟨g,cap,cur,rfl,_⟩<;>rfl
theorem _root_.Go.Proofs.YtdfabddnpgjepaaGreatDoor.XXJML {P:Prop} (h:P:=by
 simp only [C6,CD,or_false,reduceCtorEq,false_or] at hb;have key:∀i,i≠0->i≠1->i≠2->i≠6->(blks g q v f bd t o)[i]?=some (some k)->some k∉blks g q v (ZX none 0 0) (ZX none 0 0) (ZX none 0 0) o'/\k<w'.heap.size:=by
  intro i i0 i1 i2 i6 hi
  have hlt:=hin k (C8 hi);refine ⟨λhm=>?_,Df hlt hk.size⟩;rcases hsub k hm with (e | e | e | e) | e
  ·exact i0 (h.lone i 0 k hi (by rw [e];rfl))
  ·exact i1 (h.lone i 1 k hi (by rw [e];rfl))
  ·exact i2 (h.lone i 2 k hi (by rw [e];rfl))
  ·exact i6 (h.lone i 6 k hi (by rw [e];rfl))
  ·omega
 rcases hb with hb | hb | hb
 ·exact key 3 (by decide) (by decide) (by decide) (by decide) (by rw [hb,e1];rfl)
 ·exact key 4 (by decide) (by decide) (by decide) (by decide) (by rw [hb,e2];rfl)
 ·exact key 5 (by decide) (by decide) (by decide) (by decide) (by rw [hb,e3];rfl)):P:=h
theorem _root_.Go.Proofs.YtdfabddnpgjepaaGreatDoor.XXlw6 {P:Prop} (h:P:=by
 intro k hk
 replace hk:some k∈ [some g,some q,v.ownBlock,none,none,none,o'.ownBlock]:=hk
 simp only [C6,CD,or_false,reduceCtorEq,false_or] at hk;rcases hk with hk | hk | hk | hk
 ·exact .inl (.inl hk)
 ·exact .inl (.inr (.inl hk))
 ·exact .inl (.inr (.inr (.inl hk)))
 ·rcases hor with e | e
  ·exact .inl (.inr (.inr (.inr (by rw [←e];exact hk))))
  ·rw [e] at hk;cases hk;exact .inr (Db _)):P:=h
theorem _root_.Go.Proofs.YtdfabddnpgjepaaGreatDoor.XXyOi {P:Prop} (h:P:=by
 have hz:=h.zero;have e:blks g q v (ZX none 0 0) (ZX none 0 0) (ZX none 0 0) o'=(blks g q v (ZX none 0 0) (ZX none 0 0) (ZX none 0 0) o).set 6 o'.ownBlock:=rfl;rw [e];refine hz.lone.set hz.in 6 _ ?_;rcases hor with e | e
 ·exact .inr (.inl (by rw [e];rfl))
 ·exact .inr (.inr ⟨_,e,Db _⟩)):P:=h
theorem _root_.Go.Proofs.YtdfabddnpgjepaaGreatDoor.XXNov {P:Prop} (h:P:=by
 simp only [C6,CD,or_false,reduceCtorEq,false_or] at hb;rcases hb with hb | hb | hb
 ·exact h.zone.off k (C8 (i:=3) (by rw [hb,e1];rfl))
 ·exact h.zone.off k (C8 (i:=4) (by rw [hb,e2];rfl))
 ·exact h.zone.off k (C8 (i:=5) (by rw [hb,e3];rfl))):P:=h
theorem _root_.Go.Proofs.YtdfabddnpgjepaaGreatDoor.XXq2s {P:Prop} (h:P:=by
 exact ⟨(hfar x hx).1,by
  have h2:=((hfar x hx).2.keeps hkL2)
  exact ⟨h2.reads,λk hb=>⟨λhm=>by
   rcases hof k hm with e | e
   ·exact (h2.far k hb).1 e
   ·exact absurd ((hfar x hx).2.far k hb).2 (by omega),(h2.far k hb).2⟩,h2.off⟩⟩):P:=h
theorem _root_.Go.Proofs.YtdfabddnpgjepaaGreatDoor.XXHi0 {P:Prop} (h:P:=by
 obtain ⟨A1,c1,e1,h1⟩:=Flds.of_own F';obtain ⟨A2,c2,e2,h2⟩:=Rec.nums_of_own D';obtain ⟨A3,c3,e3,h3⟩:=Flds.of_own T';subst e1 e2 e3
 exact ⟨_,_,_,_,_,_,rfl,h1,h2,h3⟩):P:=h
theorem _root_.Go.Proofs.YtdfabddnpgjepaaGreatDoor.XXZgq {P:Prop} (h:P:=by
 rcases hsub k hk with (e | e | e | e) | e
 ·exact .inl (by simp [e])
 ·exact .inl (by simp [e])
 ·exact .inl (by simp [e])
 ·exact .inl (by simp [e])
 ·exact .inr e):P:=h
theorem Own.push {r:D7} (h:Own w B g q v f bd t o p rd r.fs r.body r.ts out) (hg:w.grownBy w' o.ownBlock) {o':Value} (ps:List (Array Value × D7)) (hps:ps.map (·.2)=out) (hfar:∀x∈ps,x.1.size=7/\Far (blks g q v f bd t o) B.z w (ZU x.1) x.2)
 (ho:w'.ownsRow B 58 7 o' (out.length+1) (ps.flatMap (·.1.toList) ++ [ZY r.m,ZY r.x,ZZ ZS r.k,f,ZW r.ch,bd,t])) (hor:o'.ownBlock=o.ownBlock∨o'.ownBlock=some w.heap.size) :
 Own w' B g q v (ZX none 0 0) (ZX none 0 0) (ZX none 0 0) o' p rd [] [] [] (out ++ [r]):=by
 have hk:Keeps [o.ownBlock] w w':=Keeps.grown hg λk e=>by simp [e]
 have hn:∀i j,i≠6->(blks g q v f bd t o)[i]?=some (some j)->some j∉ [o.ownBlock]:=λi j hi hj hm=>by
  have e:some j=o.ownBlock:=by simpa using hm
  exact hi (h.lone i 6 j hj (by rw [e];rfl))
 have hin:=h.in
 have F':=hk.own h.F λj e=>hn 3 j (by decide) (by rw [←e];rfl)
 have D':=hk.own h.D λj e=>hn 4 j (by decide) (by rw [←e];rfl)
 have T':=hk.own h.T λj e=>hn 5 j (by decide) (by rw [←e];rfl);have hsub:∀k,some k∈blks g q v (ZX none 0 0) (ZX none 0 0) (ZX none 0 0) o'->(some k=some g∨some k=some q∨some k=v.ownBlock∨some k=o.ownBlock)∨w.heap.size<=k:=by exact XXlw6
 have hof:∀k,some k∈blks g q v (ZX none 0 0) (ZX none 0 0) (ZX none 0 0) o'->some k∈blks g q v f bd t o∨w.heap.size<=k:=λk hk=>by exact XXZgq
 have hkL2:Keeps (blks g q v f bd t o) w w':=hk.mono λk hk=>by
  have e:some k=o.ownBlock:=by simpa using hk
  simp [e]
 refine ⟨⟨hk.row h.R.row (hn 1 q (by decide) rfl),hk.own h.R.own λj e=>hn 2 j (by decide) (by rw [←e];rfl),h.R.ge,h.R.ne⟩,FV _ _ _ _,FV _ _ _ _,FV _ _ _ _,
  ⟨ps ++ [(#[ZY r.m,ZY r.x,ZZ ZS r.k,f,ZW r.ch,bd,t],r)],by rw [List.map_append,hps];rfl,λx hx=>?_,by rw [Cr,List.flatMap_append];simpa using ho⟩,?_,h.ge,Df h.lt hk.size,h.zone.of hk.size hof⟩
 ·rcases C3.1 hx with hx | hx
  ·exact XXq2s
  ·obtain rfl:x= _:=by simpa using hx
   refine ⟨rfl,?_,λk hb=>?_,λk hb=>?_⟩
   ·exact XXHi0
   ·have e1:=slot_own h.F;have e2:=slot_own h.D;have e3:=slot_own h.T
    replace hb:some k∈ [none,none,none,slot f,none,slot bd,slot t]:=hb
    exact XXJML
   ·have e1:=slot_own h.F;have e2:=slot_own h.D;have e3:=slot_own h.T
    replace hb:some k∈ [none,none,none,slot f,none,slot bd,slot t]:=hb
    exact XXNov
 ·exact XXyOi
structure Step (L L':List (Option Nat)) (w w':World):Prop where
 keeps:Keeps L w w'
 of:Of w L L'
theorem Step.refl:Step L L w w:=⟨Keeps.refl,Of.refl⟩
theorem Step.trans {L' L'':List (Option Nat)} {w'':World} (h:Step L L' w w') (h':Step L' L'' w' w''):Step L L'' w w'':=⟨h.keeps.trans h'.keeps h.of,h.of.trans h'.of h.keeps.size⟩
theorem Step.set (g k:Nat) (u:Value) (hg:some g∈L):Step L L w (w.setCell ⟨g,k,none⟩ u):=⟨Keeps.set g k u hg,Of.refl⟩
theorem Step.of_below (hb:Below w.heap.size w w'):Step L L w w':=⟨Keeps.of_below hb,Of.refl⟩
theorem Step.zero:Step (blks g q v f bd t o) (blks g q v (ZX none 0 0) (ZX none 0 0) (ZX none 0 0) o) w w:=⟨Keeps.refl,λk hk=>by
 simp only [C6,CD,or_false,Value.ownBlock,reduceCtorEq,false_or] at hk ⊢;rcases hk with hk | hk | hk | hk
 ·exact .inl (.inl hk)
 ·exact .inl (.inr (.inl hk))
 ·exact .inl (.inr (.inr (.inl hk)))
 ·exact .inl (.inr (.inr (.inr (.inr (.inr (.inr hk))))))⟩
theorem Step.line (hb:Below w.heap.size w w') {q1:Nat} (hq:w.heap.size<=q1):Step (blks g q v f bd t o) (blks g q1 (ZX none 0 0) f bd t o) w w':=⟨Keeps.of_below hb,by
 have e:blks g q1 (ZX none 0 0) f bd t o=((blks g q v f bd t o).set 1 (some q1)).set 2 none:=rfl;rw [e]
 exact (Of.set 1 (some q1) (.inr (.inr ⟨q1,rfl,hq⟩))).trans (Of.set 2 none (.inl rfl)) (Db _)⟩
theorem Step.push {o':Value} (hg:w.grownBy w' o.ownBlock) (hor:o'.ownBlock=o.ownBlock∨o'.ownBlock=some w.heap.size):Step (blks g q v f bd t o) (blks g q v (ZX none 0 0) (ZX none 0 0) (ZX none 0 0) o') w w':=⟨Keeps.grown hg λk e=>by simp [e],λk hk=>by
 replace hk:some k∈ [some g,some q,v.ownBlock,none,none,none,o'.ownBlock]:=hk
 simp only [C6,CD,or_false,reduceCtorEq,false_or] at hk;rcases hk with hk | hk | hk | hk
 ·exact .inl (by simp [hk])
 ·exact .inl (by simp [hk])
 ·exact .inl (by simp [hk])
 ·rcases hor with e | e
  ·rw [e] at hk;exact .inl (by simp [hk])
  ·rw [e] at hk;cases hk;exact .inr (Db _)⟩
theorem one_own {e:TypeId} {size:Nat} {u:Value} {n:Nat} {xs:List Value} (h:w.ownsRow B e size u n xs):u.oneCell'=true:=by rcases h.2 with ⟨rfl,_⟩ | ⟨g,cap,cur,rfl,_⟩<;>rfl
theorem _root_.Go.Proofs.YtdfabddnpgjepaaGreatDoor.XXNT9 {P:Prop} (h:P:=by
 rcases hor with e | e
 ·exact .inr (.inl (by rw [e];rfl))
 ·exact .inr (.inr e)):P:=h
theorem Own.setF (h:Own w B g q v f bd t o p rd fs body ts out) {f':Value} {fs':List Fld} (hk:Keeps [f.ownBlock] w w') (hr:w'.ownsRow B 126 2 f' fs'.length (cells fs')) (hor:f'.ownBlock=f.ownBlock∨∃k,f'.ownBlock=some k/\w.heap.size<=k) :
 Own w' B g q v f' bd t o p rd fs' body ts out/\Step (blks g q v f bd t o) (blks g q v f' bd t o) w w':=by
 have hn:∀i j,i≠3->(blks g q v f bd t o)[i]?=some (some j)->some j∉ [f.ownBlock]:=λi j hi hj hm=>by
  have e:some j=f.ownBlock:=by simpa using hm
  exact hi (h.lone i 3 j hj (by rw [e];rfl))
 have e:blks g q v f' bd t o=(blks g q v f bd t o).set 3 f'.ownBlock:=rfl;have ho:f'.ownBlock=none∨(blks g q v f bd t o)[3]?=some f'.ownBlock∨∃k,f'.ownBlock=some k/\w.heap.size<=k:=by exact XXNT9
 have hof:Of w (blks g q v f bd t o) (blks g q v f' bd t o):=by rw [e];exact Of.set 3 _ ho
 have hkL:Keeps (blks g q v f bd t o) w w':=hk.mono λk hk=>by
  have e:some k=f.ownBlock:=by simpa using hk
  simp [e]
 obtain ⟨ps,h1,h2,h3⟩:=h.O
 refine ⟨⟨⟨hk.row h.R.row (hn 1 q (by decide) rfl),hk.own h.R.own λj e=>hn 2 j (by decide) (by rw [←e];rfl),h.R.ge,h.R.ne⟩,hr,hk.own h.D λj e=>hn 4 j (by decide) (by rw [←e];rfl),hk.own h.T λj e=>hn 5 j (by decide) (by rw [←e];rfl),
  ⟨ps,h1,λx hx=>⟨(h2 x hx).1,by
    have hx2:=(h2 x hx).2.keeps hkL
    exact ⟨hx2.reads,λk hb=>⟨λhm=>by
     rcases hof k hm with e | e
     ·exact (hx2.far k hb).1 e
     ·exact absurd ((h2 x hx).2.far k hb).2 (by omega),(hx2.far k hb).2⟩,hx2.off⟩⟩,hk.own h3 λj e=>hn 6 j (by decide) (by rw [←e];rfl)⟩,?_,h.ge,Df h.lt hk.size,h.zone.of hk.size hof⟩,hkL,hof⟩
 rw [e];exact h.lone.set h.in 3 _ ho
theorem Own.setD (h:Own w B g q v f bd t o p rd fs body ts out) {bd':Value} {body':List UInt8} (hk:Keeps [bd.ownBlock] w w') (hr:w'.ownsRow B 5 1 bd' body'.length (Rec.vals body')) (hor:bd'.ownBlock=bd.ownBlock∨∃k,bd'.ownBlock=some k/\w.heap.size<=k) :
 Own w' B g q v f bd' t o p rd fs body' ts out/\Step (blks g q v f bd t o) (blks g q v f bd' t o) w w':=by
 have hn:∀i j,i≠4->(blks g q v f bd t o)[i]?=some (some j)->some j∉ [bd.ownBlock]:=λi j hi hj hm=>by
  have e:some j=bd.ownBlock:=by simpa using hm
  exact hi (h.lone i 4 j hj (by rw [e];rfl))
 have e:blks g q v f bd' t o=(blks g q v f bd t o).set 4 bd'.ownBlock:=rfl;have ho:bd'.ownBlock=none∨(blks g q v f bd t o)[4]?=some bd'.ownBlock∨∃k,bd'.ownBlock=some k/\w.heap.size<=k:=by exact XXNT9
 have hof:Of w (blks g q v f bd t o) (blks g q v f bd' t o):=by rw [e];exact Of.set 4 _ ho
 have hkL:Keeps (blks g q v f bd t o) w w':=hk.mono λk hk=>by
  have e:some k=bd.ownBlock:=by simpa using hk
  simp [e]
 obtain ⟨ps,h1,h2,h3⟩:=h.O
 refine ⟨⟨⟨hk.row h.R.row (hn 1 q (by decide) rfl),hk.own h.R.own λj e=>hn 2 j (by decide) (by rw [←e];rfl),h.R.ge,h.R.ne⟩,hk.own h.F λj e=>hn 3 j (by decide) (by rw [←e];rfl),hr,hk.own h.T λj e=>hn 5 j (by decide) (by rw [←e];rfl),
  ⟨ps,h1,λx hx=>⟨(h2 x hx).1,by
    have hx2:=(h2 x hx).2.keeps hkL
    exact ⟨hx2.reads,λk hb=>⟨λhm=>by
     rcases hof k hm with e | e
     ·exact (hx2.far k hb).1 e
     ·exact absurd ((h2 x hx).2.far k hb).2 (by omega),(hx2.far k hb).2⟩,hx2.off⟩⟩,hk.own h3 λj e=>hn 6 j (by decide) (by rw [←e];rfl)⟩,?_,h.ge,Df h.lt hk.size,h.zone.of hk.size hof⟩,hkL,hof⟩
 rw [e];exact h.lone.set h.in 4 _ ho
theorem Own.setT (h:Own w B g q v f bd t o p rd fs body ts out) {t':Value} {ts':List Fld} (hk:Keeps [t.ownBlock] w w') (hr:w'.ownsRow B 126 2 t' ts'.length (cells ts')) (hor:t'.ownBlock=t.ownBlock∨∃k,t'.ownBlock=some k/\w.heap.size<=k) :
 Own w' B g q v f bd t' o p rd fs body ts' out/\Step (blks g q v f bd t o) (blks g q v f bd t' o) w w':=by
 have hn:∀i j,i≠5->(blks g q v f bd t o)[i]?=some (some j)->some j∉ [t.ownBlock]:=λi j hi hj hm=>by
  have e:some j=t.ownBlock:=by simpa using hm
  exact hi (h.lone i 5 j hj (by rw [e];rfl))
 have e:blks g q v f bd t' o=(blks g q v f bd t o).set 5 t'.ownBlock:=rfl;have ho:t'.ownBlock=none∨(blks g q v f bd t o)[5]?=some t'.ownBlock∨∃k,t'.ownBlock=some k/\w.heap.size<=k:=by exact XXNT9
 have hof:Of w (blks g q v f bd t o) (blks g q v f bd t' o):=by rw [e];exact Of.set 5 _ ho
 have hkL:Keeps (blks g q v f bd t o) w w':=hk.mono λk hk=>by
  have e:some k=t.ownBlock:=by simpa using hk
  simp [e]
 obtain ⟨ps,h1,h2,h3⟩:=h.O
 refine ⟨⟨⟨hk.row h.R.row (hn 1 q (by decide) rfl),hk.own h.R.own λj e=>hn 2 j (by decide) (by rw [←e];rfl),h.R.ge,h.R.ne⟩,hk.own h.F λj e=>hn 3 j (by decide) (by rw [←e];rfl),hk.own h.D λj e=>hn 4 j (by decide) (by rw [←e];rfl),hr,
  ⟨ps,h1,λx hx=>⟨(h2 x hx).1,by
    have hx2:=(h2 x hx).2.keeps hkL
    exact ⟨hx2.reads,λk hb=>⟨λhm=>by
     rcases hof k hm with e | e
     ·exact (hx2.far k hb).1 e
     ·exact absurd ((h2 x hx).2.far k hb).2 (by omega),(hx2.far k hb).2⟩,hx2.off⟩⟩,hk.own h3 λj e=>hn 6 j (by decide) (by rw [←e];rfl)⟩,?_,h.ge,Df h.lt hk.size,h.zone.of hk.size hof⟩,hkL,hof⟩
 rw [e];exact h.lone.set h.in 5 _ ho
theorem PR.bk (h:PR w B g q v f bd t o p b s):D5 w g (pcells p b s q f bd t o):=⟨λ_ _ hu=>row_cellL h.row hu,λk _=>CV h.row k,h.own.lt⟩
theorem rr_below {q1:Nat} {rd1:Ln.R} (h:Ln.Rr w B q1 v p rd1) (hb:Below w.heap.size w w'):Ln.Rr w' B q1 v p rd1:=by have hk:Keeps [] w w':=Keeps.of_below hb;exact ⟨hk.row h.row (by simp),hk.own h.own (by simp),h.ge,h.ne⟩
def Par (w:World) (B:Zone) (g:Nat) (p:Nat) (b:Bd) (s:S) (L:List (Option Nat)):Prop:=∃q v f bd t o,L=blks g q v f bd t o/\PR w B g q v f bd t o p b s
end
end Go.Proofs.YtdfabddnpgjepaaGreatDoor.Par
namespace Go.Proofs.YtdfabddnpgjepaaGreatDoor.Pg
open Go.RowKit Base Txt Mem Par
abbrev pgcells (p:Nat) (b:Bd) (s:T) (q:Nat) (f bd t o:Value):List Value:=
 [ZZ ZS 0,ZZ ZS (s.hl:Int),f,ZY s.r.m,ZY s.r.x,ZZ ZS s.r.k,ZZ ZS (s.size:Int),ZW s.cnt,ZZ ZS (s.bl:Int),t,ZW s.r.ch,bd,ZZ ZS (s.left:Int),
   ZZ ZQ (p:Int),ZZ ZS b.x0,ZZ ZS b.x1,ZZ ZS b.x2,ZZ ZS b.x3,ZZ ZS b.x4,ZZ ZS b.x5,ZZ ZS b.x6,ZZ ZS b.x7,ZW b.ch,ZW b.od,ZZ ZS (s.st:Int),ptr q,o]
structure Own (w:World) (B:Zone) (g q:Nat) (v f bd t o:Value) (rd:Ln.M) (fs:List Fld) (body:List UInt8) (ts:List Fld) (out:List D7):Prop where
 R:Ln.Rd w B q v rd
 F:w.ownsRow B 126 2 f fs.length (cells fs)
 D:w.ownsRow B 5 1 bd body.length (Rec.vals body)
 TR:w.ownsRow B 126 2 t ts.length (cells ts)
 O:Outs (blks g q v f bd t o) B w o out
 lone:Lone (blks g q v f bd t o)
 ge:B<=g
 lt:g<w.heap.size
 zone:Clear w B.z (blks g q v f bd t o)
structure PR (w:World) (B:Zone) (g q:Nat) (v f bd t o:Value) (p:Nat) (b:Bd) (s:T):Prop where
 row:w.heap[g]?=some (.cells (pgcells p b s q f bd t o).toArray 55 (0,0))
 own:Own w B g q v f bd t o s.rd s.r.fs s.r.body s.r.ts s.out
section
variable {w w':World} {B:Zone} {g q:Nat} {v f bd t o:Value} {p:Nat} {b:Bd} {s:T} {rd:Ln.M} {fs ts:List Fld} {body:List UInt8} {out:List D7} {L:List (Option Nat)}
theorem Own.in (h:Own w B g q v f bd t o rd fs body ts out):In w (blks g q v f bd t o):=by
 intro k hk;simp only [C6,CD,or_false,Du.injEq] at hk;obtain ⟨ps,h1,h2,h3⟩:=h.O;rcases hk with rfl | rfl | hk | hk | hk | hk | hk
 ·exact h.lt
 ·exact Ln.row_lt h.R.row
 ·exact (FU h.R.own k hk.symm).2
 ·exact (FU h.F k hk.symm).2
 ·exact (FU h.D k hk.symm).2
 ·exact (FU h.TR k hk.symm).2
 ·exact (FU h3 k hk.symm).2
theorem Own.low (h:Own w B g q v f bd t o rd fs body ts out):∀k,some k∈blks g q v f bd t o->B<=k:=by
 intro k hk;simp only [C6,CD,or_false,Du.injEq] at hk;obtain ⟨ps,h1,h2,h3⟩:=h.O;rcases hk with rfl | rfl | hk | hk | hk | hk | hk
 ·exact h.ge
 ·exact h.R.ge
 ·exact (FU h.R.own k hk.symm).1
 ·exact (FU h.F k hk.symm).1
 ·exact (FU h.D k hk.symm).1
 ·exact (FU h.TR k hk.symm).1
 ·exact (FU h3 k hk.symm).1
theorem Own.set (h:Own w B g q v f bd t o rd fs body ts out) (k:Nat) (u:Value):Own (w.setCell ⟨g,k,none⟩ u) B g q v f bd t o rd fs body ts out:=by
 have hk:Keeps [some g] w (w.setCell ⟨g,k,none⟩ u):=Keeps.set g k u (by simp);have hn:∀i j,i≠0->(blks g q v f bd t o)[i]?=some (some j)->some j∉ [some g]:=λi j hi hj hm=>by
  have e:j=g:=by simpa using hm
  rw [e] at hj
  exact hi (h.lone i 0 g hj rfl)
 exact ⟨⟨hk.row h.R.row (hn 1 q (by decide) rfl),hk.own h.R.own λj e=>hn 2 j (by decide) (by rw [←e];rfl),h.R.ge,h.R.ne⟩,
  hk.own h.F λj e=>hn 3 j (by decide) (by rw [←e];rfl),hk.own h.D λj e=>hn 4 j (by decide) (by rw [←e];rfl),hk.own h.TR λj e=>hn 5 j (by decide) (by rw [←e];rfl),
  h.O.keeps hk (λj hj=>by obtain rfl:j=g:=by simpa using hj
                          simp) λj e=>hn 6 j (by decide) (by rw [←e];rfl),
  h.lone,h.ge,by simpa using h.lt,h.zone.of hk.size Of.refl⟩
theorem Own.below (h:Own w B g q v f bd t o rd fs body ts out) (hb:Below w.heap.size w w'):Own w' B g q v f bd t o rd fs body ts out:=by have hk:Keeps [] w w':=Keeps.of_below hb;refine ⟨⟨hk.row h.R.row (by simp),hk.own h.R.own (by simp),h.R.ge,h.R.ne⟩,hk.own h.F (by simp),hk.own h.D (by simp),hk.own h.TR (by simp),h.O.keeps hk (by simp) (by simp),h.lone,h.ge,Df h.lt hb.size,h.zone.of hb.size Of.refl⟩
theorem PR.below (h:PR w B g q v f bd t o p b s) (hb:Below w.heap.size w w'):PR w' B g q v f bd t o p b s:=
 ⟨(hb.block g h.own.lt).trans h.row,h.own.below hb⟩
theorem PR.drew (h:PR w B g q v f bd t o p b s) (n:Nat):PR (w.drewN n) B g q v f bd t o p b s:=h.below (Ak (An _ _) n)
theorem PR.put (h:PR w B g q v f bd t o p b s) (k:Nat) (u:Value) (s':T) (hc:(pgcells p b s q f bd t o).set k u=pgcells p b s' q f bd t o) (hd:s'.rd=s.rd) (h1:s'.r.fs=s.r.fs) (h2:s'.r.body=s.r.body) (h3:s'.r.ts=s.r.ts) (h4:s'.out=s.out) :
 PR (w.setCell ⟨g,k,none⟩ u) B g q v f bd t o p b s':=by
 refine ⟨?_,?_⟩
 ·rw [←hc,←CH];exact Ln.row_set h.row k u
 ·rw [hd,h1,h2,h3,h4];exact h.own.set k u
theorem Own.zero (h:Own w B g q v f bd t o rd fs body ts out):Own w B g q v (ZX none 0 0) (ZX none 0 0) (ZX none 0 0) o rd [] [] [] out:=by exact XXVVx
theorem Own.line (h:Own w B g q v f bd t o rd fs body ts out) (hb:Below w.heap.size w w') {q1:Nat} {rd1:Ln.M} (hr:Ln.Rd w' B q1 (ZX none 0 0) rd1) (hq:w.heap.size<=q1):Own w' B g q1 (ZX none 0 0) f bd t o rd1 fs body ts out:=by
 have e:blks g q1 (ZX none 0 0) f bd t o=((blks g q v f bd t o).set 1 (some q1)).set 2 none:=rfl;have hof:Of w (blks g q v f bd t o) (blks g q1 (ZX none 0 0) f bd t o):=by
  rw [e]
  exact (Of.set 1 (some q1) (.inr (.inr ⟨q1,rfl,hq⟩))).trans (Of.set 2 none (.inl rfl)) (Db _)
 have hw:=h.below hb;obtain ⟨ps,h1,h2,h3⟩:=h.O;have hk:Keeps (blks g q1 (ZX none 0 0) f bd t o) w w':=Keeps.of_below hb;refine ⟨hr,hw.F,hw.D,hw.TR,⟨ps,h1,λx hx=>⟨(h2 x hx).1,((h2 x hx).2.of hof).keeps hk⟩,by obtain ⟨ps',h1',h2',h3'⟩:=hw.O;exact (Keeps.of_below hb:Keeps [] w w').own h3 (by simp)⟩,?_,h.ge,hw.lt,h.zone.of hb.size hof⟩;exact XXCuB
theorem Own.push {r:D7} (h:Own w B g q v f bd t o rd r.fs r.body r.ts out) (hg:w.grownBy w' o.ownBlock) {o':Value} (ps:List (Array Value × D7)) (hps:ps.map (·.2)=out) (hfar:∀x∈ps,x.1.size=7/\Far (blks g q v f bd t o) B.z w (ZU x.1) x.2)
 (ho:w'.ownsRow B 58 7 o' (out.length+1) (ps.flatMap (·.1.toList) ++ [ZY r.m,ZY r.x,ZZ ZS r.k,f,ZW r.ch,bd,t])) (hor:o'.ownBlock=o.ownBlock∨o'.ownBlock=some w.heap.size) :
 Own w' B g q v (ZX none 0 0) (ZX none 0 0) (ZX none 0 0) o' rd [] [] [] (out ++ [r]):=by
 have hk:Keeps [o.ownBlock] w w':=Keeps.grown hg λk e=>by simp [e]
 have hn:∀i j,i≠6->(blks g q v f bd t o)[i]?=some (some j)->some j∉ [o.ownBlock]:=λi j hi hj hm=>by
  have e:some j=o.ownBlock:=by simpa using hm
  exact hi (h.lone i 6 j hj (by rw [e];rfl))
 have hin:=h.in
 have F':=hk.own h.F λj e=>hn 3 j (by decide) (by rw [←e];rfl)
 have D':=hk.own h.D λj e=>hn 4 j (by decide) (by rw [←e];rfl)
 have T':=hk.own h.TR λj e=>hn 5 j (by decide) (by rw [←e];rfl);have hsub:∀k,some k∈blks g q v (ZX none 0 0) (ZX none 0 0) (ZX none 0 0) o'->(some k=some g∨some k=some q∨some k=v.ownBlock∨some k=o.ownBlock)∨w.heap.size<=k:=by exact XXlw6
 have hof:∀k,some k∈blks g q v (ZX none 0 0) (ZX none 0 0) (ZX none 0 0) o'->some k∈blks g q v f bd t o∨w.heap.size<=k:=λk hk=>by exact XXZgq
 have hkL2:Keeps (blks g q v f bd t o) w w':=hk.mono λk hk=>by
  have e:some k=o.ownBlock:=by simpa using hk
  simp [e]
 refine ⟨⟨hk.row h.R.row (hn 1 q (by decide) rfl),hk.own h.R.own λj e=>hn 2 j (by decide) (by rw [←e];rfl),h.R.ge,h.R.ne⟩,FV _ _ _ _,FV _ _ _ _,FV _ _ _ _,
  ⟨ps ++ [(#[ZY r.m,ZY r.x,ZZ ZS r.k,f,ZW r.ch,bd,t],r)],by rw [List.map_append,hps];rfl,λx hx=>?_,by rw [Cr,List.flatMap_append];simpa using ho⟩,?_,h.ge,Df h.lt hk.size,h.zone.of hk.size hof⟩
 ·rcases C3.1 hx with hx | hx
  ·exact XXq2s
  ·obtain rfl:x= _:=by simpa using hx
   refine ⟨rfl,?_,λk hb=>?_,λk hb=>?_⟩
   ·exact XXHi0
   ·have e1:=slot_own h.F;have e2:=slot_own h.D;have e3:=slot_own h.TR
    replace hb:some k∈ [none,none,none,slot f,none,slot bd,slot t]:=hb
    exact XXJML
   ·have e1:=slot_own h.F;have e2:=slot_own h.D;have e3:=slot_own h.TR
    replace hb:some k∈ [none,none,none,slot f,none,slot bd,slot t]:=hb
    exact XXNov
 ·exact XXyOi
theorem Own.setF (h:Own w B g q v f bd t o rd fs body ts out) {f':Value} {fs':List Fld} (hk:Keeps [f.ownBlock] w w') (hr:w'.ownsRow B 126 2 f' fs'.length (cells fs')) (hor:f'.ownBlock=f.ownBlock∨∃k,f'.ownBlock=some k/\w.heap.size<=k) :
 Own w' B g q v f' bd t o rd fs' body ts out/\Step (blks g q v f bd t o) (blks g q v f' bd t o) w w':=by
 have hn:∀i j,i≠3->(blks g q v f bd t o)[i]?=some (some j)->some j∉ [f.ownBlock]:=λi j hi hj hm=>by
  have e:some j=f.ownBlock:=by simpa using hm
  exact hi (h.lone i 3 j hj (by rw [e];rfl))
 have e:blks g q v f' bd t o=(blks g q v f bd t o).set 3 f'.ownBlock:=rfl;have ho:f'.ownBlock=none∨(blks g q v f bd t o)[3]?=some f'.ownBlock∨∃k,f'.ownBlock=some k/\w.heap.size<=k:=by exact XXNT9
 have hof:Of w (blks g q v f bd t o) (blks g q v f' bd t o):=by rw [e];exact Of.set 3 _ ho
 have hkL:Keeps (blks g q v f bd t o) w w':=hk.mono λk hk=>by
  have e:some k=f.ownBlock:=by simpa using hk
  simp [e]
 obtain ⟨ps,h1,h2,h3⟩:=h.O
 refine ⟨⟨⟨hk.row h.R.row (hn 1 q (by decide) rfl),hk.own h.R.own λj e=>hn 2 j (by decide) (by rw [←e];rfl),h.R.ge,h.R.ne⟩,hr,hk.own h.D λj e=>hn 4 j (by decide) (by rw [←e];rfl),hk.own h.TR λj e=>hn 5 j (by decide) (by rw [←e];rfl),
  ⟨ps,h1,λx hx=>⟨(h2 x hx).1,by
    have hx2:=(h2 x hx).2.keeps hkL
    exact ⟨hx2.reads,λk hb=>⟨λhm=>by
     rcases hof k hm with e | e
     ·exact (hx2.far k hb).1 e
     ·exact absurd ((h2 x hx).2.far k hb).2 (by omega),(hx2.far k hb).2⟩,hx2.off⟩⟩,hk.own h3 λj e=>hn 6 j (by decide) (by rw [←e];rfl)⟩,?_,h.ge,Df h.lt hk.size,h.zone.of hk.size hof⟩,hkL,hof⟩
 rw [e];exact h.lone.set h.in 3 _ ho
theorem Own.setD (h:Own w B g q v f bd t o rd fs body ts out) {bd':Value} {body':List UInt8} (hk:Keeps [bd.ownBlock] w w') (hr:w'.ownsRow B 5 1 bd' body'.length (Rec.vals body')) (hor:bd'.ownBlock=bd.ownBlock∨∃k,bd'.ownBlock=some k/\w.heap.size<=k) :
 Own w' B g q v f bd' t o rd fs body' ts out/\Step (blks g q v f bd t o) (blks g q v f bd' t o) w w':=by
 have hn:∀i j,i≠4->(blks g q v f bd t o)[i]?=some (some j)->some j∉ [bd.ownBlock]:=λi j hi hj hm=>by
  have e:some j=bd.ownBlock:=by simpa using hm
  exact hi (h.lone i 4 j hj (by rw [e];rfl))
 have e:blks g q v f bd' t o=(blks g q v f bd t o).set 4 bd'.ownBlock:=rfl;have ho:bd'.ownBlock=none∨(blks g q v f bd t o)[4]?=some bd'.ownBlock∨∃k,bd'.ownBlock=some k/\w.heap.size<=k:=by exact XXNT9
 have hof:Of w (blks g q v f bd t o) (blks g q v f bd' t o):=by rw [e];exact Of.set 4 _ ho
 have hkL:Keeps (blks g q v f bd t o) w w':=hk.mono λk hk=>by
  have e:some k=bd.ownBlock:=by simpa using hk
  simp [e]
 obtain ⟨ps,h1,h2,h3⟩:=h.O
 refine ⟨⟨⟨hk.row h.R.row (hn 1 q (by decide) rfl),hk.own h.R.own λj e=>hn 2 j (by decide) (by rw [←e];rfl),h.R.ge,h.R.ne⟩,hk.own h.F λj e=>hn 3 j (by decide) (by rw [←e];rfl),hr,hk.own h.TR λj e=>hn 5 j (by decide) (by rw [←e];rfl),
  ⟨ps,h1,λx hx=>⟨(h2 x hx).1,by
    have hx2:=(h2 x hx).2.keeps hkL
    exact ⟨hx2.reads,λk hb=>⟨λhm=>by
     rcases hof k hm with e | e
     ·exact (hx2.far k hb).1 e
     ·exact absurd ((h2 x hx).2.far k hb).2 (by omega),(hx2.far k hb).2⟩,hx2.off⟩⟩,hk.own h3 λj e=>hn 6 j (by decide) (by rw [←e];rfl)⟩,?_,h.ge,Df h.lt hk.size,h.zone.of hk.size hof⟩,hkL,hof⟩
 rw [e];exact h.lone.set h.in 4 _ ho
theorem Own.setT (h:Own w B g q v f bd t o rd fs body ts out) {t':Value} {ts':List Fld} (hk:Keeps [t.ownBlock] w w') (hr:w'.ownsRow B 126 2 t' ts'.length (cells ts')) (hor:t'.ownBlock=t.ownBlock∨∃k,t'.ownBlock=some k/\w.heap.size<=k) :
 Own w' B g q v f bd t' o rd fs body ts' out/\Step (blks g q v f bd t o) (blks g q v f bd t' o) w w':=by
 have hn:∀i j,i≠5->(blks g q v f bd t o)[i]?=some (some j)->some j∉ [t.ownBlock]:=λi j hi hj hm=>by
  have e:some j=t.ownBlock:=by simpa using hm
  exact hi (h.lone i 5 j hj (by rw [e];rfl))
 have e:blks g q v f bd t' o=(blks g q v f bd t o).set 5 t'.ownBlock:=rfl;have ho:t'.ownBlock=none∨(blks g q v f bd t o)[5]?=some t'.ownBlock∨∃k,t'.ownBlock=some k/\w.heap.size<=k:=by exact XXNT9
 have hof:Of w (blks g q v f bd t o) (blks g q v f bd t' o):=by rw [e];exact Of.set 5 _ ho
 have hkL:Keeps (blks g q v f bd t o) w w':=hk.mono λk hk=>by
  have e:some k=t.ownBlock:=by simpa using hk
  simp [e]
 obtain ⟨ps,h1,h2,h3⟩:=h.O
 refine ⟨⟨⟨hk.row h.R.row (hn 1 q (by decide) rfl),hk.own h.R.own λj e=>hn 2 j (by decide) (by rw [←e];rfl),h.R.ge,h.R.ne⟩,hk.own h.F λj e=>hn 3 j (by decide) (by rw [←e];rfl),hk.own h.D λj e=>hn 4 j (by decide) (by rw [←e];rfl),hr,
  ⟨ps,h1,λx hx=>⟨(h2 x hx).1,by
    have hx2:=(h2 x hx).2.keeps hkL
    exact ⟨hx2.reads,λk hb=>⟨λhm=>by
     rcases hof k hm with e | e
     ·exact (hx2.far k hb).1 e
     ·exact absurd ((h2 x hx).2.far k hb).2 (by omega),(hx2.far k hb).2⟩,hx2.off⟩⟩,hk.own h3 λj e=>hn 6 j (by decide) (by rw [←e];rfl)⟩,?_,h.ge,Df h.lt hk.size,h.zone.of hk.size hof⟩,hkL,hof⟩
 rw [e];exact h.lone.set h.in 5 _ ho
theorem PR.bk (h:PR w B g q v f bd t o p b s):D5 w g (pgcells p b s q f bd t o):=⟨λ_ _ hu=>row_cellL h.row hu,λk _=>CV h.row k,h.own.lt⟩
def Par (w:World) (B:Zone) (g:Nat) (p:Nat) (b:Bd) (s:T) (L:List (Option Nat)):Prop:=∃q v f bd t o,L=blks g q v f bd t o/\PR w B g q v f bd t o p b s
end
end Go.Proofs.YtdfabddnpgjepaaGreatDoor.Pg
namespace Go.Proofs.YtdfabddnpgjepaaGreatDoor.Par
open Go.RowKit Base Txt
theorem grow_facts {base most:Int} (hb:1<=base) (hm:0<=most):∀(l:List UInt8) (n k:Int),0<=n->n<=most->Num.grow base most n l=some k->0<=k/\k<=most
 | [],n,k,h0,h1,h=>by
   simp only [Num.grow,Du.injEq] at h;omega
 | c::r,n,k,h0,h1,h=>by
   unfold Num.grow at h;by_cases hc:most<Num.dig c∨(most-Num.dig c)/base<n
   ·rw [if_pos hc] at h;cases h
   ·rw [if_neg hc] at h;have hd:=Num.dig_nonneg c;have h2:n<=(most-Num.dig c)/base:=by omega
    have h3:n*base<=most-Num.dig c:=by
     have:=Int.mul_le_mul_of_nonneg_right h2 (by omega:0<=base)
     have h4:=Int.ediv_mul_le (most-Num.dig c) (by omega:base≠0);omega
    have h5:0<=n*base:=Int.mul_nonneg h0 (by omega);exact grow_facts hb hm r _ k (by omega) (by omega) h
theorem read_facts (base most:Int) (hb:1<=base) (l:List UInt8):((Num.readOf base most l).2=0/\0<=(Num.readOf base most l).1/\(Num.readOf base most l).1<=max most 0)∨(Num.readOf base most l).2=22∨(Num.readOf base most l).2=23:=by
 unfold Num.readOf;split
 ·exact .inr (.inl rfl)
 ·cases h:Num.grow base (max most 0) 0 l with
  | none=>exact .inr (.inr rfl)
  | some k=>
    have:=grow_facts hb (by omega) l 0 k (by omega) (by omega) h;exact .inl ⟨rfl,this.1,this.2⟩
theorem chunk_facts (hex blanks:Bool) (ext body:Int) (l:List UInt8):((Chk.sizeV hex blanks ext body l).2=0/\0<=(Chk.sizeV hex blanks ext body l).1/\(Chk.sizeV hex blanks ext body l).1<=max body 0)∨(Chk.sizeV hex blanks ext body l).2=400∨(Chk.sizeV hex blanks ext body l).2=413:=by
 unfold Chk.sizeV;split
 ·rcases read_facts 16 body (by decide) (Chk.sizeL hex blanks l) with ⟨h0,h1,h2⟩ | h | h
  ·unfold Chk.numV;rw [h0,if_neg (by decide),if_neg (by decide)];exact .inl ⟨rfl,h1,h2⟩
  ·unfold Chk.numV
   rw [h,if_pos rfl];exact .inr (.inl rfl)
  ·unfold Chk.numV
   rw [h,if_neg (by decide),if_pos rfl];exact .inr (.inr rfl)
 ·exact .inr (.inl rfl)
theorem length_facts (lp lc lf ll:Bool) (most:Int) (vs:List ByteArray):((Frm.lengthV lp lc lf ll most vs).2=0/\0<=(Frm.lengthV lp lc lf ll most vs).1/\(Frm.lengthV lp lc lf ll most vs).1<=max most 0)∨(Frm.lengthV lp lc lf ll most vs).2=400∨(Frm.lengthV lp lc lf ll most vs).2=413:=by
 unfold Frm.lengthV;split
 ·exact .inl ⟨rfl,by decide,by show (0:Int)<=_;omega⟩
 ·split
  ·exact .inr (.inl rfl)
  ·rename_i s _;rcases read_facts 10 most (by decide) (Frm.unplus lp s).data.toList with ⟨h0,h1,h2⟩ | h | h
   ·unfold Frm.numV;rw [h0,if_neg (by decide),if_neg (by decide)];exact .inl ⟨rfl,h1,h2⟩
   ·unfold Frm.numV
    rw [h,if_pos rfl];exact .inr (.inl rfl)
   ·unfold Frm.numV
    rw [h,if_neg (by decide),if_pos rfl];exact .inr (.inr rfl)
theorem decide_facts (c:Frm.Cl) (ch:Bool) (body minor:Int) (fs:List Fld) :
 Frm.decideV c ch body minor fs=(2,0,0)∨(∃n:Nat,(n:Int)<=max body 0/\Frm.decideV c ch body minor fs=(1,(n:Int),0))∨∃e:Nat,(e=400∨e=413∨e=501)/\Frm.decideV c ch body minor fs=(0,0,(e:Int)):=by
 unfold Frm.decideV Frm.bodyV;have hh:Frm.hostsV c.nh c.mh minor (find fs Frm.hostN)=0∨Frm.hostsV c.nh c.mh minor (find fs Frm.hostN)=400:=by
  unfold Frm.hostsV;split
  ·exact .inr rfl
  ·split
   ·exact .inl rfl
   ·exact .inr rfl
 rcases hh with h | h
 ·rw [h,if_neg (by decide)];obtain ⟨W,hW⟩:∃W,Frm.winsV c.td c.ti c.tw c.lw minor (find fs Frm.teN).length (find fs Frm.clN).length (Frm.coding c.tb c.tl (find fs Frm.teN))=W:=⟨_,rfl⟩;have hw:W.2=0∨W.2=400∨W.2=501:=by
   rw [←hW];unfold Frm.winsV
   repeat' split
   all_goals simp
  rw [hW];rcases hw with w | w | w
  ·rw [w,if_neg (by decide)];split
   ·split
    ·exact .inl rfl
    ·exact .inr (.inr ⟨501,by simp,rfl⟩)
   ·rcases length_facts c.lp c.lc c.lf c.ll body (find fs Frm.clN) with ⟨h0,h1,h2⟩ | h0 | h0
    ·refine .inr (.inl ⟨(Frm.lengthV c.lp c.lc c.lf c.ll body (find fs Frm.clN)).1.toNat,by omega,?_⟩);unfold Frm.fixedV;rw [h0,if_pos rfl,Int.toNat_of_nonneg h1]
    ·refine .inr (.inr ⟨400,by simp,?_⟩);unfold Frm.fixedV;rw [h0,if_neg (by decide)];rfl
    ·refine .inr (.inr ⟨413,by simp,?_⟩);unfold Frm.fixedV;rw [h0,if_neg (by decide)];rfl
  ·rw [w,if_pos (by decide)];exact .inr (.inr ⟨400,by simp,rfl⟩)
  ·rw [w,if_pos (by decide)];exact .inr (.inr ⟨501,by simp,rfl⟩)
 ·rw [h,if_pos (by decide)];exact .inr (.inr ⟨400,by simp,rfl⟩)
theorem request_facts (c:Rq.Cl) (old:Bool) (l:List UInt8):((Rq.request c old l).2.2.2=0/\(Rq.request c old l).1.length<=l.length/\(Rq.request c old l).2.1.length<=l.length/\(Rq.request c old l).2.2.1<=1)∨(Rq.request c old l).2.2.2=400∨(Rq.request c old l).2.2.2=505:=by
 unfold Rq.request;split
 ·exact .inr (.inl rfl)
 ·rename_i m t v hp;split
  ·split
   ·exact .inr (.inr rfl)
   ·rename_i k hk;split
    ·exact .inr (.inr rfl)
    ·obtain ⟨-,h1, -,h2, -⟩:=Rq.pick_some hp;refine .inl ⟨rfl,h1,h2,?_⟩;show k<=1;unfold Rq.verL at hk
     repeat' split at hk
     all_goals first |(cases hk;omega) | cases hk
  ·exact .inr (.inl rfl)
end Go.Proofs.YtdfabddnpgjepaaGreatDoor.Par
namespace Go.Proofs.YtdfabddnpgjepaaGreatDoor.Pg
open Go.RowKit Base Txt Par
structure T.Ok (t:T):Prop where
 rd:t.rd.Ok
 nf:Ln.failed t.rd.last=false
 st:1<=t.st/\t.st<=7
 hl:t.hl<=100
 bl:t.bl<=100
 fsl:t.r.fs.length<=t.hl
 tsl:t.r.ts.length<=t.bl
 fss:∀y∈t.r.fs,y.1.size<=5000*t.hl/\y.2.size<=5000*t.hl
 tss:∀y∈t.r.ts,y.1.size<=5000*t.bl/\y.2.size<=5000*t.bl
 m:t.r.m.size<=4096
 x:t.r.x.size<=4096
 body:t.r.body.length+t.left<=1048576
 left:bodied t.st=true->1<=t.left
 early:t.st<=2->t.r.body= []
 size:t.size<=65536
theorem Bd.edges {b:Bd} (h:b.right=true):(64<=b.x0/\b.x0<=4096)/\(4<=b.x1/\b.x1<=100)/\(256<=b.x2/\b.x2<=65536)/\(16<=b.x3/\b.x3<=1048576)/\(0<=b.x4/\b.x4<=256)/\(0<=b.x5/\b.x5<=100):=by unfold Bd.right Bnd.right Bnd.inside at h;simp only [Ao,decide_eq_true_eq] at h;omega
theorem size_ba (l:List UInt8):(ba l).size=l.length:=by simp [ba,ByteArray.size]
theorem joinF_le (f:Fld) (ln:List UInt8):(joinF f ln).1.size=f.1.size/\(joinF f ln).2.size<=f.2.size+1+ln.length:=by refine ⟨rfl,?_⟩;unfold joinF;rw [size_ba];unfold Fd.joined;rw [Cr,List.length_cons,len];have:=trimL_length FK ln;omega
theorem fieldV_fit {p lines:Nat} {l l':List Fld} {ln:List UInt8} {most:Int} (h:fieldV p lines l ln most=.inr l') (hn:ln.length<=4096) (hl:l.length<=lines) (hs:∀y∈l,y.1.size<=5000*lines/\y.2.size<=5000*lines) :
 ((lines+1:Nat):Int)<=most/\l'.length<=lines+1/\∀y∈l',y.1.size<=5000*(lines+1)/\y.2.size<=5000*(lines+1):=by
 unfold fieldV at h
 by_cases hm:most<((lines+1:Nat):Int)
 ·rw [if_pos hm] at h;cases h
 ·rw [if_neg hm] at h;have h0:((lines+1:Nat):Int)<=most:=by omega
  by_cases hg:(Fd.goes p ln && !l.isEmpty)=true
  ·rw [if_pos hg] at h;have hne:l≠ []:=by
    simp only [Ao,Ay,List.isEmpty_eq_false_iff] at hg;exact hg.2
   obtain ⟨ini,last,rfl⟩:∃ini last,l=ini ++ [last]:=⟨_,_,(List.dropLast_concat_getLast hne).symm⟩;simp only [List.dropLast_concat,List.getLast?_concat,Ds] at h;cases h;refine ⟨h0,by simpa using Nat.le_succ_of_le hl,λy hy=>?_⟩;rcases C3.1 hy with hy | hy
   ·have:=hs y (List.mem_append_left _ hy);omega
   ·obtain rfl:y= _:=by simpa using hy
    have h1:=hs last (by simp);have h2:=joinF_le last ln;omega
  ·rw [if_neg hg] at h;rcases hp:Fd.parse (Fd.clOf p) ln with _ | _ | ⟨n,v⟩
   ·rw [hp] at h;cases h
   ·rw [hp] at h;cases h;exact ⟨h0,by omega,λy hy=>by have:=hs y hy;omega⟩
   ·rw [hp] at h;cases h;have h2:=Fd.parse_le hp;refine ⟨h0,by simp;omega,λy hy=>?_⟩;rcases C3.1 hy with hy | hy
    ·have:=hs y hy;omega
    ·obtain rfl:y= _:=by simpa using hy
     simp only [size_ba];omega
theorem fieldV_err {p lines:Nat} {l:List Fld} {ln:List UInt8} {most:Int} {e:Nat} (h:fieldV p lines l ln most=.inl e):e=400∨e=431:=by
 unfold fieldV at h
 by_cases hm:most<((lines+1:Nat):Int)
 ·rw [if_pos hm] at h;cases h;exact .inr rfl
 ·rw [if_neg hm] at h;by_cases hg:(Fd.goes p ln && !l.isEmpty)=true
  ·rw [if_pos hg] at h;cases h
  ·rw [if_neg hg] at h;rcases hp:Fd.parse (Fd.clOf p) ln with _ | _ | ⟨n,v⟩<;>rw [hp] at h<;>cases h;exact .inl rfl
section
variable {p:Nat} {b:Bd} {t t':T} {s:List UInt8}
theorem T.Ok.fin (h:t.Ok):t.fin.Ok:=
 ⟨h.rd,h.nf,⟨Db _,by show 1<=7;omega⟩,Dj _,Dj _,Db _,Db _,(by intro y hy;cases hy),(by intro y hy;cases hy),Dj _,Dj _,Dj _,λh=>(by cases h),λ_=>rfl,Dj _⟩
theorem T.Ok.enter (h:t.Ok) {st:Nat} (hs:st=4∨st=6) (most:Int):(t.enter p st most).Ok:=
 ⟨Ln.M.new_ok _ _ _ (Ln.mid_le _),rfl,by show 1<=st/\st<=7;omega,h.hl,h.bl,h.fsl,h.tsl,h.fss,h.tss,h.m,h.x,h.body,λhb=>(by rcases hs with rfl | rfl<;>cases hb),λhle=>by have:st<=2:=hle;omega,h.size⟩
theorem T.Ok.first (h:t.Ok) (hst:t.st<=2) (hn:s.length<=4096) (h0:(t.first p b s).1=0):(t.first p b s).2.Ok:=by
 unfold T.first at h0 ⊢;by_cases he:s= []
 ·rw [if_pos he] at h0 ⊢;exact h
 ·rw [if_neg he] at h0 ⊢;rcases request_facts (Rq.clOf p) b.od s with ⟨h1,h2,h3,h4⟩ | h1 | h1
  ·simp only [h1,if_pos];exact ⟨h.rd,h.nf,by show 1<=2/\2<=7;omega,h.hl,h.bl,h.fsl,h.tsl,h.fss,h.tss,by show (ba _).size<=_;rw [size_ba];omega,by show (ba _).size<=_;rw [size_ba];omega,h.body,λhb=>(by cases hb),λ_=>h.early hst,h.size⟩
  ·simp [h1] at h0
  ·simp [h1] at h0
theorem T.Ok.endHead (h:t.Ok) (hb:b.right=true) (hst:t.st<=2) (h0:(t.endHead p b).1=0):(t.endHead p b).2.Ok:=by
 have e3:=(Bd.edges hb).2.2.2.1;unfold T.endHead at h0 ⊢;rcases decide_facts (Frm.clOf p) b.ch b.x3 t.r.k t.r.fs with e | ⟨n,hn,e⟩ | ⟨x,hx,e⟩
 ·rw [e];dsimp only;rw [if_neg (by decide),if_pos rfl];exact ⟨h.rd,h.nf,by show 1<=4/\4<=7;omega,h.hl,h.bl,h.fsl,h.tsl,h.fss,h.tss,h.m,h.x,h.body,λhb=>(by cases hb),λhle=>by have:4<=2:=hle;omega,h.size⟩
 ·rw [e];dsimp only;rw [if_neg (by decide),if_neg (by decide)];by_cases hz:(n:Int)=0
  ·rw [if_pos hz];exact h.fin
  ·rw [if_neg hz];have hbd:=h.early hst;exact ⟨h.rd,h.nf,by show 1<=3/\3<=7;omega,h.hl,h.bl,h.fsl,h.tsl,h.fss,h.tss,h.m,h.x,by show t.r.body.length+(n:Int).toNat<=_;rw [hbd];simp only [List.length_nil];omega,λ_=>by show 1<=(n:Int).toNat;omega,λhle=>by have:3<=2:=hle;omega,h.size⟩
 ·exfalso;rw [e] at h0;dsimp only at h0;rw [if_pos (by omega)] at h0;have:(x:Int).toNat=0:=h0;omega
theorem listE_zero {x:Nat ⊕ List Fld} (h:listE x=0) (h1:∀e,x=.inl e->e=400∨e=431):∃l,x=.inr l:=by
 cases x with
 | inl e=>
   have:e=0:=h;rcases h1 e rfl with h | h<;>omega
 | inr l=>exact ⟨l,rfl⟩
theorem T.Ok.fields (h:t.Ok) (hb:b.right=true) (hst:t.st<=2) (hn:s.length<=4096) (h0:(t.fields p b s).1=0):(t.fields p b s).2.Ok:=by
 have e1:=(Bd.edges hb).2.1;unfold T.fields at h0 ⊢;by_cases he:s= []
 ·rw [if_pos he] at h0 ⊢;exact h.endHead hb hst h0
 ·rw [if_neg he] at h0 ⊢;obtain ⟨l,hl⟩:=listE_zero h0 λe he=>fieldV_err he;obtain ⟨f1,f2,f3⟩:=fieldV_fit hl hn h.fsl h.fss;rw [hl];exact ⟨h.rd,h.nf,h.st,by show t.hl+1<=100;omega,h.bl,f2,h.tsl,f3,h.tss,h.m,h.x,h.body,h.left,h.early,h.size⟩
theorem T.Ok.trail (h:t.Ok) (hb:b.right=true) (hn:s.length<=4096) (h0:(t.trail p b s).1=0):(t.trail p b s).2.Ok:=by
 have e1:=(Bd.edges hb).2.2.2.2.2;unfold T.trail at h0 ⊢;by_cases he:s= []
 ·rw [if_pos he] at h0 ⊢;exact h.fin
 ·rw [if_neg he] at h0 ⊢;obtain ⟨l,hl⟩:=listE_zero h0 λe he=>fieldV_err he;obtain ⟨f1,f2,f3⟩:=fieldV_fit hl hn h.tsl h.tss;rw [hl];exact ⟨h.rd,h.nf,h.st,h.hl,by show t.bl+1<=100;omega,h.fsl,f2,h.fss,f3,h.m,h.x,h.body,h.left,h.early,h.size⟩
theorem T.Ok.chunk (h:t.Ok) (hb:b.right=true) (h0:(t.chunk p b s).1=0):(t.chunk p b s).2.Ok:=by
 have e3:=(Bd.edges hb).2.2.2.1;unfold T.chunk at h0 ⊢;rcases chunk_facts (D0 p 27) (D0 p 28) b.x4 b.x3 s with ⟨z2,z1,z3⟩ | z2 | z2
 ·dsimp only at h0 ⊢;rw [z2] at h0 ⊢;rw [if_neg (by decide)] at h0 ⊢;obtain ⟨z,hz⟩:∃z,(Chk.sizeV (D0 p 27) (D0 p 28) b.x4 b.x3 s).1=z:=⟨_,rfl⟩;rw [hz] at h0 z1 z3 ⊢;by_cases hz0:z=0
  ·rw [if_pos hz0];exact ⟨h.rd,h.nf,by show 1<=7/\7<=7;omega,h.hl,h.bl,h.fsl,h.tsl,h.fss,h.tss,h.m,h.x,h.body,λhb=>(by cases hb),λhle=>by have:7<=2:=hle;omega,h.size⟩
  ·rw [if_neg hz0] at h0 ⊢;by_cases hlt:b.x3-(t.r.body.length:Int)<z
   ·rw [if_pos hlt] at h0;cases h0
   ·rw [if_neg hlt];exact ⟨h.rd,h.nf,by show 1<=5/\5<=7;omega,h.hl,h.bl,h.fsl,h.tsl,h.fss,h.tss,h.m,h.x,by show t.r.body.length+z.toNat<=_;omega,λ_=>by show 1<=z.toNat;omega,λhle=>by have:5<=2:=hle;omega,h.size⟩
 ·exfalso;dsimp only at h0;rw [z2] at h0;rw [if_pos (by decide)] at h0;cases h0
 ·exfalso;dsimp only at h0;rw [z2] at h0;rw [if_pos (by decide)] at h0;cases h0
theorem T.Ok.line (h:t.Ok) (hb:b.right=true) (hn:s.length<=4096) (h0:(t.line p b s).1=0):(t.line p b s).2.Ok:=by
 unfold T.line at h0 ⊢;by_cases h1:t.st=1
 ·rw [if_pos h1] at h0 ⊢;exact h.first (by omega) hn h0
 ·rw [if_neg h1] at h0 ⊢;by_cases h2:t.st=2
  ·rw [if_pos h2] at h0 ⊢;exact h.fields hb (by omega) hn h0
  ·rw [if_neg h2] at h0 ⊢;by_cases h4:t.st=4
   ·rw [if_pos h4] at h0 ⊢;exact h.chunk hb h0
   ·rw [if_neg h4] at h0 ⊢;by_cases h7:t.st=7
    ·rw [if_pos h7] at h0 ⊢;exact h.trail hb hn h0
    ·rw [if_neg h7];exact h.enter (.inl rfl) _
theorem T.Ok.byteR (h:t.Ok) (c:UInt8) (hf:Ln.failed (t.rd.clear.next c)=false):({t with rd:=t.rd.byte c}:T).Ok:=
 ⟨h.rd.byte c,hf,h.st,h.hl,h.bl,h.fsl,h.tsl,h.fss,h.tss,h.m,h.x,h.body,h.left,h.early,h.size⟩
theorem line_len (h:t.Ok) (c:UInt8):(t.rd.byte c).line.length<=4096:=by
 have h1:=(h.rd.byte c).len;have h2:=(h.rd.byte c).most;unfold Ln.M.line;split
 ·omega
 ·exact Dj _
theorem T.Ok.inLine (h:t.Ok) (hb:b.right=true) (c:UInt8) (h0:(t.inLine p b c).1=.live t'):t'.Ok:=by
 unfold T.inLine at h0;obtain ⟨how,hh⟩:∃how,t.rd.clear.next c=how:=⟨_,rfl⟩;have hn:=Ln.M.next_is t.rd.clear c;have hk:=h.byteR c;simp only [hh] at h0 hn hk;by_cases e0:how=0
 ·rw [if_pos e0] at h0;cases h0;exact hk (by rw [e0];rfl)
 ·rw [if_neg e0] at h0;by_cases e3:how=3
  ·rw [if_pos e3] at h0;cases h0
  ·rw [if_neg e3] at h0;by_cases e4:how=4
   ·rw [if_pos e4] at h0;split at h0
    ·cases h0;exact ⟨Ln.M.new_ok _ _ _ (Ln.mid_le _),rfl,by show 1<=4/\4<=7;omega,h.hl,h.bl,h.fsl,h.tsl,h.fss,h.tss,h.m,h.x,h.body,λhb=>(by cases hb),λhle=>by have:4<=2:=hle;omega,h.size⟩
    ·cases h0
   ·rw [if_neg e4] at h0;have hf:Ln.failed how=false:=by rcases hn with e | e | e | e | e<;>first |(rw [e];rfl) | contradiction
    have hk1:=(hk hf).line (p:=p) hb (line_len h c);unfold ends at h0;split at h0
    ·rename_i hz;cases h0;exact hk1 hz
    ·cases h0
theorem T.Ok.counted (h:t.Ok) (hb:b.right=true) (hc:¬b.x2<(t.counted.size:Int)):t.counted.Ok:=by
 have e2:=(Bd.edges hb).2.2.1;have hs:t.counted.size<=65536:=by omega
 unfold T.counted at hs ⊢;split
 ·exact h
 ·rename_i hn;rw [if_neg hn] at hs;exact ⟨h.rd,h.nf,h.st,h.hl,h.bl,h.fsl,h.tsl,h.fss,h.tss,h.m,h.x,h.body,h.left,h.early,hs⟩
theorem counted_st (t:T):t.counted.st=t.st:=by unfold T.counted;split<;>rfl
theorem counted_rd (t:T):t.counted.rd=t.rd:=by unfold T.counted;split<;>rfl
theorem counted_out (t:T):t.counted.out=t.out:=by unfold T.counted;split<;>rfl
theorem T.Ok.keep (h:t.Ok) (hst:bodied t.st=true) (hl:t.left≠1) (c:UInt8):(t.keep c).Ok:=by have h1:=h.left hst;exact ⟨h.rd,h.nf,h.st,h.hl,h.bl,h.fsl,h.tsl,h.fss,h.tss,h.m,h.x,by have:=h.body;show (t.r.body ++ [c]).length+(t.left-1)<=_;rw [Cr,List.length_singleton];omega,λ_=>by show 1<=t.left-1;omega,λhle=>by exfalso;have h2:t.st<=2:=hle;unfold bodied at hst;simp only [Az,beq_iff_eq] at hst;omega,h.size⟩
theorem T.Ok.endData (h:t.Ok) (hst:bodied t.st=true) (c:UInt8):((t.keep c).endData p).Ok:=by
 have h1:=h.left hst;unfold T.endData;split
 ·exact ⟨Ln.M.new_ok _ _ _ (Ln.mid_le _),rfl,by show 1<=6/\6<=7;omega,h.hl,h.bl,h.fsl,h.tsl,h.fss,h.tss,h.m,h.x,by have:=h.body;show (t.r.body ++ [c]).length+(t.left-1)<=_;rw [Cr,List.length_singleton];omega,λhb=>(by cases hb),λhle=>by have:6<=2:=hle;omega,h.size⟩
 ·exact ⟨h.rd,h.nf,⟨Db _,by show 1<=7;omega⟩,Dj _,Dj _,Db _,Db _,(by intro y hy;cases hy),(by intro y hy;cases hy),Dj _,Dj _,Dj _,λh=>(by cases h),λ_=>rfl,Dj _⟩
theorem T.Ok.look (h:t.Ok) (hb:b.right=true) (c:UInt8) (h0:(t.look p b c).1=.live t'):t'.Ok:=by
 unfold T.look at h0;by_cases hd:bodied t.st=true
 ·rw [if_pos hd] at h0;cases h0;split
  ·exact h.endData hd c
  ·exact h.keep hd (by assumption) c
 ·rw [if_neg hd] at h0;split at h0
  ·split at h0
   ·cases h0
   ·exact (h.counted hb (by assumption)).inLine hb c h0
  ·exact h.inLine hb c h0
theorem inLine_used (hp:t.rd.pend=false) (hf:Ln.failed t.rd.last=false) (hs:t.st≠6) (c:UInt8):(t.inLine p b c).2=true:=by
 have h2:t.rd.clear.next c≠2:=by
  unfold Ln.M.next;have e1:t.rd.clear.last=t.rd.last:=rfl;have e2:t.rd.clear.pend=t.rd.pend:=rfl;rw [e1,e2,hp,hf];simp only [Aw,if_false]
  repeat' split
  all_goals decide
 unfold T.inLine;obtain ⟨how,hh⟩:∃how,t.rd.clear.next c=how:=⟨_,rfl⟩;simp only [hh] at h2 ⊢;split
 ·rfl
 ·split
  ·rfl
  ·split
   ·have:(t.st==6)=false:=beq_eq_false_iff_ne.2 hs;rw [this];rfl
   ·simp only [Ay,beq_eq_false_iff_ne];exact h2
theorem look_used (hp:t.rd.pend=false) (hf:Ln.failed t.rd.last=false) (hs:t.st≠6) (c:UInt8):(t.look p b c).2=true:=by
 unfold T.look;split
 ·rfl
 ·split
  ·split
   ·rfl
   ·exact inLine_used (by rw [counted_rd];exact hp) (by rw [counted_rd];exact hf) (by rw [counted_st];exact hs) c
  ·exact inLine_used hp hf hs c
theorem XXZ78 {P:Prop} (h:P:=by exact ⟨.inl rfl,λ_ _=>by show t.st≠6;omega⟩):P:=h
theorem line_keeps:((t.line p b s).2.rd=t.rd∨∃most,(t.line p b s).2.rd=Ln.M.of p most)/\(bodied t.st=false->(t.line p b s).1=0->(t.line p b s).2.st≠6):=by
 unfold T.line T.first T.fields T.endHead T.chunk T.trail;by_cases h1:t.st=1
 ·rw [if_pos h1];by_cases he:s= []
  ·rw [if_pos he];exact ⟨.inl rfl,λ_ _=>by show t.st≠6;omega⟩
  ·rw [if_neg he];dsimp only;split
   ·exact ⟨.inl rfl,λ_ _=>by show 2≠6;decide⟩
   ·exact XXZ78
 ·rw [if_neg h1];by_cases h2:t.st=2
  ·rw [if_pos h2];by_cases he:s= []
   ·rw [if_pos he];dsimp only;split
    ·exact XXZ78
    ·split
     ·exact ⟨.inl rfl,λ_ _=>by show 4≠6;decide⟩
     ·split
      ·exact ⟨.inl rfl,λ_ _=>by show 1≠6;decide⟩
      ·exact ⟨.inl rfl,λ_ _=>by show 3≠6;decide⟩
   ·rw [if_neg he];exact ⟨.inl rfl,λ_ _=>by show t.st≠6;omega⟩
  ·rw [if_neg h2];by_cases h4:t.st=4
   ·rw [if_pos h4];dsimp only;split
    ·exact XXZ78
    ·split
     ·exact ⟨.inl rfl,λ_ _=>by show 7≠6;decide⟩
     ·split
      ·exact XXZ78
      ·exact ⟨.inl rfl,λ_ _=>by show 5≠6;decide⟩
   ·rw [if_neg h4];by_cases h7:t.st=7
    ·rw [if_pos h7];by_cases he:s= []
     ·rw [if_pos he];exact ⟨.inl rfl,λ_ _=>by show 1≠6;decide⟩
     ·rw [if_neg he];exact ⟨.inl rfl,λ_ _=>by show t.st≠6;omega⟩
    ·rw [if_neg h7];exact ⟨.inr ⟨_,rfl⟩,λ_ _=>by show 4≠6;decide⟩
theorem inLine_again (hst:bodied t.st=false) (c:UInt8) (h0:t.inLine p b c=(.live t',false)):t'.rd.pend=false/\t'.st≠6:=by
 unfold T.inLine at h0;obtain ⟨how,hh⟩:∃how,t.rd.clear.next c=how:=⟨_,rfl⟩;simp only [hh] at h0;by_cases e0:how=0
 ·rw [if_pos e0] at h0;cases h0
 ·rw [if_neg e0] at h0;by_cases e3:how=3
  ·rw [if_pos e3] at h0;cases h0
  ·rw [if_neg e3] at h0;by_cases e4:how=4
   ·rw [if_pos e4] at h0;split at h0
    ·cases h0;exact ⟨rfl,by show 4≠6;decide⟩
    ·cases h0
   ·rw [if_neg e4] at h0;obtain ⟨h1,h2⟩:=Prod.mk.inj h0;unfold ends at h1;split at h1
    ·rename_i hz;cases h1
     obtain ⟨k1,k2⟩:=line_keeps (p:=p) (b:=b) (t:={t with rd:=t.rd.byte c}) (s:=(t.rd.byte c).line);refine ⟨?_,k2 hst hz⟩;have hpd:(t.rd.byte c).pend=false:=by show (t.rd.clear.next c==0&&c==13)=false;rw [hh,beq_eq_false_iff_ne.2 e0];rfl
     rcases k1 with k | ⟨most,k⟩
     ·rw [k];exact hpd
     ·rw [k];rfl
    ·cases h1
theorem look_twice (h:t.Ok) (hb:b.right=true) (c:UInt8) (h0:t.look p b c=(.live t',false)):(t'.look p b c).2=true:=by
 have hok:t'.Ok:=h.look hb c (by rw [h0]);unfold T.look at h0;by_cases hd:bodied t.st=true
 ·rw [if_pos hd] at h0;cases h0
 ·rw [if_neg hd] at h0;have hd':bodied t.st=false:=by simpa using hd
  split at h0
  ·split at h0
   ·cases h0
   ·obtain ⟨k1,k2⟩:=inLine_again (by rw [counted_st];exact hd') c h0;exact look_used k1 hok.nf k2 c
  ·obtain ⟨k1,k2⟩:=inLine_again hd' c h0;exact look_used k1 hok.nf k2 c
theorem T.Ok.cleared (h:t.Ok):({t with cnt:=false}:T).Ok:=⟨h.rd,h.nf,h.st,h.hl,h.bl,h.fsl,h.tsl,h.fss,h.tss,h.m,h.x,h.body,h.left,h.early,h.size⟩
theorem T.Ok.take (h:t.Ok) (hb:b.right=true) (c:UInt8) (h0:t.take p b c=.live t'):t'.Ok:=by
 unfold T.take at h0;rcases hx:({t with cnt:=false}:T).look p b c with ⟨t1 | ⟨e,o⟩,u⟩
 ·have h1:t1.Ok:=h.cleared.look hb c (by rw [hx]);rw [hx] at h0;cases u with
  | true=>cases h0;exact h1
  | false=>exact h1.look hb c h0
 ·rw [hx] at h0;cases u<;>cases h0
end
end Go.Proofs.YtdfabddnpgjepaaGreatDoor.Pg
namespace Go.Proofs.YtdfabddnpgjepaaGreatDoor.Each
open Go.RowKit Base
def goodF (l:List Oper) (m:Nat) (ds:List Nat) (lm:List Bool) (r:Nat) (f:Option Nat:=none):Bool:=
 decide (m<=l.length)&&(decide ((l.take m).map (·.dst)=ds.map some)&&(decide ds.Nodup &&
 ((CE l.length).all (λk=>match l[k]? with
   | some o=>o.after.toList.all λe=>!Region.binds .any e|| (decide (e.on<k)&&(lm.getD k false||decide (m<=k) || !lm.getD e.on false))
   | none=>true) &&
 ((CE l.length).all (λi=>(decide (i<m) && !lm.getD i false)|| (CE m).all λk=>lm.getD k false|| (decide (f=some k)|| (marks l l.length ((Aj l.length false).setIfInBounds i true)).getD k false)) &&
 decide ((CE m).countP (λk=>!lm.getD k false)+r<=l.length)))))
def floats (m:Nat) (lm:List Bool):Option Nat->Bool
 | none=>true
 | some k=>decide (k<m) && !lm.getD k false
section
variable {P:Program} {l:List Oper} {Q:Exit->Act->World->Prop} {fs:List Fact} {W:World} {a0:Act} {m:Nat} {ds:List Nat} {lm:List Bool} {r:Nat} {fl:Option Nat}
theorem all_float (hm:m<=l.length) (hdst:(l.take m).map (·.dst)=ds.map some) (hnd:ds.Nodup) (hsz:∀d∈ds,d<a0.tmps.size) (hlen:fs.length=m)
 (hlast:∀f∈fs,Lasts f) (hidle:∀(k:Nat) (f:Fact),fs[k]?=some f->lm.getD k false=true->∀v w,f v w)
 (hfine:∀(k:Nat) (o:Oper) (f:Fact),l[k]?=some o->fs[k]?=some f->lm.getD k false=false->Fine P l fs W a0 ds o f)
 (hback:∀(k:Nat) (o:Oper),l[k]?=some o->∀e∈o.after.toList,DE .any e=true->e.on<k)
 (hfree:∀(k:Nat) (o:Oper),l[k]?=some o->k<m->lm.getD k false=false->∀e∈o.after.toList,DE .any e=true->lm.getD e.on false=false)
 (hcov:∀i,i<l.length->m<=i∨lm.getD i false=true->∀k,k<m->lm.getD k false=false->fl≠some k->(marks l l.length ((Aj l.length false).setIfInBounds i true)).getD k false=true)
 (hfl:∀k,fl=some k->k<m/\lm.getD k false=false)
 (hrest:∀(g:Nat->Value) (w:World),Below W.heap.size W w->facts g w ds fs->wpAnyH P .any l.toArray Q (λ_=>True) r (fill l.length m lm) (putg g ds a0) w)
 (hrest0:∀k0,fl=some k0->∀(g:Nat->Value) (w:World),Below W.heap.size W w->facts g w ds (fs.set k0 λ_ _=>True)->wpAnyH P .any l.toArray Q (λ_=>True) (r+1) ((fill l.length m lm).setIfInBounds k0 false) (putg g ds a0) w) :
 ∀(n:Nat) (b:Array Bool) (a:Act) (w:World),Inv l fs (λ_ w'=>Below W.heap.size W w') a0 m ds lm b a w->(CE m).countP (λk=>!b.getD k false && !lm.getD k false)+r<=n->wpAnyH P .any l.toArray Q (λ_=>True) n b a w:=by
 have base:∀(b:Array Bool) (a:Act) (w:World),Inv l fs (λ_ w'=>Below W.heap.size W w') a0 m ds lm b a w->(∀k,k<m->lm.getD k false=false->fl≠some k->b.getD k false=true)->
  ∃q,(q=r∨(q=r+1/\0<(CE m).countP (λk=>!b.getD k false && !lm.getD k false)))/\wpAnyH P .any l.toArray Q (λ_=>True) q b a w:=by
  intro b a w hI hall;rcases Classical.em (∃k0,fl=some k0/\b.getD k0 false=false) with ⟨k0,hk0,hbk0⟩ | hno
  ·obtain ⟨hkm,hkl⟩:=hfl k0 hk0
   have hall':∀k,k<m->lm.getD k false=false->¬k=k0->b.getD k false=true:=λk h1 h2 h3=>hall k h1 h2 (λe=>h3 (by rw [hk0] at e;exact (Du.inj e).symm));refine ⟨r+1,.inr ⟨rfl,?_⟩,?_⟩
   ·rw [List.countP_pos_iff];exact ⟨k0,by simpa using hkm,by rw [hbk0,hkl];rfl⟩
   have hb:b=(fill l.length m lm).setIfInBounds k0 false:=by
    refine Array.ext (by simp [fill,hI.bsize]) λi h1 h2=>?_;have e:b.getD i false=b[i]:=by simp [Ag,h1]
    rw [←e,Array.getElem_setIfInBounds (by simpa using h2)];by_cases hik:k0=i
    ·rw [if_pos hik,←hik,hbk0]
    ·rw [if_neg hik];have e2:∀h,(fill l.length m lm)[i]'h=(decide (i<m) && !lm.getD i false):=by intro h;simp [fill]
     rw [e2];rcases Dg i m with hi | hi
     ·cases hl:lm.getD i false with
      | true=>rw [hI.rest i (.inr hl)];simp
      | false=>rw [hall' i hi hl (λe=>hik e.symm)];simp [hi]
     ·rw [hI.rest i (.inl hi)];simp [show¬i<m by omega]
   have:=hrest0 k0 hk0 _ w hI.bel (facts_of (λd=>a.eval (.tmp d)) ds (fs.set k0 λ_ _=>True) λk d f hd hf=>by
    by_cases hkk:k0=k
    ·subst hkk;have:k0<fs.length:=by rw [hlen];exact hkm
     rw [List.getElem?_set_self this] at hf;obtain rfl:=Du.inj hf
     trivial
    ·rw [List.getElem?_set_ne hkk] at hf;cases hl:lm.getD k false with
     | true=>exact hidle k f hf hl _ _
     | false=>exact hI.fact k d f hd hf (hall' k (by have:=(List.getElem?_eq_some_iff.1 hf).1;omega) hl (λe=>hkk e.symm)))
   rw [←act_of hI,←hb] at this;exact this
  ·have hall':∀k,k<m->lm.getD k false=false->b.getD k false=true:=λk h1 h2=>by
    rcases Classical.em (fl=some k) with h | h
    ·cases hb:b.getD k false with
     | true=>rfl
     | false=>exact absurd ⟨k,h,hb⟩ hno
    ·exact hall k h1 h2 h
   refine ⟨r,.inl rfl,?_⟩;have hb:b=fill l.length m lm:=by
    refine Array.ext (by simp [fill,hI.bsize]) λi h1 h2=>?_;have e:b.getD i false=b[i]:=by simp [Ag,h1]
    rw [←e];have e2:(fill l.length m lm)[i]=(decide (i<m) && !lm.getD i false):=by simp [fill]
    rw [e2];rcases Dg i m with hi | hi
    ·cases hl:lm.getD i false with
     | true=>rw [hI.rest i (.inr hl)];simp
     | false=>rw [hall' i hi hl];simp [hi]
    ·rw [hI.rest i (.inl hi)];simp [show¬i<m by omega]
   have:=hrest _ w hI.bel (facts_of (λd=>a.eval (.tmp d)) ds fs λk d f hd hf=>by
    cases hl:lm.getD k false with
    | true=>exact hidle k f hf hl _ _
    | false=>exact hI.fact k d f hd hf (hall' k (by have:=(List.getElem?_eq_some_iff.1 hf).1;omega) hl))
   rw [←act_of hI,←hb] at this;exact this
 intro n
 induction n with
 | zero=>
   intro b a w hI hn;have hc:(CE m).countP (λk=>!b.getD k false && !lm.getD k false)=0:=by omega
   obtain ⟨q,hq,h⟩:=base b a w hI (λk hk hl _=>by have:=List.countP_eq_zero.1 hc k (by simpa using hk);rw [hl] at this;simpa using this)
   rw [show q=0 by omega] at h;exact h
 | succ n ih=>
   intro b a w hI hn;by_cases hc:∀k,k<m->lm.getD k false=false->fl≠some k->b.getD k false=true
   ·obtain ⟨q,hq,h⟩:=base b a w hI hc;have h2:=wpAnyH_up q (n+1-q) _ _ _ h;rw [show q+(n+1-q)=n+1 by omega] at h2;exact h2
   ·
    have hex:∃k,k<m/\lm.getD k false=false/\fl≠some k/\b.getD k false=false:=by
     rcases Classical.em (∃k,k<m/\lm.getD k false=false/\fl≠some k/\b.getD k false=false) with h | h
     ·exact h
     ·refine absurd (λk hk hl hf=>?_) hc;cases hb:b.getD k false with
      | true=>rfl
      | false=>exact absurd ⟨k,hk,hl,hf,hb⟩ h
    have hin:∀i∈DG .any l.toArray b,i<m/\lm.getD i false=false:=by
     intro i hi;obtain ⟨hun,o,ho,hal⟩:=mem_ready.1 hi;have ho':l[i]?=some o:=by simpa using ho
     have hil:i<l.length:=(List.getElem?_eq_some_iff.1 ho').1;have key:m<=i∨lm.getD i false=true->False:=by intro h;obtain ⟨k,hk,hlk,hfk,hbk⟩:=hex;have hmk:=hcov i hil h k hk hlk hfk;exact XX5Ks
     exact XXSDj
    have hne:DG .any l.toArray b≠ []:=by
     have:∀k,k<m->lm.getD k false=false->b.getD k false=false->∃i,i∈DG .any l.toArray b:=by
      intro k
      induction k using Nat.strongRecOn with
      | _ k ihk=>
        exact XXcCR
     obtain ⟨k,hk,hlk,_,hbk⟩:=hex;obtain ⟨i,hi⟩:=this k hk hlk hbk;intro h0;rw [h0] at hi;cases hi
    refine wpAnyH_all rfl hne ?_;intro i hi;obtain ⟨him,hil⟩:=hin i hi
    refine wpOp_mono (λa' w' h'=>⟨trivial,ih _ a' w' h' ?_⟩) (step (R:=λ_ w w'=>Below w.heap.size w w') hm hdst hnd hsz hlen (λ_ _ _ _ _ _ h h'=>h.trans (h'.mono h.size)) (λ_ _=>An _ _) (λ_ _ f hf _ _=>hlast f (C8 hf))
     (λk o f ho hf hl ev _ w' h1 h2 _ h4=>⟨λhw=>((hfine k o f ho hf hl ev w' h1 h2 h4).1 hw).gen λ_ h=>h,(hfine k o f ho hf hl ev w' h1 h2 h4).2⟩) hI him hil hi)
    exact XXuDq
theorem region_float (m:Nat) (ds:List Nat) (fs:List Fact) (lm:List Bool) (r:Nat) (fl:Option Nat) (p p0:Tree.Plan) {id:Nat} {a0:Act} {w:World} (hmo:P.follows .mixedOrders=true) (hg:goodF l m ds lm r fl=true) (hns:Region.noSelect l.toArray=true)
 (hp:Tree.fits l.toArray p r (fill l.length m lm)=true) (hp0:∀k0,fl=some k0->Tree.fits l.toArray p0 (r+1) ((fill l.length m lm).setIfInBounds k0 false)=true) (hQ:∀c a d v w,Q (.panic c) (Ab a d v) w->Q (.panic c) a w)
 (hsz:ds.all (λd=>decide (d<a0.tmps.size))=true) (hlen:fs.length=m) (hlast:Every fs) (hidle:Idle lm fs) (hfloat:floats m lm fl=true) (hfine:All P l fs (w.drewN 1) a0 ds lm l fs)
 (hrest:∀(g:Nat->Value) (w':World),Below w.heap.size w w'->facts g w' ds fs->Tree.Step P l.toArray Q (λ_=>True) (Ee l p) (putg g ds a0) w')
 (hrest0:∀k0,fl=some k0->∀(g:Nat->Value) (w':World),Below w.heap.size w w'->facts g w' ds (fs.set k0 λ_ _=>True)->Tree.Step P l.toArray Q (λ_=>True) (Ee l p0) (putg g ds a0) w'):(Code.region id l.toArray true).wp P Q a0 w:=by
 simp only [goodF,Ao,List.all_eq_true,decide_eq_true_eq,List.mem_range,Az] at hg;obtain ⟨h1,h2,h3,h4,h5,h6⟩:=hg;refine wp_region_held (S:=λ_=>True) hmo ?_;have hb4:∀(k:Nat) (o:Oper),l[k]?=some o->∀e∈o.after.toList,DE .any e=true->e.on<k/\(k<m->lm.getD k false=false->lm.getD e.on false=false):=by exact XXjkq
 have hcov:∀i,i<l.length->m<=i∨lm.getD i false=true->∀k,k<m->lm.getD k false=false->fl≠some k->(marks l l.length ((Aj l.length false).setIfInBounds i true)).getD k false=true:=by
  intro i hi hmi k hk hl hf;rcases h5 i hi with ⟨h,h'⟩ | h
  ·rcases hmi with hmi | hmi
   ·omega
   ·rw [hmi] at h';cases h'
  ·rcases h k hk with h | h | h
   ·rw [hl] at h;cases h
   ·exact absurd h hf
   ·exact h
 have hfl:∀k,fl=some k->k<m/\lm.getD k false=false:=by intro k hk;subst hk;simp only [floats,Ao,decide_eq_true_eq,Ay] at hfloat;exact hfloat
 have hsz':∀d∈ds,d<a0.tmps.size:=by simpa using hsz
 have hI:Inv l fs (λ_ w'=>Below (w.drewN 1).heap.size (w.drewN 1) w') a0 m ds lm (Aj l.length false) a0 (w.drewN 1):=by
  have hrep:∀k,(Aj l.length false).getD k false=false:=λk=>by rw [Ag];rcases Dg k l.length with h | h<;>simp [h]
  refine ⟨An _ _,rfl,rfl,λ_ _=>rfl,λk d f _ _ h=>?_,λk o _ h=>?_,by simp,λk _=>hrep k⟩
  ·rw [hrep] at h;cases h
  ·rw [hrep] at h;cases h
 have:=all_float (P:=P) (Q:=Q) (r:=r) (fl:=fl) h1 h2 h3 hsz' hlen (every_at hlast) (idle_at hidle) (λk o f ho hf hl=>all_at hfine k o f ho hf hl) (λk o hk e he hb=>(hb4 k o hk e he hb).1)
  (λk o hk hkm hl e he hb=>(hb4 k o hk e he hb).2 hkm hl) hcov hfl
  (λg w' hb hf=>Tree.held_of_walk hns hQ p _ _ _ w' hp trivial (hrest g w' ((Ak (An w.heap.size w) 1).trans hb) hf).out)
  (λk0 hk0 g w' hb hf=>Tree.held_of_walk hns hQ p0 _ _ _ w' (hp0 k0 hk0) trivial (hrest0 k0 hk0 g w' ((Ak (An w.heap.size w) 1).trans hb) hf).out) l.length _ a0 (w.drewN 1) hI (by
    have:(CE m).countP (λk=>!(Aj l.length false).getD k false && !lm.getD k false)<=(CE m).countP (λk=>!lm.getD k false):=
     List.countP_mono_left λk _ hk=>by simp at hk;simpa using hk.2
    omega)
 simpa [World.drewN] using this
end
section run
variable {P:Program} {o:Oper}
theorem exec_append {ev:Operand->Value} {w w':World} {v u v':Value} (s x:Operand) (t:TypeId) (ho:o.op=.call {callee:=.builtin .append,args:=#[s,x],argTypes:=#[t,t]}) (hs:ev s=v) (hx:ev x=u)
 (hr:(Builtin.append_ #[t,t] o.type #[v,u]).run P w=.ok v' w'):(execOp ev o).run P w=.ok (.value v') w':=by
 unfold execOp;simp only [ho,resolve,invoke,builtin,Sem.run_bind,Sem.run_pure,Result.andThen_ok,List.map_toArray,List.map_cons,List.map_nil,hs,hx,hr]
theorem oper_append {a:Act} {w w':World} {K:Act->World->Prop} {Q:Exit->Act->World->Prop} {v u v':Value} (s x:Operand) (t:TypeId) (ho:o.op=.call {callee:=.builtin .append,args:=#[s,x],argTypes:=#[t,t]}) (hs:a.eval s=v) (hx:a.eval x=u)
 (hr:(Builtin.append_ #[t,t] o.type #[v,u]).run P w=.ok v' w') (h:K (a.put o.dst v') w'):o.wp P a w K Q:=by
 unfold Oper.wp;rw [exec_append s x t ho hs hx hr,Oper.upon_value];exact h
theorem oper_enter {a:Act} {w:World} {K:Act->World->Prop} {Q:Exit->Act->World->Prop} {g:FuncId} {args:Array Value} (h:(execOp a.eval o).run P w=.ok (.enter g args) w) (hc:Calls P g args w λe w'=>∃v,e=.returned v/\K (a.put o.dst v) w'):o.wp P a w K Q:=by unfold Oper.wp;rw [h,Oper.upon_enter];refine hc.mono ?_;rintro e w' ⟨v,rfl,hk⟩;exact hk
end run
end Go.Proofs.YtdfabddnpgjepaaGreatDoor.Each
namespace Go.Proofs.YtdfabddnpgjepaaGreatDoor.Pg
open Go.RowKit Base Txt Mem Par
abbrev nil:Value:=ZX none 0 0
structure Cs (w:World) (g:Nat) (p:Nat) (b:Bd) (s:T) (q:Nat) (f bd t o:Value):Prop where
 c0:w.cell? ⟨g,0,none⟩=some (ZZ ZS 0)
 c1:w.cell? ⟨g,1,none⟩=some (ZZ ZS (s.hl:Int))
 c2:w.cell? ⟨g,2,none⟩=some (f)
 c3:w.cell? ⟨g,3,none⟩=some (ZY s.r.m)
 c4:w.cell? ⟨g,4,none⟩=some (ZY s.r.x)
 c5:w.cell? ⟨g,5,none⟩=some (ZZ ZS s.r.k)
 c6:w.cell? ⟨g,6,none⟩=some (ZZ ZS (s.size:Int))
 c7:w.cell? ⟨g,7,none⟩=some (ZW s.cnt)
 c8:w.cell? ⟨g,8,none⟩=some (ZZ ZS (s.bl:Int))
 c9:w.cell? ⟨g,9,none⟩=some (t)
 c10:w.cell? ⟨g,10,none⟩=some (ZW s.r.ch)
 c11:w.cell? ⟨g,11,none⟩=some (bd)
 c12:w.cell? ⟨g,12,none⟩=some (ZZ ZS (s.left:Int))
 c13:w.cell? ⟨g,13,none⟩=some (ZZ ZQ (p:Int))
 c14:w.cell? ⟨g,14,none⟩=some (ZZ ZS b.x0)
 c15:w.cell? ⟨g,15,none⟩=some (ZZ ZS b.x1)
 c16:w.cell? ⟨g,16,none⟩=some (ZZ ZS b.x2)
 c17:w.cell? ⟨g,17,none⟩=some (ZZ ZS b.x3)
 c18:w.cell? ⟨g,18,none⟩=some (ZZ ZS b.x4)
 c19:w.cell? ⟨g,19,none⟩=some (ZZ ZS b.x5)
 c20:w.cell? ⟨g,20,none⟩=some (ZZ ZS b.x6)
 c21:w.cell? ⟨g,21,none⟩=some (ZZ ZS b.x7)
 c22:w.cell? ⟨g,22,none⟩=some (ZW b.ch)
 c23:w.cell? ⟨g,23,none⟩=some (ZW b.od)
 c24:w.cell? ⟨g,24,none⟩=some (ZZ ZS (s.st:Int))
 c25:w.cell? ⟨g,25,none⟩=some (ptr q)
 c26:w.cell? ⟨g,26,none⟩=some (o)
theorem Cs.of {w:World} {g:Nat} {p:Nat} {b:Bd} {s:T} {q:Nat} {f bd t o:Value} (h:w.heap[g]?=some (.cells (pgcells p b s q f bd t o).toArray 55 (0,0))):Cs w g p b s q f bd t o:=⟨row_cellL h rfl,row_cellL h rfl,row_cellL h rfl,row_cellL h rfl,row_cellL h rfl,row_cellL h rfl,row_cellL h rfl,row_cellL h rfl,row_cellL h rfl,row_cellL h rfl,row_cellL h rfl,row_cellL h rfl,row_cellL h rfl,row_cellL h rfl,row_cellL h rfl,row_cellL h rfl,row_cellL h rfl,row_cellL h rfl,row_cellL h rfl,row_cellL h rfl,row_cellL h rfl,row_cellL h rfl,row_cellL h rfl,row_cellL h rfl,row_cellL h rfl,row_cellL h rfl,row_cellL h rfl⟩
abbrev deadcells (e:Nat) (o:Value):List Value:= [ZZ ZS (e:Int),ZZ ZS 0,nil,ZY E0,ZY E0,ZZ ZS 0,ZZ ZS 0,ZW false,ZZ ZS 0,nil,ZW false,nil,ZZ ZS 0,ZZ ZQ 0,ZZ ZS 0,ZZ ZS 0,ZZ ZS 0,ZZ ZS 0,ZZ ZS 0,ZZ ZS 0,ZZ ZS 0,ZZ ZS 0,ZW false,ZW false,ZZ ZS 0,ZV none,o]
structure Dead (w:World) (B:Zone) (g:Nat) (e:Nat) (o:Value) (out:List D7):Prop where
 row:w.heap[g]?=some (.cells (deadcells e o).toArray 55 (0,0))
 O:Outs [some g,o.ownBlock] B w o out
 ne:o.ownBlock≠some g
 ge:B<=g
 lt:g<w.heap.size
 bad:e≠0
 zone:Clear w B.z [some g,o.ownBlock]
section
set_option maxHeartbeats 4000000
set_option maxRecDepth 20000
attribute [local go_sem] Am
variable {w:World} {B:Zone} {g q:Nat} {v f bd t o:Value} {p:Nat} {b:Bd} {s:T}
theorem PR.cs (h:PR w B g q v f bd t o p b s):Cs w g p b s q f bd t o:=Cs.of h.row
theorem PR.marks (h:PR w B g q v f bd t o p b s) (k:Nat):w.frozen? ⟨g,k,none⟩=false:=CV h.row k
theorem PR.line (h:PR w B g q v f bd t o p b s) {w':World} (hb:Below w.heap.size w w') {q1:Nat} {rd1:Ln.M} (hr:Ln.Rd w' B q1 (ZX none 0 0) rd1) (hq:w.heap.size<=q1):PR (w'.setCell ⟨g,25,none⟩ (ptr q1)) B g q1 (ZX none 0 0) f bd t o p b {s with rd:=rd1}:=
 ⟨row_setL ((hb.block g h.own.lt).trans h.row) 25 (ptr q1),(h.own.line hb hr hq).set 25 (ptr q1)⟩
theorem failed_live (h:w.cell? ⟨g,0,none⟩=some (ZZ ZS 0)):Calls EW 78 #[ptr g] w λr w'=>r=.returned (ZW false)/\w'=w:=by go_enter Tryz.func78,Tryz.ntmps78;go_wp2;go_ret;exact ⟨rfl,rfl⟩
theorem failed_dead {e:Nat} (h:w.cell? ⟨g,0,none⟩=some (ZZ ZS (e:Int))) (hn:e≠0):Calls EW 78 #[ptr g] w λr w'=>r=.returned (ZW true)/\w'=w:=by
 have h1:((e:Int)==0)=false:=beq_eq_false_iff_ne.2 (by omega);have h2:¬(e:Int)=0:=by omega
 have h3:((e:Int) != 0)=true:=bne_iff_ne.2 h2;go_enter Tryz.func78,Tryz.ntmps78;go_wp2;go_ret;exact ⟨by rw [←h3];rfl,rfl⟩
theorem err_any {x:Int} (h:w.cell? ⟨g,0,none⟩=some (ZZ ZS x)):Calls EW 20 #[ptr g] w λr w'=>r=.returned (ZZ ZS x)/\w'=w:=by go_enter Tryz.func20,Tryz.ntmps20;go_wp2;go_ret;exact ⟨rfl,rfl⟩
theorem isNew_any (h:PR w B g q v f bd t o p b s):Calls EW 82 #[ptr g] w λr w'=>r=.returned (ZW s.isNew)/\w'=w:=by
 have c25:=h.cs.c25;have HL0:=Ln.len_any h.own.R.row h.own.R.own
 have HP:=Bx (Ln.pending_any h.own.R.row);unfold T.isNew;generalize s.rd.pend=pe at *;generalize s.rd.len=n at *;rcases CZ n with rfl | hn
 ·have HL:=Bx (show Calls EW 79 #[ptr q] w λe w'=>e=.returned (ZZ ZS 0)/\w'=w from HL0);clear HL0;go_enter Tryz.func82,Tryz.ntmps82
  go_wp2_with (first
   |(go_at_call 79;with_reducible refine Cm HL.out ?_)
   |(go_at_call 123;with_reducible refine Cm HP.out ?_))
  go_ret;exact ⟨by cases pe<;>rfl,rfl⟩
 ·have HL:=Bx HL0
  have t1:((n:Int)==0)=false:=beq_eq_false_iff_ne.2 (by omega);have t2:¬(n:Int)=0:=by omega
  have t3:¬n=0:=by omega
  clear HL0;go_enter Tryz.func82,Tryz.ntmps82
  go_wp2_with (first
   |(go_at_call 79;with_reducible refine Cm HL.out ?_)
   |(go_at_call 123;with_reducible refine Cm HP.out ?_))
  go_ret;exact ⟨by rw [decide_eq_false t3];rfl,rfl⟩
theorem clean_live (h:PR w B g q v f bd t o p b s):Calls EW 25 #[ptr g] w λr w'=>r=.returned (ZW (s.st==1&&s.isNew))/\w'=w:=by
 have c24:=h.cs.c24
 have HN:=Bx (isNew_any h);clear h;generalize s.isNew=i at *;by_cases h1:s.st=1
 ·have c24:w.cell? ⟨g,24,none⟩=some (ZZ ZS 1):=by rw [h1] at c24;exact c24
  rw [h1];go_enter Tryz.func25,Tryz.ntmps25
  go_wp2_with (go_at_call 82;with_reducible refine Cm HN.out ?_);go_ret;exact ⟨rfl,rfl⟩
 ·have t1:((s.st:Int)==1)=false:=beq_eq_false_iff_ne.2 (by omega);have t2:¬(s.st:Int)=1:=by omega
  rw [beq_eq_false_iff_ne.2 h1];go_enter Tryz.func25,Tryz.ntmps25;go_wp2;go_ret;exact ⟨rfl,rfl⟩
theorem clean_dead (h:w.cell? ⟨g,24,none⟩=some (ZZ ZS 0)):Calls EW 25 #[ptr g] w λr w'=>r=.returned (ZW false)/\w'=w:=by go_enter Tryz.func25,Tryz.ntmps25;go_wp2;go_ret;exact ⟨rfl,rfl⟩
theorem bodyIsNext_dead (h:w.cell? ⟨g,24,none⟩=some (ZZ ZS 0)):Calls EW 74 #[ptr g] w λr w'=>r=.returned (ZW false)/\w'=w:=by go_enter Tryz.func74,Tryz.ntmps74;go_wp2;go_ret;exact ⟨rfl,rfl⟩
theorem _root_.Go.Proofs.YtdfabddnpgjepaaGreatDoor.XX8I9 {P:Prop} (h:P:=by
 rintro r w' ⟨rfl,rfl⟩
 exact ⟨_,rfl,Db _,⟨heap_alloc_new w _,FV _ _ _ _,hB,by simp [Value.ownBlock]⟩,(An _ _).alloc (Db _) _⟩):P:=h
theorem line_new (hp:p<4294967296) (B:Zone) (most:Int) (w:World) (hB:B<=w.heap.size):Calls EW 112 #[ZZ ZQ (p:Int),ZZ ZS most] w λr w'=>∃q1,r=.returned (ptr q1)/\w.heap.size<=q1/\Ln.Rd w' B q1 nil (Ln.M.of p most)/\Below w.heap.size w w':=by refine (Ln.new_any p hp most w).mono ?_;exact XX8I9
theorem enter_any (hp:p<4294967296) (h:PR w B g q v f bd t o p b s) (st:Nat) (x:Int) (hx:x=(st:Int)) (most:Int):Calls EW 68 #[ptr g,ZZ ZS x,ZZ ZS most] w λr w'=>
 r=.returned (ZT #[])/\∃q1,PR w' B g q1 nil f bd t o p b (s.enter p st most)/\Step (blks g q v f bd t o) (blks g q1 nil f bd t o) w w':=by
 subst hx;have c24:=h.cs.c24;have z24:=h.marks 24
 have H1:=Bx (h.put 24 (ZZ ZS (st:Int)) {s with st:=st} rfl rfl rfl rfl rfl rfl)
 have HS1:=Bx (Step.set (w:=w) (L:=blks g q v f bd t o) g 24 (ZZ ZS (st:Int)) (by simp));clear h;go_enter Tryz.func68,Tryz.ntmps68;go_upto_region 1 with fail
 generalize w.setCell ⟨g,24,none⟩ (ZZ ZS (st:Int))=W1 at *;clear c24 z24;have c13:=H1.out.cs.c13;have e25:=H1.out.cs.c25;have z25:=H1.out.marks 25
 have HNL:=Bx (line_new hp B most W1 (Dd H1.out.own.ge (Da H1.out.own.lt)));go_wp2_with
  (go_at_call 112;with_reducible refine HNL.out.mono ?_;rintro r w8 ⟨q1,rfl,hq1,hr1,hb8⟩
   have d25:=(hb8.cell (p:=⟨g,25,none⟩) H1.out.own.lt).trans e25;have y25:=(hb8.frozen (p:=⟨g,25,none⟩) H1.out.own.lt).trans z25
   have HL8:=Bx (H1.out.line hb8 hr1 hq1);have HS8:=Bx (HS1.out.trans (Step.line hb8 hq1));clear hb8 hr1 hq1 e25 z25)
 go_end0;exact ⟨rfl,q1,HL8.out,HS8.out.trans (Step.set g 25 (ptr q1) (by simp))⟩
theorem draft_any (h:PR w B g q v f bd t o p b s):Calls EW 76 #[ptr g] w λr w'=>r=.returned (ZU #[ZY s.r.m,ZY s.r.x,ZZ ZS s.r.k,f,ZW s.r.ch,bd,t])/\Below w.heap.size w w':=by
 obtain ⟨fo,fc,ef, -⟩:=CT h.own.F;obtain ⟨bo,bc,eb, -⟩:=CT h.own.D;obtain ⟨ta,tc,et, -⟩:=CT h.own.TR;subst ef eb et
 have hb0:=((An _ _).alloc (Db _) (.cells #[ZY ⟨#[]⟩,ZY ⟨#[]⟩,ZZ ZS 0,ZX none 0 0,ZW false,ZX none 0 0,ZX none 0 0] 58):Below w.heap.size w _)
 have H1:=Bx (h.below hb0);obtain ⟨G1,hG1⟩:∃G1,G1=w.heap.size:=⟨_,rfl⟩
 have HZ:=Bx (D6 w G1 hG1 58 [ZY ⟨#[]⟩,ZY ⟨#[]⟩,ZZ ZS 0,ZX none 0 0,ZW false,ZX none 0 0,ZX none 0 0]);have HB0:=Bx hb0;have HG1:=Bx hG1;clear h hb0;go_enter Tryz.func76,Tryz.ntmps76;go_upto_region 1 with fail
 rw [←hG1];clear hG1;generalize w.alloc (.cells #[ZY ⟨#[]⟩,ZY ⟨#[]⟩,ZZ ZS 0,ZX none 0 0,ZW false,ZX none 0 0,ZX none 0 0] 58)=W1 at *
 have HQ:=Bx ((H1.out.drew 1).bk);refine Each.region 38 [3,4,5,6,7,8,9,10,11,12,13,14,15,16,17,18,19,20,21,22,23,24,25,26,27,28,29,30,31,32,33,34,35,36,37,38,39,40] [eP g 0,eP g 0,eP g 1,eP g 3,eQ (ZY s.r.m),eP g 0,eP g 0,eP g 1,eP g 4,eQ (ZY s.r.x),eP g 0,eP g 0,eP g 1,eP g 5,eQ (ZZ ZS s.r.k),eP g 0,eP g 0,eP g 1,eP g 1,eP g 2,eQ (.slice fo s.r.fs.length fc),eP g 0,eP g 0,eP g 8,eP g 10,eQ (ZW s.r.ch),eP g 0,eP g 0,eP g 8,eP g 11,eQ (.slice bo s.r.body.length bc),eP g 0,eP g 0,eP g 8,eP g 8,eP g 9,eQ (.slice ta s.r.ts.length tc),eQ (ZU #[ZY s.r.m,ZY s.r.x,ZZ ZS s.r.k,.slice fo s.r.fs.length fc,ZW s.r.ch,.slice bo s.r.body.length bc,.slice ta s.r.ts.length tc])] (.act 38 .done) (by kernel_rfl) (by kernel_rfl) (by kernel_rfl) (by kernel_rfl) (λ_ _ d _ _ h=>by cases d<;>exact h) (by rfl) (by rfl) (by repeat first | exact trivial | refine ⟨Each.Lasts.eq _,?_⟩) ?_ ?_
 ·refine ⟨?_,?_,?_,?_,?_,?_,?_,?_,?_,?_,?_,?_,?_,?_,?_,?_,?_,?_,?_,?_,?_,?_,?_,?_,?_,?_,?_,?_,?_,?_,?_,?_,?_,?_,?_,?_,?_,?_,trivial⟩
  all_goals (refine Each.fine rfl (λev w1 hR hb hh=>?_);have e0:=hR.old 0 rfl;simp only [Ag,Cg,BY,BZ,Ds] at e0;have q3:=(HQ.out.below hb).c 3 _ rfl;have q4:=(HQ.out.below hb).c 4 _ rfl;have q5:=(HQ.out.below hb).c 5 _ rfl;have q2:=(HQ.out.below hb).c 2 _ rfl;have q10:=(HQ.out.below hb).c 10 _ rfl;have q11:=(HQ.out.below hb).c 11 _ rfl;have q9:=(HQ.out.below hb).c 9 _ rfl;exact Each.std)
 intro g1 w2 hb hf;have z40:g1 40= _:=hf.at 37;clear hf;simp only [Each.putg,Ab,CH,CK,CJ];rw [z40];simp only [Ee,Ef,BZ,BY]
 have HZ2:=Bx (HZ.out.below (Al (An _ _) hb))
 have HB2:=Bx (Al HB0.out hb);have c0:=HZ2.out.c 0 _ rfl;have c1:=HZ2.out.c 1 _ rfl;have c2:=HZ2.out.c 2 _ rfl;have c3:=HZ2.out.c 3 _ rfl;have c4:=HZ2.out.c 4 _ rfl;have c5:=HZ2.out.c 5 _ rfl;have c6:=HZ2.out.c 6 _ rfl
 have z0:=HZ2.out.z 0 (by simp);have z1:=HZ2.out.z 1 (by simp);have z2:=HZ2.out.z 2 (by simp);have z3:=HZ2.out.z 3 (by simp);have z4:=HZ2.out.z 4 (by simp);have z5:=HZ2.out.z 5 (by simp);have z6:=HZ2.out.z 6 (by simp)
 refine Ec (by rfl) (λK hK=>?_);go_simp;refine hK _ _ trivial ?_;clear hK K;refine Ed ?_
 obtain ⟨X,hX,hBX,hbX, -, -, -⟩:=Rec.put7 HZ2.out (by simp) HB2.out (by rw [HG1.out];exact Db _) (ZY s.r.m) (ZY s.r.x) (ZZ ZS s.r.k) (.slice fo s.r.fs.length fc) (ZW s.r.ch) (.slice bo s.r.body.length bc) (.slice ta s.r.ts.length tc);clear c0 c1 c2 c3 c4 c5 c6 z0 z1 z2 z3 z4 z5 z6;go_wp2;rw [hX];have d0:=hBX.c 0 _ rfl;have d1:=hBX.c 1 _ rfl;have d2:=hBX.c 2 _ rfl;have d3:=hBX.c 3 _ rfl;have d4:=hBX.c 4 _ rfl;have d5:=hBX.c 5 _ rfl;have d6:=hBX.c 6 _ rfl;refine bodyPost_ret (v:=ZU #[ZY s.r.m,ZY s.r.x,ZZ ZS s.r.k,.slice fo s.r.fs.length fc,ZW s.r.ch,.slice bo s.r.body.length bc,.slice ta s.r.ts.length tc]) (by simp [results,Tryz.results76,go_sem,d0,d1,d2,d3,d4,d5,d6]) rfl ⟨rfl,hbX⟩
theorem XXavT {P:Prop} (h:P:=by
 go_enter Tryz.func184,Tryz.ntmps184;go_wp2;go_ret
 exact ⟨rfl,rfl⟩):P:=h
theorem tooLong_any (h:w.cell? ⟨g,24,none⟩=some (ZZ ZS (s.st:Int))):Calls EW 184 #[ptr g] w λr w'=>r=.returned (ZZ ZS (longE s.st:Int))/\w'=w:=by
 unfold longE;generalize s.st=n at *;by_cases h1:n=1
 ·subst h1;exact XXavT
 ·by_cases h2:n=2
  ·subst h2;exact XXavT
  ·by_cases h7:n=7
   ·subst h7;exact XXavT
   ·have t1:((n:Int)==1)=false:=beq_eq_false_iff_ne.2 (by omega)
    have t2:((n:Int)==2)=false:=beq_eq_false_iff_ne.2 (by omega)
    have t7:((n:Int)==7)=false:=beq_eq_false_iff_ne.2 (by omega);have m1:¬(n:Int)=1:=by omega
    have m2:¬(n:Int)=2:=by omega
    have m7:¬(n:Int)=7:=by omega
    rw [if_neg h1,if_neg (by omega)];clear h1 h2 h7;exact XXavT
theorem emptyLine_any (hp:p<4294967296) (h:w.cell? ⟨g,13,none⟩=some (ZZ ZQ (p:Int))):Calls EW 223 #[ptr g] w λr w'=>r=.returned (ZZ ZS ((if D0 p 0=true then 0 else 400:Nat):Int))/\w'=w:=by
 have HH0:=λw=>D3 p hp 0 w;generalize D0 p 0=e at *;have HH:=Bx HH0;clear HH0
 cases e<;> (go_enter Tryz.func223,Tryz.ntmps223
             go_wp2_with (go_at_call 84;with_reducible refine Cm (HH.out _) ?_);go_ret;exact ⟨rfl,rfl⟩)
end
end Go.Proofs.YtdfabddnpgjepaaGreatDoor.Pg
namespace Go.Proofs.YtdfabddnpgjepaaGreatDoor.Pg
open Go.RowKit Base Txt Mem Par
theorem Outs.less {L L':List (Option Nat)} {B:Zone} {w:World} {o:Value} {out:List D7} (h:Outs L B w o out) (hs:∀k,some k∈L'->some k∈L∨w.heap.size<=k):Outs L' B w o out:=by obtain ⟨ps,h1,h2,h3⟩:=h;exact ⟨ps,h1,λx hx=>⟨(h2 x hx).1,(h2 x hx).2.of hs⟩,h3⟩
theorem setRow_keeps (w:World) (g:Nat) (c:Array Value):Keeps [some g] w (w.setRow g c):=
 ⟨rfl,rfl,rfl,by simp [World.setRow],λk _ hn=>by
   unfold World.setRow;simp only [Array.getElem?_modify]
   rw [if_neg (λe=>hn (by rw [e];exact CB.2 rfl))]⟩
theorem wl_val {P:Program} {ops:Array Oper} {Q:Exit->Act->World->Prop} {rest:List Oper} {o:Oper} {a:Act} {w:World} (hw:DH o (yielded ops a.tmps)=true) (v:Value) (hv:(execOp a.eval o).run P w=.ok (.value v) w) (h:wpList P ops Q rest (a.put o.dst v) w):wpList P ops Q (o::rest) a w:=by unfold wpList;rw [if_pos hw];left;unfold Oper.wp;rw [hv,Oper.upon_value];exact h
theorem wl_act {P:Program} {ops:Array Oper} {Q:Exit->Act->World->Prop} {rest:List Oper} {o:Oper} {a:Act} {w:World} (hw:DH o (yielded ops a.tmps)=true) (h:o.wp P a w (wpList P ops Q rest) Q):wpList P ops Q (o::rest) a w:=by unfold wpList;rw [if_pos hw];exact .inl h
theorem parser_info:(EW.info? 55).map (·.size)=some 27:=by kernel_rfl
theorem byte_info:(EW.info? 5).map (λi=>(i.zero,i.size,i.bytes))=some (some (ZZ ZR 0),1,1):=by kernel_rfl
theorem record_info:(EW.info? 58).map (λi=>(i.zero,i.size,i.bytes))=some (some (ZU #[ZY A8,ZY A8,ZZ ZS 0,ZX none 0 0,ZW false,ZX none 0 0,ZX none 0 0]),7,120):=by kernel_rfl
section
set_option maxHeartbeats 4000000
set_option maxRecDepth 20000
attribute [local go_sem] Am
variable {w:World} {B:Zone} {g q:Nat} {v f bd t o:Value} {p:Nat} {b:Bd} {s:T}
theorem keep_any (c:UInt8) (h:PR w B g q v f bd t o p b s) (hl:1<=s.left/\s.left<=2000000) (hbl:s.r.body.length<=2000000):Calls EW 153 #[ZV (some ⟨g,8,none⟩),ZZ ZR (c.toNat:Int)] w λr w'=>
 r=.returned (ZW (decide (s.left=1)))/\∃bd1,PR w' B g q v f bd1 t o p b (s.keep c)/\Step (blks g q v f bd t o) (blks g q v f bd1 t o) w w':=by
 obtain ⟨iB,hi,hz0,hz1,hz2⟩:=info_parts byte_info;have I1:=Bx hi;have I2:=Bx hz0;have I3:=Bx hz1;have I4:=Bx hz2;obtain ⟨bb,cb,eb, -⟩:=CT h.own.D;subst eb;have H:=Bx h;have HBL:=Bx hbl;have c11:=h.cs.c11;have z11:=h.marks 11;clear hi hz0 hz1 hz2 hbl h;by_cases hmore:1<s.left
 ·obtain ⟨k,hleft⟩:∃k,s.left=k+1:=⟨s.left-1,by omega⟩;have e:s.keep c={s with r:={s.r with body:=s.r.body ++ [c]},left:=k}:=by unfold T.keep;rw [hleft];rfl
  rw [e,decide_eq_false (show¬s.left=1 by omega)];obtain ⟨a1,a2⟩:=DD (k:Int) ⟨by omega,by omega⟩;have a3:(k:Int)+1-1=(k:Int):=by omega
  have t1:((k:Int)==0)=false:=beq_eq_false_iff_ne.2 (by omega);have t2:¬(k:Int)=0:=by omega
  have t3:¬k=0:=by omega
  clear e hmore;go_enter Tryz.func153,Tryz.ntmps153;have HLE:=Bx hleft;clear hleft hl;go_upto_region 2 with
   (at_builtin;refine App.wpList_append_list _ rfl _ _ 22 rfl B 5 iB (.int .u8 0) 1 1 F0 I1.out I2.out I3.out I4.out rfl (by decide) (.slice bb s.r.body.length cb) s.r.body.length (Rec.vals s.r.body) rfl (H.out.own.D.alloc (.cells #[Rec.byteV c] 5)) (some ⟨w.heap.size,0,none⟩) 1 1 [Rec.byteV c] rfl rfl (λ_=>⟨w.heap.size,0,rfl,λj u hu=>by rw [Di];exact (D6 w _ rfl 5 [Rec.byteV c]).c j u hu⟩) (λu hu=>by rw [CB.1 hu];rfl) (by have:=HBL.out;unfold maxLen;omega) (by have:=HBL.out;omega) (by have:=H.out.own.lt;have:=H.out.own.ge;simp;omega) ?_;intro v2 w5 hO5 hgr5 _ hor5;obtain ⟨b9,c9,e9, -⟩:=CT hO5;subst e9;have hk5:Keeps [(.slice bb s.r.body.length cb:Value).ownBlock] (w.alloc (.cells #[Rec.byteV c] 5)) w5:=Keeps.grown hgr5 λk e=>by rw [e];exact CB.2 rfl
    have h4:=H.out.below ((An _ _).alloc (Db _) (.cells #[Rec.byteV c] 5));have hl:(s.r.body ++ [c]).length=s.r.body.length+1:=by simp
    obtain ⟨ho5,hs5⟩:=h4.own.setD (bd':=.slice b9 (s.r.body.length+1) c9) (body':=s.r.body ++ [c]) hk5 (by rw [hl,Rec.vals_app];exact hO5) (by
     rcases hor5 with e | e
     ·exact .inl e
     ·exact .inr ⟨_,e,Db _⟩)
    have hrow:w5.heap[g]?= _:=hk5.row h4.row (λhm=>by
     have e:some g=(.slice bb s.r.body.length cb:Value).ownBlock:=by simpa using hm
     exact h4.own.lone.ne (i:=0) (j:=4) rfl (by decide) (by rw [e];rfl))
    have HR5:=Bx hrow;have HO5:=Bx ho5;have HS5:=Bx ((Step.of_below ((An w.heap.size w).alloc (Db _) (.cells #[Rec.byteV c] 5))).trans hs5);have d11:=row_cellL hrow (k:=11) rfl;have y11:=CV hrow 11;clear hO5 hgr5 hor5 hk5 h4 hl ho5 hs5 hrow c11 z11)
  have H6:=Bx (show PR (w5.setCell ⟨g,11,none⟩ (.slice b9 (s.r.body.length+1) c9)) B g q v f (.slice b9 (s.r.body.length+1) c9) t o p b {s with r:={s.r with body:=s.r.body ++ [c]}} from ⟨row_setL HR5.out 11 (.slice b9 (s.r.body.length+1) c9),HO5.out.set 11 (.slice b9 (s.r.body.length+1) c9)⟩)
  have HS6:=Bx (HS5.out.trans (Step.set g 11 (.slice b9 (s.r.body.length+1) c9) (by simp)));clear HR5 HO5 HS5 d11 y11;generalize w5.setCell ⟨g,11,none⟩ (.slice b9 (s.r.body.length+1) c9)=W6 at *;have c12:W6.cell? ⟨g,12,none⟩=some (ZZ ZS ((k:Int)+1)):=by have:=H6.out.cs.c12;rw [HLE.out] at this;exact this
  have z12:=H6.out.marks 12
  have H7:=Bx (H6.out.put 12 (ZZ ZS (k:Int)) {s with r:={s.r with body:=s.r.body ++ [c]},left:=k} rfl rfl rfl rfl rfl rfl)
  have HS7:=Bx (HS6.out.trans (Step.set g 12 (ZZ ZS (k:Int)) (by simp)));clear HS6 H H6;go_wp2;go_ret;exact ⟨rfl,_,H7.out,HS7.out⟩
 ·have hleft:s.left=1:=by omega
  have e:s.keep c={s with r:={s.r with body:=s.r.body ++ [c]},left:=0}:=by unfold T.keep;rw [hleft]
  rw [e,decide_eq_true hleft];clear e hmore;go_enter Tryz.func153,Tryz.ntmps153;have HLE:=Bx hleft;clear hleft hl;go_upto_region 2 with
   (at_builtin;refine App.wpList_append_list _ rfl _ _ 22 rfl B 5 iB (.int .u8 0) 1 1 F0 I1.out I2.out I3.out I4.out rfl (by decide) (.slice bb s.r.body.length cb) s.r.body.length (Rec.vals s.r.body) rfl (H.out.own.D.alloc (.cells #[Rec.byteV c] 5)) (some ⟨w.heap.size,0,none⟩) 1 1 [Rec.byteV c] rfl rfl (λ_=>⟨w.heap.size,0,rfl,λj u hu=>by rw [Di];exact (D6 w _ rfl 5 [Rec.byteV c]).c j u hu⟩) (λu hu=>by rw [CB.1 hu];rfl) (by have:=HBL.out;unfold maxLen;omega) (by have:=HBL.out;omega) (by have:=H.out.own.lt;have:=H.out.own.ge;simp;omega) ?_;intro v2 w5 hO5 hgr5 _ hor5;obtain ⟨b9,c9,e9, -⟩:=CT hO5;subst e9;have hk5:Keeps [(.slice bb s.r.body.length cb:Value).ownBlock] (w.alloc (.cells #[Rec.byteV c] 5)) w5:=Keeps.grown hgr5 λk e=>by rw [e];exact CB.2 rfl
    have h4:=H.out.below ((An _ _).alloc (Db _) (.cells #[Rec.byteV c] 5));have hl:(s.r.body ++ [c]).length=s.r.body.length+1:=by simp
    obtain ⟨ho5,hs5⟩:=h4.own.setD (bd':=.slice b9 (s.r.body.length+1) c9) (body':=s.r.body ++ [c]) hk5 (by rw [hl,Rec.vals_app];exact hO5) (by
     rcases hor5 with e | e
     ·exact .inl e
     ·exact .inr ⟨_,e,Db _⟩)
    have hrow:w5.heap[g]?= _:=hk5.row h4.row (λhm=>by
     have e:some g=(.slice bb s.r.body.length cb:Value).ownBlock:=by simpa using hm
     exact h4.own.lone.ne (i:=0) (j:=4) rfl (by decide) (by rw [e];rfl))
    have HR5:=Bx hrow;have HO5:=Bx ho5;have HS5:=Bx ((Step.of_below ((An w.heap.size w).alloc (Db _) (.cells #[Rec.byteV c] 5))).trans hs5);have d11:=row_cellL hrow (k:=11) rfl;have y11:=CV hrow 11;clear hO5 hgr5 hor5 hk5 h4 hl ho5 hs5 hrow c11 z11)
  have H6:=Bx (show PR (w5.setCell ⟨g,11,none⟩ (.slice b9 (s.r.body.length+1) c9)) B g q v f (.slice b9 (s.r.body.length+1) c9) t o p b {s with r:={s.r with body:=s.r.body ++ [c]}} from ⟨row_setL HR5.out 11 (.slice b9 (s.r.body.length+1) c9),HO5.out.set 11 (.slice b9 (s.r.body.length+1) c9)⟩)
  have HS6:=Bx (HS5.out.trans (Step.set g 11 (.slice b9 (s.r.body.length+1) c9) (by simp)));clear HR5 HO5 HS5 d11 y11;generalize w5.setCell ⟨g,11,none⟩ (.slice b9 (s.r.body.length+1) c9)=W6 at *;have c12:W6.cell? ⟨g,12,none⟩=some (ZZ ZS 1):=by have:=H6.out.cs.c12;rw [HLE.out] at this;exact this
  have z12:=H6.out.marks 12
  have H7:=Bx (H6.out.put 12 (ZZ ZS 0) {s with r:={s.r with body:=s.r.body ++ [c]},left:=0} rfl rfl rfl rfl rfl rfl)
  have HS7:=Bx (HS6.out.trans (Step.set g 12 (ZZ ZS 0) (by simp)));clear HS6 H H6;go_wp2;go_ret;exact ⟨rfl,_,H7.out,HS7.out⟩
theorem count_any (most:Int) (h:PR w B g q v f bd t o p b s) (hsz:s.size<=1000000):Calls EW 155 #[ZV (some ⟨g,1,none⟩),ZZ ZS most] w λr w'=>
 r=.returned (ZW (!decide (most<(s.counted.size:Int))))/\PR w' B g q v f bd t o p b s.counted/\Step (blks g q v f bd t o) (blks g q v f bd t o) w w':=by
 obtain ⟨a1,a2⟩:=DD ((s.size:Int)+1) ⟨by omega,by omega⟩;have c6:=h.cs.c6;have z6:=h.marks 6;have c7:=h.cs.c7;have z7:=h.marks 7;have H:=Bx h;unfold T.counted;cases hc:s.cnt with
 | true=>
   rw [hc] at c7;have HC:=Bx hc;clear h hc;rw [if_pos rfl]
   by_cases hm:most<(s.size:Int)
   ·have t1:¬(s.size:Int)<=most:=by omega
    rw [decide_eq_true hm];clear hm;go_enter Tryz.func155,Tryz.ntmps155;go_wp2;go_ret;exact ⟨rfl,H.out,Step.refl⟩
   ·have t1:(s.size:Int)<=most:=by omega
    rw [decide_eq_false hm];clear hm;go_enter Tryz.func155,Tryz.ntmps155;go_wp2;go_ret;exact ⟨rfl,H.out,Step.refl⟩
 | false=>
   rw [hc] at c7
   have H2:=Bx ((h.put 7 (ZW true) {s with cnt:=true} rfl rfl rfl rfl rfl rfl).put 6 (ZZ ZS ((s.size:Int)+1)) {s with cnt:=true,size:=s.size+1} rfl rfl rfl rfl rfl rfl)
   have HS2:=Bx ((Step.set (w:=w) (L:=blks g q v f bd t o) g 7 (ZW true) (by simp)).trans (Step.set g 6 (ZZ ZS ((s.size:Int)+1)) (by simp)));clear h hc;rw [if_neg (by decide)]
   by_cases hm:most<((s.size+1:Nat):Int)
   ·have t1:¬(s.size:Int)+1<=most:=by omega
    rw [decide_eq_true hm];clear hm;go_enter Tryz.func155,Tryz.ntmps155;go_wp2;go_ret;exact ⟨rfl,H2.out,HS2.out⟩
   ·have t1:(s.size:Int)+1<=most:=by omega
    rw [decide_eq_false hm];clear hm;go_enter Tryz.func155,Tryz.ntmps155;go_wp2;go_ret;exact ⟨rfl,H2.out,HS2.out⟩
theorem fail_zero (w:World) (g:Nat):Calls EW 156 #[ptr g,ZZ ZS 0] w λr w'=>r=.returned (ZT #[])/\w'=w:=by go_enter Tryz.func156,Tryz.ntmps156;go_wp2;go_end0;exact ⟨rfl,rfl⟩
theorem fail_any (h:PR w B g q v f bd t o p b s) (e:Nat) (he:e≠0) (x:Int) (hx:x=(e:Int)):Calls EW 156 #[ptr g,ZZ ZS x] w λr w'=>
 r=.returned (ZT #[])/\Dead w' B g e o s.out/\Step (blks g q v f bd t o) [some g,o.ownBlock] w w':=by
 subst hx;obtain ⟨ps0, -, -,hrow0⟩:=h.own.O;obtain ⟨oo,oc,eo, -⟩:=CT hrow0;subst eo;clear hrow0;obtain ⟨W1,hW1⟩:∃W1,w.setRow g (deadcells e (.slice oo s.out.length oc)).toArray=W1:=⟨_,rfl⟩;have hk:Keeps [some g] w W1:=by rw [←hW1];exact setRow_keeps _ _ _
 have hrow:W1.heap[g]?=some (.cells (deadcells e (.slice oo s.out.length oc)).toArray 55 (0,0)):=by rw [←hW1];exact setRow_heap w g _ _ _ _ h.row
 have hne:(Value.slice oo s.out.length oc).ownBlock≠some g:=λe=>h.own.lone.ne (i:=0) (j:=6) rfl (by decide) (by rw [←e];rfl);have hsub:∀k,some k∈ [some g,(Value.slice oo s.out.length oc).ownBlock]->some k∈blks g q v f bd t (.slice oo s.out.length oc):=λk hk=>by
  simp only [C6,CD,or_false] at hk ⊢;rcases hk with hk | hk
  ·exact .inl hk
  ·exact .inr (.inr (.inr (.inr (.inr (.inr hk)))))
 have HD:=Bx (show Dead W1 B g e (.slice oo s.out.length oc) s.out from ⟨hrow,Outs.less (h.own.O.keeps hk (λk hk=>by simp only [CB] at hk;simp [hk]) (λk e hm=>hne (by rw [e,CB.1 hm]))) (λk hk=>.inl (hsub k hk)),hne,h.own.ge,Df h.own.lt hk.size,he,h.own.zone.of hk.size λk hk=>.inl (hsub k hk)⟩)
 have HS:=Bx (show Step (blks g q v f bd t (.slice oo s.out.length oc)) [some g,(Value.slice oo s.out.length oc).ownBlock] w W1 from ⟨hk.mono (λk hk=>by simp only [CB] at hk;simp [hk]),λk hk=>.inl (hsub k hk)⟩);have c26:=h.cs.c26;have HR:=Bx h.row;have HW1:=Bx hW1
 have t1:((e:Int)==0)=false:=beq_eq_false_iff_ne.2 (by omega);have t2:¬(e:Int)=0:=by omega
 have t3:((e:Int) != 0)=true:=bne_iff_ne.2 t2;clear hk hrow hne hsub h he hW1;go_enter Tryz.func156,Tryz.ntmps156;go_upto_region 1 with fail
 refine wp_region_lit ?_;refine wl_val (by rfl) (ptr g) (by go_simp) ?_;simp only [Ab,CH,CK,CJ];refine wl_val (by rfl) (ZZ ZS (e:Int)) (by go_simp) ?_;simp only [Ab,CH,CK,CJ];refine wl_val (by rfl) (ZU #[ZZ ZS (e:Int)]) (by go_simp) ?_;simp only [Ab,CH,CK,CJ];refine wl_val (by rfl) (ptr g) (by go_simp) ?_;simp only [Ab,CH,CK,CJ];refine wl_val (by rfl) (ptr g) (by go_simp) ?_;simp only [Ab,CH,CK,CJ];refine wl_val (by rfl) (ZV (some ⟨g,26,none⟩)) (by go_simp) ?_;simp only [Ab,CH,CK,CJ];refine wl_val (by rfl) (.slice oo s.out.length oc) (by go_simp) ?_;simp only [Ab,CH,CK,CJ];refine wl_val (by rfl) (ZU (deadcells e (.slice oo s.out.length oc)).toArray) (by go_simp) ?_;simp only [Ab,CH,CK,CJ];refine wl_val (by rfl) (ptr g) (by go_simp) ?_;simp only [Ab,CH,CK,CJ]
 refine wl_act (by rfl) (wp_store_row 55 (.tmp 14) (.tmp 13) rfl g (deadcells e (.slice oo s.out.length oc)).toArray rfl rfl 55 _ HR.out parser_info rfl (Array.all_eq_true_iff_forall_mem.2 (by intro u hu;simp only [List.mem_toArray,C6,CD,or_false] at hu;rcases hu with rfl | rfl | rfl | rfl | rfl | rfl | rfl | rfl | rfl | rfl | rfl | rfl | rfl | rfl | rfl | rfl | rfl | rfl | rfl | rfl | rfl | rfl | rfl | rfl | rfl | rfl | rfl<;>rfl)) ?_);rw [HW1.out];refine wpList_nil ?_;go_wp2;go_end0;exact ⟨rfl,HD.out,HS.out⟩
theorem XXU8h {P:Prop} (h:P:=by
 have H2:=H.out.below hb;obtain ⟨ps,hps,hfar,hrow⟩:=H2.own.O;obtain ⟨bo,co,eo, -⟩:=CT hrow;subst eo
 obtain ⟨v',w3,hrun,ho,hgr,hor⟩:=App.run_append_list w2 39 39 B 58 iR (.agg #[.string A8,.string A8,.int .i64 0,.slice none 0 0,.bool false,.slice none 0 0,.slice none 0 0]) 7 120 Tryz.underlying39 I1.out I2.out I3.out I4.out rfl (by decide) (.slice bo s.out.length co) s.out.length (ps.flatMap (·.1.toList)) hrow (some ⟨gl,0,none⟩) 1 1 [.string s.r.m,.string s.r.x,.int .i64 s.r.k,f,.bool s.r.ch,bd,t] rfl (λ_=>⟨gl,0,rfl,λj u hu=>by rw [Di];exact hBl.c j u hu⟩) (by intro u hu;simp only [C6,CD,or_false] at hu;rcases hu with rfl | rfl | rfl | rfl | rfl | rfl | rfl<;>first | rfl | exact one_own H2.own.F | exact one_own H2.own.D | exact one_own H2.own.TR) (by have:=HN.out;unfold maxLen;omega) (by have:=HN.out;omega) (Dd H2.own.ge (Da H2.own.lt));obtain ⟨b9,c9,e9, -⟩:=CT ho;subst e9;have HP:=H2.own.push hgr ps hps hfar ho hor;have hr3:w3.heap[g]?=some (.cells (pgcells p b s q f bd t (.slice bo s.out.length co)).toArray 55 (0,0)):=(hgr.block g H2.own.lt (λe=>H2.own.lone.ne (i:=0) (j:=6) rfl (by decide) (by rw [e];rfl))).trans H2.row
 refine Ec (by rfl) (λK hK=>?_);refine Each.oper_append _ _ _ rfl (by rfl) (by rfl) hrun ?_;refine hK _ _ trivial ?_;clear hK K hrun;simp only [Ab,CH,CK,CJ];refine Eg (by rfl) (ptr g) (λ_ _=>by go_simp) ?_;simp only [Ab,CH,CK,CJ];refine Eg (by rfl) (ZV (some ⟨g,26,none⟩)) (λ_ _=>by go_simp) ?_;simp only [Ab,CH,CK,CJ];have c26:=(Cs.of hr3).c26;have z26:=CV hr3 26
 refine Ec (by rfl) (λK hK=>?_);go_simp;refine hK _ _ trivial ?_;clear hK K;refine Ed ?_
 have HR4:=Bx (row_setL hr3 26 (.slice b9 (s.out.length+1) c9))
 have HO4:=Bx (HP.set 26 (.slice b9 (s.out.length+1) c9))
 have HS4:=Bx (((Step.of_below hb (L:=blks g q v f bd t (.slice bo s.out.length co))).trans (Step.push hgr hor)).trans (Step.set g 26 (.slice b9 (s.out.length+1) c9) (by simp)));clear c26 z26 hr3 HP hgr ho hor hrow hfar hps H2 hBl;generalize w3.setCell ⟨g,26,none⟩ (.slice b9 (s.out.length+1) c9)=W4 at *;have cs:=Cs.of (s:={s with out:=s.out ++ [s.r]}) (o:=.slice b9 (s.out.length+1) c9) HR4.out;have c1:=cs.c1;have z1:=CV HR4.out 1;have c2:=cs.c2;have z2:=CV HR4.out 2;have c3:=cs.c3;have z3:=CV HR4.out 3;have c4:=cs.c4;have z4:=CV HR4.out 4;have c5:=cs.c5;have z5:=CV HR4.out 5;have c6:=cs.c6;have z6:=CV HR4.out 6;have c7:=cs.c7;have z7:=CV HR4.out 7;have c8:=cs.c8;have z8:=CV HR4.out 8;have c9:=cs.c9;have z9:=CV HR4.out 9;have c10:=cs.c10;have z10:=CV HR4.out 10;have c11:=cs.c11;have z11:=CV HR4.out 11;have c12:=cs.c12;have z12:=CV HR4.out 12;have c24:=cs.c24;have z24:=CV HR4.out 24;clear cs;go_wp2;go_end0
 exact ⟨rfl,_,⟨row_setL (row_setL (row_setL (row_setL (row_setL (row_setL (row_setL (row_setL (row_setL (row_setL (row_setL (row_setL (row_setL (HR4.out) 1 (ZZ ZS 0)) 2 (nil)) 3 (ZY E0)) 4 (ZY E0)) 5 (ZZ ZS 0)) 6 (ZZ ZS 0)) 7 (ZW false)) 8 (ZZ ZS 0)) 9 (nil)) 10 (ZW false)) 11 (nil)) 12 (ZZ ZS 0)) 24 (ZZ ZS 1),(((((((((((((HO4.out).set 1 (ZZ ZS 0)).set 2 (nil)).set 3 (ZY E0)).set 4 (ZY E0)).set 5 (ZZ ZS 0)).set 6 (ZZ ZS 0)).set 7 (ZW false)).set 8 (ZZ ZS 0)).set 9 (nil)).set 10 (ZW false)).set 11 (nil)).set 12 (ZZ ZS 0)).set 24 (ZZ ZS 1)⟩,(((((((((((((HS4.out).trans (Step.set g 1 (ZZ ZS 0) (by simp))).trans (Step.set g 2 (nil) (by simp))).trans (Step.set g 3 (ZY E0) (by simp))).trans (Step.set g 4 (ZY E0) (by simp))).trans (Step.set g 5 (ZZ ZS 0) (by simp))).trans (Step.set g 6 (ZZ ZS 0) (by simp))).trans (Step.set g 7 (ZW false) (by simp))).trans (Step.set g 8 (ZZ ZS 0) (by simp))).trans (Step.set g 9 (nil) (by simp))).trans (Step.set g 10 (ZW false) (by simp))).trans (Step.set g 11 (nil) (by simp))).trans (Step.set g 12 (ZZ ZS 0) (by simp))).trans (Step.set g 24 (ZZ ZS 1) (by simp))⟩):P:=h
theorem XXATG {P:Prop} (h:P:=by refine Each.fine rfl (λev w1 hR hb hh=>?_);have e0:=hR.old 0 rfl;simp only [Ag,Cg,BY,BZ,Ds] at e0;have q26:=(HQ.out.below hb).c 26 _ rfl;exact Each.std):P:=h
theorem _root_.Go.Proofs.YtdfabddnpgjepaaGreatDoor.XXUgj {P:Prop} (h:P:=by
 rintro r w2 ⟨rfl,hb2⟩
 exact ⟨_,rfl,hb2,rfl⟩):P:=h
theorem _root_.Go.Proofs.YtdfabddnpgjepaaGreatDoor.XX4eD {P:Prop} (h:P:=by
 clear hh
 exact Each.Goes.value (ZX (some ⟨w1.heap.size,0,none⟩) 1 1) (w1.alloc (.cells #[ZY s.r.m,ZY s.r.x,ZZ ZS s.r.k,f,ZW s.r.ch,bd,t] 58)) (by go_simp) ((An _ _).alloc (Db _) _) ⟨_,rfl,D6 w1 _ rfl 58 [ZY s.r.m,ZY s.r.x,ZZ ZS s.r.k,f,ZW s.r.ch,bd,t]⟩):P:=h
theorem finish_any (h:PR w B g q v f bd t o p b s) (hn:s.out.length<=1000000000):Calls EW 180 #[ptr g] w λr w'=>
 r=.returned (ZT #[])/\∃o1,PR w' B g q v nil nil nil o1 p b s.fin/\Step (blks g q v f bd t o) (blks g q v nil nil nil o1) w w':=by
 obtain ⟨iR,hi,hz0,hz1,hz2⟩:=info_parts record_info;have I1:=Bx hi;have I2:=Bx hz0;have I3:=Bx hz1;have I4:=Bx hz2;clear hi hz0 hz1 hz2
 have H:=Bx h;have HN:=Bx hn;have HD:=Bx (h.drew 1)
 have HQ:=Bx ((h.drew 1).bk);clear h hn;go_enter Tryz.func180,Tryz.ntmps180;go_upto_region 0 with fail
 refine Each.region_float 8 [2,3,4,5,6,7,8,9] [eP g 0,eP g 0,eP g 0,eP g 26,eQ (o),eP g 0,eQ (ZU #[ZY s.r.m,ZY s.r.x,ZZ ZS s.r.k,f,ZW s.r.ch,bd,t]),λv w=>∃g1,v=ZX (some ⟨g1,0,none⟩) 1 1/\D5 w g1 [ZY s.r.m,ZY s.r.x,ZZ ZS s.r.k,f,ZW s.r.ch,bd,t]] [] 4 (some 0) (.act 8 (.quiet 9 (.quiet 10 (.act 11 .done)))) (.quiet 0 (.act 8 (.quiet 9 (.quiet 10 (.act 11 .done))))) (by kernel_rfl) (by kernel_rfl) (by kernel_rfl) (by kernel_rfl) (λk0 h=>by cases h;kernel_rfl) (λ_ _ d _ _ h=>by cases d<;>exact h) (by rfl) (by rfl) ⟨Each.Lasts.eq _,Each.Lasts.eq _,Each.Lasts.eq _,Each.Lasts.eq _,Each.Lasts.eq _,Each.Lasts.eq _,Each.Lasts.eq _,((λ_ _ _ hb h=>by obtain ⟨g1,e1,hB⟩:=h;exact ⟨g1,e1,hB.below hb⟩)),trivial⟩ trivial (by rfl) ?_ ?_ ?_
 ·refine ⟨?_,?_,?_,?_,?_,?_,?_,?_,trivial⟩
  ·exact XXATG
  ·exact XXATG
  ·exact XXATG
  ·exact XXATG
  ·exact XXATG
  ·exact XXATG
  ·refine Each.fine rfl (λev w1 hR hb hh=>?_);have e7:ev (.tmp 7)= _:=hh.at 0;clear hh;have ef:=hR.func
   refine Each.Goes.enter 76 #[ptr g] (by go_simp) ((draft_any (HD.out.below hb)).mono ?_);exact XXUgj
  ·refine Each.fine rfl (λev w1 hR hb hh=>?_);have e8:ev (.tmp 8)= _:=hh.at 0;exact XX4eD
 ·intro g1 w2 hb hf;have z2:g1 2= _:=hf.at 0;have z6:g1 6= _:=hf.at 4;have z9:=hf.at 7;clear hf;obtain ⟨gl,el,hBl⟩:=z9;simp only [Each.putg,Ab,CH,CK,CJ];rw [z2,z6,el];simp only [Ee,Ef,BZ,BY];exact XXU8h
 ·intro k0 hk0 g1 w2 hb hf;cases hk0;have z6:g1 6= _:=hf.at 4;have z9:=hf.at 7;clear hf;obtain ⟨gl,el,hBl⟩:=z9;simp only [Each.putg,Ab,CH,CK,CJ];rw [z6,el];simp only [Ee,Ef,BZ,BY];refine Eg (by rfl) (ptr g) (λ_ _=>by go_simp) ?_;simp only [Ab,CH,CK,CJ];exact XXU8h
theorem endData_any (hp:p<4294967296) (h:PR w B g q v f bd t o p b s) (hn:s.out.length<=1000000000):Calls EW 154 #[ptr g] w λr w'=>
 r=.returned (ZT #[])/\∃q1 v1 f1 bd1 t1 o1,PR w' B g q1 v1 f1 bd1 t1 o1 p b (s.endData p)/\Step (blks g q v f bd t o) (blks g q1 v1 f1 bd1 t1 o1) w w':=by
 have c10:=h.cs.c10;unfold T.endData;cases hc:s.r.ch with
 | true=>
   rw [hc] at c10
   have HE:=Bx (enter_any hp h 6 6 rfl 0);rw [if_pos rfl];clear h hc;go_enter Tryz.func154,Tryz.ntmps154
   go_wp2_with (go_at_call 68;with_reducible refine HE.out.mono ?_;rintro r w2 ⟨rfl,q1,hP,hS⟩);first | go_end0 | refine bodyPost_ret (results_none rfl _ _ _) rfl ?_
   exact ⟨rfl,_,_,_,_,_,_,hP,hS⟩
 | false=>
   rw [hc] at c10
   have HE:=Bx (finish_any h hn);rw [if_neg (by decide)];clear h hc;go_enter Tryz.func154,Tryz.ntmps154
   go_wp2_with (go_at_call 180;with_reducible refine HE.out.mono ?_;rintro r w2 ⟨rfl,o1,hP,hS⟩);first | go_end0 | refine bodyPost_ret (results_none rfl _ _ _) rfl ?_
   exact ⟨rfl,_,_,_,_,_,_,hP,hS⟩
theorem XXf9z {P:Prop} (h:P:=by
 rcases hb with ⟨rfl,rfl⟩ | ⟨rfl,hn⟩
 ·go_enter Tryz.func74,Tryz.ntmps74
  go_wp2_with (go_at_call 82;with_reducible refine Cm HN.out ?_);go_ret;exact ⟨rfl,rfl⟩
 ·have t1:((n:Int)==0)=false:=beq_eq_false_iff_ne.2 (by omega);have t2:¬(n:Int)=0:=by omega
  go_enter Tryz.func74,Tryz.ntmps74;go_wp2;go_ret
  exact ⟨rfl,rfl⟩):P:=h
theorem bodyIsNext_live (h:PR w B g q v f bd t o p b s) (hbl:s.r.body.length<=2000000):Calls EW 74 #[ptr g] w λr w'=>r=.returned (ZW s.next)/\w'=w:=by
 obtain ⟨bb,cb,eb, -⟩:=CT h.own.D;subst eb;have c24:=h.cs.c24;have c11:=h.cs.c11
 have HN:=Bx (isNew_any h);unfold T.next;clear h;generalize s.isNew=i at *;have hb:(s.r.body.isEmpty=true/\s.r.body.length=0)∨(s.r.body.isEmpty=false/\¬s.r.body.length=0):=by cases s.r.body<;>simp
 generalize s.r.body.isEmpty=e at *;generalize s.r.body.length=n at *;generalize s.st=k at *;have hk:k=3∨k=4∨¬k=3/\¬k=4:=by omega
 rcases hk with rfl | rfl | ⟨k3,k4⟩
 ·exact XXf9z
 ·exact XXf9z
 ·have t3:((k:Int)==3)=false:=beq_eq_false_iff_ne.2 (by omega)
  have t4:((k:Int)==4)=false:=beq_eq_false_iff_ne.2 (by omega);have m3:¬(k:Int)=3:=by omega
  have m4:¬(k:Int)=4:=by omega
  rw [beq_eq_false_iff_ne.2 k3,beq_eq_false_iff_ne.2 k4];go_enter Tryz.func74,Tryz.ntmps74;go_wp2;go_ret;exact ⟨rfl,rfl⟩
end
end Go.Proofs.YtdfabddnpgjepaaGreatDoor.Pg
