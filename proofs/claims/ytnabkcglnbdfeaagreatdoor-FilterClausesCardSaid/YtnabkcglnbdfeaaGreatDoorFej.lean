import Derived.Test.YtnabkcglnbdfeaaGreatDoorFei
namespace Go.Proofs.YtnabkcglnbdfeaaGreatDoor.Par
open Go.RowKit Base Txt
theorem grow_facts {base most:Int} (hb:1≤base) (hm:0≤most):∀(l:List UInt8) (n k:Int),0≤n→n≤most→Num.grow base most n l=some k→0≤k∧k≤most
 | [],n,k,h0,h1,h=>by
   simp only [Num.grow,Option.some.injEq] at h;omega
 | c::r,n,k,h0,h1,h=>by
   unfold Num.grow at h;by_cases hc:most<Num.dig c∨(most-Num.dig c)/base<n
   ·rw [if_pos hc] at h;cases h
   ·rw [if_neg hc] at h;have hd:=Num.dig_nonneg c;have h2:n≤(most-Num.dig c)/base:=by omega
    have h3:n*base≤most-Num.dig c:=by
     have:=Int.mul_le_mul_of_nonneg_right h2 (by omega:0≤base)
     have h4:=Int.ediv_mul_le (most-Num.dig c) (by omega:base≠0);omega
    have h5:0≤n*base:=Int.mul_nonneg h0 (by omega);exact grow_facts hb hm r _ k (by omega) (by omega) h
theorem read_facts (base most:Int) (hb:1≤base) (l:List UInt8):((Num.readOf base most l).2=0∧0≤(Num.readOf base most l).1∧(Num.readOf base most l).1≤max most 0)∨(Num.readOf base most l).2=22∨(Num.readOf base most l).2=23:=by
 unfold Num.readOf;split
 ·exact .inr (.inl rfl)
 ·cases h:Num.grow base (max most 0) 0 l with
  | none=>exact .inr (.inr rfl)
  | some k=>
    have:=grow_facts hb (by omega) l 0 k (by omega) (by omega) h;exact .inl ⟨rfl,this.1,this.2⟩
theorem chunk_facts (hex blanks:Bool) (ext body:Int) (l:List UInt8):((Chk.sizeV hex blanks ext body l).2=0∧0≤(Chk.sizeV hex blanks ext body l).1∧(Chk.sizeV hex blanks ext body l).1≤max body 0)∨(Chk.sizeV hex blanks ext body l).2=400∨(Chk.sizeV hex blanks ext body l).2=413:=by
 unfold Chk.sizeV;split
 ·rcases read_facts 16 body (by decide) (Chk.sizeL hex blanks l) with ⟨h0,h1,h2⟩ | h | h
  ·unfold Chk.numV;rw [h0,if_neg (by decide),if_neg (by decide)];exact .inl ⟨rfl,h1,h2⟩
  ·unfold Chk.numV
   rw [h,if_pos rfl];exact .inr (.inl rfl)
  ·unfold Chk.numV
   rw [h,if_neg (by decide),if_pos rfl];exact .inr (.inr rfl)
 ·exact .inr (.inl rfl)
theorem length_facts (lp lc lf ll:Bool) (most:Int) (vs:List ByteArray):((Frm.lengthV lp lc lf ll most vs).2=0∧0≤(Frm.lengthV lp lc lf ll most vs).1∧(Frm.lengthV lp lc lf ll most vs).1≤max most 0)∨(Frm.lengthV lp lc lf ll most vs).2=400∨(Frm.lengthV lp lc lf ll most vs).2=413:=by
 unfold Frm.lengthV;split
 ·exact .inl ⟨rfl,by decide,by show (0:Int)≤_;omega⟩
 ·split
  ·exact .inr (.inl rfl)
  ·rename_i s _;rcases read_facts 10 most (by decide) (Frm.unplus lp s).data.toList with ⟨h0,h1,h2⟩ | h | h
   ·unfold Frm.numV;rw [h0,if_neg (by decide),if_neg (by decide)];exact .inl ⟨rfl,h1,h2⟩
   ·unfold Frm.numV
    rw [h,if_pos rfl];exact .inr (.inl rfl)
   ·unfold Frm.numV
    rw [h,if_neg (by decide),if_pos rfl];exact .inr (.inr rfl)
theorem decide_facts (c:Frm.Cl) (ch:Bool) (body minor:Int) (fs:List Fld) :
 Frm.decideV c ch body minor fs=(2,0,0)∨(∃n:Nat,(n:Int)≤max body 0∧Frm.decideV c ch body minor fs=(1,(n:Int),0))∨∃e:Nat,(e=400∨e=413∨e=501)∧Frm.decideV c ch body minor fs=(0,0,(e:Int)):=by
 unfold Frm.decideV Frm.bodyV;have hh:Frm.hostsV c.nh c.mh minor (find fs Frm.hostN)=0∨Frm.hostsV c.nh c.mh minor (find fs Frm.hostN)=400:=by
  unfold Frm.hostsV;split
  ·exact .inr rfl
  ·split
   ·exact .inl rfl
   ·exact .inr rfl
 rcases hh with h | h
 ·rw [h,if_neg (by decide)];obtain ⟨W,hW⟩:∃W,Frm.winsV c.td c.ti c.tw c.lw minor (find fs Frm.teN).length (find fs Frm.clN).length (Frm.coding c.tb c.tl (find fs Frm.teN))=W:=⟨_,rfl⟩;have hw:W.2=0∨W.2=400∨W.2=501:=by
   rw [←hW];unfold Frm.winsV
   repeat' split
   all_goals simp
  rw [hW];rcases hw with w | w | w
  ·rw [w,if_neg (by decide)];split
   ·split
    ·exact .inl rfl
    ·exact .inr (.inr ⟨501,by simp,rfl⟩)
   ·rcases length_facts c.lp c.lc c.lf c.ll body (find fs Frm.clN) with ⟨h0,h1,h2⟩ | h0 | h0
    ·refine .inr (.inl ⟨(Frm.lengthV c.lp c.lc c.lf c.ll body (find fs Frm.clN)).1.toNat,by omega,?_⟩);unfold Frm.fixedV;rw [h0,if_pos rfl,Int.toNat_of_nonneg h1]
    ·refine .inr (.inr ⟨400,by simp,?_⟩);unfold Frm.fixedV;rw [h0,if_neg (by decide)];rfl
    ·refine .inr (.inr ⟨413,by simp,?_⟩);unfold Frm.fixedV;rw [h0,if_neg (by decide)];rfl
  ·rw [w,if_pos (by decide)];exact .inr (.inr ⟨400,by simp,rfl⟩)
  ·rw [w,if_pos (by decide)];exact .inr (.inr ⟨501,by simp,rfl⟩)
 ·rw [h,if_pos (by decide)];exact .inr (.inr ⟨400,by simp,rfl⟩)
theorem request_facts (c:Rq.Cl) (old:Bool) (l:List UInt8):((Rq.request c old l).2.2.2=0∧(Rq.request c old l).1.length≤l.length∧(Rq.request c old l).2.1.length≤l.length∧(Rq.request c old l).2.2.1≤1)∨(Rq.request c old l).2.2.2=400∨(Rq.request c old l).2.2.2=505:=by
 unfold Rq.request;split
 ·exact .inr (.inl rfl)
 ·rename_i m t v hp;split
  ·split
   ·exact .inr (.inr rfl)
   ·rename_i k hk;split
    ·exact .inr (.inr rfl)
    ·obtain ⟨-,h1, -,h2, -⟩:=Rq.pick_some hp;refine .inl ⟨rfl,h1,h2,?_⟩;show k≤1;unfold Rq.verL at hk
     repeat' split at hk
     all_goals first |(cases hk;omega) | cases hk
  ·exact .inr (.inl rfl)
end Go.Proofs.YtnabkcglnbdfeaaGreatDoor.Par
namespace Go.Proofs.YtnabkcglnbdfeaaGreatDoor.Pg
open Go.RowKit Base Txt Par
structure T.Ok (t:T):Prop where
 rd:t.rd.Ok
 nf:Ln.failed t.rd.last=false
 st:1≤t.st∧t.st≤7
 hl:t.hl≤100
 bl:t.bl≤100
 fsl:t.r.fs.length≤t.hl
 tsl:t.r.ts.length≤t.bl
 fss:∀y∈t.r.fs,y.1.size≤5000*t.hl∧y.2.size≤5000*t.hl
 tss:∀y∈t.r.ts,y.1.size≤5000*t.bl∧y.2.size≤5000*t.bl
 m:t.r.m.size≤4096
 x:t.r.x.size≤4096
 body:t.r.body.length+t.left≤1048576
 left:bodied t.st=true→1≤t.left
 early:t.st≤2→t.r.body= []
 size:t.size≤65536
theorem Bd.edges {b:Bd} (h:b.right=true):(64≤b.x0∧b.x0≤4096)∧(4≤b.x1∧b.x1≤100)∧(256≤b.x2∧b.x2≤65536)∧(16≤b.x3∧b.x3≤1048576)∧(0≤b.x4∧b.x4≤256)∧(0≤b.x5∧b.x5≤100):=by unfold Bd.right Bnd.right Bnd.inside at h;simp only [Bool.and_eq_true,decide_eq_true_eq] at h;omega
theorem size_ba (l:List UInt8):(ba l).size=l.length:=by simp [ba,ByteArray.size]
theorem joinF_le (f:Fld) (ln:List UInt8):(joinF f ln).1.size=f.1.size∧(joinF f ln).2.size≤f.2.size+1+ln.length:=by refine ⟨rfl,?_⟩;unfold joinF;rw [size_ba];unfold Fd.joined;rw [List.length_append,List.length_cons,len];have:=trimL_length Txt.blank ln;omega
theorem fieldV_fit {p lines:Nat} {l l':List Fld} {ln:List UInt8} {most:Int} (h:fieldV p lines l ln most=.inr l') (hn:ln.length≤4096) (hl:l.length≤lines) (hs:∀y∈l,y.1.size≤5000*lines∧y.2.size≤5000*lines) :
 ((lines+1:Nat):Int)≤most∧l'.length≤lines+1∧∀y∈l',y.1.size≤5000*(lines+1)∧y.2.size≤5000*(lines+1):=by
 unfold fieldV at h
 by_cases hm:most<((lines+1:Nat):Int)
 ·rw [if_pos hm] at h;cases h
 ·rw [if_neg hm] at h;have h0:((lines+1:Nat):Int)≤most:=by omega
  by_cases hg:(Fd.goes p ln && !l.isEmpty)=true
  ·rw [if_pos hg] at h;have hne:l≠ []:=by
    simp only [Bool.and_eq_true,Bool.not_eq_true',List.isEmpty_eq_false_iff] at hg;exact hg.2
   obtain ⟨ini,last,rfl⟩:∃ini last,l=ini ++ [last]:=⟨_,_,(List.dropLast_concat_getLast hne).symm⟩;simp only [List.dropLast_concat,List.getLast?_concat,Option.getD_some] at h;cases h;refine ⟨h0,by simpa using Nat.le_succ_of_le hl,fun y hy=>?_⟩;rcases List.mem_append.1 hy with hy | hy
   ·have:=hs y (List.mem_append_left _ hy);omega
   ·obtain rfl:y= _:=by simpa using hy
    have h1:=hs last (by simp);have h2:=joinF_le last ln;omega
  ·rw [if_neg hg] at h;rcases hp:Fd.parse (Fd.clOf p) ln with _ | _ | ⟨n,v⟩
   ·rw [hp] at h;cases h
   ·rw [hp] at h;cases h;exact ⟨h0,by omega,fun y hy=>by have:=hs y hy;omega⟩
   ·rw [hp] at h;cases h;have h2:=Fd.parse_le hp;refine ⟨h0,by simp;omega,fun y hy=>?_⟩;rcases List.mem_append.1 hy with hy | hy
    ·have:=hs y hy;omega
    ·obtain rfl:y= _:=by simpa using hy
     simp only [size_ba];omega
theorem fieldV_err {p lines:Nat} {l:List Fld} {ln:List UInt8} {most:Int} {e:Nat} (h:fieldV p lines l ln most=.inl e):e=400∨e=431:=by
 unfold fieldV at h
 by_cases hm:most<((lines+1:Nat):Int)
 ·rw [if_pos hm] at h;cases h;exact .inr rfl
 ·rw [if_neg hm] at h;by_cases hg:(Fd.goes p ln && !l.isEmpty)=true
  ·rw [if_pos hg] at h;cases h
  ·rw [if_neg hg] at h;rcases hp:Fd.parse (Fd.clOf p) ln with _ | _ | ⟨n,v⟩<;>rw [hp] at h<;>cases h;exact .inl rfl
section
variable {p:Nat} {b:Bd} {t t':T} {s:List UInt8}
theorem T.Ok.fin (h:t.Ok):t.fin.Ok:=
 ⟨h.rd,h.nf,⟨Nat.le_refl _,by show 1≤7;omega⟩,Nat.zero_le _,Nat.zero_le _,Nat.le_refl _,Nat.le_refl _,(by intro y hy;cases hy),(by intro y hy;cases hy),Nat.zero_le _,Nat.zero_le _,Nat.zero_le _,fun h=>(by cases h),fun _=>rfl,Nat.zero_le _⟩
theorem T.Ok.enter (h:t.Ok) {st:Nat} (hs:st=4∨st=6) (most:Int):(t.enter p st most).Ok:=
 ⟨Ln.M.new_ok _ _ _ (Ln.mid_le _),rfl,by show 1≤st∧st≤7;omega,h.hl,h.bl,h.fsl,h.tsl,h.fss,h.tss,h.m,h.x,h.body,fun hb=>(by rcases hs with rfl | rfl<;>cases hb),fun hle=>by have:st≤2:=hle;omega,h.size⟩
theorem T.Ok.first (h:t.Ok) (hst:t.st≤2) (hn:s.length≤4096) (h0:(t.first p b s).1=0):(t.first p b s).2.Ok:=by
 unfold T.first at h0 ⊢;by_cases he:s= []
 ·rw [if_pos he] at h0 ⊢;exact h
 ·rw [if_neg he] at h0 ⊢;rcases request_facts (Rq.clOf p) b.od s with ⟨h1,h2,h3,h4⟩ | h1 | h1
  ·simp only [h1,if_pos];exact ⟨h.rd,h.nf,by show 1≤2∧2≤7;omega,h.hl,h.bl,h.fsl,h.tsl,h.fss,h.tss,by show (ba _).size≤_;rw [size_ba];omega,by show (ba _).size≤_;rw [size_ba];omega,h.body,fun hb=>(by cases hb),fun _=>h.early hst,h.size⟩
  ·simp [h1] at h0
  ·simp [h1] at h0
theorem T.Ok.endHead (h:t.Ok) (hb:b.right=true) (hst:t.st≤2) (h0:(t.endHead p b).1=0):(t.endHead p b).2.Ok:=by
 have e3:=(Bd.edges hb).2.2.2.1;unfold T.endHead at h0 ⊢;rcases decide_facts (Frm.clOf p) b.ch b.x3 t.r.k t.r.fs with e | ⟨n,hn,e⟩ | ⟨x,hx,e⟩
 ·rw [e];dsimp only;rw [if_neg (by decide),if_pos rfl];exact ⟨h.rd,h.nf,by show 1≤4∧4≤7;omega,h.hl,h.bl,h.fsl,h.tsl,h.fss,h.tss,h.m,h.x,h.body,fun hb=>(by cases hb),fun hle=>by have:4≤2:=hle;omega,h.size⟩
 ·rw [e];dsimp only;rw [if_neg (by decide),if_neg (by decide)];by_cases hz:(n:Int)=0
  ·rw [if_pos hz];exact h.fin
  ·rw [if_neg hz];have hbd:=h.early hst;exact ⟨h.rd,h.nf,by show 1≤3∧3≤7;omega,h.hl,h.bl,h.fsl,h.tsl,h.fss,h.tss,h.m,h.x,by show t.r.body.length+(n:Int).toNat≤_;rw [hbd];simp only [List.length_nil];omega,fun _=>by show 1≤(n:Int).toNat;omega,fun hle=>by have:3≤2:=hle;omega,h.size⟩
 ·exfalso;rw [e] at h0;dsimp only at h0;rw [if_pos (by omega)] at h0;have:(x:Int).toNat=0:=h0;omega
theorem listE_zero {x:Nat ⊕ List Fld} (h:listE x=0) (h1:∀e,x=.inl e→e=400∨e=431):∃l,x=.inr l:=by
 cases x with
 | inl e=>
   have:e=0:=h;rcases h1 e rfl with h | h<;>omega
 | inr l=>exact ⟨l,rfl⟩
theorem T.Ok.fields (h:t.Ok) (hb:b.right=true) (hst:t.st≤2) (hn:s.length≤4096) (h0:(t.fields p b s).1=0):(t.fields p b s).2.Ok:=by
 have e1:=(Bd.edges hb).2.1;unfold T.fields at h0 ⊢;by_cases he:s= []
 ·rw [if_pos he] at h0 ⊢;exact h.endHead hb hst h0
 ·rw [if_neg he] at h0 ⊢;obtain ⟨l,hl⟩:=listE_zero h0 fun e he=>fieldV_err he;obtain ⟨f1,f2,f3⟩:=fieldV_fit hl hn h.fsl h.fss;rw [hl];exact ⟨h.rd,h.nf,h.st,by show t.hl+1≤100;omega,h.bl,f2,h.tsl,f3,h.tss,h.m,h.x,h.body,h.left,h.early,h.size⟩
theorem T.Ok.trail (h:t.Ok) (hb:b.right=true) (hn:s.length≤4096) (h0:(t.trail p b s).1=0):(t.trail p b s).2.Ok:=by
 have e1:=(Bd.edges hb).2.2.2.2.2;unfold T.trail at h0 ⊢;by_cases he:s= []
 ·rw [if_pos he] at h0 ⊢;exact h.fin
 ·rw [if_neg he] at h0 ⊢;obtain ⟨l,hl⟩:=listE_zero h0 fun e he=>fieldV_err he;obtain ⟨f1,f2,f3⟩:=fieldV_fit hl hn h.tsl h.tss;rw [hl];exact ⟨h.rd,h.nf,h.st,h.hl,by show t.bl+1≤100;omega,h.fsl,f2,h.fss,f3,h.m,h.x,h.body,h.left,h.early,h.size⟩
theorem T.Ok.chunk (h:t.Ok) (hb:b.right=true) (h0:(t.chunk p b s).1=0):(t.chunk p b s).2.Ok:=by
 have e3:=(Bd.edges hb).2.2.2.1;unfold T.chunk at h0 ⊢;rcases chunk_facts (Qk.has p 27) (Qk.has p 28) b.x4 b.x3 s with ⟨z2,z1,z3⟩ | z2 | z2
 ·dsimp only at h0 ⊢;rw [z2] at h0 ⊢;rw [if_neg (by decide)] at h0 ⊢;obtain ⟨z,hz⟩:∃z,(Chk.sizeV (Qk.has p 27) (Qk.has p 28) b.x4 b.x3 s).1=z:=⟨_,rfl⟩;rw [hz] at h0 z1 z3 ⊢;by_cases hz0:z=0
  ·rw [if_pos hz0];exact ⟨h.rd,h.nf,by show 1≤7∧7≤7;omega,h.hl,h.bl,h.fsl,h.tsl,h.fss,h.tss,h.m,h.x,h.body,fun hb=>(by cases hb),fun hle=>by have:7≤2:=hle;omega,h.size⟩
  ·rw [if_neg hz0] at h0 ⊢;by_cases hlt:b.x3-(t.r.body.length:Int)<z
   ·rw [if_pos hlt] at h0;cases h0
   ·rw [if_neg hlt];exact ⟨h.rd,h.nf,by show 1≤5∧5≤7;omega,h.hl,h.bl,h.fsl,h.tsl,h.fss,h.tss,h.m,h.x,by show t.r.body.length+z.toNat≤_;omega,fun _=>by show 1≤z.toNat;omega,fun hle=>by have:5≤2:=hle;omega,h.size⟩
 ·exfalso;dsimp only at h0;rw [z2] at h0;rw [if_pos (by decide)] at h0;cases h0
 ·exfalso;dsimp only at h0;rw [z2] at h0;rw [if_pos (by decide)] at h0;cases h0
theorem T.Ok.line (h:t.Ok) (hb:b.right=true) (hn:s.length≤4096) (h0:(t.line p b s).1=0):(t.line p b s).2.Ok:=by
 unfold T.line at h0 ⊢;by_cases h1:t.st=1
 ·rw [if_pos h1] at h0 ⊢;exact h.first (by omega) hn h0
 ·rw [if_neg h1] at h0 ⊢;by_cases h2:t.st=2
  ·rw [if_pos h2] at h0 ⊢;exact h.fields hb (by omega) hn h0
  ·rw [if_neg h2] at h0 ⊢;by_cases h4:t.st=4
   ·rw [if_pos h4] at h0 ⊢;exact h.chunk hb h0
   ·rw [if_neg h4] at h0 ⊢;by_cases h7:t.st=7
    ·rw [if_pos h7] at h0 ⊢;exact h.trail hb hn h0
    ·rw [if_neg h7];exact h.enter (.inl rfl) _
theorem T.Ok.byteR (h:t.Ok) (c:UInt8) (hf:Ln.failed (t.rd.clear.next c)=false):({t with rd:=t.rd.byte c}:T).Ok:=
 ⟨h.rd.byte c,hf,h.st,h.hl,h.bl,h.fsl,h.tsl,h.fss,h.tss,h.m,h.x,h.body,h.left,h.early,h.size⟩
theorem line_len (h:t.Ok) (c:UInt8):(t.rd.byte c).line.length≤4096:=by
 have h1:=(h.rd.byte c).len;have h2:=(h.rd.byte c).most;unfold Ln.M.line;split
 ·omega
 ·exact Nat.zero_le _
theorem T.Ok.inLine (h:t.Ok) (hb:b.right=true) (c:UInt8) (h0:(t.inLine p b c).1=.live t'):t'.Ok:=by
 unfold T.inLine at h0;obtain ⟨how,hh⟩:∃how,t.rd.clear.next c=how:=⟨_,rfl⟩;have hn:=Ln.M.next_is t.rd.clear c;have hk:=h.byteR c;simp only [hh] at h0 hn hk;by_cases e0:how=0
 ·rw [if_pos e0] at h0;cases h0;exact hk (by rw [e0];rfl)
 ·rw [if_neg e0] at h0;by_cases e3:how=3
  ·rw [if_pos e3] at h0;cases h0
  ·rw [if_neg e3] at h0;by_cases e4:how=4
   ·rw [if_pos e4] at h0;split at h0
    ·cases h0;exact ⟨Ln.M.new_ok _ _ _ (Ln.mid_le _),rfl,by show 1≤4∧4≤7;omega,h.hl,h.bl,h.fsl,h.tsl,h.fss,h.tss,h.m,h.x,h.body,fun hb=>(by cases hb),fun hle=>by have:4≤2:=hle;omega,h.size⟩
    ·cases h0
   ·rw [if_neg e4] at h0;have hf:Ln.failed how=false:=by rcases hn with e | e | e | e | e<;>first |(rw [e];rfl) | contradiction
    have hk1:=(hk hf).line (p:=p) hb (line_len h c);unfold ends at h0;split at h0
    ·rename_i hz;cases h0;exact hk1 hz
    ·cases h0
theorem T.Ok.counted (h:t.Ok) (hb:b.right=true) (hc:¬b.x2<(t.counted.size:Int)):t.counted.Ok:=by
 have e2:=(Bd.edges hb).2.2.1;have hs:t.counted.size≤65536:=by omega
 unfold T.counted at hs ⊢;split
 ·exact h
 ·rename_i hn;rw [if_neg hn] at hs;exact ⟨h.rd,h.nf,h.st,h.hl,h.bl,h.fsl,h.tsl,h.fss,h.tss,h.m,h.x,h.body,h.left,h.early,hs⟩
theorem counted_st (t:T):t.counted.st=t.st:=by unfold T.counted;split<;>rfl
theorem counted_rd (t:T):t.counted.rd=t.rd:=by unfold T.counted;split<;>rfl
theorem counted_out (t:T):t.counted.out=t.out:=by unfold T.counted;split<;>rfl
theorem T.Ok.keep (h:t.Ok) (hst:bodied t.st=true) (hl:t.left≠1) (c:UInt8):(t.keep c).Ok:=by have h1:=h.left hst;exact ⟨h.rd,h.nf,h.st,h.hl,h.bl,h.fsl,h.tsl,h.fss,h.tss,h.m,h.x,by have:=h.body;show (t.r.body ++ [c]).length+(t.left-1)≤_;rw [List.length_append,List.length_singleton];omega,fun _=>by show 1≤t.left-1;omega,fun hle=>by exfalso;have h2:t.st≤2:=hle;unfold bodied at hst;simp only [Bool.or_eq_true,beq_iff_eq] at hst;omega,h.size⟩
theorem T.Ok.endData (h:t.Ok) (hst:bodied t.st=true) (c:UInt8):((t.keep c).endData p).Ok:=by
 have h1:=h.left hst;unfold T.endData;split
 ·exact ⟨Ln.M.new_ok _ _ _ (Ln.mid_le _),rfl,by show 1≤6∧6≤7;omega,h.hl,h.bl,h.fsl,h.tsl,h.fss,h.tss,h.m,h.x,by have:=h.body;show (t.r.body ++ [c]).length+(t.left-1)≤_;rw [List.length_append,List.length_singleton];omega,fun hb=>(by cases hb),fun hle=>by have:6≤2:=hle;omega,h.size⟩
 ·exact ⟨h.rd,h.nf,⟨Nat.le_refl _,by show 1≤7;omega⟩,Nat.zero_le _,Nat.zero_le _,Nat.le_refl _,Nat.le_refl _,(by intro y hy;cases hy),(by intro y hy;cases hy),Nat.zero_le _,Nat.zero_le _,Nat.zero_le _,fun h=>(by cases h),fun _=>rfl,Nat.zero_le _⟩
theorem T.Ok.look (h:t.Ok) (hb:b.right=true) (c:UInt8) (h0:(t.look p b c).1=.live t'):t'.Ok:=by
 unfold T.look at h0;by_cases hd:bodied t.st=true
 ·rw [if_pos hd] at h0;cases h0;split
  ·exact h.endData hd c
  ·exact h.keep hd (by assumption) c
 ·rw [if_neg hd] at h0;split at h0
  ·split at h0
   ·cases h0
   ·exact (h.counted hb (by assumption)).inLine hb c h0
  ·exact h.inLine hb c h0
theorem inLine_used (hp:t.rd.pend=false) (hf:Ln.failed t.rd.last=false) (hs:t.st≠6) (c:UInt8):(t.inLine p b c).2=true:=by
 have h2:t.rd.clear.next c≠2:=by
  unfold Ln.M.next;have e1:t.rd.clear.last=t.rd.last:=rfl;have e2:t.rd.clear.pend=t.rd.pend:=rfl;rw [e1,e2,hp,hf];simp only [Bool.false_eq_true,if_false]
  repeat' split
  all_goals decide
 unfold T.inLine;obtain ⟨how,hh⟩:∃how,t.rd.clear.next c=how:=⟨_,rfl⟩;simp only [hh] at h2 ⊢;split
 ·rfl
 ·split
  ·rfl
  ·split
   ·have:(t.st==6)=false:=beq_eq_false_iff_ne.2 hs;rw [this];rfl
   ·simp only [Bool.not_eq_true',beq_eq_false_iff_ne];exact h2
theorem look_used (hp:t.rd.pend=false) (hf:Ln.failed t.rd.last=false) (hs:t.st≠6) (c:UInt8):(t.look p b c).2=true:=by
 unfold T.look;split
 ·rfl
 ·split
  ·split
   ·rfl
   ·exact inLine_used (by rw [counted_rd];exact hp) (by rw [counted_rd];exact hf) (by rw [counted_st];exact hs) c
  ·exact inLine_used hp hf hs c
theorem line_keeps:((t.line p b s).2.rd=t.rd∨∃most,(t.line p b s).2.rd=Ln.M.of p most)∧(bodied t.st=false→(t.line p b s).1=0→(t.line p b s).2.st≠6):=by
 unfold T.line T.first T.fields T.endHead T.chunk T.trail;by_cases h1:t.st=1
 ·rw [if_pos h1];by_cases he:s= []
  ·rw [if_pos he];exact ⟨.inl rfl,fun _ _=>by show t.st≠6;omega⟩
  ·rw [if_neg he];dsimp only;split
   ·exact ⟨.inl rfl,fun _ _=>by show 2≠6;decide⟩
   ·exact ⟨.inl rfl,fun _ _=>by show t.st≠6;omega⟩
 ·rw [if_neg h1];by_cases h2:t.st=2
  ·rw [if_pos h2];by_cases he:s= []
   ·rw [if_pos he];dsimp only;split
    ·exact ⟨.inl rfl,fun _ _=>by show t.st≠6;omega⟩
    ·split
     ·exact ⟨.inl rfl,fun _ _=>by show 4≠6;decide⟩
     ·split
      ·exact ⟨.inl rfl,fun _ _=>by show 1≠6;decide⟩
      ·exact ⟨.inl rfl,fun _ _=>by show 3≠6;decide⟩
   ·rw [if_neg he];exact ⟨.inl rfl,fun _ _=>by show t.st≠6;omega⟩
  ·rw [if_neg h2];by_cases h4:t.st=4
   ·rw [if_pos h4];dsimp only;split
    ·exact ⟨.inl rfl,fun _ _=>by show t.st≠6;omega⟩
    ·split
     ·exact ⟨.inl rfl,fun _ _=>by show 7≠6;decide⟩
     ·split
      ·exact ⟨.inl rfl,fun _ _=>by show t.st≠6;omega⟩
      ·exact ⟨.inl rfl,fun _ _=>by show 5≠6;decide⟩
   ·rw [if_neg h4];by_cases h7:t.st=7
    ·rw [if_pos h7];by_cases he:s= []
     ·rw [if_pos he];exact ⟨.inl rfl,fun _ _=>by show 1≠6;decide⟩
     ·rw [if_neg he];exact ⟨.inl rfl,fun _ _=>by show t.st≠6;omega⟩
    ·rw [if_neg h7];exact ⟨.inr ⟨_,rfl⟩,fun _ _=>by show 4≠6;decide⟩
theorem inLine_again (hst:bodied t.st=false) (c:UInt8) (h0:t.inLine p b c=(.live t',false)):t'.rd.pend=false∧t'.st≠6:=by
 unfold T.inLine at h0;obtain ⟨how,hh⟩:∃how,t.rd.clear.next c=how:=⟨_,rfl⟩;simp only [hh] at h0;by_cases e0:how=0
 ·rw [if_pos e0] at h0;cases h0
 ·rw [if_neg e0] at h0;by_cases e3:how=3
  ·rw [if_pos e3] at h0;cases h0
  ·rw [if_neg e3] at h0;by_cases e4:how=4
   ·rw [if_pos e4] at h0;split at h0
    ·cases h0;exact ⟨rfl,by show 4≠6;decide⟩
    ·cases h0
   ·rw [if_neg e4] at h0;obtain ⟨h1,h2⟩:=Prod.mk.inj h0;unfold ends at h1;split at h1
    ·rename_i hz;cases h1
     obtain ⟨k1,k2⟩:=line_keeps (p:=p) (b:=b) (t:={t with rd:=t.rd.byte c}) (s:=(t.rd.byte c).line);refine ⟨?_,k2 hst hz⟩;have hpd:(t.rd.byte c).pend=false:=by show (t.rd.clear.next c==0&&c==13)=false;rw [hh,beq_eq_false_iff_ne.2 e0];rfl
     rcases k1 with k | ⟨most,k⟩
     ·rw [k];exact hpd
     ·rw [k];rfl
    ·cases h1
theorem look_twice (h:t.Ok) (hb:b.right=true) (c:UInt8) (h0:t.look p b c=(.live t',false)):(t'.look p b c).2=true:=by
 have hok:t'.Ok:=h.look hb c (by rw [h0]);unfold T.look at h0;by_cases hd:bodied t.st=true
 ·rw [if_pos hd] at h0;cases h0
 ·rw [if_neg hd] at h0;have hd':bodied t.st=false:=by simpa using hd
  split at h0
  ·split at h0
   ·cases h0
   ·obtain ⟨k1,k2⟩:=inLine_again (by rw [counted_st];exact hd') c h0;exact look_used k1 hok.nf k2 c
  ·obtain ⟨k1,k2⟩:=inLine_again hd' c h0;exact look_used k1 hok.nf k2 c
theorem T.Ok.cleared (h:t.Ok):({t with cnt:=false}:T).Ok:=⟨h.rd,h.nf,h.st,h.hl,h.bl,h.fsl,h.tsl,h.fss,h.tss,h.m,h.x,h.body,h.left,h.early,h.size⟩
theorem T.Ok.take (h:t.Ok) (hb:b.right=true) (c:UInt8) (h0:t.take p b c=.live t'):t'.Ok:=by
 unfold T.take at h0;rcases hx:({t with cnt:=false}:T).look p b c with ⟨t1 | ⟨e,o⟩,u⟩
 ·have h1:t1.Ok:=h.cleared.look hb c (by rw [hx]);rw [hx] at h0;cases u with
  | true=>cases h0;exact h1
  | false=>exact h1.look hb c h0
 ·rw [hx] at h0;cases u<;>cases h0
end
end Go.Proofs.YtnabkcglnbdfeaaGreatDoor.Pg
namespace Go.Proofs.YtnabkcglnbdfeaaGreatDoor.Pg
open Go.RowKit Base Txt Par
theorem none0 (k:Int):Qk.has 0 k=false:=by unfold Qk.has;rw [Nat.zero_testBit,Bool.and_false]
theorem dw_none {q:UInt8→Bool}:∀{l:List UInt8},(∀x∈l,q x=false)→l.dropWhile q=l
 | [],_=>rfl
 | x::r,h=>dropWhile_stop (h x (by simp))
theorem trimL_none {q:UInt8→Bool} {l:List UInt8} (h:∀x∈l,q x=false):trimL q l=l:=by unfold trimL;rw [dw_none h,dw_none (fun x hx=>h x (by simpa using hx)),List.reverse_reverse]
theorem letters_tab:∀k:Fin 256,lowB (UInt8.ofNat k.val)∈ [99,104,117,110,107,101,100]→Frm.blanksOf.data.toList.contains (UInt8.ofNat k.val)=false:=by decide +kernel
theorem letter_of {x:UInt8} (h:lowB x∈ [99,104,117,110,107,101,100]):isIn Frm.blanksOf x=false:=by have:=letters_tab ⟨x.toNat,x.toNat_lt⟩ (by simpa using h);simpa [isIn] using this
theorem isC_wide {v:ByteArray} (h:Frm.isC false v=true) (tb:Bool):Frm.isC tb v=true:=by
 cases tb with
 | false=>exact h
 | true=>
   have h1:same v Frm.chunked=true:=h
   have h2:low v.data.toList= [99,104,117,110,107,101,100]:=(beq_iff_eq.1 h1).trans (by decide +kernel);have e:trimOf v Frm.blanksOf=v:=by apply ba_ext;show trimL (isIn Frm.blanksOf) v.data.toList= _;refine trimL_none fun x hx=>letter_of ?_;rw [←h2];exact List.mem_map.2 ⟨x,hx,rfl⟩
   show same (trimOf v Frm.blanksOf) Frm.chunked=true;rw [e];exact h1
theorem coding_wide {vs:List ByteArray} (h:Frm.coding false false vs=true) (tb tl:Bool):Frm.coding tb tl vs=true:=by unfold Frm.coding at h ⊢;rw [Bool.or_false,Bool.and_eq_true,decide_eq_true_eq] at h;obtain ⟨h1,h2⟩:=h;obtain ⟨v,hv⟩:=List.length_eq_one_iff.1 h2;rw [hv] at h1 ⊢;have h3:Frm.isC false v=true:=h1;rw [decide_eq_true (by simp),Bool.true_or,Bool.and_true];exact isC_wide h3 tb
theorem digit_tab:∀k:Fin 256,Num.digitOf 10 (UInt8.ofNat k.val)=true→UInt8.ofNat k.val≠44∧UInt8.ofNat k.val≠43∧Txt.blank (UInt8.ofNat k.val)=false:=by decide +kernel
theorem digit_of {x:UInt8} (h:Num.digitOf 10 x=true):x≠44∧x≠43∧Txt.blank x=false:=by simpa using digit_tab ⟨x.toNat,x.toNat_lt⟩ (by simpa using h)
theorem hex_tab:∀k:Fin 256,Num.digitOf 16 (UInt8.ofNat k.val)=true→lowB (UInt8.ofNat k.val)≠120∧Txt.blank (UInt8.ofNat k.val)=false:=by decide +kernel
theorem hex_of {x:UInt8} (h:Num.digitOf 16 x=true):lowB x≠120∧Txt.blank x=false:=by simpa using hex_tab ⟨x.toNat,x.toNat_lt⟩ (by simpa using h)
theorem read_digits {base most:Int} {l:List UInt8} (h:(Num.readOf base most l).2≠22):∀x∈l,Num.digitOf base x=true:=by
 unfold Num.readOf at h;split at h
 ·exact absurd rfl h
 ·rename_i h1;rw [Bool.or_eq_true,not_or,Bool.not_eq_true,Bool.not_eq_true,Bool.not_eq_false',List.all_eq_true] at h1;exact h1.2
theorem numV_digits {r:Int × Int} (h:(Frm.numV r).2=0):r.2≠22:=by
 intro e;unfold Frm.numV at h;rw [if_pos e] at h
 exact absurd h (by decide)
theorem length_wide {most:Int} {vs:List ByteArray} (h:(Frm.lengthV false false false false most vs).2=0) (lp lc lf ll:Bool) :
 Frm.lengthV lp lc lf ll most vs=Frm.lengthV false false false false most vs:=by
 unfold Frm.lengthV at h ⊢;by_cases h0:vs= []
 ·rw [if_pos h0,if_pos h0]
 rw [if_neg h0] at h ⊢;rw [if_neg h0];rw [if_neg Bool.false_ne_true] at h ⊢;by_cases h1:vs.length=1
 ·obtain ⟨v,rfl⟩:=List.length_eq_one_iff.1 h1;have hc:Frm.counts false false false [v]=some v:=rfl;rw [hc] at h ⊢;have hu:Frm.unplus false v=v:=rfl;simp only [hu] at h ⊢
  have hd:=read_digits (numV_digits h);have hl:list [v]= [v]:=by
   have e1:list [v]=partsOf v:=by simp [list]
   rw [e1];unfold partsOf;rw [parts_none 44 _ fun hm=>(digit_of (hd _ hm)).1 rfl];show [trim (ba v.data.toList)]= [v]
   congr 1
   apply ba_ext;show trimL Txt.blank (ba v.data.toList).data.toList= _;have e2:(ba v.data.toList).data.toList=v.data.toList:=by simp [ba]
   rw [e2];exact trimL_none fun x hx=>(digit_of (hd x hx)).2.2
  have hc':Frm.counts lc lf ll (if lc=true then list [v] else [v])=some v:=by
   have:(if lc=true then list [v] else [v])= [v]:=by cases lc<;>simp [hl]
   rw [this];unfold Frm.counts;rw [if_pos (by simp)];rfl
  rw [hc'];have hp:Frm.unplus lp v=v:=by
   unfold Frm.unplus;rw [if_neg];intro hh;rw [Bool.and_eq_true,decide_eq_true_eq] at hh
   have hm:(43:UInt8)∈v.data.toList:=List.mem_of_mem_head? (by rw [hh.2];rfl);exact (digit_of (hd _ hm)).2.1 rfl
  simp only [hp]
 ·have hc:Frm.counts false false false vs=none:=by
   unfold Frm.counts;rw [if_neg (by simp [h1]),if_neg Bool.false_ne_true]
  rw [hc] at h
  exact absurd (show (400:Int)=0 from h) (by decide)
theorem wins_wide {minor:Int} {nte ncl:Nat} {cod:Bool} (h:(Frm.winsV false false false false minor nte ncl cod).2=0) (td ti tw lw cod':Bool) (hc:cod=true→cod'=true) :
 Frm.winsV td ti tw lw minor nte ncl cod'=Frm.winsV false false false false minor nte ncl cod:=by
 unfold Frm.winsV at h ⊢;by_cases h0:nte=0
 ·simp only [if_pos h0]
 simp only [if_neg h0] at h ⊢;by_cases h1:minor=0
 ·rw [if_pos (by simp [h1])] at h
  exact absurd (show (400:Int)=0 from h) (by decide)
 have hm:∀td:Bool,¬(decide (minor=0) && !td)=true:=fun td=>by simp [h1]
 simp only [if_neg (hm _)] at h ⊢;cases cod with
 | false=>exact absurd (show (501:Int)=0 from h) (by decide)
 | true=>
   rw [hc rfl];by_cases h2:0<ncl
   ·simp [h2] at h
   ·simp [h2]
theorem hosts_wide {minor:Int} {hs:List ByteArray} (h:Frm.hostsV false false minor hs=0) (nh mh:Bool):Frm.hostsV nh mh minor hs=0:=by
 unfold Frm.hostsV at h ⊢;split at h
 ·exact absurd h (by decide)
 ·rename_i h1;rw [Bool.or_eq_true,not_or,Bool.not_false,Bool.and_true,Bool.and_true] at h1;rw [if_neg]
  ·exact h
  ·rw [Bool.or_eq_true,not_or];constructor
   ·intro hh;exact h1.1 (by cases nh<;>simp_all)
   ·intro hh;exact h1.2 (by cases mh<;>simp_all)
theorem decide_wide {ch:Bool} {body minor:Int} {fs:List Fld} (h:(Frm.decideV (Frm.clOf 0) ch body minor fs).2.2=0) (p:Nat) :
 Frm.decideV (Frm.clOf p) ch body minor fs=Frm.decideV (Frm.clOf 0) ch body minor fs:=by
 have e0:Frm.clOf 0=⟨false,false,false,false,false,false,false,false,false,false,false,false⟩:=by simp only [Frm.clOf,none0]
 rw [e0] at h ⊢;generalize Frm.clOf p=c;obtain ⟨nh,mh,tb,tl,ti,td,tw,lw,lp,lc,lf,ll⟩:=c;unfold Frm.decideV at h ⊢;simp only at h ⊢;unfold Frm.bodyV at h ⊢;by_cases h1:Frm.hostsV false false minor (find fs Frm.hostN)=0
 ·have h1':=hosts_wide h1 nh mh;rw [h1] at h ⊢;rw [h1'];simp only [ne_eq,not_true_eq_false,if_false] at h ⊢;by_cases h2:(Frm.winsV false false false false minor (find fs Frm.teN).length (find fs Frm.clN).length (Frm.coding false false (find fs Frm.teN))).2=0
  ·have h2':=wins_wide h2 td ti tw lw (Frm.coding tb tl (find fs Frm.teN)) (fun hc=>coding_wide hc tb tl);rw [h2'];simp only [h2,not_true_eq_false,if_false] at h ⊢;by_cases h3:(Frm.winsV false false false false minor (find fs Frm.teN).length (find fs Frm.clN).length (Frm.coding false false (find fs Frm.teN))).1=true
   ·simp only [if_pos h3]
   ·simp only [if_neg h3] at h ⊢;have h4:(Frm.lengthV false false false false body (find fs Frm.clN)).2=0:=by
     unfold Frm.fixedV at h;split at h
     ·assumption
     ·rename_i hn;exact absurd h hn
    rw [length_wide h4 lp lc lf ll]
  ·simp only [h2,not_false_eq_true,if_true] at h
 ·rw [if_pos h1] at h;exact absurd h h1
theorem piece_wide {z:List UInt8} (h:∀x∈z,Num.digitOf 16 x=true) (hex blanks:Bool):Chk.pieceL hex blanks z=z:=by
 have h1:trimL Txt.blank z=z:=trimL_none fun x hx=>(hex_of (h x hx)).2;have h2:Chk.bare z=z:=by
  unfold Chk.bare;rw [if_neg];intro hm;unfold Chk.marked at hm;rw [Bool.and_eq_true,decide_eq_true_eq] at hm;obtain ⟨hl,hs⟩:=hm
  match z,hl with
  | a::b::r,_=>
    have hs2:low [a,b]= [48,120]:=(beq_iff_eq.1 hs).trans (by decide +kernel);have hb:lowB b=120:=by simpa [low] using (List.cons.inj (List.cons.inj hs2).2).1
    exact (hex_of (h b (by simp))).1 hb
 unfold Chk.pieceL;cases hex<;>cases blanks<;>simp [h1,h2]
theorem chk_digits {r:Int × Int} (h:(Chk.numV r).2=0):r.2≠22:=by
 intro e;unfold Chk.numV at h;rw [if_pos e] at h
 exact absurd h (by decide)
theorem size_wide {ext body:Int} {l:List UInt8} (h:(Chk.sizeV false false ext body l).2=0) (hex blanks:Bool):Chk.sizeV hex blanks ext body l=Chk.sizeV false false ext body l:=by
 unfold Chk.sizeV at h ⊢;split at h
 ·rename_i h1;rw [if_pos h1,if_pos h1]
  have hd:∀x∈(Tgt.cutAt 59 l).1,Num.digitOf 16 x=true:=read_digits (chk_digits h);unfold Chk.sizeL;rw [piece_wide hd,piece_wide hd]
 ·exact absurd h (by decide)
theorem field_wide {lines:Nat} {l l':List Fld} {s:List UInt8} {most:Int} (h:fieldV 0 lines l s most=.inr l') (p:Nat):fieldV p lines l s most=.inr l':=by
 unfold fieldV at h ⊢
 by_cases h1:most<((lines+1:Nat):Int)
 ·rw [if_pos h1] at h;cases h
 simp only [if_neg h1] at h ⊢;have hg:Fd.goes 0 s=false:=by unfold Fd.goes;rw [none0,Bool.false_and]
 rw [if_neg (by rw [hg,Bool.false_and];exact Bool.false_ne_true)] at h;rw [Fd.clOf_zero] at h;rcases Fd.parse_zero s with h2 | ⟨n,v,h2⟩
 ·rw [h2] at h;cases h
 ·rw [h2] at h;have hs:=Fd.parse_strict h2;have hg2:Fd.goes p s=false:=by
   have hb:(!s.isEmpty&&Txt.blank (s.headD 0))=false:=by
    rcases Tgt.cut_cases 58 s with e | ⟨a,r,e,hn⟩
    ·rw [Tgt.cutAt_none 58 s e] at hs
     exact absurd (show false=true from hs.1) (by decide)
    ·rw [e,Tgt.cutAt_app 58 a r hn] at hs;obtain ⟨-,e1, -,e2,e3, -⟩:=hs;have e4:a=n:=e1;rw [e];rw [←e4] at e2 e3
     match a,e2,e3 with
     | y::t,_,e3=>
       have:=(Fd.token_of (Fd.all_of e3 y (by simp))).2.2.2;simp [this]
   unfold Fd.goes;rw [hb,Bool.and_false]
  rw [if_neg (by rw [hg2,Bool.false_and];exact Bool.false_ne_true),(Fd.parse_all h2).1 (Fd.clOf p)];exact h
def wideM (p:Nat) (m:Ln.M):Ln.M:={m with lf:=Qk.has p 1,cr:=Qk.has p 2}
def T.wide (p:Nat) (t:T):T:={t with rd:=wideM p t.rd}
structure T.Strict (t:T):Prop where
 lf:t.rd.lf=false
 cr:t.rd.cr=false
theorem decide_codes (ch:Bool) (body minor:Int) (fs:List Fld) (c:Frm.Cl):0≤(Frm.decideV c ch body minor fs).2.2:=by
 unfold Frm.decideV Frm.bodyV;split
 ·unfold Frm.hostsV;split
  ·decide
  ·split<;>decide
 ·split
  ·unfold Frm.winsV
   repeat' split
   all_goals decide
  ·split
   ·split<;>decide
   ·unfold Frm.fixedV;split
    ·exact Int.le_refl _
    ·show 0≤(Frm.lengthV c.lp c.lc c.lf c.ll body (find fs Frm.clN)).2;unfold Frm.lengthV;split
     ·decide
     ·split
      ·decide
      ·unfold Frm.numV;split
       ·decide
       ·split
        ·decide
        ·exact Int.le_refl _
theorem decide_pos {ch:Bool} {body minor:Int} {fs:List Fld} {c:Frm.Cl} {d:Int × Int × Int} (hd:d=Frm.decideV c ch body minor fs) (h1:d.2.2≠0):d.2.2.toNat≠0:=by have:=decide_codes ch body minor fs c;rw [←hd] at this;omega
theorem size_pos {hex blanks:Bool} {ext body:Int} {l:List UInt8} {z:Int × Int} (hz:z=Chk.sizeV hex blanks ext body l) (h1:z.2≠0):z.2.toNat≠0:=by
 have:0≤(Chk.sizeV hex blanks ext body l).2:=by
  unfold Chk.sizeV;split
  ·unfold Chk.numV;split
   ·decide
   ·split
    ·decide
    ·exact Int.le_refl _
  ·decide
 rw [←hz] at this;omega
section
variable {p:Nat} {b:Bd} {t t2:T} {s:List UInt8} {c:UInt8}
theorem of_strict (most:Int):(Ln.M.of 0 most).lf=false∧(Ln.M.of 0 most).cr=false:=⟨none0 1,none0 2⟩
theorem next_wide (m:Ln.M) (hl:m.lf=false) (hc:m.cr=false) (c:UInt8) (h:m.next c≠3):(wideM p m).next c=m.next c∧m.next c≠2:=by
 obtain ⟨lf,cr,most,buf,last,pend⟩:=m;obtain rfl:lf=false:=hl;obtain rfl:cr=false:=hc;unfold Ln.M.next at h ⊢;simp only [wideM] at h ⊢;by_cases h1:Ln.failed last=true
 ·rw [if_pos h1] at h;exact absurd rfl h
 ·have h1':Ln.failed last=false:=by simpa using h1
  simp only [h1',Bool.false_eq_true,if_false] at h ⊢;cases pend with
  | true=>
    by_cases h2:c=10
    ·subst h2;exact ⟨rfl,fun e=>absurd (show (1:Int)=2 from e) (by decide)⟩
    ·simp [h2] at h
  | false=>
    by_cases h2:c=10
    ·simp [h2] at h
    ·simp only [Bool.false_eq_true,if_false,if_neg h2];refine ⟨rfl,?_⟩;split
     ·decide
     ·split<;>decide
theorem byte_wide (m:Ln.M) (hl:m.lf=false) (hc:m.cr=false) (c:UInt8) (h:m.clear.next c≠3):(wideM p m).byte c=wideM p (m.byte c):=by have h1:=(next_wide (p:=p) m.clear hl hc c h).1;have e1:(wideM p m).clear=wideM p m.clear:=rfl;unfold Ln.M.byte;rw [e1,h1];rfl
theorem first_wide (h:(t.first 0 b s).1=0) (ht:t.Strict):(t.wide p).first p b s=(0,(t.first 0 b s).2.wide p)∧(t.first 0 b s).2.Strict:=by
 unfold T.first at h ⊢;by_cases h0:s= []
 ·rw [if_pos h0,none0] at h
  exact absurd (show (400:Nat)=0 from h) (by decide)
 ·rw [if_neg h0] at h ⊢;rw [if_neg h0];obtain ⟨m,x,k,e,hq⟩:∃m x k e,Rq.request (Rq.clOf 0) b.od s=(m,x,k,e):=⟨_,_,_,_,rfl⟩;rw [hq] at h ⊢;simp only at h ⊢;by_cases he:e=0
  ·subst he;rw [Rq.clOf_zero] at hq;rw [(Rq.extends_all hq).1 (Rq.clOf p)];exact ⟨rfl,ht.lf,ht.cr⟩
  ·rw [if_neg he] at h;exact absurd h he
theorem fin_wide (ht:t.Strict):(t.wide p).fin=t.fin.wide p∧t.fin.Strict:=⟨rfl,ht.lf,ht.cr⟩
theorem enter_wide (st:Nat) (most:Int):(t.wide p).enter p st most=(t.enter 0 st most).wide p∧(t.enter 0 st most).Strict:=⟨rfl,(of_strict most).1,(of_strict most).2⟩
theorem endHead_wide (h:(t.endHead 0 b).1=0) (hn:∀d:Int × Int × Int,d=Frm.decideV (Frm.clOf 0) b.ch b.x3 t.r.k t.r.fs→d.2.2≠0→d.2.2.toNat≠0) (ht:t.Strict) :
 (t.wide p).endHead p b=(0,(t.endHead 0 b).2.wide p)∧(t.endHead 0 b).2.Strict:=by
 unfold T.endHead at h ⊢;have hd:Frm.decideV (Frm.clOf p) b.ch b.x3 (t.wide p).r.k (t.wide p).r.fs=Frm.decideV (Frm.clOf p) b.ch b.x3 t.r.k t.r.fs:=rfl;rw [hd];by_cases h1:(Frm.decideV (Frm.clOf 0) b.ch b.x3 t.r.k t.r.fs).2.2=0
 ·rw [decide_wide h1 p];generalize Frm.decideV (Frm.clOf 0) b.ch b.x3 t.r.k t.r.fs=d at h h1 ⊢;simp only [ne_eq,h1,not_true_eq_false,if_false];by_cases h2:d.1=2
  ·simp only [if_pos h2];exact ⟨rfl,ht.lf,ht.cr⟩
  ·simp only [if_neg h2];by_cases h3:d.2.1=0
   ·simp only [if_pos h3];exact ⟨rfl,ht.lf,ht.cr⟩
   ·simp only [if_neg h3];exact ⟨rfl,ht.lf,ht.cr⟩
 ·have:=hn _ rfl h1;simp only [ne_eq,h1,not_false_eq_true,if_true] at h;exact absurd h this
theorem fields_wide (h:(t.fields 0 b s).1=0) (hn:∀d:Int × Int × Int,d=Frm.decideV (Frm.clOf 0) b.ch b.x3 t.r.k t.r.fs→d.2.2≠0→d.2.2.toNat≠0) (ht:t.Strict) :
 (t.wide p).fields p b s=(0,(t.fields 0 b s).2.wide p)∧(t.fields 0 b s).2.Strict:=by
 unfold T.fields at h ⊢;by_cases h0:s= []
 ·rw [if_pos h0] at h ⊢;rw [if_pos h0];exact endHead_wide h hn ht
 ·rw [if_neg h0] at h ⊢;rw [if_neg h0];obtain ⟨l,hl⟩:=listE_zero h fun e he=>fieldV_err he;have hl':fieldV p t.hl t.r.fs s b.x1=.inr l:=field_wide hl p;have e1:fieldV p (t.wide p).hl (t.wide p).r.fs s b.x1=.inr l:=hl';rw [e1,hl];exact ⟨rfl,ht.lf,ht.cr⟩
theorem trail_wide (h:(t.trail 0 b s).1=0) (ht:t.Strict):(t.wide p).trail p b s=(0,(t.trail 0 b s).2.wide p)∧(t.trail 0 b s).2.Strict:=by
 unfold T.trail at h ⊢;by_cases h0:s= []
 ·rw [if_pos h0,if_pos h0];exact ⟨rfl,ht.lf,ht.cr⟩
 ·rw [if_neg h0] at h ⊢;rw [if_neg h0];obtain ⟨l,hl⟩:=listE_zero h fun e he=>fieldV_err he;have e1:fieldV p (t.wide p).bl (t.wide p).r.ts s b.x5=.inr l:=field_wide hl p;rw [e1,hl];exact ⟨rfl,ht.lf,ht.cr⟩
theorem chunk_wide (h:(t.chunk 0 b s).1=0) (hn:∀z:Int × Int,z=Chk.sizeV false false b.x4 b.x3 s→z.2≠0→z.2.toNat≠0) (ht:t.Strict) :
 (t.wide p).chunk p b s=(0,(t.chunk 0 b s).2.wide p)∧(t.chunk 0 b s).2.Strict:=by
 unfold T.chunk at h ⊢;rw [none0,none0] at h ⊢;by_cases h1:(Chk.sizeV false false b.x4 b.x3 s).2=0
 ·rw [size_wide h1 (Qk.has p 27) (Qk.has p 28)];have hb:(t.wide p).r.body=t.r.body:=rfl;rw [hb];generalize Chk.sizeV false false b.x4 b.x3 s=z at h h1 ⊢;simp only [ne_eq,h1,not_true_eq_false,if_false] at h ⊢;by_cases h2:z.1=0
  ·simp only [if_pos h2];exact ⟨rfl,ht.lf,ht.cr⟩
  ·simp only [if_neg h2] at h ⊢;by_cases h3:b.x3-(t.r.body.length:Int)<z.1
   ·simp only [if_pos h3] at h
    exact absurd h (by decide)
   ·simp only [if_neg h3];exact ⟨rfl,ht.lf,ht.cr⟩
 ·have:=hn _ rfl h1;simp only [ne_eq,h1,not_false_eq_true,if_true] at h;exact absurd h this
theorem line_wide (h:(t.line 0 b s).1=0) (ht:t.Strict):(t.wide p).line p b s=(0,(t.line 0 b s).2.wide p)∧(t.line 0 b s).2.Strict:=by
 unfold T.line at h ⊢;have e:(t.wide p).st=t.st:=rfl;rw [e];by_cases h1:t.st=1
 ·simp only [if_pos h1] at h ⊢;exact first_wide h ht
 simp only [if_neg h1] at h ⊢;by_cases h2:t.st=2
 ·simp only [if_pos h2] at h ⊢;exact fields_wide h (fun d hd hn=>decide_pos hd hn) ht
 simp only [if_neg h2] at h ⊢;by_cases h3:t.st=4
 ·simp only [if_pos h3] at h ⊢;exact chunk_wide h (fun z hz hn=>size_pos hz hn) ht
 simp only [if_neg h3] at h ⊢;by_cases h4:t.st=7
 ·simp only [if_pos h4] at h ⊢;exact trail_wide h ht
 simp only [if_neg h4] at h ⊢;exact ⟨rfl,(enter_wide (p:=p) (t:=t) 4 b.x0).2⟩
theorem inLine_wide {u:Bool} (h:t.inLine 0 b c=(.live t2,u)) (ht:t.Strict):(t.wide p).inLine p b c=(.live (t2.wide p),u)∧t2.Strict:=by
 unfold T.inLine at h ⊢;have e1:(t.wide p).rd.clear=wideM p t.rd.clear:=rfl;have e2:(t.wide p).rd=wideM p t.rd:=rfl;by_cases h3:t.rd.clear.next c=3
 ·rw [h3] at h
  exact absurd (congrArg Prod.fst h) (by simp)
 obtain ⟨h1,h2⟩:=next_wide (p:=p) t.rd.clear ht.lf ht.cr c h3;have hb:=byte_wide (p:=p) t.rd ht.lf ht.cr c h3;rw [e1,e2,h1,hb];generalize hn:t.rd.clear.next c=n at h h1 h2 h3 ⊢;simp only at h ⊢;by_cases h0:n=0
 ·simp only [if_pos h0] at h ⊢;obtain ⟨rfl,rfl⟩:({t with rd:=t.rd.byte c}:T)=t2∧true=u:=by simpa using h
  exact ⟨rfl,ht.lf,ht.cr⟩
 simp only [if_neg h0,if_neg h3] at h ⊢;by_cases h4:n=4
 ·simp only [if_pos h4,none0,Bool.and_false,Bool.false_eq_true,if_false] at h
  exact absurd (congrArg Prod.fst h) (by simp)
 simp only [if_neg h4] at h ⊢;have hl:(wideM p (t.rd.byte c)).line=(t.rd.byte c).line:=rfl;rw [hl];have e5:({t.wide p with rd:=wideM p (t.rd.byte c)}:T)=({t with rd:=t.rd.byte c}:T).wide p:=rfl;rw [e5];have hs:({t with rd:=t.rd.byte c}:T).Strict:=⟨ht.lf,ht.cr⟩;generalize ({t with rd:=t.rd.byte c}:T)=t1 at h hs ⊢;generalize (t.rd.byte c).line=s at h ⊢;obtain ⟨hq,rfl⟩:=Prod.mk.inj h;by_cases hz:(t1.line 0 b s).1=0
 ·obtain ⟨k1,k2⟩:=line_wide (p:=p) hz hs;rw [k1];unfold ends at hq ⊢;rw [if_pos hz] at hq;obtain rfl:(t1.line 0 b s).2=t2:=by simpa using hq
  exact ⟨rfl,k2⟩
 ·unfold ends at hq;rw [if_neg hz] at hq;cases hq
theorem counted_wide:(t.wide p).counted=t.counted.wide p:=by unfold T.counted;have e:(t.wide p).cnt=t.cnt:=rfl;rw [e];cases t.cnt<;>rfl
theorem endData_wide (ht:t.Strict):(t.wide p).endData p=(t.endData 0).wide p∧(t.endData 0).Strict:=by
 unfold T.endData;have e:(t.wide p).r.ch=t.r.ch:=rfl;rw [e];cases t.r.ch with
 | true=>exact enter_wide 6 0
 | false=>exact fin_wide ht
theorem look_wide {u:Bool} (h:t.look 0 b c=(.live t2,u)) (ht:t.Strict):(t.wide p).look p b c=(.live (t2.wide p),u)∧t2.Strict:=by
 unfold T.look at h ⊢;have e:(t.wide p).st=t.st:=rfl;have e2:(t.wide p).left=t.left:=rfl;have e3:(t.wide p).keep c=(t.keep c).wide p:=rfl;rw [e,e2,e3];by_cases h1:bodied t.st=true
 ·simp only [if_pos h1] at h ⊢;have hk:(t.keep c).Strict:=⟨ht.lf,ht.cr⟩;by_cases h2:t.left=1
  ·simp only [if_pos h2] at h ⊢;obtain ⟨rfl,rfl⟩:(t.keep c).endData 0=t2∧true=u:=by simpa using h
   rw [(endData_wide (p:=p) hk).1];exact ⟨rfl,(endData_wide (p:=p) hk).2⟩
  ·simp only [if_neg h2] at h ⊢;obtain ⟨rfl,rfl⟩:t.keep c=t2∧true=u:=by simpa using h
   exact ⟨rfl,hk⟩
 ·simp only [if_neg h1] at h ⊢;by_cases h2:headed t.st=true
  ·simp only [if_pos h2] at h ⊢;rw [counted_wide];have e4:(t.counted.wide p).size=t.counted.size:=rfl;rw [e4]
   by_cases h3:b.x2<(t.counted.size:Int)
   ·simp only [if_pos h3] at h
    exact absurd (congrArg Prod.fst h) (by simp)
   ·simp only [if_neg h3] at h ⊢;exact inLine_wide h ⟨by rw [counted_rd];exact ht.lf,by rw [counted_rd];exact ht.cr⟩
  ·simp only [if_neg h2] at h ⊢;exact inLine_wide h ht
theorem take_wide (h:t.take 0 b c=.live t2) (ht:t.Strict):(t.wide p).take p b c=.live (t2.wide p)∧t2.Strict:=by
 unfold T.take at h ⊢;have e:({t.wide p with cnt:=false}:T)=({t with cnt:=false}:T).wide p:=rfl;have hs:({t with cnt:=false}:T).Strict:=⟨ht.lf,ht.cr⟩;rw [e];generalize ({t with cnt:=false}:T)=t0 at h hs ⊢;rcases hq:t0.look 0 b c with ⟨q,u⟩;rw [hq] at h;cases q with
 | dead e o=>cases u<;>cases h
 | live t1=>
   obtain ⟨k1,k2⟩:=look_wide (p:=p) hq hs;rw [k1];cases u with
   | true=>
     obtain rfl:t1=t2:=by simpa using h
     exact ⟨rfl,k2⟩
   | false=>
     simp only at h ⊢;rcases hq2:t1.look 0 b c with ⟨q2,u2⟩;rw [hq2] at h;simp only at h;subst h;obtain ⟨k3,k4⟩:=look_wide (p:=p) hq2 k2;rw [k3];exact ⟨rfl,k4⟩
theorem feed_wide (l:List UInt8):∀{t:T},t.Strict→(Q.live t).feed 0 b l=.live t2→(Q.live (t.wide p)).feed p b l=.live (t2.wide p)∧t2.Strict:=by
 induction l with
 | nil=>
   intro t ht h;obtain rfl:t=t2:=by simpa [Q.feed] using h
   exact ⟨rfl,ht⟩
 | cons c l ih=>
   intro t ht h;have h':(t.take 0 b c).feed 0 b l=.live t2:=h;cases hq:t.take 0 b c with
   | live t1=>
     obtain ⟨k1,k2⟩:=take_wide (p:=p) hq ht;rw [hq] at h';have:=ih k2 h';have e:(Q.live (t.wide p)).feed p b (c::l)=((t.wide p).take p b c).feed p b l:=rfl;rw [e,k1];exact this
   | dead e o=>
     rw [hq] at h';have:∀l:List UInt8,(Q.dead e o).feed 0 b l=.dead e o:=fun l=>by induction l with
      | nil=>rfl
      | cons c l ih=>exact ih
     rw [this] at h';cases h'
theorem new_wide:T.new p b=(T.new 0 b).wide p∧(T.new 0 b).Strict:=⟨rfl,none0 1,none0 2⟩
end
end Go.Proofs.YtnabkcglnbdfeaaGreatDoor.Pg
