import Derived.Test.YtnabkcglnbdfeaaGreatDoorPtb
set_option linter.unusedSimpArgs false
open Array renaming getD_eq_getD_getElem?→Ag,replicate→Aj
open Bool renaming and_eq_true→As,and_false→Au,eq_iff_iff→Ay,false_and→Az,false_eq_true→A4,not_eq_true'→A7,or_eq_true→AB
open ByteArray renaming empty→AG
open Go.Act renaming put→Ab
open Go.Lib renaming extract_data→BK,hid→BN,toList_data→BU
open Go.Proofs.Tryz renaming prog→Gq,underlying22→GI,underlying5→GQ,underlying9→GS
open Go.Proofs.YtnabkcglnbdfeaaGreatDoor.Base renaming below_drewN→Ak,below_step→Al,some_undef→An
open Go.Proofs.YtnabkcglnbdfeaaGreatDoor.Chk renaming sizeV→AK
open Go.Proofs.YtnabkcglnbdfeaaGreatDoor.Frm renaming decideV→Bs
open Go.Proofs.YtnabkcglnbdfeaaGreatDoor.Par renaming bodied→DY
open Go.Proofs.YtnabkcglnbdfeaaGreatDoor.Par.S renaming again→E4
open Go.Proofs.YtnabkcglnbdfeaaGreatDoor.Qk renaming has→Ei
open Go.Proofs.YtnabkcglnbdfeaaGreatDoor.Rec renaming R→Eo
open Go.Proofs.YtnabkcglnbdfeaaGreatDoor.Tree renaming done→Fj,grow→Fk
open Go.Proofs.YtnabkcglnbdfeaaGreatDoor.Txt renaming blank→He
open Go.Region renaming binds→Eu,ready→Ew,wanted→Ex
open Go.RowKit.Below renaming refl→Ao
open List renaming append_nil→Cb,drop_eq_getElem_cons→Co,eq_nil_of_length_eq_zero→Cr,getElem?_cons_succ→Cy,getElem?_cons_zero→Cz,getElem?_eq_getElem→C0,getElem?_map→C3,getElem?_toArray→C6,getElem_mem→C8,length_append→CG,length_drop→CI,length_map→CK,length_take→CO,mem_append→CS,mem_cons→CV,mem_of_getElem?→CZ,mem_singleton→Dc,not_mem_nil→De,range→Df,setIfInBounds_toArray→Di,set_cons_succ→Dk,set_cons_zero→Dl,take_append_drop→Do,take_of_length_le→Dp,take_succ_eq_append_getElem→Dq
open Nat renaming eq_zero_or_pos→D3,le_refl→D5,le_trans→D7,lt_of_lt_of_le→D8,lt_or_ge→D9,zero_add→DB,zero_le→DC
open Option renaming getD_some→DV,some→DX
open UInt8 renaming ofNat→Hf,toNat_inj→Hg
open Go.Value renaming int→ZZ,string→ZY,slice→ZX,bool→ZW,pointer→ZV,agg→ZU,tuple→ZT
open Go.IntKind renaming i64→ZS,u8→ZR,u32→ZQ
namespace Go.Proofs.YtnabkcglnbdfeaaGreatDoor.Par
open Go.RowKit Base Txt
theorem grow_facts {base most:Int} (hb:1<=base) (hm:0<=most):∀(l:List UInt8) (n k:Int),0<=n->n<=most->Num.grow base most n l=some k->0<=k/\k<=most
 | [],n,k,h0,h1,h=>by
   simp only [Num.grow,DX.injEq] at h;omega
 | c::r,n,k,h0,h1,h=>by
   unfold Num.grow at h;by_cases hc:most<Num.dig c∨(most-Num.dig c)/base<n
   ·rw [if_pos hc] at h;cases h
   ·rw [if_neg hc] at h;have hd:=Num.dig_nonneg c;have h2:n<=(most-Num.dig c)/base:=by omega
    have h3:n*base<=most-Num.dig c:=by
     have:=Int.mul_le_mul_of_nonneg_right h2 (by omega:0<=base)
     have h4:=Int.ediv_mul_le (most-Num.dig c) (by omega:base≠0);omega
    have h5:0<=n*base:=Int.mul_nonneg h0 (by omega);exact grow_facts hb hm r _ k (by omega) (by omega) h
theorem read_facts (base most:Int) (hb:1<=base) (l:List UInt8):((Num.readOf base most l).2=0/\0<=(Num.readOf base most l).1/\(Num.readOf base most l).1<=max most 0)∨(Num.readOf base most l).2=22∨(Num.readOf base most l).2=23:=by
 unfold Num.readOf;split
 ·exact .inr (.inl rfl)
 ·cases h:Num.grow base (max most 0) 0 l with
  | none=>exact .inr (.inr rfl)
  | some k=>
    have:=grow_facts hb (by omega) l 0 k (by omega) (by omega) h;exact .inl ⟨rfl,this.1,this.2⟩
theorem chunk_facts (hex blanks:Bool) (ext body:Int) (l:List UInt8):((AK hex blanks ext body l).2=0/\0<=(AK hex blanks ext body l).1/\(AK hex blanks ext body l).1<=max body 0)∨(AK hex blanks ext body l).2=400∨(AK hex blanks ext body l).2=413:=by
 unfold AK;split
 ·rcases read_facts 16 body (by decide) (Chk.sizeL hex blanks l) with ⟨h0,h1,h2⟩ | h | h
  ·unfold Chk.numV;rw [h0,if_neg (by decide),if_neg (by decide)];exact .inl ⟨rfl,h1,h2⟩
  ·unfold Chk.numV
   rw [h,if_pos rfl];exact .inr (.inl rfl)
  ·unfold Chk.numV
   rw [h,if_neg (by decide),if_pos rfl];exact .inr (.inr rfl)
 ·exact .inr (.inl rfl)
theorem length_facts (lp lc lf ll:Bool) (most:Int) (vs:List ByteArray):((Frm.lengthV lp lc lf ll most vs).2=0/\0<=(Frm.lengthV lp lc lf ll most vs).1/\(Frm.lengthV lp lc lf ll most vs).1<=max most 0)∨(Frm.lengthV lp lc lf ll most vs).2=400∨(Frm.lengthV lp lc lf ll most vs).2=413:=by
 unfold Frm.lengthV;split
 ·exact .inl ⟨rfl,by decide,by show (0:Int)<=_;omega⟩
 ·split
  ·exact .inr (.inl rfl)
  ·rename_i s _;rcases read_facts 10 most (by decide) (Frm.unplus lp s).data.toList with ⟨h0,h1,h2⟩ | h | h
   ·unfold Frm.numV;rw [h0,if_neg (by decide),if_neg (by decide)];exact .inl ⟨rfl,h1,h2⟩
   ·unfold Frm.numV
    rw [h,if_pos rfl];exact .inr (.inl rfl)
   ·unfold Frm.numV
    rw [h,if_neg (by decide),if_pos rfl];exact .inr (.inr rfl)
theorem decide_facts (c:Frm.Cl) (ch:Bool) (body minor:Int) (fs:List Fld) :
 Bs c ch body minor fs=(2,0,0)∨(∃n:Nat,(n:Int)<=max body 0/\Bs c ch body minor fs=(1,(n:Int),0))∨∃e:Nat,(e=400∨e=413∨e=501)/\Bs c ch body minor fs=(0,0,(e:Int)):=by
 unfold Bs Frm.bodyV;have hh:Frm.hostsV c.nh c.mh minor (find fs Frm.hostN)=0∨Frm.hostsV c.nh c.mh minor (find fs Frm.hostN)=400:=by
  unfold Frm.hostsV;split
  ·exact .inr rfl
  ·split
   ·exact .inl rfl
   ·exact .inr rfl
 rcases hh with h | h
 ·rw [h,if_neg (by decide)];obtain ⟨W,hW⟩:∃W,Frm.winsV c.td c.ti c.tw c.lw minor (find fs Frm.teN).length (find fs Frm.clN).length (Frm.coding c.tb c.tl (find fs Frm.teN))=W:=⟨_,rfl⟩;have hw:W.2=0∨W.2=400∨W.2=501:=by
   rw [←hW];unfold Frm.winsV
   repeat' split
   all_goals simp
  rw [hW];rcases hw with w | w | w
  ·rw [w,if_neg (by decide)];split
   ·split
    ·exact .inl rfl
    ·exact .inr (.inr ⟨501,by simp,rfl⟩)
   ·rcases length_facts c.lp c.lc c.lf c.ll body (find fs Frm.clN) with ⟨h0,h1,h2⟩ | h0 | h0
    ·refine .inr (.inl ⟨(Frm.lengthV c.lp c.lc c.lf c.ll body (find fs Frm.clN)).1.toNat,by omega,?_⟩);unfold Frm.fixedV;rw [h0,if_pos rfl,Int.toNat_of_nonneg h1]
    ·refine .inr (.inr ⟨400,by simp,?_⟩);unfold Frm.fixedV;rw [h0,if_neg (by decide)];rfl
    ·refine .inr (.inr ⟨413,by simp,?_⟩);unfold Frm.fixedV;rw [h0,if_neg (by decide)];rfl
  ·rw [w,if_pos (by decide)];exact .inr (.inr ⟨400,by simp,rfl⟩)
  ·rw [w,if_pos (by decide)];exact .inr (.inr ⟨501,by simp,rfl⟩)
 ·rw [h,if_pos (by decide)];exact .inr (.inr ⟨400,by simp,rfl⟩)
theorem request_facts (c:Rq.Cl) (old:Bool) (l:List UInt8):((Rq.request c old l).2.2.2=0/\(Rq.request c old l).1.length<=l.length/\(Rq.request c old l).2.1.length<=l.length/\(Rq.request c old l).2.2.1<=1)∨(Rq.request c old l).2.2.2=400∨(Rq.request c old l).2.2.2=505:=by
 unfold Rq.request;split
 ·exact .inr (.inl rfl)
 ·rename_i m t v hp;split
  ·split
   ·exact .inr (.inr rfl)
   ·rename_i k hk;split
    ·exact .inr (.inr rfl)
    ·obtain ⟨-,h1, -,h2, -⟩:=Rq.pick_some hp;refine .inl ⟨rfl,h1,h2,?_⟩;show k<=1;unfold Rq.verL at hk
     repeat' split at hk
     all_goals first |(cases hk;omega) | cases hk
  ·exact .inr (.inl rfl)
end Go.Proofs.YtnabkcglnbdfeaaGreatDoor.Par
namespace Go.Proofs.YtnabkcglnbdfeaaGreatDoor.Pg
open Go.RowKit Base Txt Par
structure T.Ok (t:T):Prop where
 rd:t.rd.Ok
 nf:Ln.failed t.rd.last=false
 st:1<=t.st/\t.st<=7
 hl:t.hl<=100
 bl:t.bl<=100
 fsl:t.r.fs.length<=t.hl
 tsl:t.r.ts.length<=t.bl
 fss:∀y∈t.r.fs,y.1.size<=5000*t.hl/\y.2.size<=5000*t.hl
 tss:∀y∈t.r.ts,y.1.size<=5000*t.bl/\y.2.size<=5000*t.bl
 m:t.r.m.size<=4096
 x:t.r.x.size<=4096
 body:t.r.body.length+t.left<=1048576
 left:bodied t.st=true->1<=t.left
 early:t.st<=2->t.r.body= []
 size:t.size<=65536
theorem Bd.edges {b:Bd} (h:b.right=true):(64<=b.x0/\b.x0<=4096)/\(4<=b.x1/\b.x1<=100)/\(256<=b.x2/\b.x2<=65536)/\(16<=b.x3/\b.x3<=1048576)/\(0<=b.x4/\b.x4<=256)/\(0<=b.x5/\b.x5<=100):=by unfold Bd.right Bnd.right Bnd.inside at h;simp only [As,decide_eq_true_eq] at h;omega
theorem size_ba (l:List UInt8):(ba l).size=l.length:=by simp [ba,ByteArray.size]
theorem joinF_le (f:Fld) (ln:List UInt8):(joinF f ln).1.size=f.1.size/\(joinF f ln).2.size<=f.2.size+1+ln.length:=by refine ⟨rfl,?_⟩;unfold joinF;rw [size_ba];unfold Fd.joined;rw [CG,List.length_cons,len];have:=trimL_length He ln;omega
theorem fieldV_fit {p lines:Nat} {l l':List Fld} {ln:List UInt8} {most:Int} (h:fieldV p lines l ln most=.inr l') (hn:ln.length<=4096) (hl:l.length<=lines) (hs:∀y∈l,y.1.size<=5000*lines/\y.2.size<=5000*lines) :
 ((lines+1:Nat):Int)<=most/\l'.length<=lines+1/\∀y∈l',y.1.size<=5000*(lines+1)/\y.2.size<=5000*(lines+1):=by
 unfold fieldV at h
 by_cases hm:most<((lines+1:Nat):Int)
 ·rw [if_pos hm] at h;cases h
 ·rw [if_neg hm] at h;have h0:((lines+1:Nat):Int)<=most:=by omega
  by_cases hg:(Fd.goes p ln && !l.isEmpty)=true
  ·rw [if_pos hg] at h;have hne:l≠ []:=by
    simp only [As,A7,List.isEmpty_eq_false_iff] at hg;exact hg.2
   obtain ⟨ini,last,rfl⟩:∃ini last,l=ini ++ [last]:=⟨_,_,(List.dropLast_concat_getLast hne).symm⟩;simp only [List.dropLast_concat,List.getLast?_concat,DV] at h;cases h;refine ⟨h0,by simpa using Nat.le_succ_of_le hl,λy hy=>?_⟩;rcases CS.1 hy with hy | hy
   ·have:=hs y (List.mem_append_left _ hy);omega
   ·obtain rfl:y= _:=by simpa using hy
    have h1:=hs last (by simp);have h2:=joinF_le last ln;omega
  ·rw [if_neg hg] at h;rcases hp:Fd.parse (Fd.clOf p) ln with _ | _ | ⟨n,v⟩
   ·rw [hp] at h;cases h
   ·rw [hp] at h;cases h;exact ⟨h0,by omega,λy hy=>by have:=hs y hy;omega⟩
   ·rw [hp] at h;cases h;have h2:=Fd.parse_le hp;refine ⟨h0,by simp;omega,λy hy=>?_⟩;rcases CS.1 hy with hy | hy
    ·have:=hs y hy;omega
    ·obtain rfl:y= _:=by simpa using hy
     simp only [size_ba];omega
theorem fieldV_err {p lines:Nat} {l:List Fld} {ln:List UInt8} {most:Int} {e:Nat} (h:fieldV p lines l ln most=.inl e):e=400∨e=431:=by
 unfold fieldV at h
 by_cases hm:most<((lines+1:Nat):Int)
 ·rw [if_pos hm] at h;cases h;exact .inr rfl
 ·rw [if_neg hm] at h;by_cases hg:(Fd.goes p ln && !l.isEmpty)=true
  ·rw [if_pos hg] at h;cases h
  ·rw [if_neg hg] at h;rcases hp:Fd.parse (Fd.clOf p) ln with _ | _ | ⟨n,v⟩<;>rw [hp] at h<;>cases h;exact .inl rfl
section
variable {p:Nat} {b:Bd} {t t':T} {s:List UInt8}
theorem T.Ok.fin (h:t.Ok):t.fin.Ok:=
 ⟨h.rd,h.nf,⟨D5 _,by show 1<=7;omega⟩,DC _,DC _,D5 _,D5 _,(by intro y hy;cases hy),(by intro y hy;cases hy),DC _,DC _,DC _,λh=>(by cases h),λ_=>rfl,DC _⟩
theorem T.Ok.enter (h:t.Ok) {st:Nat} (hs:st=4∨st=6) (most:Int):(t.enter p st most).Ok:=
 ⟨Ln.M.new_ok _ _ _ (Ln.mid_le _),rfl,by show 1<=st/\st<=7;omega,h.hl,h.bl,h.fsl,h.tsl,h.fss,h.tss,h.m,h.x,h.body,λhb=>(by rcases hs with rfl | rfl<;>cases hb),λhle=>by have:st<=2:=hle;omega,h.size⟩
theorem T.Ok.first (h:t.Ok) (hst:t.st<=2) (hn:s.length<=4096) (h0:(t.first p b s).1=0):(t.first p b s).2.Ok:=by
 unfold T.first at h0 ⊢;by_cases he:s= []
 ·rw [if_pos he] at h0 ⊢;exact h
 ·rw [if_neg he] at h0 ⊢;rcases request_facts (Rq.clOf p) b.od s with ⟨h1,h2,h3,h4⟩ | h1 | h1
  ·simp only [h1,if_pos];exact ⟨h.rd,h.nf,by show 1<=2/\2<=7;omega,h.hl,h.bl,h.fsl,h.tsl,h.fss,h.tss,by show (ba _).size<=_;rw [size_ba];omega,by show (ba _).size<=_;rw [size_ba];omega,h.body,λhb=>(by cases hb),λ_=>h.early hst,h.size⟩
  ·simp [h1] at h0
  ·simp [h1] at h0
theorem T.Ok.endHead (h:t.Ok) (hb:b.right=true) (hst:t.st<=2) (h0:(t.endHead p b).1=0):(t.endHead p b).2.Ok:=by
 have e3:=(Bd.edges hb).2.2.2.1;unfold T.endHead at h0 ⊢;rcases decide_facts (Frm.clOf p) b.ch b.x3 t.r.k t.r.fs with e | ⟨n,hn,e⟩ | ⟨x,hx,e⟩
 ·rw [e];dsimp only;rw [if_neg (by decide),if_pos rfl];exact ⟨h.rd,h.nf,by show 1<=4/\4<=7;omega,h.hl,h.bl,h.fsl,h.tsl,h.fss,h.tss,h.m,h.x,h.body,λhb=>(by cases hb),λhle=>by have:4<=2:=hle;omega,h.size⟩
 ·rw [e];dsimp only;rw [if_neg (by decide),if_neg (by decide)];by_cases hz:(n:Int)=0
  ·rw [if_pos hz];exact h.fin
  ·rw [if_neg hz];have hbd:=h.early hst;exact ⟨h.rd,h.nf,by show 1<=3/\3<=7;omega,h.hl,h.bl,h.fsl,h.tsl,h.fss,h.tss,h.m,h.x,by show t.r.body.length+(n:Int).toNat<=_;rw [hbd];simp only [List.length_nil];omega,λ_=>by show 1<=(n:Int).toNat;omega,λhle=>by have:3<=2:=hle;omega,h.size⟩
 ·exfalso;rw [e] at h0;dsimp only at h0;rw [if_pos (by omega)] at h0;have:(x:Int).toNat=0:=h0;omega
theorem listE_zero {x:Nat ⊕ List Fld} (h:listE x=0) (h1:∀e,x=.inl e->e=400∨e=431):∃l,x=.inr l:=by
 cases x with
 | inl e=>
   have:e=0:=h;rcases h1 e rfl with h | h<;>omega
 | inr l=>exact ⟨l,rfl⟩
theorem T.Ok.fields (h:t.Ok) (hb:b.right=true) (hst:t.st<=2) (hn:s.length<=4096) (h0:(t.fields p b s).1=0):(t.fields p b s).2.Ok:=by
 have e1:=(Bd.edges hb).2.1;unfold T.fields at h0 ⊢;by_cases he:s= []
 ·rw [if_pos he] at h0 ⊢;exact h.endHead hb hst h0
 ·rw [if_neg he] at h0 ⊢;obtain ⟨l,hl⟩:=listE_zero h0 λe he=>fieldV_err he;obtain ⟨f1,f2,f3⟩:=fieldV_fit hl hn h.fsl h.fss;rw [hl];exact ⟨h.rd,h.nf,h.st,by show t.hl+1<=100;omega,h.bl,f2,h.tsl,f3,h.tss,h.m,h.x,h.body,h.left,h.early,h.size⟩
theorem T.Ok.trail (h:t.Ok) (hb:b.right=true) (hn:s.length<=4096) (h0:(t.trail p b s).1=0):(t.trail p b s).2.Ok:=by
 have e1:=(Bd.edges hb).2.2.2.2.2;unfold T.trail at h0 ⊢;by_cases he:s= []
 ·rw [if_pos he] at h0 ⊢;exact h.fin
 ·rw [if_neg he] at h0 ⊢;obtain ⟨l,hl⟩:=listE_zero h0 λe he=>fieldV_err he;obtain ⟨f1,f2,f3⟩:=fieldV_fit hl hn h.tsl h.tss;rw [hl];exact ⟨h.rd,h.nf,h.st,h.hl,by show t.bl+1<=100;omega,h.fsl,f2,h.fss,f3,h.m,h.x,h.body,h.left,h.early,h.size⟩
theorem T.Ok.chunk (h:t.Ok) (hb:b.right=true) (h0:(t.chunk p b s).1=0):(t.chunk p b s).2.Ok:=by
 have e3:=(Bd.edges hb).2.2.2.1;unfold T.chunk at h0 ⊢;rcases chunk_facts (Ei p 27) (Ei p 28) b.x4 b.x3 s with ⟨z2,z1,z3⟩ | z2 | z2
 ·dsimp only at h0 ⊢;rw [z2] at h0 ⊢;rw [if_neg (by decide)] at h0 ⊢;obtain ⟨z,hz⟩:∃z,(AK (Ei p 27) (Ei p 28) b.x4 b.x3 s).1=z:=⟨_,rfl⟩;rw [hz] at h0 z1 z3 ⊢;by_cases hz0:z=0
  ·rw [if_pos hz0];exact ⟨h.rd,h.nf,by show 1<=7/\7<=7;omega,h.hl,h.bl,h.fsl,h.tsl,h.fss,h.tss,h.m,h.x,h.body,λhb=>(by cases hb),λhle=>by have:7<=2:=hle;omega,h.size⟩
  ·rw [if_neg hz0] at h0 ⊢;by_cases hlt:b.x3-(t.r.body.length:Int)<z
   ·rw [if_pos hlt] at h0;cases h0
   ·rw [if_neg hlt];exact ⟨h.rd,h.nf,by show 1<=5/\5<=7;omega,h.hl,h.bl,h.fsl,h.tsl,h.fss,h.tss,h.m,h.x,by show t.r.body.length+z.toNat<=_;omega,λ_=>by show 1<=z.toNat;omega,λhle=>by have:5<=2:=hle;omega,h.size⟩
 ·exfalso;dsimp only at h0;rw [z2] at h0;rw [if_pos (by decide)] at h0;cases h0
 ·exfalso;dsimp only at h0;rw [z2] at h0;rw [if_pos (by decide)] at h0;cases h0
theorem T.Ok.line (h:t.Ok) (hb:b.right=true) (hn:s.length<=4096) (h0:(t.line p b s).1=0):(t.line p b s).2.Ok:=by
 unfold T.line at h0 ⊢;by_cases h1:t.st=1
 ·rw [if_pos h1] at h0 ⊢;exact h.first (by omega) hn h0
 ·rw [if_neg h1] at h0 ⊢;by_cases h2:t.st=2
  ·rw [if_pos h2] at h0 ⊢;exact h.fields hb (by omega) hn h0
  ·rw [if_neg h2] at h0 ⊢;by_cases h4:t.st=4
   ·rw [if_pos h4] at h0 ⊢;exact h.chunk hb h0
   ·rw [if_neg h4] at h0 ⊢;by_cases h7:t.st=7
    ·rw [if_pos h7] at h0 ⊢;exact h.trail hb hn h0
    ·rw [if_neg h7];exact h.enter (.inl rfl) _
theorem T.Ok.byteR (h:t.Ok) (c:UInt8) (hf:Ln.failed (t.rd.clear.next c)=false):({t with rd:=t.rd.byte c}:T).Ok:=
 ⟨h.rd.byte c,hf,h.st,h.hl,h.bl,h.fsl,h.tsl,h.fss,h.tss,h.m,h.x,h.body,h.left,h.early,h.size⟩
theorem line_len (h:t.Ok) (c:UInt8):(t.rd.byte c).line.length<=4096:=by
 have h1:=(h.rd.byte c).len;have h2:=(h.rd.byte c).most;unfold Ln.M.line;split
 ·omega
 ·exact DC _
theorem T.Ok.inLine (h:t.Ok) (hb:b.right=true) (c:UInt8) (h0:(t.inLine p b c).1=.live t'):t'.Ok:=by
 unfold T.inLine at h0;obtain ⟨how,hh⟩:∃how,t.rd.clear.next c=how:=⟨_,rfl⟩;have hn:=Ln.M.next_is t.rd.clear c;have hk:=h.byteR c;simp only [hh] at h0 hn hk;by_cases e0:how=0
 ·rw [if_pos e0] at h0;cases h0;exact hk (by rw [e0];rfl)
 ·rw [if_neg e0] at h0;by_cases e3:how=3
  ·rw [if_pos e3] at h0;cases h0
  ·rw [if_neg e3] at h0;by_cases e4:how=4
   ·rw [if_pos e4] at h0;split at h0
    ·cases h0;exact ⟨Ln.M.new_ok _ _ _ (Ln.mid_le _),rfl,by show 1<=4/\4<=7;omega,h.hl,h.bl,h.fsl,h.tsl,h.fss,h.tss,h.m,h.x,h.body,λhb=>(by cases hb),λhle=>by have:4<=2:=hle;omega,h.size⟩
    ·cases h0
   ·rw [if_neg e4] at h0;have hf:Ln.failed how=false:=by rcases hn with e | e | e | e | e<;>first |(rw [e];rfl) | contradiction
    have hk1:=(hk hf).line (p:=p) hb (line_len h c);unfold ends at h0;split at h0
    ·rename_i hz;cases h0;exact hk1 hz
    ·cases h0
theorem T.Ok.counted (h:t.Ok) (hb:b.right=true) (hc:¬b.x2<(t.counted.size:Int)):t.counted.Ok:=by
 have e2:=(Bd.edges hb).2.2.1;have hs:t.counted.size<=65536:=by omega
 unfold T.counted at hs ⊢;split
 ·exact h
 ·rename_i hn;rw [if_neg hn] at hs;exact ⟨h.rd,h.nf,h.st,h.hl,h.bl,h.fsl,h.tsl,h.fss,h.tss,h.m,h.x,h.body,h.left,h.early,hs⟩
theorem counted_st (t:T):t.counted.st=t.st:=by unfold T.counted;split<;>rfl
theorem counted_rd (t:T):t.counted.rd=t.rd:=by unfold T.counted;split<;>rfl
theorem counted_out (t:T):t.counted.out=t.out:=by unfold T.counted;split<;>rfl
theorem T.Ok.keep (h:t.Ok) (hst:bodied t.st=true) (hl:t.left≠1) (c:UInt8):(t.keep c).Ok:=by have h1:=h.left hst;exact ⟨h.rd,h.nf,h.st,h.hl,h.bl,h.fsl,h.tsl,h.fss,h.tss,h.m,h.x,by have:=h.body;show (t.r.body ++ [c]).length+(t.left-1)<=_;rw [CG,List.length_singleton];omega,λ_=>by show 1<=t.left-1;omega,λhle=>by exfalso;have h2:t.st<=2:=hle;unfold bodied at hst;simp only [AB,beq_iff_eq] at hst;omega,h.size⟩
theorem T.Ok.endData (h:t.Ok) (hst:bodied t.st=true) (c:UInt8):((t.keep c).endData p).Ok:=by
 have h1:=h.left hst;unfold T.endData;split
 ·exact ⟨Ln.M.new_ok _ _ _ (Ln.mid_le _),rfl,by show 1<=6/\6<=7;omega,h.hl,h.bl,h.fsl,h.tsl,h.fss,h.tss,h.m,h.x,by have:=h.body;show (t.r.body ++ [c]).length+(t.left-1)<=_;rw [CG,List.length_singleton];omega,λhb=>(by cases hb),λhle=>by have:6<=2:=hle;omega,h.size⟩
 ·exact ⟨h.rd,h.nf,⟨D5 _,by show 1<=7;omega⟩,DC _,DC _,D5 _,D5 _,(by intro y hy;cases hy),(by intro y hy;cases hy),DC _,DC _,DC _,λh=>(by cases h),λ_=>rfl,DC _⟩
theorem T.Ok.look (h:t.Ok) (hb:b.right=true) (c:UInt8) (h0:(t.look p b c).1=.live t'):t'.Ok:=by
 unfold T.look at h0;by_cases hd:bodied t.st=true
 ·rw [if_pos hd] at h0;cases h0;split
  ·exact h.endData hd c
  ·exact h.keep hd (by assumption) c
 ·rw [if_neg hd] at h0;split at h0
  ·split at h0
   ·cases h0
   ·exact (h.counted hb (by assumption)).inLine hb c h0
  ·exact h.inLine hb c h0
theorem inLine_used (hp:t.rd.pend=false) (hf:Ln.failed t.rd.last=false) (hs:t.st≠6) (c:UInt8):(t.inLine p b c).2=true:=by
 have h2:t.rd.clear.next c≠2:=by
  unfold Ln.M.next;have e1:t.rd.clear.last=t.rd.last:=rfl;have e2:t.rd.clear.pend=t.rd.pend:=rfl;rw [e1,e2,hp,hf];simp only [A4,if_false]
  repeat' split
  all_goals decide
 unfold T.inLine;obtain ⟨how,hh⟩:∃how,t.rd.clear.next c=how:=⟨_,rfl⟩;simp only [hh] at h2 ⊢;split
 ·rfl
 ·split
  ·rfl
  ·split
   ·have:(t.st==6)=false:=beq_eq_false_iff_ne.2 hs;rw [this];rfl
   ·simp only [A7,beq_eq_false_iff_ne];exact h2
theorem look_used (hp:t.rd.pend=false) (hf:Ln.failed t.rd.last=false) (hs:t.st≠6) (c:UInt8):(t.look p b c).2=true:=by
 unfold T.look;split
 ·rfl
 ·split
  ·split
   ·rfl
   ·exact inLine_used (by rw [counted_rd];exact hp) (by rw [counted_rd];exact hf) (by rw [counted_st];exact hs) c
  ·exact inLine_used hp hf hs c
theorem XXZ78 {P:Prop} (h:P:=by exact ⟨.inl rfl,λ_ _=>by show t.st≠6;omega⟩):P:=h
theorem line_keeps:((t.line p b s).2.rd=t.rd∨∃most,(t.line p b s).2.rd=Ln.M.of p most)/\(bodied t.st=false->(t.line p b s).1=0->(t.line p b s).2.st≠6):=by
 unfold T.line T.first T.fields T.endHead T.chunk T.trail;by_cases h1:t.st=1
 ·rw [if_pos h1];by_cases he:s= []
  ·rw [if_pos he];exact ⟨.inl rfl,λ_ _=>by show t.st≠6;omega⟩
  ·rw [if_neg he];dsimp only;split
   ·exact ⟨.inl rfl,λ_ _=>by show 2≠6;decide⟩
   ·exact XXZ78
 ·rw [if_neg h1];by_cases h2:t.st=2
  ·rw [if_pos h2];by_cases he:s= []
   ·rw [if_pos he];dsimp only;split
    ·exact XXZ78
    ·split
     ·exact ⟨.inl rfl,λ_ _=>by show 4≠6;decide⟩
     ·split
      ·exact ⟨.inl rfl,λ_ _=>by show 1≠6;decide⟩
      ·exact ⟨.inl rfl,λ_ _=>by show 3≠6;decide⟩
   ·rw [if_neg he];exact ⟨.inl rfl,λ_ _=>by show t.st≠6;omega⟩
  ·rw [if_neg h2];by_cases h4:t.st=4
   ·rw [if_pos h4];dsimp only;split
    ·exact XXZ78
    ·split
     ·exact ⟨.inl rfl,λ_ _=>by show 7≠6;decide⟩
     ·split
      ·exact XXZ78
      ·exact ⟨.inl rfl,λ_ _=>by show 5≠6;decide⟩
   ·rw [if_neg h4];by_cases h7:t.st=7
    ·rw [if_pos h7];by_cases he:s= []
     ·rw [if_pos he];exact ⟨.inl rfl,λ_ _=>by show 1≠6;decide⟩
     ·rw [if_neg he];exact ⟨.inl rfl,λ_ _=>by show t.st≠6;omega⟩
    ·rw [if_neg h7];exact ⟨.inr ⟨_,rfl⟩,λ_ _=>by show 4≠6;decide⟩
theorem inLine_again (hst:bodied t.st=false) (c:UInt8) (h0:t.inLine p b c=(.live t',false)):t'.rd.pend=false/\t'.st≠6:=by
 unfold T.inLine at h0;obtain ⟨how,hh⟩:∃how,t.rd.clear.next c=how:=⟨_,rfl⟩;simp only [hh] at h0;by_cases e0:how=0
 ·rw [if_pos e0] at h0;cases h0
 ·rw [if_neg e0] at h0;by_cases e3:how=3
  ·rw [if_pos e3] at h0;cases h0
  ·rw [if_neg e3] at h0;by_cases e4:how=4
   ·rw [if_pos e4] at h0;split at h0
    ·cases h0;exact ⟨rfl,by show 4≠6;decide⟩
    ·cases h0
   ·rw [if_neg e4] at h0;obtain ⟨h1,h2⟩:=Prod.mk.inj h0;unfold ends at h1;split at h1
    ·rename_i hz;cases h1
     obtain ⟨k1,k2⟩:=line_keeps (p:=p) (b:=b) (t:={t with rd:=t.rd.byte c}) (s:=(t.rd.byte c).line);refine ⟨?_,k2 hst hz⟩;have hpd:(t.rd.byte c).pend=false:=by show (t.rd.clear.next c==0&&c==13)=false;rw [hh,beq_eq_false_iff_ne.2 e0];rfl
     rcases k1 with k | ⟨most,k⟩
     ·rw [k];exact hpd
     ·rw [k];rfl
    ·cases h1
theorem look_twice (h:t.Ok) (hb:b.right=true) (c:UInt8) (h0:t.look p b c=(.live t',false)):(t'.look p b c).2=true:=by
 have hok:t'.Ok:=h.look hb c (by rw [h0]);unfold T.look at h0;by_cases hd:bodied t.st=true
 ·rw [if_pos hd] at h0;cases h0
 ·rw [if_neg hd] at h0;have hd':bodied t.st=false:=by simpa using hd
  split at h0
  ·split at h0
   ·cases h0
   ·obtain ⟨k1,k2⟩:=inLine_again (by rw [counted_st];exact hd') c h0;exact look_used k1 hok.nf k2 c
  ·obtain ⟨k1,k2⟩:=inLine_again hd' c h0;exact look_used k1 hok.nf k2 c
theorem T.Ok.cleared (h:t.Ok):({t with cnt:=false}:T).Ok:=⟨h.rd,h.nf,h.st,h.hl,h.bl,h.fsl,h.tsl,h.fss,h.tss,h.m,h.x,h.body,h.left,h.early,h.size⟩
theorem T.Ok.take (h:t.Ok) (hb:b.right=true) (c:UInt8) (h0:t.take p b c=.live t'):t'.Ok:=by
 unfold T.take at h0;rcases hx:({t with cnt:=false}:T).look p b c with ⟨t1 | ⟨e,o⟩,u⟩
 ·have h1:t1.Ok:=h.cleared.look hb c (by rw [hx]);rw [hx] at h0;cases u with
  | true=>cases h0;exact h1
  | false=>exact h1.look hb c h0
 ·rw [hx] at h0;cases u<;>cases h0
end
end Go.Proofs.YtnabkcglnbdfeaaGreatDoor.Pg
namespace Go.Proofs.YtnabkcglnbdfeaaGreatDoor.Pg
open Go.RowKit Base Txt Par
theorem none0 (k:Int):Ei 0 k=false:=by unfold Ei;rw [Nat.zero_testBit,Au]
theorem dw_none {q:UInt8->Bool}:∀{l:List UInt8},(∀x∈l,q x=false)->l.dropWhile q=l
 | [],_=>rfl
 | x::r,h=>dropWhile_stop (h x (by simp))
theorem trimL_none {q:UInt8->Bool} {l:List UInt8} (h:∀x∈l,q x=false):trimL q l=l:=by unfold trimL;rw [dw_none h,dw_none (λx hx=>h x (by simpa using hx)),List.reverse_reverse]
theorem letters_tab:∀k:Fin 256,lowB (Hf k.val)∈ [99,104,117,110,107,101,100]->Frm.blanksOf.data.toList.contains (Hf k.val)=false:=by decide +kernel
theorem letter_of {x:UInt8} (h:lowB x∈ [99,104,117,110,107,101,100]):isIn Frm.blanksOf x=false:=by have:=letters_tab ⟨x.toNat,x.toNat_lt⟩ (by simpa using h);simpa [isIn] using this
theorem isC_wide {v:ByteArray} (h:Frm.isC false v=true) (tb:Bool):Frm.isC tb v=true:=by
 cases tb with
 | false=>exact h
 | true=>
   have h1:same v Frm.chunked=true:=h
   have h2:low v.data.toList= [99,104,117,110,107,101,100]:=(beq_iff_eq.1 h1).trans (by decide +kernel);have e:trimOf v Frm.blanksOf=v:=by apply ba_ext;show trimL (isIn Frm.blanksOf) v.data.toList= _;refine trimL_none λx hx=>letter_of ?_;rw [←h2];exact List.mem_map.2 ⟨x,hx,rfl⟩
   show same (trimOf v Frm.blanksOf) Frm.chunked=true;rw [e];exact h1
theorem coding_wide {vs:List ByteArray} (h:Frm.coding false false vs=true) (tb tl:Bool):Frm.coding tb tl vs=true:=by unfold Frm.coding at h ⊢;rw [Bool.or_false,As,decide_eq_true_eq] at h;obtain ⟨h1,h2⟩:=h;obtain ⟨v,hv⟩:=List.length_eq_one_iff.1 h2;rw [hv] at h1 ⊢;have h3:Frm.isC false v=true:=h1;rw [decide_eq_true (by simp),Bool.true_or,Bool.and_true];exact isC_wide h3 tb
theorem digit_tab:∀k:Fin 256,Num.digitOf 10 (Hf k.val)=true->Hf k.val≠44/\Hf k.val≠43/\He (Hf k.val)=false:=by decide +kernel
theorem digit_of {x:UInt8} (h:Num.digitOf 10 x=true):x≠44/\x≠43/\He x=false:=by simpa using digit_tab ⟨x.toNat,x.toNat_lt⟩ (by simpa using h)
theorem hex_tab:∀k:Fin 256,Num.digitOf 16 (Hf k.val)=true->lowB (Hf k.val)≠120/\He (Hf k.val)=false:=by decide +kernel
theorem hex_of {x:UInt8} (h:Num.digitOf 16 x=true):lowB x≠120/\He x=false:=by simpa using hex_tab ⟨x.toNat,x.toNat_lt⟩ (by simpa using h)
theorem read_digits {base most:Int} {l:List UInt8} (h:(Num.readOf base most l).2≠22):∀x∈l,Num.digitOf base x=true:=by
 unfold Num.readOf at h;split at h
 ·exact absurd rfl h
 ·rename_i h1;rw [AB,not_or,Bool.not_eq_true,Bool.not_eq_true,Bool.not_eq_false',List.all_eq_true] at h1;exact h1.2
theorem numV_digits {r:Int × Int} (h:(Frm.numV r).2=0):r.2≠22:=by
 intro e;unfold Frm.numV at h;rw [if_pos e] at h
 exact absurd h (by decide)
theorem length_wide {most:Int} {vs:List ByteArray} (h:(Frm.lengthV false false false false most vs).2=0) (lp lc lf ll:Bool) :
 Frm.lengthV lp lc lf ll most vs=Frm.lengthV false false false false most vs:=by
 unfold Frm.lengthV at h ⊢;by_cases h0:vs= []
 ·rw [if_pos h0,if_pos h0]
 rw [if_neg h0] at h ⊢;rw [if_neg h0];rw [if_neg Bool.false_ne_true] at h ⊢;by_cases h1:vs.length=1
 ·obtain ⟨v,rfl⟩:=List.length_eq_one_iff.1 h1;have hc:Frm.counts false false false [v]=some v:=rfl;rw [hc] at h ⊢;have hu:Frm.unplus false v=v:=rfl;simp only [hu] at h ⊢
  have hd:=read_digits (numV_digits h);have hl:list [v]= [v]:=by
   have e1:list [v]=partsOf v:=by simp [list]
   rw [e1];unfold partsOf;rw [parts_none 44 _ λhm=>(digit_of (hd _ hm)).1 rfl];show [trim (ba v.data.toList)]= [v]
   congr 1
   apply ba_ext;show trimL He (ba v.data.toList).data.toList= _;have e2:(ba v.data.toList).data.toList=v.data.toList:=by simp [ba]
   rw [e2];exact trimL_none λx hx=>(digit_of (hd x hx)).2.2
  have hc':Frm.counts lc lf ll (if lc=true then list [v] else [v])=some v:=by
   have:(if lc=true then list [v] else [v])= [v]:=by cases lc<;>simp [hl]
   rw [this];unfold Frm.counts;rw [if_pos (by simp)];rfl
  rw [hc'];have hp:Frm.unplus lp v=v:=by
   unfold Frm.unplus;rw [if_neg];intro hh;rw [As,decide_eq_true_eq] at hh
   have hm:(43:UInt8)∈v.data.toList:=List.mem_of_mem_head? (by rw [hh.2];rfl);exact (digit_of (hd _ hm)).2.1 rfl
  simp only [hp]
 ·have hc:Frm.counts false false false vs=none:=by
   unfold Frm.counts;rw [if_neg (by simp [h1]),if_neg Bool.false_ne_true]
  rw [hc] at h
  exact absurd (show (400:Int)=0 from h) (by decide)
theorem wins_wide {minor:Int} {nte ncl:Nat} {cod:Bool} (h:(Frm.winsV false false false false minor nte ncl cod).2=0) (td ti tw lw cod':Bool) (hc:cod=true->cod'=true) :
 Frm.winsV td ti tw lw minor nte ncl cod'=Frm.winsV false false false false minor nte ncl cod:=by
 unfold Frm.winsV at h ⊢;by_cases h0:nte=0
 ·simp only [if_pos h0]
 simp only [if_neg h0] at h ⊢;by_cases h1:minor=0
 ·rw [if_pos (by simp [h1])] at h
  exact absurd (show (400:Int)=0 from h) (by decide)
 have hm:∀td:Bool,¬(decide (minor=0) && !td)=true:=λtd=>by simp [h1]
 simp only [if_neg (hm _)] at h ⊢;cases cod with
 | false=>exact absurd (show (501:Int)=0 from h) (by decide)
 | true=>
   rw [hc rfl];by_cases h2:0<ncl
   ·simp [h2] at h
   ·simp [h2]
theorem hosts_wide {minor:Int} {hs:List ByteArray} (h:Frm.hostsV false false minor hs=0) (nh mh:Bool):Frm.hostsV nh mh minor hs=0:=by
 unfold Frm.hostsV at h ⊢;split at h
 ·exact absurd h (by decide)
 ·rename_i h1;rw [AB,not_or,Bool.not_false,Bool.and_true,Bool.and_true] at h1;rw [if_neg]
  ·exact h
  ·rw [AB,not_or];constructor
   ·intro hh;exact h1.1 (by cases nh<;>simp_all)
   ·intro hh;exact h1.2 (by cases mh<;>simp_all)
theorem decide_wide {ch:Bool} {body minor:Int} {fs:List Fld} (h:(Bs (Frm.clOf 0) ch body minor fs).2.2=0) (p:Nat) :
 Bs (Frm.clOf p) ch body minor fs=Bs (Frm.clOf 0) ch body minor fs:=by
 have e0:Frm.clOf 0=⟨false,false,false,false,false,false,false,false,false,false,false,false⟩:=by simp only [Frm.clOf,none0]
 rw [e0] at h ⊢;generalize Frm.clOf p=c;obtain ⟨nh,mh,tb,tl,ti,td,tw,lw,lp,lc,lf,ll⟩:=c;unfold Bs at h ⊢;simp only at h ⊢;unfold Frm.bodyV at h ⊢;by_cases h1:Frm.hostsV false false minor (find fs Frm.hostN)=0
 ·have h1':=hosts_wide h1 nh mh;rw [h1] at h ⊢;rw [h1'];simp only [ne_eq,not_true_eq_false,if_false] at h ⊢;by_cases h2:(Frm.winsV false false false false minor (find fs Frm.teN).length (find fs Frm.clN).length (Frm.coding false false (find fs Frm.teN))).2=0
  ·have h2':=wins_wide h2 td ti tw lw (Frm.coding tb tl (find fs Frm.teN)) (λhc=>coding_wide hc tb tl);rw [h2'];simp only [h2,not_true_eq_false,if_false] at h ⊢;by_cases h3:(Frm.winsV false false false false minor (find fs Frm.teN).length (find fs Frm.clN).length (Frm.coding false false (find fs Frm.teN))).1=true
   ·simp only [if_pos h3]
   ·simp only [if_neg h3] at h ⊢;have h4:(Frm.lengthV false false false false body (find fs Frm.clN)).2=0:=by
     unfold Frm.fixedV at h;split at h
     ·assumption
     ·rename_i hn;exact absurd h hn
    rw [length_wide h4 lp lc lf ll]
  ·simp only [h2,not_false_eq_true,if_true] at h
 ·rw [if_pos h1] at h;exact absurd h h1
theorem piece_wide {z:List UInt8} (h:∀x∈z,Num.digitOf 16 x=true) (hex blanks:Bool):Chk.pieceL hex blanks z=z:=by
 have h1:trimL He z=z:=trimL_none λx hx=>(hex_of (h x hx)).2;have h2:Chk.bare z=z:=by
  unfold Chk.bare;rw [if_neg];intro hm;unfold Chk.marked at hm;rw [As,decide_eq_true_eq] at hm;obtain ⟨hl,hs⟩:=hm
  match z,hl with
  | a::b::r,_=>
    have hs2:low [a,b]= [48,120]:=(beq_iff_eq.1 hs).trans (by decide +kernel);have hb:lowB b=120:=by simpa [low] using (List.cons.inj (List.cons.inj hs2).2).1
    exact (hex_of (h b (by simp))).1 hb
 unfold Chk.pieceL;cases hex<;>cases blanks<;>simp [h1,h2]
theorem chk_digits {r:Int × Int} (h:(Chk.numV r).2=0):r.2≠22:=by
 intro e;unfold Chk.numV at h;rw [if_pos e] at h
 exact absurd h (by decide)
theorem size_wide {ext body:Int} {l:List UInt8} (h:(AK false false ext body l).2=0) (hex blanks:Bool):AK hex blanks ext body l=AK false false ext body l:=by
 unfold AK at h ⊢;split at h
 ·rename_i h1;rw [if_pos h1,if_pos h1]
  have hd:∀x∈(Tgt.cutAt 59 l).1,Num.digitOf 16 x=true:=read_digits (chk_digits h);unfold Chk.sizeL;rw [piece_wide hd,piece_wide hd]
 ·exact absurd h (by decide)
theorem field_wide {lines:Nat} {l l':List Fld} {s:List UInt8} {most:Int} (h:fieldV 0 lines l s most=.inr l') (p:Nat):fieldV p lines l s most=.inr l':=by
 unfold fieldV at h ⊢
 by_cases h1:most<((lines+1:Nat):Int)
 ·rw [if_pos h1] at h;cases h
 simp only [if_neg h1] at h ⊢;have hg:Fd.goes 0 s=false:=by unfold Fd.goes;rw [none0,Az]
 rw [if_neg (by rw [hg,Az];exact Bool.false_ne_true)] at h;rw [Fd.clOf_zero] at h;rcases Fd.parse_zero s with h2 | ⟨n,v,h2⟩
 ·rw [h2] at h;cases h
 ·rw [h2] at h;have hs:=Fd.parse_strict h2;have hg2:Fd.goes p s=false:=by
   have hb:(!s.isEmpty&&He (s.headD 0))=false:=by
    rcases Tgt.cut_cases 58 s with e | ⟨a,r,e,hn⟩
    ·rw [Tgt.cutAt_none 58 s e] at hs
     exact absurd (show false=true from hs.1) (by decide)
    ·rw [e,Tgt.cutAt_app 58 a r hn] at hs;obtain ⟨-,e1, -,e2,e3, -⟩:=hs;have e4:a=n:=e1;rw [e];rw [←e4] at e2 e3
     match a,e2,e3 with
     | y::t,_,e3=>
       have:=(Fd.token_of (Fd.all_of e3 y (by simp))).2.2.2;simp [this]
   unfold Fd.goes;rw [hb,Au]
  rw [if_neg (by rw [hg2,Az];exact Bool.false_ne_true),(Fd.parse_all h2).1 (Fd.clOf p)];exact h
def wideM (p:Nat) (m:Ln.M):Ln.M:={m with lf:=Ei p 1,cr:=Ei p 2}
def T.wide (p:Nat) (t:T):T:={t with rd:=wideM p t.rd}
structure T.Strict (t:T):Prop where
 lf:t.rd.lf=false
 cr:t.rd.cr=false
theorem decide_codes (ch:Bool) (body minor:Int) (fs:List Fld) (c:Frm.Cl):0<=(Bs c ch body minor fs).2.2:=by
 unfold Bs Frm.bodyV;split
 ·unfold Frm.hostsV;split
  ·decide
  ·split<;>decide
 ·split
  ·unfold Frm.winsV
   repeat' split
   all_goals decide
  ·split
   ·split<;>decide
   ·unfold Frm.fixedV;split
    ·exact Int.le_refl _
    ·show 0<=(Frm.lengthV c.lp c.lc c.lf c.ll body (find fs Frm.clN)).2;unfold Frm.lengthV;split
     ·decide
     ·split
      ·decide
      ·unfold Frm.numV;split
       ·decide
       ·split
        ·decide
        ·exact Int.le_refl _
theorem decide_pos {ch:Bool} {body minor:Int} {fs:List Fld} {c:Frm.Cl} {d:Int × Int × Int} (hd:d=Bs c ch body minor fs) (h1:d.2.2≠0):d.2.2.toNat≠0:=by have:=decide_codes ch body minor fs c;rw [←hd] at this;omega
theorem size_pos {hex blanks:Bool} {ext body:Int} {l:List UInt8} {z:Int × Int} (hz:z=AK hex blanks ext body l) (h1:z.2≠0):z.2.toNat≠0:=by
 have:0<=(AK hex blanks ext body l).2:=by
  unfold AK;split
  ·unfold Chk.numV;split
   ·decide
   ·split
    ·decide
    ·exact Int.le_refl _
  ·decide
 rw [←hz] at this;omega
section
variable {p:Nat} {b:Bd} {t t2:T} {s:List UInt8} {c:UInt8}
theorem of_strict (most:Int):(Ln.M.of 0 most).lf=false/\(Ln.M.of 0 most).cr=false:=⟨none0 1,none0 2⟩
theorem next_wide (m:Ln.M) (hl:m.lf=false) (hc:m.cr=false) (c:UInt8) (h:m.next c≠3):(wideM p m).next c=m.next c/\m.next c≠2:=by
 obtain ⟨lf,cr,most,buf,last,pend⟩:=m;obtain rfl:lf=false:=hl;obtain rfl:cr=false:=hc;unfold Ln.M.next at h ⊢;simp only [wideM] at h ⊢;by_cases h1:Ln.failed last=true
 ·rw [if_pos h1] at h;exact absurd rfl h
 ·have h1':Ln.failed last=false:=by simpa using h1
  simp only [h1',A4,if_false] at h ⊢;cases pend with
  | true=>
    by_cases h2:c=10
    ·subst h2;exact ⟨rfl,λe=>absurd (show (1:Int)=2 from e) (by decide)⟩
    ·simp [h2] at h
  | false=>
    by_cases h2:c=10
    ·simp [h2] at h
    ·simp only [A4,if_false,if_neg h2];refine ⟨rfl,?_⟩;split
     ·decide
     ·split<;>decide
theorem byte_wide (m:Ln.M) (hl:m.lf=false) (hc:m.cr=false) (c:UInt8) (h:m.clear.next c≠3):(wideM p m).byte c=wideM p (m.byte c):=by have h1:=(next_wide (p:=p) m.clear hl hc c h).1;have e1:(wideM p m).clear=wideM p m.clear:=rfl;unfold Ln.M.byte;rw [e1,h1];rfl
theorem first_wide (h:(t.first 0 b s).1=0) (ht:t.Strict):(t.wide p).first p b s=(0,(t.first 0 b s).2.wide p)/\(t.first 0 b s).2.Strict:=by
 unfold T.first at h ⊢;by_cases h0:s= []
 ·rw [if_pos h0,none0] at h
  exact absurd (show (400:Nat)=0 from h) (by decide)
 ·rw [if_neg h0] at h ⊢;rw [if_neg h0];obtain ⟨m,x,k,e,hq⟩:∃m x k e,Rq.request (Rq.clOf 0) b.od s=(m,x,k,e):=⟨_,_,_,_,rfl⟩;rw [hq] at h ⊢;simp only at h ⊢;by_cases he:e=0
  ·subst he;rw [Rq.clOf_zero] at hq;rw [(Rq.extends_all hq).1 (Rq.clOf p)];exact ⟨rfl,ht.lf,ht.cr⟩
  ·rw [if_neg he] at h;exact absurd h he
theorem fin_wide (ht:t.Strict):(t.wide p).fin=t.fin.wide p/\t.fin.Strict:=⟨rfl,ht.lf,ht.cr⟩
theorem enter_wide (st:Nat) (most:Int):(t.wide p).enter p st most=(t.enter 0 st most).wide p/\(t.enter 0 st most).Strict:=⟨rfl,(of_strict most).1,(of_strict most).2⟩
theorem endHead_wide (h:(t.endHead 0 b).1=0) (hn:∀d:Int × Int × Int,d=Bs (Frm.clOf 0) b.ch b.x3 t.r.k t.r.fs->d.2.2≠0->d.2.2.toNat≠0) (ht:t.Strict) :
 (t.wide p).endHead p b=(0,(t.endHead 0 b).2.wide p)/\(t.endHead 0 b).2.Strict:=by
 unfold T.endHead at h ⊢;have hd:Bs (Frm.clOf p) b.ch b.x3 (t.wide p).r.k (t.wide p).r.fs=Bs (Frm.clOf p) b.ch b.x3 t.r.k t.r.fs:=rfl;rw [hd];by_cases h1:(Bs (Frm.clOf 0) b.ch b.x3 t.r.k t.r.fs).2.2=0
 ·rw [decide_wide h1 p];generalize Bs (Frm.clOf 0) b.ch b.x3 t.r.k t.r.fs=d at h h1 ⊢;simp only [ne_eq,h1,not_true_eq_false,if_false];by_cases h2:d.1=2
  ·simp only [if_pos h2];exact ⟨rfl,ht.lf,ht.cr⟩
  ·simp only [if_neg h2];by_cases h3:d.2.1=0
   ·simp only [if_pos h3];exact ⟨rfl,ht.lf,ht.cr⟩
   ·simp only [if_neg h3];exact ⟨rfl,ht.lf,ht.cr⟩
 ·have:=hn _ rfl h1;simp only [ne_eq,h1,not_false_eq_true,if_true] at h;exact absurd h this
theorem fields_wide (h:(t.fields 0 b s).1=0) (hn:∀d:Int × Int × Int,d=Bs (Frm.clOf 0) b.ch b.x3 t.r.k t.r.fs->d.2.2≠0->d.2.2.toNat≠0) (ht:t.Strict) :
 (t.wide p).fields p b s=(0,(t.fields 0 b s).2.wide p)/\(t.fields 0 b s).2.Strict:=by
 unfold T.fields at h ⊢;by_cases h0:s= []
 ·rw [if_pos h0] at h ⊢;rw [if_pos h0];exact endHead_wide h hn ht
 ·rw [if_neg h0] at h ⊢;rw [if_neg h0];obtain ⟨l,hl⟩:=listE_zero h λe he=>fieldV_err he;have hl':fieldV p t.hl t.r.fs s b.x1=.inr l:=field_wide hl p;have e1:fieldV p (t.wide p).hl (t.wide p).r.fs s b.x1=.inr l:=hl';rw [e1,hl];exact ⟨rfl,ht.lf,ht.cr⟩
theorem trail_wide (h:(t.trail 0 b s).1=0) (ht:t.Strict):(t.wide p).trail p b s=(0,(t.trail 0 b s).2.wide p)/\(t.trail 0 b s).2.Strict:=by
 unfold T.trail at h ⊢;by_cases h0:s= []
 ·rw [if_pos h0,if_pos h0];exact ⟨rfl,ht.lf,ht.cr⟩
 ·rw [if_neg h0] at h ⊢;rw [if_neg h0];obtain ⟨l,hl⟩:=listE_zero h λe he=>fieldV_err he;have e1:fieldV p (t.wide p).bl (t.wide p).r.ts s b.x5=.inr l:=field_wide hl p;rw [e1,hl];exact ⟨rfl,ht.lf,ht.cr⟩
theorem chunk_wide (h:(t.chunk 0 b s).1=0) (hn:∀z:Int × Int,z=AK false false b.x4 b.x3 s->z.2≠0->z.2.toNat≠0) (ht:t.Strict) :
 (t.wide p).chunk p b s=(0,(t.chunk 0 b s).2.wide p)/\(t.chunk 0 b s).2.Strict:=by
 unfold T.chunk at h ⊢;rw [none0,none0] at h ⊢;by_cases h1:(AK false false b.x4 b.x3 s).2=0
 ·rw [size_wide h1 (Ei p 27) (Ei p 28)];have hb:(t.wide p).r.body=t.r.body:=rfl;rw [hb];generalize AK false false b.x4 b.x3 s=z at h h1 ⊢;simp only [ne_eq,h1,not_true_eq_false,if_false] at h ⊢;by_cases h2:z.1=0
  ·simp only [if_pos h2];exact ⟨rfl,ht.lf,ht.cr⟩
  ·simp only [if_neg h2] at h ⊢;by_cases h3:b.x3-(t.r.body.length:Int)<z.1
   ·simp only [if_pos h3] at h
    exact absurd h (by decide)
   ·simp only [if_neg h3];exact ⟨rfl,ht.lf,ht.cr⟩
 ·have:=hn _ rfl h1;simp only [ne_eq,h1,not_false_eq_true,if_true] at h;exact absurd h this
theorem line_wide (h:(t.line 0 b s).1=0) (ht:t.Strict):(t.wide p).line p b s=(0,(t.line 0 b s).2.wide p)/\(t.line 0 b s).2.Strict:=by
 unfold T.line at h ⊢;have e:(t.wide p).st=t.st:=rfl;rw [e];by_cases h1:t.st=1
 ·simp only [if_pos h1] at h ⊢;exact first_wide h ht
 simp only [if_neg h1] at h ⊢;by_cases h2:t.st=2
 ·simp only [if_pos h2] at h ⊢;exact fields_wide h (λd hd hn=>decide_pos hd hn) ht
 simp only [if_neg h2] at h ⊢;by_cases h3:t.st=4
 ·simp only [if_pos h3] at h ⊢;exact chunk_wide h (λz hz hn=>size_pos hz hn) ht
 simp only [if_neg h3] at h ⊢;by_cases h4:t.st=7
 ·simp only [if_pos h4] at h ⊢;exact trail_wide h ht
 simp only [if_neg h4] at h ⊢;exact ⟨rfl,(enter_wide (p:=p) (t:=t) 4 b.x0).2⟩
theorem inLine_wide {u:Bool} (h:t.inLine 0 b c=(.live t2,u)) (ht:t.Strict):(t.wide p).inLine p b c=(.live (t2.wide p),u)/\t2.Strict:=by
 unfold T.inLine at h ⊢;have e1:(t.wide p).rd.clear=wideM p t.rd.clear:=rfl;have e2:(t.wide p).rd=wideM p t.rd:=rfl;by_cases h3:t.rd.clear.next c=3
 ·rw [h3] at h
  exact absurd (congrArg Prod.fst h) (by simp)
 obtain ⟨h1,h2⟩:=next_wide (p:=p) t.rd.clear ht.lf ht.cr c h3;have hb:=byte_wide (p:=p) t.rd ht.lf ht.cr c h3;rw [e1,e2,h1,hb];generalize hn:t.rd.clear.next c=n at h h1 h2 h3 ⊢;simp only at h ⊢;by_cases h0:n=0
 ·simp only [if_pos h0] at h ⊢;obtain ⟨rfl,rfl⟩:({t with rd:=t.rd.byte c}:T)=t2/\true=u:=by simpa using h
  exact ⟨rfl,ht.lf,ht.cr⟩
 simp only [if_neg h0,if_neg h3] at h ⊢;by_cases h4:n=4
 ·simp only [if_pos h4,none0,Au,A4,if_false] at h
  exact absurd (congrArg Prod.fst h) (by simp)
 simp only [if_neg h4] at h ⊢;have hl:(wideM p (t.rd.byte c)).line=(t.rd.byte c).line:=rfl;rw [hl];have e5:({t.wide p with rd:=wideM p (t.rd.byte c)}:T)=({t with rd:=t.rd.byte c}:T).wide p:=rfl;rw [e5];have hs:({t with rd:=t.rd.byte c}:T).Strict:=⟨ht.lf,ht.cr⟩;generalize ({t with rd:=t.rd.byte c}:T)=t1 at h hs ⊢;generalize (t.rd.byte c).line=s at h ⊢;obtain ⟨hq,rfl⟩:=Prod.mk.inj h;by_cases hz:(t1.line 0 b s).1=0
 ·obtain ⟨k1,k2⟩:=line_wide (p:=p) hz hs;rw [k1];unfold ends at hq ⊢;rw [if_pos hz] at hq;obtain rfl:(t1.line 0 b s).2=t2:=by simpa using hq
  exact ⟨rfl,k2⟩
 ·unfold ends at hq;rw [if_neg hz] at hq;cases hq
theorem counted_wide:(t.wide p).counted=t.counted.wide p:=by unfold T.counted;have e:(t.wide p).cnt=t.cnt:=rfl;rw [e];cases t.cnt<;>rfl
theorem endData_wide (ht:t.Strict):(t.wide p).endData p=(t.endData 0).wide p/\(t.endData 0).Strict:=by
 unfold T.endData;have e:(t.wide p).r.ch=t.r.ch:=rfl;rw [e];cases t.r.ch with
 | true=>exact enter_wide 6 0
 | false=>exact fin_wide ht
theorem look_wide {u:Bool} (h:t.look 0 b c=(.live t2,u)) (ht:t.Strict):(t.wide p).look p b c=(.live (t2.wide p),u)/\t2.Strict:=by
 unfold T.look at h ⊢;have e:(t.wide p).st=t.st:=rfl;have e2:(t.wide p).left=t.left:=rfl;have e3:(t.wide p).keep c=(t.keep c).wide p:=rfl;rw [e,e2,e3];by_cases h1:bodied t.st=true
 ·simp only [if_pos h1] at h ⊢;have hk:(t.keep c).Strict:=⟨ht.lf,ht.cr⟩;by_cases h2:t.left=1
  ·simp only [if_pos h2] at h ⊢;obtain ⟨rfl,rfl⟩:(t.keep c).endData 0=t2/\true=u:=by simpa using h
   rw [(endData_wide (p:=p) hk).1];exact ⟨rfl,(endData_wide (p:=p) hk).2⟩
  ·simp only [if_neg h2] at h ⊢;obtain ⟨rfl,rfl⟩:t.keep c=t2/\true=u:=by simpa using h
   exact ⟨rfl,hk⟩
 ·simp only [if_neg h1] at h ⊢;by_cases h2:headed t.st=true
  ·simp only [if_pos h2] at h ⊢;rw [counted_wide];have e4:(t.counted.wide p).size=t.counted.size:=rfl;rw [e4]
   by_cases h3:b.x2<(t.counted.size:Int)
   ·simp only [if_pos h3] at h
    exact absurd (congrArg Prod.fst h) (by simp)
   ·simp only [if_neg h3] at h ⊢;exact inLine_wide h ⟨by rw [counted_rd];exact ht.lf,by rw [counted_rd];exact ht.cr⟩
  ·simp only [if_neg h2] at h ⊢;exact inLine_wide h ht
theorem take_wide (h:t.take 0 b c=.live t2) (ht:t.Strict):(t.wide p).take p b c=.live (t2.wide p)/\t2.Strict:=by
 unfold T.take at h ⊢;have e:({t.wide p with cnt:=false}:T)=({t with cnt:=false}:T).wide p:=rfl;have hs:({t with cnt:=false}:T).Strict:=⟨ht.lf,ht.cr⟩;rw [e];generalize ({t with cnt:=false}:T)=t0 at h hs ⊢;rcases hq:t0.look 0 b c with ⟨q,u⟩;rw [hq] at h;cases q with
 | dead e o=>cases u<;>cases h
 | live t1=>
   obtain ⟨k1,k2⟩:=look_wide (p:=p) hq hs;rw [k1];cases u with
   | true=>
     obtain rfl:t1=t2:=by simpa using h
     exact ⟨rfl,k2⟩
   | false=>
     simp only at h ⊢;rcases hq2:t1.look 0 b c with ⟨q2,u2⟩;rw [hq2] at h;simp only at h;subst h;obtain ⟨k3,k4⟩:=look_wide (p:=p) hq2 k2;rw [k3];exact ⟨rfl,k4⟩
theorem new_wide:T.new p b=(T.new 0 b).wide p/\(T.new 0 b).Strict:=⟨rfl,none0 1,none0 2⟩
end
end Go.Proofs.YtnabkcglnbdfeaaGreatDoor.Pg
namespace Go.Proofs.YtnabkcglnbdfeaaGreatDoor.Pg
open Go.RowKit Base Txt Par
structure RelW (m:Ln.M) (q:Ln.R):Prop where
 lf:q.lf=m.lf
 cr:q.cr=m.cr
 most:q.most=m.most
 dead:q.dead=false
 CR:q.CR=m.pend
 B:q.B=if Ln.ended m.last then [] else m.buf
structure Fresh (m:Ln.M):Prop where
 buf:(if Ln.ended m.last then [] else m.buf)= []
 pend:m.pend=false
theorem RelW.step {m:Ln.M} {q:Ln.R} (h:RelW m q) (hm:m.Ok) (hf:Ln.failed m.last=false) (c:UInt8) :
 q.how c=m.clear.next c/\(Ln.failed (m.clear.next c)=false->RelW (m.byte c) (q.byte c)/\(q.byte c).L=(m.byte c).line):=by
 have hr:Ln.Rel m {q with L:=m.line}:=⟨h.lf,h.cr,h.most,h.dead.trans hf.symm,rfl,λ_=>h.CR,λ_=>h.B⟩;have h1:=Ln.step_how hr hm c;have h2:=Ln.step_rel hr hm c;have e:({q with L:=m.line}:Ln.R).byte c=q.byte c:=by simp [Ln.R.byte,Ln.R.start,Ln.R.fin,Ln.R.die,h.dead]
 rw [e] at h2;refine ⟨h1,λhn=>?_⟩;exact ⟨⟨h2.lf,h2.cr,h2.most,h2.dead.trans hn,h2.CR hn,h2.B hn⟩,h2.L⟩
theorem Fresh.isNew {t:T} (h:Fresh t.rd):t.isNew=true:=by
 have h1:t.rd.len=0:=by
  have:=congrArg List.length h.buf;unfold Ln.M.len;split
  ·rfl
  ·rename_i hn;rw [if_neg hn] at this;exact this
 unfold T.isNew;rw [h1,h.pend];rfl
structure R0 (p:Nat) (b:Bd) (t:T) (s:S):Prop where
 e:s.e=0
 st:t.st=s.st+1
 r:s.r=t.r
 out:s.out=t.out
 head:s.head=t.size
 hl:s.st<=1->s.lines=t.hl
 bl:s.st=6->s.lines=t.bl
 bl0:s.st≠6->t.bl=0
 left:DY s.st=true->s.left=t.left
 rd:DY s.st=false->RelW t.rd s.rd
 fr:DY s.st=true->Fresh t.rd
 lf:t.rd.lf=Ei p 1
 cr:t.rd.cr=Ei p 2
 most:s.st≠5->t.rd.most=Ln.mid b.x0
 beh:s.st=5->t.r.body≠ []
 ch:t.r.ch=decide (3<=s.st)
structure RR (p:Nat) (b:Bd) (t:T) (s:S):Prop extends R0 p b t s where
 fresh:s.fresh=t.next
 clean:s.clean=(t.st==1&&t.isNew)
def RQ (p:Nat) (b:Bd):Q->S->Prop
 | .live t,s=>RR p b t s
 | .dead e o,s=>s.e=e/\e≠0/\s.out=o/\s.clean=false
section
variable {p:Nat} {b:Bd} {t:T} {s:S}
theorem Fresh.nl {m:Ln.M} (h:Fresh m) (hl:m.lf=Ei p 1) (hc:m.cr=Ei p 2) (hm:m.most=Ln.mid b.x0):RelW m (nl p b.x0):=
 ⟨hl.symm,hc.symm,hm.symm,rfl,h.pend.symm,h.buf.symm⟩
theorem fresh_of (most:Int):Fresh (Ln.M.of p most):=⟨rfl,rfl⟩
theorem next_st (h3:t.st≠3) (h4:t.st≠4):t.next=false:=by unfold T.next;rw [beq_eq_false_iff_ne.2 h3,beq_eq_false_iff_ne.2 h4];rfl
theorem next_body (h:t.r.body≠ []):t.next=false:=by
 unfold T.next;have:t.r.body.isEmpty=false:=by
  cases hb:t.r.body with
  | nil=>exact absurd hb h
  | cons _ _=>rfl
 rw [this,Az,Au]
theorem clean_st (h:t.st≠1):(t.st==1&&t.isNew)=false:=by rw [beq_eq_false_iff_ne.2 h];rfl
theorem ends_err {e:Nat} {t:T} (he:e≠0):ends (e,t)=.dead e t.out:=if_neg he
theorem fail_sim {e:Nat} (h:R0 p b t s) (he:e≠0):RQ p b (.dead e t.out) (s.fail e):=⟨rfl,he,h.out,rfl⟩
theorem bod (h:R0 p b t s):Pg.bodied t.st=DY s.st:=by
 rw [h.st];unfold Pg.bodied DY;have e1:(s.st+1==3)=(s.st==2):=by rw [Ay,beq_iff_eq,beq_iff_eq];omega
 have e2:(s.st+1==5)=(s.st==4):=by rw [Ay,beq_iff_eq,beq_iff_eq];omega
 rw [e1,e2]
theorem hed (h:R0 p b t s):Pg.headed t.st=Par.headed s.st:=by
 rw [h.st];unfold Pg.headed Par.headed;have e1:(s.st+1==1)=(s.st==0):=by rw [Ay,beq_iff_eq,beq_iff_eq];omega
 have e2:(s.st+1==2)=(s.st==1):=by rw [Ay,beq_iff_eq,beq_iff_eq];omega
 have e3:(s.st+1==7)=(s.st==6):=by rw [Ay,beq_iff_eq,beq_iff_eq];omega
 rw [e1,e2,e3]
theorem long_sim (h:R0 p b t s):Pg.longE t.st=Par.longE s.st/\Par.longE s.st≠0:=by
 rw [h.st];unfold Pg.longE Par.longE Par.headed;by_cases h0:s.st=0
 ·simp [h0]
 ·by_cases h1:s.st=1
  ·simp [h1]
  ·by_cases h6:s.st=6
   ·simp [h6]
   ·rw [if_neg (by omega),if_neg (by omega),if_neg h0,if_neg (by simp [h0,h1,h6])];decide
theorem whole_sim (h:R0 p b t s) (hf:Fresh t.rd) (h5:s.st≠5):RR p b t.fin (s.whole p b) where
 e:=h.e
 st:=rfl
 r:=rfl
 out:=by show s.out ++ [s.r]=t.out ++ [t.r];rw [h.out,h.r]
 head:=rfl
 hl:=λ_=>rfl
 bl:=λe=>absurd e (by show (0:Nat)≠6;decide)
 bl0:=λ_=>rfl
 left:=λe=>absurd e (by show DY 0≠true;decide)
 rd:=λ_=>hf.nl h.lf h.cr (h.most h5)
 fr:=λe=>absurd e (by show DY 0≠true;decide)
 lf:=h.lf
 cr:=h.cr
 most:=λ_=>h.most h5
 beh:=λe=>absurd e (by show (0:Nat)≠5;decide)
 ch:=rfl
 fresh:=(next_st (t:=t.fin) (by show (1:Nat)≠3;decide) (by show (1:Nat)≠4;decide)).symm
 clean:=by
  have:t.fin.isNew=true:=Fresh.isNew (t:=t.fin) hf
  show true=((1:Nat)==1&&t.fin.isNew);rw [this];rfl
theorem first_sim (h:R0 p b t s) (hf:Fresh t.rd) (hc:s.clean=false) (hfr:s.fresh=false) (hs:s.st=0) (ln:List UInt8):RQ p b (ends (t.first p b ln)) (s.first p b ln):=by
 have ht:t.st=1:=by rw [h.st,hs]
 unfold T.first S.first;by_cases h0:ln= []
 ·simp only [if_pos h0];cases hq:Ei p 0 with
  | true=>
    simp only [if_true]
    exact {h with
     fresh:=hfr.trans (next_st (t:=t) (by omega) (by omega)).symm
     clean:=by
      show true= _
      rw [hf.isNew,ht];rfl}
  | false=>
    simp only [A4,if_false];rw [ends_err (by decide)]
    exact fail_sim h (by decide)
 ·simp only [if_neg h0];generalize Rq.request (Rq.clOf p) b.od ln=q;by_cases hq:q.2.2.2=0
  ·simp only [hq,if_true,ne_eq,not_true_eq_false,if_false];show RR p b _ _
   exact {
    e:=h.e
    st:=rfl
    r:=by show ({s.r with m:=ba q.1,x:=ba q.2.1,k:=(q.2.2.1:Int)}:Eo)={t.r with m:=ba q.1,x:=ba q.2.1,k:=(q.2.2.1:Int)};rw [h.r]
    out:=h.out
    head:=h.head
    hl:=λ_=>h.hl (by omega)
    bl:=λe=>absurd e (by show (1:Nat)≠6;decide)
    bl0:=λ_=>h.bl0 (by omega)
    left:=λe=>absurd e (by show DY 1≠true;decide)
    rd:=λ_=>h.rd (by rw [hs];rfl)
    fr:=λe=>absurd e (by show DY 1≠true;decide)
    lf:=h.lf
    cr:=h.cr
    most:=λ_=>h.most (by omega)
    beh:=λe=>absurd e (by show (1:Nat)≠5;decide)
    ch:=by show t.r.ch=decide (3<=1);rw [h.ch,hs];rfl
    fresh:=hfr.trans (next_st (t:={t with r:={t.r with m:=ba q.1,x:=ba q.2.1,k:=(q.2.2.1:Int)},st:=2}) (by show (2:Nat)≠3;decide) (by show (2:Nat)≠4;decide)).symm
    clean:=hc}
  ·rw [if_neg hq,if_pos hq,ends_err hq];exact fail_sim h hq
theorem over_sim (h:R0 p b t s) (ok:t.Ok) (hf:Fresh t.rd) (hc:s.clean=false) (hs:s.st=1):RQ p b (ends (t.endHead p b)) (s.over p b):=by
 have ht:t.st=2:=by rw [h.st,hs]
 have hbody:t.r.body= []:=ok.early (by omega);have hnew:=hf.isNew;unfold T.endHead S.over;rw [h.r];have hp:=λh1=>decide_pos (d:=Bs (Frm.clOf p) b.ch b.x3 t.r.k t.r.fs) rfl h1;generalize Bs (Frm.clOf p) b.ch b.x3 t.r.k t.r.fs=d at hp ⊢;by_cases h1:d.2.2=0
 ·simp only [h1,ne_eq,not_true_eq_false,if_false];by_cases h2:d.1=2
  ·simp only [if_pos h2];show RR p b _ _
   exact {
    e:=h.e
    st:=rfl
    r:=rfl
    out:=h.out
    head:=h.head
    hl:=λe=>absurd e (by show¬(3:Nat)<=1;decide)
    bl:=λe=>absurd e (by show (3:Nat)≠6;decide)
    bl0:=λ_=>h.bl0 (by omega)
    left:=λe=>absurd e (by show DY 3≠true;decide)
    rd:=λ_=>hf.nl h.lf h.cr (h.most (by omega))
    fr:=λe=>absurd e (by show DY 3≠true;decide)
    lf:=h.lf
    cr:=h.cr
    most:=λ_=>h.most (by omega)
    beh:=λe=>absurd e (by show (3:Nat)≠5;decide)
    ch:=rfl
    fresh:=by show true=(((4:Nat)==3|| (4:Nat)==4)&&(t.r.body.isEmpty&&t.isNew));rw [hbody,hnew];rfl
    clean:=hc.trans (clean_st (t:={t with r:={t.r with ch:=true},st:=4}) (by show (4:Nat)≠1;decide)).symm}
  ·simp only [if_neg h2];by_cases h3:d.2.1=0
   ·simp only [if_pos h3]
    exact whole_sim h hf (by omega)
   ·simp only [if_neg h3];show RR p b _ _
    exact {
     e:=h.e
     st:=rfl
     r:=rfl
     out:=h.out
     head:=h.head
     hl:=λe=>absurd e (by show¬(2:Nat)<=1;decide)
     bl:=λe=>absurd e (by show (2:Nat)≠6;decide)
     bl0:=λ_=>h.bl0 (by omega)
     left:=λ_=>rfl
     rd:=λe=>absurd e (by show DY 2≠false;decide)
     fr:=λ_=>hf
     lf:=h.lf
     cr:=h.cr
     most:=λ_=>h.most (by omega)
     beh:=λe=>absurd e (by show (2:Nat)≠5;decide)
     ch:=by show t.r.ch=decide (3<=2);rw [h.ch,hs];rfl
     fresh:=by show true=(((3:Nat)==3|| (3:Nat)==4)&&(t.r.body.isEmpty&&t.isNew));rw [hbody,hnew];rfl
     clean:=hc.trans (clean_st (t:={t with left:=d.2.1.toNat,st:=3}) (by show (3:Nat)≠1;decide)).symm}
 ·simp only [ne_eq,h1,not_false_eq_true,if_true];rw [ends_err (hp h1)]
  exact fail_sim h (hp h1)
theorem XXy3C {P:Prop} (h:P:=by
 have he:e≠0:=by rcases fieldV_err hv with e1 | e1<;>rw [e1]<;>decide
 simp only [listE];rw [ends_err he]
 exact ⟨rfl,he,h.out,rfl⟩):P:=h
theorem fields_sim (h:R0 p b t s) (ok:t.Ok) (hf:Fresh t.rd) (hc:s.clean=false) (hfr:s.fresh=false) (hs:s.st=1) (ln:List UInt8):RQ p b (ends (t.fields p b ln)) (s.fields p b ln):=by
 have ht:t.st=2:=by rw [h.st,hs]
 unfold T.fields S.fields;by_cases h0:ln= []
 ·simp only [if_pos h0];exact over_sim h ok hf hc hs
 ·simp only [if_neg h0];rw [h.r,h.hl (by omega)];cases hv:fieldV p t.hl t.r.fs ln b.x1 with
  | inl e=>
    exact XXy3C
  | inr l=>
    show RR p b _ _
    exact {
     e:=h.e
     st:=h.st
     r:=rfl
     out:=h.out
     head:=h.head
     hl:=λ_=>rfl
     bl:=λe=>absurd e (by show s.st≠6;omega)
     bl0:=λ_=>h.bl0 (by omega)
     left:=λe=>absurd e (by show DY s.st≠true;rw [hs];decide)
     rd:=λ_=>h.rd (by rw [hs];rfl)
     fr:=λe=>absurd e (by show DY s.st≠true;rw [hs];decide)
     lf:=h.lf
     cr:=h.cr
     most:=λ_=>h.most (by omega)
     beh:=λe=>absurd e (by show s.st≠5;omega)
     ch:=h.ch
     fresh:=hfr.trans (next_st (t:={t with hl:=t.hl+1,r:={t.r with fs:=l}}) (by show t.st≠3;omega) (by show t.st≠4;omega)).symm
     clean:=hc.trans (clean_st (t:={t with hl:=t.hl+1,r:={t.r with fs:=l}}) (by show t.st≠1;omega)).symm}
theorem trail_sim (h:R0 p b t s) (hf:Fresh t.rd) (hc:s.clean=false) (hfr:s.fresh=false) (hs:s.st=6) (ln:List UInt8):RQ p b (ends (t.trail p b ln)) (s.trail p b ln):=by
 have ht:t.st=7:=by rw [h.st,hs]
 unfold T.trail S.trail;by_cases h0:ln= []
 ·simp only [if_pos h0]
  exact whole_sim h hf (by omega)
 ·simp only [if_neg h0];rw [h.r,h.bl hs];cases hv:fieldV p t.bl t.r.ts ln b.x5 with
  | inl e=>
    exact XXy3C
  | inr l=>
    show RR p b _ _
    exact {
     e:=h.e
     st:=h.st
     r:=rfl
     out:=h.out
     head:=h.head
     hl:=λe=>absurd e (by show¬s.st<=1;omega)
     bl:=λ_=>rfl
     bl0:=λe=>absurd hs e
     left:=λe=>absurd e (by show DY s.st≠true;rw [hs];decide)
     rd:=λ_=>h.rd (by rw [hs];rfl)
     fr:=λe=>absurd e (by show DY s.st≠true;rw [hs];decide)
     lf:=h.lf
     cr:=h.cr
     most:=λ_=>h.most (by omega)
     beh:=λe=>absurd e (by show s.st≠5;omega)
     ch:=h.ch
     fresh:=hfr.trans (next_st (t:={t with bl:=t.bl+1,r:={t.r with ts:=l}}) (by show t.st≠3;omega) (by show t.st≠4;omega)).symm
     clean:=hc.trans (clean_st (t:={t with bl:=t.bl+1,r:={t.r with ts:=l}}) (by show t.st≠1;omega)).symm}
theorem chunk_sim (h:R0 p b t s) (hf:Fresh t.rd) (hc:s.clean=false) (hfr:s.fresh=false) (hs:s.st=3) (ln:List UInt8):RQ p b (ends (t.chunk p b ln)) (s.chunk p b ln):=by
 have ht:t.st=4:=by rw [h.st,hs]
 unfold T.chunk S.chunk;rw [h.r];have hp:=λh1=>size_pos (z:=AK (Ei p 27) (Ei p 28) b.x4 b.x3 ln) rfl h1;generalize AK (Ei p 27) (Ei p 28) b.x4 b.x3 ln=z at hp ⊢;by_cases h1:z.2=0
 ·simp only [h1,ne_eq,not_true_eq_false,if_false];by_cases h2:z.1=0
  ·simp only [if_pos h2];show RR p b _ _
   exact {
    e:=h.e
    st:=rfl
    r:=rfl
    out:=h.out
    head:=h.head
    hl:=λe=>absurd e (by show¬(6:Nat)<=1;decide)
    bl:=λ_=>(h.bl0 (by omega)).symm
    bl0:=λe=>absurd rfl e
    left:=λe=>absurd e (by show DY 6≠true;decide)
    rd:=λ_=>hf.nl h.lf h.cr (h.most (by omega))
    fr:=λe=>absurd e (by show DY 6≠true;decide)
    lf:=h.lf
    cr:=h.cr
    most:=λ_=>h.most (by omega)
    beh:=λe=>absurd e (by show (6:Nat)≠5;decide)
    ch:=by show t.r.ch=decide (3<=6);rw [h.ch,hs];rfl
    fresh:=hfr.trans (next_st (t:={t with st:=7}) (by show (7:Nat)≠3;decide) (by show (7:Nat)≠4;decide)).symm
    clean:=hc.trans (clean_st (t:={t with st:=7}) (by show (7:Nat)≠1;decide)).symm}
  ·simp only [if_neg h2];by_cases h3:b.x3-(t.r.body.length:Int)<z.1
   ·simp only [if_pos h3];rw [ends_err (by decide)]
    exact fail_sim h (by decide)
   ·simp only [if_neg h3];show RR p b _ _
    exact {
     e:=h.e
     st:=rfl
     r:=rfl
     out:=h.out
     head:=h.head
     hl:=λe=>absurd e (by show¬(4:Nat)<=1;decide)
     bl:=λe=>absurd e (by show (4:Nat)≠6;decide)
     bl0:=λ_=>h.bl0 (by omega)
     left:=λ_=>rfl
     rd:=λe=>absurd e (by show DY 4≠false;decide)
     fr:=λ_=>hf
     lf:=h.lf
     cr:=h.cr
     most:=λ_=>h.most (by omega)
     beh:=λe=>absurd e (by show (4:Nat)≠5;decide)
     ch:=by show t.r.ch=decide (3<=4);rw [h.ch,hs];rfl
     fresh:=hfr.trans (next_st (t:={t with left:=z.1.toNat,st:=5}) (by show (5:Nat)≠3;decide) (by show (5:Nat)≠4;decide)).symm
     clean:=hc.trans (clean_st (t:={t with left:=z.1.toNat,st:=5}) (by show (5:Nat)≠1;decide)).symm}
 ·simp only [ne_eq,h1,not_false_eq_true,if_true];rw [ends_err (hp h1)]
  exact fail_sim h (hp h1)
theorem enter_sim (h:R0 p b t s) (hs:s.st=5):R0 p b (t.enter p 4 b.x0) {s with st:=3,rd:=nl p b.x0} where
 e:=h.e
 st:=rfl
 r:=h.r
 out:=h.out
 head:=h.head
 hl:=λe=>absurd e (by show¬(3:Nat)<=1;decide)
 bl:=λe=>absurd e (by show (3:Nat)≠6;decide)
 bl0:=λ_=>h.bl0 (by omega)
 left:=λe=>absurd e (by show DY 3≠true;decide)
 rd:=λ_=>(fresh_of b.x0).nl rfl rfl rfl
 fr:=λe=>absurd e (by show DY 3≠true;decide)
 lf:=rfl
 cr:=rfl
 most:=λ_=>rfl
 beh:=λe=>absurd e (by show (3:Nat)≠5;decide)
 ch:=by show t.r.ch=decide (3<=3);rw [h.ch,hs];rfl
theorem line_sim (h:R0 p b t s) (ok:t.Ok) (hf:Fresh t.rd) (hc:s.clean=false) (hfr:s.fresh=false) (hn:DY s.st=false) (ln:List UInt8):RQ p b (ends (t.line p b ln)) (s.ended p b ln):=by
 have h7:=ok.st;have ht:=h.st;have hn2:s.st≠2/\s.st≠4:=by constructor<;> (intro e;rw [e] at hn;exact absurd hn (by decide))
 have hcs:s.st=0∨s.st=1∨s.st=3∨s.st=5∨s.st=6:=by omega
 unfold T.line S.ended;rcases hcs with e | e | e | e | e
 ·rw [ht,e];exact first_sim h hf hc hfr e ln
 ·rw [ht,e];exact fields_sim h ok hf hc hfr e ln
 ·rw [ht,e];exact chunk_sim h hf hc hfr e ln
 ·rw [ht,e];have h1:=enter_sim h e;show RR p b (t.enter p 4 b.x0) {s with st:=3,rd:=nl p b.x0}
  exact {h1 with
   fresh:=hfr.trans (next_body (t:=t.enter p 4 b.x0) (h.beh e)).symm
   clean:=hc.trans (clean_st (t:=t.enter p 4 b.x0) (by show (4:Nat)≠1;decide)).symm}
 ·rw [ht,e];exact trail_sim h hf hc hfr e ln
theorem body_sim (h:R0 p b t s) (ok:t.Ok) (hc:s.clean=false) (hfr:s.fresh=false) (hn:DY s.st=true) (c:UInt8) :
 RR p b (if t.left=1 then (t.keep c).endData p else t.keep c) (s.bodyB p b c):=by
 have hst:s.st=2∨s.st=4:=by unfold DY at hn;simpa using hn
 have hl:1<=t.left:=ok.left (by rw [bod h];exact hn);have hle:=h.left hn;have hfr0:=h.fr hn;have hbd:(t.keep c).r.body≠ []:=by show t.r.body ++ [c]≠ [];simp
 have er:({s.r with body:=s.r.body ++ [c]}:Eo)={t.r with body:=t.r.body ++ [c]}:=by rw [h.r]
 have hk:R0 p b (t.keep c) {s with r:={s.r with body:=s.r.body ++ [c]},left:=s.left-1}:={
  e:=h.e
  st:=h.st
  r:=er
  out:=h.out
  head:=h.head
  hl:=h.hl
  bl:=h.bl
  bl0:=h.bl0
  left:=λ_=>by show s.left-1=t.left-1;rw [hle]
  rd:=λe=>h.rd e
  fr:=λ_=>hfr0
  lf:=h.lf
  cr:=h.cr
  most:=h.most
  beh:=λ_=>hbd
  ch:=h.ch}
 unfold S.bodyB;by_cases h1:1<s.left
 ·rw [if_neg (by omega)];simp only [if_pos h1]
  exact {hk with
   fresh:=hfr.trans (next_body hbd).symm
   clean:=hc.trans (clean_st (t:=t.keep c) (by show t.st≠1;have:=h.st;omega)).symm}
 ·rw [if_pos (by omega)];simp only [if_neg h1];unfold T.endData;have e2:(t.keep c).r.ch=t.r.ch:=rfl;rw [e2,h.ch];rcases hst with e | e
  ·simp only [e,Nat.reduceLeDiff,decide_false,A4,if_false,if_true]
   have:=whole_sim hk hfr0 (by show s.st≠5;omega);rw [e] at this;exact this
  ·simp only [e,Nat.reduceLeDiff,decide_true,if_true,Nat.reduceEqDiff,if_false]
   exact {
    e:=h.e
    st:=rfl
    r:=er
    out:=h.out
    head:=h.head
    hl:=λe=>absurd e (by show¬(5:Nat)<=1;decide)
    bl:=λe=>absurd e (by show (5:Nat)≠6;decide)
    bl0:=λ_=>h.bl0 (by omega)
    left:=λe=>absurd e (by show DY 5≠true;decide)
    rd:=λ_=>⟨rfl,rfl,rfl,rfl,rfl,rfl⟩
    fr:=λe=>absurd e (by show DY 5≠true;decide)
    lf:=rfl
    cr:=rfl
    most:=λe=>absurd rfl e
    beh:=λ_=>hbd
    ch:=by show t.r.ch=decide (3<=5);rw [h.ch,e];rfl
    fresh:=hfr.trans (next_st (t:=(t.keep c).enter p 6 0) (by show (6:Nat)≠3;decide) (by show (6:Nat)≠4;decide)).symm
    clean:=hc.trans (clean_st (t:=(t.keep c).enter p 6 0) (by show (6:Nat)≠1;decide)).symm}
theorem ended_fresh {m:Ln.M} {c:UInt8} {n:Int} (hn:m.clear.next c=n) (h:n=1∨n=2):Fresh (m.byte c)/\Ln.failed (m.byte c).last=false:=by
 have hl:(m.byte c).last=n:=hn;refine ⟨⟨?_,?_⟩,?_⟩
 ·rw [hl,if_pos];rcases h with rfl | rfl<;>rfl
 ·show (m.clear.next c==0&&c==13)=false;rw [hn];rcases h with rfl | rfl<;>rfl
 ·rw [hl];rcases h with rfl | rfl<;>rfl
theorem byte_some {m:Ln.M} {c:UInt8} (hm:m.next c=0):¬((m.told c).buf= []/\(m.next c==0&&c==13)=false):=by
 rintro ⟨h1,h2⟩;rw [hm] at h2;have hc:c≠13:=by
  intro e;rw [e] at h2
  exact absurd h2 (by decide)
 have hk:m.keeps c=true:=by
  unfold Ln.M.next at hm;unfold Ln.M.keeps;by_cases g1:Ln.failed m.last=true
  ·simp [g1] at hm
  ·by_cases g2:m.pend=true
   ·by_cases g3:c=10
    ·simp [g1,g2,g3] at hm
    ·by_cases g4:m.cr=true
     ·simp [g1,g2,g3,g4] at hm
     ·simp [g1,g2,g3,g4] at hm
   ·by_cases g3:c=10
    ·by_cases g4:m.lf=true
     ·simp [g1,g2,g3,g4] at hm
     ·simp [g1,g2,g3,g4] at hm
    ·by_cases g5:m.buf.length=m.most
     ·simp [g1,g2,g3,hc,g5] at hm
     ·simp [g1,g2,g3,hc,g5]
 have:(m.told c).buf=m.buf ++ [c]:=by show m.buf++(if m.keeps c then [c] else [])= _;rw [if_pos hk]
 rw [this] at h1;simp at h1
theorem more_new {c:UInt8} (hn:t.rd.clear.next c=0):({t with rd:=t.rd.byte c}:T).isNew=false:=by
 have h:=byte_some (m:=t.rd.clear) hn;have e1:(t.rd.byte c).len=(t.rd.clear.told c).buf.length:=by unfold Ln.M.len;have hl:(t.rd.byte c).last=0:=hn;rw [hl];rfl
 have e2:(t.rd.byte c).pend=(t.rd.clear.next c==0&&c==13):=rfl;unfold T.isNew;rw [Bool.eq_false_iff];intro hh;rw [As,decide_eq_true_eq,A7] at hh;exact h ⟨Cr (e1 ▸ hh.1),e2 ▸ hh.2⟩
theorem next_new (h:t.isNew=false):t.next=false:=by unfold T.next;rw [h,Au,Au]
theorem step_sim (h:R0 p b t s) (hn:DY s.st=false) (ok:t.Ok) (c:UInt8) :
 s.rd.how c=t.rd.clear.next c/\(Ln.failed (t.rd.clear.next c)=false->
  R0 p b {t with rd:=t.rd.byte c} {s with fresh:=false,rd:=s.rd.byte c}/\({t with rd:=t.rd.byte c}:T).Ok/\(s.rd.byte c).L=(t.rd.byte c).line):=by
 obtain ⟨h1,h2⟩:=(h.rd hn).step ok.rd ok.nf c;refine ⟨h1,λhf=>?_⟩;obtain ⟨h3,h4⟩:=h2 hf
 exact ⟨{
  e:=h.e
  st:=h.st
  r:=h.r
  out:=h.out
  head:=h.head
  hl:=h.hl
  bl:=h.bl
  bl0:=h.bl0
  left:=h.left
  rd:=λ_=>h3
  fr:=λe=>absurd (hn.symm.trans e) (by decide)
  lf:=h.lf
  cr:=h.cr
  most:=h.most
  beh:=h.beh
  ch:=h.ch},ok.byteR c hf,h4⟩
theorem nextM_is (m:Ln.M) (c:UInt8) (hp:m.pend=false):m.next c≠2:=by
 unfold Ln.M.next;split
 ·decide
 ·rw [hp];simp only [A4,if_false];split
  ·split<;>decide
  ·split
   ·decide
   ·split<;>decide
theorem took_sim (h:R0 p b t s) (hn:DY s.st=false) (ok:t.Ok) (hc:s.clean=false) (c:UInt8) {n:Int} (hnx:t.rd.clear.next c=n) :
 s.rd.how c=n/\(n=0->RR p b {t with rd:=t.rd.byte c} {s with fresh:=false,rd:=s.rd.byte c})/\
 (n=1∨n=2->RQ p b (ends (({t with rd:=t.rd.byte c}:T).line p b (t.rd.byte c).line)) (({s with fresh:=false,rd:=s.rd.byte c}:S).ended p b (s.rd.byte c).L)):=by
 obtain ⟨k1,k2⟩:=step_sim h hn ok c;rw [hnx] at k1 k2;refine ⟨k1,λh0=>?_,λh12=>?_⟩
 ·obtain ⟨k3,k4,k5⟩:=k2 (by rw [h0];rfl)
  have hw:=more_new (t:=t) (c:=c) (hnx.trans h0)
  exact {k3 with
   fresh:=(next_new hw).symm
   clean:=by
    show s.clean= _
    rw [hw,Au];exact hc}
 ·obtain ⟨k3,k4,k5⟩:=k2 (by rcases h12 with e | e<;> (rw [e];rfl));have hf:=(ended_fresh hnx h12).1;rw [k5];exact line_sim k3 k4 hf hc rfl hn _
theorem plain_sim (h:R0 p b t s) (hn:DY s.st=false) (ok:t.Ok) (hc:s.clean=false) (hp:t.rd.pend=false) (h6:t.st≠6) (c:UInt8) :
 RQ p b (t.inLine p b c).1 (s.plain p b c):=by
 have hn':¬DY s.st=true:=by rw [hn];decide
 obtain ⟨n,hnx⟩:∃n,t.rd.clear.next c=n:=⟨_,rfl⟩;obtain ⟨k1,k2,k3⟩:=took_sim h hn ok hc c hnx;have h2:n≠2:=by rw [←hnx];exact nextM_is t.rd.clear c hp
 have his:=Ln.M.next_is t.rd.clear c;rw [hnx] at his;have h6':(t.st==6)=false:=beq_eq_false_iff_ne.2 h6;unfold T.inLine S.plain;simp only [if_neg hn',k1,hnx,h6',Az,A4,if_false];rcases his with e | e | e | e | e
 ·subst e;exact k2 rfl
 ·subst e
  exact k3 (.inl rfl)
 ·exact absurd e h2
 ·subst e;exact ⟨rfl,by decide,h.out,rfl⟩
 ·subst e;obtain ⟨g1,g2⟩:=long_sim h;simp only [Int.reduceEq,if_false,if_true];rw [g1];exact ⟨rfl,g2,h.out,rfl⟩
theorem line_cnt (ln:List UInt8) :
 ((t.line p b ln).2.cnt=t.cnt/\(t.line p b ln).2.size=t.size/\((t.line p b ln).2.st=1->t.st=1)/\((t.line p b ln).2.st=2->t.st=1∨t.st=2))∨
 ((t.line p b ln).2.cnt=false/\(t.line p b ln).2.size=0/\(t.line p b ln).2.st=1/\t.st≠1):=by
 unfold T.line;by_cases h1:t.st=1
 ·left;simp only [if_pos h1];unfold T.first;split
  ·exact ⟨rfl,rfl,λ_=>h1,λ_=>.inl h1⟩
  ·simp only;split
   ·exact ⟨rfl,rfl,λ_=>h1,λ_=>.inl h1⟩
   ·exact ⟨rfl,rfl,λ_=>h1,λ_=>.inl h1⟩
 simp only [if_neg h1];by_cases h2:t.st=2
 ·simp only [if_pos h2];unfold T.fields;by_cases hs:ln= []
  ·simp only [if_pos hs];unfold T.endHead;generalize Bs (Frm.clOf p) b.ch b.x3 t.r.k t.r.fs=d;simp only;split
   ·exact .inl ⟨rfl,rfl,λe=>absurd (h2.symm.trans e) (by decide),λ_=>.inr h2⟩
   ·split
    ·exact .inl ⟨rfl,rfl,λe=>absurd e (by show (4:Nat)≠1;decide),λ_=>.inr h2⟩
    ·split
     ·exact .inr ⟨rfl,rfl,rfl,h1⟩
     ·exact .inl ⟨rfl,rfl,λe=>absurd e (by show (3:Nat)≠1;decide),λ_=>.inr h2⟩
  ·simp only [if_neg hs];exact .inl ⟨by trivial,by trivial,λe=>e,λ_=>.inr h2⟩
 simp only [if_neg h2];by_cases h4:t.st=4
 ·left;simp only [if_pos h4];unfold T.chunk;simp only;split
  ·exact ⟨rfl,rfl,λe=>absurd (h4.symm.trans e) (by decide),λe=>absurd (h4.symm.trans e) (by decide)⟩
  ·split
   ·exact ⟨rfl,rfl,λe=>absurd e (by show (7:Nat)≠1;decide),λe=>absurd e (by show (7:Nat)≠2;decide)⟩
   ·split
    ·exact ⟨rfl,rfl,λe=>absurd (h4.symm.trans e) (by decide),λe=>absurd (h4.symm.trans e) (by decide)⟩
    ·exact ⟨rfl,rfl,λe=>absurd e (by show (5:Nat)≠1;decide),λe=>absurd e (by show (5:Nat)≠2;decide)⟩
 simp only [if_neg h4];by_cases h7:t.st=7
 ·simp only [if_pos h7];unfold T.trail;by_cases hs:ln= []
  ·simp only [if_pos hs];exact .inr ⟨rfl,rfl,rfl,h1⟩
  ·simp only [if_neg hs];exact .inl ⟨by trivial,by trivial,λe=>e,λe=>absurd e h2⟩
 simp only [if_neg h7];exact .inl ⟨rfl,rfl,λe=>absurd e (by show (4:Nat)≠1;decide),λe=>absurd e (by show (4:Nat)≠2;decide)⟩
theorem R0.of_counted (h:R0 p b t s) (hc:t.cnt=false):R0 p b t.counted {s with head:=s.head+1,clean:=false}:=by
 have e:t.counted={t with cnt:=true,size:=t.size+1}:=by unfold T.counted;rw [hc];rfl
 rw [e];exact ⟨h.e,h.st,h.r,h.out,congrArg (·+1) h.head,h.hl,h.bl,h.bl0,h.left,h.rd,h.fr,h.lf,h.cr,h.most,h.beh,h.ch⟩
theorem R0.dirty (h:R0 p b t s):R0 p b t {s with clean:=false}:=⟨h.e,h.st,h.r,h.out,h.head,h.hl,h.bl,h.bl0,h.left,h.rd,h.fr,h.lf,h.cr,h.most,h.beh,h.ch⟩
theorem RQ.err {e:Nat} {o:List Eo} (h:RQ p b (.dead e o) s):s.e≠0:=by obtain ⟨h1,h2, -, -⟩:=h;rw [h1];exact h2
theorem look_count (h:R0 p b t s) (ok:t.Ok) (hb:b.right=true) (hc:t.cnt=false) (hh:Par.headed s.st=true) (hp:t.rd.pend=false) (h6:t.st≠6) (c:UInt8) :
 RQ p b (t.look p b c).1 (s.count b (λs=>s.plain p b c)):=by
 have hbd:DY s.st=false:=by
  unfold Par.headed at hh;unfold DY;simp only [AB,beq_iff_eq] at hh
  rcases hh with (e | e) | e<;> (rw [e];rfl)
 have hb':Pg.bodied t.st=false:=(bod h).trans hbd;have hh':Pg.headed t.st=true:=(hed h).trans hh;have h1:=h.of_counted hc;have esz:t.counted.size=s.head+1:=h1.head.symm;have eS:s.count b (λs=>s.plain p b c)=if b.x2<((s.head+1:Nat):Int) then S.fail {s with head:=s.head+1} 431 else ({s with head:=s.head+1,clean:=false}:S).plain p b c:=by unfold S.count;rw [if_neg (λhn=>hn h.e),if_pos hh]
 rw [eS];unfold T.look;rw [if_neg (by rw [hb'];decide),if_pos hh',esz]
 by_cases hx:b.x2<((s.head+1:Nat):Int)
 ·rw [if_pos hx,if_pos hx];exact ⟨rfl,by decide,h.out,rfl⟩
 ·rw [if_neg hx,if_neg hx]
  have hok:t.counted.Ok:=ok.counted hb (by rw [esz];exact hx);exact plain_sim h1 hbd hok rfl (by rw [counted_rd];exact hp) (by rw [counted_st];exact h6) c
theorem look_plain (h:R0 p b t s) (ok:t.Ok) (hh:Pg.headed t.st=true->t.cnt=true/\¬b.x2<(t.size:Int)) (hc:s.clean=false) (hp:t.rd.pend=false) (h6:t.st≠6) (c:UInt8) :
 RQ p b (t.look p b c).1 (s.plain p b c):=by
 unfold T.look;by_cases hbd:DY s.st=true
 ·rw [if_pos ((bod h).trans hbd)];unfold S.plain;simp only [if_pos hbd];exact body_sim (s:={s with fresh:=false}) {h with} ok hc rfl hbd c
 ·have hb':DY s.st=false:=by simpa using hbd
  rw [if_neg (by rw [bod h];exact hbd)];by_cases h2:Pg.headed t.st=true
  ·obtain ⟨e1,e2⟩:=hh h2;have e3:t.counted=t:=by unfold T.counted;rw [if_pos e1]
   rw [if_pos h2,e3,if_neg e2];exact plain_sim h hb' ok hc hp h6 c
  ·rw [if_neg h2];exact plain_sim h hb' ok hc hp h6 c
theorem again_sim {t1 t2:T} {s2:S} (h:RR p b t2 s2) (ok2:t2.Ok) (hb:b.right=true) (hp:t2.rd.pend=false) (h6:t2.st≠6) {was:Nat} (hw:t1.st=was+1)
 (hcnt:t1.cnt=Par.headed was) (hsz:Par.headed was=true->¬b.x2<(t1.size:Int)) {ln:List UInt8} (he:t1.line p b ln=(0,t2)) (c:UInt8) :
 RQ p b (t2.look p b c).1 (s2.again p b c was):=by
 have hl:=line_cnt (p:=p) (b:=b) (t:=t1) ln;rw [he] at hl;simp only at hl;have hst:=h.st;unfold E4;by_cases hA:s2.st=0/\was≠0
 ·rw [if_pos (by simp [hA.1,hA.2])];rcases hl with ⟨-, -,k, -⟩ | ⟨k, -, -, -⟩
  ·have:=k (by omega);omega
  ·exact look_count h.toR0 ok2 hb k (by rw [hA.1];rfl) hp h6 c
 ·rw [if_neg (by
   intro hh;rw [As,beq_iff_eq,A7,beq_eq_false_iff_ne] at hh
   exact hA hh)]
  simp only;by_cases hB:Par.headed was=false/\s2.st=6
  ·rw [if_pos (by simp [hB.1,hB.2])];have k:t2.cnt=false:=by
    rcases hl with ⟨k, -, -, -⟩ | ⟨k, -, -, -⟩
    ·rw [k,hcnt];exact hB.1
    ·exact k
   exact look_count (s:={s2 with clean:=false}) h.toR0.dirty ok2 hb k (by show Par.headed s2.st=true;rw [hB.2];rfl) hp h6 c
  ·rw [if_neg (by
    intro hh;rw [As,beq_iff_eq,A7] at hh
    exact hB hh)]
   refine look_plain h.toR0.dirty ok2 (λhh=>?_) rfl hp h6 c;have hh2:Par.headed s2.st=true:=(hed h.toR0).symm.trans hh;have hwas:Par.headed was=true/\t2.cnt=t1.cnt/\t2.size=t1.size:=by
    rcases hl with ⟨k1,k2,k3,k4⟩ | ⟨-, -,k3,k4⟩
    ·refine ⟨?_,k1,k2⟩;unfold Par.headed at hh2;simp only [AB,beq_iff_eq] at hh2;rcases hh2 with (e | e) | e
     ·have:=k3 (by omega);have:was=0:=by omega
      rw [this];rfl
     ·rcases k4 (by omega) with e1 | e1
      ·have:was=0:=by omega
       rw [this];rfl
      ·have:was=1:=by omega
       rw [this];rfl
     ·cases hw2:Par.headed was with
      | true=>rfl
      | false=>exact absurd ⟨hw2,e⟩ hB
    ·exact absurd ⟨by omega,by omega⟩ hA
   obtain ⟨g1,g2,g3⟩:=hwas;exact ⟨by rw [g2,hcnt];exact g1,by rw [g3];exact hsz g1⟩
theorem ends_cases {x:Nat × T} {q:Q} (h:ends x=q):(∃t2,x=(0,t2)/\q=.live t2)∨∃e o,q=.dead e o:=by
 unfold ends at h;split at h
 ·rename_i h0;exact .inl ⟨x.2,Prod.ext h0 rfl,h.symm⟩
 ·exact .inr ⟨_,_,h.symm⟩
theorem byte1_sim {t0:T} (h:R0 p b t0 s) (hn:DY s.st=false) (ok:t0.Ok) (hb:b.right=true) (hc:s.clean=false) (hcnt:t0.cnt=Par.headed s.st) (hsz:Par.headed s.st=true->¬b.x2<(t0.size:Int)) (c:UInt8) :
 RQ p b (match t0.inLine p b c with
  |(.live t1,false)=>(t1.look p b c).1
  |(x,_)=>x) (s.byte1 p b c):=by
 have hn':¬DY s.st=true:=by rw [hn];decide
 have hb0:Pg.bodied t0.st=false:=(bod h).trans hn;obtain ⟨n,hnx⟩:∃n,t0.rd.clear.next c=n:=⟨_,rfl⟩;obtain ⟨k1,k2,k3⟩:=took_sim h hn ok hc c hnx;have his:=Ln.M.next_is t0.rd.clear c;rw [hnx] at his;have e5:(t0.st==6)=(s.st==5):=by rw [Ay,beq_iff_eq,beq_iff_eq,h.st];omega
 have hag:∀t',t0.inLine p b c=(.live t',false)->t'.rd.pend=false/\t'.st≠6:=λt'=>inLine_again hb0 c
 have hok:∀t' u,t0.inLine p b c=(.live t',u)->t'.Ok:=λt' u e=>ok.inLine hb c (by rw [e]);unfold S.byte1;simp only [if_neg hn',k1];unfold T.inLine at hag hok ⊢;simp only [hnx,e5] at hag hok ⊢;rcases his with e | e | e | e | e
 ·subst e;exact k2 rfl
 ·subst e;simp only [Int.reduceEq,if_false,Int.reduceBEq,Bool.not_false] at hag hok ⊢
  have k4:=k3 (.inl rfl);generalize ends (T.line p b {t0 with rd:=t0.rd.byte c} (t0.rd.byte c).line)=q at k4 ⊢;cases q<;>exact k4
 ·subst e
  have k4:=k3 (.inr rfl);simp only [Int.reduceEq,if_false,if_true,BEq.rfl,Bool.not_true] at hag hok ⊢;generalize hq:ends (T.line p b {t0 with rd:=t0.rd.byte c} (t0.rd.byte c).line)=q at hag hok k4 ⊢;generalize hs2:S.ended p b {s with fresh:=false,rd:=s.rd.byte c} (s.rd.byte c).L=s2 at k4 ⊢;rcases ends_cases hq with ⟨t2,g1,rfl⟩ | ⟨e,o,rfl⟩
  ·have k5:RR p b t2 s2:=k4;simp only;rw [if_pos k5.e];obtain ⟨g2,g3⟩:=hag t2 rfl;exact again_sim k5 (hok t2 false rfl) hb g2 g3 (t1:={t0 with rd:=t0.rd.byte c}) h.st hcnt hsz g1 c
  ·simp only;rw [if_neg k4.err];exact k4
 ·subst e;exact ⟨rfl,by decide,h.out,rfl⟩
 ·subst e;obtain ⟨g1,g2⟩:=long_sim h;simp only [Int.reduceEq,if_false,if_true] at hag hok ⊢;by_cases hce:(s.st==5&&Ei p 29)=true
  ·simp only [if_pos hce] at hag hok ⊢;have hs5:s.st=5:=by
    rw [As,beq_iff_eq] at hce;exact hce.1
   obtain ⟨g3,g4⟩:=hag _ rfl;have he:=enter_sim (t:=t0) (s:={s with fresh:=false}) {h with} hs5;exact look_plain he (hok _ _ rfl) (λhh=>absurd hh (by show Pg.headed 4≠true;decide)) hc g3 g4 c
  ·simp only [if_neg hce];rw [g1];exact ⟨rfl,g2,h.out,rfl⟩
theorem take_sim (h:RR p b t s) (ok:t.Ok) (hb:b.right=true) (c:UInt8):RQ p b (t.take p b c) (s.byte p b c):=by
 have h0:R0 p b ({t with cnt:=false}:T) {s with clean:=false}:=⟨h.e,h.st,h.r,h.out,h.head,h.hl,h.bl,h.bl0,h.left,h.rd,h.fr,h.lf,h.cr,h.most,h.beh,h.ch⟩;have ok0:({t with cnt:=false}:T).Ok:=ok.cleared;unfold T.take S.byte S.count;rw [if_neg (λhn=>hn h.e)];unfold T.look;have hbe:Pg.bodied ({t with cnt:=false}:T).st=DY s.st:=bod (t:=t) h.toR0;have hhe:Pg.headed ({t with cnt:=false}:T).st=Par.headed s.st:=hed (t:=t) h.toR0;rw [hbe,hhe];by_cases hbd:DY s.st=true
 ·have hnh:¬Par.headed s.st=true:=by
   unfold DY at hbd;unfold Par.headed;simp only [AB,beq_iff_eq] at hbd ⊢;omega
  rw [if_pos hbd,if_neg hnh];have e1:({s with clean:=false}:S).byte1 p b c=({s with fresh:=false,clean:=false}:S).bodyB p b c:=by unfold S.byte1;simp only [if_pos hbd]
  simp only [e1];exact body_sim (s:={s with fresh:=false,clean:=false}) {h0 with} ok0 rfl rfl hbd c
 ·have hbd':DY s.st=false:=by simpa using hbd
  rw [if_neg hbd];by_cases hh:Par.headed s.st=true
  ·rw [if_pos hh,if_pos hh];have h1:R0 p b ({t with cnt:=false}:T).counted {s with head:=s.head+1,clean:=false}:=h0.of_counted rfl;have esz:({t with cnt:=false}:T).counted.size=s.head+1:=h1.head.symm;rw [esz]
   by_cases hx:b.x2<((s.head+1:Nat):Int)
   ·rw [if_pos hx,if_pos hx];exact ⟨rfl,by decide,h.out,rfl⟩
   ·rw [if_neg hx,if_neg hx]
    have hok:=ok0.counted hb (by rw [esz];exact hx);exact byte1_sim h1 hbd' hok hb rfl hh.symm (λ_=>by rw [esz];exact hx) c
  ·rw [if_neg hh,if_neg hh];have hh':Par.headed s.st=false:=by simpa using hh
   exact byte1_sim h0 hbd' ok0 hb rfl hh'.symm (λe=>absurd e hh) c
def Q.Fine (b:Bd):Q->Prop
 | .live t=>t.Ok/\b.right=true
 | .dead _ _=>True
theorem Q.Fine.byte {x:Q} (h:x.Fine b) (c:UInt8):(x.byte p b c).Fine b:=by
 cases x with
 | live t=>
   show (t.take p b c).Fine b;cases hq:t.take p b c with
   | live t'=>exact ⟨h.1.take h.2 c hq,h.2⟩
   | dead e o=>trivial
 | dead e o=>trivial
theorem byte_sim {x:Q} (h:RQ p b x s) (ok:x.Fine b) (c:UInt8):RQ p b (x.byte p b c) (s.byte p b c):=by
 cases x with
 | live t=>exact take_sim h ok.1 ok.2 c
 | dead e o=>
   rw [S.byte_dead h.err];exact h
theorem feed_sim (l:List UInt8):∀{x:Q} {s:S},RQ p b x s->x.Fine b->RQ p b (x.feed p b l) (s.feed p b l)/\(x.feed p b l).Fine b:=by
 induction l with
 | nil=>intro x s h ok;exact ⟨h,ok⟩
 | cons c l ih=>intro x s h ok;exact ih (byte_sim h ok c) (ok.byte c)
theorem new_sim:RQ p b (Q.new p b) (S.new p b):=by
 unfold Q.new S.new;by_cases h:(b.right&&decide (p<1073741824))=true
 ·rw [if_pos h,if_pos h]
  exact {
   e:=rfl
   st:=rfl
   r:=rfl
   out:=rfl
   head:=rfl
   hl:=λ_=>rfl
   bl:=λe=>absurd e (by show (0:Nat)≠6;decide)
   bl0:=λ_=>rfl
   left:=λe=>absurd e (by show DY 0≠true;decide)
   rd:=λ_=>⟨rfl,rfl,rfl,rfl,rfl,rfl⟩
   fr:=λe=>absurd e (by show DY 0≠true;decide)
   lf:=rfl
   cr:=rfl
   most:=λ_=>rfl
   beh:=λe=>absurd e (by show (0:Nat)≠5;decide)
   ch:=rfl
   fresh:=rfl
   clean:=rfl}
 ·rw [if_neg h,if_neg h];exact ⟨rfl,by decide,rfl,rfl⟩
theorem said_sim {x:Q} (h:RQ p b x s) (ok:x.Fine b):s.e=x.err/\s.out=x.out/\s.waits=x.waits/\s.held=x.held/\s.clean=x.clean:=by
 cases x with
 | live t=>
   refine ⟨h.e,h.out,?_,?_,h.clean⟩
   ·show (decide (s.e=0)&&(s.fresh&&Rec.expects s.r))=(t.next&&Rec.expects t.r);rw [h.e,h.fresh,h.r];rfl
   ·show (if s.e=0 then Rec.size s.r+(if DY s.st=true then 0 else s.rd.B.length) else 0)=t.rd.len+Rec.size t.r;rw [if_pos h.e,h.r];by_cases hb:DY s.st=true
    ·rw [if_pos hb];have:=(h.fr hb).isNew;unfold T.isNew at this;rw [As,decide_eq_true_eq] at this;rw [this.1];omega
    ·rw [if_neg hb];have h1:=(h.rd (by simpa using hb)).B;have:s.rd.B.length=t.rd.len:=by
      rw [h1];unfold Ln.M.len;split<;>rfl
     omega
 | dead e o=>
   obtain ⟨h1,h2,h3,h4⟩:=h;refine ⟨h1,h3,?_,?_,h4⟩
   ·show (decide (s.e=0) && _)=false;rw [decide_eq_false (by rw [h1];exact h2),Az]
   ·show (if s.e=0 then _ else 0)=0;rw [if_neg (by rw [h1];exact h2)]
theorem told_sim {x:Q} (h:RQ p b x s):RQ p b x.told {s with out:= []}:=by
 cases x with
 | live t=>exact ⟨⟨h.e,h.st,h.r,rfl,h.head,h.hl,h.bl,h.bl0,h.left,h.rd,h.fr,h.lf,h.cr,h.most,h.beh,h.ch⟩,h.fresh,h.clean⟩
 | dead e o=>
   obtain ⟨h1,h2, -,h4⟩:=h;exact ⟨h1,h2,rfl,h4⟩
theorem told_fine {x:Q} (h:x.Fine b):x.told.Fine b:=by
 cases x with
 | live t=>exact ⟨⟨h.1.rd,h.1.nf,h.1.st,h.1.hl,h.1.bl,h.1.fsl,h.1.tsl,h.1.fss,h.1.tss,h.1.m,h.1.x,h.1.body,h.1.left,h.1.early,h.1.size⟩,h.2⟩
 | dead e o=>trivial
end
end Go.Proofs.YtnabkcglnbdfeaaGreatDoor.Pg
namespace Go.Proofs.YtnabkcglnbdfeaaGreatDoor.Each
open Go.RowKit Base
abbrev Fact:=Value->World->Prop
def Lasts (f:Fact):Prop:=∀v w w',Below w.heap.size w w'->f v w->f v w'
def has (l:List Oper) (fs:List Fact) (ev:Operand->Value) (w:World):List Edge->Prop
 | []=>True
 | e::es=>(if Eu .any e=true then (match l[e.on]?,fs[e.on]? with
    | some o,some f=>(match o.dst with
      | some d=>f (ev (.tmp d)) w
      | none=>True)
    | _,_=>True) else True)/\has l fs ev w es
def one (l:List Oper) (fs:List Fact) (ev:Operand->Value) (w:World):Option Edge->Prop
 | some e=>(if Eu .any e=true then (match l[e.on]?,fs[e.on]? with
    | some o,some f=>(match o.dst with
      | some d=>f (ev (.tmp d)) w
      | none=>True)
    | _,_=>True) else True)
 | none=>True
theorem has.at {l:List Oper} {fs:List Fact} {ev:Operand->Value} {w:World}:∀{es:List Edge},has l fs ev w es->∀n:Nat,one l fs ev w es[n]?
 | [],_,n=>by simp [one]
 | e::es,h,0=>by simpa [one] using h.1
 | e::es,h,n+1=>by simpa using has.at h.2 n
def yld (l:List Oper) (ev:Operand->Value) (j:Nat):Option Bool:=
 match (l[j]?).bind (·.dst) with
 | some d=>(match ev (.tmp d) with
   | .bool b=>some b
   | _=>none)
 | none=>none
structure Reads (a0:Act) (ds:List Nat) (ev:Operand->Value):Prop where
 const:∀v,ev (.const v)=v
 func:∀f,ev (.func f)=.func (.func f) #[] #[]
 global:∀g,ev (.global g)=ZV (some ⟨g,0,none⟩)
 old:∀s,ds.contains s=false->ev (.tmp s)=a0.tmps.getD s undef
inductive Goes (P:Program) (o:Oper) (ev:Operand->Value) (f:Fact) (w:World):Prop
 | value (v:Value) (w':World) (h:(execOp ev o).run P w=.ok (.value v) w') (hb:Below w.heap.size w w') (hf:f v w'):Goes P o ev f w
 | enter (g:FuncId) (args:Array Value) (h:(execOp ev o).run P w=.ok (.enter g args) w) (hc:Calls P g args w λe w'=>∃v,e=.returned v/\Below w.heap.size w w'/\f v w'):Goes P o ev f w
inductive GoesR (P:Program) (o:Oper) (ev:Operand->Value) (f:Fact) (R:World->World->Prop) (w:World):Prop
 | value (v:Value) (w':World) (h:(execOp ev o).run P w=.ok (.value v) w') (hb:R w w') (hf:f v w'):GoesR P o ev f R w
 | enter (g:FuncId) (args:Array Value) (h:(execOp ev o).run P w=.ok (.enter g args) w) (hc:Calls P g args w λe w'=>∃v,e=.returned v/\R w w'/\f v w'):GoesR P o ev f R w
theorem XXmLr {P:Prop} (h:P:=by
 refine .enter g args hrun (hc.mono ?_);rintro e w' ⟨v,rfl,hb,hfv⟩;first
  |exact ⟨v,rfl,hR _ hb,hfv⟩
  |exact ⟨v,rfl,hb,hf _ _ hfv⟩
  |exact ⟨v,rfl,.inr hb,hfv⟩):P:=h
theorem Goes.gen {P:Program} {o:Oper} {ev:Operand->Value} {f:Fact} {w:World} (h:Goes P o ev f w) {R:World->World->Prop} (hR:∀w',Below w.heap.size w w'->R w w'):GoesR P o ev f R w:=by
 cases h with
 | value v w' hrun hb hfv=>exact .value v w' hrun (hR _ hb) hfv
 | enter g args hrun hc=>
   exact XXmLr
def FineR (P:Program) (l:List Oper) (fs:List Fact) (R:Nat->World->World->Prop) (K:Array Bool->World->Prop) (a0:Act) (ds:List Nat) (k:Nat) (o:Oper) (f:Fact):Prop:=
 ∀(ev:Operand->Value) (b:Array Bool) (w:World),Reads a0 ds ev->K b w->b.getD k false=false->has l fs ev w o.after.toList->
  (Ex o (yld l ev)=true->GoesR P o ev f (R k) w)/\(Ex o (yld l ev)=false->f undef w)
def Fine (P:Program) (l:List Oper) (fs:List Fact) (W:World) (a0:Act) (ds:List Nat) (o:Oper) (f:Fact):Prop:=
 ∀(ev:Operand->Value) (w:World),Reads a0 ds ev->Below W.heap.size W w->has l fs ev w o.after.toList->
  (Ex o (yld l ev)=true->Goes P o ev f w)/\(Ex o (yld l ev)=false->f undef w)
def marks (l:List Oper):Nat->Array Bool->Array Bool
 | 0,b=>b
 | k+1,b=>marks l k (if b.getD k false=true then (match l[k]? with
    | some o=>o.after.toList.foldl (λb e=>if Eu .any e=true then b.setIfInBounds e.on true else b) b
    | none=>b) else b)
def fill (n m:Nat) (lm:List Bool):Array Bool:=((Df n).map λi=>decide (i<m) && !lm.getD i false).toArray
def good (l:List Oper) (m:Nat) (ds:List Nat) (lm:List Bool) (r:Nat):Bool:=
 decide (m<=l.length)&&(decide ((l.take m).map (·.dst)=ds.map some)&&(decide ds.Nodup &&
 ((Df l.length).all (λk=>match l[k]? with
   | some o=>o.after.toList.all λe=>!Region.binds .any e|| (decide (e.on<k)&&(lm.getD k false||decide (m<=k) || !lm.getD e.on false))
   | none=>true) &&
 ((Df l.length).all (λi=>(decide (i<m) && !lm.getD i false)|| (Df m).all λk=>lm.getD k false|| (marks l l.length ((Aj l.length false).setIfInBounds i true)).getD k false) &&
 decide ((Df m).countP (λk=>!lm.getD k false)+r<=l.length)))))
def putg (g:Nat->Value):List Nat->Act->Act
 | [],a=>a
 | d::ds,a=>putg g ds (a.put (some d) (g d))
def fone (g:Nat->Value) (w:World):Option Nat->Option Fact->Prop
 | some d,some f=>f (g d) w
 | _,_=>True
def facts (g:Nat->Value) (w:World):List Nat->List Fact->Prop
 | d::ds,f::fs=>f (g d) w/\facts g w ds fs
 | _,_=>True
theorem facts.at {g:Nat->Value} {w:World}:∀{ds:List Nat} {fs:List Fact},facts g w ds fs->∀n:Nat,fone g w ds[n]? fs[n]?
 | [],_,_,n=>by simp [fone]
 | _ :: _,[],_,n=>by simp [fone]
 | _ :: _,_ :: _,h,0=>by simpa [fone] using h.1
 | _ :: _,_ :: _,h,n+1=>by simpa using facts.at h.2 n
section
variable {P:Program} {l:List Oper} {Q:Exit->Act->World->Prop} {fs:List Fact} {W:World} {a0:Act} {m:Nat} {ds:List Nat} {lm:List Bool} {r:Nat} {K:Array Bool->World->Prop} {R:Nat->World->World->Prop}
structure Inv (l:List Oper) (fs:List Fact) (K:Array Bool->World->Prop) (a0:Act) (m:Nat) (ds:List Nat) (lm:List Bool) (b:Array Bool) (a:Act) (w:World):Prop where
 bel:K b w
 size:a.tmps.size=a0.tmps.size
 defs:a.defers=a0.defers
 old:∀s,s∉ds->a.tmps[s]?=a0.tmps[s]?
 fact:∀(k d:Nat) (f:Fact),ds[k]?=some d->fs[k]?=some f->b.getD k false=true->f (a.eval (.tmp d)) w
 down:∀(k:Nat) (o:Oper),l[k]?=some o->b.getD k false=true->∀e∈o.after.toList,Eu .any e=true->b.getD e.on false=true
 bsize:b.size=l.length
 rest:∀k,m<=k∨lm.getD k false=true->b.getD k false=false
theorem get_set (b:Array Bool) (i k:Nat) (hi:i<b.size):(b.setIfInBounds i true).getD k false=if k=i then true else b.getD k false:=by
 by_cases h:k=i
 ·subst h;simp [Ag,hi]
 ·have h':¬i=k:=λe=>h e.symm;simp [Ag,h,h']
theorem get_set_sub (b:Array Bool) (i k:Nat) (h:(b.setIfInBounds i true).getD k false=true):k=i∨b.getD k false=true:=by
 rcases D9 i b.size with hi | hi
 ·rw [get_set b i k hi] at h;by_cases hk:k=i
  ·exact .inl hk
  ·rw [if_neg hk] at h;exact .inr h
 ·rw [Array.setIfInBounds_eq_of_size_le hi] at h;exact .inr h
theorem fold_sub (b0:Array Bool) (p:Nat->Prop) (es:List Edge) (hp:∀k,b0.getD k false=true->p k) (he:∀e∈es,Eu .any e=true->p e.on) :
 ∀k,(es.foldl (λb e=>if Eu .any e=true then b.setIfInBounds e.on true else b) b0).getD k false=true->p k:=by
 induction es generalizing b0 with
 | nil=>exact hp
 | cons e es ih=>
   rw [List.foldl_cons]
   refine ih _ ?_ (λx hx=>he x (by simp [hx]));intro k hk;by_cases hb:Eu .any e=true
   ·rw [if_pos hb] at hk;rcases get_set_sub _ _ _ hk with rfl | h
    ·exact he e (by simp) hb
    ·exact hp k h
   ·rw [if_neg hb] at hk;exact hp k hk
theorem marks_sub (b:Array Bool) (hdown:∀(k:Nat) (o:Oper),l[k]?=some o->b.getD k false=true->∀e∈o.after.toList,Eu .any e=true->b.getD e.on false=true) :
 ∀(n:Nat) (i:Nat) (c:Array Bool),(∀k,c.getD k false=true->k=i∨b.getD k false=true)->(∀o,l[i]?=some o->∀e∈o.after.toList,Eu .any e=true->b.getD e.on false=true)->
  ∀k,(marks l n c).getD k false=true->k=i∨b.getD k false=true
 | 0,_,_,h,_=>h
 | n+1,i,c,h,hi=>by
   rw [marks];refine marks_sub b hdown n i _ ?_ hi;by_cases hc:c.getD n false=true
   ·rw [if_pos hc];cases ho:l[n]? with
    | none=>exact h
    | some o=>
      refine fold_sub c (λk=>k=i∨b.getD k false=true) _ h ?_;intro e he hb;rcases h n hc with rfl | hn
      ·exact .inr (hi o ho e he hb)
      ·exact .inr (hdown n o ho hn e he hb)
   ·rw [if_neg hc];exact h
theorem count_less (p:Nat->Bool) (i:Nat) (hi:p i=true):∀xs:List Nat,i∈xs->xs.countP (λk=>p k && !(k==i))+1<=xs.countP p
 | [],h=>by simp at h
 | x::xs,h=>by
   have hle:∀ys:List Nat,ys.countP (λk=>p k && !(k==i))<=ys.countP p:=λys=>List.countP_mono_left (λk _ hk=>by simp at hk;exact hk.1);by_cases hx:x=i
   ·subst hx;rw [List.countP_cons,List.countP_cons];have:=hle xs;simp [hi];omega
   ·have hm:i∈xs:=by
     rcases CV.1 h with h | h
     ·exact absurd h.symm hx
     ·exact h
    have ih:=count_less p i hi xs hm;rw [List.countP_cons,List.countP_cons];have hne:(x==i)=false:=by simp [hx]
    rw [hne];simp only [Bool.not_false,Bool.and_true];omega
theorem wpAnyH_more {ops:Array Oper} {S:World->Prop}:∀(n:Nat) (b:Array Bool) (a:Act) (w:World),wpAnyH P .any ops Q S n b a w->wpAnyH P .any ops Q S (n+1) b a w
 | 0,_,_,_,h=>⟨λ_=>h.2,by rw [h.1];simp⟩
 | n+1,_,_,_,h=>⟨h.1,λi hi=>wpOp_mono (λa' w' h'=>⟨h'.1,wpAnyH_more n _ a' w' h'.2⟩) (h.2 i hi)⟩
theorem wpAnyH_up {ops:Array Oper} {S:World->Prop} (n:Nat):∀(k:Nat) (b:Array Bool) (a:Act) (w:World),wpAnyH P .any ops Q S n b a w->wpAnyH P .any ops Q S (n+k) b a w
 | 0,_,_,_,h=>h
 | k+1,b,a,w,h=>wpAnyH_more (n+k) b a w (wpAnyH_up n k b a w h)
theorem yielded_eval (a:Act) (j:Nat):yielded l.toArray a.tmps j=yld l a.eval j:=by
 unfold yielded yld;have e:l.toArray[j]?=l[j]?:=by simp
 rw [e];cases (l[j]?).bind (·.dst) with
 | none=>rfl
 | some d=>
   simp only [Option.bind_some,Act.eval];rw [Ag];cases h:a.tmps[d]? with
   | none=>rfl
   | some v=>cases v<;>rfl
theorem put_get (a:Act) (d s:Nat) (v:Value):(a.put (some d) v).tmps[s]?=if s=d then (if d<a.tmps.size then some v else none) else a.tmps[s]?:=by
 simp only [Ab,Array.getElem?_setIfInBounds];by_cases h:s=d
 ·subst h;simp
 ·rw [if_neg h,if_neg (λe=>h e.symm)]
theorem put_size (a:Act) (d:Nat) (v:Value):(a.put (some d) v).tmps.size=a.tmps.size:=by simp [Ab]
theorem putg_size (g:Nat->Value):∀(ds:List Nat) (a:Act),(putg g ds a).tmps.size=a.tmps.size
 | [],_=>rfl
 | d::ds,a=>by rw [putg,putg_size g ds,put_size]
theorem putg_defers (g:Nat->Value):∀(ds:List Nat) (a:Act),(putg g ds a).defers=a.defers
 | [],_=>rfl
 | d::ds,a=>by rw [putg,putg_defers g ds];rfl
theorem putg_get (g:Nat->Value) (s:Nat):∀(ds:List Nat) (a:Act),s<a.tmps.size->(putg g ds a).tmps[s]?=if s∈ds then some (g s) else a.tmps[s]?
 | [],a,_=>by simp [putg]
 | d::ds,a,h=>by
   rw [putg,putg_get g s ds _ (by rw [put_size];exact h),put_get];by_cases h1:s∈ds
   ·simp [h1]
   ·by_cases h2:s=d
    ·subst h2;simp [h1,h]
    ·simp [h1,h2]
theorem act_of {b:Array Bool} {a:Act} {w:World} (hI:Inv l fs K a0 m ds lm b a w):a=putg (λd=>a.eval (.tmp d)) ds a0:=by
 have h1:=hI.size;have h2:=hI.defs;have h3:=hI.old;generalize hg:(λd=>a.eval (.tmp d))=g;have hg':∀d,g d=a.tmps.getD d undef:=λd=>by rw [←hg];rfl
 have ht:a.tmps=(putg g ds a0).tmps:=by
  refine Array.ext (by rw [putg_size,h1]) λi hi hi'=>?_;have e1:a.tmps[i]?=(putg g ds a0).tmps[i]?:=by
   rw [putg_get g i ds a0 (by omega)];by_cases h:i∈ds
   ·rw [if_pos h,hg',Ag,Array.getElem?_eq_getElem hi];rfl
   ·rw [if_neg h,h3 i h]
  rw [Array.getElem?_eq_getElem hi,Array.getElem?_eq_getElem hi'] at e1;exact DX.inj e1
 cases a with
 | mk t df=>
   simp only at ht h2;have:putg g ds a0=⟨(putg g ds a0).tmps,(putg g ds a0).defers⟩:=rfl;rw [this,←ht,putg_defers,←h2]
theorem facts_of {w:World} (g:Nat->Value):∀(ds:List Nat) (fs:List Fact),(∀(k d:Nat) (f:Fact),ds[k]?=some d->fs[k]?=some f->f (g d) w)->facts g w ds fs
 | [],_,_=>by simp [facts]
 | _ :: _,[],_=>by simp [facts]
 | d::ds,f::fs,h=>⟨h 0 d f rfl rfl,facts_of g ds fs λk d f hd hf=>h (k+1) d f (by simpa using hd) (by simpa using hf)⟩
theorem has_of {b:Array Bool} {a:Act} {w:World} (hdst:(l.take m).map (·.dst)=ds.map some) (hI:Inv l fs K a0 m ds lm b a w):∀es:List Edge,(∀e∈es,Eu .any e=true->b.getD e.on false=true)->has l fs a.eval w es
 | [],_=>trivial
 | e::es,h=>by
   refine ⟨?_,has_of hdst hI es λx hx=>h x (by simp [hx])⟩;by_cases hb:Eu .any e=true
   ·rw [if_pos hb];have hl:=h e (by simp) hb;cases ho:l[e.on]? with
    | none=>simp
    | some o=>
      cases hf:fs[e.on]? with
      | none=>simp
      | some f=>
        cases hd:o.dst with
        | none=>simp [hd]
        | some d=>
          simp only [hd];have hm:e.on<m:=by
           rcases D9 e.on m with h | h
           ·exact h
           ·rw [hI.rest _ (.inl h)] at hl;cases hl
          have hk:ds[e.on]?=some d:=by
           have h1:=congrArg (λx:List (Option Nat)=>x[e.on]?) hdst;simp only [C3,List.getElem?_take_of_lt hm,ho,Option.map_some,hd] at h1;cases h2:ds[e.on]? with
           | none=>rw [h2] at h1;simp at h1
           | some d'=>rw [h2] at h1;simp at h1;rw [h1]
          exact hI.fact _ _ _ hk hf hl
   ·rw [if_neg hb];trivial
theorem step (hm:m<=l.length) (hdst:(l.take m).map (·.dst)=ds.map some) (hnd:ds.Nodup) (hsz:∀d∈ds,d<a0.tmps.size) (hlen:fs.length=m)
 (hK:∀(b:Array Bool) (k:Nat) (w w':World),k<m->b.getD k false=false->K b w->R k w w'->K (b.setIfInBounds k true) w') (hid:∀k w,R k w w) (hlast:∀(k j:Nat) (f:Fact),fs[k]?=some f->j≠k->(∀o,l[k]?=some o->∀e∈o.after.toList,Eu .any e=true->e.on≠j)->∀v w w',R j w w'->f v w->f v w') (hfine:∀(k:Nat) (o:Oper) (f:Fact),l[k]?=some o->fs[k]?=some f->lm.getD k false=false->FineR P l fs R K a0 ds k o f)
 {b:Array Bool} {a:Act} {w:World} (hI:Inv l fs K a0 m ds lm b a w) {i:Nat} (him:i<m) (hil:lm.getD i false=false)
 (hr:i∈Ew .any l.toArray b):wpOp P l.toArray Q i (λa' w'=>Inv l fs K a0 m ds lm (b.setIfInBounds i true) a' w') a w:=by
 obtain ⟨hun,o,ho,hall⟩:=mem_ready.1 hr;have ho':l[i]?=some o:=by simpa using ho
 have hfl:i<fs.length:=by omega
 obtain ⟨f,hf⟩:∃f,fs[i]?=some f:=⟨fs[i],by rw [C0 hfl]⟩;obtain ⟨d,hd,hod⟩:∃d,ds[i]?=some d/\o.dst=some d:=by
  have h1:=congrArg (λx:List (Option Nat)=>x[i]?) hdst;simp only [C3,List.getElem?_take_of_lt him,ho',Option.map_some] at h1;cases h2:ds[i]? with
  | none=>rw [h2] at h1;simp at h1
  | some d=>rw [h2] at h1;exact ⟨d,rfl,by simpa using h1⟩
 have hbi:i<b.size:=by rw [hI.bsize];omega
 have hun':b.getD i false=false:=by rw [Ag] at hun ⊢;simpa [hbi] using hun
 have hdm:d∈ds:=CZ hd;have hdlt:d<a.tmps.size:=by rw [hI.size];exact hsz d hdm
 have hev:Reads a0 ds a.eval:=⟨λ_=>rfl,λ_=>rfl,λ_=>rfl,λs hs=>by
  have hs':s∉ds:=by simpa using hs
  have:=hI.old s hs'
  simp only [Act.eval,Ag,this]⟩
 have hhas:=has_of hdst hI o.after.toList λe he hb=>hall e (by simpa using he) hb;obtain ⟨h1,h2⟩:=hfine i o f ho' hf hil a.eval b w hev hI.bel hun' hhas;have hw:Ex o (yielded l.toArray a.tmps)=Ex o (yld l a.eval):=by have:yielded l.toArray a.tmps=yld l a.eval:=funext λj=>yielded_eval a j;rw [this]
 have key:∀(v:Value) (w':World),R i w w'->f v w'->Inv l fs K a0 m ds lm (b.setIfInBounds i true) (a.put o.dst v) w':=by
  intro v w' hb hfv;rw [hod];refine ⟨hK b i w w' him hun' hI.bel hb,by rw [put_size];exact hI.size,hI.defs,?_,?_,?_,by simp [hI.bsize],?_⟩
  ·intro s hs;rw [put_get,if_neg (λ(e:s=d)=>hs (by rw [e];exact hdm))];exact hI.old s hs
  ·intro k d' f' hd' hf' hk;have hev':(a.put (some d) v).eval (.tmp d')=if d'=d then v else a.eval (.tmp d'):=by
    simp only [Act.eval,Ag,put_get];by_cases h:d'=d
    ·simp [h,hdlt]
    ·simp [h]
   rw [get_set b i k hbi] at hk;rw [hev'];by_cases hki:k=i
   ·subst hki;obtain rfl:d=d':=by rw [hd] at hd';exact DX.inj hd'
    obtain rfl:f=f':=by rw [hf] at hf';exact DX.inj hf'
    rw [if_pos rfl];exact hfv
   ·rw [if_neg hki] at hk;have hne:d'≠d:=λe=>by
     subst e;have hk1:k<ds.length:=(List.getElem?_eq_some_iff.1 hd').1
     exact hki ((List.getElem?_inj hk1 hnd).1 (hd'.trans hd.symm))
    rw [if_neg hne]
    exact hlast k i f' hf' (λe=>hki e.symm) (λo2 ho2 e he hbe hei=>by have:=hI.down k o2 ho2 hk e he hbe;rw [hei,hun'] at this;cases this) _ _ _ hb (hI.fact k d' f' hd' hf' hk)
  ·intro k o' hk hbk e he hbe;rw [get_set b i k hbi] at hbk;rw [get_set b i e.on hbi];by_cases hki:k=i
   ·subst hki;obtain rfl:o=o':=by rw [ho'] at hk;exact DX.inj hk
    have:=hall e (by simpa using he) hbe;by_cases h:e.on=k
    ·rw [if_pos h]
    ·rw [if_neg h];exact this
   ·rw [if_neg hki] at hbk;have:=hI.down k o' hk hbk e he hbe;by_cases h:e.on=i
    ·rw [if_pos h]
    ·rw [if_neg h];exact this
  ·intro k hk
   rw [get_set b i k hbi,if_neg (λe=>by
    rcases hk with hk | hk
    ·omega
    ·rw [e,hil] at hk;cases hk)]
   exact hI.rest k hk
 unfold wpOp;simp only [ho];rw [hw];by_cases hwant:Ex o (yld l a.eval)=true
 ·rw [if_pos hwant];refine .inl ?_;unfold Oper.wp;cases h1 hwant with
  | value v w' hrun hb hfv=>rw [hrun,Oper.upon_value];exact key v w' hb hfv
  | enter g args hrun hc=>
    rw [hrun,Oper.upon_enter];refine hc.mono ?_;rintro e w' ⟨v,rfl,hb,hfv⟩;exact key v w' hb hfv
 ·rw [if_neg hwant]
  exact key undef w (hid i w) (h2 (by simpa using hwant))
theorem XXcCR {P:Prop} (h:P:=by
 intro hk hlk hbk;have hkl:k<l.length:=by omega
 rcases Classical.em (∃e∈(l[k]).after.toList,Eu .any e=true/\b.getD e.on false=false) with h | h
 ·obtain ⟨e,he,hb,hbe⟩:=h;have:=hback k _ (C0 hkl) e he hb;exact ihk e.on this (by omega) (hfree k _ (C0 hkl) hk hlk e he hb) hbe
 ·refine ⟨k,mem_ready.2 ⟨?_,l[k],by simp [hkl],λe he hb=>?_⟩⟩
  ·have:k<b.size:=by rw [hI.bsize];exact hkl
   rw [Ag] at hbk ⊢;simpa [this] using hbk
  ·cases hbe:b.getD e.on false with
   | true=>rfl
   | false=>exact absurd ⟨e,by simpa using he,hb,hbe⟩ h):P:=h
theorem XXuDq {P:Prop} (h:P:=by
 obtain ⟨hun,o,ho,hal⟩:=mem_ready.1 hi;have hbi:i<b.size:=by rw [hI.bsize];omega
 have hun':b.getD i false=false:=by rw [Ag] at hun ⊢;simpa [hbi] using hun
 have e:(Df m).countP (λk=>!(b.setIfInBounds i true).getD k false && !lm.getD k false)=(Df m).countP (λk=>(!b.getD k false && !lm.getD k false) && !(k==i)):=by
  refine List.countP_congr λk _=>?_;rw [get_set b i k hbi];by_cases h:k=i
  ·simp [h]
  ·simp [h]
 have:=count_less (λk=>!b.getD k false && !lm.getD k false) i (by rw [hun',hil];rfl) (Df m) (by simpa using him);rw [e]
 omega):P:=h
theorem XX5Ks {P:Prop} (h:P:=by
 have:=marks_sub b hI.down l.length i _ (λk hk=>(get_set_sub _ _ _ hk).imp_right λh=>by
  rw [Ag] at h;rcases D9 k l.length with hkl | hkl
  ·simp [hkl] at h
  ·simp [hkl] at h) (λo2 ho2 e he hb=>by
   obtain rfl:o=o2:=by rw [ho'] at ho2;exact DX.inj ho2
   exact hal e (by simpa using he) hb) k hmk
 rcases this with h' | h'
 ·subst h';rcases h with h | h
  ·omega
  ·rw [hlk] at h;cases h
 ·rw [hbk] at h';cases h'):P:=h
theorem XXSDj {P:Prop} (h:P:=by
 refine ⟨?_,?_⟩
 ·rcases D9 i m with h | h
  ·exact h
  ·exact absurd (.inl h) key
 ·cases h:lm.getD i false with
  | false=>rfl
  | true=>exact absurd (.inr h) key):P:=h
theorem all_of (hm:m<=l.length) (hdst:(l.take m).map (·.dst)=ds.map some) (hnd:ds.Nodup) (hsz:∀d∈ds,d<a0.tmps.size) (hlen:fs.length=m)
 (hK:∀(b:Array Bool) (k:Nat) (w w':World),k<m->b.getD k false=false->K b w->R k w w'->K (b.setIfInBounds k true) w') (hid:∀k w,R k w w) (hlast:∀(k j:Nat) (f:Fact),fs[k]?=some f->j≠k->(∀o,l[k]?=some o->∀e∈o.after.toList,Eu .any e=true->e.on≠j)->∀v w w',R j w w'->f v w->f v w') (hidle:∀(k:Nat) (f:Fact),fs[k]?=some f->lm.getD k false=true->∀v w,f v w)
 (hfine:∀(k:Nat) (o:Oper) (f:Fact),l[k]?=some o->fs[k]?=some f->lm.getD k false=false->FineR P l fs R K a0 ds k o f)
 (hback:∀(k:Nat) (o:Oper),l[k]?=some o->∀e∈o.after.toList,Eu .any e=true->e.on<k)
 (hfree:∀(k:Nat) (o:Oper),l[k]?=some o->k<m->lm.getD k false=false->∀e∈o.after.toList,Eu .any e=true->lm.getD e.on false=false)
 (hcov:∀i,i<l.length->m<=i∨lm.getD i false=true->∀k,k<m->lm.getD k false=false->(marks l l.length ((Aj l.length false).setIfInBounds i true)).getD k false=true)
 (hrest:∀(g:Nat->Value) (w:World),K (fill l.length m lm) w->facts g w ds fs->wpAnyH P .any l.toArray Q (λ_=>True) r (fill l.length m lm) (putg g ds a0) w) :
 ∀(n:Nat) (b:Array Bool) (a:Act) (w:World),Inv l fs K a0 m ds lm b a w->(Df m).countP (λk=>!b.getD k false && !lm.getD k false)+r<=n->wpAnyH P .any l.toArray Q (λ_=>True) n b a w:=by
 have base:∀(b:Array Bool) (a:Act) (w:World),Inv l fs K a0 m ds lm b a w->(Df m).countP (λk=>!b.getD k false && !lm.getD k false)=0->wpAnyH P .any l.toArray Q (λ_=>True) r b a w:=by
  intro b a w hI hc;have hall:∀k,k<m->lm.getD k false=false->b.getD k false=true:=λk hk hl=>by have:=List.countP_eq_zero.1 hc k (by simpa using hk);rw [hl] at this;simpa using this
  have hb:b=fill l.length m lm:=by
   refine Array.ext (by simp [fill,hI.bsize]) λi h1 h2=>?_;have e:b.getD i false=b[i]:=by simp [Ag,h1]
   rw [←e];have e2:(fill l.length m lm)[i]=(decide (i<m) && !lm.getD i false):=by simp [fill]
   rw [e2];rcases D9 i m with hi | hi
   ·cases hl:lm.getD i false with
    | true=>rw [hI.rest i (.inr hl)];simp
    | false=>rw [hall i hi hl];simp [hi]
   ·rw [hI.rest i (.inl hi)];simp [show¬i<m by omega]
  have:=hrest _ w (hb ▸ hI.bel) (facts_of (λd=>a.eval (.tmp d)) ds fs λk d f hd hf=>by
   cases hl:lm.getD k false with
   | true=>exact hidle k f hf hl _ _
   | false=>exact hI.fact k d f hd hf (hall k (by have:=(List.getElem?_eq_some_iff.1 hf).1;omega) hl))
  rw [←act_of hI,←hb] at this;exact this
 intro n
 induction n with
 | zero=>
   intro b a w hI hn
   have:=base b a w hI (by omega);rw [show r=0 by omega] at this;exact this
 | succ n ih=>
   intro b a w hI hn;by_cases hc:(Df m).countP (λk=>!b.getD k false && !lm.getD k false)=0
   ·have h2:=wpAnyH_up r (n+1-r) _ _ _ (base b a w hI hc);rw [show r+(n+1-r)=n+1 by omega] at h2;exact h2
   ·
    have hex:∃k,k<m/\lm.getD k false=false/\b.getD k false=false:=by
     rcases Classical.em (∃k,k<m/\lm.getD k false=false/\b.getD k false=false) with h | h
     ·exact h
     ·refine absurd ?_ hc;rw [List.countP_eq_zero];intro k hk;have hk':k<m:=by simpa using hk
      cases hl:lm.getD k false with
      | true=>simp
      | false=>
        cases hb:b.getD k false with
        | true=>simp
        | false=>exact absurd ⟨k,hk',hl,hb⟩ h
    have hin:∀i∈Ew .any l.toArray b,i<m/\lm.getD i false=false:=by
     intro i hi;obtain ⟨hun,o,ho,hal⟩:=mem_ready.1 hi;have ho':l[i]?=some o:=by simpa using ho
     have hil:i<l.length:=(List.getElem?_eq_some_iff.1 ho').1;have key:m<=i∨lm.getD i false=true->False:=by intro h;obtain ⟨k,hk,hlk,hbk⟩:=hex;have hmk:=hcov i hil h k hk hlk;exact XX5Ks
     exact XXSDj
    have hne:Ew .any l.toArray b≠ []:=by
     have:∀k,k<m->lm.getD k false=false->b.getD k false=false->∃i,i∈Ew .any l.toArray b:=by
      intro k
      induction k using Nat.strongRecOn with
      | _ k ihk=>
        exact XXcCR
     obtain ⟨k,hk,hlk,hbk⟩:=hex;obtain ⟨i,hi⟩:=this k hk hlk hbk;intro h0;rw [h0] at hi;cases hi
    refine wpAnyH_all rfl hne ?_;intro i hi;obtain ⟨him,hil⟩:=hin i hi
    refine wpOp_mono (λa' w' h'=>⟨trivial,ih _ a' w' h' ?_⟩) (step hm hdst hnd hsz hlen hK hid hlast hfine hI him hil hi);exact XXuDq
theorem Goes.mono {o:Oper} {ev:Operand->Value} {f f':Fact} {w:World} (h:Goes P o ev f w) (hf:∀v w,f v w->f' v w):Goes P o ev f' w:=by
 cases h with
 | value v w' hrun hb hfv=>exact .value v w' hrun hb (hf _ _ hfv)
 | enter g args hrun hc=>
   exact XXmLr
theorem Goes.same {o:Oper} {ev:Operand->Value} {w:World} {v:Value} (h:(execOp ev o).run P w=.ok (.value v) w):Goes P o ev (λx _=>x=v) w:=
 .value v w h (Ao _ _) rfl
def When (b want:Bool) (f:Fact):Fact:=λv w=>b=want->f v w
theorem Lasts.when {b want:Bool} {f:Fact} (h:Lasts f):Lasts (When b want f):=λv w w' hb hf e=>h v w w' hb (hf e)
theorem Lasts.eq (x:Value):Lasts (λv _=>v=x):=λ_ _ _ _ h=>h
theorem fine {o:Oper} {f:Fact} (hg:o.guard=none) (h:∀(ev:Operand->Value) (w:World),Reads a0 ds ev->Below W.heap.size W w->has l fs ev w o.after.toList->Goes P o ev f w):Fine P l fs W a0 ds o f:=
 λev w h1 h2 h3=>⟨λ_=>h ev w h1 h2 h3,λhw=>by simp [Ex,hg] at hw⟩
theorem fine_when {o:Oper} {f:Fact} {b want:Bool} (j d:Nat) (hg:o.guard=some (j,want)) (hd:(l[j]?).bind (·.dst)=some d) (hb:∀(ev:Operand->Value) (w:World),has l fs ev w o.after.toList->ev (.tmp d)=ZW b)
 (h:b=want->∀(ev:Operand->Value) (w:World),Reads a0 ds ev->Below W.heap.size W w->has l fs ev w o.after.toList->Goes P o ev f w):Fine P l fs W a0 ds o (When b want f):=by
 intro ev w h1 h2 h3;have e:Ex o (yld l ev)=(some b==some want):=by simp only [Ex,hg,yld,hd,hb ev w h3]
 rw [e];refine ⟨λhw=>?_,λhw hbw=>?_⟩
 ·have hbw:b=want:=by simpa using hw
  exact (h hbw ev w h1 h2 h3).mono λ_ _ hf _=>hf
 ·rw [hbw] at hw;simp at hw
def All (P:Program) (l:List Oper) (fs:List Fact) (W:World) (a0:Act) (ds:List Nat):List Bool->List Oper->List Fact->Prop
 | [],o::os,f::gs=>Fine P l fs W a0 ds o f/\All P l fs W a0 ds [] os gs
 | false::bs,o::os,f::gs=>Fine P l fs W a0 ds o f/\All P l fs W a0 ds bs os gs
 | true::bs,_::os,_::gs=>True/\All P l fs W a0 ds bs os gs
 | _,_,_=>True
theorem all_at:∀{bs:List Bool} {os:List Oper} {gs:List Fact},All P l fs W a0 ds bs os gs->∀(k:Nat) (o:Oper) (f:Fact),os[k]?=some o->gs[k]?=some f->bs.getD k false=false->Fine P l fs W a0 ds o f
 | [],_ :: _,_ :: _,h,0,o,f,ho,hf,_=>by simp at ho hf;subst ho hf;exact h.1
 | [],_ :: _,_ :: _,h,k+1,o,f,ho,hf,hb=>all_at (bs:= []) h.2 k o f (by simpa using ho) (by simpa using hf) (by simp)
 | false :: _,_ :: _,_ :: _,h,0,o,f,ho,hf,_=>by simp at ho hf;subst ho hf;exact h.1
 | true :: _,_ :: _,_ :: _,h,0,o,f,ho,hf,hb=>by simp at hb
 | false :: _,_ :: _,_ :: _,h,k+1,o,f,ho,hf,hb=>all_at h.2 k o f (by simpa using ho) (by simpa using hf) (by simpa using hb)
 | true :: _,_ :: _,_ :: _,h,k+1,o,f,ho,hf,hb=>all_at h.2 k o f (by simpa using ho) (by simpa using hf) (by simpa using hb)
 | _,[],_,_,k,o,f,ho,hf,_=>by simp at ho
 | _,_ :: _,[],_,k,o,f,ho,hf,_=>by simp at hf
def Every (fs:List Fact):Prop:=match fs with
 | []=>True
 | f::fs=>Lasts f/\Every fs
theorem every_at:∀{fs:List Fact},Every fs->∀f∈fs,Lasts f
 | [],_,f,hf=>by simp at hf
 | g::fs,h,f,hf=>by
   rcases CV.1 hf with rfl | hf
   ·exact h.1
   ·exact every_at h.2 f hf
def Idle:List Bool->List Fact->Prop
 | true::bs,f::fs=>(∀v w,f v w)/\Idle bs fs
 | false::bs,_::fs=>Idle bs fs
 | _,_=>True
theorem idle_at:∀{bs:List Bool} {fs:List Fact},Idle bs fs->∀(k:Nat) (f:Fact),fs[k]?=some f->bs.getD k false=true->∀v w,f v w
 | [],_,_,k,f,_,hb=>by simp at hb
 | true :: _,_ :: _,h,0,f,hf,_=>by simp at hf;subst hf;exact h.1
 | false :: _,_ :: _,_,0,f,_,hb=>by simp at hb
 | true :: _,_ :: _,h,k+1,f,hf,hb=>idle_at h.2 k f (by simpa using hf) (by simpa using hb)
 | false::bs,_::fs,h,k+1,f,hf,hb=>idle_at (bs:=bs) (fs:=fs) h k f (by simpa using hf) (by simpa using hb)
 | _ :: _,[],_,k,f,hf,_=>by simp at hf
theorem XXjkq {P:Prop} (h:P:=by
 intro k o hk e he hb;have:=h4 k (List.getElem?_eq_some_iff.1 hk).1;rw [hk] at this;simp only [List.all_eq_true,AB,As,A7,decide_eq_true_eq] at this;rcases this e he with h | ⟨h,h'⟩
 ·rw [hb] at h;cases h
 ·refine ⟨h,λhk hl=>?_⟩;rcases h' with (h' | h') | h'
  ·rw [hl] at h';cases h'
  ·omega
  ·exact h'):P:=h
theorem region_gen (m:Nat) (ds:List Nat) (fs:List Fact) (lm:List Bool) (r:Nat) (p:Tree.Plan) {id:Nat} {a0:Act} {w:World} (hmo:P.follows .mixedOrders=true) (hg:good l m ds lm r=true) (hns:Region.noSelect l.toArray=true)
 (hp:Tree.fits l.toArray p r (fill l.length m lm)=true) (hQ:∀c a d v w,Q (.panic c) (Ab a d v) w->Q (.panic c) a w)
 (hsz:ds.all (λd=>decide (d<a0.tmps.size))=true) (hlen:fs.length=m) (hK0:K (Aj l.length false) (w.drewN 1)) (hK:∀(b:Array Bool) (k:Nat) (w w':World),k<m->b.getD k false=false->K b w->R k w w'->K (b.setIfInBounds k true) w') (hid:∀k w,R k w w) (hlast:∀(k j:Nat) (f:Fact),fs[k]?=some f->j≠k->(∀o,l[k]?=some o->∀e∈o.after.toList,Eu .any e=true->e.on≠j)->∀v w w',R j w w'->f v w->f v w') (hidle:Idle lm fs)
 (hfine:∀(k:Nat) (o:Oper) (f:Fact),l[k]?=some o->fs[k]?=some f->lm.getD k false=false->FineR P l fs R K a0 ds k o f)
 (hrest:∀(g:Nat->Value) (w':World),K (fill l.length m lm) w'->facts g w' ds fs->Tree.Step P l.toArray Q (λ_=>True) (Fk l p) (putg g ds a0) w'):(Code.region id l.toArray true).wp P Q a0 w:=by
 simp only [good,As,List.all_eq_true,decide_eq_true_eq,List.mem_range,AB] at hg;obtain ⟨h1,h2,h3,h4,h5,h6⟩:=hg;refine wp_region_held (S:=λ_=>True) hmo ?_;have hb4:∀(k:Nat) (o:Oper),l[k]?=some o->∀e∈o.after.toList,Eu .any e=true->e.on<k/\(k<m->lm.getD k false=false->lm.getD e.on false=false):=by exact XXjkq
 have hcov:∀i,i<l.length->m<=i∨lm.getD i false=true->∀k,k<m->lm.getD k false=false->(marks l l.length ((Aj l.length false).setIfInBounds i true)).getD k false=true:=by
  intro i hi hmi k hk hl;rcases h5 i hi with ⟨h,h'⟩ | h
  ·rcases hmi with hmi | hmi
   ·omega
   ·rw [hmi] at h';cases h'
  ·rcases h k hk with h | h
   ·rw [hl] at h;cases h
   ·exact h
 have hsz':∀d∈ds,d<a0.tmps.size:=by simpa using hsz
 have hI:Inv l fs K a0 m ds lm (Aj l.length false) a0 (w.drewN 1):=by
  have hrep:∀k,(Aj l.length false).getD k false=false:=λk=>by rw [Ag];rcases D9 k l.length with h | h<;>simp [h]
  refine ⟨hK0,rfl,rfl,λ_ _=>rfl,λk d f _ _ h=>?_,λk o _ h=>?_,by simp,λk _=>hrep k⟩
  ·rw [hrep] at h;cases h
  ·rw [hrep] at h;cases h
 have:=all_of (P:=P) (Q:=Q) (r:=r) h1 h2 h3 hsz' hlen hK hid hlast (idle_at hidle) hfine (λk o hk e he hb=>(hb4 k o hk e he hb).1)
  (λk o hk hkm hl e he hb=>(hb4 k o hk e he hb).2 hkm hl) hcov
  (λg w' hb hf=>Tree.held_of_walk hns hQ p _ _ _ w' hp trivial (hrest g w' hb hf).out) l.length _ a0 (w.drewN 1) hI (by
    have:(Df m).countP (λk=>!(Aj l.length false).getD k false && !lm.getD k false)<=(Df m).countP (λk=>!lm.getD k false):=
     List.countP_mono_left λk _ hk=>by simp at hk;simpa using hk.2
    omega)
 simpa [World.drewN] using this
theorem region_late (m:Nat) (ds:List Nat) (fs:List Fact) (lm:List Bool) (r:Nat) (p:Tree.Plan) {id:Nat} {a0:Act} {w:World} (hmo:P.follows .mixedOrders=true) (hg:good l m ds lm r=true) (hns:Region.noSelect l.toArray=true)
 (hp:Tree.fits l.toArray p r (fill l.length m lm)=true) (hQ:∀c a d v w,Q (.panic c) (Ab a d v) w->Q (.panic c) a w)
 (hsz:ds.all (λd=>decide (d<a0.tmps.size))=true) (hlen:fs.length=m) (hlast:Every fs) (hidle:Idle lm fs) (hfine:All P l fs (w.drewN 1) a0 ds lm l fs)
 (hrest:∀(g:Nat->Value) (w':World),Below w.heap.size w w'->facts g w' ds fs->Tree.Step P l.toArray Q (λ_=>True) (Fk l p) (putg g ds a0) w'):(Code.region id l.toArray true).wp P Q a0 w:=
 region_gen (K:=λ_ w'=>Below (w.drewN 1).heap.size (w.drewN 1) w') (R:=λ_ w w'=>Below w.heap.size w w') m ds fs lm r p hmo hg hns hp hQ hsz hlen (Ao _ _)
  (λ_ _ _ _ _ _ h h'=>h.trans (h'.mono h.size)) (λ_ _=>Ao _ _) (λ_ _ f hf _ _=>every_at hlast f (CZ hf)) hidle
  (λk o f ho hf hl ev _ w' h1 h2 _ h4=>⟨λhw=>((all_at hfine k o f ho hf hl ev w' h1 h2 h4).1 hw).gen λ_ h=>h,(all_at hfine k o f ho hf hl ev w' h1 h2 h4).2⟩)
  λg w' hb hf=>hrest g w' ((Ak (Ao w.heap.size w) 1).trans hb) hf
theorem region (m:Nat) (ds:List Nat) (fs:List Fact) (p:Tree.Plan) {id:Nat} {a0:Act} {w:World} (hmo:P.follows .mixedOrders=true) (hg:good l m ds [] (l.length-m)=true) (hns:Region.noSelect l.toArray=true)
 (hp:Tree.fits l.toArray p (l.length-m) (fill l.length m [])=true) (hQ:∀c a d v w,Q (.panic c) (Ab a d v) w->Q (.panic c) a w)
 (hsz:ds.all (λd=>decide (d<a0.tmps.size))=true) (hlen:fs.length=m) (hlast:Every fs) (hfine:All P l fs (w.drewN 1) a0 ds [] l fs)
 (hrest:∀(g:Nat->Value) (w':World),Below w.heap.size w w'->facts g w' ds fs->Tree.Step P l.toArray Q (λ_=>True) (Fk l p) (putg g ds a0) w'):(Code.region id l.toArray true).wp P Q a0 w:=
 region_late m ds fs [] (l.length-m) p hmo hg hns hp hQ hsz hlen hlast trivial hfine hrest
theorem region_all (m:Nat) (ds:List Nat) (fs:List Fact) {id:Nat} {a0:Act} {w:World} (hmo:P.follows .mixedOrders=true) (hg:good l m ds [] (l.length-m)=true) (hns:Region.noSelect l.toArray=true)
 (hp:Tree.fits l.toArray .done (l.length-m) (fill l.length m [])=true) (hQ:∀c a d v w,Q (.panic c) (Ab a d v) w->Q (.panic c) a w)
 (hsz:ds.all (λd=>decide (d<a0.tmps.size))=true) (hlen:fs.length=m) (hlast:Every fs) (hfine:All P l fs (w.drewN 1) a0 ds [] l fs)
 (hrest:∀(g:Nat->Value) (w':World),Below w.heap.size w w'->facts g w' ds fs->Q .normal (putg g ds a0) w'):(Code.region id l.toArray true).wp P Q a0 w:=
 region m ds fs .done hmo hg hns hp hQ hsz hlen hlast hfine λg w' hb hf=>by rw [Fk];exact Fj (hrest g w' hb hf)
end
abbrev _root_.Go.Proofs.YtnabkcglnbdfeaaGreatDoor.eQ (x:Value):Fact:=λv _=>v=x
abbrev _root_.Go.Proofs.YtnabkcglnbdfeaaGreatDoor.eP (g k:Nat):Fact:=eQ (ZV (some ⟨g,k,none⟩))
theorem std {P:Prop} (h:P:=by simp [Each.has,Region.binds] at hh;refine Each.Goes.same ?_;go_simp;(try with_reducible rfl);first | done | fail):P:=h
end Go.Proofs.YtnabkcglnbdfeaaGreatDoor.Each
namespace Go.Proofs.YtnabkcglnbdfeaaGreatDoor.Rec
open Go.RowKit Base Txt
section
set_option maxHeartbeats 1000000
theorem plainOf_any (V:Value) (r:R) (w:World) (h:Reads w V r):Calls Gq 180 #[V] w λe w'=>e=.returned (ZU #[ZY r.m,ZY r.x,ZZ ZS r.k,ZW r.ch])/\Below w.heap.size w w':=by obtain ⟨fa,fc,ba,bc,ta,tc,rfl,h1,h2,h3⟩:=h;clear h1 h2 h3;obtain ⟨m,x,k,fs,ch,body,ts⟩:=r;go_enter Tryz.func180,Tryz.ntmps180;go_wp2;refine bodyPost_ret (v:=ZU #[ZY m,ZY x,ZZ ZS k,ZW ch]) (by simp [results,Tryz.results180,go_sem]) rfl ⟨rfl,?_⟩;exact ((Ao _ _).alloc (D5 _) _).alloc (by simp) _
end
def plainEq (a b:R):Bool:=decide (a.m=b.m)&&(decide (a.x=b.x)&&(decide (a.k=b.k)&&decide (a.ch=b.ch)))
theorem ba_list_inj {a b:List UInt8}:ba a=ba b↔a=b:=⟨λh=>by have:=congrArg (λx:ByteArray=>x.data.toList) h;simpa [ba] using this,λh=>by rw [h]⟩
section
set_option maxHeartbeats 1000000
theorem bytesEq_any (a:Option Addr) (n cap:Nat) (xs:List UInt8) (b:Option Addr) (m cap2:Nat) (ys:List UInt8) (w:World) (hx:Nums .u8 w a n (nums xs)) (hy:Nums .u8 w b m (nums ys)) :
 Calls Gq 182 #[.slice a n cap,.slice b m cap2] w λe w'=>e=.returned (ZW (decide (xs=ys)))/\w'=w:=by
 have h1:=conv_str w a n cap xs hx;have h2:=conv_str w b m cap2 ys hy;have e:decide (xs=ys)=((ba xs).toList==(ba ys).toList):=by rw [ba_beq,Ay,decide_eq_true_eq,decide_eq_true_eq,ba_list_inj]
 rw [e];clear e hx hy;go_enter Tryz.func182,Tryz.ntmps182;go_wp2;go_ret;exact ⟨rfl,rfl⟩
theorem same_parts (r r':R):(((plainEq r r'&&decide (r.fs=r'.fs))&&decide (r.body=r'.body))&&decide (r.ts=r'.ts))=same r r':=by unfold plainEq same;cases decide (r.m=r'.m)<;>cases decide (r.x=r'.x)<;>cases decide (r.k=r'.k)<;>cases decide (r.fs=r'.fs)<;>cases decide (r.ch=r'.ch)<;>simp
theorem XXVHZ {P:Prop} (h:P:=by refine Each.fine rfl (λev w1 hR hb hh=>?_);have e2:=hR.old 2 rfl;have e3:=hR.old 3 rfl;simp only [Ag,C6,Cy,Cz,DV] at e2 e3;have q0:=(HA.out.below hb).c 0 _ rfl;have q1:=(HA.out.below hb).c 1 _ rfl;have q2:=(HA.out.below hb).c 2 _ rfl;have q3:=(HA.out.below hb).c 3 _ rfl;have q4:=(HA.out.below hb).c 4 _ rfl;have q5:=(HA.out.below hb).c 5 _ rfl;have q6:=(HA.out.below hb).c 6 _ rfl;have q0:=(HB.out.below hb).c 0 _ rfl;have q1:=(HB.out.below hb).c 1 _ rfl;have q2:=(HB.out.below hb).c 2 _ rfl;have q3:=(HB.out.below hb).c 3 _ rfl;have q4:=(HB.out.below hb).c 4 _ rfl;have q5:=(HB.out.below hb).c 5 _ rfl;have q6:=(HB.out.below hb).c 6 _ rfl;exact Each.std):P:=h
theorem _root_.Go.Proofs.YtnabkcglnbdfeaaGreatDoor.XXqTe {P:Prop} (h:P:=by
 refine Each.Goes.same ?_;go_simp
 try with_reducible rfl):P:=h
theorem same_any (V V':Value) (r r':R) (w:World) (h:Reads w V r) (h':Reads w V' r') (hf:Fit r) (hf':Fit r'):Calls Gq 154 #[V,V'] w λe w'=>e=.returned (ZW (same r r'))/\Below w.heap.size w w':=by
 rw [←same_parts];have HF:=BN hf;have HF':=BN hf';have HV:=BN h;have HV':=BN h';obtain ⟨fa,fc,ba,bc,ta,tc,rfl,h1,h2,h3⟩:=h;obtain ⟨fa',fc',ba',bc',ta',tc',rfl,h1',h2',h3'⟩:=h';have H1:=BN h1;have H2:=BN h2;have H3:=BN h3;have H1':=BN h1';have H2':=BN h2';have H3':=BN h3';clear h1 h2 h3 h1' h2' h3';clear hf hf';go_enter Tryz.func154,Tryz.ntmps154;go_wp2_with fail
 have hbw0:=BN ((((Ao _ _).alloc (D5 _) (.cells #[ZY r.m,ZY r.x,ZZ ZS r.k,.slice fa r.fs.length fc,ZW r.ch,.slice ba r.body.length bc,.slice ta r.ts.length tc] 58)).alloc (by simp) (.cells #[ZY r'.m,ZY r'.x,ZZ ZS r'.k,.slice fa' r'.fs.length fc',ZW r'.ch,.slice ba' r'.body.length bc',.slice ta' r'.ts.length tc'] 58)):Below w.heap.size w _)
 have hbw:=BN (Ak hbw0.out 1)
 have HA:=BN (((Bk.new w w.heap.size rfl 58 [ZY r.m,ZY r.x,ZZ ZS r.k,.slice fa r.fs.length fc,ZW r.ch,.slice ba r.body.length bc,.slice ta r.ts.length tc]).alloc (.cells #[ZY r'.m,ZY r'.x,ZZ ZS r'.k,.slice fa' r'.fs.length fc',ZW r'.ch,.slice ba' r'.body.length bc',.slice ta' r'.ts.length tc'] 58)).drew 1)
 have HB:=BN ((Bk.new (w.alloc (.cells #[ZY r.m,ZY r.x,ZZ ZS r.k,.slice fa r.fs.length fc,ZW r.ch,.slice ba r.body.length bc,.slice ta r.ts.length tc] 58)) (w.heap.size+1) (by simp) 58 [ZY r'.m,ZY r'.x,ZZ ZS r'.k,.slice fa' r'.fs.length fc',ZW r'.ch,.slice ba' r'.body.length bc',.slice ta' r'.ts.length tc']).drew 1)
 have HR:=BN (HV.out.below hbw.out)
 have HR':=BN (HV'.out.below hbw.out)
 replace H1:=BN (H1.out.below hbw.out);replace H2:=BN (H2.out.below hbw.out);replace H3:=BN (H3.out.below hbw.out)
 replace H1':=BN (H1'.out.below hbw.out);replace H2':=BN (H2'.out.below hbw.out);replace H3':=BN (H3'.out.below hbw.out)
 clear HV HV';refine Each.region_all 27 [5,6,7,8,9,10,11,12,13,14,15,16,17,18,19,20,21,22,23,24,25,26,27,28,29,30,4] [eQ (ZU #[ZY r.m,ZY r.x,ZZ ZS r.k,.slice fa r.fs.length fc,ZW r.ch,.slice ba r.body.length bc,.slice ta r.ts.length tc]),eQ (ZU #[ZY r.m,ZY r.x,ZZ ZS r.k,ZW r.ch]),eQ (ZU #[ZY r'.m,ZY r'.x,ZZ ZS r'.k,.slice fa' r'.fs.length fc',ZW r'.ch,.slice ba' r'.body.length bc',.slice ta' r'.ts.length tc']),eQ (ZU #[ZY r'.m,ZY r'.x,ZZ ZS r'.k,ZW r'.ch]),eQ (ZW (plainEq r r')),eQ (ZW (plainEq r r')),Each.When (plainEq r r') true (λv _=>v=ZV (some ⟨w.heap.size,3,none⟩)),Each.When (plainEq r r') true (λv _=>v=.slice fa r.fs.length fc),Each.When (plainEq r r') true (λv _=>v=ZV (some ⟨w.heap.size+1,3,none⟩)),Each.When (plainEq r r') true (λv _=>v=.slice fa' r'.fs.length fc'),Each.When (plainEq r r') true (λv _=>v=ZW (decide (r.fs=r'.fs))),eQ (ZW ((plainEq r r'&&decide (r.fs=r'.fs)))),eQ (ZW ((plainEq r r'&&decide (r.fs=r'.fs)))),Each.When ((plainEq r r'&&decide (r.fs=r'.fs))) true (λv _=>v=ZV (some ⟨w.heap.size,5,none⟩)),Each.When ((plainEq r r'&&decide (r.fs=r'.fs))) true (λv _=>v=.slice ba r.body.length bc),Each.When ((plainEq r r'&&decide (r.fs=r'.fs))) true (λv _=>v=ZV (some ⟨w.heap.size+1,5,none⟩)),Each.When ((plainEq r r'&&decide (r.fs=r'.fs))) true (λv _=>v=.slice ba' r'.body.length bc'),Each.When ((plainEq r r'&&decide (r.fs=r'.fs))) true (λv _=>v=ZW (decide (r.body=r'.body))),eQ (ZW (((plainEq r r'&&decide (r.fs=r'.fs))&&decide (r.body=r'.body)))),eQ (ZW (((plainEq r r'&&decide (r.fs=r'.fs))&&decide (r.body=r'.body)))),Each.When (((plainEq r r'&&decide (r.fs=r'.fs))&&decide (r.body=r'.body))) true (λv _=>v=ZV (some ⟨w.heap.size,6,none⟩)),Each.When (((plainEq r r'&&decide (r.fs=r'.fs))&&decide (r.body=r'.body))) true (λv _=>v=.slice ta r.ts.length tc),Each.When (((plainEq r r'&&decide (r.fs=r'.fs))&&decide (r.body=r'.body))) true (λv _=>v=ZV (some ⟨w.heap.size+1,6,none⟩)),Each.When (((plainEq r r'&&decide (r.fs=r'.fs))&&decide (r.body=r'.body))) true (λv _=>v=.slice ta' r'.ts.length tc'),Each.When (((plainEq r r'&&decide (r.fs=r'.fs))&&decide (r.body=r'.body))) true (λv _=>v=ZW (decide (r.ts=r'.ts))),eQ (ZW ((((plainEq r r'&&decide (r.fs=r'.fs))&&decide (r.body=r'.body))&&decide (r.ts=r'.ts)))),eQ (ZW ((((plainEq r r'&&decide (r.fs=r'.fs))&&decide (r.body=r'.body))&&decide (r.ts=r'.ts))))] (by kernel_rfl) (by kernel_rfl) (by kernel_rfl) (by kernel_rfl) (λ_ _ d _ _ h=>by cases d<;>exact h) (by rfl) (by rfl) ⟨Each.Lasts.eq _,Each.Lasts.eq _,Each.Lasts.eq _,Each.Lasts.eq _,Each.Lasts.eq _,Each.Lasts.eq _,Each.Lasts.when (Each.Lasts.eq _),Each.Lasts.when (Each.Lasts.eq _),Each.Lasts.when (Each.Lasts.eq _),Each.Lasts.when (Each.Lasts.eq _),Each.Lasts.when (Each.Lasts.eq _),Each.Lasts.eq _,Each.Lasts.eq _,Each.Lasts.when (Each.Lasts.eq _),Each.Lasts.when (Each.Lasts.eq _),Each.Lasts.when (Each.Lasts.eq _),Each.Lasts.when (Each.Lasts.eq _),Each.Lasts.when (Each.Lasts.eq _),Each.Lasts.eq _,Each.Lasts.eq _,Each.Lasts.when (Each.Lasts.eq _),Each.Lasts.when (Each.Lasts.eq _),Each.Lasts.when (Each.Lasts.eq _),Each.Lasts.when (Each.Lasts.eq _),Each.Lasts.when (Each.Lasts.eq _),Each.Lasts.eq _,Each.Lasts.eq _,trivial⟩ ?_ ?_
 ·refine ⟨?_,?_,?_,?_,?_,?_,?_,?_,?_,?_,?_,?_,?_,?_,?_,?_,?_,?_,?_,?_,?_,?_,?_,?_,?_,?_,?_,trivial⟩
  ·exact XXVHZ
  ·refine Each.fine rfl (λev w1 hR hb hh=>?_);have e5:ev (.tmp 5)= _:=hh.at 0;clear hh;have ef:=hR.func
   refine Each.Goes.enter 180 #[ZU #[ZY r.m,ZY r.x,ZZ ZS r.k,.slice fa r.fs.length fc,ZW r.ch,.slice ba r.body.length bc,.slice ta r.ts.length tc]] (by go_simp) (((plainOf_any _ _ w1 (HR.out.below hb))).mono ?_);rintro e w2 ⟨rfl,hb2⟩;exact ⟨_,rfl,hb2,rfl⟩
  ·exact XXVHZ
  ·refine Each.fine rfl (λev w1 hR hb hh=>?_);have e7:ev (.tmp 7)= _:=hh.at 0;clear hh;have ef:=hR.func
   refine Each.Goes.enter 180 #[ZU #[ZY r'.m,ZY r'.x,ZZ ZS r'.k,.slice fa' r'.fs.length fc',ZW r'.ch,.slice ba' r'.body.length bc',.slice ta' r'.ts.length tc']] (by go_simp) (((plainOf_any _ _ w1 (HR'.out.below hb))).mono ?_);rintro e w2 ⟨rfl,hb2⟩;exact ⟨_,rfl,hb2,rfl⟩
  ·refine Each.fine rfl (λev w1 hR hb hh=>?_);have e6:ev (.tmp 6)= _:=hh.at 0;have e8:ev (.tmp 8)= _:=hh.at 1;clear hh;refine Each.Goes.same ?_;go_simp;unfold plainEq;by_cases g1:r.m=r'.m<;>by_cases g2:r.x=r'.x<;>by_cases g3:r.k=r'.k<;>by_cases g4:r.ch=r'.ch<;>simp [g1,g2,g3,g4,toList_iff]
  ·exact XXVHZ
  ·refine Each.fine_when 5 10 rfl rfl (λev w1 hh=>?_) (λhg ev w1 hR hb hh=>?_)
   ·exact hh.at 0
   ·clear hh;have e2:=hR.old 2 rfl;simp only [Ag,C6,Cy,Cz,DV] at e2;exact XXqTe
  ·refine Each.fine_when 5 10 rfl rfl (λev w1 hh=>?_) (λhg ev w1 hR hb hh=>?_)
   ·exact hh.at 1
   ·have e11:=(show ((plainEq r r')=true->ev (.tmp 11)=ZV (some ⟨w.heap.size,3,none⟩)) from hh.at 0) hg;clear hh;have q3:=(HA.out.below hb).c 3 _ rfl;exact XXqTe
  ·refine Each.fine_when 5 10 rfl rfl (λev w1 hh=>?_) (λhg ev w1 hR hb hh=>?_)
   ·exact hh.at 0
   ·clear hh;have e3:=hR.old 3 rfl;simp only [Ag,C6,Cy,Cz,DV] at e3;exact XXqTe
  ·refine Each.fine_when 5 10 rfl rfl (λev w1 hh=>?_) (λhg ev w1 hR hb hh=>?_)
   ·exact hh.at 1
   ·have e13:=(show ((plainEq r r')=true->ev (.tmp 13)=ZV (some ⟨w.heap.size+1,3,none⟩)) from hh.at 0) hg;clear hh;have q3:=(HB.out.below hb).c 3 _ rfl;exact XXqTe
  ·refine Each.fine_when 5 10 rfl rfl (λev w1 hh=>?_) (λhg ev w1 hR hb hh=>?_)
   ·exact hh.at 2
   ·have e12:=(show ((plainEq r r')=true->ev (.tmp 12)=.slice fa r.fs.length fc) from hh.at 0) hg;have e14:=(show ((plainEq r r')=true->ev (.tmp 14)=.slice fa' r'.fs.length fc') from hh.at 1) hg;clear hh;have ef:=hR.func
    refine Each.Goes.enter 181 #[.slice fa r.fs.length fc,.slice fa' r'.fs.length fc'] (by go_simp) (((fields_any fa _ fc _ fa' _ fc' _ w1 (H1.out.below hb) (H1'.out.below hb) (by have:=HF.out.fs;omega) (by have:=HF'.out.fs;omega))).mono ?_);rintro e w2 ⟨rfl,q,hb2⟩;exact ⟨_,rfl,(by subst hb2;exact Ak (Ao _ _) _),rfl⟩
  ·refine Each.fine rfl (λev w1 hR hb hh=>?_);have e10:ev (.tmp 10)= _:=hh.at 0;have h15:((plainEq r r')=true->ev (.tmp 15)=ZW (decide (r.fs=r'.fs))):=hh.at 1;clear hh;have ec:=hR.const;refine Each.Goes.same ?_;rcases Bool.eq_false_or_eq_true (plainEq r r') with hx | hx
   ·rw [hx] at e10 ⊢;have e15:=h15 hx;go_simp;try with_reducible rfl
   ·rw [hx] at e10 ⊢;go_simp;try with_reducible rfl
  ·exact XXVHZ
  ·refine Each.fine_when 12 17 rfl rfl (λev w1 hh=>?_) (λhg ev w1 hR hb hh=>?_)
   ·exact hh.at 0
   ·clear hh;have e2:=hR.old 2 rfl;simp only [Ag,C6,Cy,Cz,DV] at e2;exact XXqTe
  ·refine Each.fine_when 12 17 rfl rfl (λev w1 hh=>?_) (λhg ev w1 hR hb hh=>?_)
   ·exact hh.at 1
   ·have e18:=(show (((plainEq r r'&&decide (r.fs=r'.fs)))=true->ev (.tmp 18)=ZV (some ⟨w.heap.size,5,none⟩)) from hh.at 0) hg;clear hh;have q5:=(HA.out.below hb).c 5 _ rfl;exact XXqTe
  ·refine Each.fine_when 12 17 rfl rfl (λev w1 hh=>?_) (λhg ev w1 hR hb hh=>?_)
   ·exact hh.at 0
   ·clear hh;have e3:=hR.old 3 rfl;simp only [Ag,C6,Cy,Cz,DV] at e3;exact XXqTe
  ·refine Each.fine_when 12 17 rfl rfl (λev w1 hh=>?_) (λhg ev w1 hR hb hh=>?_)
   ·exact hh.at 1
   ·have e20:=(show (((plainEq r r'&&decide (r.fs=r'.fs)))=true->ev (.tmp 20)=ZV (some ⟨w.heap.size+1,5,none⟩)) from hh.at 0) hg;clear hh;have q5:=(HB.out.below hb).c 5 _ rfl;exact XXqTe
  ·refine Each.fine_when 12 17 rfl rfl (λev w1 hh=>?_) (λhg ev w1 hR hb hh=>?_)
   ·exact hh.at 2
   ·have e19:=(show (((plainEq r r'&&decide (r.fs=r'.fs)))=true->ev (.tmp 19)=.slice ba r.body.length bc) from hh.at 0) hg;have e21:=(show (((plainEq r r'&&decide (r.fs=r'.fs)))=true->ev (.tmp 21)=.slice ba' r'.body.length bc') from hh.at 1) hg;clear hh;have ef:=hR.func
    refine Each.Goes.enter 182 #[.slice ba r.body.length bc,.slice ba' r'.body.length bc'] (by go_simp) (((bytesEq_any ba _ bc _ ba' _ bc' _ w1 (H2.out.below hb) (H2'.out.below hb))).mono ?_);rintro e w2 ⟨rfl,hb2⟩;exact ⟨_,rfl,(by subst hb2;exact Ao _ _),rfl⟩
  ·refine Each.fine rfl (λev w1 hR hb hh=>?_);have e17:ev (.tmp 17)= _:=hh.at 0;have h22:(((plainEq r r'&&decide (r.fs=r'.fs)))=true->ev (.tmp 22)=ZW (decide (r.body=r'.body))):=hh.at 1;clear hh;have ec:=hR.const;refine Each.Goes.same ?_;rcases Bool.eq_false_or_eq_true ((plainEq r r'&&decide (r.fs=r'.fs))) with hx | hx
   ·rw [hx] at e17 ⊢;have e22:=h22 hx;go_simp;try with_reducible rfl
   ·rw [hx] at e17 ⊢;go_simp;try with_reducible rfl
  ·exact XXVHZ
  ·refine Each.fine_when 19 24 rfl rfl (λev w1 hh=>?_) (λhg ev w1 hR hb hh=>?_)
   ·exact hh.at 0
   ·clear hh;have e2:=hR.old 2 rfl;simp only [Ag,C6,Cy,Cz,DV] at e2;exact XXqTe
  ·refine Each.fine_when 19 24 rfl rfl (λev w1 hh=>?_) (λhg ev w1 hR hb hh=>?_)
   ·exact hh.at 1
   ·have e25:=(show ((((plainEq r r'&&decide (r.fs=r'.fs))&&decide (r.body=r'.body)))=true->ev (.tmp 25)=ZV (some ⟨w.heap.size,6,none⟩)) from hh.at 0) hg;clear hh;have q6:=(HA.out.below hb).c 6 _ rfl;exact XXqTe
  ·refine Each.fine_when 19 24 rfl rfl (λev w1 hh=>?_) (λhg ev w1 hR hb hh=>?_)
   ·exact hh.at 0
   ·clear hh;have e3:=hR.old 3 rfl;simp only [Ag,C6,Cy,Cz,DV] at e3;exact XXqTe
  ·refine Each.fine_when 19 24 rfl rfl (λev w1 hh=>?_) (λhg ev w1 hR hb hh=>?_)
   ·exact hh.at 1
   ·have e27:=(show ((((plainEq r r'&&decide (r.fs=r'.fs))&&decide (r.body=r'.body)))=true->ev (.tmp 27)=ZV (some ⟨w.heap.size+1,6,none⟩)) from hh.at 0) hg;clear hh;have q6:=(HB.out.below hb).c 6 _ rfl;exact XXqTe
  ·refine Each.fine_when 19 24 rfl rfl (λev w1 hh=>?_) (λhg ev w1 hR hb hh=>?_)
   ·exact hh.at 2
   ·have e26:=(show ((((plainEq r r'&&decide (r.fs=r'.fs))&&decide (r.body=r'.body)))=true->ev (.tmp 26)=.slice ta r.ts.length tc) from hh.at 0) hg;have e28:=(show ((((plainEq r r'&&decide (r.fs=r'.fs))&&decide (r.body=r'.body)))=true->ev (.tmp 28)=.slice ta' r'.ts.length tc') from hh.at 1) hg;clear hh;have ef:=hR.func
    refine Each.Goes.enter 181 #[.slice ta r.ts.length tc,.slice ta' r'.ts.length tc'] (by go_simp) (((fields_any ta _ tc _ ta' _ tc' _ w1 (H3.out.below hb) (H3'.out.below hb) (by have:=HF.out.ts;omega) (by have:=HF'.out.ts;omega))).mono ?_);rintro e w2 ⟨rfl,q,hb2⟩;exact ⟨_,rfl,(by subst hb2;exact Ak (Ao _ _) _),rfl⟩
  ·refine Each.fine rfl (λev w1 hR hb hh=>?_);have e24:ev (.tmp 24)= _:=hh.at 0;have h29:((((plainEq r r'&&decide (r.fs=r'.fs))&&decide (r.body=r'.body)))=true->ev (.tmp 29)=ZW (decide (r.ts=r'.ts))):=hh.at 1;clear hh;have ec:=hR.const;refine Each.Goes.same ?_;rcases Bool.eq_false_or_eq_true (((plainEq r r'&&decide (r.fs=r'.fs))&&decide (r.body=r'.body))) with hx | hx
   ·rw [hx] at e24 ⊢;have e29:=h29 hx;go_simp;try with_reducible rfl
   ·rw [hx] at e24 ⊢;go_simp;try with_reducible rfl
  ·exact XXVHZ
 intro g1 w2 hb hf;have z4:g1 4= _:=hf.at 26;clear hf;simp only [Each.putg,Ab,Di,Dl,Dk];rw [z4];go_wp2;go_ret;exact ⟨rfl,Al hbw0.out hb⟩
end
end Go.Proofs.YtnabkcglnbdfeaaGreatDoor.Rec
namespace Go.Proofs.YtnabkcglnbdfeaaGreatDoor.Txt
open Go.RowKit Base Oct
theorem stands_isIn (set:ByteArray) (x:UInt8):stands set.data.toList (x.toNat:Int)=isIn set x:=by
 unfold stands isIn;rw [Ay,List.any_eq_true,List.contains_iff_exists_mem_beq];constructor
 ·rintro ⟨b,hb,e⟩;exact ⟨b,hb,by rw [beq_iff_eq] at e ⊢;exact (Hg.1 (by omega)).symm⟩
 ·rintro ⟨b,hb,e⟩;rw [beq_iff_eq] at e;subst e;exact ⟨x,hb,by simp⟩
def Bytes (w:World) (g:Nat) (l:List UInt8):Prop:=∀j (h:j<l.length),w.cell? ⟨g,j,none⟩=some (ZZ ZR (l[j].toNat:Int))/\w.frozen? ⟨g,j,none⟩=false
theorem Bytes.set {w:World} {g:Nat} {l:List UInt8} (h:Bytes w g l) (k:Nat) (b:UInt8):Bytes (w.setCell ⟨g,k,none⟩ (ZZ ZR (b.toNat:Int))) g (l.set k b):=by
 intro j hj;rw [List.length_set] at hj;obtain ⟨c,z⟩:=h j hj;refine ⟨?_,by rw [World.frozen?_setCell];exact z⟩;by_cases e:k=j
 ·subst e;rw [World.cell?_setCell_same _ _ _ c,List.getElem_set_self]
 ·rw [World.cell?_setCell_other _ _ _ _ (by simp<;>omega),List.getElem_set_ne e];exact c
theorem _root_.Go.Proofs.YtnabkcglnbdfeaaGreatDoor.XXLUf {P:Prop} (h:P:=by
 have hcv:=run_bytes_of_string (P:=Gq) w 9 22 5 s GS GI GQ;refine ⟨_,_,hcv,λj hj=>?_,by simp,(Ao _ _).drew.alloc (D5 _) _⟩;have hj':j<s.data.size:=by simpa using hj
 refine ⟨(World.cell?_alloc_mark w.drew _ _ _ j).trans (bytesRow_at s _ j hj'),(World.frozen?_alloc_mark w.drew _ _ _ _ j).trans ?_⟩;have:¬(bytesRow s (grownCap w s.size 0 5)).size<=j:=by unfold bytesRow;rw [Array.size_append,Array.size_map];omega
 simp [this]):P:=h
theorem conv_bytes (s:ByteArray) (w:World):∃W cap,(convert 9 22 (ZY s)).run Gq w=.ok (ZX (some ⟨w.heap.size,0,none⟩) s.size cap) W/\Bytes W w.heap.size s.data.toList/\w.heap.size<W.heap.size/\Below w.heap.size w W:=by exact XXLUf
theorem mix_put (l:List UInt8) (k:Nat) (h:k<l.length):(mix l k).set k (lowB l[k])=mix l (k+1):=by
 unfold mix low;rw [List.set_append_right _ _ (by simp;omega),Dq h,Co h];have:k-(List.map lowB (List.take k l)).length=0:=by simp;omega
 rw [this,Dl,List.map_append,List.append_assoc];rfl
theorem mix_get (l:List UInt8) (k:Nat) (h:k<l.length):(mix l k)[k]'(by rw [mix_length];exact h)=l[k]:=by
 unfold mix low;rw [List.getElem_append_right (by simp;omega)];have:k-(List.map lowB (List.take k l)).length=0:=by simp;omega
 simp only [this,List.getElem_drop,Nat.add_zero]
theorem mix_skip (l:List UInt8) (k:Nat) (h:k<l.length) (e:lowB l[k]=l[k]):mix l k=mix l (k+1):=by rw [←mix_put l k h,e,←mix_get l k h,List.set_getElem_self]
def tbytes:Value->Nat
 | .string t=>t.size
 | _=>0
section
set_option maxHeartbeats 1000000
attribute [local go_sem] An
theorem XXoMT {P:Prop} (h:P:=by
 generalize (s.data.toList[k].toNat:Int)=x at *;go_wp2;go_roundw
 case rel=>exact ⟨k+1,by omega,by go_num,HS,hbr⟩
 case measure=>simp [intOf];omega):P:=h
theorem rlower_any (s:ByteArray) (w:World) (hs:s.size<=1099511627776):Calls Gq 179 #[ZY s] w λe w'=>e=.returned (ZY (lower s))/\Below w.heap.size w w':=by
 obtain ⟨W,cap,hcv,hB,hg,hb⟩:=conv_bytes s w
 have hB0:=BN (show Bytes W w.heap.size (mix s.data.toList 0) by rw [mix_zero];exact hB);have hb0:=BN hb;clear hB hb;go_enter Tryz.func179,Tryz.ntmps179;go_wp2;clear hcv;generalize hgw:w.heap.size=g at *;have HG:=BN hgw;clear hgw
 go_loopw [4] (λi wr=>∃k:Nat,k<=s.size/\i=ZZ ZS k/\Hid (Bytes wr g (mix s.data.toList k))/\Hid (Below g w wr)) (λi _=>s.size-(intOf i).toNat)
 case atStart=>exact ⟨0,DC _,rfl,hB0,hb0⟩
 case round=>
  obtain ⟨k,hk,rfl,hB,hbr⟩:=hrel;rcases D9 k s.size with hlt | hge
  ·have hll:k<s.data.toList.length:=by rw [len];exact hlt
   obtain ⟨hc,hz⟩:=hB.out k (by rw [mix_length];exact hll);rw [mix_get _ _ hll] at hc;have i1:(k:Int)<(s.size:Int):=by omega
   have hb0:0<=(s.data.toList[k].toNat:Int):=by omega
   have hb1:=byte_lt s.data.toList[k];by_cases hx:65<=s.data.toList[k].toNat/\s.data.toList[k].toNat<=90
   ·obtain ⟨x0,x1⟩:=hx;have e0:=lowB_toNat s.data.toList[k];have e1:lowN (s.data.toList[k].toNat:Int)=(s.data.toList[k].toNat:Int)+32:=by unfold lowN;rw [if_pos (by omega)]
    have hset:=(hB.out.set k (lowB s.data.toList[k]));rw [mix_put _ _ hll,e0,e1] at hset;have HS:=BN hset;have y0:(65:Int)<=(s.data.toList[k].toNat:Int):=by omega
    have y1:(s.data.toList[k].toNat:Int)<=90:=by omega
    clear e0 e1 hset x0 x1;generalize (s.data.toList[k].toNat:Int)=x at *;have e2:IntKind.u8.wrap (x+32)=x+32:=by rw [IntKind.wrap_u8];omega
    go_wp2;go_roundw
    case rel=>exact ⟨k+1,by omega,by go_num,HS,BN (hbr.out.setCell (D5 _) _)⟩
    case measure=>simp [intOf];omega
   ·have e0:lowB s.data.toList[k]=s.data.toList[k]:=by unfold lowB;rw [if_neg hx]
    have hB2:=hB.out;rw [mix_skip _ _ hll e0] at hB2;have HS:=BN hB2;clear hB2 e0;rcases D9 s.data.toList[k].toNat 65 with h | h
    ·have y0:¬(65:Int)<=(s.data.toList[k].toNat:Int):=by omega
     exact XXoMT
    ·have y0:(65:Int)<=(s.data.toList[k].toNat:Int):=by omega
     have y1:¬(s.data.toList[k].toNat:Int)<=90:=by omega
     exact XXoMT
  ·obtain rfl:k=s.size:=by omega
   have hconv:=run_convert_bytes_back (P:=Gq) wr 22 9 5 ⟨g,0,none⟩ cap (low s.data.toList) GI GQ GS (λj hj=>by
    have h1:=(hB.out j (by rw [mix_length];simpa [low] using hj)).1;have e:(⟨g,0,none⟩:Addr).add j=⟨g,j,none⟩:=by unfold Addr.add;by_cases h:j=0<;>simp [h]
    rw [e,h1]
    congr 4
    simp only [mix_all s.data.toList s.size (by rw [len];exact D5 _)])
   have hl:(low s.data.toList).length=s.size:=by rw [low,CK,len]
   rw [hl] at hconv;go_wp2;go_ret;exact ⟨rfl,by rw [HG.out];exact hbr.out⟩
theorem rsame_any (a b:ByteArray) (w:World) (ha:a.size<=1099511627776) (hb:b.size<=1099511627776):Calls Gq 151 #[ZY a,ZY b] w λe w'=>e=.returned (ZW (same a b))/\Below w.heap.size w w':=by
 have h1:=BN (λw=>rlower_any a w ha)
 have h2:=BN (λw=>rlower_any b w hb);have hr:((lower a).toList==(lower b).toList)=same a b:=by rw [BU,BU];rfl
 generalize lower a=x at *;generalize lower b=y at *;go_enter Tryz.func151,Tryz.ntmps151
 go_wp2_with (first
  |(go_at_call 179;with_reducible refine (h1.out _).mono ?_;rintro e w1 ⟨rfl,hb1⟩)
  |(go_at_call 179;with_reducible refine (h2.out _).mono ?_;rintro e w2 ⟨rfl,hb2⟩))
 go_ret;exact ⟨by rw [←hr];rfl,Al hb1 hb2⟩
theorem first_of (t:ByteArray) (h:0<t.size):t.data.toList=t[0]::t.data.toList.drop 1/\(t.extract 1 t.size).data.toList=t.data.toList.drop 1/\t.toList.isEmpty=false:=by
 have hl:0<t.data.toList.length:=by rw [len];exact h
 have e:t.data.toList=t[0]::t.data.toList.drop 1:=by
  conv=>lhs;rw [←List.drop_zero (l:=t.data.toList),Co hl]
  rfl
 refine ⟨e,?_,?_⟩
 ·rw [BK,Dp (by rw [CI,len];exact D5 _)]
 ·rw [BU,e];rfl
theorem last_of (t:ByteArray) (h:0<t.size):t.data.toList=t.data.toList.take (t.size-1) ++ [t[t.size-1]]/\(t.extract 0 (t.size-1)).data.toList=t.data.toList.take (t.size-1)/\t.toList.isEmpty=false:=by
 have e:=take_snoc t (t.size-1) (by omega);rw [show t.size-1+1=t.size by omega,take_all t _ (D5 _)] at e;refine ⟨e,?_,?_⟩
 ·rw [BK,List.drop_zero,Nat.sub_zero]
 ·rw [BU];cases hl:t.data.toList with
  | nil=>exfalso;have h2:=len t;rw [hl,List.length_nil] at h2;omega
  | cons _ _=>rfl
theorem in_any (x:UInt8) (r:Bool) (set:ByteArray) (w:World) (ht:set.size<=maxLen) (hq:isIn set x=r):Calls Gq 197 #[ZZ ZR x.toNat,ZY set] w λe w'=>e=.returned (ZW r)/\w'=w:=by have:=Oct.stands_any (x.toNat:Int) set w ht;rw [stands_isIn,hq] at this;exact this
theorem rtrimOf_any (s set:ByteArray) (w:World) (ht:set.size<=maxLen) (hs:s.size<=maxLen):Calls Gq 170 #[ZY s,ZY set] w λe w'=>e=.returned (ZY (trimOf s set))/\w'=w:=by
 unfold maxLen at hs;go_enter Tryz.func170,Tryz.ntmps170;go_wp2
 go_loop [0] (λx=>∃t:ByteArray,x=ZY t/\t.size<=s.size/\Hid (t.data.toList.dropWhile (isIn set)=s.data.toList.dropWhile (isIn set))) (λx=>tbytes x)
 case atStart=>exact ⟨s,rfl,D5 _,BN rfl⟩
 case round=>
  obtain ⟨t,rfl,hts,hdw⟩:=hrel;by_cases hgo:∃h:0<t.size,isIn set t[0]=true
  ·obtain ⟨h0,hq⟩:=hgo
   have HC:=BN (in_any t[0] true set w ht hq);obtain ⟨e1,e2,e3⟩:=first_of t h0
   have HD:=BN (show (t.extract 1 t.size).data.toList.dropWhile (isIn set)=s.data.toList.dropWhile (isIn set) by
    rw [←hdw.out,e2]
    conv=>rhs;rw [e1,List.dropWhile_cons,if_pos hq])
   have i0:t.toList.isEmpty=false:=e3;have i1:(1:Int)<=(t.size:Int):=by omega
   have i2:(t.size:Int)<=9223372036854775807:=by omega
   have hsz:(t.extract 1 t.size).size=t.size-1:=by rw [ByteArray.size_extract];omega
   clear e1 e2 e3 hq
   go_wp2_with (go_at_call 197;with_reducible refine HC.out.mono ?_;rintro e w' ⟨rfl,hw⟩;rw [hw];clear hw);go_round
   case rel=>exact ⟨_,rfl,by omega,HD⟩
   case measure=>simp [tbytes];omega
  ·have hst:t.data.toList.dropWhile (isIn set)=t.data.toList:=by
    rcases D3 t.size with h0 | h0
    ·have:t.data.toList= []:=List.length_eq_zero_iff.1 (by rw [len];exact h0);rw [this];rfl
    ·obtain ⟨e1,_,_⟩:=first_of t h0;rw [e1];refine dropWhile_stop ?_;cases hq:isIn set t[0] with
     | false=>rfl
     | true=>exact absurd ⟨h0,hq⟩ hgo
   have hfin:=BN (show trimL (isIn set) s.data.toList=(t.data.toList.reverse.dropWhile (isIn set)).reverse by unfold trimL;rw [←hdw.out,hst])
   have hlast:=BN (show∀h:0<t.size,isIn set t[0]=false from λh=>by
    cases hq:isIn set t[0] with
    | false=>rfl
    | true=>exact absurd ⟨h,hq⟩ hgo)
   clear hgo hst;rcases D3 t.size with h0 | h0
   all_goals (first
    |(have i0:t.toList.isEmpty=false:=(first_of t h0).2.2
      have HC:=BN (in_any t[0] false set w ht (hlast.out h0))
      (go_wp2_with (go_at_call 197;with_reducible refine HC.out.mono ?_;rintro e w' ⟨rfl,hw⟩;rw [hw];clear hw)))
    |(have i0:t.toList.isEmpty=true:=by
       rw [BU,List.length_eq_zero_iff.1 (show t.data.toList.length=0 by rw [len];exact h0)];rfl
      go_wp2))
   all_goals
    clear i0
    go_loop [0] (λx=>∃u:ByteArray,x=ZY u/\u.size<=t.size/\Hid (u.data.toList.reverse.dropWhile (isIn set)=t.data.toList.reverse.dropWhile (isIn set))) (λx=>tbytes x)
    case atStart=>exact ⟨t,rfl,D5 _,BN rfl⟩
    case round=>
     obtain ⟨u,rfl,hus,hrv⟩:=hrel;rcases D3 u.size with hu0 | hu0
     ·have e0:u.data.toList= []:=List.length_eq_zero_iff.1 (by rw [len];exact hu0);have i0:u.toList.isEmpty=true:=by rw [BU,e0];rfl
      have HF:=BN (show u=trimOf s set from ba_ext (by rw [trimOf,trimB_list,hfin.out,←hrv.out,e0];rfl))
      clear e0;go_wp2;go_ret;exact ⟨by rw [←HF.out];rfl,rfl⟩
     ·first
      |(exfalso;omega)
      |(
       obtain ⟨e1,e2,e3⟩:=last_of u hu0;have i0:u.toList.isEmpty=false:=e3;have i1:u.size-1<u.size:=by omega
       have i3:(u.size:Int)-1<(u.size:Int):=by omega
       have i4:0<=(u.size:Int)-1:=by omega
       have i5:IntKind.i64.wrap ((u.size:Int)-1)=(u.size:Int)-1:=wrap_in _ (by omega) (by omega);have i6:((u.size:Int)-1).toNat=u.size-1:=by omega
       have i7:(u.size:Int)-1<=(u.size:Int):=by omega
       cases hq:isIn set u[u.size-1] with
       | true=>
         have HC:=BN (in_any u[u.size-1] true set w ht hq)
         have HD:=BN (show (u.extract 0 (u.size-1)).data.toList.reverse.dropWhile (isIn set)=t.data.toList.reverse.dropWhile (isIn set) by
          rw [←hrv.out,e2]
          conv=>rhs;rw [e1,List.reverse_append,List.reverse_singleton,List.singleton_append,List.dropWhile_cons,if_pos hq])
         have hsz:(u.extract 0 (u.size-1)).size=u.size-1:=by rw [ByteArray.size_extract];omega
         clear e1 e2 e3 hq
         go_wp2_with (go_at_call 197;with_reducible refine HC.out.mono ?_;rintro e w' ⟨rfl,hw⟩;rw [hw];clear hw);go_round
         case rel=>exact ⟨_,rfl,by omega,HD⟩
         case measure=>simp [tbytes];omega
       | false=>
         have HC:=BN (in_any u[u.size-1] false set w ht hq)
         have HF:=BN (show u=trimOf s set from ba_ext (by rw [trimOf,trimB_list,hfin.out,←hrv.out,e1,List.reverse_append,List.reverse_singleton,List.singleton_append,dropWhile_stop hq];simp))
         clear e1 e2 e3 hq
         go_wp2_with (go_at_call 197;with_reducible refine HC.out.mono ?_;rintro e w' ⟨rfl,hw⟩;rw [hw];clear hw);go_ret;exact ⟨by rw [←HF.out];rfl,rfl⟩)
theorem rtrim_any (s:ByteArray) (w:World) (hs:s.size<=maxLen):Calls Gq 129 #[ZY s] w λe w'=>e=.returned (ZY (trim s))/\w'=w:=by
 have h:=BN (rtrimOf_any s ⟨#[32,9]⟩ w (by decide) hs);have e:trimOf s ⟨#[32,9]⟩=trim s:=by
  unfold trimOf trim
  congr 1
  funext x
  simp only [isIn,blank,List.contains_cons,List.contains_nil,Bool.or_false]
 rw [e] at h;go_enter Tryz.func129,Tryz.ntmps129
 go_wp2_with (go_at_call 170;with_reducible refine h.out.mono ?_;rintro e w' ⟨rfl,rfl⟩);go_ret;exact ⟨rfl,rfl⟩
end
end Go.Proofs.YtnabkcglnbdfeaaGreatDoor.Txt
namespace Go.Proofs.YtnabkcglnbdfeaaGreatDoor.Txt
open Go.RowKit Base Oct
def Part (c:UInt8) (l:List UInt8) (f k:Nat) (done:List (List UInt8)):Prop:=
 (k<=l.length/\f<=k/\parts c l=done++parts c (l.drop f)/\c∉(l.drop f).take (k-f))∨(k=l.length+1/\f=l.length+1/\parts c l=done)
theorem Part.start (c:UInt8) (l:List UInt8):Part c l 0 0 []:=.inl ⟨DC _,D5 _,rfl,by simp⟩
theorem Part.last {c:UInt8} {l:List UInt8} {f:Nat} {done:List (List UInt8)} (h:Part c l f l.length done):f<=l.length/\Part c l (l.length+1) (l.length+1) (done ++ [l.drop f]):=by
 rcases h with ⟨_,h1,h2,h3⟩ | ⟨h,_⟩
 ·refine ⟨h1,.inr ⟨rfl,rfl,?_⟩⟩;rw [Dp (by rw [CI];omega)] at h3;rw [h2,parts_none c _ h3]
 ·omega
theorem Part.hit {c:UInt8} {l:List UInt8} {f k:Nat} {done:List (List UInt8)} (h:Part c l f k done) (hk:k<l.length) (hc:l[k]=c):f<=k/\Part c l (k+1) (k+1) (done ++ [(l.drop f).take (k-f)]):=by
 rcases h with ⟨_,h1,h2,h3⟩ | ⟨h,_⟩
 ·refine ⟨h1,.inl ⟨by omega,D5 _,?_,by simp⟩⟩;have e:l.drop f=(l.drop f).take (k-f)++c::l.drop (k+1):=by
   conv=>lhs;rw [←Do (k-f) (l.drop f)]
   rw [List.drop_drop,show f+(k-f)=k by omega,Co hk,hc]
  rw [h2]
  conv=>lhs;rw [e]
  rw [parts_cut c _ _ h3,List.append_assoc];rfl
 ·omega
theorem Part.miss {c:UInt8} {l:List UInt8} {f k:Nat} {done:List (List UInt8)} (h:Part c l f k done) (hk:k<l.length) (hc:l[k]≠c):Part c l f (k+1) done:=by
 rcases h with ⟨_,h1,h2,h3⟩ | ⟨h,_⟩
 ·refine .inl ⟨by omega,by omega,h2,?_⟩;have hlt:k-f<(l.drop f).length:=by rw [CI];omega
  rw [show k+1-f=(k-f)+1 by omega,Dq hlt,CS,not_or];refine ⟨h3,?_⟩;rw [List.getElem_drop,Dc];simp only [show f+(k-f)=k by omega];exact λe=>hc e.symm
 ·omega
section
set_option maxHeartbeats 1000000
attribute [local go_sem] An
set_option maxRecDepth 10000 in
theorem rsplit_any (s:ByteArray) (c:UInt8) (w:World) (hs:s.size<=1000000000) :
 Calls Gq 169 #[ZY s,ZZ ZR c.toNat] w λe w'=>∃b m cp,e=.returned (.slice b m cp)/\m=(parts c s.data.toList).length/\Strs w' b m ((parts c s.data.toList).map ba)/\Below w.heap.size w w':=by
 obtain ⟨i0,hi,hz0,hz1,hz2⟩:=info_parts text_info;have G1:=BN hi;have G2:=BN hz0;have G3:=BN hz1;have G4:=BN hz2;clear hi hz0 hz1 hz2;obtain ⟨PS,hPS⟩:∃PS,parts c s.data.toList=PS:=⟨_,rfl⟩;rw [hPS];have HPS:=BN hPS;clear hPS;go_enter Tryz.func169,Tryz.ntmps169;go_wp2
 go_loopw [5,6,7] (λv fr i wr=>∃(k f:Nat) (done:List (List UInt8)),k<=s.size+1/\f<=s.size+1/\done.length<=k/\fr=ZZ ZS f/\i=ZZ ZS k/\Hid (Part c s.data.toList f k done)/\Hid (wr.ownsRow w.heap.size 9 1 v done.length ((done.map ba).map Value.string))/\Hid (Below w.heap.size w wr)) (λ_ _ i _=>s.size+1-(intOf i).toNat)
 case atStart=>exact ⟨0,0,[],by omega,by omega,D5 _,rfl,rfl,BN (Part.start _ _),BN ⟨rfl,.inl ⟨rfl,rfl⟩⟩,BN (Ao _ _)⟩
 case round=>
  obtain ⟨k,f,done,hk,hf,hdn,rfl,rfl,hpt,hown,hbr⟩:=hrel;rcases D9 k s.size with hlt | hge
  ·have t0:(k:Int)<=(s.size:Int):=by omega
   have t1:((k:Int)==(s.size:Int))=false:=beq_eq_false_iff_ne.2 (by omega);have i1:(k:Int)<(s.size:Int):=by omega
   have hkl:k<s.data.toList.length:=by rw [len];exact hlt
   have e0:s[k]=s.data.toList[k]:=rfl;by_cases hc:s.data.toList[k]=c
   ·have t2:((s[k].toNat:Int)==(c.toNat:Int))=true:=by rw [e0,hc];exact beq_self_eq_true _
    obtain ⟨hfk,hP⟩:=hpt.out.hit hkl hc;have HP:=BN hP
    have ex:s.extract f k=ba ((s.data.toList.drop f).take (k-f)):=ba_ext (by rw [BK];rfl);have c1:(f:Int)<=(k:Int):=by omega
    have m1:IntKind.i64.wrap ((k:Int)+1)=((k+1:Nat):Int):=by rw [wrap_in _ (by omega) (by omega)];omega
    clear hP hpt hc e0;generalize (s.data.toList.drop f).take (k-f)=p at *;have HX:=BN ex;clear ex
    go_wp2_with (at_builtin;refine wpList_append_own _ rfl _ _ 87 rfl w.heap.size 9 i0 (.string AG) 1 16 Tryz.underlying87 G1.out G2.out G3.out G4.out rfl (by decide) _ _ _ rfl (hown.out.alloc _) ⟨wr.heap.size,0,none⟩ 1 1 [.string (s.extract f k)] rfl rfl ?c1 ?c2 ?c3 ?c4 ?c5 ?_)
    case c1=>exact news_one wr _ _
    case c2=>intro u hu;obtain rfl:u=ZY (s.extract f k):=by simpa using hu
             rfl
    case c3=>unfold maxLen;omega
    case c4=>omega
    case c5=>have:=hbr.out.size;simp;omega
    intro v' w' hown' hgr _
    have H2:Hid (w'.ownsRow w.heap.size 9 1 v' (done ++ [p]).length (((done ++ [p]).map ba).map Value.string)):=BN (by rw [HX.out] at hown';simpa using hown')
    have H3:=BN ((hbr.out.alloc hbr.out.size _).grown hgr (by have:=hbr.out.size;simp;omega) (own_base hown.out));clear hown' hgr hown hbr;go_wp2;go_roundw
    case rel=>exact ⟨k+1,k+1,done ++ [p],by omega,by omega,by rw [CG,List.length_singleton];omega,by go_num,by go_num,HP,H2,H3⟩
    case measure=>simp [intOf];omega
   ·have t2:((s[k].toNat:Int)==(c.toNat:Int))=false:=beq_eq_false_iff_ne.2 λe=>hc (Hg.1 (by rw [e0] at e;omega))
    have HP:=BN (hpt.out.miss hkl hc);clear hpt hc e0;go_wp2;go_roundw
    case rel=>exact ⟨k+1,f,done,by omega,hf,by omega,rfl,by go_num,HP,hown,hbr⟩
    case measure=>simp [intOf];omega
  ·rcases D9 s.size k with hgt | hle
   ·obtain rfl:k=s.size+1:=by omega
    have t0:¬((s.size+1:Nat):Int)<=(s.size:Int):=by omega
    have hfin:done=PS:=by
     rcases hpt.out with ⟨h,_⟩ | ⟨_,_,h⟩
     ·rw [len] at h;omega
     ·rw [←h,HPS.out]
    subst hfin;obtain ⟨A,cp,rfl,hA⟩:=Strs.of_own hown.out;have HA:=BN hA;clear hA hown hpt;go_wp2;go_ret;first | exact ⟨A,⟨cp,rfl⟩,HA.out,hbr.out⟩ | exact ⟨A,_,⟨cp,rfl⟩,rfl,HA.out,hbr.out⟩ | exact ⟨A,_,⟨cp,rfl⟩,HA.out,hbr.out⟩
   ·obtain rfl:k=s.size:=by omega
    have hpt':=hpt.out;rw [←len s] at hpt';obtain ⟨hfk,hP⟩:=hpt'.last;rw [len] at hfk hP;have HP:=BN hP
    have ex:s.extract f s.size=ba (s.data.toList.drop f):=ba_ext (by rw [BK,Dp (by rw [CI,len];omega)];rfl);have c1:(f:Int)<=(s.size:Int):=by omega
    have t0:(s.size:Int)<=(s.size:Int):=by omega
    have t1:((s.size:Int)==(s.size:Int))=true:=beq_self_eq_true _;have m1:IntKind.i64.wrap ((s.size:Int)+1)=((s.size+1:Nat):Int):=by rw [wrap_in _ (by omega) (by omega)];omega
    clear hP hpt hpt';generalize s.data.toList.drop f=p at *;have HX:=BN ex;clear ex
    go_wp2_with (at_builtin;refine wpList_append_own _ rfl _ _ 87 rfl w.heap.size 9 i0 (.string AG) 1 16 Tryz.underlying87 G1.out G2.out G3.out G4.out rfl (by decide) _ _ _ rfl (hown.out.alloc _) ⟨wr.heap.size,0,none⟩ 1 1 [.string (s.extract f s.size)] rfl rfl ?c1 ?c2 ?c3 ?c4 ?c5 ?_)
    case c1=>exact news_one wr _ _
    case c2=>intro u hu;obtain rfl:u=ZY (s.extract f s.size):=by simpa using hu
             rfl
    case c3=>unfold maxLen;omega
    case c4=>omega
    case c5=>have:=hbr.out.size;simp;omega
    intro v' w' hown' hgr _
    have H2:Hid (w'.ownsRow w.heap.size 9 1 v' (done ++ [p]).length (((done ++ [p]).map ba).map Value.string)):=BN (by rw [HX.out] at hown';simpa using hown')
    have H3:=BN ((hbr.out.alloc hbr.out.size _).grown hgr (by have:=hbr.out.size;simp;omega) (own_base hown.out));clear hown' hgr hown hbr;go_wp2;go_roundw
    case rel=>exact ⟨s.size+1,s.size+1,done ++ [p],by omega,by omega,by rw [CG,List.length_singleton];omega,by go_num,by go_num,HP,H2,H3⟩
    case measure=>simp [intOf]
end
end Go.Proofs.YtnabkcglnbdfeaaGreatDoor.Txt
namespace Go.Proofs.YtnabkcglnbdfeaaGreatDoor.Txt
open Go.RowKit Base Oct
theorem drop_at (l:List UInt8) (f k:Nat) (hfk:f<=k) (hk:k<l.length):l.drop f=(l.take k).drop f++l[k]::l.drop (k+1):=by conv=>lhs;rw [←Do k l,List.drop_append_of_le_length (by rw [CO];omega),Co hk]
theorem mid_snoc (l:List UInt8) (f k:Nat) (hfk:f<=k) (hk:k<l.length):(l.take (k+1)).drop f=(l.take k).drop f ++ [l[k]]:=by rw [Dq hk,List.drop_append_of_le_length (by rw [CO];omega)]
section
set_option maxHeartbeats 1000000
set_option maxRecDepth 10000
attribute [local go_sem] An
theorem rsplit_own (s:ByteArray) (c:UInt8) (w:World) (hs:s.size<=1000000000) :
 Calls Gq 169 #[ZY s,ZZ ZR c.toNat] w λe w'=>∃g n k,e=.returned (ZX (some ⟨g,0,none⟩) n k)/\w.heap.size<=g/\n=(parts c s.data.toList).length/\Strs w' (some ⟨g,0,none⟩) n ((parts c s.data.toList).map ba)/\w.heap.size<w'.heap.size/\Below w.heap.size w w':=by
 obtain ⟨i0,hi,hz0,hz1,hz2⟩:=info_parts text_info;have G1:=BN hi;have G2:=BN hz0;have G3:=BN hz1;have G4:=BN hz2;clear hi hz0 hz1 hz2;have hpl:=parts_le c s.data.toList;rw [len] at hpl;have hp1:0<(parts c s.data.toList).length:=by rw [parts_length];omega
 go_enter Tryz.func169,Tryz.ntmps169;go_wp2
 go_loopw [5,6,7] (λv f i wr=>∃(k fr:Nat) (done:List (List UInt8)),f=ZZ ZS fr/\i=ZZ ZS k/\done.length<=k/\Hid (wr.ownsRow w.heap.size 9 1 v done.length ((done.map ba).map Value.string))/\Hid (Below w.heap.size w wr)/\
  ((fr<=k/\k<=s.size/\Hid (done++parts c (s.data.toList.drop fr)=parts c s.data.toList)/\Hid (c∉(s.data.toList.take k).drop fr))∨(k=s.size+1/\Hid (done=parts c s.data.toList)))) (λ_ _ i _=>s.size+1-(intOf i).toNat)
 case atStart=>exact ⟨0,0,[],rfl,rfl,D5 _,BN ⟨rfl,.inl ⟨rfl,rfl⟩⟩,BN (Ao _ _),.inl ⟨D5 _,DC _,BN rfl,BN (by simp)⟩⟩
 case round=>
  obtain ⟨k,fr,done,rfl,rfl,hdl,hown,hbr,hcase⟩:=hrel;rcases hcase with ⟨hfk,hks,hdone,hno⟩ | ⟨rfl,hdone⟩
  ·have t0:(k:Int)<=(s.size:Int):=by omega
   have t1:(fr:Int)<=(k:Int):=by omega
   have t9:wrap64 ((k:Int)+1)=(k:Int)+1:=by unfold wrap64;omega
   rcases D9 k s.size with hlt | hge
   ·have hll:k<s.data.toList.length:=by rw [len];exact hlt
    have t2:(k:Int)<(s.size:Int):=by omega
    have t3:((k:Int)==(s.size:Int))=false:=beq_eq_false_iff_ne.2 (by omega);by_cases hc:s.data.toList[k]=c
    ·have t4:((s[k].toNat:Int)==(c.toNat:Int))=true:=by rw [show s[k]=c from hc];exact beq_self_eq_true _
     have hcut:=parts_cut c ((s.data.toList.take k).drop fr) (s.data.toList.drop (k+1)) hno.out;rw [←hc,←drop_at _ _ _ hfk hll,hc] at hcut
     have hx:(s.extract fr k)=ba ((s.data.toList.take k).drop fr):=ba_ext (by rw [BK];show _=(s.data.toList.take k).drop fr;rw [List.drop_take]);have HX:=BN hx
     have HD:=BN (show (done ++ [(s.data.toList.take k).drop fr])++parts c (s.data.toList.drop (k+1))=parts c s.data.toList by rw [←hdone.out,hcut,List.append_assoc];rfl);clear hcut hx hc hno;generalize (s.data.toList.take k).drop fr=p at *
     go_wp2_with (at_builtin;refine wpList_append_own _ rfl _ _ 87 rfl w.heap.size 9 i0 (.string AG) 1 16 Tryz.underlying87 G1.out G2.out G3.out G4.out rfl (by decide) _ _ _ rfl (hown.out.alloc _) ⟨wr.heap.size,0,none⟩ 1 1 [.string (s.extract fr k)] rfl rfl ?c1 ?c2 ?c3 ?c4 ?c5 ?_)
     case c1=>exact news_one wr _ _
     case c2=>intro u hu;obtain rfl:u=ZY (s.extract fr k):=by simpa using hu
              rfl
     case c3=>unfold maxLen;omega
     case c4=>omega
     case c5=>have:=hbr.out.size;simp;omega
     intro v' w' hown' hgr _
     have H1:Hid (w'.ownsRow w.heap.size 9 1 v' (done ++ [p]).length (((done ++ [p]).map ba).map Value.string)):=BN (by rw [HX.out] at hown';simpa using hown')
     have H2:=BN ((hbr.out.alloc hbr.out.size _).grown hgr (by have:=hbr.out.size;simp;omega) (own_base hown.out));have hdl2:(done ++ [p]).length<=k+1:=by rw [CG];simp;omega
     clear hown' hgr;go_wp2;go_roundw
     case rel=>exact ⟨k+1,k+1,done ++ [p],by go_num,by go_num,hdl2,H1,H2,.inl ⟨D5 _,by omega,HD,BN (by rw [List.drop_eq_nil_of_le (by rw [CO];omega)];simp)⟩⟩
     case measure=>simp [intOf];omega
    ·have t4:((s[k].toNat:Int)==(c.toNat:Int))=false:=beq_eq_false_iff_ne.2 (λe=>hc (show s[k]=c from Hg.1 (by omega)))
     have HN:=BN (show c∉(s.data.toList.take (k+1)).drop fr by
      rw [mid_snoc _ _ _ hfk hll,CS]
      rintro (h | h)
      ·exact hno.out h
      ·exact hc (Dc.1 h).symm)
     clear hno;go_wp2;go_roundw
     case rel=>exact ⟨k+1,fr,done,rfl,by go_num,by omega,hown,hbr,.inl ⟨by omega,by omega,hdone,HN⟩⟩
     case measure=>simp [intOf];omega
   ·obtain rfl:k=s.size:=by omega
    ·have t3:((s.size:Int)==(s.size:Int))=true:=beq_self_eq_true _;have hno':=hno.out;rw [take_all s _ (D5 _)] at hno';have hcut:=parts_none c (s.data.toList.drop fr) hno'
     have hx:(s.extract fr s.size)=ba (s.data.toList.drop fr):=ba_ext (by rw [BK,Dp (by rw [CI,len];exact D5 _)];rfl);have HX:=BN hx
     have HD:=BN (show done ++ [s.data.toList.drop fr]=parts c s.data.toList by rw [←hdone.out,hcut]);clear hcut hx hno hno';generalize s.data.toList.drop fr=p at *;generalize hk:s.size=k at *
     go_wp2_with (at_builtin;refine wpList_append_own _ rfl _ _ 87 rfl w.heap.size 9 i0 (.string AG) 1 16 Tryz.underlying87 G1.out G2.out G3.out G4.out rfl (by decide) _ _ _ rfl (hown.out.alloc _) ⟨wr.heap.size,0,none⟩ 1 1 [.string (s.extract fr k)] rfl rfl ?c1 ?c2 ?c3 ?c4 ?c5 ?_)
     case c1=>exact news_one wr _ _
     case c2=>intro u hu;obtain rfl:u=ZY (s.extract fr k):=by simpa using hu
              rfl
     case c3=>unfold maxLen;omega
     case c4=>omega
     case c5=>have:=hbr.out.size;simp;omega
     intro v' w' hown' hgr _
     have H1:Hid (w'.ownsRow w.heap.size 9 1 v' (done ++ [p]).length (((done ++ [p]).map ba).map Value.string)):=BN (by rw [HX.out] at hown';simpa using hown')
     have H2:=BN ((hbr.out.alloc hbr.out.size _).grown hgr (by have:=hbr.out.size;simp;omega) (own_base hown.out));have hdl2:(done ++ [p]).length<=k+1:=by rw [CG];simp;omega
     clear hown' hgr;go_wp2;go_roundw
     case rel=>exact ⟨k+1,k+1,done ++ [p],by go_num,by go_num,hdl2,H1,H2,.inr ⟨rfl,HD⟩⟩
     case measure=>(simp [intOf]<;>omega)
  ·have t0:¬((s.size:Int)+1<=(s.size:Int)):=by omega
   have hdn:=hdone.out;subst hdn;obtain ⟨g,cap,rfl,hg0,hg1⟩:=hown.out.form hp1
   have HS:=BN (show Strs wr (some ⟨g,0,none⟩) (parts c s.data.toList).length ((parts c s.data.toList).map ba) by
    obtain ⟨A,cc,e,hS⟩:=Strs.of_own (ss:=(parts c s.data.toList).map ba) hown.out;obtain ⟨rfl,rfl⟩:some ⟨g,0,none⟩=A/\cap=cc:=by simpa using e
    exact hS)
   clear hown hdone;go_wp2;go_ret;exact ⟨g,_,⟨cap,rfl⟩,hg0,rfl,HS.out,by omega,hbr.out⟩
theorem rsplit44 (s:ByteArray) (w:World) (hs:s.size<=1000000000) :
 Calls Gq 169 #[ZY s,ZZ ZR 44] w λe w'=>∃g n k,e=.returned (ZX (some ⟨g,0,none⟩) n k)/\w.heap.size<=g/\n=(parts 44 s.data.toList).length/\Strs w' (some ⟨g,0,none⟩) n ((parts 44 s.data.toList).map ba)/\w.heap.size<w'.heap.size/\Below w.heap.size w w':=
 rsplit_own s 44 w hs
theorem rlist_own (a:Option Addr) (n cap:Nat) (vs:List ByteArray) (w:World) (hv:Strs w a n vs) (hr:room vs<=1000000000) :
 Calls Gq 122 #[.slice a n cap] w λe w'=>∃v,e=.returned v/\w'.ownsRow w.heap.size 9 1 v (list vs).length ((list vs).map Value.string)/\Below w.heap.size w w':=by
 have hle:=list_le vs;have hnr:=len_room vs;rw [hv.1] at hnr;have HV:=BN hv;have HL:=BN hv.1;clear hv;obtain ⟨i0,hi,hz0,hz1,hz2⟩:=info_parts text_info;have G1:=BN hi;have G2:=BN hz0;have G3:=BN hz1;have G4:=BN hz2;clear hi hz0 hz1 hz2;go_enter Tryz.func122,Tryz.ntmps122;go_wp2
 go_loopw [3,4] (λv i wr=>∃k:Nat,k<=n/\i=ZZ ZS k/\Hid (wr.ownsRow w.heap.size 9 1 v (list (vs.take k)).length ((list (vs.take k)).map Value.string))/\Hid (Below w.heap.size w wr)) (λ_ i _=>n-(intOf i).toNat)
 case atStart=>exact ⟨0,DC _,rfl,BN ⟨rfl,.inl ⟨rfl,rfl⟩⟩,BN (Ao _ _)⟩
 case round=>
  obtain ⟨k,hk,rfl,hown,hbr⟩:=hrel;rcases D9 k n with hlt | hge
  ·obtain ⟨bl,off,rfl,_,hc⟩:=(HV.out.below hbr.out).2 (by omega);have hck:=hc k hlt
   have hsn:=BN (list_snoc vs k (by rw [HL.out];exact hlt))
   have hle1:=list_take_le vs (k+1);rw [hsn.out,CG] at hle1;have hsz:(vs[k]?.getD AG).size<=1000000000:=by
    have:k<vs.length:=by rw [HL.out];exact hlt
    rw [C0 this];have h2:(vs[k].size+1)<=room vs:=by exact room_mem vs _ (C8 _)
    show vs[k].size<=_;omega
   clear hc;generalize vs[k]?.getD AG=x at *
   have HP:=BN (rsplit44 x wr hsz)
   have hpm:=BN (partsOf_map x);have hpl:(partsOf x).length=((parts 44 x.data.toList).map ba).length:=by rw [hpm.out,CK]
   have hp0:((parts 44 x.data.toList).map ba).length=(parts 44 x.data.toList).length:=CK _;rw [←hp0] at HP
   have hps:=BN (show∀y∈(parts 44 x.data.toList).map ba,y.size<4294967281 from λy hy=>by obtain ⟨l,hl,rfl⟩:=List.mem_map.1 hy;have:=parts_size 44 _ l hl;rw [len] at this;rw [ba_size];omega)
   generalize (parts 44 x.data.toList).map ba=P at *;clear hp0;generalize list (vs.take k)=L at *
   go_wp2_with (go_at_call 169;with_reducible refine HP.out.mono ?_;rintro e w1 ⟨B,n1,c1,rfl,hgB,hn1,hS,hg1,hb1⟩)
   have hB1:=BN (Al hbr.out hb1)
   have hown1:=BN (own_below hown.out hb1);have hS':=BN hS
   have hne:=BN (show∀g,u3.ownBlock=some g->g≠B from λg hg=>by have:=(hown.out.lt g hg).2;omega);clear hgB;clear hS hb1 HP hown hbr
   go_loopw [3,6] (λv i wq=>∃j:Nat,j<=n1/\i=ZZ ZS j/\w1.heap.size<=wq.heap.size/\Hid (wq.ownsRow w.heap.size 9 1 v (L.length+j) ((L++(P.map trim).take j).map Value.string))/\Hid (Below w.heap.size w wq)/\Hid (∀g,v.ownBlock=some g->g≠B)/\Hid (Strs wq (some ⟨B,0,none⟩) n1 P)) (λ_ i _=>n1-(intOf i).toNat)
   case atStart=>exact ⟨0,DC _,rfl,D5 _,by rw [List.take_zero,Cb];exact hown1,hB1,hne,hS'⟩
   case round=>
    obtain ⟨j,hj,rfl,hsz,hown,hbq,hne,hSq⟩:=hrel;rcases D9 j n1 with hlj | hgj
    ·obtain ⟨bs,os,e,hbs,hc⟩:=hSq.out.2 (by omega);obtain ⟨rfl,rfl⟩:B=bs/\0=os:=by simpa using e
     have hcj:=hc j hlj;rw [DB] at hcj
     have HS1:=BN (map_snoc trim AG P j (by omega));clear hc e;have hys:(P[j]?.getD AG).size<=maxLen:=by exact XX3G6
     generalize P[j]?.getD AG=y at *
     have HT:=BN (λw=>rtrim_any y w hys);clear hys
     go_wp2_with (first
      |(go_at_call 129;with_reducible refine Cm (HT.out _) ?_)
      |(at_builtin;(refine wpList_append_own_at _ rfl _ _ 87 rfl w.heap.size 9 i0 (.string AG) 1 16 Tryz.underlying87 G1.out G2.out G3.out G4.out rfl (by decide) _ _ _ rfl (hown.out.alloc _) ⟨wr.heap.size,0,none⟩ 1 1 [.string (trim y)] rfl rfl ?c1 ?c2 ?c3 ?c4 ?c5 ?_)))
     case c1=>exact news_one wr _ _
     case c2=>intro u hu;obtain rfl:u=ZY (trim y):=by simpa using hu
              rfl
     case c3=>unfold maxLen;omega
     case c4=>omega
     case c5=>have:=hbq.out.size;simp;omega
     exact XXOmL
    ·exact XX1YI
  ·exact XXL2M
theorem rlist_any (a:Option Addr) (n cap:Nat) (vs:List ByteArray) (w:World) (hv:Strs w a n vs) (hr:room vs<=1000000000) :
 Calls Gq 122 #[.slice a n cap] w λe w'=>∃b m c,e=.returned (.slice b m c)/\m=(list vs).length/\Strs w' b m (list vs)/\Below w.heap.size w w':=
 (rlist_own a n cap vs w hv hr).mono (by
   rintro e w' ⟨v,rfl,ho,hb⟩;obtain ⟨A,c,rfl,hA⟩:=Strs.of_own ho;exact ⟨A,_,c,rfl,rfl,hA,hb⟩)
theorem rfind_any (a:Option Addr) (n cap:Nat) (fs:List Fld) (name:ByteArray) (w:World) (hv:Flds w a n fs) (hn:n<=1000000000) (hs:∀f∈fs,f.1.size<=1000000000) (ht:name.size<=1000000000) :
 Calls Gq 105 #[.slice a n cap,ZY name] w λe w'=>∃b m c,e=.returned (.slice b m c)/\m=(find fs name).length/\Strs w' b m (find fs name)/\Below w.heap.size w w':=by
 have HV:=BN hv;have HL:=BN hv.1;have HS:=BN hs;clear hv hs;obtain ⟨i0,hi,hz0,hz1,hz2⟩:=info_parts text_info;have G1:=BN hi;have G2:=BN hz0;have G3:=BN hz1;have G4:=BN hz2;clear hi hz0 hz1 hz2;go_enter Tryz.func105,Tryz.ntmps105;go_wp2
 go_loopw [5,6] (λv i wr=>∃k:Nat,k<=n/\i=ZZ ZS k/\Hid (wr.ownsRow w.heap.size 9 1 v (find (fs.take k) name).length ((find (fs.take k) name).map Value.string))/\Hid (Below w.heap.size w wr)) (λ_ i _=>n-(intOf i).toNat)
 case atStart=>exact ⟨0,DC _,rfl,BN ⟨rfl,.inl ⟨rfl,rfl⟩⟩,BN (Ao _ _)⟩
 case round=>
  obtain ⟨k,hk,rfl,hown,hbr⟩:=hrel;rcases D9 k n with hlt | hge
  ·obtain ⟨bl,off,rfl,hbl,hc⟩:=(HV.out.below hbr.out).2 (by omega);obtain ⟨hc0,hc1⟩:=hc k hlt
   have hsn:=BN (find_snoc fs name k (by rw [HL.out];exact hlt));have hfl:=find_le (fs.take k) name;rw [CO] at hfl;have hsz:(fs[k]?.getD dflt).1.size<=1000000000:=by
    have:k<fs.length:=by rw [HL.out];exact hlt
    rw [C0 this]
    exact HS.out _ (C8 _)
   clear hc;generalize fs[k]?.getD dflt=f at *;generalize hL:find (fs.take k) name=L at *;obtain ⟨f0,f1⟩:=f;simp only at hc0 hc1 hsz hsn
   have HC:=BN (λw=>rsame_any f0 name w (by omega) (by omega));clear hsz hL;cases hq:same f0 name with
   | false=>
     rw [hq] at HC hsn;rw [if_neg (by decide),Cb] at hsn;clear hq
     go_wp2_with (go_at_call 151;with_reducible refine (HC.out _).mono ?_;rintro e w2 ⟨rfl,hb2⟩);have hb0:Below wr.heap.size wr w2:=hb2;exact XXhHQ
   | true=>
     rw [hq] at HC hsn;rw [if_pos rfl] at hsn;clear hq
     go_wp2_with (first
      |(go_at_call 151;with_reducible refine (HC.out _).mono ?_;rintro e w2 ⟨rfl,hb2⟩
        have hf1:=(hb2.cell (p:=⟨bl,off+k*2+1,none⟩) hbl).trans hc1
        have hb0:=BN (show Below wr.heap.size wr w2 from hb2)
        have hown0:=BN (own_below hown.out hb0.out))
      |(at_builtin;refine wpList_append_own _ rfl _ _ 87 rfl w.heap.size 9 i0 (.string AG) 1 16 Tryz.underlying87 G1.out G2.out G3.out G4.out rfl (by decide) _ _ _ rfl (hown0.out.alloc _) ⟨w2.heap.size,0,none⟩ 1 1 [.string f1] rfl rfl ?c1 ?c2 ?c3 ?c4 ?c5 ?_))
     case c1=>exact news_one w2 _ _
     case c2=>intro u hu;obtain rfl:u=ZY f1:=by simpa using hu
              rfl
     case c3=>unfold maxLen;omega
     case c4=>omega
     case c5=>have:=hbr.out.size;have:=hb0.out.size;simp;omega
     exact XXLIl
  ·exact XXR68
end
end Go.Proofs.YtnabkcglnbdfeaaGreatDoor.Txt
namespace Go.Proofs.YtnabkcglnbdfeaaGreatDoor.Rec
open Go.RowKit Base Txt
section
set_option maxHeartbeats 1000000
attribute [local go_sem] An
theorem XXPZS {P:Prop} (h:P:=by
 go_enter Tryz.func48,Tryz.ntmps48;go_upto_region 1 with fail
 generalize (w.alloc (.cells #[ZY r.m,ZY r.x,ZZ ZS r.k,.slice fa r.fs.length fc,ZW r.ch,.slice ba r.body.length bc,.slice ta r.ts.length tc] 58)).alloc (.cells #[ZY r'.m,ZY r'.x,ZZ ZS r'.k,.slice fa' r'.fs.length fc',ZW r'.ch,.slice ba' r'.body.length bc',.slice ta' r'.ts.length tc'] 58)=W at *;have hA0:=HA.out;have hB0:=HB.out;have q0:=hA0.c 0 _ rfl;have y0:=hB0.c 0 _ rfl;have q1:=hA0.c 1 _ rfl;have y1:=hB0.c 1 _ rfl;have q2:=hA0.c 2 _ rfl;have y2:=hB0.c 2 _ rfl;have q3:=hA0.c 3 _ rfl;have y3:=hB0.c 3 _ rfl;have q4:=hA0.c 4 _ rfl;have y4:=hB0.c 4 _ rfl;have q5:=hA0.c 5 _ rfl;have y5:=hB0.c 5 _ rfl;have q6:=hA0.c 6 _ rfl;have y6:=hB0.c 6 _ rfl;clear hA0 hB0
 go_wp2_with (go_at_call 61;with_reducible refine (HF1.out _ HB0.out).mono ?_;rintro e w1 ⟨rfl,n1,hw1⟩
              have hb1:Below W.heap.size W w1:=by rw [hw1];exact Ak (Ao _ _) n1
              have HB1:=BN (Al HB0.out hb1);have hA1:=HA.out.below hb1;have hB1:=HB.out.below hb1;have q3:=hA1.c 3 _ rfl;have y3:=hB1.c 3 _ rfl;have q4:=hA1.c 4 _ rfl;have y4:=hB1.c 4 _ rfl;have q5:=hA1.c 5 _ rfl;have y5:=hB1.c 5 _ rfl;have q6:=hA1.c 6 _ rfl;have y6:=hB1.c 6 _ rfl;have cv:=conv_str w1 _ _ bc _ (H2.out.below HB1.out);have cv':=conv_str w1 _ _ bc' _ (H2'.out.below HB1.out);clear hA1 hB1 hb1 hw1)
 go_ret
 exact ⟨rfl,HB1.out⟩):P:=h
theorem XXi6S {P:Prop} (h:P:=by
 clear g0 g1 g2 g3 g4 g5 g6;go_enter Tryz.func48,Tryz.ntmps48;go_upto_region 1 with fail
 generalize (w.alloc (.cells #[ZY r.m,ZY r.x,ZZ ZS r.k,.slice fa r.fs.length fc,ZW r.ch,.slice ba r.body.length bc,.slice ta r.ts.length tc] 58)).alloc (.cells #[ZY r'.m,ZY r'.x,ZZ ZS r'.k,.slice fa' r'.fs.length fc',ZW r'.ch,.slice ba' r'.body.length bc',.slice ta' r'.ts.length tc'] 58)=W at *;have hA0:=HA.out;have hB0:=HB.out;have q0:=hA0.c 0 _ rfl;have y0:=hB0.c 0 _ rfl;have q1:=hA0.c 1 _ rfl;have y1:=hB0.c 1 _ rfl;have q2:=hA0.c 2 _ rfl;have y2:=hB0.c 2 _ rfl;have q3:=hA0.c 3 _ rfl;have y3:=hB0.c 3 _ rfl;have q4:=hA0.c 4 _ rfl;have y4:=hB0.c 4 _ rfl;have q5:=hA0.c 5 _ rfl;have y5:=hB0.c 5 _ rfl;have q6:=hA0.c 6 _ rfl;have y6:=hB0.c 6 _ rfl;clear hA0 hB0
 go_wp2_with (first
  |(go_at_call 61;with_reducible refine (HF2.out _ HB1.out).mono ?_;rintro e w2 ⟨rfl,n2,hw2⟩
    have hb2:Below w1.heap.size w1 w2:=by rw [hw2];exact Ak (Ao _ _) n2
    have HB2:=BN (Al HB1.out hb2);clear hb2 hw2)
  |(go_at_call 61;with_reducible refine (HF1.out _ HB0.out).mono ?_;rintro e w1 ⟨rfl,n1,hw1⟩
    have hb1:Below W.heap.size W w1:=by rw [hw1];exact Ak (Ao _ _) n1
    have HB1:=BN (Al HB0.out hb1);have hA1:=HA.out.below hb1;have hB1:=HB.out.below hb1;have q3:=hA1.c 3 _ rfl;have y3:=hB1.c 3 _ rfl;have q4:=hA1.c 4 _ rfl;have y4:=hB1.c 4 _ rfl;have q5:=hA1.c 5 _ rfl;have y5:=hB1.c 5 _ rfl;have q6:=hA1.c 6 _ rfl;have y6:=hB1.c 6 _ rfl;have cv:=conv_str w1 _ _ bc _ (H2.out.below HB1.out);have cv':=conv_str w1 _ _ bc' _ (H2'.out.below HB1.out);clear hA1 hB1 hb1 hw1))
 go_ret
 exact ⟨rfl,HB2.out⟩):P:=h
theorem XXiCT {P:Prop} (h:P:=by
 go_enter Tryz.func48,Tryz.ntmps48;go_upto_region 1 with fail
 generalize (w.alloc (.cells #[ZY r.m,ZY r.x,ZZ ZS r.k,.slice fa r.fs.length fc,ZW r.ch,.slice ba r.body.length bc,.slice ta r.ts.length tc] 58)).alloc (.cells #[ZY r'.m,ZY r'.x,ZZ ZS r'.k,.slice fa' r'.fs.length fc',ZW r'.ch,.slice ba' r'.body.length bc',.slice ta' r'.ts.length tc'] 58)=W at *;have hA0:=HA.out;have hB0:=HB.out;have q0:=hA0.c 0 _ rfl;have y0:=hB0.c 0 _ rfl;have q1:=hA0.c 1 _ rfl;have y1:=hB0.c 1 _ rfl;have q2:=hA0.c 2 _ rfl;have y2:=hB0.c 2 _ rfl;have q3:=hA0.c 3 _ rfl;have y3:=hB0.c 3 _ rfl;have q4:=hA0.c 4 _ rfl;have y4:=hB0.c 4 _ rfl;have q5:=hA0.c 5 _ rfl;have y5:=hB0.c 5 _ rfl;have q6:=hA0.c 6 _ rfl;have y6:=hB0.c 6 _ rfl;clear hA0 hB0;go_wp2;go_ret
 exact ⟨rfl,HB0.out⟩):P:=h
theorem rsame_any (V V':Value) (r r':R) (w:World) (h:Reads w V r) (h':Reads w V' r') (hf:Fit r) (hf':Fit r'):Calls Gq 48 #[V,V'] w λe w'=>e=.returned (ZW (same r r'))/\Below w.heap.size w w':=by
 obtain ⟨fa,fc,ba,bc,ta,tc,rfl,h1,h2,h3⟩:=h;obtain ⟨fa',fc',ba',bc',ta',tc',rfl,h1',h2',h3'⟩:=h'
 have HF1:=BN (λw2 (hb:Below w.heap.size w w2)=>rfields_any fa _ fc _ fa' _ fc' _ w2 (h1.below hb) (h1'.below hb) (by have:=hf.fs;omega) (by have:=hf'.fs;omega))
 have HF2:=BN (λw2 (hb:Below w.heap.size w w2)=>rfields_any ta _ tc _ ta' _ tc' _ w2 (h3.below hb) (h3'.below hb) (by have:=hf.ts;omega) (by have:=hf'.ts;omega));have H2:=BN h2;have H2':=BN h2';clear h1 h2 h3 h1' h2' h3' hf hf'
 have HB0:=BN ((((Ao _ _).alloc (D5 _) (.cells #[ZY r.m,ZY r.x,ZZ ZS r.k,.slice fa r.fs.length fc,ZW r.ch,.slice ba r.body.length bc,.slice ta r.ts.length tc] 58)).alloc (by simp) (.cells #[ZY r'.m,ZY r'.x,ZZ ZS r'.k,.slice fa' r'.fs.length fc',ZW r'.ch,.slice ba' r'.body.length bc',.slice ta' r'.ts.length tc'] 58)):Below w.heap.size w _)
 have HA:=BN ((Bk.new w w.heap.size rfl 58 [ZY r.m,ZY r.x,ZZ ZS r.k,.slice fa r.fs.length fc,ZW r.ch,.slice ba r.body.length bc,.slice ta r.ts.length tc]).alloc (.cells #[ZY r'.m,ZY r'.x,ZZ ZS r'.k,.slice fa' r'.fs.length fc',ZW r'.ch,.slice ba' r'.body.length bc',.slice ta' r'.ts.length tc'] 58))
 have HB:=BN (Bk.new (w.alloc (.cells #[ZY r.m,ZY r.x,ZZ ZS r.k,.slice fa r.fs.length fc,ZW r.ch,.slice ba r.body.length bc,.slice ta r.ts.length tc] 58)) (w.heap.size+1) (by simp) 58 [ZY r'.m,ZY r'.x,ZZ ZS r'.k,.slice fa' r'.fs.length fc',ZW r'.ch,.slice ba' r'.body.length bc',.slice ta' r'.ts.length tc']);by_cases g0:r.m=r'.m
 rotate_left
 ·have e:same r r'=false:=by unfold same;simp [g0]
  rw [e];clear e;have t0:(r.m.toList==r'.m.toList)=false:=by rw [ba_beq];exact decide_eq_false g0
  have s0:¬r.m.toList=r'.m.toList:=λh=>g0 ((toList_iff _ _).1 h);clear g0;exact XXiCT
 by_cases g1:r.x=r'.x
 rotate_left
 ·have e:same r r'=false:=by unfold same;simp [g0,g1]
  rw [e];clear e;have t0:(r.m.toList==r'.m.toList)=true:=by rw [ba_beq];exact decide_eq_true g0
  have s0:r.m.toList=r'.m.toList:=(toList_iff _ _).2 g0;have t1:(r.x.toList==r'.x.toList)=false:=by rw [ba_beq];exact decide_eq_false g1
  have s1:¬r.x.toList=r'.x.toList:=λh=>g1 ((toList_iff _ _).1 h);clear g0 g1;exact XXiCT
 by_cases g2:r.k=r'.k
 rotate_left
 ·have e:same r r'=false:=by unfold same;simp [g0,g1,g2]
  rw [e];clear e;have t0:(r.m.toList==r'.m.toList)=true:=by rw [ba_beq];exact decide_eq_true g0
  have s0:r.m.toList=r'.m.toList:=(toList_iff _ _).2 g0;have t1:(r.x.toList==r'.x.toList)=true:=by rw [ba_beq];exact decide_eq_true g1
  have s1:r.x.toList=r'.x.toList:=(toList_iff _ _).2 g1;have t2:(r.k==r'.k)=false:=beq_eq_false_iff_ne.2 g2;clear g0 g1 g2;exact XXiCT
 by_cases g3:r.fs=r'.fs
 rotate_left
 ·have e:same r r'=false:=by unfold same;simp [g0,g1,g2,g3]
  rw [e];clear e;have t0:(r.m.toList==r'.m.toList)=true:=by rw [ba_beq];exact decide_eq_true g0
  have s0:r.m.toList=r'.m.toList:=(toList_iff _ _).2 g0;have t1:(r.x.toList==r'.x.toList)=true:=by rw [ba_beq];exact decide_eq_true g1
  have s1:r.x.toList=r'.x.toList:=(toList_iff _ _).2 g1;have t2:(r.k==r'.k)=true:=beq_iff_eq.2 g2;rw [decide_eq_false g3] at HF1;clear g0 g1 g2 g3;exact XXPZS
 by_cases g4:r.ch=r'.ch
 rotate_left
 ·have e:same r r'=false:=by unfold same;simp [g0,g1,g2,g3,g4]
  rw [e];clear e;have t0:(r.m.toList==r'.m.toList)=true:=by rw [ba_beq];exact decide_eq_true g0
  have s0:r.m.toList=r'.m.toList:=(toList_iff _ _).2 g0;have t1:(r.x.toList==r'.x.toList)=true:=by rw [ba_beq];exact decide_eq_true g1
  have s1:r.x.toList=r'.x.toList:=(toList_iff _ _).2 g1;have t2:(r.k==r'.k)=true:=beq_iff_eq.2 g2;rw [decide_eq_true g3] at HF1;have t4:(r.ch==r'.ch)=false:=beq_eq_false_iff_ne.2 g4;clear g0 g1 g2 g3 g4;exact XXPZS
 by_cases g5:r.body=r'.body
 rotate_left
 ·have e:same r r'=false:=by unfold same;simp [g0,g1,g2,g3,g4,g5]
  rw [e];clear e;have t0:(r.m.toList==r'.m.toList)=true:=by rw [ba_beq];exact decide_eq_true g0
  have s0:r.m.toList=r'.m.toList:=(toList_iff _ _).2 g0;have t1:(r.x.toList==r'.x.toList)=true:=by rw [ba_beq];exact decide_eq_true g1
  have s1:r.x.toList=r'.x.toList:=(toList_iff _ _).2 g1;have t2:(r.k==r'.k)=true:=beq_iff_eq.2 g2;rw [decide_eq_true g3] at HF1;have t4:(r.ch==r'.ch)=true:=beq_iff_eq.2 g4
  have t5:((Txt.ba r.body).toList==(Txt.ba r'.body).toList)=false:=by rw [ba_beq];exact decide_eq_false (λh=>g5 (ba_list_inj.1 h))
  have s5:¬(Txt.ba r.body).toList=(Txt.ba r'.body).toList:=λh=>g5 (ba_list_inj.1 ((toList_iff _ _).1 h));clear g0 g1 g2 g3 g4 g5;exact XXPZS
 by_cases g6:r.ts=r'.ts
 rotate_left
 ·have e:same r r'=false:=by unfold same;simp [g0,g1,g2,g3,g4,g5,g6]
  rw [e];clear e;have t0:(r.m.toList==r'.m.toList)=true:=by rw [ba_beq];exact decide_eq_true g0
  have s0:r.m.toList=r'.m.toList:=(toList_iff _ _).2 g0;have t1:(r.x.toList==r'.x.toList)=true:=by rw [ba_beq];exact decide_eq_true g1
  have s1:r.x.toList=r'.x.toList:=(toList_iff _ _).2 g1;have t2:(r.k==r'.k)=true:=beq_iff_eq.2 g2;rw [decide_eq_true g3] at HF1;have t4:(r.ch==r'.ch)=true:=beq_iff_eq.2 g4
  have t5:((Txt.ba r.body).toList==(Txt.ba r'.body).toList)=true:=by rw [ba_beq];exact decide_eq_true (by rw [g5])
  have s5:(Txt.ba r.body).toList=(Txt.ba r'.body).toList:=(toList_iff _ _).2 (by rw [g5]);rw [decide_eq_false g6] at HF2;exact XXi6S
 have e:same r r'=true:=by unfold same;simp [g0,g1,g2,g3,g4,g5,g6]
 rw [e];clear e;have t0:(r.m.toList==r'.m.toList)=true:=by rw [ba_beq];exact decide_eq_true g0
 have s0:r.m.toList=r'.m.toList:=(toList_iff _ _).2 g0;have t1:(r.x.toList==r'.x.toList)=true:=by rw [ba_beq];exact decide_eq_true g1
 have s1:r.x.toList=r'.x.toList:=(toList_iff _ _).2 g1;have t2:(r.k==r'.k)=true:=beq_iff_eq.2 g2;rw [decide_eq_true g3] at HF1;have t4:(r.ch==r'.ch)=true:=beq_iff_eq.2 g4
 have t5:((Txt.ba r.body).toList==(Txt.ba r'.body).toList)=true:=by rw [ba_beq];exact decide_eq_true (by rw [g5])
 have s5:(Txt.ba r.body).toList=(Txt.ba r'.body).toList:=(toList_iff _ _).2 (by rw [g5]);rw [decide_eq_true g6] at HF2;exact XXi6S
end
end Go.Proofs.YtnabkcglnbdfeaaGreatDoor.Rec
namespace Go.Proofs.YtnabkcglnbdfeaaGreatDoor.Rec
open Go.RowKit Base Txt
def RecAt (w:World) (b o:Nat) (r:R):Prop:=
 ∃(fa:Option Addr) (fc:Nat) (ba:Option Addr) (bc:Nat) (ta:Option Addr) (tc:Nat),
  (w.cell? ⟨b,o,none⟩=some (ZY r.m)/\w.cell? ⟨b,o+1,none⟩=some (ZY r.x)/\w.cell? ⟨b,o+2,none⟩=some (ZZ ZS r.k)/\w.cell? ⟨b,o+3,none⟩=some (.slice fa r.fs.length fc)/\
   w.cell? ⟨b,o+4,none⟩=some (ZW r.ch)/\w.cell? ⟨b,o+5,none⟩=some (.slice ba r.body.length bc)/\w.cell? ⟨b,o+6,none⟩=some (.slice ta r.ts.length tc))/\
  Reads w (ZU #[ZY r.m,ZY r.x,ZZ ZS r.k,.slice fa r.fs.length fc,ZW r.ch,.slice ba r.body.length bc,.slice ta r.ts.length tc]) r
theorem RecAt.below {w w':World} {b o:Nat} {r:R} (h:RecAt w b o r) (hlt:b<w.heap.size) (hb:Below w.heap.size w w'):RecAt w' b o r:=by
 obtain ⟨fa,fc,ba,bc,ta,tc,⟨c0,c1,c2,c3,c4,c5,c6⟩,hr⟩:=h
 exact ⟨fa,fc,ba,bc,ta,tc,⟨(hb.cell (p:=⟨b,o,none⟩) hlt).trans c0,(hb.cell (p:=⟨b,o+1,none⟩) hlt).trans c1,(hb.cell (p:=⟨b,o+2,none⟩) hlt).trans c2,(hb.cell (p:=⟨b,o+3,none⟩) hlt).trans c3,
  (hb.cell (p:=⟨b,o+4,none⟩) hlt).trans c4,(hb.cell (p:=⟨b,o+5,none⟩) hlt).trans c5,(hb.cell (p:=⟨b,o+6,none⟩) hlt).trans c6⟩,hr.below hb⟩
def r0:R:=⟨AG,AG,0,[],false,[],[]⟩
def Recs (w:World) (a:Option Addr) (n:Nat) (rs:List R):Prop:=
 rs.length=n/\(0<n->∃b off,a=some ⟨b,off,none⟩/\b<w.heap.size/\∀k,k<n->RecAt w b (off+k*7) (rs[k]?.getD r0))
theorem Recs.below {w w':World} {a:Option Addr} {n:Nat} {rs:List R} (h:Recs w a n rs) (hb:Below w.heap.size w w'):Recs w' a n rs:=by exact XXsyZ
theorem all_iff:∀a b:List R,all a b=true↔a=b
 | [],[]=>by simp [all]
 | [],_ :: _=>by simp [all]
 | _ :: _,[]=>by simp [all]
 | x::a,y::b=>by rw [all,As,same_iff,all_iff a b,List.cons.injEq]
theorem all_len (a b:List R) (h:¬a.length=b.length):all a b=false:=by
 rw [Bool.eq_false_iff]
 exact λe=>h (by rw [(all_iff a b).1 e])
theorem all_self (a:List R):all a a=true:=(all_iff a a).2 rfl
theorem take_eq (xs ys:List R) (k:Nat) (hx:k<xs.length) (hy:k<ys.length) (h:xs.take k=ys.take k) (e:xs[k]?.getD r0=ys[k]?.getD r0):xs.take (k+1)=ys.take (k+1):=by exact XXzUO
theorem fit_at {rs:List R} (h:∀r∈rs,Fit r) (k:Nat) (hk:k<rs.length):Fit (rs[k]?.getD r0):=by rw [C0 hk];exact h _ (C8 hk)
section
set_option maxHeartbeats 2000000
theorem XXWwf {P:Prop} (h:P:=by
 obtain rfl:k=n:=by omega
 have HE:=BN (show B=true by
  rw [←HB.out,all_iff];have:=hpre.out
  rwa [Dp (by rw [HL.out];omega),Dp (by rw [HM.out];omega)] at this)
 clear hpre;go_wp2;go_ret
 exact ⟨by first | rfl |(rw [HE.out];rfl),hbr.out⟩):P:=h
theorem equalFunc_any (a:Option Addr) (n cap:Nat) (rs:List R) (b:Option Addr) (m cap2:Nat) (qs:List R) (w:World) (hv:Recs w a n rs) (hu:Recs w b m qs) (hn:n<=1000000000) (hm:m<=1000000000) (hf:∀r∈rs,Fit r) (hg:∀r∈qs,Fit r) :
 Calls Gq 153 #[.slice a n cap,.slice b m cap2,.func (.func 154) #[] #[]] w λe w'=>e=.returned (ZW (all rs qs))/\Below w.heap.size w w':=by
 have eg:∀args w,(callFunc 154 args).run Gq w=.ok (.enter 154 args) w:=enters_of Tryz.func154 (by kernel_rfl) rfl;have HV:=BN hv;have HU:=BN hu;have HF:=BN hf;have HG:=BN hg;have HL:=BN hv.1;have HM:=BN hu.1;by_cases hnm:n=m
 ·subst hnm;clear hv hu hf hg;obtain ⟨B,hB⟩:∃B,all rs qs=B:=⟨_,rfl⟩;rw [hB];have HB:=BN hB;clear hB;go_enter Tryz.func153,Tryz.ntmps153;go_wp2
  go_loopw [17] (λi wr=>∃k:Nat,k<=n/\i=ZZ ZS k/\Hid (rs.take k=qs.take k)/\Hid (Below w.heap.size w wr)) (λi _=>n-(intOf i).toNat)
  case atStart=>exact ⟨0,DC _,rfl,BN rfl,BN (Ao _ _)⟩
  case round=>
   obtain ⟨k,hk,rfl,hpre,hbr⟩:=hrel;rcases D9 k n with hlt | hge
   ·obtain ⟨bl,off,rfl,hbl,hc⟩:=(HV.out.below hbr.out).2 (by omega)
    obtain ⟨bl',off',rfl,hbl',hc'⟩:=(HU.out.below hbr.out).2 (by omega);have hkr:k<rs.length:=by rw [HL.out];exact hlt
    have hkq:k<qs.length:=by rw [HM.out];exact hlt
    have h1:=hc k hlt;have h2:=hc' k hlt;have f1:=fit_at HF.out k hkr;have f2:=fit_at HG.out k hkq
    have HN:=BN (take_eq rs qs k hkr hkq hpre.out)
    have HX:=BN (show rs=qs->rs[k]?.getD r0=qs[k]?.getD r0 from λe=>by rw [e]);clear hc hc' hkr hkq;generalize rs[k]?.getD r0=x at *;generalize qs[k]?.getD r0=y at *;obtain ⟨fa,fc,ba,bc,ta,tc,⟨c0,c1,c2,c3,c4,c5,c6⟩,hr1⟩:=h1;obtain ⟨fa',fc',ba',bc',ta',tc',⟨d0,d1,d2,d3,d4,d5,d6⟩,hr2⟩:=h2
    have HC:=BN (λw2 (hb:Below wr.heap.size wr w2)=>same_any _ _ _ _ w2 (hr1.below hb) (hr2.below hb) f1 f2)
    have hb2:=BN (((Ao _ _).alloc (D5 _) (.cells #[ZY x.m,ZY x.x,ZZ ZS x.k,.slice fa x.fs.length fc,ZW x.ch,.slice ba x.body.length bc,.slice ta x.ts.length tc] 58)).alloc (by simp) (.cells #[ZY y.m,ZY y.x,ZZ ZS y.k,.slice fa' y.fs.length fc',ZW y.ch,.slice ba' y.body.length bc',.slice ta' y.ts.length tc'] 58):Below wr.heap.size wr _);have i1:(k:Int)<(n:Int):=by omega
    clear hr1 hr2 f1 f2;cases hq:same x y with
    | true=>
      have HE:=BN (HN.out ((same_iff _ _).1 hq));rw [hq] at HC;clear HN HX hq
      go_wp2_with (go_at_fn 154;with_reducible refine (HC.out _ hb2.out).mono ?_;rintro e w2 ⟨rfl,hb3⟩)
      have H3:=BN (Al hbr.out (Al hb2.out hb3));clear hb3;go_roundw
      case rel=>exact ⟨k+1,by omega,by go_num,HE,H3⟩
      case measure=>simp [intOf];omega
    | false=>
      have HE:=BN (show B=false by
       rw [←HB.out,Bool.eq_false_iff];intro e
       have:=(same_iff _ _).2 (HX.out ((all_iff _ _).1 e));rw [hq] at this;cases this)
      rw [hq] at HC;clear HN HX hq
      go_wp2_with (go_at_fn 154;with_reducible refine (HC.out _ hb2.out).mono ?_;rintro e w2 ⟨rfl,hb3⟩);go_ret;exact ⟨by first | rfl |(rw [HE.out];rfl),Al hbr.out (Al hb2.out hb3)⟩
   ·exact XXWwf
 ·have e:all rs qs=false:=all_len rs qs (by rw [hv.1,hu.1];exact hnm);have t0:((n:Int)==(m:Int))=false:=by rw [beq_eq_false_iff_ne];omega
  have t1:¬(n:Int)=(m:Int):=by omega
  rw [e];clear hv hu hf hg e hnm;go_enter Tryz.func153,Tryz.ntmps153;go_wp2;go_ret;exact ⟨rfl,Ao _ _⟩
theorem all_any (a:Option Addr) (n cap:Nat) (rs:List R) (b:Option Addr) (m cap2:Nat) (qs:List R) (w:World) (hv:Recs w a n rs) (hu:Recs w b m qs) (hn:n<=1000000000) (hm:m<=1000000000) (hf:∀r∈rs,Fit r) (hg:∀r∈qs,Fit r) :
 Calls Gq 107 #[.slice a n cap,.slice b m cap2] w λe w'=>e=.returned (ZW (all rs qs))/\Below w.heap.size w w':=by
 have H:=BN (equalFunc_any a n cap rs b m cap2 qs w hv hu hn hm hf hg);clear hv hu hf hg;go_enter Tryz.func107,Tryz.ntmps107
 go_wp2_with (go_at_call 153;with_reducible refine H.out.mono ?_;rintro e w2 ⟨rfl,hb2⟩);go_ret;exact ⟨rfl,hb2⟩
theorem XX1o1 {P:Prop} (h:P:=by refine Each.fine rfl (λev w1 hR hb hh=>?_);have e0:=hR.old 0 rfl;have e5:=hR.old 5 rfl;have e1:=hR.old 1 rfl;simp only [Ag,C6,Cy,Cz,DV] at e0 e5 e1;exact Each.std):P:=h
theorem rall_any (a:Option Addr) (n cap:Nat) (rs:List R) (b:Option Addr) (m cap2:Nat) (qs:List R) (w:World) (hv:Recs w a n rs) (hu:Recs w b m qs) (hn:n<=1000000000) (hm:m<=1000000000) (hf:∀r∈rs,Fit r) (hg:∀r∈qs,Fit r) :
 Calls Gq 22 #[.slice a n cap,.slice b m cap2] w λe w'=>e=.returned (ZW (all rs qs))/\Below w.heap.size w w':=by
 have HV:=BN hv;have HU:=BN hu;have HF:=BN hf;have HG:=BN hg;have HL:=BN hv.1;have HM:=BN hu.1;by_cases hnm:n=m
 ·subst hnm;clear hv hu hf hg;obtain ⟨B,hB⟩:∃B,all rs qs=B:=⟨_,rfl⟩;rw [hB];have HB:=BN hB;clear hB;go_enter Tryz.func22,Tryz.ntmps22;go_wp2
  go_loopw [5] (λi wr=>∃k:Nat,k<=n/\i=ZZ ZS k/\Hid (rs.take k=qs.take k)/\Hid (Below w.heap.size w wr)) (λi _=>n-(intOf i).toNat)
  case atStart=>exact ⟨0,DC _,rfl,BN rfl,BN (Ao _ _)⟩
  case round=>
   obtain ⟨k,hk,rfl,hpre,hbr⟩:=hrel;rcases D9 k n with hlt | hge
   ·obtain ⟨bl,off,rfl,hbl,hc⟩:=(HV.out.below hbr.out).2 (by omega)
    obtain ⟨bl',off',rfl,hbl',hc'⟩:=(HU.out.below hbr.out).2 (by omega);have hkr:k<rs.length:=by rw [HL.out];exact hlt
    have hkq:k<qs.length:=by rw [HM.out];exact hlt
    have h1:=hc k hlt;have h2:=hc' k hlt;have f1:=fit_at HF.out k hkr;have f2:=fit_at HG.out k hkq
    have HN:=BN (take_eq rs qs k hkr hkq hpre.out)
    have HX:=BN (show rs=qs->rs[k]?.getD r0=qs[k]?.getD r0 from λe=>by rw [e]);clear hc hc' hkr hkq;generalize rs[k]?.getD r0=x at *;generalize qs[k]?.getD r0=y at *;obtain ⟨fa,fc,ba,bc,ta,tc,⟨c0,c1,c2,c3,c4,c5,c6⟩,hr1⟩:=h1;obtain ⟨fa',fc',ba',bc',ta',tc',⟨d0,d1,d2,d3,d4,d5,d6⟩,hr2⟩:=h2
    have HC:=BN (λw2 (hb:Below wr.heap.size wr w2)=>rsame_any _ _ _ _ w2 (hr1.below hb) (hr2.below hb) f1 f2)
    have HCE:=BN (show∀w1,Below wr.heap.size wr w1->(w1.cell? ⟨bl,off+k*7,none⟩=some (ZY x.m)/\w1.cell? ⟨bl,off+k*7+1,none⟩=some (ZY x.x)/\w1.cell? ⟨bl,off+k*7+2,none⟩=some (ZZ ZS x.k)/\w1.cell? ⟨bl,off+k*7+3,none⟩=some (.slice fa x.fs.length fc)/\w1.cell? ⟨bl,off+k*7+4,none⟩=some (ZW x.ch)/\w1.cell? ⟨bl,off+k*7+5,none⟩=some (.slice ba x.body.length bc)/\w1.cell? ⟨bl,off+k*7+6,none⟩=some (.slice ta x.ts.length tc)) from
     λw1 hb=>⟨(hb.cell (p:=⟨bl,off+k*7,none⟩) hbl).trans c0,(hb.cell (p:=⟨bl,off+k*7+1,none⟩) hbl).trans c1,(hb.cell (p:=⟨bl,off+k*7+2,none⟩) hbl).trans c2,(hb.cell (p:=⟨bl,off+k*7+3,none⟩) hbl).trans c3,(hb.cell (p:=⟨bl,off+k*7+4,none⟩) hbl).trans c4,(hb.cell (p:=⟨bl,off+k*7+5,none⟩) hbl).trans c5,(hb.cell (p:=⟨bl,off+k*7+6,none⟩) hbl).trans c6⟩)
    have HCD:=BN (show∀w1,Below wr.heap.size wr w1->(w1.cell? ⟨bl',off'+k*7,none⟩=some (ZY y.m)/\w1.cell? ⟨bl',off'+k*7+1,none⟩=some (ZY y.x)/\w1.cell? ⟨bl',off'+k*7+2,none⟩=some (ZZ ZS y.k)/\w1.cell? ⟨bl',off'+k*7+3,none⟩=some (.slice fa' y.fs.length fc')/\w1.cell? ⟨bl',off'+k*7+4,none⟩=some (ZW y.ch)/\w1.cell? ⟨bl',off'+k*7+5,none⟩=some (.slice ba' y.body.length bc')/\w1.cell? ⟨bl',off'+k*7+6,none⟩=some (.slice ta' y.ts.length tc')) from
     λw1 hb=>⟨(hb.cell (p:=⟨bl',off'+k*7,none⟩) hbl').trans d0,(hb.cell (p:=⟨bl',off'+k*7+1,none⟩) hbl').trans d1,(hb.cell (p:=⟨bl',off'+k*7+2,none⟩) hbl').trans d2,(hb.cell (p:=⟨bl',off'+k*7+3,none⟩) hbl').trans d3,(hb.cell (p:=⟨bl',off'+k*7+4,none⟩) hbl').trans d4,(hb.cell (p:=⟨bl',off'+k*7+5,none⟩) hbl').trans d5,(hb.cell (p:=⟨bl',off'+k*7+6,none⟩) hbl').trans d6⟩)
    have i1:(k:Int)<(n:Int):=by omega
    clear hr1 hr2 f1 f2 c0 c1 c2 c3 c4 c5 c6 d0 d1 d2 d3 d4 d5 d6
    have hdr:=BN (Ak (Ao wr.heap.size wr) 1);obtain ⟨z,hz⟩:∃z,same x y=z:=⟨_,rfl⟩;rw [hz] at HC;have HZ:=BN hz;clear hz;go_wp2_with fail;refine Each.region_all 10 [17,18,19,20,21,22,23,24,25,26] [eQ (ZX (some ⟨bl,off,none⟩) n cap),eQ (ZZ ZS ((k:Nat):Int)),eP bl (off+k*7),eQ (ZU #[ZY x.m,ZY x.x,ZZ ZS x.k,.slice fa x.fs.length fc,ZW x.ch,.slice ba x.body.length bc,.slice ta x.ts.length tc]),eQ ((ZX (some ⟨bl',off',none⟩) n cap2)),eQ (ZZ ZS ((k:Nat):Int)),eP bl' (off'+k*7),eQ (ZU #[ZY y.m,ZY y.x,ZZ ZS y.k,.slice fa' y.fs.length fc',ZW y.ch,.slice ba' y.body.length bc',.slice ta' y.ts.length tc']),eQ (ZW z),eQ (ZW (!z))] (by kernel_rfl) (by kernel_rfl) (by kernel_rfl) (by kernel_rfl) (λ_ _ d _ _ h=>by cases d<;>exact h) (by rfl) (by rfl) (by repeat first | exact trivial | refine ⟨Each.Lasts.eq _,?_⟩) ?_ ?_
    ·refine ⟨?_,?_,?_,?_,?_,?_,?_,?_,?_,?_,trivial⟩
     ·exact XX1o1
     ·exact XX1o1
     ·exact XX1o1
     ·refine Each.fine rfl (λev w1 hR hb hh=>?_);have e19:ev (.tmp 19)= _:=hh.at 0;clear hh
      obtain ⟨q0,q1,q2,q3,q4,q5,q6⟩:=HCE.out w1 (hdr.out.trans (hb.mono (D5 _)));exact XXqTe
     ·exact XX1o1
     ·exact XX1o1
     ·exact XX1o1
     ·refine Each.fine rfl (λev w1 hR hb hh=>?_);have e23:ev (.tmp 23)= _:=hh.at 0;clear hh
      obtain ⟨q0,q1,q2,q3,q4,q5,q6⟩:=HCD.out w1 (hdr.out.trans (hb.mono (D5 _)));exact XXqTe
     ·refine Each.fine rfl (λev w1 hR hb hh=>?_);have e20:ev (.tmp 20)= _:=hh.at 0;have e24:ev (.tmp 24)= _:=hh.at 1;clear hh;have ef:=hR.func
      refine Each.Goes.enter 48 #[ZU #[ZY x.m,ZY x.x,ZZ ZS x.k,.slice fa x.fs.length fc,ZW x.ch,.slice ba x.body.length bc,.slice ta x.ts.length tc],ZU #[ZY y.m,ZY y.x,ZZ ZS y.k,.slice fa' y.fs.length fc',ZW y.ch,.slice ba' y.body.length bc',.slice ta' y.ts.length tc']] (by go_simp) ((HC.out w1 (hdr.out.trans (hb.mono (D5 _)))).mono ?_);rintro e w2 ⟨rfl,hb2⟩;exact ⟨_,rfl,hb2,rfl⟩
     ·exact XX1o1
    intro g1 w2 hb hf;have z26:g1 26= _:=hf.at 9;clear hf;simp only [Each.putg,Ab,Di,Dl,Dk];rw [z26]
    have H3:=BN (Al hbr.out hb);clear hb;cases z with
    | true=>
      have HE:=BN (HN.out ((same_iff _ _).1 HZ.out));clear HN HX HZ;go_wp2;go_roundw
      case rel=>exact ⟨k+1,by omega,by go_num,HE,H3⟩
      case measure=>simp [intOf];omega
    | false=>
      have HE:=BN (show B=false by
       rw [←HB.out,Bool.eq_false_iff];intro e
       have:=(same_iff _ _).2 (HX.out ((all_iff _ _).1 e));rw [HZ.out] at this;cases this)
      clear HN HX HZ;go_wp2;go_ret;exact ⟨by first | rfl |(rw [HE.out];rfl),H3.out⟩
   ·exact XXWwf
 ·have e:all rs qs=false:=all_len rs qs (by rw [hv.1,hu.1];exact hnm);have t0:((n:Int)==(m:Int))=false:=by rw [beq_eq_false_iff_ne];omega
  have t1:¬(n:Int)=(m:Int):=by omega
  rw [e];clear hv hu hf hg e hnm;go_enter Tryz.func22,Tryz.ntmps22;go_wp2;go_ret;exact ⟨rfl,Ao _ _⟩
end
end Go.Proofs.YtnabkcglnbdfeaaGreatDoor.Rec
namespace Go.Proofs.YtnabkcglnbdfeaaGreatDoor.Flt
open Go.RowKit Base Txt Par Pg
structure F where
 x:Q
 y:Q
 code:Nat
 parted:Bool
def F.judge (f:F) (s l:Nat) (alike:Bool):F:=
 if s≠0 then {f with code:=s,parted:=l==0} else if (!(l==0) || !alike)=true then {f with code:=400,parted:=true} else f
section
variable (p:Nat) (b:Bd)
def F.look (f:F) (c:UInt8):F × List Eo:=
 let x:=f.x.byte 0 b c
 let y:=f.y.byte p b c
 (F.judge ⟨x.told,y.told,f.code,f.parted⟩ x.err y.err (Rec.all x.out y.out),if Rec.all x.out y.out=true then x.out else [])
def F.byte (f:F) (c:UInt8):F × List Eo:=if f.code=0 then f.look p b c else (f,[])
def F.feed:F->List UInt8->F × List Eo
 | f,[]=>(f,[])
 | f,c::l=>((F.feed (f.byte p b c).1 l).1,(f.byte p b c).2++(F.feed (f.byte p b c).1 l).2)
def F.new:F:=⟨Q.new 0 b,Q.new p b,(Q.new p b).err,false⟩
def F.held (f:F):Nat:=max f.x.held f.y.held
theorem F.feed_app (l l':List UInt8):∀f:F,F.feed p b f (l++l')=((F.feed p b (F.feed p b f l).1 l').1,(F.feed p b f l).2++(F.feed p b (F.feed p b f l).1 l').2):=by
 induction l with
 | nil=>intro f;simp [F.feed]
 | cons c l ih=>
   intro f;rw [List.cons_append];simp only [F.feed];rw [ih,List.append_assoc]
theorem F.feed_snoc (l:List UInt8) (c:UInt8) (f:F):F.feed p b f (l ++ [c])=((F.byte p b (F.feed p b f l).1 c).1,(F.feed p b f l).2++(F.byte p b (F.feed p b f l).1 c).2):=by rw [F.feed_app];simp [F.feed]
theorem F.feed_blocked (f:F) (h:f.code≠0):∀l:List UInt8,F.feed p b f l=(f,[])
 | []=>rfl
 | c::l=>by
   have e:f.byte p b c=(f,[]):=if_neg h;simp only [F.feed,e,F.feed_blocked f h l,Cb]
end
section
variable {p:Nat} {b:Bd}
theorem told_out (x:Q):x.told.out= []:=by cases x<;>rfl
def F.Just (p:Nat) (b:Bd) (f:F):Prop:=
 (f.code=0/\f.parted=false/\∃t,f.x=.live t/\t.Strict/\t.out= []/\f.y=.live (t.wide p)/\t.Ok/\b.right=true/\∃s,RR 0 b t s)∨(f.code≠0/\∃o,f.x=.dead f.code o)
theorem just_new (hp:p<1073741824) (hb:b.right=true):(F.new p b).Just p b:=by
 have e:Q.new p b=.live (T.new p b):=if_pos (by rw [hb,decide_eq_true hp];rfl)
 have e0:Q.new 0 b=.live (T.new 0 b):=if_pos (by rw [hb];rfl)
 have hs:=new_sim (p:=0) (b:=b);rw [e0] at hs;refine .inl ⟨?_,rfl,T.new 0 b,e0,(new_wide (p:=p)).2,rfl,?_,⟨Ln.M.new_ok _ _ _ (Ln.mid_le _),rfl,⟨D5 _,by show 1<=7;omega⟩,DC _,DC _,D5 _,D5 _,(by intro y hy;cases hy),(by intro y hy;cases hy),DC _,DC _,DC _,λh=>(by cases h),λ_=>rfl,DC _⟩,hb,_,hs⟩
 ·show (Q.new p b).err=0;rw [e];rfl
 ·show Q.new p b= _;rw [e,(new_wide (p:=p)).1]
theorem all_self (l:List Eo):Rec.all l l=true:=(Rec.all_iff l l).2 rfl
theorem just_byte {f:F} (h:f.Just p b) (c:UInt8):(f.byte p b c).1.Just p b:=by
 rcases h with ⟨h1,h2,t,h3,h4,h5,h6,h7,h8,s,h9⟩ | ⟨h1,o,h2⟩
 ·unfold F.byte;rw [if_pos h1];unfold F.look;rw [h3,h6];have e1:(Q.live t).byte 0 b c=t.take 0 b c:=rfl;have e2:(Q.live (t.wide p)).byte p b c=(t.wide p).take p b c:=rfl;have hs:=take_sim h9 h7 h8 c;simp only [e1,e2];cases ht:t.take 0 b c with
  | live t2=>
    obtain ⟨k1,k2⟩:=take_wide (p:=p) ht h4;rw [ht] at hs;rw [k1];left;have ej:F.judge ⟨(Q.live t2).told,(Q.live (t2.wide p)).told,f.code,f.parted⟩ (Q.live t2).err (Q.live (t2.wide p)).err (Rec.all (Q.live t2).out (Q.live (t2.wide p)).out)=⟨(Q.live t2).told,(Q.live (t2.wide p)).told,f.code,f.parted⟩:=by have e3:Rec.all (Q.live t2).out (Q.live (t2.wide p)).out=true:=all_self _;unfold F.judge;rw [e3];rfl
    rw [ej];have hk:=told_sim (x:=.live t2) hs;exact ⟨h1,h2,{t2 with out:= []},rfl,⟨k2.lf,k2.cr⟩,rfl,rfl,(told_fine (x:=.live t2) (b:=b) ⟨h7.take h8 c ht,h8⟩).1,h8,_,hk⟩
  | dead e o=>
    rw [ht] at hs;obtain ⟨k1,k2,k3,k4⟩:=hs;right;unfold F.judge;simp only [if_pos (show (Q.dead e o).err≠0 from k2)];exact ⟨k2,[],rfl⟩
 ·unfold F.byte;rw [if_neg h1];exact .inr ⟨h1,o,h2⟩
theorem just_feed (l:List UInt8):∀{f:F},f.Just p b->(F.feed p b f l).1.Just p b:=by
 induction l with
 | nil=>intro f h;exact h
 | cons c l ih=>intro f h;exact ih (just_byte h c)
theorem Ok.fit {t:T} (h:t.Ok):Rec.Fit t.r:=
 ⟨by have:=h.m;omega,by have:=h.x;omega,by have:=h.fsl;have:=h.hl;omega,λy hy=>by have:=h.fss y hy;have:=h.hl;omega,by have:=h.body;omega,by have:=h.tsl;have:=h.bl;omega,λy hy=>by have:=h.tss y hy;have:=h.bl;omega⟩
theorem line_told (t:T) (s:List UInt8):(t.line p b s).2.out=t.out∨(t.line p b s).2.out=t.out ++ [t.r]:=by
 unfold T.line;split
 ·unfold T.first;split
  ·exact .inl rfl
  ·simp only;split<;>exact .inl rfl
 ·split
  ·unfold T.fields;split
   ·unfold T.endHead;simp only;split
    ·exact .inl rfl
    ·split
     ·exact .inl rfl
     ·split
      ·exact .inr rfl
      ·exact .inl rfl
   ·exact .inl rfl
  ·split
   ·unfold T.chunk;simp only;split
    ·exact .inl rfl
    ·split
     ·exact .inl rfl
     ·split<;>exact .inl rfl
   ·split
    ·unfold T.trail;split
     ·exact .inr rfl
     ·exact .inl rfl
    ·exact .inl rfl
theorem ends_out (x:Nat × T):(ends x).out=x.2.out:=by unfold ends;split<;>rfl
def Fits (o:List Eo):Prop:=∀r∈o,Rec.Fit r
theorem inLine_fits {t:T} (h:Fits t.out) (ok:t.Ok) (c:UInt8):Fits (t.inLine p b c).1.out:=by
 unfold T.inLine;simp only;split
 ·exact h
 ·split
  ·exact h
  ·split
   ·split
    ·exact h
    ·exact h
   ·show Fits (ends _).out;rw [ends_out];have hf:Rec.Fit t.r:=Ok.fit ok;rcases line_told (p:=p) (b:=b) {t with rd:=t.rd.byte c} (t.rd.byte c).line with e | e
    ·rw [e];exact h
    ·rw [e];intro r hr;rcases CS.1 hr with hr | hr
     ·exact h r hr
     ·rw [Dc.1 hr];exact hf
theorem look_fits {t:T} (h:Fits t.out) (ok:t.Ok) (hb:b.right=true) (c:UInt8):Fits (t.look p b c).1.out:=by
 unfold T.look;split
 ·rename_i hs;have hk:Rec.Fit (t.keep c).r:=by
   have h1:=Ok.fit ok;have h2:=ok.left hs;exact ⟨h1.m,h1.x,h1.fs,h1.f,by have:=ok.body;show (t.r.body ++ [c]).length<=_;rw [CG,List.length_singleton];omega,h1.ts,h1.t⟩
  show Fits (if t.left=1 then (t.keep c).endData p else t.keep c).out;split
  ·unfold T.endData;split
   ·exact h
   ·intro r hr;rcases CS.1 hr with hr | hr
    ·exact h r hr
    ·rw [Dc.1 hr];exact hk
  ·exact h
 ·split
  ·rename_i hh;split
   ·show Fits t.out;exact h
   ·rename_i hx;exact inLine_fits (by rw [counted_out];exact h) (ok.counted hb hx) c
  ·exact inLine_fits h ok c
theorem byte_fits {x:Q} (h:Fits x.out) (ok:x.Fine b) (c:UInt8):Fits (x.byte p b c).out:=by
 cases x with
 | dead e o=>exact h
 | live t=>
   obtain ⟨h1,h2⟩:=ok;show Fits (t.take p b c).out;unfold T.take;have k1:=look_fits (p:=p) (b:=b) (t:={t with cnt:=false}) h h1.cleared h2 c;rcases hq:T.look p b {t with cnt:=false} c with ⟨q,u⟩;rw [hq] at k1;cases q with
   | dead e o=>cases u<;>exact k1
   | live t1=>
     cases u with
     | true=>exact k1
     | false=>exact look_fits k1 (h1.cleared.look h2 c (by rw [hq])) h2 c
end
end Go.Proofs.YtnabkcglnbdfeaaGreatDoor.Flt
namespace Go.Proofs.YtnabkcglnbdfeaaGreatDoor.Rec
open Go.RowKit Base Txt
abbrev byteV (c:UInt8):Value:=ZZ ZR (c.toNat:Int)
def vals (l:List UInt8):List Value:=l.map byteV
theorem vals_app (a b:List UInt8):vals (a++b)=vals a++vals b:=List.map_append
theorem vals_length (a:List UInt8):(vals a).length=a.length:=CK _
theorem nums_of_own {w:World} {base:Nat} {v:Value} {n:Nat} {bs:List UInt8} {e:TypeId} (h:w.ownsRow base e 1 v n (vals bs)):∃A c,v=.slice A n c/\Nums .u8 w A n (Txt.nums bs):=by
 have hl:bs.length=n:=by simpa [vals_length] using h.1
 rcases h.2 with ⟨rfl,rfl⟩ | ⟨g,cap,cur,rfl,_,hh,_,hc,_,ht⟩
 ·obtain rfl:bs= []:=List.length_eq_zero_iff.1 hl;exact ⟨none,0,rfl,Nums.nil _ _ _⟩
 ·refine ⟨_,_,rfl,⟨by rw [Txt.nums,CK];exact hl,λ_=>⟨g,0,rfl,?_,λk hk=>?_⟩⟩⟩
  ·exact XXPZ2
  ·rw [DB,cell_of_row w g k cur e (0,0) hh,Txt.nums_at bs k (by omega)];have h1:(vals bs)[k]?=some (byteV bs[k]):=by
    rw [vals,C3,C0 (by omega)];rfl
   rw [←ht,List.getElem?_take_of_lt (by omega)] at h1;simpa using h1
theorem put7 {w0 w:World} {B g:Nat} {zs:List Value} (hZ:Bk w g zs) (hl:zs.length=7) (hb:Below B w0 w) (hg:B<=g) (v0 v1 v2 v3 v4 v5 v6:Value) :
 ∃W,((((((w.setCell ⟨g,0,none⟩ v0).setCell ⟨g,1,none⟩ v1).setCell ⟨g,2,none⟩ v2).setCell ⟨g,3,none⟩ v3).setCell ⟨g,4,none⟩ v4).setCell ⟨g,5,none⟩ v5).setCell ⟨g,6,none⟩ v6=W/\Bk W g [v0,v1,v2,v3,v4,v5,v6]/\Below B w0 W/\W.heap.size=w.heap.size/\
  (∀(base:Nat) (e:TypeId) (size:Nat) (v:Value) (n:Nat) (xs:List Value),w.ownsRow base e size v n xs->v.ownBlock≠some g->W.ownsRow base e size v n xs)/\∀(g':Nat) (vs:List Value),¬g'=g->Bk w g' vs->Bk W g' vs:=by
 obtain ⟨z0,z1,z2,z3,z4,z5,z6,rfl⟩:∃z0 z1 z2 z3 z4 z5 z6,zs= [z0,z1,z2,z3,z4,z5,z6]:=by
  match zs,hl with
  | [a,b,c,d,e,f,g],_=>exact ⟨a,b,c,d,e,f,g,rfl⟩
 refine ⟨_,rfl,?_,((((((hb.setCell hg _).setCell hg _).setCell hg _).setCell hg _).setCell hg _).setCell hg _).setCell hg _,by simp,?_,?_⟩
 ·exact ((((((hZ.set 0 v0 (by simp)).set 1 v1 (by simp)).set 2 v2 (by simp)).set 3 v3 (by simp)).set 4 v4 (by simp)).set 5 v5 (by simp)).set 6 v6 (by simp)
 ·intro base e size v n xs h hne;exact ownsRow_setCell_other (ownsRow_setCell_other (ownsRow_setCell_other (ownsRow_setCell_other (ownsRow_setCell_other (ownsRow_setCell_other (ownsRow_setCell_other h hne _) hne _) hne _) hne _) hne _) hne _) hne _
 ·intro g' vs hne h;have hne':¬g=g':=λe=>hne e.symm;exact ((((((h.other g 0 v0 hne').other g 1 v1 hne').other g 2 v2 hne').other g 3 v3 hne').other g 4 v4 hne').other g 5 v5 hne').other g 6 v6 hne'
structure Owns (w:World) (B:Nat) (fa:Option Addr) (fc:Nat) (ba:Option Addr) (bc:Nat) (ta:Option Addr) (tc:Nat) (r:R):Prop where
 f:w.ownsRow B 126 2 (.slice fa r.fs.length fc) r.fs.length (cells r.fs)
 b:w.ownsRow B 5 1 (.slice ba r.body.length bc) r.body.length (vals r.body)
 t:w.ownsRow B 126 2 (.slice ta r.ts.length tc) r.ts.length (cells r.ts)
 fb:∀g,(Value.slice fa r.fs.length fc).ownBlock=some g->(Value.slice ba r.body.length bc).ownBlock≠some g
 ft:∀g,(Value.slice fa r.fs.length fc).ownBlock=some g->(Value.slice ta r.ts.length tc).ownBlock≠some g
 bt:∀g,(Value.slice ba r.body.length bc).ownBlock=some g->(Value.slice ta r.ts.length tc).ownBlock≠some g
section
set_option maxHeartbeats 1000000
end
end Go.Proofs.YtnabkcglnbdfeaaGreatDoor.Rec
namespace Go.Proofs.YtnabkcglnbdfeaaGreatDoor.Mem
open Go.RowKit Base
def Lone (L:List (Option Nat)):Prop:=∀i j k:Nat,L[i]?=some (some k)->L[j]?=some (some k)->i=j
def In (w:World) (L:List (Option Nat)):Prop:=∀k,some k∈L->k<w.heap.size
def Of (w:World) (L L':List (Option Nat)):Prop:=∀k,some k∈L'->some k∈L∨w.heap.size<=k
structure Keeps (L:List (Option Nat)) (w w':World):Prop where
 os:w'.os=w.os
 tape:w'.tape=w.tape
 output:w'.output=w.output
 size:w.heap.size<=w'.heap.size
 block:∀k,k<w.heap.size->some k∉L->w'.heap[k]?=w.heap[k]?
section
variable {L L' L'':List (Option Nat)} {w w' w'':World} {B:Nat}
theorem Lone.ne (h:Lone L) {i j k:Nat} (hi:L[i]?=some (some k)) (hij:i≠j):L[j]?≠some (some k):=λhj=>hij (h i j k hi hj)
theorem Lone.set (h:Lone L) (hin:In w L) (i:Nat) (o:Option Nat) (ho:o=none∨L[i]?=some o∨∃k,o=some k/\w.heap.size<=k):Lone (L.set i o):=by
 have key:∀a b k,a≠b->(L.set i o)[a]?=some (some k)->(L.set i o)[b]?=some (some k)->a=i->False:=by
  intro a b k hab ha hb hai;subst hai;rw [List.getElem?_set_ne hab] at hb;have hlt:a<L.length:=by
   rcases D9 a L.length with h | h
   ·exact h
   ·rw [List.getElem?_eq_none (by simpa using h)] at ha;cases ha
  rw [List.getElem?_set_self hlt] at ha;obtain rfl:o=some k:=DX.inj ha;rcases ho with ho | ho | ⟨k',ho,hk⟩
  ·cases ho
  ·exact hab (h a b k ho hb)
  ·obtain rfl:k=k':=DX.inj ho
   have:=hin k (CZ hb);omega
 intro a b k ha hb;by_cases hab:a=b
 ·exact hab
 ·by_cases hai:a=i
  ·exact (key a b k hab ha hb hai).elim
  ·by_cases hbi:b=i
   ·exact (key b a k (λe=>hab e.symm) hb ha hbi).elim
   ·rw [List.getElem?_set_ne (λe=>hai e.symm)] at ha;rw [List.getElem?_set_ne (λe=>hbi e.symm)] at hb;exact h a b k ha hb
theorem Of.refl:Of w L L:=λ_ h=>.inl h
theorem Of.trans (h:Of w L L') (h':Of w' L' L'') (hs:w.heap.size<=w'.heap.size):Of w L L'':=λk hk=>by
 rcases h' k hk with h1 | h1
 ·exact h k h1
 ·exact .inr (by omega)
theorem Of.set (i:Nat) (o:Option Nat) (ho:o=none∨L[i]?=some o∨∃k,o=some k/\w.heap.size<=k):Of w L (L.set i o):=λk hk=>by
 rcases List.mem_or_eq_of_mem_set hk with h | h
 ·exact .inl h
 ·rcases ho with ho | ho | ⟨k',ho,hk⟩
  ·rw [ho] at h;cases h
  ·exact .inl (by rw [h];exact CZ ho)
  ·rw [ho] at h;cases h;exact .inr hk
theorem Keeps.refl:Keeps L w w:=⟨rfl,rfl,rfl,D5 _,λ_ _ _=>rfl⟩
theorem Keeps.trans (h:Keeps L w w') (h':Keeps L' w' w'') (ho:Of w L L'):Keeps L w w'':=by
 refine ⟨h'.os.trans h.os,h'.tape.trans h.tape,h'.output.trans h.output,D7 h.size h'.size,λk hk hn=>?_⟩
 refine (h'.block k (D8 hk h.size) λhm=>?_).trans (h.block k hk hn);rcases ho k hm with h1 | h1
 ·exact hn h1
 ·omega
theorem Keeps.mono (h:Keeps L w w') (hs:∀k,some k∈L->some k∈L'):Keeps L' w w':=⟨h.os,h.tape,h.output,h.size,λk hk hn=>h.block k hk λhm=>hn (hs k hm)⟩
theorem Keeps.below (h:Keeps L w w') (hB:B<=w.heap.size) (hL:∀k,some k∈L->B<=k):Below B w w':=
 ⟨h.os,h.tape,h.output,h.size,λk hk=>h.block k (by omega) λhm=>by have:=hL k hm;omega⟩
theorem Keeps.of_below (h:Below w.heap.size w w'):Keeps L w w':=⟨h.os,h.tape,h.output,h.size,λk hk _=>h.block k hk⟩
theorem Keeps.set (g k:Nat) (v:Value) (hg:some g∈L):Keeps L w (w.setCell ⟨g,k,none⟩ v):=
 ⟨rfl,rfl,rfl,by simp,λj _ hn=>Below.heap_setCell _ _ _ _ (λe=>hn (by rw [e];exact hg))⟩
theorem Keeps.grown {o:Option Nat} (h:w.grownBy w' o) (ho:∀k,o=some k->some k∈L):Keeps L w w':=
 ⟨h.os,h.tape,h.output,h.size,λk hk hn=>h.block k hk λe=>hn (ho k e.symm)⟩
theorem Keeps.of_kept {g:Nat} {o:Option Nat} (h:Ln.Kept g o w w') (hg:some g∈L) (ho:∀k,o=some k->some k∈L):Keeps L w w':=
 ⟨h.os,h.tape,h.output,h.size,λk hk hn=>h.block k hk (λe=>hn (by rw [e];exact hg)) λe=>hn (ho k e.symm)⟩
theorem Keeps.cell (h:Keeps L w w') {p:Addr} (hp:p.block<w.heap.size) (hn:some p.block∉L):w'.cell? p=w.cell? p:=by unfold World.cell?;rw [h.block _ hp hn]
theorem Keeps.row (h:Keeps L w w') {j:Nat} {cs:Array Value} {ty:TypeId} (hr:w.heap[j]?=some (.cells cs ty (0,0))) (hn:some j∉L):w'.heap[j]?=some (.cells cs ty (0,0)):=(h.block j (Ln.row_lt hr) hn).trans hr
theorem Keeps.own (h:Keeps L w w') {e:TypeId} {size:Nat} {v:Value} {n:Nat} {xs:List Value} (hv:w.ownsRow B e size v n xs) (hn:∀k,v.ownBlock=some k->some k∉L):w'.ownsRow B e size v n xs:=by
 refine ⟨hv.1,?_⟩;rcases hv.2 with h0 | ⟨b,cap,cur,rfl,hb,hgg,rest⟩
 ·exact .inl h0
 ·refine .inr ⟨b,cap,cur,rfl,hb,?_,rest⟩;rw [h.block b (Ln.row_lt hgg) (hn b (by simp [Value.ownBlock]))];exact hgg
theorem In.mono (h:In w L) (hs:w.heap.size<=w'.heap.size):In w' L:=λk hk=>D8 (h k hk) hs
end
structure Zone where
 b:Nat
 z:List (Option Nat)
instance:CoeOut Zone Nat:=⟨Zone.b⟩
structure Clear (w:World) (Z L:List (Option Nat)):Prop where
 inz:∀k,some k∈Z->k<w.heap.size
 off:∀k,some k∈L->some k∉Z
theorem Clear.of {w w':World} {Z L L':List (Option Nat)} (h:Clear w Z L) (hs:w.heap.size<=w'.heap.size) (ho:Of w L L'):Clear w' Z L':=
 ⟨λk hk=>D8 (h.inz k hk) hs,λk hk hz=>by
   rcases ho k hk with e | e
   ·exact h.off k e hz
   ·have:=h.inz k hz;omega⟩
theorem Clear.nil {w:World} {L:List (Option Nat)}:Clear w [] L:=⟨(λk hk=>by cases hk),(λk _ hz=>by cases hz)⟩
def slot:Value->Option Nat
 | .slice (some a) _ _=>some a.block
 | _=>none
def blocks:Value->List (Option Nat)
 | .agg cs=>cs.toList.map slot
 | _=> []
structure Far (L Z:List (Option Nat)) (w:World) (V:Value) (r:Eo):Prop where
 reads:Rec.Reads w V r
 far:∀k,some k∈blocks V->some k∉L/\k<w.heap.size
 off:∀k,some k∈blocks V->some k∉Z
section
variable {L L' Z:List (Option Nat)} {w w':World} {V:Value} {r:Eo}
theorem XX1Rn {P:Prop} (h:P:=by
 refine ⟨h.1,λh0=>?_⟩;obtain ⟨b,off,rfl,hlt,hc⟩:=h.2 h0;have hb:some b∉L:=by
  rcases hn 0 with e | ⟨k,e,hk⟩
  ·cases e
  ·cases e;exact hk
 first
  |exact ⟨b,off,rfl,D8 hlt hk.size,λk hkn=>⟨(hk.cell (p:=⟨b,off+k*2,none⟩) hlt hb).trans (hc k hkn).1,(hk.cell (p:=⟨b,off+k*2+1,none⟩) hlt hb).trans (hc k hkn).2⟩⟩
  |exact ⟨b,off,rfl,D8 hlt hk.size,λk hkn=>(hk.cell (p:=⟨b,off+k,none⟩) hlt hb).trans (hc k hkn)⟩):P:=h
theorem flds_keeps {a:Option Addr} {n:Nat} {fs:List Txt.Fld} (h:Txt.Flds w a n fs) (hk:Keeps L w w') (hn:∀c,slot (.slice a n c)=none∨∃k,slot (.slice a n c)=some k/\some k∉L):Txt.Flds w' a n fs:=by exact XX1Rn
theorem nums_keeps {a:Option Addr} {n:Nat} {kd:IntKind} {zs:List Int} (h:Nums kd w a n zs) (hk:Keeps L w w') (hn:∀c,slot (.slice a n c)=none∨∃k,slot (.slice a n c)=some k/\some k∉L):Nums kd w' a n zs:=by exact XX1Rn
theorem Far.keeps (h:Far L Z w V r) (hk:Keeps L w w'):Far L Z w' V r:=by
 refine ⟨?_,λk hb=>⟨(h.far k hb).1,D8 (h.far k hb).2 hk.size⟩,h.off⟩;obtain ⟨fa,fc,ba,bc,ta,tc,rfl,h1,h2,h3⟩:=h.reads;have hf:=h.far;simp only [blocks,List.map_cons,List.map_nil,CV,De,or_false] at hf;have key:∀(a:Option Addr) (n c:Nat),(∀k,some k=slot (.slice a n c)->some k∉L/\k<w.heap.size)->∀c',slot (.slice a n c')=none∨∃k,slot (.slice a n c')=some k/\some k∉L:=by
  intro a n c h c';cases a with
  | none=>exact .inl rfl
  | some a=>exact .inr ⟨a.block,rfl,(h a.block rfl).1⟩
 refine ⟨fa,fc,ba,bc,ta,tc,rfl,flds_keeps h1 hk (key _ _ fc λk e=>hf k ?_),nums_keeps h2 hk (key _ _ bc λk e=>hf k ?_),flds_keeps h3 hk (key _ _ tc λk e=>hf k ?_)⟩
 ·rw [e];simp
 ·rw [e];simp
 ·rw [e];simp
theorem Far.of (h:Far L Z w V r) (ho:∀k,some k∈L'->some k∈L∨w.heap.size<=k):Far L' Z w V r:=
 ⟨h.reads,λk hb=>⟨λhm=>by
   have:=h.far k hb;rcases ho k hm with h1 | h1
   ·exact this.1 h1
   ·omega,(h.far k hb).2⟩,h.off⟩
end
end Go.Proofs.YtnabkcglnbdfeaaGreatDoor.Mem
