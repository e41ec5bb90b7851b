import Derived.Test.YtdfabddnpgjepaaGreatDoorCzb
set_option linter.unusedSimpArgs false
set_option maxHeartbeats 8000000
set_option maxRecDepth 100000
open Bool renaming and_eq_true→AM,and_false→AN,and_true→AO,false_and→AS,false_eq_true→AT,false_ne_true→AU,not_eq_true'→AX,or_eq_true→Bc,or_false→Be,true_or→Bh
open Go.IntKind renaming i64→Z7,u8→Z6,u32→Z5
open Go.Value renaming int→ZE,string→ZD,slice→ZC,bool→ZB,pointer→ZA,agg→Z9,tuple→Z8
open List renaming all_eq_true→D5,append_assoc→D7,append_nil→D8,dropLast_concat_getLast→DL,eq_nil_of_length_eq_zero→DX,length_append→EO,length_cons→EP,length_nil→EW,length_pos_iff→EX,length_singleton→Fa,mem_append→Fj,mem_cons→Fk,mem_singleton→Fv,nil_append→Fw,replicate→Fz
open Nat renaming le_refl→Gi,zero_add→Gy,zero_le→Gz
open Option renaming getD_some→GW
open Prod.mk renaming injEq→Hl
open UInt8 renaming ofNat→NG
namespace Go.Proofs.YtdfabddnpgjepaaGreatDoor
open Go.RowKit
open Chk renaming putL→Bx,sizeV→Bz
open _root_.Go.Proofs.YtdfabddnpgjepaaGreatDoor.Fd renaming goes→BX,joined→BY,put→Cc
open Frm renaming chunked→Cn,clN→Co,clOf→Cp,coding→Cq,decideV→Ct,hostN→Cv,hostsV→Cw,lengthV→Cx,teN→Cz,winsV→C1
open Ln renaming M→FJ,failed→FS,mid→FT
open Num renaming digitOf→G5,readOf→G6,spell→G7
open Oct renaming allOf→GA
open Pg renaming headed→Hh
open Pg.Q renaming live→Ho
open Pg.T renaming chunk→IQ,endHead→IT,inLine→IW,line→IX
open Qk renaming has→Hs
open Rec renaming R→Hz
open Rq renaming request→Is
open Tgt renaming cutAt→Jg
open Txt renaming blank→NF
namespace Pg
open Base Txt Par
structure T.Ok (t:T):Prop where
 rd:t.rd.Ok
 nf:FS t.rd.last=false
 st:1<=t.st/\t.st<=7
 hl:t.hl<=100
 bl:t.bl<=100
 fsl:t.r.fs.length<=t.hl
 tsl:t.r.ts.length<=t.bl
 fss:∀y∈t.r.fs,y.1.size<=5000*t.hl/\y.2.size<=5000*t.hl
 tss:∀y∈t.r.ts,y.1.size<=5000*t.bl/\y.2.size<=5000*t.bl
 m:t.r.m.size<=4096
 x:t.r.x.size<=4096
 body:t.r.body.length+t.left<=1048576
 left:bodied t.st=true->1<=t.left
 early:t.st<=2->t.r.body= []
 size:t.size<=65536
theorem Bd.edges {b:Bd} (h:b.right=true):(64<=b.x0/\b.x0<=4096)/\(4<=b.x1/\b.x1<=100)/\(256<=b.x2/\b.x2<=65536)/\(16<=b.x3/\b.x3<=1048576)/\(0<=b.x4/\b.x4<=256)/\(0<=b.x5/\b.x5<=100):=by unfold Bd.right Bnd.right Bnd.inside at h;simp only [AM,decide_eq_true_eq] at h;omega
theorem size_ba (l:List UInt8):(ba l).size=l.length:=by simp [ba,ByteArray.size]
theorem joinF_le (f:Fld) (ln:List UInt8):(joinF f ln).1.size=f.1.size/\(joinF f ln).2.size<=f.2.size+1+ln.length:=by refine ⟨rfl,?_⟩;unfold joinF;rw [size_ba];unfold BY;rw [EO,EP,len];have:=trimL_length NF ln;omega
theorem fieldV_fit {p lines:Nat} {l l':List Fld} {ln:List UInt8} {most:Int} (h:fieldV p lines l ln most=.inr l') (hn:ln.length<=4096) (hl:l.length<=lines) (hs:∀y∈l,y.1.size<=5000*lines/\y.2.size<=5000*lines) :
 ((lines+1:Nat):Int)<=most/\l'.length<=lines+1/\∀y∈l',y.1.size<=5000*(lines+1)/\y.2.size<=5000*(lines+1):=by
 unfold fieldV at h
 by_cases hm:most<((lines+1:Nat):Int)
 ·rw [ZN hm] at h;cases h
 ·rw [ZO hm] at h;have h0:((lines+1:Nat):Int)<=most:=by omega
  by_cases hg:(BX p ln && !l.isEmpty)=true
  ·rw [ZN hg] at h;have hne:l≠ []:=by
    simp only [AM,AX,List.isEmpty_eq_false_iff] at hg;exact hg.2
   obtain ⟨ini,last,rfl⟩:∃ini last,l=ini ++ [last]:=⟨_,_,(DL hne).symm⟩;simp only [List.dropLast_concat,List.getLast?_concat,GW] at h;cases h;refine ⟨h0,by simpa using Nat.le_succ_of_le hl,λy hy=>?_⟩;rcases Fj.1 hy with hy | hy
   ·have:=hs y (List.mem_append_left _ hy);omega
   ·obtain rfl:y= _:=by simpa using hy
    have h1:=hs last ZW;have h2:=joinF_le last ln;omega
  ·rw [ZO hg] at h;rcases hp:Fd.parse (Fd.clOf p) ln with _ | _ | ⟨n,v⟩
   ·rw [hp] at h;cases h
   ·rw [hp] at h;cases h;exact ⟨h0,ZZ,λy hy=>by have:=hs y hy;omega⟩
   ·rw [hp] at h;cases h;have h2:=Fd.parse_le hp;refine ⟨h0,ZQ,λy hy=>?_⟩;rcases Fj.1 hy with hy | hy
    ·have:=hs y hy;omega
    ·obtain rfl:y= _:=by simpa using hy
     simp only [size_ba];omega
theorem fieldV_err {p lines:Nat} {l:List Fld} {ln:List UInt8} {most:Int} {e:Nat} (h:fieldV p lines l ln most=.inl e):e=400∨e=431:=by
 unfold fieldV at h
 by_cases hm:most<((lines+1:Nat):Int)
 ·rw [ZN hm] at h;cases h;exact .inr rfl
 ·rw [ZO hm] at h;by_cases hg:(BX p ln && !l.isEmpty)=true
  ·rw [ZN hg] at h;cases h
  ·rw [ZO hg] at h;rcases hp:Fd.parse (Fd.clOf p) ln with _ | _ | ⟨n,v⟩<;>rw [hp] at h<;>cases h;exact .inl rfl
section
variable {p:Nat} {b:Bd} {t t':T} {s:List UInt8}
theorem T.Ok.fin (h:t.Ok):t.fin.Ok:=
 ⟨h.rd,h.nf,⟨Gi _,by show 1<=7;omega⟩,Gz _,Gz _,Gi _,Gi _,(by intro y hy;cases hy),(by intro y hy;cases hy),Gz _,Gz _,Gz _,λh=>(by cases h),λ_=>rfl,Gz _⟩
theorem T.Ok.enter (h:t.Ok) {st:Nat} (hs:st=4∨st=6) (most:Int):(t.enter p st most).Ok:=
 ⟨FJ.new_ok _ _ _ (Ln.mid_le _),rfl,by show 1<=st/\st<=7;omega,h.hl,h.bl,h.fsl,h.tsl,h.fss,h.tss,h.m,h.x,h.body,λhb=>(by rcases hs with rfl | rfl<;>cases hb),λhle=>by have:st<=2:=hle;omega,h.size⟩
theorem T.Ok.first (h:t.Ok) (hst:t.st<=2) (hn:s.length<=4096) (h0:(t.first p b s).1=0):(t.first p b s).2.Ok:=by
 unfold T.first at h0 ⊢;by_cases he:s= []
 ·rw [ZN he] at h0 ⊢;exact h
 ·rw [ZO he] at h0 ⊢;rcases request_facts (Rq.clOf p) b.od s with ⟨h1,h2,h3,h4⟩ | h1 | h1
  ·simp only [h1,ZN];exact ⟨h.rd,h.nf,by show 1<=2/\2<=7;omega,h.hl,h.bl,h.fsl,h.tsl,h.fss,h.tss,by show (ba _).size<=_;rw [size_ba];omega,by show (ba _).size<=_;rw [size_ba];omega,h.body,λhb=>(by cases hb),λ_=>h.early hst,h.size⟩
  ·simp [h1] at h0
  ·simp [h1] at h0
theorem T.Ok.endHead (h:t.Ok) (hb:b.right=true) (hst:t.st<=2) (h0:(t.endHead p b).1=0):(t.endHead p b).2.Ok:=by
 have e3:=(Bd.edges hb).2.2.2.1;unfold IT at h0 ⊢;rcases decide_facts (Cp p) b.ch b.x3 t.r.k t.r.fs with e | ⟨n,hn,e⟩ | ⟨x,hx,e⟩
 ·rw [e];dsimp only;rw [ZO ZX,ZN rfl];exact ⟨h.rd,h.nf,by show 1<=4/\4<=7;omega,h.hl,h.bl,h.fsl,h.tsl,h.fss,h.tss,h.m,h.x,h.body,λhb=>(by cases hb),λhle=>by have:4<=2:=hle;omega,h.size⟩
 ·rw [e];dsimp only;rw [ZO ZX,ZO ZX];by_cases hz:(n:Int)=0
  ·rw [ZN hz];exact h.fin
  ·rw [ZO hz];have hbd:=h.early hst;exact ⟨h.rd,h.nf,by show 1<=3/\3<=7;omega,h.hl,h.bl,h.fsl,h.tsl,h.fss,h.tss,h.m,h.x,by show t.r.body.length+(n:Int).toNat<=_;rw [hbd];simp only [EW];omega,λ_=>by show 1<=(n:Int).toNat;omega,λhle=>by have:3<=2:=hle;omega,h.size⟩
 ·exfalso;rw [e] at h0;dsimp only at h0;rw [ZN ZZ] at h0;have:(x:Int).toNat=0:=h0;omega
theorem listE_zero {x:Nat ⊕ List Fld} (h:listE x=0) (h1:∀e,x=.inl e->e=400∨e=431):∃l,x=.inr l:=by
 cases x with
 | inl e=>
   have:e=0:=h;rcases h1 e rfl with h | h<;>omega
 | inr l=>exact ⟨l,rfl⟩
theorem T.Ok.fields (h:t.Ok) (hb:b.right=true) (hst:t.st<=2) (hn:s.length<=4096) (h0:(t.fields p b s).1=0):(t.fields p b s).2.Ok:=by
 have e1:=(Bd.edges hb).2.1;unfold T.fields at h0 ⊢;by_cases he:s= []
 ·rw [ZN he] at h0 ⊢;exact h.endHead hb hst h0
 ·rw [ZO he] at h0 ⊢;obtain ⟨l,hl⟩:=listE_zero h0 λe he=>fieldV_err he;obtain ⟨f1,f2,f3⟩:=fieldV_fit hl hn h.fsl h.fss;rw [hl];exact ⟨h.rd,h.nf,h.st,by show t.hl+1<=100;omega,h.bl,f2,h.tsl,f3,h.tss,h.m,h.x,h.body,h.left,h.early,h.size⟩
theorem T.Ok.trail (h:t.Ok) (hb:b.right=true) (hn:s.length<=4096) (h0:(t.trail p b s).1=0):(t.trail p b s).2.Ok:=by
 have e1:=(Bd.edges hb).2.2.2.2.2;unfold T.trail at h0 ⊢;by_cases he:s= []
 ·rw [ZN he] at h0 ⊢;exact h.fin
 ·rw [ZO he] at h0 ⊢;obtain ⟨l,hl⟩:=listE_zero h0 λe he=>fieldV_err he;obtain ⟨f1,f2,f3⟩:=fieldV_fit hl hn h.tsl h.tss;rw [hl];exact ⟨h.rd,h.nf,h.st,h.hl,by show t.bl+1<=100;omega,h.fsl,f2,h.fss,f3,h.m,h.x,h.body,h.left,h.early,h.size⟩
theorem T.Ok.chunk (h:t.Ok) (hb:b.right=true) (h0:(t.chunk p b s).1=0):(t.chunk p b s).2.Ok:=by
 have e3:=(Bd.edges hb).2.2.2.1;unfold IQ at h0 ⊢;rcases chunk_facts (Hs p 27) (Hs p 28) b.x4 b.x3 s with ⟨z2,z1,z3⟩ | z2 | z2
 ·dsimp only at h0 ⊢;rw [z2] at h0 ⊢;rw [ZO ZX] at h0 ⊢;obtain ⟨z,hz⟩:∃z,(Bz (Hs p 27) (Hs p 28) b.x4 b.x3 s).1=z:=⟨_,rfl⟩;rw [hz] at h0 z1 z3 ⊢;by_cases hz0:z=0
  ·rw [ZN hz0];exact ⟨h.rd,h.nf,by show 1<=7/\7<=7;omega,h.hl,h.bl,h.fsl,h.tsl,h.fss,h.tss,h.m,h.x,h.body,λhb=>(by cases hb),λhle=>by have:7<=2:=hle;omega,h.size⟩
  ·rw [ZO hz0] at h0 ⊢;by_cases hlt:b.x3-(t.r.body.length:Int)<z
   ·rw [ZN hlt] at h0;cases h0
   ·rw [ZO hlt];exact ⟨h.rd,h.nf,by show 1<=5/\5<=7;omega,h.hl,h.bl,h.fsl,h.tsl,h.fss,h.tss,h.m,h.x,by show t.r.body.length+z.toNat<=_;omega,λ_=>by show 1<=z.toNat;omega,λhle=>by have:5<=2:=hle;omega,h.size⟩
 ·exfalso;dsimp only at h0;rw [z2] at h0;rw [ZN ZX] at h0;cases h0
 ·exfalso;dsimp only at h0;rw [z2] at h0;rw [ZN ZX] at h0;cases h0
theorem T.Ok.line (h:t.Ok) (hb:b.right=true) (hn:s.length<=4096) (h0:(t.line p b s).1=0):(t.line p b s).2.Ok:=by
 unfold IX at h0 ⊢;by_cases h1:t.st=1
 ·rw [ZN h1] at h0 ⊢;exact h.first ZZ hn h0
 ·rw [ZO h1] at h0 ⊢;by_cases h2:t.st=2
  ·rw [ZN h2] at h0 ⊢;exact h.fields hb ZZ hn h0
  ·rw [ZO h2] at h0 ⊢;by_cases h4:t.st=4
   ·rw [ZN h4] at h0 ⊢;exact h.chunk hb h0
   ·rw [ZO h4] at h0 ⊢;by_cases h7:t.st=7
    ·rw [ZN h7] at h0 ⊢;exact h.trail hb hn h0
    ·rw [ZO h7];exact h.enter (.inl rfl) _
theorem T.Ok.byteR (h:t.Ok) (c:UInt8) (hf:FS (t.rd.clear.next c)=false):({t with rd:=t.rd.byte c}:T).Ok:=
 ⟨h.rd.byte c,hf,h.st,h.hl,h.bl,h.fsl,h.tsl,h.fss,h.tss,h.m,h.x,h.body,h.left,h.early,h.size⟩
theorem line_len (h:t.Ok) (c:UInt8):(t.rd.byte c).line.length<=4096:=by
 have h1:=(h.rd.byte c).len;have h2:=(h.rd.byte c).most;unfold FJ.line;split
 ·omega
 ·exact Gz _
theorem T.Ok.inLine (h:t.Ok) (hb:b.right=true) (c:UInt8) (h0:(t.inLine p b c).1=.live t'):t'.Ok:=by
 unfold IW at h0;obtain ⟨how,hh⟩:∃how,t.rd.clear.next c=how:=⟨_,rfl⟩;have hn:=FJ.next_is t.rd.clear c;have hk:=h.byteR c;simp only [hh] at h0 hn hk;by_cases e0:how=0
 ·rw [ZN e0] at h0;cases h0;exact hk (by rw [e0];rfl)
 ·rw [ZO e0] at h0;by_cases e3:how=3
  ·rw [ZN e3] at h0;cases h0
  ·rw [ZO e3] at h0;by_cases e4:how=4
   ·rw [ZN e4] at h0;split at h0
    ·cases h0;exact ⟨FJ.new_ok _ _ _ (Ln.mid_le _),rfl,by show 1<=4/\4<=7;omega,h.hl,h.bl,h.fsl,h.tsl,h.fss,h.tss,h.m,h.x,h.body,λhb=>(by cases hb),λhle=>by have:4<=2:=hle;omega,h.size⟩
    ·cases h0
   ·rw [ZO e4] at h0;have hf:FS how=false:=by rcases hn with e | e | e | e | e<;>first |(rw [e];rfl) | contradiction
    have hk1:=(hk hf).line (p:=p) hb (line_len h c);unfold ends at h0;split at h0
    ·rename_i hz;cases h0;exact hk1 hz
    ·cases h0
theorem T.Ok.counted (h:t.Ok) (hb:b.right=true) (hc:¬b.x2<(t.counted.size:Int)):t.counted.Ok:=by
 have e2:=(Bd.edges hb).2.2.1;have hs:t.counted.size<=65536:=ZZ;unfold T.counted at hs ⊢;split
 ·exact h
 ·rename_i hn;rw [ZO hn] at hs;exact ⟨h.rd,h.nf,h.st,h.hl,h.bl,h.fsl,h.tsl,h.fss,h.tss,h.m,h.x,h.body,h.left,h.early,hs⟩
theorem counted_st (t:T):t.counted.st=t.st:=by unfold T.counted;split<;>rfl
theorem counted_rd (t:T):t.counted.rd=t.rd:=by unfold T.counted;split<;>rfl
theorem counted_out (t:T):t.counted.out=t.out:=by unfold T.counted;split<;>rfl
theorem T.Ok.keep (h:t.Ok) (hst:bodied t.st=true) (hl:t.left≠1) (c:UInt8):(t.keep c).Ok:=by have h1:=h.left hst;exact ⟨h.rd,h.nf,h.st,h.hl,h.bl,h.fsl,h.tsl,h.fss,h.tss,h.m,h.x,by have:=h.body;show (t.r.body ++ [c]).length+(t.left-1)<=_;rw [EO,Fa];omega,λ_=>by show 1<=t.left-1;omega,λhle=>by exfalso;have h2:t.st<=2:=hle;unfold bodied at hst;simp only [Bc,beq_iff_eq] at hst;omega,h.size⟩
theorem T.Ok.endData (h:t.Ok) (hst:bodied t.st=true) (c:UInt8):((t.keep c).endData p).Ok:=by
 have h1:=h.left hst;unfold T.endData;split
 ·exact ⟨FJ.new_ok _ _ _ (Ln.mid_le _),rfl,by show 1<=6/\6<=7;omega,h.hl,h.bl,h.fsl,h.tsl,h.fss,h.tss,h.m,h.x,by have:=h.body;show (t.r.body ++ [c]).length+(t.left-1)<=_;rw [EO,Fa];omega,λhb=>(by cases hb),λhle=>by have:6<=2:=hle;omega,h.size⟩
 ·exact ⟨h.rd,h.nf,⟨Gi _,by show 1<=7;omega⟩,Gz _,Gz _,Gi _,Gi _,(by intro y hy;cases hy),(by intro y hy;cases hy),Gz _,Gz _,Gz _,λh=>(by cases h),λ_=>rfl,Gz _⟩
theorem T.Ok.look (h:t.Ok) (hb:b.right=true) (c:UInt8) (h0:(t.look p b c).1=.live t'):t'.Ok:=by
 unfold T.look at h0;by_cases hd:bodied t.st=true
 ·rw [ZN hd] at h0;cases h0;split
  ·exact h.endData hd c
  ·exact h.keep hd ZS c
 ·rw [ZO hd] at h0;split at h0
  ·split at h0
   ·cases h0
   ·exact (h.counted hb ZS).inLine hb c h0
  ·exact h.inLine hb c h0
theorem inLine_used (hp:t.rd.pend=false) (hf:FS t.rd.last=false) (hs:t.st≠6) (c:UInt8):(t.inLine p b c).2=true:=by
 have h2:t.rd.clear.next c≠2:=by
  unfold FJ.next;have e1:t.rd.clear.last=t.rd.last:=rfl;have e2:t.rd.clear.pend=t.rd.pend:=rfl;rw [e1,e2,hp,hf];simp only [AT,if_false]
  repeat' split
  all_goals decide
 unfold IW;obtain ⟨how,hh⟩:∃how,t.rd.clear.next c=how:=⟨_,rfl⟩;simp only [hh] at h2 ⊢;split
 ·rfl
 ·split
  ·rfl
  ·split
   ·have:(t.st==6)=false:=ZM.2 hs;rw [this];rfl
   ·simp only [AX,ZM];exact h2
theorem look_used (hp:t.rd.pend=false) (hf:FS t.rd.last=false) (hs:t.st≠6) (c:UInt8):(t.look p b c).2=true:=by
 unfold T.look;split
 ·rfl
 ·split
  ·split
   ·rfl
   ·exact inLine_used (by rw [counted_rd];exact hp) (by rw [counted_rd];exact hf) (by rw [counted_st];exact hs) c
  ·exact inLine_used hp hf hs c
theorem XXZ78 {P:Prop} (h:P:=by exact ⟨.inl rfl,λ_ _=>by show t.st≠6;omega⟩):P:=h
theorem line_keeps:((t.line p b s).2.rd=t.rd∨∃most,(t.line p b s).2.rd=FJ.of p most)/\(bodied t.st=false->(t.line p b s).1=0->(t.line p b s).2.st≠6):=by
 unfold IX T.first T.fields IT IQ T.trail;by_cases h1:t.st=1
 ·rw [ZN h1];by_cases he:s= []
  ·rw [ZN he];exact ⟨.inl rfl,λ_ _=>by show t.st≠6;omega⟩
  ·rw [ZO he];dsimp only;split
   ·exact ⟨.inl rfl,λ_ _=>by show 2≠6;decide⟩
   ·exact XXZ78
 ·rw [ZO h1];by_cases h2:t.st=2
  ·rw [ZN h2];by_cases he:s= []
   ·rw [ZN he];dsimp only;split
    ·exact XXZ78
    ·split
     ·exact ⟨.inl rfl,λ_ _=>by show 4≠6;decide⟩
     ·split
      ·exact ⟨.inl rfl,λ_ _=>by show 1≠6;decide⟩
      ·exact ⟨.inl rfl,λ_ _=>by show 3≠6;decide⟩
   ·rw [ZO he];exact ⟨.inl rfl,λ_ _=>by show t.st≠6;omega⟩
  ·rw [ZO h2];by_cases h4:t.st=4
   ·rw [ZN h4];dsimp only;split
    ·exact XXZ78
    ·split
     ·exact ⟨.inl rfl,λ_ _=>by show 7≠6;decide⟩
     ·split
      ·exact XXZ78
      ·exact ⟨.inl rfl,λ_ _=>by show 5≠6;decide⟩
   ·rw [ZO h4];by_cases h7:t.st=7
    ·rw [ZN h7];by_cases he:s= []
     ·rw [ZN he];exact ⟨.inl rfl,λ_ _=>by show 1≠6;decide⟩
     ·rw [ZO he];exact ⟨.inl rfl,λ_ _=>by show t.st≠6;omega⟩
    ·rw [ZO h7];exact ⟨.inr ⟨_,rfl⟩,λ_ _=>by show 4≠6;decide⟩
theorem inLine_again (hst:bodied t.st=false) (c:UInt8) (h0:t.inLine p b c=(.live t',false)):t'.rd.pend=false/\t'.st≠6:=by
 unfold IW at h0;obtain ⟨how,hh⟩:∃how,t.rd.clear.next c=how:=⟨_,rfl⟩;simp only [hh] at h0;by_cases e0:how=0
 ·rw [ZN e0] at h0;cases h0
 ·rw [ZO e0] at h0;by_cases e3:how=3
  ·rw [ZN e3] at h0;cases h0
  ·rw [ZO e3] at h0;by_cases e4:how=4
   ·rw [ZN e4] at h0;split at h0
    ·cases h0;exact ⟨rfl,by show 4≠6;decide⟩
    ·cases h0
   ·rw [ZO e4] at h0;obtain ⟨h1,h2⟩:=Prod.mk.inj h0;unfold ends at h1;split at h1
    ·rename_i hz;cases h1;obtain ⟨k1,k2⟩:=line_keeps (p:=p) (b:=b) (t:={t with rd:=t.rd.byte c}) (s:=(t.rd.byte c).line);refine ⟨?_,k2 hst hz⟩;have hpd:(t.rd.byte c).pend=false:=by show (t.rd.clear.next c==0&&c==13)=false;rw [hh,ZM.2 e0];rfl
     rcases k1 with k | ⟨most,k⟩
     ·rw [k];exact hpd
     ·rw [k];rfl
    ·cases h1
theorem look_twice (h:t.Ok) (hb:b.right=true) (c:UInt8) (h0:t.look p b c=(.live t',false)):(t'.look p b c).2=true:=by
 have hok:t'.Ok:=h.look hb c (by rw [h0]);unfold T.look at h0;by_cases hd:bodied t.st=true
 ·rw [ZN hd] at h0;cases h0
 ·rw [ZO hd] at h0;have hd':bodied t.st=false:=by simpa using hd
  split at h0
  ·split at h0
   ·cases h0
   ·obtain ⟨k1,k2⟩:=inLine_again (by rw [counted_st];exact hd') c h0;exact look_used k1 hok.nf k2 c
  ·obtain ⟨k1,k2⟩:=inLine_again hd' c h0;exact look_used k1 hok.nf k2 c
theorem T.Ok.cleared (h:t.Ok):({t with cnt:=false}:T).Ok:=⟨h.rd,h.nf,h.st,h.hl,h.bl,h.fsl,h.tsl,h.fss,h.tss,h.m,h.x,h.body,h.left,h.early,h.size⟩
theorem T.Ok.take (h:t.Ok) (hb:b.right=true) (c:UInt8) (h0:t.take p b c=.live t'):t'.Ok:=by
 unfold T.take at h0;rcases hx:({t with cnt:=false}:T).look p b c with ⟨t1 | ⟨e,o⟩,u⟩
 ·have h1:t1.Ok:=h.cleared.look hb c (by rw [hx]);rw [hx] at h0;cases u with
  | true=>cases h0;exact h1
  | false=>exact h1.look hb c h0
 ·rw [hx] at h0;cases u<;>cases h0
end
end Pg
namespace Pg
open Base Txt Par
section
variable {p:Nat} {b:Bd} {t t':T}
theorem feed_nil (x:Q):x.feed p b []=x:=rfl
theorem feed_cons (x:Q) (c:UInt8) (l:List UInt8):x.feed p b (c::l)=(x.byte p b c).feed p b l:=rfl
theorem feed_app (x:Q) (l l':List UInt8):x.feed p b (l++l')=(x.feed p b l).feed p b l':=List.foldl_append
theorem feed_dead (e:Nat) (o:List Hz) (l:List UInt8):(Q.dead e o).feed p b l=.dead e o:=by
 induction l with
 | nil=>rfl
 | cons c l ih=>rw [feed_cons];exact ih
def T.room (b:Bd) (t:T) (n:Nat):Prop:=headed t.st=true->((t.size+n:Nat):Int)<=b.x2
structure T.Open (t:T):Prop where
 st:bodied t.st=false
 pend:t.rd.pend=false
 nf:FS t.rd.last=false
def T.went (t:T) (rd:FJ) (n:Nat):T:={t with rd:=rd,size:=if headed t.st=true then t.size+n else t.size,cnt:=headed t.st}
theorem take_line (h:bodied t.st=false) (c:UInt8) (hr:t.room b 1):t.take p b c=(match ({t with size:=if headed t.st=true then t.size+1 else t.size,cnt:=headed t.st}:T).inLine p b c with
 |(.live t1,false)=>(t1.look p b c).1
 |(x,_)=>x):=by
 unfold T.take T.look;have e:¬bodied ({t with cnt:=false}:T).st=true:=by rw [show ({t with cnt:=false}:T).st=t.st from rfl,h];decide
 rw [ZO e];by_cases hh:headed t.st=true
 ·have hr':=hr hh;rw [ZN (show headed ({t with cnt:=false}:T).st=true from hh)];have e2:T.counted {t with cnt:=false}={t with size:=if headed t.st=true then t.size+1 else t.size,cnt:=headed t.st}:=by
   unfold T.counted;rw [ZN hh,hh];rfl
  rw [e2,ZO (by show¬b.x2<((if headed t.st=true then t.size+1 else t.size:Nat):Int);rw [ZN hh];omega)];rfl
 ·rw [ZO (show¬headed ({t with cnt:=false}:T).st=true from hh)];have e2:headed t.st=false:=by simpa using hh
  rw [ZO hh,e2];rfl
theorem XXlxZ {P:Prop} (h:P:=by rw [show t.rd.clear.last=t.rd.last from rfl,show t.rd.clear.pend=t.rd.pend from rfl,h.nf,h.pend,if_neg ZX,if_neg ZX,if_neg h10,if_neg h13,if_neg (by rw [show t.rd.clear.most=t.rd.most from rfl];omega)]):P:=h
theorem take_plain (h:t.Open) (c:UInt8) (h10:c≠10) (h13:c≠13) (hm:t.rd.clear.buf.length<t.rd.most) (hr:t.room b 1) :
 t.take p b c=.live (t.went {t.rd with buf:=t.rd.clear.buf ++ [c],last:=0,pend:=false} 1):=by
 rw [take_line h.st c hr];have e0:t.rd.clear.next c=0:=by unfold FJ.next;exact XXlxZ
 have ek:t.rd.clear.keeps c=true:=by unfold FJ.keeps;exact XXlxZ
 have eb:t.rd.byte c={t.rd with buf:=t.rd.clear.buf ++ [c],last:=0,pend:=false}:=by unfold FJ.byte FJ.told;rw [e0,ek,ZN rfl,ZM.2 h13];rfl
 unfold IW;dsimp only;rw [e0,ZN rfl,eb];rfl
theorem went_open (h:bodied t.st=false) {rd:FJ} (h1:rd.pend=false) (h2:FS rd.last=false) (n:Nat):(t.went rd n).Open:=⟨h,h1,h2⟩
theorem went_went (rd rd':FJ) (n k:Nat):(t.went rd n).went rd' k=t.went rd' (n+k):=by unfold T.went;dsimp only;split<;>simp [Nat.add_assoc]
theorem went_room {rd:FJ} {n k:Nat} (h:t.room b (n+k)):(t.went rd n).room b k:=by intro hh;have:=h hh;show ((((if headed t.st=true then t.size+n else t.size)+k:Nat)):Int)<=b.x2;rw [if_pos (show headed t.st=true from hh)];omega
theorem room_le {n k:Nat} (h:t.room b k) (hn:n<=k):t.room b n:=λhh=>by have:=h hh;omega
theorem feed_plain (l:List UInt8):∀t:T,l≠ []->t.Open->(∀c∈l,c≠10/\c≠13)->t.rd.clear.buf.length+l.length<=t.rd.most->t.room b l.length->
 (Ho t).feed p b l=.live (t.went {t.rd with buf:=t.rd.clear.buf++l,last:=0,pend:=false} l.length):=by
 induction l with
 | nil=>intro t h;exact ZG rfl h
 | cons c l ih=>
   intro t _ ho hc hm hr;have h1:=hc c ZW;simp only [EP] at hm hr ⊢;rw [feed_cons];show ((t.take p b c).feed p b l)= _;rw [take_plain ho c h1.1 h1.2 ZZ (room_le hr ZZ)];rcases List.eq_nil_or_concat l with rfl | ⟨_,_,_⟩
   ·rfl
   ·have hne:l≠ []:=by rename_i h;rw [h];simp
    rw [ih _ hne (went_open ho.st rfl rfl 1) (λx hx=>hc x (by simp [hx])) ?_ (went_room (by rw [Nat.add_comm];exact hr)),went_went]
    ·rw [Nat.add_comm 1];show Ho (t.went {t.rd with buf:=(t.rd.clear.buf ++ [c])++l,last:=0,pend:=false} (l.length+1))= _;rw [D7];rfl
    ·show (t.rd.clear.buf ++ [c]).length+l.length<=t.rd.most;rw [EO,Fa];omega
theorem XX6Sz {P:Prop} (h:P:=by rw [show t.rd.clear.last=t.rd.last from rfl,show t.rd.clear.pend=t.rd.pend from rfl,h.nf,h.pend,if_neg ZX,if_neg ZX,if_neg ZX,if_pos rfl]):P:=h
theorem take_cr (h:t.Open) (hr:t.room b 1):t.take p b 13=.live (t.went {t.rd with buf:=t.rd.clear.buf,last:=0,pend:=true} 1):=by
 rw [take_line h.st 13 hr];have e0:t.rd.clear.next 13=0:=by unfold FJ.next;exact XX6Sz
 have ek:t.rd.clear.keeps 13=false:=by unfold FJ.keeps;exact XX6Sz
 have eb:t.rd.byte 13={t.rd with buf:=t.rd.clear.buf,last:=0,pend:=true}:=by unfold FJ.byte FJ.told;rw [e0,ek,ZO ZX,D8];rfl
 unfold IW;dsimp only;rw [e0,ZN rfl,eb];rfl
theorem take_lf (hs:bodied t.st=false) (hp:t.rd.pend=true) (hl:t.rd.last=0) (hr:t.room b 1) :
 t.take p b 10=ends (IX p b (t.went {t.rd with last:=1,pend:=false} 1) t.rd.buf):=by
 rw [take_line hs 10 hr];have ec:t.rd.clear=t.rd:=Ln.clear_of (by rw [hl];rfl);have e0:t.rd.clear.next 10=1:=by unfold FJ.next;rw [ec,hl,hp];rfl
 have ek:t.rd.clear.keeps 10=false:=by unfold FJ.keeps;rw [ec,hl,hp];rfl
 have eb:t.rd.byte 10={t.rd with last:=1,pend:=false}:=by unfold FJ.byte FJ.told;rw [e0,ek,ZO ZX,D8,ec];rfl
 unfold IW;dsimp only;rw [e0,ZO ZX,ZO ZX,ZO ZX,eb];have el:({t.rd with last:=1,pend:=false}:FJ).line=t.rd.buf:=rfl;rw [el];unfold T.went;obtain ⟨x,hx⟩:∃x,ends (IX p b {t with rd:={t.rd with last:=1,pend:=false},size:=if headed t.st=true then t.size+1 else t.size,cnt:=headed t.st} t.rd.buf)=x:=⟨_,rfl⟩;rw [hx];cases x<;>rfl
theorem feed_line (l:List UInt8) (h:t.Open) (h0:t.rd.clear.buf= []) (hc:∀c∈l,c≠10/\c≠13) (hm:l.length<=t.rd.most) (hr:t.room b (l.length+2)) :
 (Ho t).feed p b (l ++ [13,10])=ends (IX p b (t.went {t.rd with buf:=l,last:=1,pend:=false} (l.length+2)) l):=by
 rw [feed_app];have key:∀(t1:T) (k:Nat),t1.Open->t1.room b 2->t1.rd.clear.buf=l->(Ho t1).feed p b [13,10]=ends (IX p b (t1.went {t1.rd with buf:=l,last:=1,pend:=false} 2) l):=by
  intro t1 k ho hr hb;rw [feed_cons,feed_cons];show ((Q.byte p b (t1.take p b 13) 10).feed p b [])= _;rw [take_cr ho (room_le hr ZZ),feed_nil];show T.take p b _ 10= _
  have e:=take_lf (p:=p) (b:=b) (t:=t1.went {t1.rd with buf:=t1.rd.clear.buf,last:=0,pend:=true} 1) ho.st rfl rfl (went_room hr);rw [e,went_went];show ends (IX p b (t1.went {t1.rd with buf:=t1.rd.clear.buf,last:=1,pend:=false} 2) t1.rd.clear.buf)= _;rw [hb]
 rcases List.eq_nil_or_concat l with rfl | ⟨_,_,_⟩
 ·rw [feed_nil,key t 0 h hr h0];rfl
 ·have hne:l≠ []:=by rename_i h;rw [h];simp
  rw [feed_plain l t hne h hc (by rw [h0];simpa using hm) (room_le hr ZZ),h0,Fw,key _ 0 (went_open h.st rfl rfl _) (went_room hr) rfl,went_went];rfl
theorem take_body (h:bodied t.st=true) (c:UInt8):t.take p b c=.live (if t.left=1 then ({t with cnt:=false}:T).keep c |>.endData p else ({t with cnt:=false}:T).keep c):=by unfold T.take T.look;rw [if_pos (show bodied ({t with cnt:=false}:T).st=true from h)]
theorem feed_body (d:List UInt8):∀t:T,bodied t.st=true->d≠ []->d.length<=t.left->(Ho t).feed p b d=.live (if d.length=t.left then T.endData p {t with cnt:=false,r:={t.r with body:=t.r.body++d},left:=0} else {t with cnt:=false,r:={t.r with body:=t.r.body++d},left:=t.left-d.length}):=by
 induction d with
 | nil=>intro t _ h;exact ZG rfl h
 | cons c d ih=>
   intro t hb _ hl;simp only [EP] at hl ⊢;rw [feed_cons];show ((t.take p b c).feed p b d)= _;rw [take_body hb c];by_cases h1:t.left=1
   ·have hd:d= []:=DX ZZ;subst hd;rw [ZN h1,ZN (by simp [h1]),feed_nil];unfold T.keep;rw [h1]
   ·rw [ZO h1];rcases List.eq_nil_or_concat d with rfl | ⟨_,_,_⟩
    ·rw [feed_nil,ZO (by simp only [EW];omega)];rfl
    ·have hne:d≠ []:=by rename_i h;rw [h];simp
     rw [ih (({t with cnt:=false}:T).keep c) hb hne (by show d.length<=t.left-1;omega)];unfold T.keep;dsimp only;have e1:t.r.body ++ [c]++d=t.r.body++c::d:=by rw [D7];rfl
     rw [e1];by_cases h2:d.length=t.left-1
     ·rw [ZN h2,ZN ZZ]
     ·rw [ZO h2,ZO ZZ,show t.left-1-d.length=t.left-(d.length+1) by omega]
end
end Pg
namespace Pg
open Base Txt Par
theorem none0 (k:Int):Hs 0 k=false:=by unfold Hs;rw [Nat.zero_testBit,AN]
theorem dw_none {q:UInt8->Bool}:∀{l:List UInt8},(∀x∈l,q x=false)->l.dropWhile q=l
 | [],_=>rfl
 | x::r,h=>dropWhile_stop (h x ZW)
theorem trimL_none {q:UInt8->Bool} {l:List UInt8} (h:∀x∈l,q x=false):trimL q l=l:=by unfold trimL;rw [dw_none h,dw_none (λx hx=>h x (by simpa using hx)),List.reverse_reverse]
theorem letters_tab:∀k:Fin 256,lowB (NG k.val)∈ [99,104,117,110,107,101,100]->Frm.blanksOf.data.toList.contains (NG k.val)=false:=ZR
theorem letter_of {x:UInt8} (h:lowB x∈ [99,104,117,110,107,101,100]):isIn Frm.blanksOf x=false:=by have:=letters_tab ⟨x.toNat,x.toNat_lt⟩ (by simpa using h);simpa [isIn] using this
theorem isC_wide {v:ByteArray} (h:Frm.isC false v=true) (tb:Bool):Frm.isC tb v=true:=by
 cases tb with
 | false=>exact h
 | true=>
   have h1:same v Cn=true:=h;have h2:low v.data.toList= [99,104,117,110,107,101,100]:=(ZI.1 h1).trans ZR;have e:trimOf v Frm.blanksOf=v:=by apply ba_ext;show trimL (isIn Frm.blanksOf) v.data.toList= _;refine trimL_none λx hx=>letter_of ?_;rw [←h2];exact List.mem_map.2 ⟨x,hx,rfl⟩
   show same (trimOf v Frm.blanksOf) Cn=true;rw [e];exact h1
theorem coding_wide {vs:List ByteArray} (h:Cq false false vs=true) (tb tl:Bool):Cq tb tl vs=true:=by unfold Cq at h ⊢;rw [Be,AM,decide_eq_true_eq] at h;obtain ⟨h1,h2⟩:=h;obtain ⟨v,hv⟩:=List.length_eq_one_iff.1 h2;rw [hv] at h1 ⊢;have h3:Frm.isC false v=true:=h1;rw [decide_eq_true ZW,Bh,AO];exact isC_wide h3 tb
theorem digit_tab:∀k:Fin 256,G5 10 (NG k.val)=true->NG k.val≠44/\NG k.val≠43/\NF (NG k.val)=false:=ZR
theorem digit_of {x:UInt8} (h:G5 10 x=true):x≠44/\x≠43/\NF x=false:=by simpa using digit_tab ⟨x.toNat,x.toNat_lt⟩ (by simpa using h)
theorem hex_tab:∀k:Fin 256,G5 16 (NG k.val)=true->lowB (NG k.val)≠120/\NF (NG k.val)=false:=ZR
theorem hex_of {x:UInt8} (h:G5 16 x=true):lowB x≠120/\NF x=false:=by simpa using hex_tab ⟨x.toNat,x.toNat_lt⟩ (by simpa using h)
theorem read_digits {base most:Int} {l:List UInt8} (h:(G6 base most l).2≠22):∀x∈l,G5 base x=true:=by
 unfold G6 at h;split at h
 ·exact ZG rfl h
 ·rename_i h1;rw [Bc,not_or,Bool.not_eq_true,Bool.not_eq_true,Bool.not_eq_false',D5] at h1;exact h1.2
theorem numV_digits {r:Int × Int} (h:(Frm.numV r).2=0):r.2≠22:=by
 intro e;unfold Frm.numV at h;rw [ZN e] at h;exact ZG h ZX
theorem length_wide {most:Int} {vs:List ByteArray} (h:(Cx false false false false most vs).2=0) (lp lc lf ll:Bool) :
 Cx lp lc lf ll most vs=Cx false false false false most vs:=by
 unfold Cx at h ⊢;by_cases h0:vs= []
 ·rw [ZN h0,ZN h0]
 rw [ZO h0] at h ⊢;rw [ZO h0];rw [ZO AU] at h ⊢;by_cases h1:vs.length=1
 ·obtain ⟨v,rfl⟩:=List.length_eq_one_iff.1 h1;have hc:Frm.counts false false false [v]=some v:=rfl;rw [hc] at h ⊢;have hu:Frm.unplus false v=v:=rfl;simp only [hu] at h ⊢;have hd:=read_digits (numV_digits h);have hl:list [v]= [v]:=by
   have e1:list [v]=partsOf v:=by simp [list]
   rw [e1];unfold partsOf;rw [parts_none 44 _ λhm=>(digit_of (hd _ hm)).1 rfl];show [trim (ba v.data.toList)]= [v]
   congr 1
   apply ba_ext;show trimL NF (ba v.data.toList).data.toList= _;have e2:(ba v.data.toList).data.toList=v.data.toList:=by simp [ba]
   rw [e2];exact trimL_none λx hx=>(digit_of (hd x hx)).2.2
  have hc':Frm.counts lc lf ll (if lc=true then list [v] else [v])=some v:=by
   have:(if lc=true then list [v] else [v])= [v]:=by cases lc<;>simp [hl]
   rw [this];unfold Frm.counts;rw [ZN ZW];rfl
  rw [hc'];have hp:Frm.unplus lp v=v:=by
   unfold Frm.unplus;rw [ZO];intro hh;rw [AM,ZJ] at hh;have hm:(43:UInt8)∈v.data.toList:=List.mem_of_mem_head? (by rw [hh.2];rfl);exact (digit_of (hd _ hm)).2.1 rfl
  simp only [hp]
 ·have hc:Frm.counts false false false vs=none:=by
   unfold Frm.counts;rw [ZO (by simp [h1]),ZO AU]
  rw [hc] at h;exact ZG (show (400:Int)=0 from h) ZX
theorem wins_wide {minor:Int} {nte ncl:Nat} {cod:Bool} (h:(C1 false false false false minor nte ncl cod).2=0) (td ti tw lw cod':Bool) (hc:cod=true->cod'=true) :
 C1 td ti tw lw minor nte ncl cod'=C1 false false false false minor nte ncl cod:=by
 unfold C1 at h ⊢;by_cases h0:nte=0
 ·simp only [ZN h0]
 simp only [ZO h0] at h ⊢;by_cases h1:minor=0
 ·rw [ZN (by simp [h1])] at h;exact ZG (show (400:Int)=0 from h) ZX
 have hm:∀td:Bool,¬(decide (minor=0) && !td)=true:=λtd=>by simp [h1]
 simp only [ZO (hm _)] at h ⊢;cases cod with
 | false=>exact ZG (show (501:Int)=0 from h) ZX
 | true=>
   rw [hc rfl];by_cases h2:0<ncl
   ·simp [h2] at h
   ·simp [h2]
theorem hosts_wide {minor:Int} {hs:List ByteArray} (h:Cw false false minor hs=0) (nh mh:Bool):Cw nh mh minor hs=0:=by
 unfold Cw at h ⊢;split at h
 ·exact ZG h ZX
 ·rename_i h1;rw [Bc,not_or,Bool.not_false,AO,AO] at h1;rw [ZO]
  ·exact h
  ·rw [Bc,not_or];constructor
   ·intro hh;exact h1.1 (by cases nh<;>simp_all)
   ·intro hh;exact h1.2 (by cases mh<;>simp_all)
theorem decide_wide {ch:Bool} {body minor:Int} {fs:List Fld} (h:(Ct (Cp 0) ch body minor fs).2.2=0) (p:Nat) :
 Ct (Cp p) ch body minor fs=Ct (Cp 0) ch body minor fs:=by
 have e0:Cp 0=⟨false,false,false,false,false,false,false,false,false,false,false,false⟩:=by simp only [Cp,none0]
 rw [e0] at h ⊢;generalize Cp p=c;obtain ⟨nh,mh,tb,tl,ti,td,tw,lw,lp,lc,lf,ll⟩:=c;unfold Ct at h ⊢;simp only at h ⊢;unfold Frm.bodyV at h ⊢;by_cases h1:Cw false false minor (find fs Cv)=0
 ·have h1':=hosts_wide h1 nh mh;rw [h1] at h ⊢;rw [h1'];simp only [ne_eq,not_true_eq_false,if_false] at h ⊢;by_cases h2:(C1 false false false false minor (find fs Cz).length (find fs Co).length (Cq false false (find fs Cz))).2=0
  ·have h2':=wins_wide h2 td ti tw lw (Cq tb tl (find fs Cz)) (λhc=>coding_wide hc tb tl);rw [h2'];simp only [h2,not_true_eq_false,if_false] at h ⊢;by_cases h3:(C1 false false false false minor (find fs Cz).length (find fs Co).length (Cq false false (find fs Cz))).1=true
   ·simp only [ZN h3]
   ·simp only [ZO h3] at h ⊢;have h4:(Cx false false false false body (find fs Co)).2=0:=by
     unfold Frm.fixedV at h;split at h
     ·assumption
     ·rename_i hn;exact ZG h hn
    rw [length_wide h4 lp lc lf ll]
  ·simp only [h2,not_false_eq_true,if_true] at h
 ·rw [ZN h1] at h;exact ZG h h1
theorem piece_wide {z:List UInt8} (h:∀x∈z,G5 16 x=true) (hex blanks:Bool):Chk.pieceL hex blanks z=z:=by
 have h1:trimL NF z=z:=trimL_none λx hx=>(hex_of (h x hx)).2;have h2:Chk.bare z=z:=by
  unfold Chk.bare;rw [ZO];intro hm;unfold Chk.marked at hm;rw [AM,ZJ] at hm;obtain ⟨hl,hs⟩:=hm
  match z,hl with
  | a::b::r,_=>
    have hs2:low [a,b]= [48,120]:=(ZI.1 hs).trans ZR;have hb:lowB b=120:=by simpa [low] using (List.cons.inj (List.cons.inj hs2).2).1
    exact (hex_of (h b ZW)).1 hb
 unfold Chk.pieceL;cases hex<;>cases blanks<;>simp [h1,h2]
theorem chk_digits {r:Int × Int} (h:(Chk.numV r).2=0):r.2≠22:=by
 intro e;unfold Chk.numV at h;rw [ZN e] at h;exact ZG h ZX
theorem size_wide {ext body:Int} {l:List UInt8} (h:(Bz false false ext body l).2=0) (hex blanks:Bool):Bz hex blanks ext body l=Bz false false ext body l:=by
 unfold Bz at h ⊢;split at h
 ·rename_i h1;rw [ZN h1,ZN h1];have hd:∀x∈(Jg 59 l).1,G5 16 x=true:=read_digits (chk_digits h);unfold Chk.sizeL;rw [piece_wide hd,piece_wide hd]
 ·exact ZG h ZX
theorem field_wide {lines:Nat} {l l':List Fld} {s:List UInt8} {most:Int} (h:fieldV 0 lines l s most=.inr l') (p:Nat):fieldV p lines l s most=.inr l':=by
 unfold fieldV at h ⊢
 by_cases h1:most<((lines+1:Nat):Int)
 ·rw [ZN h1] at h;cases h
 simp only [ZO h1] at h ⊢;have hg:BX 0 s=false:=by unfold BX;rw [none0,AS]
 rw [ZO (by rw [hg,AS];exact AU)] at h;rw [Fd.clOf_zero] at h;rcases Fd.parse_zero s with h2 | ⟨n,v,h2⟩
 ·rw [h2] at h;cases h
 ·rw [h2] at h;have hs:=Fd.parse_strict h2;have hg2:BX p s=false:=by
   have hb:(!s.isEmpty&&NF (s.headD 0))=false:=by
    rcases Tgt.cut_cases 58 s with e | ⟨a,r,e,hn⟩
    ·rw [Tgt.cutAt_none 58 s e] at hs;exact ZG (show false=true from hs.1) ZX
    ·rw [e,Tgt.cutAt_app 58 a r hn] at hs;obtain ⟨-,e1, -,e2,e3, -⟩:=hs;have e4:a=n:=e1;rw [e];rw [←e4] at e2 e3
     match a,e2,e3 with
     | y::t,_,e3=>
       have:=(Fd.token_of (Fd.all_of e3 y ZW)).2.2.2;simp [this]
   unfold BX;rw [hb,AN]
  rw [ZO (by rw [hg2,AS];exact AU),(Fd.parse_all h2).1 (Fd.clOf p)];exact h
def wideM (p:Nat) (m:FJ):FJ:={m with lf:=Hs p 1,cr:=Hs p 2}
def T.wide (p:Nat) (t:T):T:={t with rd:=wideM p t.rd}
structure T.Strict (t:T):Prop where
 lf:t.rd.lf=false
 cr:t.rd.cr=false
theorem decide_codes (ch:Bool) (body minor:Int) (fs:List Fld) (c:Frm.Cl):0<=(Ct c ch body minor fs).2.2:=by
 unfold Ct Frm.bodyV;split
 ·unfold Cw;split
  ·decide
  ·split<;>decide
 ·split
  ·unfold C1
   repeat' split
   all_goals decide
  ·split
   ·split<;>decide
   ·unfold Frm.fixedV;split
    ·exact Int.le_refl _
    ·show 0<=(Cx c.lp c.lc c.lf c.ll body (find fs Co)).2;unfold Cx;split
     ·decide
     ·split
      ·decide
      ·unfold Frm.numV;split
       ·decide
       ·split
        ·decide
        ·exact Int.le_refl _
theorem decide_pos {ch:Bool} {body minor:Int} {fs:List Fld} {c:Frm.Cl} {d:Int × Int × Int} (hd:d=Ct c ch body minor fs) (h1:d.2.2≠0):d.2.2.toNat≠0:=by have:=decide_codes ch body minor fs c;rw [←hd] at this;omega
theorem size_pos {hex blanks:Bool} {ext body:Int} {l:List UInt8} {z:Int × Int} (hz:z=Bz hex blanks ext body l) (h1:z.2≠0):z.2.toNat≠0:=by
 have:0<=(Bz hex blanks ext body l).2:=by
  unfold Bz;split
  ·unfold Chk.numV;split
   ·decide
   ·split
    ·decide
    ·exact Int.le_refl _
  ·decide
 rw [←hz] at this;omega
section
variable {p:Nat} {b:Bd} {t t2:T} {s:List UInt8} {c:UInt8}
theorem of_strict (most:Int):(FJ.of 0 most).lf=false/\(FJ.of 0 most).cr=false:=⟨none0 1,none0 2⟩
theorem next_wide (m:FJ) (hl:m.lf=false) (hc:m.cr=false) (c:UInt8) (h:m.next c≠3):(wideM p m).next c=m.next c/\m.next c≠2:=by
 obtain ⟨lf,cr,most,buf,last,pend⟩:=m;obtain rfl:lf=false:=hl;obtain rfl:cr=false:=hc;unfold FJ.next at h ⊢;simp only [wideM] at h ⊢;by_cases h1:FS last=true
 ·rw [ZN h1] at h;exact ZG rfl h
 ·have h1':FS last=false:=by simpa using h1
  simp only [h1',AT,if_false] at h ⊢;cases pend with
  | true=>
    by_cases h2:c=10
    ·subst h2;exact ⟨rfl,λe=>ZG (show (1:Int)=2 from e) ZX⟩
    ·simp [h2] at h
  | false=>
    by_cases h2:c=10
    ·simp [h2] at h
    ·simp only [AT,if_false,ZO h2];refine ⟨rfl,?_⟩;split
     ·decide
     ·split<;>decide
theorem byte_wide (m:FJ) (hl:m.lf=false) (hc:m.cr=false) (c:UInt8) (h:m.clear.next c≠3):(wideM p m).byte c=wideM p (m.byte c):=by have h1:=(next_wide (p:=p) m.clear hl hc c h).1;have e1:(wideM p m).clear=wideM p m.clear:=rfl;unfold FJ.byte;rw [e1,h1];rfl
theorem first_wide (h:(t.first 0 b s).1=0) (ht:t.Strict):(t.wide p).first p b s=(0,(t.first 0 b s).2.wide p)/\(t.first 0 b s).2.Strict:=by
 unfold T.first at h ⊢;by_cases h0:s= []
 ·rw [ZN h0,none0] at h;exact ZG (show (400:Nat)=0 from h) ZX
 ·rw [ZO h0] at h ⊢;rw [ZO h0];obtain ⟨m,x,k,e,hq⟩:∃m x k e,Is (Rq.clOf 0) b.od s=(m,x,k,e):=⟨_,_,_,_,rfl⟩;rw [hq] at h ⊢;simp only at h ⊢;by_cases he:e=0
  ·subst he;rw [Rq.clOf_zero] at hq;rw [(Rq.extends_all hq).1 (Rq.clOf p)];exact ⟨rfl,ht.lf,ht.cr⟩
  ·rw [ZO he] at h;exact ZG h he
theorem fin_wide (ht:t.Strict):(t.wide p).fin=t.fin.wide p/\t.fin.Strict:=⟨rfl,ht.lf,ht.cr⟩
theorem enter_wide (st:Nat) (most:Int):(t.wide p).enter p st most=(t.enter 0 st most).wide p/\(t.enter 0 st most).Strict:=⟨rfl,(of_strict most).1,(of_strict most).2⟩
theorem endHead_wide (h:(t.endHead 0 b).1=0) (hn:∀d:Int × Int × Int,d=Ct (Cp 0) b.ch b.x3 t.r.k t.r.fs->d.2.2≠0->d.2.2.toNat≠0) (ht:t.Strict) :
 (t.wide p).endHead p b=(0,(t.endHead 0 b).2.wide p)/\(t.endHead 0 b).2.Strict:=by
 unfold IT at h ⊢;have hd:Ct (Cp p) b.ch b.x3 (t.wide p).r.k (t.wide p).r.fs=Ct (Cp p) b.ch b.x3 t.r.k t.r.fs:=rfl;rw [hd];by_cases h1:(Ct (Cp 0) b.ch b.x3 t.r.k t.r.fs).2.2=0
 ·rw [decide_wide h1 p];generalize Ct (Cp 0) b.ch b.x3 t.r.k t.r.fs=d at h h1 ⊢;simp only [ne_eq,h1,not_true_eq_false,if_false];by_cases h2:d.1=2
  ·simp only [ZN h2];exact ⟨rfl,ht.lf,ht.cr⟩
  ·simp only [ZO h2];by_cases h3:d.2.1=0
   ·simp only [ZN h3];exact ⟨rfl,ht.lf,ht.cr⟩
   ·simp only [ZO h3];exact ⟨rfl,ht.lf,ht.cr⟩
 ·have:=hn _ rfl h1;simp only [ne_eq,h1,not_false_eq_true,if_true] at h;exact ZG h this
theorem fields_wide (h:(t.fields 0 b s).1=0) (hn:∀d:Int × Int × Int,d=Ct (Cp 0) b.ch b.x3 t.r.k t.r.fs->d.2.2≠0->d.2.2.toNat≠0) (ht:t.Strict) :
 (t.wide p).fields p b s=(0,(t.fields 0 b s).2.wide p)/\(t.fields 0 b s).2.Strict:=by
 unfold T.fields at h ⊢;by_cases h0:s= []
 ·rw [ZN h0] at h ⊢;rw [ZN h0];exact endHead_wide h hn ht
 ·rw [ZO h0] at h ⊢;rw [ZO h0];obtain ⟨l,hl⟩:=listE_zero h λe he=>fieldV_err he;have hl':fieldV p t.hl t.r.fs s b.x1=.inr l:=field_wide hl p;have e1:fieldV p (t.wide p).hl (t.wide p).r.fs s b.x1=.inr l:=hl';rw [e1,hl];exact ⟨rfl,ht.lf,ht.cr⟩
theorem trail_wide (h:(t.trail 0 b s).1=0) (ht:t.Strict):(t.wide p).trail p b s=(0,(t.trail 0 b s).2.wide p)/\(t.trail 0 b s).2.Strict:=by
 unfold T.trail at h ⊢;by_cases h0:s= []
 ·rw [ZN h0,ZN h0];exact ⟨rfl,ht.lf,ht.cr⟩
 ·rw [ZO h0] at h ⊢;rw [ZO h0];obtain ⟨l,hl⟩:=listE_zero h λe he=>fieldV_err he;have e1:fieldV p (t.wide p).bl (t.wide p).r.ts s b.x5=.inr l:=field_wide hl p;rw [e1,hl];exact ⟨rfl,ht.lf,ht.cr⟩
theorem chunk_wide (h:(t.chunk 0 b s).1=0) (hn:∀z:Int × Int,z=Bz false false b.x4 b.x3 s->z.2≠0->z.2.toNat≠0) (ht:t.Strict) :
 (t.wide p).chunk p b s=(0,(t.chunk 0 b s).2.wide p)/\(t.chunk 0 b s).2.Strict:=by
 unfold IQ at h ⊢;rw [none0,none0] at h ⊢;by_cases h1:(Bz false false b.x4 b.x3 s).2=0
 ·rw [size_wide h1 (Hs p 27) (Hs p 28)];have hb:(t.wide p).r.body=t.r.body:=rfl;rw [hb];generalize Bz false false b.x4 b.x3 s=z at h h1 ⊢;simp only [ne_eq,h1,not_true_eq_false,if_false] at h ⊢;by_cases h2:z.1=0
  ·simp only [ZN h2];exact ⟨rfl,ht.lf,ht.cr⟩
  ·simp only [ZO h2] at h ⊢;by_cases h3:b.x3-(t.r.body.length:Int)<z.1
   ·simp only [ZN h3] at h;exact ZG h ZX
   ·simp only [ZO h3];exact ⟨rfl,ht.lf,ht.cr⟩
 ·have:=hn _ rfl h1;simp only [ne_eq,h1,not_false_eq_true,if_true] at h;exact ZG h this
theorem line_wide (h:(t.line 0 b s).1=0) (ht:t.Strict):(t.wide p).line p b s=(0,(t.line 0 b s).2.wide p)/\(t.line 0 b s).2.Strict:=by
 unfold IX at h ⊢;have e:(t.wide p).st=t.st:=rfl;rw [e];by_cases h1:t.st=1
 ·simp only [ZN h1] at h ⊢;exact first_wide h ht
 simp only [ZO h1] at h ⊢;by_cases h2:t.st=2
 ·simp only [ZN h2] at h ⊢;exact fields_wide h (λd hd hn=>decide_pos hd hn) ht
 simp only [ZO h2] at h ⊢;by_cases h3:t.st=4
 ·simp only [ZN h3] at h ⊢;exact chunk_wide h (λz hz hn=>size_pos hz hn) ht
 simp only [ZO h3] at h ⊢;by_cases h4:t.st=7
 ·simp only [ZN h4] at h ⊢;exact trail_wide h ht
 simp only [ZO h4] at h ⊢;exact ⟨rfl,(enter_wide (p:=p) (t:=t) 4 b.x0).2⟩
theorem inLine_wide {u:Bool} (h:t.inLine 0 b c=(.live t2,u)) (ht:t.Strict):(t.wide p).inLine p b c=(.live (t2.wide p),u)/\t2.Strict:=by
 unfold IW at h ⊢;have e1:(t.wide p).rd.clear=wideM p t.rd.clear:=rfl;have e2:(t.wide p).rd=wideM p t.rd:=rfl;by_cases h3:t.rd.clear.next c=3
 ·rw [h3] at h;exact ZG (ZH Prod.fst h) ZW
 obtain ⟨h1,h2⟩:=next_wide (p:=p) t.rd.clear ht.lf ht.cr c h3;have hb:=byte_wide (p:=p) t.rd ht.lf ht.cr c h3;rw [e1,e2,h1,hb];generalize hn:t.rd.clear.next c=n at h h1 h2 h3 ⊢;simp only at h ⊢;by_cases h0:n=0
 ·simp only [ZN h0] at h ⊢;obtain ⟨rfl,rfl⟩:({t with rd:=t.rd.byte c}:T)=t2/\true=u:=by simpa using h
  exact ⟨rfl,ht.lf,ht.cr⟩
 simp only [ZO h0,ZO h3] at h ⊢;by_cases h4:n=4
 ·simp only [ZN h4,none0,AN,AT,if_false] at h;exact ZG (ZH Prod.fst h) ZW
 simp only [ZO h4] at h ⊢;have hl:(wideM p (t.rd.byte c)).line=(t.rd.byte c).line:=rfl;rw [hl];have e5:({t.wide p with rd:=wideM p (t.rd.byte c)}:T)=({t with rd:=t.rd.byte c}:T).wide p:=rfl;rw [e5];have hs:({t with rd:=t.rd.byte c}:T).Strict:=⟨ht.lf,ht.cr⟩;generalize ({t with rd:=t.rd.byte c}:T)=t1 at h hs ⊢;generalize (t.rd.byte c).line=s at h ⊢;obtain ⟨hq,rfl⟩:=Prod.mk.inj h;by_cases hz:(t1.line 0 b s).1=0
 ·obtain ⟨k1,k2⟩:=line_wide (p:=p) hz hs;rw [k1];unfold ends at hq ⊢;rw [ZN hz] at hq;obtain rfl:(t1.line 0 b s).2=t2:=by simpa using hq
  exact ⟨rfl,k2⟩
 ·unfold ends at hq;rw [ZO hz] at hq;cases hq
theorem counted_wide:(t.wide p).counted=t.counted.wide p:=by unfold T.counted;have e:(t.wide p).cnt=t.cnt:=rfl;rw [e];cases t.cnt<;>rfl
theorem endData_wide (ht:t.Strict):(t.wide p).endData p=(t.endData 0).wide p/\(t.endData 0).Strict:=by
 unfold T.endData;have e:(t.wide p).r.ch=t.r.ch:=rfl;rw [e];cases t.r.ch with
 | true=>exact enter_wide 6 0
 | false=>exact fin_wide ht
theorem look_wide {u:Bool} (h:t.look 0 b c=(.live t2,u)) (ht:t.Strict):(t.wide p).look p b c=(.live (t2.wide p),u)/\t2.Strict:=by
 unfold T.look at h ⊢;have e:(t.wide p).st=t.st:=rfl;have e2:(t.wide p).left=t.left:=rfl;have e3:(t.wide p).keep c=(t.keep c).wide p:=rfl;rw [e,e2,e3];by_cases h1:bodied t.st=true
 ·simp only [ZN h1] at h ⊢;have hk:(t.keep c).Strict:=⟨ht.lf,ht.cr⟩;by_cases h2:t.left=1
  ·simp only [ZN h2] at h ⊢;obtain ⟨rfl,rfl⟩:(t.keep c).endData 0=t2/\true=u:=by simpa using h
   rw [(endData_wide (p:=p) hk).1];exact ⟨rfl,(endData_wide (p:=p) hk).2⟩
  ·simp only [ZO h2] at h ⊢;obtain ⟨rfl,rfl⟩:t.keep c=t2/\true=u:=by simpa using h
   exact ⟨rfl,hk⟩
 ·simp only [ZO h1] at h ⊢;by_cases h2:headed t.st=true
  ·simp only [ZN h2] at h ⊢;rw [counted_wide];have e4:(t.counted.wide p).size=t.counted.size:=rfl;rw [e4]
   by_cases h3:b.x2<(t.counted.size:Int)
   ·simp only [ZN h3] at h;exact ZG (ZH Prod.fst h) ZW
   ·simp only [ZO h3] at h ⊢;exact inLine_wide h ⟨by rw [counted_rd];exact ht.lf,by rw [counted_rd];exact ht.cr⟩
  ·simp only [ZO h2] at h ⊢;exact inLine_wide h ht
theorem take_wide (h:t.take 0 b c=.live t2) (ht:t.Strict):(t.wide p).take p b c=.live (t2.wide p)/\t2.Strict:=by
 unfold T.take at h ⊢;have e:({t.wide p with cnt:=false}:T)=({t with cnt:=false}:T).wide p:=rfl;have hs:({t with cnt:=false}:T).Strict:=⟨ht.lf,ht.cr⟩;rw [e];generalize ({t with cnt:=false}:T)=t0 at h hs ⊢;rcases hq:t0.look 0 b c with ⟨q,u⟩;rw [hq] at h;cases q with
 | dead e o=>cases u<;>cases h
 | live t1=>
   obtain ⟨k1,k2⟩:=look_wide (p:=p) hq hs;rw [k1];cases u with
   | true=>
     obtain rfl:t1=t2:=by simpa using h
     exact ⟨rfl,k2⟩
   | false=>
     simp only at h ⊢;rcases hq2:t1.look 0 b c with ⟨q2,u2⟩;rw [hq2] at h;simp only at h;subst h;obtain ⟨k3,k4⟩:=look_wide (p:=p) hq2 k2;rw [k3];exact ⟨rfl,k4⟩
theorem feed_wide (l:List UInt8):∀{t:T},t.Strict->(Ho t).feed 0 b l=.live t2->(Ho (t.wide p)).feed p b l=.live (t2.wide p)/\t2.Strict:=by
 induction l with
 | nil=>
   intro t ht h;obtain rfl:t=t2:=by simpa [Q.feed] using h
   exact ⟨rfl,ht⟩
 | cons c l ih=>
   intro t ht h;have h':(t.take 0 b c).feed 0 b l=.live t2:=h;cases hq:t.take 0 b c with
   | live t1=>
     obtain ⟨k1,k2⟩:=take_wide (p:=p) hq ht;rw [hq] at h';have:=ih k2 h';have e:(Ho (t.wide p)).feed p b (c::l)=((t.wide p).take p b c).feed p b l:=rfl;rw [e,k1];exact this
   | dead e o=>
     rw [hq] at h';have:∀l:List UInt8,(Q.dead e o).feed 0 b l=.dead e o:=λl=>by induction l with
      | nil=>rfl
      | cons c l ih=>exact ih
     rw [this] at h';cases h'
theorem new_wide:T.new p b=(T.new 0 b).wide p/\(T.new 0 b).Strict:=⟨rfl,none0 1,none0 2⟩
theorem wide_out:(t.wide p).out=t.out:=rfl
end
end Pg
theorem XXfa1 {P:Prop} (h:P:=by rw [EO,Fa];omega):P:=h
namespace Can
open Base Txt Par Pg
section
variable {b:Bd} {t:T} {s m x:List UInt8} {o:List Hz} {fs:List Fld} {n:Nat}
structure Fr (b:Bd) (t:T) (o:List Hz):Prop where
 st:t.st=1
 pend:t.rd.pend=false
 nf:FS t.rd.last=false
 buf:t.rd.clear.buf= []
 new:t.isNew=true
 most:t.rd.most=FT b.x0
 r:t.r=zero
 hl:t.hl=0
 bl:t.bl=0
 size:t.size=0
 out:t.out=o
 left:t.left=0
structure Mh (b:Bd) (t:T) (m x:List UInt8) (fs:List Fld) (n:Nat) (o:List Hz):Prop where
 st:t.st=2
 pend:t.rd.pend=false
 nf:FS t.rd.last=false
 buf:t.rd.clear.buf= []
 most:t.rd.most=FT b.x0
 r:t.r=⟨ba m,ba x,1,fs,false,[],[]⟩
 hl:t.hl=fs.length
 bl:t.bl=0
 size:t.size=n
 out:t.out=o
theorem Fr.open (h:Fr b t o):t.Open:=⟨by rw [h.st];rfl,h.pend,h.nf⟩
theorem Mh.open (h:Mh b t m x fs n o):t.Open:=⟨by rw [h.st];rfl,h.pend,h.nf⟩
theorem fr_new (b:Bd):Fr b (T.new 0 b) []:=⟨rfl,rfl,rfl,rfl,rfl,rfl,rfl,rfl,rfl,rfl,rfl,rfl⟩
theorem Fr.clean (h:Fr b t o):(Ho t).clean=true:=by show (t.st==1&&t.isNew)=true;rw [h.st,h.new];rfl
theorem mh_start (h:Fr b t o) (hs:s≠ []) (hc:∀c∈s,c≠10/\c≠13) (hl:s.length<=FT b.x0) (hn:((s.length+2:Nat):Int)<=b.x2) (hq:Is (Rq.clOf 0) b.od s=(m,x,1,0)) :
 ∃t',(Ho t).feed 0 b (s ++ [13,10])=.live t'/\Mh b t' m x [] (s.length+2) o:=by
 have e1:=feed_line (p:=0) (b:=b) (t:=t) s h.open h.buf hc (by rw [h.most];exact hl) (by intro _;rw [h.size,Gy];exact hn);obtain ⟨u,hu⟩:∃u,t.went {t.rd with buf:=s,last:=1,pend:=false} (s.length+2)=u:=⟨_,rfl⟩;have hl1:IX 0 b u s=(0,{u with r:={u.r with m:=ba m,x:=ba x,k:=1},st:=2}):=by unfold IX;rw [ZN (by rw [←hu];exact h.st)];unfold T.first;rw [ZO hs,hq];rfl
 refine ⟨_,e1.trans ((by rw [hu];exact ZH ends hl1)),?_⟩;rw [←hu];refine ⟨rfl,rfl,rfl,rfl,h.most,?_,h.hl,h.bl,?_,h.out⟩
 ·show ({t.r with m:=ba m,x:=ba x,k:=1}:Hz)= _;rw [h.r];rfl
 ·show (if Hh t.st=true then t.size+(s.length+2) else t.size)= _;rw [h.st,h.size,Gy];rfl
theorem line_two (h:t.st=2):IX 0 b t s=T.fields 0 b t s:=by unfold IX;rw [if_neg (by rw [h];decide),if_pos h]
theorem mh_field {nm v:List UInt8} (h:Mh b t m x fs n o) (hs:s≠ []) (hc:∀c∈s,c≠10/\c≠13) (hl:s.length<=FT b.x0) (hn:((n+(s.length+2):Nat):Int)<=b.x2) (hf:((fs.length+1:Nat):Int)<=b.x1) (hp:Fd.parse (Fd.clOf 0) s=some (some (nm,v))) :
 ∃t',(Ho t).feed 0 b (s ++ [13,10])=.live t'/\Mh b t' m x (fs ++ [(ba nm,ba v)]) (n+(s.length+2)) o:=by
 have hg:BX 0 s=false:=by unfold BX;rw [none0,AS]
 have e:=feed_line (p:=0) (b:=b) (t:=t) s h.open h.buf hc (by rw [h.most];exact hl) (by intro _;rw [h.size];exact hn);have hv:fieldV 0 t.hl t.r.fs s b.x1=.inr (fs ++ [(ba nm,ba v)]):=by rw [h.hl,h.r];show fieldV 0 fs.length fs s b.x1= _;unfold fieldV;rw [ZO ZZ,hg,ZO ZW,hp]
 obtain ⟨t',ht'⟩:∃t',({t.went {t.rd with buf:=s,last:=1,pend:=false} (s.length+2) with hl:=t.hl+1,r:={t.r with fs:=fs ++ [(ba nm,ba v)]}}:T)=t':=⟨_,rfl⟩;have hl:IX 0 b (t.went {t.rd with buf:=s,last:=1,pend:=false} (s.length+2)) s=(0,t'):=by refine (line_two (show (t.went {t.rd with buf:=s,last:=1,pend:=false} (s.length+2)).st=2 from h.st)).trans ?_;unfold T.fields;rw [ZO hs,←ht'];show (listE (fieldV 0 t.hl t.r.fs s b.x1),({t.went _ _ with hl:=t.hl+1,r:={t.r with fs:=listL t.r.fs (fieldV 0 t.hl t.r.fs s b.x1)}}:T))= _;rw [hv];rfl
 refine ⟨t',e.trans (ZH ends hl),?_⟩;rw [←ht'];refine ⟨h.st,rfl,rfl,rfl,h.most,?_,?_,h.bl,?_,h.out⟩
 ·show ({t.r with fs:=fs ++ [(ba nm,ba v)]}:Hz)= _;rw [h.r]
 ·show t.hl+1= _;rw [h.hl,EO];rfl
 ·show (if Hh t.st=true then t.size+(s.length+2) else t.size)= _;rw [h.st,h.size];rfl
theorem XXiYN {P:Prop} (h:P:=by
 intro c hc;have h1:=D5.1 h c hc;constructor
 ·intro e;rw [e] at h1;exact ZG h1 ZX
 ·intro e;rw [e] at h1;exact ZG h1 ZX):P:=h
theorem token_plain {l:List UInt8} (h:GA [1] l=true):∀c∈l,c≠10/\c≠13:=by exact XXiYN
theorem value_plain {l:List UInt8} (h:GA [6] l=true):∀c∈l,c≠10/\c≠13:=by exact XXiYN
def okF (f:Fld):Prop:=Fd.right f.1.data.toList f.2.data.toList=true
def bare (f:Fld):List UInt8:=f.1.data.toList++58::32::f.2.data.toList
theorem line_bare (f:Fld):Fd.line f=bare f ++ [13,10]:=by simp [Fd.line,bare]
theorem bare_plain {f:Fld} (h:okF f):∀c∈bare f,c≠10/\c≠13:=by
 unfold okF Fd.right at h;simp only [AM] at h;intro c hc;unfold bare at hc;rw [Fj,Fk,Fk] at hc;rcases hc with hc | rfl | rfl | hc
 ·exact token_plain h.2.1 c hc
 ·decide
 ·decide
 ·exact value_plain h.2.2.1 c hc
theorem bare_ne (f:Fld):bare f≠ []:=by unfold bare;simp
theorem ba_back (v:ByteArray):ba v.data.toList=v:=by simp [ba]
theorem mh_fields:∀(gs fs:List Fld) (t:T) (n:Nat),Mh b t m x fs n o->(∀f∈gs,okF f/\(bare f).length<=FT b.x0)->((n+(Cc gs).length:Nat):Int)<=b.x2->((fs.length+gs.length:Nat):Int)<=b.x1->
 ∃t',(Ho t).feed 0 b (Cc gs)=.live t'/\Mh b t' m x (fs++gs) (n+(Cc gs).length) o
 | [],fs,t,n,h,_,_,_=>⟨t,rfl,by rw [D8];exact h⟩
 | f::gs,fs,t,n,h,hg,hn,hf=>by
   have e:Cc (f::gs)=(bare f ++ [13,10])++Cc gs:=by rw [←line_bare];rfl
   have hlen:(Cc (f::gs)).length=((bare f).length+2)+(Cc gs).length:=by rw [e];simp;omega
   rw [hlen] at hn;rw [EP] at hf;have h1:=hg f ZW;obtain ⟨t1,e1,k1⟩:=mh_field h (bare_ne f) (bare_plain h1.1) h1.2 ZZ ZZ (Fd.parse_line (Fd.clOf 0) h1.1);rw [ba_back,ba_back] at k1;obtain ⟨t2,e2,k2⟩:=mh_fields gs (fs ++ [(f.1,f.2)]) t1 _ k1 (λg hm=>hg g (by simp [hm])) ZZ XXfa1;refine ⟨t2,?_,?_⟩
   ·rw [e,feed_app,e1];exact e2
   ·rw [D7] at k2;rw [hlen,←Nat.add_assoc];exact k2
theorem end_line (h:Mh b t m x fs n o) (hn:((n+2:Nat):Int)<=b.x2) :
 (Ho t).feed 0 b [13,10]=ends (IT 0 b (t.went {t.rd with buf:= [],last:=1,pend:=false} 2)):=by
 have e:=feed_line (p:=0) (b:=b) (t:=t) [] h.open h.buf (λc hc=>by cases hc) (Gz _) (by intro _;rw [h.size];exact hn);refine e.trans (ZH ends ?_);refine (line_two (show (t.went {t.rd with buf:= [],last:=1,pend:=false} (([]:List UInt8).length+2)).st=2 from h.st)).trans ?_;unfold T.fields;rw [ZN rfl];rfl
theorem XXnI7 {P:Prop} (h:P:=by
 show Ct (Cp 0) b.ch b.x3 t.r.k t.r.fs= _
 rw [h.r];exact hd):P:=h
theorem end_none (h:Mh b t m x fs n o) (hn:((n+2:Nat):Int)<=b.x2) {k:Int} (hk:k≠2) (hd:Ct (Cp 0) b.ch b.x3 1 fs=(k,0,0)) :
 ∃t',(Ho t).feed 0 b [13,10]=.live t'/\Fr b t' (o ++ [⟨ba m,ba x,1,fs,false,[],[]⟩]):=by
 have e:=end_line h hn;have he:IT 0 b (t.went {t.rd with buf:= [],last:=1,pend:=false} 2)=(0,(t.went {t.rd with buf:= [],last:=1,pend:=false} 2).fin):=by
  unfold IT;have hd':Ct (Cp 0) b.ch b.x3 (t.went {t.rd with buf:= [],last:=1,pend:=false} 2).r.k (t.went {t.rd with buf:= [],last:=1,pend:=false} 2).r.fs=(k,0,0):=by exact XXnI7
  rw [hd'];dsimp only;rw [ZO ZX,ZO hk,ZN rfl]
 rw [he] at e;refine ⟨_,e,⟨rfl,rfl,rfl,rfl,rfl,h.most,rfl,rfl,rfl,rfl,?_,rfl⟩⟩;show t.out ++ [t.r]= _;rw [h.out,h.r]
theorem end_body (h:Mh b t m x fs n o) (hn:((n+2:Nat):Int)<=b.x2) {k:Int} (hk:k≠2) (d:List UInt8) (h0:d≠ []) (hd:Ct (Cp 0) b.ch b.x3 1 fs=(k,(d.length:Int),0)) :
 ∃t',(Ho t).feed 0 b ([13,10]++d)=.live t'/\Fr b t' (o ++ [⟨ba m,ba x,1,fs,false,d,[]⟩]):=by
 have hp:0<d.length:=EX.2 h0;have e:=end_line h hn;obtain ⟨u,hu⟩:∃u,({t.went {t.rd with buf:= [],last:=1,pend:=false} 2 with left:=d.length,st:=3}:T)=u:=⟨_,rfl⟩;have he:IT 0 b (t.went {t.rd with buf:= [],last:=1,pend:=false} 2)=(0,u):=by
  unfold IT;have hd':Ct (Cp 0) b.ch b.x3 (t.went {t.rd with buf:= [],last:=1,pend:=false} 2).r.k (t.went {t.rd with buf:= [],last:=1,pend:=false} 2).r.fs=(k,(d.length:Int),0):=by exact XXnI7
  rw [hd'];dsimp only;rw [ZO ZX,ZO hk,ZO ZZ,←hu];rfl
 rw [he] at e;have e2:=feed_body (p:=0) (b:=b) d u (by rw [←hu];rfl) h0 (by rw [←hu];exact Gi _);rw [ZN (by rw [←hu])] at e2;have hr:u.r=⟨ba m,ba x,1,fs,false,[],[]⟩:=by rw [←hu];exact h.r
 have hE:T.endData 0 {u with cnt:=false,r:={u.r with body:=u.r.body++d},left:=0}=({u with cnt:=false,r:={u.r with body:=u.r.body++d},left:=0}:T).fin:=by unfold T.endData;rw [ZO (by rw [hr];simp)]
 rw [hE] at e2;refine ⟨_,by rw [feed_app,e];exact e2,⟨rfl,?_,?_,?_,?_,?_,rfl,rfl,rfl,rfl,?_,rfl⟩⟩
 ·show u.rd.pend=false;rw [←hu];rfl
 ·show FS u.rd.last=false;rw [←hu];rfl
 ·show u.rd.clear.buf= [];rw [←hu];rfl
 ·show (decide (u.rd.len=0) && !u.rd.pend)=true;rw [←hu];rfl
 ·show u.rd.most= _;rw [←hu];exact h.most
 ·show u.out ++ [{u.r with body:=u.r.body++d}]= _;rw [hr,←hu];show t.out ++ _= _;rw [h.out];rfl
end
end Can
namespace Can
open Base Txt Par Pg
section
variable {b:Bd} {t:T} {s m x body:List UInt8} {o:List Hz} {fs ts:List Fld} {n:Nat}
structure Kh (b:Bd) (t:T) (m x:List UInt8) (fs:List Fld) (body:List UInt8) (n:Nat) (o:List Hz):Prop where
 st:t.st=4
 pend:t.rd.pend=false
 nf:FS t.rd.last=false
 buf:t.rd.clear.buf= []
 most:t.rd.most=FT b.x0
 r:t.r=⟨ba m,ba x,1,fs,true,body,[]⟩
 bl:t.bl=0
 size:t.size=n
 out:t.out=o
structure Kt (b:Bd) (t:T) (m x:List UInt8) (fs:List Fld) (body:List UInt8) (ts:List Fld) (n:Nat) (o:List Hz):Prop where
 st:t.st=7
 pend:t.rd.pend=false
 nf:FS t.rd.last=false
 buf:t.rd.clear.buf= []
 most:t.rd.most=FT b.x0
 r:t.r=⟨ba m,ba x,1,fs,true,body,ts⟩
 bl:t.bl=ts.length
 size:t.size=n
 out:t.out=o
theorem Kh.open (h:Kh b t m x fs body n o):t.Open:=⟨by rw [h.st];rfl,h.pend,h.nf⟩
theorem Kt.open (h:Kt b t m x fs body ts n o):t.Open:=⟨by rw [h.st];rfl,h.pend,h.nf⟩
theorem end_chunked (h:Mh b t m x fs n o) (hn:((n+2:Nat):Int)<=b.x2) {L:Int} (hd:Ct (Cp 0) b.ch b.x3 1 fs=(2,L,0)) :
 ∃t',(Ho t).feed 0 b [13,10]=.live t'/\Kh b t' m x fs [] (n+2) o:=by
 have e:=end_line h hn;obtain ⟨u,hu⟩:∃u,({t.went {t.rd with buf:= [],last:=1,pend:=false} 2 with r:={t.r with ch:=true},st:=4}:T)=u:=⟨_,rfl⟩;have he:IT 0 b (t.went {t.rd with buf:= [],last:=1,pend:=false} 2)=(0,u):=by
  unfold IT;have hd':Ct (Cp 0) b.ch b.x3 (t.went {t.rd with buf:= [],last:=1,pend:=false} 2).r.k (t.went {t.rd with buf:= [],last:=1,pend:=false} 2).r.fs=(2,L,0):=by exact XXnI7
  rw [hd'];dsimp only;rw [ZO ZX,ZN rfl,←hu];rfl
 rw [he] at e;refine ⟨u,e,?_⟩;rw [←hu];refine ⟨rfl,rfl,rfl,rfl,h.most,?_,h.bl,?_,h.out⟩
 ·show ({t.r with ch:=true}:Hz)= _;rw [h.r]
 ·show (if Hh t.st=true then t.size+2 else t.size)= _;rw [h.st,h.size];rfl
theorem size_line (h:Kh b t m x fs body n o) (hc:∀c∈s,c≠10/\c≠13) (hl:s.length<=FT b.x0) :
 (Ho t).feed 0 b (s ++ [13,10])=ends (IQ 0 b (t.went {t.rd with buf:=s,last:=1,pend:=false} (s.length+2)) s):=by
 have e:=feed_line (p:=0) (b:=b) (t:=t) s h.open h.buf hc (by rw [h.most];exact hl) (by intro hh;rw [h.st] at hh;cases hh);refine e.trans (ZH ends ?_);unfold IX;have:(t.went {t.rd with buf:=s,last:=1,pend:=false} (s.length+2)).st=4:=h.st;rw [this,ZO ZX,ZO ZX,ZN rfl]
theorem kh_chunk (h:Kh b t m x fs body n o) (d:List UInt8) (hd:d≠ []) (hc:∀c∈s,c≠10/\c≠13) (hl:s.length<=FT b.x0) (hz:Bz (Hs 0 27) (Hs 0 28) b.x4 b.x3 s=((d.length:Int),0)) (hs:((body.length+d.length:Nat):Int)<=b.x3) :
 ∃t',(Ho t).feed 0 b ((s ++ [13,10])++(d ++ [13,10]))=.live t'/\Kh b t' m x fs (body++d) n o:=by
 have hp:0<d.length:=EX.2 hd;obtain ⟨t0,ht0⟩:∃t0,t.went {t.rd with buf:=s,last:=1,pend:=false} (s.length+2)=t0:=⟨_,rfl⟩;have hr0:t0.r=⟨ba m,ba x,1,fs,true,body,[]⟩:=by rw [←ht0];exact h.r
 have e1:=size_line h hc hl;rw [ht0] at e1;obtain ⟨t1,ht1⟩:∃t1,({t0 with left:=d.length,st:=5}:T)=t1:=⟨_,rfl⟩;have hlc:IQ 0 b t0 s=(0,t1):=by unfold IQ;rw [hz];dsimp only;rw [ZO ZX,ZO ZZ,ZO (by rw [hr0];show¬(b.x3-(body.length:Int)<(d.length:Int));omega),←ht1];rfl
 rw [hlc] at e1;have e2:=feed_body (p:=0) (b:=b) d t1 (by rw [←ht1];rfl) hd (by rw [←ht1];exact Gi _);rw [ZN (by rw [←ht1])] at e2;have hr1:t1.r=⟨ba m,ba x,1,fs,true,body,[]⟩:=by rw [←ht1];exact hr0
 obtain ⟨t2,ht2⟩:∃t2,(({t1 with cnt:=false,r:={t1.r with body:=t1.r.body++d},left:=0}:T).enter 0 6 0)=t2:=⟨_,rfl⟩;have hed:T.endData 0 {t1 with cnt:=false,r:={t1.r with body:=t1.r.body++d},left:=0}=t2:=by unfold T.endData;rw [ZN (by rw [hr1]),ht2]
 rw [hed] at e2;have e3:=feed_line (p:=0) (b:=b) (t:=t2) [] ⟨by rw [←ht2];rfl,by rw [←ht2];rfl,by rw [←ht2];rfl⟩ (by rw [←ht2];rfl) (by intro c hc;cases hc) (Gz _) (by intro hh;rw [←ht2] at hh;cases hh);have hl2:IX 0 b (t2.went {t2.rd with buf:= [],last:=1,pend:=false} (([]:List UInt8).length+2)) []=(0,(t2.went {t2.rd with buf:= [],last:=1,pend:=false} 2).enter 0 4 b.x0):=by
  unfold IX;have:(t2.went {t2.rd with buf:= [],last:=1,pend:=false} (([]:List UInt8).length+2)).st=6:=by rw [←ht2];rfl
  rw [this,ZO ZX,ZO ZX,ZO ZX,ZO ZX];rfl
 rw [hl2] at e3;refine ⟨(t2.went {t2.rd with buf:= [],last:=1,pend:=false} 2).enter 0 4 b.x0,?_,⟨rfl,rfl,rfl,rfl,rfl,?_,?_,?_,?_⟩⟩
 ·rw [feed_app,e1,feed_app];show ((Ho t1).feed 0 b d).feed 0 b [13,10]= _;rw [e2];exact e3
 ·show t2.r= _;rw [←ht2];show ({t1.r with body:=t1.r.body++d}:Hz)= _;rw [hr1]
 ·show t2.bl=0;rw [←ht2,←ht1,←ht0];exact h.bl
 ·show (if Hh t2.st=true then t2.size+2 else t2.size)=n;rw [←ht2,←ht1,←ht0];show (if Hh t.st=true then t.size+ _ else t.size)=n;rw [h.st,h.size];rfl
 ·show t2.out=o;rw [←ht2,←ht1,←ht0];exact h.out
theorem kh_last (h:Kh b t m x fs body n o) (hc:∀c∈s,c≠10/\c≠13) (hl:s.length<=FT b.x0) (hz:Bz (Hs 0 27) (Hs 0 28) b.x4 b.x3 s=(0,0)) :
 ∃t',(Ho t).feed 0 b (s ++ [13,10])=.live t'/\Kt b t' m x fs body [] n o:=by
 have e1:=size_line h hc hl;obtain ⟨t0,ht0⟩:∃t0,t.went {t.rd with buf:=s,last:=1,pend:=false} (s.length+2)=t0:=⟨_,rfl⟩;rw [ht0] at e1;have hlc:IQ 0 b t0 s=(0,{t0 with st:=7}):=by unfold IQ;rw [hz];dsimp only;rw [ZO ZX,ZN rfl]
 rw [hlc] at e1;refine ⟨_,e1,?_⟩;rw [←ht0];refine ⟨rfl,rfl,rfl,rfl,h.most,h.r,h.bl,?_,h.out⟩;show (if Hh t.st=true then t.size+ _ else t.size)=n;rw [h.st,h.size];rfl
theorem line_seven (h:t.st=7):IX 0 b t s=T.trail 0 b t s:=by unfold IX;rw [if_neg (by rw [h];decide),if_neg (by rw [h];decide),if_neg (by rw [h];decide),if_pos h]
theorem kt_field {nm v:List UInt8} (h:Kt b t m x fs body ts n o) (hs:s≠ []) (hc:∀c∈s,c≠10/\c≠13) (hl:s.length<=FT b.x0) (hn:((n+(s.length+2):Nat):Int)<=b.x2) (hf:((ts.length+1:Nat):Int)<=b.x5) (hp:Fd.parse (Fd.clOf 0) s=some (some (nm,v))) :
 ∃t',(Ho t).feed 0 b (s ++ [13,10])=.live t'/\Kt b t' m x fs body (ts ++ [(ba nm,ba v)]) (n+(s.length+2)) o:=by
 have hg:BX 0 s=false:=by unfold BX;rw [none0,AS]
 have e:=feed_line (p:=0) (b:=b) (t:=t) s h.open h.buf hc (by rw [h.most];exact hl) (by intro _;rw [h.size];exact hn);have hv:fieldV 0 t.bl t.r.ts s b.x5=.inr (ts ++ [(ba nm,ba v)]):=by rw [h.bl,h.r];show fieldV 0 ts.length ts s b.x5= _;unfold fieldV;rw [ZO ZZ,hg,ZO ZW,hp]
 obtain ⟨t',ht'⟩:∃t',({t.went {t.rd with buf:=s,last:=1,pend:=false} (s.length+2) with bl:=t.bl+1,r:={t.r with ts:=ts ++ [(ba nm,ba v)]}}:T)=t':=⟨_,rfl⟩;have hl:IX 0 b (t.went {t.rd with buf:=s,last:=1,pend:=false} (s.length+2)) s=(0,t'):=by refine (line_seven (show (t.went {t.rd with buf:=s,last:=1,pend:=false} (s.length+2)).st=7 from h.st)).trans ?_;unfold T.trail;rw [ZO hs,←ht'];show (listE (fieldV 0 t.bl t.r.ts s b.x5),({t.went _ _ with bl:=t.bl+1,r:={t.r with ts:=listL t.r.ts (fieldV 0 t.bl t.r.ts s b.x5)}}:T))= _;rw [hv];rfl
 refine ⟨t',e.trans (ZH ends hl),?_⟩;rw [←ht'];refine ⟨h.st,rfl,rfl,rfl,h.most,?_,?_,?_,h.out⟩
 ·show ({t.r with ts:=ts ++ [(ba nm,ba v)]}:Hz)= _;rw [h.r]
 ·show t.bl+1= _;rw [h.bl,EO];rfl
 ·show (if Hh t.st=true then t.size+(s.length+2) else t.size)= _;rw [h.st,h.size];rfl
theorem kt_fields:∀(gs ts:List Fld) (t:T) (n:Nat),Kt b t m x fs body ts n o->(∀f∈gs,okF f/\(bare f).length<=FT b.x0)->((n+(Cc gs).length:Nat):Int)<=b.x2->((ts.length+gs.length:Nat):Int)<=b.x5->
 ∃t',(Ho t).feed 0 b (Cc gs)=.live t'/\Kt b t' m x fs body (ts++gs) (n+(Cc gs).length) o
 | [],ts,t,n,h,_,_,_=>⟨t,rfl,by rw [D8];exact h⟩
 | f::gs,ts,t,n,h,hg,hn,hf=>by
   have e:Cc (f::gs)=(bare f ++ [13,10])++Cc gs:=by rw [←line_bare];rfl
   have hlen:(Cc (f::gs)).length=((bare f).length+2)+(Cc gs).length:=by rw [e];simp;omega
   rw [hlen] at hn;rw [EP] at hf;have h1:=hg f ZW;obtain ⟨t1,e1,k1⟩:=kt_field h (bare_ne f) (bare_plain h1.1) h1.2 ZZ ZZ (Fd.parse_line (Fd.clOf 0) h1.1);rw [ba_back,ba_back] at k1;obtain ⟨t2,e2,k2⟩:=kt_fields gs (ts ++ [(f.1,f.2)]) t1 _ k1 (λg hm=>hg g (by simp [hm])) ZZ XXfa1;refine ⟨t2,?_,?_⟩
   ·rw [e,feed_app,e1];exact e2
   ·rw [D7] at k2;rw [hlen,←Nat.add_assoc];exact k2
theorem kt_end (h:Kt b t m x fs body ts n o) (hn:((n+2:Nat):Int)<=b.x2) :
 ∃t',(Ho t).feed 0 b [13,10]=.live t'/\Fr b t' (o ++ [⟨ba m,ba x,1,fs,true,body,ts⟩]):=by
 have e:=feed_line (p:=0) (b:=b) (t:=t) [] h.open h.buf (λc hc=>by cases hc) (Gz _) (by intro _;rw [h.size];exact hn);have hl:IX 0 b (t.went {t.rd with buf:= [],last:=1,pend:=false} (([]:List UInt8).length+2)) []=(0,(t.went {t.rd with buf:= [],last:=1,pend:=false} 2).fin):=by refine (line_seven (show (t.went {t.rd with buf:= [],last:=1,pend:=false} (([]:List UInt8).length+2)).st=7 from h.st)).trans ?_;unfold T.trail;rw [ZN rfl];rfl
 rw [hl] at e;refine ⟨_,e,⟨rfl,rfl,rfl,rfl,rfl,h.most,rfl,rfl,rfl,rfl,?_,rfl⟩⟩;show t.out ++ [t.r]= _;rw [h.out,h.r]
end
end Can
namespace Can
open Base Txt Par Pg
def localV:ByteArray:=⟨#[108,111,99,97,108,104,111,115,116]⟩
def posts:List (List UInt8):= [[80,79,83,84],[80,85,84],[80,65,84,67,72]]
def hostA (l:List Fld):List Fld:=if find l Cv= [] then (Cv,localV)::l else l
def lenV (n:Nat):ByteArray:=ba (G7 10 n)
def fieldsV (m:ByteArray) (fs:List Fld) (body:List UInt8) (ts:List Fld):List Fld:=
 if ts≠ [] then hostA (without fs [Co,Cz]) ++ [(Cz,Cn)]
 else if body≠ []∨m.data.toList∈posts then hostA (without fs [Co,Cz]) ++ [(Co,lenV body.length)]
 else hostA (without fs [Co,Cz])
theorem find_app (a c:List Fld) (n:ByteArray):find (a++c) n=find a n++find c n:=by simp [find,List.filter_append]
theorem same_trans {a c n:ByteArray} (h:same a n=true) (k:same c n=false):same c a=false:=by
 cases e:same c a with
 | false=>rfl
 | true=>
   unfold same at h k e;rw [ZI] at h e;rw [e,h] at k;simp at k
theorem find_without_out (l:List Fld) (ns:List ByteArray) (n:ByteArray) (h:n∈ns):find (without l ns) n= []:=by unfold find without;rw [List.map_eq_nil_iff,List.filter_filter,List.filter_eq_nil_iff];intro f _;rw [AM];rintro ⟨h1,h2⟩;have:one ns f.1=true:=List.any_eq_true.2 ⟨n,h,by rw [same_comm];exact h1⟩;rw [this] at h2;cases h2
theorem find_without_in (l:List Fld) (ns:List ByteArray) (n:ByteArray) (h:∀c∈ns,same c n=false):find (without l ns) n=find l n:=by
 unfold find without;rw [List.filter_filter]
 congr 1
 apply List.filter_congr;intro f _;cases e:same f.1 n with
 | false=>rfl
 | true=>
   have:one ns f.1=false:=by unfold one;rw [List.any_eq_false];intro c hc;rw [same_trans e (h c hc)];simp
   rw [this];rfl
section
variable (fs:List Fld)
theorem host_te:find (hostA (without fs [Co,Cz])) Cz= []:=by
 have h:=find_without_out fs [Co,Cz] Cz ZW;unfold hostA;split
 ·exact (find_app [(Cv,localV)] (without fs [Co,Cz]) Cz).trans (by rw [h];decide +kernel)
 ·exact h
theorem host_cl:find (hostA (without fs [Co,Cz])) Co= []:=by
 have h:=find_without_out fs [Co,Cz] Co ZW;unfold hostA;split
 ·exact (find_app [(Cv,localV)] (without fs [Co,Cz]) Co).trans (by rw [h];decide +kernel)
 ·exact h
def okH (fs:List Fld):Prop:=find fs Cv= []∨Cw false false 1 (find fs Cv)=0
theorem host_host (h:okH fs):Cw false false 1 (find (hostA (without fs [Co,Cz])) Cv)=0:=by
 have e:=find_without_in fs [Co,Cz] Cv ZR;unfold hostA;rw [e];split
 ·rename_i h0;rw [show find ((Cv,localV)::without fs [Co,Cz]) Cv=find [(Cv,localV)] Cv from (find_app [(Cv,localV)] (without fs [Co,Cz]) Cv).trans (by rw [e,h0,D8])];decide +kernel
 ·rename_i h0;rw [e];exact h.resolve_left h0
end
theorem cl_zero:Cp 0=⟨false,false,false,false,false,false,false,false,false,false,false,false⟩:=by simp only [Cp,none0]
section
variable {m:ByteArray} {fs ts:List Fld} {body:List UInt8} {most:Int}
theorem decide_chunked (h:okH fs) (ht:ts≠ []):Ct (Cp 0) true most 1 (fieldsV m fs body ts)=(2,0,0):=by unfold fieldsV;rw [if_pos ht,cl_zero];unfold Ct;dsimp only;rw [find_app,find_app,find_app,host_te,host_cl,show find [(Cz,Cn)] Cv= [] by decide +kernel,show find [(Cz,Cn)] Cz= [Cn] by decide +kernel,show find [(Cz,Cn)] Co= [] by decide +kernel,D8,host_host fs h];show Frm.bodyV 0 true (C1 false false false false 1 1 0 (Cq false false [Cn])) (0,0)= _;rw [show Cq false false [Cn]=true by decide +kernel];rfl
theorem decide_none (h:okH fs) (ch:Bool) (hb:body= []) (ht:ts= []) (hm:m.data.toList∉posts):Ct (Cp 0) ch most 1 (fieldsV m fs body ts)=(1,0,0):=by unfold fieldsV;rw [if_neg (by simp [ht]),if_neg (by simp [hb,hm]),cl_zero];unfold Ct;dsimp only;rw [host_te,host_cl,host_host fs h];rfl
theorem decide_len (h:okH fs) (ch:Bool) (hb:body≠ []∨m.data.toList∈posts) (ht:ts= []) (h0:0<=most) (hl:(body.length:Int)<=most):Ct (Cp 0) ch most 1 (fieldsV m fs body ts)=(1,(body.length:Int),0):=by
 unfold fieldsV;rw [ZO (by simp [ht]),ZN hb,cl_zero];unfold Ct;dsimp only;have e0:∀n:ByteArray,find [(Co,lenV body.length)] n=if same Co n=true then [lenV body.length] else []:=λn=>by unfold find;rw [List.filter_cons];split<;>rfl
 have e1:=(e0 Cv).trans (ZO ZR)
 have e2:=(e0 Cz).trans (ZO ZR);have e3:=(e0 Co).trans (ZN ZR);rw [find_app,find_app,find_app,host_te,host_cl,e1,e2,e3,D8,host_host fs h];have el:Cx false false false false most [lenV body.length]=((body.length:Int),0):=by unfold Cx;rw [ZO ZW,ZO ZW];show Frm.numV (G6 10 most (lenV body.length).data.toList)= _;have h9:=Num.read_spell (b:=10) ZX ZX body.length 0 most h0;rw [ZN hl] at h9;have this:G6 10 most (Fz 0 48++G7 10 body.length)=((body.length:Int),0):=h9;rw [show (lenV body.length).data.toList=Fz 0 48++G7 10 body.length by simp [lenV,ba],this];rfl
 show Frm.bodyV 0 ch (false,0) (Cx false false false false most [lenV body.length])= _;rw [el];rfl
end
end Can
namespace Can
open Base Txt Par Pg
def reqL (m x:List UInt8):List UInt8:=m++32::(x ++ [32,72,84,84,80,47,49,46,49])
def putV (m x:List UInt8) (fs:List Fld) (body:List UInt8) (ts:List Fld):List UInt8:=
 (reqL m x ++ [13,10])++(Cc (fieldsV (ba m) fs body ts)++([13,10]++if ts≠ [] then Bx [body]++(Cc ts ++ [13,10]) else body))
structure Fits (b:Bd) (m x:List UInt8) (fs:List Fld) (body:List UInt8) (ts:List Fld):Prop where
 req:Is (Rq.clOf 0) b.od (reqL m x)=(m,x,1,0)
 plain:∀c∈reqL m x,c≠10/\c≠13
 len:(reqL m x).length<=FT b.x0
 fields:∀f∈fieldsV (ba m) fs body ts,okF f/\(bare f).length<=FT b.x0
 trailers:∀f∈ts,okF f/\(bare f).length<=FT b.x0
 many:(((fieldsV (ba m) fs body ts).length:Nat):Int)<=b.x1
 head:(((reqL m x).length+2+(Cc (fieldsV (ba m) fs body ts)).length+2+(Cc ts).length+2:Nat):Int)<=b.x2
 room:(body.length:Int)<=b.x3
 most:((ts.length:Nat):Int)<=b.x5
 host:okH fs
 ch:ts≠ []->b.ch=true
 size:ts≠ []->body≠ []->Bz (Hs 0 27) (Hs 0 28) b.x4 b.x3 (G7 16 body.length)=((body.length:Int),0)/\(∀c∈G7 16 body.length,c≠10/\c≠13)/\(G7 16 body.length).length<=FT b.x0
 last:ts≠ []->Bz (Hs 0 27) (Hs 0 28) b.x4 b.x3 [48]=(0,0)/\1<=FT b.x0
section
variable {b:Bd} {t:T} {m x body:List UInt8} {o:List Hz} {fs ts:List Fld}
theorem reqL_ne (m x:List UInt8):reqL m x≠ []:=by unfold reqL;simp
theorem read_put (hb:b.right=true) (h:Fits b m x fs body ts) (hf:Fr b t o) :
 ∃t',(Ho t).feed 0 b (putV m x fs body ts)=.live t'/\Fr b t' (o ++ [⟨ba m,ba x,1,fieldsV (ba m) fs body ts,decide (ts≠ []),body,ts⟩]):=by
 have hx:=Bd.edges hb;have hh:=h.head;obtain ⟨t1,e1,k1⟩:=mh_start hf (reqL_ne m x) h.plain h.len ZZ h.req;obtain ⟨t2,e2,k2⟩:=mh_fields (fieldsV (ba m) fs body ts) [] t1 _ k1 h.fields ZZ (by have:=h.many;simpa using this);rw [Fw] at k2;unfold putV;rw [feed_app,e1,feed_app,e2];by_cases ht:ts= []
 ·subst ht;rw [ZO ZW,ZL ZW];by_cases h0:body= []
  ·subst h0;rw [D8];by_cases hm:m∈posts
   ·obtain ⟨t3,e3,k3⟩:=end_none k2 ZZ ZX (decide_len (m:=ba m) h.host b.ch (.inr (by simpa [ba] using hm)) rfl ZZ h.room);refine ⟨t3,e3,?_⟩;exact k3
   ·obtain ⟨t3,e3,k3⟩:=end_none k2 ZZ ZX (decide_none (m:=ba m) h.host b.ch rfl rfl (by simpa [ba] using hm));refine ⟨t3,e3,?_⟩;exact k3
  ·obtain ⟨t3,e3,k3⟩:=end_body k2 ZZ ZX body h0 (decide_len (m:=ba m) h.host b.ch (.inl h0) rfl ZZ h.room);refine ⟨t3,e3,?_⟩;exact k3
 ·rw [ZN ht];have hd:=decide_chunked (m:=ba m) (body:=body) (most:=b.x3) h.host ht;rw [←h.ch ht] at hd;obtain ⟨t3,e3,k3⟩:=end_chunked k2 ZZ hd;obtain ⟨z1,z2⟩:=h.last ht;have ep:Bx [body]=Chk.chunkL body ++ [48,13,10]:=by unfold Bx;simp
  obtain ⟨t4,e4,k4⟩:∃t4,(Ho t3).feed 0 b (Chk.chunkL body)=.live t4/\Kh b t4 m x (fieldsV (ba m) fs body ts) body ((reqL m x).length+2+(Cc (fieldsV (ba m) fs body ts)).length+2) o:=by
   by_cases h0:body= []
   ·subst h0;exact ⟨t3,by unfold Chk.chunkL;rw [ZN rfl];rfl,k3⟩
   ·obtain ⟨s1,s2,s3⟩:=h.size ht h0;obtain ⟨t4,e4,k4⟩:=kh_chunk k3 body h0 s2 s3 s1 (by have:=h.room;simpa using this);refine ⟨t4,?_,by simpa using k4⟩;unfold Chk.chunkL;rw [ZO h0];simpa using e4
  obtain ⟨t5,e5,k5⟩:=kh_last (s:= [48]) k4 (by intro c hc;rw [Fv.1 hc];decide) z2 z1;obtain ⟨t6,e6,k6⟩:=kt_fields ts [] t5 _ k5 h.trailers ZZ (by have:=h.most;simpa using this);rw [Fw] at k6;obtain ⟨t7,e7,k7⟩:=kt_end k6 ZZ;refine ⟨t7,?_,by rw [ZK ht];exact k7⟩;rw [feed_app,e3,ep,D7,feed_app,e4,feed_app];rw [show (Ho t4).feed 0 b [48,13,10]=.live t5 from e5,feed_app,e6];exact e7
theorem read_many (hb:b.right=true) (h:Fits b m x fs body ts):∀(k:Nat) (t:T) (o:List Hz),Fr b t o->∃t',(Ho t).feed 0 b (Fz k (putV m x fs body ts)).flatten=.live t'/\Fr b t' (o++Fz k ⟨ba m,ba x,1,fieldsV (ba m) fs body ts,decide (ts≠ []),body,ts⟩)
 | 0,t,o,hf=>⟨t,rfl,by simpa using hf⟩
 | k+1,t,o,hf=>by
   obtain ⟨t1,e1,k1⟩:=read_put hb h hf;obtain ⟨t2,e2,k2⟩:=read_many hb h k t1 _ k1;refine ⟨t2,?_,?_⟩
   ·rw [List.replicate_succ,List.flatten_cons,feed_app,e1];exact e2
   ·rw [D7] at k2;rw [List.replicate_succ];exact k2
end
end Can
namespace Can
open Base Txt Rq
theorem token_32 {l:List UInt8} (h:methOk l=true):(∀c∈l,c≠10/\c≠13)/\(32:UInt8)∉l:=by
 unfold methOk at h;rw [AM] at h;refine ⟨token_plain h.2,λhc=>?_⟩;have h1:=D5.1 h.2 32 hc;exact ZG h1 ZX
theorem target_32 {m l:List UInt8} (h:tgtOk c0 m l=true):(∀c∈l,c≠10/\c≠13)/\(32:UInt8)∉l:=by
 unfold tgtOk at h;rw [AM] at h;have ht:=h.1;unfold tgtB at ht;rw [D5] at ht;refine ⟨λc hc=>⟨λe=>?_,λe=>?_⟩,λhc=>?_⟩
 ·have:=ht c hc;rw [e] at this;exact ZG this ZX
 ·have:=ht c hc;rw [e] at this;exact ZG this ZX
 ·have:=ht 32 hc;exact ZG this ZX
theorem put_line {old:Bool} {m t:List UInt8} (hm:methOk m=true) (ht:tgtOk c0 m t=true) (h0:m≠ []) (h1:t≠ []):request c0 old (reqL m t)=(m,t,1,0):=by
 have hn:=(token_32 hm).2;have hn2:=(target_32 ht).2;have hp:parts 32 (reqL m t)= [m,t,[72,84,84,80,47,49,46,49]]:=by unfold reqL;rw [parts_cut 32 m _ hn,show t ++ [32,72,84,84,80,47,49,46,49]=t++32 :: [72,84,84,80,47,49,46,49] from rfl,parts_cut 32 t _ hn2];rfl
 have hw:words c0.bl (reqL m t)= [m,t,[72,84,84,80,47,49,46,49]]:=hp;have hpk:=(pick_three (c:=c0) (l:=reqL m t) (by rw [hw];simp;exact ⟨h0,h1⟩) (by rw [hw];rfl)).1;rw [hw] at hpk;have hb:between c0.bl (reqL m t) m [72,84,84,80,47,49,46,49]=t:=by
  show ext (reqL m t) (m.length+1,(reqL m t).length-8-1)=t;have e:reqL m t=(m ++ [32])++(t ++ [32,72,84,84,80,47,49,46,49]):=by simp [reqL]
  have e2:=ext_mid (m ++ [32]) t [32,72,84,84,80,47,49,46,49];rw [←e] at e2;have e3:ext (reqL m t) (m.length+1,(reqL m t).length-8-1)=ext (reqL m t) ((m ++ [32]).length,(m ++ [32]).length+t.length):=by
   congr 2
   ·simp
   ·rw [e];simp;omega
  rw [e3];exact e2
 have hpk':pick c0 (reqL m t)=some (m,between c0.bl (reqL m t) m [72,84,84,80,47,49,46,49],[72,84,84,80,47,49,46,49]):=hpk;rw [hb] at hpk';unfold request;rw [hpk'];dsimp only;rw [hm,ht,show verL c0 [72,84,84,80,47,49,46,49]=some 1 by decide];rfl
theorem request_again {old old':Bool} {l m t:List UInt8} {k:Nat} (h:request c0 old l=(m,t,k,0)):request c0 old' (reqL m t)=(m,t,1,0)/\(∀c∈reqL m t,c≠10/\c≠13)/\m.length<=l.length/\t.length<=l.length:=by
 unfold request at h;cases hp:pick c0 l with
 | none=>rw [hp] at h;simp [badR] at h
 | some x=>
   obtain ⟨m',t',v⟩:=x;rw [hp] at h;dsimp only at h;by_cases hok:(methOk m'&&tgtOk c0 m' t')=true
   ·rw [ZN hok] at h;cases hv:verL c0 v with
    | none=>rw [hv] at h;simp [verR] at h
    | some j=>
      rw [hv] at h;dsimp only at h;by_cases ho:(j==0 && !old)=true
      ·rw [ZN ho] at h;simp [verR] at h
      ·rw [ZO ho] at h;simp only [Hl,and_true] at h;obtain ⟨rfl,rfl,rfl⟩:=h;have hz:=pick_some hp;rw [AM] at hok;refine ⟨put_line hok.1 hok.2 (EX.1 hz.1) (EX.1 hz.2.2.1),λc hc=>?_,hz.2.1,hz.2.2.2.1⟩;unfold reqL at hc;rw [Fj,Fk,Fj] at hc;rcases hc with hc | rfl | hc | hc
       ·exact (token_32 hok.1).1 c hc
       ·decide
       ·exact (target_32 hok.2).1 c hc
       ·exact (by decide:∀c∈([32,72,84,84,80,47,49,46,49]:List UInt8),c≠10/\c≠13) c hc
   ·rw [ZO hok] at h;simp [badR] at h
end Can
open _root_.Array renaming getD_eq_getD_getElem?→Am,getElem?_eq_getElem→An,replicate→As
open _root_.Bool renaming eq_false_or_eq_true→AQ,eq_iff_iff→AR
open _root_.Classical renaming em→B4
open _root_.Go.Act renaming eval→Aa,put→Ab
open _root_.Go.Lib renaming hid→Dl
open _root_.Go.Proofs.Tryz renaming prog→Mm
open _root_.Go.Region renaming binds→Ii,noSelect→Ij,ready→Ik,wanted→Il
open _root_.Go.RowKit.Below renaming refl→AE
open _root_.List renaming getElem?_cons_succ→Ep,getElem?_cons_zero→Er,getElem?_eq_getElem→Et,getElem?_eq_some_iff→Ev,getElem?_map→Ew,getElem?_toArray→E6,mem_of_getElem?→Fs,range→Fy,setIfInBounds_toArray→F4,set_cons_succ→F6,set_cons_zero→F7
open _root_.Nat renaming lt_or_ge→Gp
open _root_.Option renaming map_some→GY,some→GZ
open Base renaming below_drewN→Az,below_step→A6
open Par renaming bodied→Hb,headed→Hc
open Par.S renaming again→It,ended→Iz,plain→I6
open Tree renaming done→Js,grow→Ju
theorem XXd51 {P:Prop} (h:P:=by show Hb s.st≠true;rw [hs];decide):P:=h
namespace Pg
open Base Txt Par
structure RelW (m:FJ) (q:Ln.R):Prop where
 lf:q.lf=m.lf
 cr:q.cr=m.cr
 most:q.most=m.most
 dead:q.dead=false
 CR:q.CR=m.pend
 B:q.B=if Ln.ended m.last then [] else m.buf
structure Fresh (m:FJ):Prop where
 buf:(if Ln.ended m.last then [] else m.buf)= []
 pend:m.pend=false
theorem RelW.step {m:FJ} {q:Ln.R} (h:RelW m q) (hm:m.Ok) (hf:FS m.last=false) (c:UInt8) :
 q.how c=m.clear.next c/\(FS (m.clear.next c)=false->RelW (m.byte c) (q.byte c)/\(q.byte c).L=(m.byte c).line):=by
 have hr:Ln.Rel m {q with L:=m.line}:=⟨h.lf,h.cr,h.most,h.dead.trans hf.symm,rfl,λ_=>h.CR,λ_=>h.B⟩;have h1:=Ln.step_how hr hm c;have h2:=Ln.step_rel hr hm c;have e:({q with L:=m.line}:Ln.R).byte c=q.byte c:=by simp [Ln.R.byte,Ln.R.start,Ln.R.fin,Ln.R.die,h.dead]
 rw [e] at h2;refine ⟨h1,λhn=>?_⟩;exact ⟨⟨h2.lf,h2.cr,h2.most,h2.dead.trans hn,h2.CR hn,h2.B hn⟩,h2.L⟩
theorem Fresh.isNew {t:T} (h:Fresh t.rd):t.isNew=true:=by
 have h1:t.rd.len=0:=by
  have:=ZH List.length h.buf;unfold FJ.len;split
  ·rfl
  ·rename_i hn;rw [ZO hn] at this;exact this
 unfold T.isNew;rw [h1,h.pend];rfl
structure R0 (p:Nat) (b:Bd) (t:T) (s:S):Prop where
 e:s.e=0
 st:t.st=s.st+1
 r:s.r=t.r
 out:s.out=t.out
 head:s.head=t.size
 hl:s.st<=1->s.lines=t.hl
 bl:s.st=6->s.lines=t.bl
 bl0:s.st≠6->t.bl=0
 left:Hb s.st=true->s.left=t.left
 rd:Hb s.st=false->RelW t.rd s.rd
 fr:Hb s.st=true->Fresh t.rd
 lf:t.rd.lf=Hs p 1
 cr:t.rd.cr=Hs p 2
 most:s.st≠5->t.rd.most=FT b.x0
 beh:s.st=5->t.r.body≠ []
 ch:t.r.ch=decide (3<=s.st)
structure RR (p:Nat) (b:Bd) (t:T) (s:S):Prop extends R0 p b t s where
 fresh:s.fresh=t.next
 clean:s.clean=(t.st==1&&t.isNew)
def RQ (p:Nat) (b:Bd):Q->S->Prop
 | .live t,s=>RR p b t s
 | .dead e o,s=>s.e=e/\e≠0/\s.out=o/\s.clean=false
section
variable {p:Nat} {b:Bd} {t:T} {s:S}
theorem Fresh.nl {m:FJ} (h:Fresh m) (hl:m.lf=Hs p 1) (hc:m.cr=Hs p 2) (hm:m.most=FT b.x0):RelW m (nl p b.x0):=
 ⟨hl.symm,hc.symm,hm.symm,rfl,h.pend.symm,h.buf.symm⟩
theorem fresh_of (most:Int):Fresh (FJ.of p most):=⟨rfl,rfl⟩
theorem next_st (h3:t.st≠3) (h4:t.st≠4):t.next=false:=by unfold T.next;rw [beq_eq_false_iff_ne.2 h3,beq_eq_false_iff_ne.2 h4];rfl
theorem next_body (h:t.r.body≠ []):t.next=false:=by
 unfold T.next;have:t.r.body.isEmpty=false:=by
  cases hb:t.r.body with
  | nil=>exact ZG hb h
  | cons _ _=>rfl
 rw [this,AS,AN]
theorem clean_st (h:t.st≠1):(t.st==1&&t.isNew)=false:=by rw [beq_eq_false_iff_ne.2 h];rfl
theorem ends_err {e:Nat} {t:T} (he:e≠0):ends (e,t)=.dead e t.out:=if_neg he
theorem fail_sim {e:Nat} (h:R0 p b t s) (he:e≠0):RQ p b (.dead e t.out) (s.fail e):=⟨rfl,he,h.out,rfl⟩
theorem bod (h:R0 p b t s):Pg.bodied t.st=Hb s.st:=by
 rw [h.st];unfold Pg.bodied Hb;have e1:(s.st+1==3)=(s.st==2):=by rw [AR,ZI,ZI];omega
 have e2:(s.st+1==5)=(s.st==4):=by rw [AR,ZI,ZI];omega
 rw [e1,e2]
theorem hed (h:R0 p b t s):Hh t.st=Hc s.st:=by
 rw [h.st];unfold Hh Hc;have e1:(s.st+1==1)=(s.st==0):=by rw [AR,ZI,ZI];omega
 have e2:(s.st+1==2)=(s.st==1):=by rw [AR,ZI,ZI];omega
 have e3:(s.st+1==7)=(s.st==6):=by rw [AR,ZI,ZI];omega
 rw [e1,e2,e3]
theorem long_sim (h:R0 p b t s):Pg.longE t.st=Par.longE s.st/\Par.longE s.st≠0:=by
 rw [h.st];unfold Pg.longE Par.longE Hc;by_cases h0:s.st=0
 ·simp [h0]
 ·by_cases h1:s.st=1
  ·simp [h1]
  ·by_cases h6:s.st=6
   ·simp [h6]
   ·rw [ZO ZZ,ZO ZZ,ZO h0,ZO (by simp [h0,h1,h6])];decide
theorem whole_sim (h:R0 p b t s) (hf:Fresh t.rd) (h5:s.st≠5):RR p b t.fin (s.whole p b) where
 e:=h.e
 st:=rfl
 r:=rfl
 out:=by show s.out ++ [s.r]=t.out ++ [t.r];rw [h.out,h.r]
 head:=rfl
 hl:=λ_=>rfl
 bl:=λe=>ZG e (by show (0:Nat)≠6;decide)
 bl0:=λ_=>rfl
 left:=λe=>ZG e (by show Hb 0≠true;decide)
 rd:=λ_=>hf.nl h.lf h.cr (h.most h5)
 fr:=λe=>ZG e (by show Hb 0≠true;decide)
 lf:=h.lf
 cr:=h.cr
 most:=λ_=>h.most h5
 beh:=λe=>ZG e (by show (0:Nat)≠5;decide)
 ch:=rfl
 fresh:=(next_st (t:=t.fin) (by show (1:Nat)≠3;decide) (by show (1:Nat)≠4;decide)).symm
 clean:=by
  have:t.fin.isNew=true:=Fresh.isNew (t:=t.fin) hf;show true=((1:Nat)==1&&t.fin.isNew);rw [this];rfl
theorem first_sim (h:R0 p b t s) (hf:Fresh t.rd) (hc:s.clean=false) (hfr:s.fresh=false) (hs:s.st=0) (ln:List UInt8):RQ p b (ends (t.first p b ln)) (s.first p b ln):=by
 have ht:t.st=1:=by rw [h.st,hs]
 unfold T.first S.first;by_cases h0:ln= []
 ·simp only [ZN h0];cases hq:Hs p 0 with
  | true=>
    simp only [if_true]
    exact {h with
     fresh:=hfr.trans (next_st (t:=t) ZZ ZZ).symm
     clean:=by
      show true= _
      rw [hf.isNew,ht];rfl}
  | false=>
    simp only [AT,if_false];rw [ends_err ZX];exact fail_sim h ZX
 ·simp only [ZO h0];generalize Is (Rq.clOf p) b.od ln=q;by_cases hq:q.2.2.2=0
  ·simp only [hq,if_true,ne_eq,not_true_eq_false,if_false];show RR p b _ _
   exact {
    e:=h.e
    st:=rfl
    r:=by show ({s.r with m:=ba q.1,x:=ba q.2.1,k:=(q.2.2.1:Int)}:Hz)={t.r with m:=ba q.1,x:=ba q.2.1,k:=(q.2.2.1:Int)};rw [h.r]
    out:=h.out
    head:=h.head
    hl:=λ_=>h.hl ZZ
    bl:=λe=>ZG e (by show (1:Nat)≠6;decide)
    bl0:=λ_=>h.bl0 ZZ
    left:=λe=>ZG e (by show Hb 1≠true;decide)
    rd:=λ_=>h.rd (by rw [hs];rfl)
    fr:=λe=>ZG e (by show Hb 1≠true;decide)
    lf:=h.lf
    cr:=h.cr
    most:=λ_=>h.most ZZ
    beh:=λe=>ZG e (by show (1:Nat)≠5;decide)
    ch:=by show t.r.ch=decide (3<=1);rw [h.ch,hs];rfl
    fresh:=hfr.trans (next_st (t:={t with r:={t.r with m:=ba q.1,x:=ba q.2.1,k:=(q.2.2.1:Int)},st:=2}) (by show (2:Nat)≠3;decide) (by show (2:Nat)≠4;decide)).symm
    clean:=hc}
  ·rw [ZO hq,ZN hq,ends_err hq];exact fail_sim h hq
theorem over_sim (h:R0 p b t s) (ok:t.Ok) (hf:Fresh t.rd) (hc:s.clean=false) (hs:s.st=1):RQ p b (ends (t.endHead p b)) (s.over p b):=by
 have ht:t.st=2:=by rw [h.st,hs]
 have hbody:t.r.body= []:=ok.early ZZ;have hnew:=hf.isNew;unfold IT S.over;rw [h.r];have hp:=λh1=>decide_pos (d:=Ct (Cp p) b.ch b.x3 t.r.k t.r.fs) rfl h1;generalize Ct (Cp p) b.ch b.x3 t.r.k t.r.fs=d at hp ⊢;by_cases h1:d.2.2=0
 ·simp only [h1,ne_eq,not_true_eq_false,if_false];by_cases h2:d.1=2
  ·simp only [ZN h2];show RR p b _ _
   exact {
    e:=h.e
    st:=rfl
    r:=rfl
    out:=h.out
    head:=h.head
    hl:=λe=>ZG e (by show¬(3:Nat)<=1;decide)
    bl:=λe=>ZG e (by show (3:Nat)≠6;decide)
    bl0:=λ_=>h.bl0 ZZ
    left:=λe=>ZG e (by show Hb 3≠true;decide)
    rd:=λ_=>hf.nl h.lf h.cr (h.most ZZ)
    fr:=λe=>ZG e (by show Hb 3≠true;decide)
    lf:=h.lf
    cr:=h.cr
    most:=λ_=>h.most ZZ
    beh:=λe=>ZG e (by show (3:Nat)≠5;decide)
    ch:=rfl
    fresh:=by show true=(((4:Nat)==3|| (4:Nat)==4)&&(t.r.body.isEmpty&&t.isNew));rw [hbody,hnew];rfl
    clean:=hc.trans (clean_st (t:={t with r:={t.r with ch:=true},st:=4}) (by show (4:Nat)≠1;decide)).symm}
  ·simp only [ZO h2];by_cases h3:d.2.1=0
   ·simp only [ZN h3];exact whole_sim h hf ZZ
   ·simp only [ZO h3];show RR p b _ _
    exact {
     e:=h.e
     st:=rfl
     r:=rfl
     out:=h.out
     head:=h.head
     hl:=λe=>ZG e (by show¬(2:Nat)<=1;decide)
     bl:=λe=>ZG e (by show (2:Nat)≠6;decide)
     bl0:=λ_=>h.bl0 ZZ
     left:=λ_=>rfl
     rd:=λe=>ZG e (by show Hb 2≠false;decide)
     fr:=λ_=>hf
     lf:=h.lf
     cr:=h.cr
     most:=λ_=>h.most ZZ
     beh:=λe=>ZG e (by show (2:Nat)≠5;decide)
     ch:=by show t.r.ch=decide (3<=2);rw [h.ch,hs];rfl
     fresh:=by show true=(((3:Nat)==3|| (3:Nat)==4)&&(t.r.body.isEmpty&&t.isNew));rw [hbody,hnew];rfl
     clean:=hc.trans (clean_st (t:={t with left:=d.2.1.toNat,st:=3}) (by show (3:Nat)≠1;decide)).symm}
 ·simp only [ne_eq,h1,not_false_eq_true,if_true];rw [ends_err (hp h1)]
  exact fail_sim h (hp h1)
theorem XXy3C {P:Prop} (h:P:=by
 have he:e≠0:=by rcases fieldV_err hv with e1 | e1<;>rw [e1]<;>decide
 simp only [listE];rw [ends_err he]
 exact ⟨rfl,he,h.out,rfl⟩):P:=h
theorem fields_sim (h:R0 p b t s) (ok:t.Ok) (hf:Fresh t.rd) (hc:s.clean=false) (hfr:s.fresh=false) (hs:s.st=1) (ln:List UInt8):RQ p b (ends (t.fields p b ln)) (s.fields p b ln):=by
 have ht:t.st=2:=by rw [h.st,hs]
 unfold T.fields S.fields;by_cases h0:ln= []
 ·simp only [ZN h0];exact over_sim h ok hf hc hs
 ·simp only [ZO h0];rw [h.r,h.hl ZZ];cases hv:fieldV p t.hl t.r.fs ln b.x1 with
  | inl e=>
    exact XXy3C
  | inr l=>
    show RR p b _ _
    exact {
     e:=h.e
     st:=h.st
     r:=rfl
     out:=h.out
     head:=h.head
     hl:=λ_=>rfl
     bl:=λe=>ZG e (by show s.st≠6;omega)
     bl0:=λ_=>h.bl0 ZZ
     left:=λe=>ZG e XXd51
     rd:=λ_=>h.rd (by rw [hs];rfl)
     fr:=λe=>ZG e XXd51
     lf:=h.lf
     cr:=h.cr
     most:=λ_=>h.most ZZ
     beh:=λe=>ZG e (by show s.st≠5;omega)
     ch:=h.ch
     fresh:=hfr.trans (next_st (t:={t with hl:=t.hl+1,r:={t.r with fs:=l}}) (by show t.st≠3;omega) (by show t.st≠4;omega)).symm
     clean:=hc.trans (clean_st (t:={t with hl:=t.hl+1,r:={t.r with fs:=l}}) (by show t.st≠1;omega)).symm}
theorem trail_sim (h:R0 p b t s) (hf:Fresh t.rd) (hc:s.clean=false) (hfr:s.fresh=false) (hs:s.st=6) (ln:List UInt8):RQ p b (ends (t.trail p b ln)) (s.trail p b ln):=by
 have ht:t.st=7:=by rw [h.st,hs]
 unfold T.trail S.trail;by_cases h0:ln= []
 ·simp only [ZN h0];exact whole_sim h hf ZZ
 ·simp only [ZO h0];rw [h.r,h.bl hs];cases hv:fieldV p t.bl t.r.ts ln b.x5 with
  | inl e=>
    exact XXy3C
  | inr l=>
    show RR p b _ _
    exact {
     e:=h.e
     st:=h.st
     r:=rfl
     out:=h.out
     head:=h.head
     hl:=λe=>ZG e (by show¬s.st<=1;omega)
     bl:=λ_=>rfl
     bl0:=λe=>ZG hs e
     left:=λe=>ZG e XXd51
     rd:=λ_=>h.rd (by rw [hs];rfl)
     fr:=λe=>ZG e XXd51
     lf:=h.lf
     cr:=h.cr
     most:=λ_=>h.most ZZ
     beh:=λe=>ZG e (by show s.st≠5;omega)
     ch:=h.ch
     fresh:=hfr.trans (next_st (t:={t with bl:=t.bl+1,r:={t.r with ts:=l}}) (by show t.st≠3;omega) (by show t.st≠4;omega)).symm
     clean:=hc.trans (clean_st (t:={t with bl:=t.bl+1,r:={t.r with ts:=l}}) (by show t.st≠1;omega)).symm}
theorem chunk_sim (h:R0 p b t s) (hf:Fresh t.rd) (hc:s.clean=false) (hfr:s.fresh=false) (hs:s.st=3) (ln:List UInt8):RQ p b (ends (t.chunk p b ln)) (s.chunk p b ln):=by
 have ht:t.st=4:=by rw [h.st,hs]
 unfold IQ S.chunk;rw [h.r];have hp:=λh1=>size_pos (z:=Bz (Hs p 27) (Hs p 28) b.x4 b.x3 ln) rfl h1;generalize Bz (Hs p 27) (Hs p 28) b.x4 b.x3 ln=z at hp ⊢;by_cases h1:z.2=0
 ·simp only [h1,ne_eq,not_true_eq_false,if_false];by_cases h2:z.1=0
  ·simp only [ZN h2];show RR p b _ _
   exact {
    e:=h.e
    st:=rfl
    r:=rfl
    out:=h.out
    head:=h.head
    hl:=λe=>ZG e (by show¬(6:Nat)<=1;decide)
    bl:=λ_=>(h.bl0 ZZ).symm
    bl0:=λe=>ZG rfl e
    left:=λe=>ZG e (by show Hb 6≠true;decide)
    rd:=λ_=>hf.nl h.lf h.cr (h.most ZZ)
    fr:=λe=>ZG e (by show Hb 6≠true;decide)
    lf:=h.lf
    cr:=h.cr
    most:=λ_=>h.most ZZ
    beh:=λe=>ZG e (by show (6:Nat)≠5;decide)
    ch:=by show t.r.ch=decide (3<=6);rw [h.ch,hs];rfl
    fresh:=hfr.trans (next_st (t:={t with st:=7}) (by show (7:Nat)≠3;decide) (by show (7:Nat)≠4;decide)).symm
    clean:=hc.trans (clean_st (t:={t with st:=7}) (by show (7:Nat)≠1;decide)).symm}
  ·simp only [ZO h2];by_cases h3:b.x3-(t.r.body.length:Int)<z.1
   ·simp only [ZN h3];rw [ends_err ZX];exact fail_sim h ZX
   ·simp only [ZO h3];show RR p b _ _
    exact {
     e:=h.e
     st:=rfl
     r:=rfl
     out:=h.out
     head:=h.head
     hl:=λe=>ZG e (by show¬(4:Nat)<=1;decide)
     bl:=λe=>ZG e (by show (4:Nat)≠6;decide)
     bl0:=λ_=>h.bl0 ZZ
     left:=λ_=>rfl
     rd:=λe=>ZG e (by show Hb 4≠false;decide)
     fr:=λ_=>hf
     lf:=h.lf
     cr:=h.cr
     most:=λ_=>h.most ZZ
     beh:=λe=>ZG e (by show (4:Nat)≠5;decide)
     ch:=by show t.r.ch=decide (3<=4);rw [h.ch,hs];rfl
     fresh:=hfr.trans (next_st (t:={t with left:=z.1.toNat,st:=5}) (by show (5:Nat)≠3;decide) (by show (5:Nat)≠4;decide)).symm
     clean:=hc.trans (clean_st (t:={t with left:=z.1.toNat,st:=5}) (by show (5:Nat)≠1;decide)).symm}
 ·simp only [ne_eq,h1,not_false_eq_true,if_true];rw [ends_err (hp h1)]
  exact fail_sim h (hp h1)
theorem enter_sim (h:R0 p b t s) (hs:s.st=5):R0 p b (t.enter p 4 b.x0) {s with st:=3,rd:=nl p b.x0} where
 e:=h.e
 st:=rfl
 r:=h.r
 out:=h.out
 head:=h.head
 hl:=λe=>ZG e (by show¬(3:Nat)<=1;decide)
 bl:=λe=>ZG e (by show (3:Nat)≠6;decide)
 bl0:=λ_=>h.bl0 ZZ
 left:=λe=>ZG e (by show Hb 3≠true;decide)
 rd:=λ_=>(fresh_of b.x0).nl rfl rfl rfl
 fr:=λe=>ZG e (by show Hb 3≠true;decide)
 lf:=rfl
 cr:=rfl
 most:=λ_=>rfl
 beh:=λe=>ZG e (by show (3:Nat)≠5;decide)
 ch:=by show t.r.ch=decide (3<=3);rw [h.ch,hs];rfl
theorem line_sim (h:R0 p b t s) (ok:t.Ok) (hf:Fresh t.rd) (hc:s.clean=false) (hfr:s.fresh=false) (hn:Hb s.st=false) (ln:List UInt8):RQ p b (ends (t.line p b ln)) (s.ended p b ln):=by
 have h7:=ok.st;have ht:=h.st;have hn2:s.st≠2/\s.st≠4:=by constructor<;> (intro e;rw [e] at hn;exact ZG hn ZX)
 have hcs:s.st=0∨s.st=1∨s.st=3∨s.st=5∨s.st=6:=ZZ;unfold IX Iz;rcases hcs with e | e | e | e | e
 ·rw [ht,e];exact first_sim h hf hc hfr e ln
 ·rw [ht,e];exact fields_sim h ok hf hc hfr e ln
 ·rw [ht,e];exact chunk_sim h hf hc hfr e ln
 ·rw [ht,e];have h1:=enter_sim h e;show RR p b (t.enter p 4 b.x0) {s with st:=3,rd:=nl p b.x0}
  exact {h1 with
   fresh:=hfr.trans (next_body (t:=t.enter p 4 b.x0) (h.beh e)).symm
   clean:=hc.trans (clean_st (t:=t.enter p 4 b.x0) (by show (4:Nat)≠1;decide)).symm}
 ·rw [ht,e];exact trail_sim h hf hc hfr e ln
theorem body_sim (h:R0 p b t s) (ok:t.Ok) (hc:s.clean=false) (hfr:s.fresh=false) (hn:Hb s.st=true) (c:UInt8) :
 RR p b (if t.left=1 then (t.keep c).endData p else t.keep c) (s.bodyB p b c):=by
 have hst:s.st=2∨s.st=4:=by unfold Hb at hn;simpa using hn
 have hl:1<=t.left:=ok.left (by rw [bod h];exact hn);have hle:=h.left hn;have hfr0:=h.fr hn;have hbd:(t.keep c).r.body≠ []:=by show t.r.body ++ [c]≠ [];simp
 have er:({s.r with body:=s.r.body ++ [c]}:Hz)={t.r with body:=t.r.body ++ [c]}:=by rw [h.r]
 have hk:R0 p b (t.keep c) {s with r:={s.r with body:=s.r.body ++ [c]},left:=s.left-1}:={
  e:=h.e
  st:=h.st
  r:=er
  out:=h.out
  head:=h.head
  hl:=h.hl
  bl:=h.bl
  bl0:=h.bl0
  left:=λ_=>by show s.left-1=t.left-1;rw [hle]
  rd:=λe=>h.rd e
  fr:=λ_=>hfr0
  lf:=h.lf
  cr:=h.cr
  most:=h.most
  beh:=λ_=>hbd
  ch:=h.ch}
 unfold S.bodyB;by_cases h1:1<s.left
 ·rw [ZO ZZ];simp only [ZN h1]
  exact {hk with
   fresh:=hfr.trans (next_body hbd).symm
   clean:=hc.trans (clean_st (t:=t.keep c) (by show t.st≠1;have:=h.st;omega)).symm}
 ·rw [ZN ZZ];simp only [ZO h1];unfold T.endData;have e2:(t.keep c).r.ch=t.r.ch:=rfl;rw [e2,h.ch];rcases hst with e | e
  ·simp only [e,Nat.reduceLeDiff,decide_false,AT,if_false,if_true];have:=whole_sim hk hfr0 (by show s.st≠5;omega);rw [e] at this;exact this
  ·simp only [e,Nat.reduceLeDiff,decide_true,if_true,Nat.reduceEqDiff,if_false]
   exact {
    e:=h.e
    st:=rfl
    r:=er
    out:=h.out
    head:=h.head
    hl:=λe=>ZG e (by show¬(5:Nat)<=1;decide)
    bl:=λe=>ZG e (by show (5:Nat)≠6;decide)
    bl0:=λ_=>h.bl0 ZZ
    left:=λe=>ZG e (by show Hb 5≠true;decide)
    rd:=λ_=>⟨rfl,rfl,rfl,rfl,rfl,rfl⟩
    fr:=λe=>ZG e (by show Hb 5≠true;decide)
    lf:=rfl
    cr:=rfl
    most:=λe=>ZG rfl e
    beh:=λ_=>hbd
    ch:=by show t.r.ch=decide (3<=5);rw [h.ch,e];rfl
    fresh:=hfr.trans (next_st (t:=(t.keep c).enter p 6 0) (by show (6:Nat)≠3;decide) (by show (6:Nat)≠4;decide)).symm
    clean:=hc.trans (clean_st (t:=(t.keep c).enter p 6 0) (by show (6:Nat)≠1;decide)).symm}
theorem ended_fresh {m:FJ} {c:UInt8} {n:Int} (hn:m.clear.next c=n) (h:n=1∨n=2):Fresh (m.byte c)/\FS (m.byte c).last=false:=by
 have hl:(m.byte c).last=n:=hn;refine ⟨⟨?_,?_⟩,?_⟩
 ·rw [hl,ZN];rcases h with rfl | rfl<;>rfl
 ·show (m.clear.next c==0&&c==13)=false;rw [hn];rcases h with rfl | rfl<;>rfl
 ·rw [hl];rcases h with rfl | rfl<;>rfl
theorem byte_some {m:FJ} {c:UInt8} (hm:m.next c=0):¬((m.told c).buf= []/\(m.next c==0&&c==13)=false):=by
 rintro ⟨h1,h2⟩;rw [hm] at h2;have hc:c≠13:=by
  intro e;rw [e] at h2;exact ZG h2 ZX
 have hk:m.keeps c=true:=by
  unfold FJ.next at hm;unfold FJ.keeps;by_cases g1:FS m.last=true
  ·simp [g1] at hm
  ·by_cases g2:m.pend=true
   ·by_cases g3:c=10
    ·simp [g1,g2,g3] at hm
    ·by_cases g4:m.cr=true
     ·simp [g1,g2,g3,g4] at hm
     ·simp [g1,g2,g3,g4] at hm
   ·by_cases g3:c=10
    ·by_cases g4:m.lf=true
     ·simp [g1,g2,g3,g4] at hm
     ·simp [g1,g2,g3,g4] at hm
    ·by_cases g5:m.buf.length=m.most
     ·simp [g1,g2,g3,hc,g5] at hm
     ·simp [g1,g2,g3,hc,g5]
 have:(m.told c).buf=m.buf ++ [c]:=by show m.buf++(if m.keeps c then [c] else [])= _;rw [ZN hk]
 rw [this] at h1;simp at h1
theorem more_new {c:UInt8} (hn:t.rd.clear.next c=0):({t with rd:=t.rd.byte c}:T).isNew=false:=by
 have h:=byte_some (m:=t.rd.clear) hn;have e1:(t.rd.byte c).len=(t.rd.clear.told c).buf.length:=by unfold FJ.len;have hl:(t.rd.byte c).last=0:=hn;rw [hl];rfl
 have e2:(t.rd.byte c).pend=(t.rd.clear.next c==0&&c==13):=rfl;unfold T.isNew;rw [Bool.eq_false_iff];intro hh;rw [AM,ZJ,AX] at hh;exact h ⟨DX (e1 ▸ hh.1),e2 ▸ hh.2⟩
theorem next_new (h:t.isNew=false):t.next=false:=by unfold T.next;rw [h,AN,AN]
theorem step_sim (h:R0 p b t s) (hn:Hb s.st=false) (ok:t.Ok) (c:UInt8) :
 s.rd.how c=t.rd.clear.next c/\(FS (t.rd.clear.next c)=false->
  R0 p b {t with rd:=t.rd.byte c} {s with fresh:=false,rd:=s.rd.byte c}/\({t with rd:=t.rd.byte c}:T).Ok/\(s.rd.byte c).L=(t.rd.byte c).line):=by
 obtain ⟨h1,h2⟩:=(h.rd hn).step ok.rd ok.nf c;refine ⟨h1,λhf=>?_⟩;obtain ⟨h3,h4⟩:=h2 hf
 exact ⟨{
  e:=h.e
  st:=h.st
  r:=h.r
  out:=h.out
  head:=h.head
  hl:=h.hl
  bl:=h.bl
  bl0:=h.bl0
  left:=h.left
  rd:=λ_=>h3
  fr:=λe=>ZG (hn.symm.trans e) ZX
  lf:=h.lf
  cr:=h.cr
  most:=h.most
  beh:=h.beh
  ch:=h.ch},ok.byteR c hf,h4⟩
theorem nextM_is (m:FJ) (c:UInt8) (hp:m.pend=false):m.next c≠2:=by
 unfold FJ.next;split
 ·decide
 ·rw [hp];simp only [AT,if_false];split
  ·split<;>decide
  ·split
   ·decide
   ·split<;>decide
theorem took_sim (h:R0 p b t s) (hn:Hb s.st=false) (ok:t.Ok) (hc:s.clean=false) (c:UInt8) {n:Int} (hnx:t.rd.clear.next c=n) :
 s.rd.how c=n/\(n=0->RR p b {t with rd:=t.rd.byte c} {s with fresh:=false,rd:=s.rd.byte c})/\
 (n=1∨n=2->RQ p b (ends (({t with rd:=t.rd.byte c}:T).line p b (t.rd.byte c).line)) (({s with fresh:=false,rd:=s.rd.byte c}:S).ended p b (s.rd.byte c).L)):=by
 obtain ⟨k1,k2⟩:=step_sim h hn ok c;rw [hnx] at k1 k2;refine ⟨k1,λh0=>?_,λh12=>?_⟩
 ·obtain ⟨k3,k4,k5⟩:=k2 (by rw [h0];rfl)
  have hw:=more_new (t:=t) (c:=c) (hnx.trans h0)
  exact {k3 with
   fresh:=(next_new hw).symm
   clean:=by
    show s.clean= _
    rw [hw,AN];exact hc}
 ·obtain ⟨k3,k4,k5⟩:=k2 (by rcases h12 with e | e<;> (rw [e];rfl));have hf:=(ended_fresh hnx h12).1;rw [k5];exact line_sim k3 k4 hf hc rfl hn _
theorem plain_sim (h:R0 p b t s) (hn:Hb s.st=false) (ok:t.Ok) (hc:s.clean=false) (hp:t.rd.pend=false) (h6:t.st≠6) (c:UInt8) :
 RQ p b (t.inLine p b c).1 (s.plain p b c):=by
 have hn':¬Hb s.st=true:=by rw [hn];decide
 obtain ⟨n,hnx⟩:∃n,t.rd.clear.next c=n:=⟨_,rfl⟩;obtain ⟨k1,k2,k3⟩:=took_sim h hn ok hc c hnx;have h2:n≠2:=by rw [←hnx];exact nextM_is t.rd.clear c hp
 have his:=FJ.next_is t.rd.clear c;rw [hnx] at his;have h6':(t.st==6)=false:=ZM.2 h6;unfold IW I6;simp only [ZO hn',k1,hnx,h6',AS,AT,if_false];rcases his with e | e | e | e | e
 ·subst e;exact k2 rfl
 ·subst e
  exact k3 (.inl rfl)
 ·exact ZG e h2
 ·subst e;exact ⟨rfl,ZX,h.out,rfl⟩
 ·subst e;obtain ⟨g1,g2⟩:=long_sim h;simp only [Int.reduceEq,if_false,if_true];rw [g1];exact ⟨rfl,g2,h.out,rfl⟩
theorem line_cnt (ln:List UInt8) :
 ((t.line p b ln).2.cnt=t.cnt/\(t.line p b ln).2.size=t.size/\((t.line p b ln).2.st=1->t.st=1)/\((t.line p b ln).2.st=2->t.st=1∨t.st=2))∨
 ((t.line p b ln).2.cnt=false/\(t.line p b ln).2.size=0/\(t.line p b ln).2.st=1/\t.st≠1):=by
 unfold IX;by_cases h1:t.st=1
 ·left;simp only [ZN h1];unfold T.first;split
  ·exact ⟨rfl,rfl,λ_=>h1,λ_=>.inl h1⟩
  ·simp only;split
   ·exact ⟨rfl,rfl,λ_=>h1,λ_=>.inl h1⟩
   ·exact ⟨rfl,rfl,λ_=>h1,λ_=>.inl h1⟩
 simp only [ZO h1];by_cases h2:t.st=2
 ·simp only [ZN h2];unfold T.fields;by_cases hs:ln= []
  ·simp only [ZN hs];unfold IT;generalize Ct (Cp p) b.ch b.x3 t.r.k t.r.fs=d;simp only;split
   ·exact .inl ⟨rfl,rfl,λe=>ZG (h2.symm.trans e) ZX,λ_=>.inr h2⟩
   ·split
    ·exact .inl ⟨rfl,rfl,λe=>ZG e (by show (4:Nat)≠1;decide),λ_=>.inr h2⟩
    ·split
     ·exact .inr ⟨rfl,rfl,rfl,h1⟩
     ·exact .inl ⟨rfl,rfl,λe=>ZG e (by show (3:Nat)≠1;decide),λ_=>.inr h2⟩
  ·simp only [ZO hs];exact .inl ⟨by trivial,by trivial,λe=>e,λ_=>.inr h2⟩
 simp only [ZO h2];by_cases h4:t.st=4
 ·left;simp only [ZN h4];unfold IQ;simp only;split
  ·exact ⟨rfl,rfl,λe=>ZG (h4.symm.trans e) ZX,λe=>ZG (h4.symm.trans e) ZX⟩
  ·split
   ·exact ⟨rfl,rfl,λe=>ZG e (by show (7:Nat)≠1;decide),λe=>ZG e (by show (7:Nat)≠2;decide)⟩
   ·split
    ·exact ⟨rfl,rfl,λe=>ZG (h4.symm.trans e) ZX,λe=>ZG (h4.symm.trans e) ZX⟩
    ·exact ⟨rfl,rfl,λe=>ZG e (by show (5:Nat)≠1;decide),λe=>ZG e (by show (5:Nat)≠2;decide)⟩
 simp only [ZO h4];by_cases h7:t.st=7
 ·simp only [ZN h7];unfold T.trail;by_cases hs:ln= []
  ·simp only [ZN hs];exact .inr ⟨rfl,rfl,rfl,h1⟩
  ·simp only [ZO hs];exact .inl ⟨by trivial,by trivial,λe=>e,λe=>ZG e h2⟩
 simp only [ZO h7];exact .inl ⟨rfl,rfl,λe=>ZG e (by show (4:Nat)≠1;decide),λe=>ZG e (by show (4:Nat)≠2;decide)⟩
theorem R0.of_counted (h:R0 p b t s) (hc:t.cnt=false):R0 p b t.counted {s with head:=s.head+1,clean:=false}:=by
 have e:t.counted={t with cnt:=true,size:=t.size+1}:=by unfold T.counted;rw [hc];rfl
 rw [e];exact ⟨h.e,h.st,h.r,h.out,ZH (·+1) h.head,h.hl,h.bl,h.bl0,h.left,h.rd,h.fr,h.lf,h.cr,h.most,h.beh,h.ch⟩
theorem R0.dirty (h:R0 p b t s):R0 p b t {s with clean:=false}:=⟨h.e,h.st,h.r,h.out,h.head,h.hl,h.bl,h.bl0,h.left,h.rd,h.fr,h.lf,h.cr,h.most,h.beh,h.ch⟩
theorem RQ.err {e:Nat} {o:List Hz} (h:RQ p b (.dead e o) s):s.e≠0:=by obtain ⟨h1,h2, -, -⟩:=h;rw [h1];exact h2
theorem look_count (h:R0 p b t s) (ok:t.Ok) (hb:b.right=true) (hc:t.cnt=false) (hh:Hc s.st=true) (hp:t.rd.pend=false) (h6:t.st≠6) (c:UInt8) :
 RQ p b (t.look p b c).1 (s.count b (λs=>s.plain p b c)):=by
 have hbd:Hb s.st=false:=by
  unfold Hc at hh;unfold Hb;simp only [Bc,ZI] at hh
  rcases hh with (e | e) | e<;> (rw [e];rfl)
 have hb':Pg.bodied t.st=false:=(bod h).trans hbd;have hh':Hh t.st=true:=(hed h).trans hh;have h1:=h.of_counted hc;have esz:t.counted.size=s.head+1:=h1.head.symm;have eS:s.count b (λs=>s.plain p b c)=if b.x2<((s.head+1:Nat):Int) then S.fail {s with head:=s.head+1} 431 else ({s with head:=s.head+1,clean:=false}:S).plain p b c:=by unfold S.count;rw [ZO (λhn=>hn h.e),ZN hh]
 rw [eS];unfold T.look;rw [ZO (by rw [hb'];decide),ZN hh',esz]
 by_cases hx:b.x2<((s.head+1:Nat):Int)
 ·rw [ZN hx,ZN hx];exact ⟨rfl,ZX,h.out,rfl⟩
 ·rw [ZO hx,ZO hx];have hok:t.counted.Ok:=ok.counted hb (by rw [esz];exact hx);exact plain_sim h1 hbd hok rfl (by rw [counted_rd];exact hp) (by rw [counted_st];exact h6) c
theorem look_plain (h:R0 p b t s) (ok:t.Ok) (hh:Hh t.st=true->t.cnt=true/\¬b.x2<(t.size:Int)) (hc:s.clean=false) (hp:t.rd.pend=false) (h6:t.st≠6) (c:UInt8) :
 RQ p b (t.look p b c).1 (s.plain p b c):=by
 unfold T.look;by_cases hbd:Hb s.st=true
 ·rw [ZN ((bod h).trans hbd)];unfold I6;simp only [ZN hbd];exact body_sim (s:={s with fresh:=false}) {h with} ok hc rfl hbd c
 ·have hb':Hb s.st=false:=by simpa using hbd
  rw [ZO (by rw [bod h];exact hbd)];by_cases h2:Hh t.st=true
  ·obtain ⟨e1,e2⟩:=hh h2;have e3:t.counted=t:=by unfold T.counted;rw [ZN e1]
   rw [ZN h2,e3,ZO e2];exact plain_sim h hb' ok hc hp h6 c
  ·rw [ZO h2];exact plain_sim h hb' ok hc hp h6 c
theorem again_sim {t1 t2:T} {s2:S} (h:RR p b t2 s2) (ok2:t2.Ok) (hb:b.right=true) (hp:t2.rd.pend=false) (h6:t2.st≠6) {was:Nat} (hw:t1.st=was+1)
 (hcnt:t1.cnt=Hc was) (hsz:Hc was=true->¬b.x2<(t1.size:Int)) {ln:List UInt8} (he:t1.line p b ln=(0,t2)) (c:UInt8) :
 RQ p b (t2.look p b c).1 (s2.again p b c was):=by
 have hl:=line_cnt (p:=p) (b:=b) (t:=t1) ln;rw [he] at hl;simp only at hl;have hst:=h.st;unfold It;by_cases hA:s2.st=0/\was≠0
 ·rw [ZN (by simp [hA.1,hA.2])];rcases hl with ⟨-, -,k, -⟩ | ⟨k, -, -, -⟩
  ·have:=k ZZ;omega
  ·exact look_count h.toR0 ok2 hb k (by rw [hA.1];rfl) hp h6 c
 ·rw [ZO (by
   intro hh;rw [AM,ZI,AX,ZM] at hh
   exact hA hh)]
  simp only;by_cases hB:Hc was=false/\s2.st=6
  ·rw [ZN (by simp [hB.1,hB.2])];have k:t2.cnt=false:=by
    rcases hl with ⟨k, -, -, -⟩ | ⟨k, -, -, -⟩
    ·rw [k,hcnt];exact hB.1
    ·exact k
   exact look_count (s:={s2 with clean:=false}) h.toR0.dirty ok2 hb k (by show Hc s2.st=true;rw [hB.2];rfl) hp h6 c
  ·rw [ZO (by
    intro hh;rw [AM,ZI,AX] at hh
    exact hB hh)]
   refine look_plain h.toR0.dirty ok2 (λhh=>?_) rfl hp h6 c;have hh2:Hc s2.st=true:=(hed h.toR0).symm.trans hh;have hwas:Hc was=true/\t2.cnt=t1.cnt/\t2.size=t1.size:=by
    rcases hl with ⟨k1,k2,k3,k4⟩ | ⟨-, -,k3,k4⟩
    ·refine ⟨?_,k1,k2⟩;unfold Hc at hh2;simp only [Bc,ZI] at hh2;rcases hh2 with (e | e) | e
     ·have:=k3 ZZ;have:was=0:=by omega
      rw [this];rfl
     ·rcases k4 ZZ with e1 | e1
      ·have:was=0:=by omega
       rw [this];rfl
      ·have:was=1:=by omega
       rw [this];rfl
     ·cases hw2:Hc was with
      | true=>rfl
      | false=>exact ZG ⟨hw2,e⟩ hB
    ·exact ZG ⟨ZZ,ZZ⟩ hA
   obtain ⟨g1,g2,g3⟩:=hwas;exact ⟨by rw [g2,hcnt];exact g1,by rw [g3];exact hsz g1⟩
theorem ends_cases {x:Nat × T} {q:Q} (h:ends x=q):(∃t2,x=(0,t2)/\q=.live t2)∨∃e o,q=.dead e o:=by
 unfold ends at h;split at h
 ·rename_i h0;exact .inl ⟨x.2,Prod.ext h0 rfl,h.symm⟩
 ·exact .inr ⟨_,_,h.symm⟩
theorem byte1_sim {t0:T} (h:R0 p b t0 s) (hn:Hb s.st=false) (ok:t0.Ok) (hb:b.right=true) (hc:s.clean=false) (hcnt:t0.cnt=Hc s.st) (hsz:Hc s.st=true->¬b.x2<(t0.size:Int)) (c:UInt8) :
 RQ p b (match t0.inLine p b c with
  |(.live t1,false)=>(t1.look p b c).1
  |(x,_)=>x) (s.byte1 p b c):=by
 have hn':¬Hb s.st=true:=by rw [hn];decide
 have hb0:Pg.bodied t0.st=false:=(bod h).trans hn;obtain ⟨n,hnx⟩:∃n,t0.rd.clear.next c=n:=⟨_,rfl⟩;obtain ⟨k1,k2,k3⟩:=took_sim h hn ok hc c hnx;have his:=FJ.next_is t0.rd.clear c;rw [hnx] at his;have e5:(t0.st==6)=(s.st==5):=by rw [AR,ZI,ZI,h.st];omega
 have hag:∀t',t0.inLine p b c=(.live t',false)->t'.rd.pend=false/\t'.st≠6:=λt'=>inLine_again hb0 c;have hok:∀t' u,t0.inLine p b c=(.live t',u)->t'.Ok:=λt' u e=>ok.inLine hb c (by rw [e]);unfold S.byte1;simp only [ZO hn',k1];unfold IW at hag hok ⊢;simp only [hnx,e5] at hag hok ⊢;rcases his with e | e | e | e | e
 ·subst e;exact k2 rfl
 ·subst e;simp only [Int.reduceEq,if_false,Int.reduceBEq,Bool.not_false] at hag hok ⊢;have k4:=k3 (.inl rfl);generalize ends (IX p b {t0 with rd:=t0.rd.byte c} (t0.rd.byte c).line)=q at k4 ⊢;cases q<;>exact k4
 ·subst e;have k4:=k3 (.inr rfl);simp only [Int.reduceEq,if_false,if_true,BEq.rfl,Bool.not_true] at hag hok ⊢;generalize hq:ends (IX p b {t0 with rd:=t0.rd.byte c} (t0.rd.byte c).line)=q at hag hok k4 ⊢;generalize hs2:Iz p b {s with fresh:=false,rd:=s.rd.byte c} (s.rd.byte c).L=s2 at k4 ⊢;rcases ends_cases hq with ⟨t2,g1,rfl⟩ | ⟨e,o,rfl⟩
  ·have k5:RR p b t2 s2:=k4;simp only;rw [ZN k5.e];obtain ⟨g2,g3⟩:=hag t2 rfl;exact again_sim k5 (hok t2 false rfl) hb g2 g3 (t1:={t0 with rd:=t0.rd.byte c}) h.st hcnt hsz g1 c
  ·simp only;rw [ZO k4.err];exact k4
 ·subst e;exact ⟨rfl,ZX,h.out,rfl⟩
 ·subst e;obtain ⟨g1,g2⟩:=long_sim h;simp only [Int.reduceEq,if_false,if_true] at hag hok ⊢;by_cases hce:(s.st==5&&Hs p 29)=true
  ·simp only [ZN hce] at hag hok ⊢;have hs5:s.st=5:=by
    rw [AM,ZI] at hce;exact hce.1
   obtain ⟨g3,g4⟩:=hag _ rfl;have he:=enter_sim (t:=t0) (s:={s with fresh:=false}) {h with} hs5;exact look_plain he (hok _ _ rfl) (λhh=>ZG hh (by show Hh 4≠true;decide)) hc g3 g4 c
  ·simp only [ZO hce];rw [g1];exact ⟨rfl,g2,h.out,rfl⟩
theorem take_sim (h:RR p b t s) (ok:t.Ok) (hb:b.right=true) (c:UInt8):RQ p b (t.take p b c) (s.byte p b c):=by
 have h0:R0 p b ({t with cnt:=false}:T) {s with clean:=false}:=⟨h.e,h.st,h.r,h.out,h.head,h.hl,h.bl,h.bl0,h.left,h.rd,h.fr,h.lf,h.cr,h.most,h.beh,h.ch⟩;have ok0:({t with cnt:=false}:T).Ok:=ok.cleared;unfold T.take S.byte S.count;rw [ZO (λhn=>hn h.e)];unfold T.look;have hbe:Pg.bodied ({t with cnt:=false}:T).st=Hb s.st:=bod (t:=t) h.toR0;have hhe:Hh ({t with cnt:=false}:T).st=Hc s.st:=hed (t:=t) h.toR0;rw [hbe,hhe];by_cases hbd:Hb s.st=true
 ·have hnh:¬Hc s.st=true:=by
   unfold Hb at hbd;unfold Hc;simp only [Bc,ZI] at hbd ⊢;omega
  rw [ZN hbd,ZO hnh];have e1:({s with clean:=false}:S).byte1 p b c=({s with fresh:=false,clean:=false}:S).bodyB p b c:=by unfold S.byte1;simp only [ZN hbd]
  simp only [e1];exact body_sim (s:={s with fresh:=false,clean:=false}) {h0 with} ok0 rfl rfl hbd c
 ·have hbd':Hb s.st=false:=by simpa using hbd
  rw [ZO hbd];by_cases hh:Hc s.st=true
  ·rw [ZN hh,ZN hh];have h1:R0 p b ({t with cnt:=false}:T).counted {s with head:=s.head+1,clean:=false}:=h0.of_counted rfl;have esz:({t with cnt:=false}:T).counted.size=s.head+1:=h1.head.symm;rw [esz]
   by_cases hx:b.x2<((s.head+1:Nat):Int)
   ·rw [ZN hx,ZN hx];exact ⟨rfl,ZX,h.out,rfl⟩
   ·rw [ZO hx,ZO hx];have hok:=ok0.counted hb (by rw [esz];exact hx);exact byte1_sim h1 hbd' hok hb rfl hh.symm (λ_=>by rw [esz];exact hx) c
  ·rw [ZO hh,ZO hh];have hh':Hc s.st=false:=by simpa using hh
   exact byte1_sim h0 hbd' ok0 hb rfl hh'.symm (λe=>ZG e hh) c
def Q.Fine (b:Bd):Q->Prop
 | .live t=>t.Ok/\b.right=true
 | .dead _ _=>True
theorem Q.Fine.byte {x:Q} (h:x.Fine b) (c:UInt8):(x.byte p b c).Fine b:=by
 cases x with
 | live t=>
   show (t.take p b c).Fine b;cases hq:t.take p b c with
   | live t'=>exact ⟨h.1.take h.2 c hq,h.2⟩
   | dead e o=>trivial
 | dead e o=>trivial
theorem byte_sim {x:Q} (h:RQ p b x s) (ok:x.Fine b) (c:UInt8):RQ p b (x.byte p b c) (s.byte p b c):=by
 cases x with
 | live t=>exact take_sim h ok.1 ok.2 c
 | dead e o=>
   rw [S.byte_dead h.err];exact h
theorem feed_sim (l:List UInt8):∀{x:Q} {s:S},RQ p b x s->x.Fine b->RQ p b (x.feed p b l) (s.feed p b l)/\(x.feed p b l).Fine b:=by
 induction l with
 | nil=>intro x s h ok;exact ⟨h,ok⟩
 | cons c l ih=>intro x s h ok;exact ih (byte_sim h ok c) (ok.byte c)
theorem new_sim:RQ p b (Q.new p b) (S.new p b):=by
 unfold Q.new S.new;by_cases h:(b.right&&decide (p<1073741824))=true
 ·rw [ZN h,ZN h]
  exact {
   e:=rfl
   st:=rfl
   r:=rfl
   out:=rfl
   head:=rfl
   hl:=λ_=>rfl
   bl:=λe=>ZG e (by show (0:Nat)≠6;decide)
   bl0:=λ_=>rfl
   left:=λe=>ZG e (by show Hb 0≠true;decide)
   rd:=λ_=>⟨rfl,rfl,rfl,rfl,rfl,rfl⟩
   fr:=λe=>ZG e (by show Hb 0≠true;decide)
   lf:=rfl
   cr:=rfl
   most:=λ_=>rfl
   beh:=λe=>ZG e (by show (0:Nat)≠5;decide)
   ch:=rfl
   fresh:=rfl
   clean:=rfl}
 ·rw [ZO h,ZO h];exact ⟨rfl,ZX,rfl,rfl⟩
theorem said_sim {x:Q} (h:RQ p b x s) (ok:x.Fine b):s.e=x.err/\s.out=x.out/\s.waits=x.waits/\s.held=x.held/\s.clean=x.clean:=by
 cases x with
 | live t=>
   refine ⟨h.e,h.out,?_,?_,h.clean⟩
   ·show (decide (s.e=0)&&(s.fresh&&Rec.expects s.r))=(t.next&&Rec.expects t.r);rw [h.e,h.fresh,h.r];rfl
   ·show (if s.e=0 then Rec.size s.r+(if Hb s.st=true then 0 else s.rd.B.length) else 0)=t.rd.len+Rec.size t.r;rw [ZN h.e,h.r];by_cases hb:Hb s.st=true
    ·rw [ZN hb];have:=(h.fr hb).isNew;unfold T.isNew at this;rw [AM,ZJ] at this;rw [this.1];omega
    ·rw [ZO hb];have h1:=(h.rd (by simpa using hb)).B;have:s.rd.B.length=t.rd.len:=by
      rw [h1];unfold FJ.len;split<;>rfl
     omega
 | dead e o=>
   obtain ⟨h1,h2,h3,h4⟩:=h;refine ⟨h1,h3,?_,?_,h4⟩
   ·show (decide (s.e=0) && _)=false;rw [ZL (by rw [h1];exact h2),AS]
   ·show (if s.e=0 then _ else 0)=0;rw [ZO (by rw [h1];exact h2)]
theorem told_sim {x:Q} (h:RQ p b x s):RQ p b x.told {s with out:= []}:=by
 cases x with
 | live t=>exact ⟨⟨h.e,h.st,h.r,rfl,h.head,h.hl,h.bl,h.bl0,h.left,h.rd,h.fr,h.lf,h.cr,h.most,h.beh,h.ch⟩,h.fresh,h.clean⟩
 | dead e o=>
   obtain ⟨h1,h2, -,h4⟩:=h;exact ⟨h1,h2,rfl,h4⟩
theorem told_fine {x:Q} (h:x.Fine b):x.told.Fine b:=by
 cases x with
 | live t=>exact ⟨⟨h.1.rd,h.1.nf,h.1.st,h.1.hl,h.1.bl,h.1.fsl,h.1.tsl,h.1.fss,h.1.tss,h.1.m,h.1.x,h.1.body,h.1.left,h.1.early,h.1.size⟩,h.2⟩
 | dead e o=>trivial
end
end Pg
namespace Each
open Base
abbrev Fact:=Value->World->Prop
def Lasts (f:Fact):Prop:=∀v w w',Below w.heap.size w w'->f v w->f v w'
def has (l:List Oper) (fs:List Fact) (ev:Operand->Value) (w:World):List Edge->Prop
 | []=>True
 | e::es=>(if Ii .any e=true then (match l[e.on]?,fs[e.on]? with
    | some o,some f=>(match o.dst with
      | some d=>f (ev (.tmp d)) w
      | none=>True)
    | _,_=>True) else True)/\has l fs ev w es
def one (l:List Oper) (fs:List Fact) (ev:Operand->Value) (w:World):Option Edge->Prop
 | some e=>(if Ii .any e=true then (match l[e.on]?,fs[e.on]? with
    | some o,some f=>(match o.dst with
      | some d=>f (ev (.tmp d)) w
      | none=>True)
    | _,_=>True) else True)
 | none=>True
theorem has.at {l:List Oper} {fs:List Fact} {ev:Operand->Value} {w:World}:∀{es:List Edge},has l fs ev w es->∀n:Nat,one l fs ev w es[n]?
 | [],_,n=>by simp [one]
 | e::es,h,0=>by simpa [one] using h.1
 | e::es,h,n+1=>by simpa using has.at h.2 n
def yld (l:List Oper) (ev:Operand->Value) (j:Nat):Option Bool:=
 match (l[j]?).bind (·.dst) with
 | some d=>(match ev (.tmp d) with
   | .bool b=>some b
   | _=>none)
 | none=>none
structure Reads (a0:Act) (ds:List Nat) (ev:Operand->Value):Prop where
 const:∀v,ev (.const v)=v
 func:∀f,ev (.func f)=.func (.func f) #[] #[]
 global:∀g,ev (.global g)=ZA (some ⟨g,0,none⟩)
 old:∀s,ds.contains s=false->ev (.tmp s)=a0.tmps.getD s undef
inductive Goes (P:Program) (o:Oper) (ev:Operand->Value) (f:Fact) (w:World):Prop
 | value (v:Value) (w':World) (h:(execOp ev o).run P w=.ok (.value v) w') (hb:Below w.heap.size w w') (hf:f v w'):Goes P o ev f w
 | enter (g:FuncId) (args:Array Value) (h:(execOp ev o).run P w=.ok (.enter g args) w) (hc:Calls P g args w λe w'=>∃v,e=.returned v/\Below w.heap.size w w'/\f v w'):Goes P o ev f w
inductive GoesR (P:Program) (o:Oper) (ev:Operand->Value) (f:Fact) (R:World->World->Prop) (w:World):Prop
 | value (v:Value) (w':World) (h:(execOp ev o).run P w=.ok (.value v) w') (hb:R w w') (hf:f v w'):GoesR P o ev f R w
 | enter (g:FuncId) (args:Array Value) (h:(execOp ev o).run P w=.ok (.enter g args) w) (hc:Calls P g args w λe w'=>∃v,e=.returned v/\R w w'/\f v w'):GoesR P o ev f R w
theorem Goes.gen {P:Program} {o:Oper} {ev:Operand->Value} {f:Fact} {w:World} (h:Goes P o ev f w) {R:World->World->Prop} (hR:∀w',Below w.heap.size w w'->R w w'):GoesR P o ev f R w:=by
 cases h with
 | value v w' hrun hb hfv=>exact .value v w' hrun (hR _ hb) hfv
 | enter g args hrun hc=>
   refine .enter g args hrun (hc.mono ?_);rintro e w' ⟨v,rfl,hb,hfv⟩;exact ⟨v,rfl,hR _ hb,hfv⟩
def FineR (P:Program) (l:List Oper) (fs:List Fact) (R:Nat->World->World->Prop) (K:Array Bool->World->Prop) (a0:Act) (ds:List Nat) (k:Nat) (o:Oper) (f:Fact):Prop:=
 ∀(ev:Operand->Value) (b:Array Bool) (w:World),Reads a0 ds ev->K b w->b.getD k false=false->has l fs ev w o.after.toList->
  (Il o (yld l ev)=true->GoesR P o ev f (R k) w)/\(Il o (yld l ev)=false->f undef w)
def Fine (P:Program) (l:List Oper) (fs:List Fact) (W:World) (a0:Act) (ds:List Nat) (o:Oper) (f:Fact):Prop:=
 ∀(ev:Operand->Value) (w:World),Reads a0 ds ev->Below W.heap.size W w->has l fs ev w o.after.toList->
  (Il o (yld l ev)=true->Goes P o ev f w)/\(Il o (yld l ev)=false->f undef w)
def marks (l:List Oper):Nat->Array Bool->Array Bool
 | 0,b=>b
 | k+1,b=>marks l k (if b.getD k false=true then (match l[k]? with
    | some o=>o.after.toList.foldl (λb e=>if Ii .any e=true then b.setIfInBounds e.on true else b) b
    | none=>b) else b)
def fill (n m:Nat) (lm:List Bool):Array Bool:=((Fy n).map λi=>decide (i<m) && !lm.getD i false).toArray
def good (l:List Oper) (m:Nat) (ds:List Nat) (lm:List Bool) (r:Nat):Bool:=
 decide (m<=l.length)&&(decide ((l.take m).map (·.dst)=ds.map some)&&(decide ds.Nodup &&
 ((Fy l.length).all (λk=>match l[k]? with
   | some o=>o.after.toList.all λe=>!Region.binds .any e|| (decide (e.on<k)&&(lm.getD k false||decide (m<=k) || !lm.getD e.on false))
   | none=>true) &&
 ((Fy l.length).all (λi=>(decide (i<m) && !lm.getD i false)|| (Fy m).all λk=>lm.getD k false|| (marks l l.length ((As l.length false).setIfInBounds i true)).getD k false) &&
 decide ((Fy m).countP (λk=>!lm.getD k false)+r<=l.length)))))
def putg (g:Nat->Value):List Nat->Act->Act
 | [],a=>a
 | d::ds,a=>putg g ds (a.put (some d) (g d))
def fone (g:Nat->Value) (w:World):Option Nat->Option Fact->Prop
 | some d,some f=>f (g d) w
 | _,_=>True
def facts (g:Nat->Value) (w:World):List Nat->List Fact->Prop
 | d::ds,f::fs=>f (g d) w/\facts g w ds fs
 | _,_=>True
theorem facts.at {g:Nat->Value} {w:World}:∀{ds:List Nat} {fs:List Fact},facts g w ds fs->∀n:Nat,fone g w ds[n]? fs[n]?
 | [],_,_,n=>by simp [fone]
 | _ :: _,[],_,n=>by simp [fone]
 | _ :: _,_ :: _,h,0=>by simpa [fone] using h.1
 | _ :: _,_ :: _,h,n+1=>by simpa using facts.at h.2 n
section
variable {P:Program} {l:List Oper} {Q:Exit->Act->World->Prop} {fs:List Fact} {W:World} {a0:Act} {m:Nat} {ds:List Nat} {lm:List Bool} {r:Nat} {K:Array Bool->World->Prop} {R:Nat->World->World->Prop}
structure Inv (l:List Oper) (fs:List Fact) (K:Array Bool->World->Prop) (a0:Act) (m:Nat) (ds:List Nat) (lm:List Bool) (b:Array Bool) (a:Act) (w:World):Prop where
 bel:K b w
 size:a.tmps.size=a0.tmps.size
 defs:a.defers=a0.defers
 old:∀s,s∉ds->a.tmps[s]?=a0.tmps[s]?
 fact:∀(k d:Nat) (f:Fact),ds[k]?=some d->fs[k]?=some f->b.getD k false=true->f (a.eval (.tmp d)) w
 down:∀(k:Nat) (o:Oper),l[k]?=some o->b.getD k false=true->∀e∈o.after.toList,Ii .any e=true->b.getD e.on false=true
 bsize:b.size=l.length
 rest:∀k,m<=k∨lm.getD k false=true->b.getD k false=false
theorem get_set (b:Array Bool) (i k:Nat) (hi:i<b.size):(b.setIfInBounds i true).getD k false=if k=i then true else b.getD k false:=by
 by_cases h:k=i
 ·subst h;simp [Am,hi]
 ·have h':¬i=k:=λe=>h e.symm;simp [Am,h,h']
theorem get_set_sub (b:Array Bool) (i k:Nat) (h:(b.setIfInBounds i true).getD k false=true):k=i∨b.getD k false=true:=by
 rcases Gp i b.size with hi | hi
 ·rw [get_set b i k hi] at h;by_cases hk:k=i
  ·exact .inl hk
  ·rw [ZO hk] at h;exact .inr h
 ·rw [Array.setIfInBounds_eq_of_size_le hi] at h;exact .inr h
theorem fold_sub (b0:Array Bool) (p:Nat->Prop) (es:List Edge) (hp:∀k,b0.getD k false=true->p k) (he:∀e∈es,Ii .any e=true->p e.on) :
 ∀k,(es.foldl (λb e=>if Ii .any e=true then b.setIfInBounds e.on true else b) b0).getD k false=true->p k:=by
 induction es generalizing b0 with
 | nil=>exact hp
 | cons e es ih=>
   rw [List.foldl_cons];refine ih _ ?_ (λx hx=>he x (by simp [hx]));intro k hk;by_cases hb:Ii .any e=true
   ·rw [ZN hb] at hk;rcases get_set_sub _ _ _ hk with rfl | h
    ·exact he e ZW hb
    ·exact hp k h
   ·rw [ZO hb] at hk;exact hp k hk
theorem marks_sub (b:Array Bool) (hdown:∀(k:Nat) (o:Oper),l[k]?=some o->b.getD k false=true->∀e∈o.after.toList,Ii .any e=true->b.getD e.on false=true) :
 ∀(n:Nat) (i:Nat) (c:Array Bool),(∀k,c.getD k false=true->k=i∨b.getD k false=true)->(∀o,l[i]?=some o->∀e∈o.after.toList,Ii .any e=true->b.getD e.on false=true)->
  ∀k,(marks l n c).getD k false=true->k=i∨b.getD k false=true
 | 0,_,_,h,_=>h
 | n+1,i,c,h,hi=>by
   rw [marks];refine marks_sub b hdown n i _ ?_ hi;by_cases hc:c.getD n false=true
   ·rw [ZN hc];cases ho:l[n]? with
    | none=>exact h
    | some o=>
      refine fold_sub c (λk=>k=i∨b.getD k false=true) _ h ?_;intro e he hb;rcases h n hc with rfl | hn
      ·exact .inr (hi o ho e he hb)
      ·exact .inr (hdown n o ho hn e he hb)
   ·rw [ZO hc];exact h
theorem count_less (p:Nat->Bool) (i:Nat) (hi:p i=true):∀xs:List Nat,i∈xs->xs.countP (λk=>p k && !(k==i))+1<=xs.countP p
 | [],h=>by simp at h
 | x::xs,h=>by
   have hle:∀ys:List Nat,ys.countP (λk=>p k && !(k==i))<=ys.countP p:=λys=>List.countP_mono_left (λk _ hk=>by simp at hk;exact hk.1);by_cases hx:x=i
   ·subst hx;rw [List.countP_cons,List.countP_cons];have:=hle xs;simp [hi];omega
   ·have hm:i∈xs:=by
     rcases Fk.1 h with h | h
     ·exact ZG h.symm hx
     ·exact h
    have ih:=count_less p i hi xs hm;rw [List.countP_cons,List.countP_cons];have hne:(x==i)=false:=by simp [hx]
    rw [hne];simp only [Bool.not_false,AO];omega
theorem wpAnyH_more {ops:Array Oper} {S:World->Prop}:∀(n:Nat) (b:Array Bool) (a:Act) (w:World),wpAnyH P .any ops Q S n b a w->wpAnyH P .any ops Q S (n+1) b a w
 | 0,_,_,_,h=>⟨λ_=>h.2,by rw [h.1];simp⟩
 | n+1,_,_,_,h=>⟨h.1,λi hi=>wpOp_mono (λa' w' h'=>⟨h'.1,wpAnyH_more n _ a' w' h'.2⟩) (h.2 i hi)⟩
theorem wpAnyH_up {ops:Array Oper} {S:World->Prop} (n:Nat):∀(k:Nat) (b:Array Bool) (a:Act) (w:World),wpAnyH P .any ops Q S n b a w->wpAnyH P .any ops Q S (n+k) b a w
 | 0,_,_,_,h=>h
 | k+1,b,a,w,h=>wpAnyH_more (n+k) b a w (wpAnyH_up n k b a w h)
theorem yielded_eval (a:Act) (j:Nat):yielded l.toArray a.tmps j=yld l a.eval j:=by
 unfold yielded yld;have e:l.toArray[j]?=l[j]?:=ZW;rw [e];cases (l[j]?).bind (·.dst) with
 | none=>rfl
 | some d=>
   simp only [Option.bind_some,Aa];rw [Am];cases h:a.tmps[d]? with
   | none=>rfl
   | some v=>cases v<;>rfl
theorem put_get (a:Act) (d s:Nat) (v:Value):(a.put (some d) v).tmps[s]?=if s=d then (if d<a.tmps.size then some v else none) else a.tmps[s]?:=by
 simp only [Ab,Array.getElem?_setIfInBounds];by_cases h:s=d
 ·subst h;simp
 ·rw [ZO h,ZO (λe=>h e.symm)]
theorem put_size (a:Act) (d:Nat) (v:Value):(a.put (some d) v).tmps.size=a.tmps.size:=by simp [Ab]
theorem putg_size (g:Nat->Value):∀(ds:List Nat) (a:Act),(putg g ds a).tmps.size=a.tmps.size
 | [],_=>rfl
 | d::ds,a=>by rw [putg,putg_size g ds,put_size]
theorem putg_defers (g:Nat->Value):∀(ds:List Nat) (a:Act),(putg g ds a).defers=a.defers
 | [],_=>rfl
 | d::ds,a=>by rw [putg,putg_defers g ds];rfl
theorem putg_get (g:Nat->Value) (s:Nat):∀(ds:List Nat) (a:Act),s<a.tmps.size->(putg g ds a).tmps[s]?=if s∈ds then some (g s) else a.tmps[s]?
 | [],a,_=>by simp [putg]
 | d::ds,a,h=>by
   rw [putg,putg_get g s ds _ (by rw [put_size];exact h),put_get];by_cases h1:s∈ds
   ·simp [h1]
   ·by_cases h2:s=d
    ·subst h2;simp [h1,h]
    ·simp [h1,h2]
theorem act_of {b:Array Bool} {a:Act} {w:World} (hI:Inv l fs K a0 m ds lm b a w):a=putg (λd=>a.eval (.tmp d)) ds a0:=by
 have h1:=hI.size;have h2:=hI.defs;have h3:=hI.old;generalize hg:(λd=>a.eval (.tmp d))=g;have hg':∀d,g d=a.tmps.getD d undef:=λd=>by rw [←hg];rfl
 have ht:a.tmps=(putg g ds a0).tmps:=by
  refine Array.ext (by rw [putg_size,h1]) λi hi hi'=>?_;have e1:a.tmps[i]?=(putg g ds a0).tmps[i]?:=by
   rw [putg_get g i ds a0 ZZ];by_cases h:i∈ds
   ·rw [ZN h,hg',Am,An hi];rfl
   ·rw [ZO h,h3 i h]
  rw [An hi,An hi'] at e1;exact GZ.inj e1
 cases a with
 | mk t df=>
   simp only at ht h2;have:putg g ds a0=⟨(putg g ds a0).tmps,(putg g ds a0).defers⟩:=rfl;rw [this,←ht,putg_defers,←h2]
theorem facts_of {w:World} (g:Nat->Value):∀(ds:List Nat) (fs:List Fact),(∀(k d:Nat) (f:Fact),ds[k]?=some d->fs[k]?=some f->f (g d) w)->facts g w ds fs
 | [],_,_=>by simp [facts]
 | _ :: _,[],_=>by simp [facts]
 | d::ds,f::fs,h=>⟨h 0 d f rfl rfl,facts_of g ds fs λk d f hd hf=>h (k+1) d f (by simpa using hd) (by simpa using hf)⟩
theorem has_of {b:Array Bool} {a:Act} {w:World} (hdst:(l.take m).map (·.dst)=ds.map some) (hI:Inv l fs K a0 m ds lm b a w):∀es:List Edge,(∀e∈es,Ii .any e=true->b.getD e.on false=true)->has l fs a.eval w es
 | [],_=>trivial
 | e::es,h=>by
   refine ⟨?_,has_of hdst hI es λx hx=>h x (by simp [hx])⟩;by_cases hb:Ii .any e=true
   ·rw [ZN hb];have hl:=h e ZW hb;cases ho:l[e.on]? with
    | none=>simp
    | some o=>
      cases hf:fs[e.on]? with
      | none=>simp
      | some f=>
        cases hd:o.dst with
        | none=>simp [hd]
        | some d=>
          simp only [hd];have hm:e.on<m:=by
           rcases Gp e.on m with h | h
           ·exact h
           ·rw [hI.rest _ (.inl h)] at hl;cases hl
          have hk:ds[e.on]?=some d:=by
           have h1:=ZH (λx:List (Option Nat)=>x[e.on]?) hdst;simp only [Ew,List.getElem?_take_of_lt hm,ho,GY,hd] at h1;cases h2:ds[e.on]? with
           | none=>rw [h2] at h1;simp at h1
           | some d'=>rw [h2] at h1;simp at h1;rw [h1]
          exact hI.fact _ _ _ hk hf hl
   ·rw [ZO hb];trivial
theorem step (hm:m<=l.length) (hdst:(l.take m).map (·.dst)=ds.map some) (hnd:ds.Nodup) (hsz:∀d∈ds,d<a0.tmps.size) (hlen:fs.length=m)
 (hK:∀(b:Array Bool) (k:Nat) (w w':World),k<m->b.getD k false=false->K b w->R k w w'->K (b.setIfInBounds k true) w') (hid:∀k w,R k w w) (hlast:∀(k j:Nat) (f:Fact),fs[k]?=some f->j≠k->(∀o,l[k]?=some o->∀e∈o.after.toList,Ii .any e=true->e.on≠j)->∀v w w',R j w w'->f v w->f v w') (hfine:∀(k:Nat) (o:Oper) (f:Fact),l[k]?=some o->fs[k]?=some f->lm.getD k false=false->FineR P l fs R K a0 ds k o f)
 {b:Array Bool} {a:Act} {w:World} (hI:Inv l fs K a0 m ds lm b a w) {i:Nat} (him:i<m) (hil:lm.getD i false=false)
 (hr:i∈Ik .any l.toArray b):wpOp P l.toArray Q i (λa' w'=>Inv l fs K a0 m ds lm (b.setIfInBounds i true) a' w') a w:=by
 obtain ⟨hun,o,ho,hall⟩:=mem_ready.1 hr;have ho':l[i]?=some o:=by simpa using ho
 have hfl:i<fs.length:=ZZ;obtain ⟨f,hf⟩:∃f,fs[i]?=some f:=⟨fs[i],by rw [Et hfl]⟩;obtain ⟨d,hd,hod⟩:∃d,ds[i]?=some d/\o.dst=some d:=by
  have h1:=ZH (λx:List (Option Nat)=>x[i]?) hdst;simp only [Ew,List.getElem?_take_of_lt him,ho',GY] at h1;cases h2:ds[i]? with
  | none=>rw [h2] at h1;simp at h1
  | some d=>rw [h2] at h1;exact ⟨d,rfl,by simpa using h1⟩
 have hbi:i<b.size:=by rw [hI.bsize];omega
 have hun':b.getD i false=false:=by rw [Am] at hun ⊢;simpa [hbi] using hun
 have hdm:d∈ds:=Fs hd;have hdlt:d<a.tmps.size:=by rw [hI.size];exact hsz d hdm
 have hev:Reads a0 ds a.eval:=⟨λ_=>rfl,λ_=>rfl,λ_=>rfl,λs hs=>by
  have hs':s∉ds:=by simpa using hs
  have:=hI.old s hs'
  simp only [Aa,Am,this]⟩
 have hhas:=has_of hdst hI o.after.toList λe he hb=>hall e (by simpa using he) hb;obtain ⟨h1,h2⟩:=hfine i o f ho' hf hil a.eval b w hev hI.bel hun' hhas;have hw:Il o (yielded l.toArray a.tmps)=Il o (yld l a.eval):=by have:yielded l.toArray a.tmps=yld l a.eval:=funext λj=>yielded_eval a j;rw [this]
 have key:∀(v:Value) (w':World),R i w w'->f v w'->Inv l fs K a0 m ds lm (b.setIfInBounds i true) (a.put o.dst v) w':=by
  intro v w' hb hfv;rw [hod];refine ⟨hK b i w w' him hun' hI.bel hb,by rw [put_size];exact hI.size,hI.defs,?_,?_,?_,by simp [hI.bsize],?_⟩
  ·intro s hs;rw [put_get,ZO (λ(e:s=d)=>hs (by rw [e];exact hdm))];exact hI.old s hs
  ·intro k d' f' hd' hf' hk;have hev':(a.put (some d) v).eval (.tmp d')=if d'=d then v else a.eval (.tmp d'):=by
    simp only [Aa,Am,put_get];by_cases h:d'=d
    ·simp [h,hdlt]
    ·simp [h]
   rw [get_set b i k hbi] at hk;rw [hev'];by_cases hki:k=i
   ·subst hki;obtain rfl:d=d':=by rw [hd] at hd';exact GZ.inj hd'
    obtain rfl:f=f':=by rw [hf] at hf';exact GZ.inj hf'
    rw [ZN rfl];exact hfv
   ·rw [ZO hki] at hk;have hne:d'≠d:=λe=>by
     subst e;have hk1:k<ds.length:=(Ev.1 hd').1
     exact hki ((List.getElem?_inj hk1 hnd).1 (hd'.trans hd.symm))
    rw [ZO hne]
    exact hlast k i f' hf' (λe=>hki e.symm) (λo2 ho2 e he hbe hei=>by have:=hI.down k o2 ho2 hk e he hbe;rw [hei,hun'] at this;cases this) _ _ _ hb (hI.fact k d' f' hd' hf' hk)
  ·intro k o' hk hbk e he hbe;rw [get_set b i k hbi] at hbk;rw [get_set b i e.on hbi];by_cases hki:k=i
   ·subst hki;obtain rfl:o=o':=by rw [ho'] at hk;exact GZ.inj hk
    have:=hall e (by simpa using he) hbe;by_cases h:e.on=k
    ·rw [ZN h]
    ·rw [ZO h];exact this
   ·rw [ZO hki] at hbk;have:=hI.down k o' hk hbk e he hbe;by_cases h:e.on=i
    ·rw [ZN h]
    ·rw [ZO h];exact this
  ·intro k hk
   rw [get_set b i k hbi,ZO (λe=>by
    rcases hk with hk | hk
    ·omega
    ·rw [e,hil] at hk;cases hk)]
   exact hI.rest k hk
 unfold wpOp;simp only [ho];rw [hw];by_cases hwant:Il o (yld l a.eval)=true
 ·rw [ZN hwant];refine .inl ?_;unfold Oper.wp;cases h1 hwant with
  | value v w' hrun hb hfv=>rw [hrun,Oper.upon_value];exact key v w' hb hfv
  | enter g args hrun hc=>
    rw [hrun,Oper.upon_enter];refine hc.mono ?_;rintro e w' ⟨v,rfl,hb,hfv⟩;exact key v w' hb hfv
 ·rw [ZO hwant]
  exact key undef w (hid i w) (h2 (by simpa using hwant))
theorem XXcCR {P:Prop} (h:P:=by
 intro hk hlk hbk;have hkl:k<l.length:=ZZ;rcases B4 (∃e∈(l[k]).after.toList,Ii .any e=true/\b.getD e.on false=false) with h | h
 ·obtain ⟨e,he,hb,hbe⟩:=h;have:=hback k _ (Et hkl) e he hb;exact ihk e.on this ZZ (hfree k _ (Et hkl) hk hlk e he hb) hbe
 ·refine ⟨k,mem_ready.2 ⟨?_,l[k],by simp [hkl],λe he hb=>?_⟩⟩
  ·have:k<b.size:=by rw [hI.bsize];exact hkl
   rw [Am] at hbk ⊢;simpa [this] using hbk
  ·cases hbe:b.getD e.on false with
   | true=>rfl
   | false=>exact ZG ⟨e,by simpa using he,hb,hbe⟩ h):P:=h
theorem XXuDq {P:Prop} (h:P:=by
 obtain ⟨hun,o,ho,hal⟩:=mem_ready.1 hi;have hbi:i<b.size:=by rw [hI.bsize];omega
 have hun':b.getD i false=false:=by rw [Am] at hun ⊢;simpa [hbi] using hun
 have e:(Fy m).countP (λk=>!(b.setIfInBounds i true).getD k false && !lm.getD k false)=(Fy m).countP (λk=>(!b.getD k false && !lm.getD k false) && !(k==i)):=by
  refine List.countP_congr λk _=>?_;rw [get_set b i k hbi];by_cases h:k=i
  ·simp [h]
  ·simp [h]
 have:=count_less (λk=>!b.getD k false && !lm.getD k false) i (by rw [hun',hil];rfl) (Fy m) (by simpa using him);rw [e]
 omega):P:=h
theorem XX5Ks {P:Prop} (h:P:=by
 have:=marks_sub b hI.down l.length i _ (λk hk=>(get_set_sub _ _ _ hk).imp_right λh=>by
  rw [Am] at h;rcases Gp k l.length with hkl | hkl
  ·simp [hkl] at h
  ·simp [hkl] at h) (λo2 ho2 e he hb=>by
   obtain rfl:o=o2:=by rw [ho'] at ho2;exact GZ.inj ho2
   exact hal e (by simpa using he) hb) k hmk
 rcases this with h' | h'
 ·subst h';rcases h with h | h
  ·omega
  ·rw [hlk] at h;cases h
 ·rw [hbk] at h';cases h'):P:=h
theorem XXSDj {P:Prop} (h:P:=by
 refine ⟨?_,?_⟩
 ·rcases Gp i m with h | h
  ·exact h
  ·exact ZG (.inl h) key
 ·cases h:lm.getD i false with
  | false=>rfl
  | true=>exact ZG (.inr h) key):P:=h
theorem all_of (hm:m<=l.length) (hdst:(l.take m).map (·.dst)=ds.map some) (hnd:ds.Nodup) (hsz:∀d∈ds,d<a0.tmps.size) (hlen:fs.length=m)
 (hK:∀(b:Array Bool) (k:Nat) (w w':World),k<m->b.getD k false=false->K b w->R k w w'->K (b.setIfInBounds k true) w') (hid:∀k w,R k w w) (hlast:∀(k j:Nat) (f:Fact),fs[k]?=some f->j≠k->(∀o,l[k]?=some o->∀e∈o.after.toList,Ii .any e=true->e.on≠j)->∀v w w',R j w w'->f v w->f v w') (hidle:∀(k:Nat) (f:Fact),fs[k]?=some f->lm.getD k false=true->∀v w,f v w)
 (hfine:∀(k:Nat) (o:Oper) (f:Fact),l[k]?=some o->fs[k]?=some f->lm.getD k false=false->FineR P l fs R K a0 ds k o f)
 (hback:∀(k:Nat) (o:Oper),l[k]?=some o->∀e∈o.after.toList,Ii .any e=true->e.on<k)
 (hfree:∀(k:Nat) (o:Oper),l[k]?=some o->k<m->lm.getD k false=false->∀e∈o.after.toList,Ii .any e=true->lm.getD e.on false=false)
 (hcov:∀i,i<l.length->m<=i∨lm.getD i false=true->∀k,k<m->lm.getD k false=false->(marks l l.length ((As l.length false).setIfInBounds i true)).getD k false=true)
 (hrest:∀(g:Nat->Value) (w:World),K (fill l.length m lm) w->facts g w ds fs->wpAnyH P .any l.toArray Q (λ_=>True) r (fill l.length m lm) (putg g ds a0) w) :
 ∀(n:Nat) (b:Array Bool) (a:Act) (w:World),Inv l fs K a0 m ds lm b a w->(Fy m).countP (λk=>!b.getD k false && !lm.getD k false)+r<=n->wpAnyH P .any l.toArray Q (λ_=>True) n b a w:=by
 have base:∀(b:Array Bool) (a:Act) (w:World),Inv l fs K a0 m ds lm b a w->(Fy m).countP (λk=>!b.getD k false && !lm.getD k false)=0->wpAnyH P .any l.toArray Q (λ_=>True) r b a w:=by
  intro b a w hI hc;have hall:∀k,k<m->lm.getD k false=false->b.getD k false=true:=λk hk hl=>by have:=List.countP_eq_zero.1 hc k (by simpa using hk);rw [hl] at this;simpa using this
  have hb:b=fill l.length m lm:=by
   refine Array.ext (by simp [fill,hI.bsize]) λi h1 h2=>?_;have e:b.getD i false=b[i]:=by simp [Am,h1]
   rw [←e];have e2:(fill l.length m lm)[i]=(decide (i<m) && !lm.getD i false):=by simp [fill]
   rw [e2];rcases Gp i m with hi | hi
   ·cases hl:lm.getD i false with
    | true=>rw [hI.rest i (.inr hl)];simp
    | false=>rw [hall i hi hl];simp [hi]
   ·rw [hI.rest i (.inl hi)];simp [show¬i<m by omega]
  have:=hrest _ w (hb ▸ hI.bel) (facts_of (λd=>a.eval (.tmp d)) ds fs λk d f hd hf=>by
   cases hl:lm.getD k false with
   | true=>exact hidle k f hf hl _ _
   | false=>exact hI.fact k d f hd hf (hall k (by have:=(Ev.1 hf).1;omega) hl))
  rw [←act_of hI,←hb] at this;exact this
 intro n
 induction n with
 | zero=>
   intro b a w hI hn;have:=base b a w hI ZZ;rw [show r=0 by omega] at this;exact this
 | succ n ih=>
   intro b a w hI hn;by_cases hc:(Fy m).countP (λk=>!b.getD k false && !lm.getD k false)=0
   ·have h2:=wpAnyH_up r (n+1-r) _ _ _ (base b a w hI hc);rw [show r+(n+1-r)=n+1 by omega] at h2;exact h2
   ·
    have hex:∃k,k<m/\lm.getD k false=false/\b.getD k false=false:=by
     rcases B4 (∃k,k<m/\lm.getD k false=false/\b.getD k false=false) with h | h
     ·exact h
     ·refine ZG ?_ hc;rw [List.countP_eq_zero];intro k hk;have hk':k<m:=by simpa using hk
      cases hl:lm.getD k false with
      | true=>simp
      | false=>
        cases hb:b.getD k false with
        | true=>simp
        | false=>exact ZG ⟨k,hk',hl,hb⟩ h
    have hin:∀i∈Ik .any l.toArray b,i<m/\lm.getD i false=false:=by
     intro i hi;obtain ⟨hun,o,ho,hal⟩:=mem_ready.1 hi;have ho':l[i]?=some o:=by simpa using ho
     have hil:i<l.length:=(Ev.1 ho').1;have key:m<=i∨lm.getD i false=true->False:=by intro h;obtain ⟨k,hk,hlk,hbk⟩:=hex;have hmk:=hcov i hil h k hk hlk;exact XX5Ks
     exact XXSDj
    have hne:Ik .any l.toArray b≠ []:=by
     have:∀k,k<m->lm.getD k false=false->b.getD k false=false->∃i,i∈Ik .any l.toArray b:=by
      intro k
      induction k using Nat.strongRecOn with
      | _ k ihk=>
        exact XXcCR
     obtain ⟨k,hk,hlk,hbk⟩:=hex;obtain ⟨i,hi⟩:=this k hk hlk hbk;intro h0;rw [h0] at hi;cases hi
    refine wpAnyH_all rfl hne ?_;intro i hi;obtain ⟨him,hil⟩:=hin i hi;refine wpOp_mono (λa' w' h'=>⟨trivial,ih _ a' w' h' ?_⟩) (step hm hdst hnd hsz hlen hK hid hlast hfine hI him hil hi);exact XXuDq
theorem Goes.mono {o:Oper} {ev:Operand->Value} {f f':Fact} {w:World} (h:Goes P o ev f w) (hf:∀v w,f v w->f' v w):Goes P o ev f' w:=by
 cases h with
 | value v w' hrun hb hfv=>exact .value v w' hrun hb (hf _ _ hfv)
 | enter g args hrun hc=>
   refine .enter g args hrun (hc.mono ?_);rintro e w' ⟨v,rfl,hb,hfv⟩;exact ⟨v,rfl,hb,hf _ _ hfv⟩
theorem Goes.same {o:Oper} {ev:Operand->Value} {w:World} {v:Value} (h:(execOp ev o).run P w=.ok (.value v) w):Goes P o ev (λx _=>x=v) w:=
 .value v w h (AE _ _) rfl
def When (b want:Bool) (f:Fact):Fact:=λv w=>b=want->f v w
theorem Lasts.when {b want:Bool} {f:Fact} (h:Lasts f):Lasts (When b want f):=λv w w' hb hf e=>h v w w' hb (hf e)
theorem Lasts.eq (x:Value):Lasts (λv _=>v=x):=λ_ _ _ _ h=>h
theorem fine {o:Oper} {f:Fact} (hg:o.guard=none) (h:∀(ev:Operand->Value) (w:World),Reads a0 ds ev->Below W.heap.size W w->has l fs ev w o.after.toList->Goes P o ev f w):Fine P l fs W a0 ds o f:=
 λev w h1 h2 h3=>⟨λ_=>h ev w h1 h2 h3,λhw=>by simp [Il,hg] at hw⟩
theorem fine_when {o:Oper} {f:Fact} {b want:Bool} (j d:Nat) (hg:o.guard=some (j,want)) (hd:(l[j]?).bind (·.dst)=some d) (hb:∀(ev:Operand->Value) (w:World),has l fs ev w o.after.toList->ev (.tmp d)=ZB b)
 (h:b=want->∀(ev:Operand->Value) (w:World),Reads a0 ds ev->Below W.heap.size W w->has l fs ev w o.after.toList->Goes P o ev f w):Fine P l fs W a0 ds o (When b want f):=by
 intro ev w h1 h2 h3;have e:Il o (yld l ev)=(some b==some want):=by simp only [Il,hg,yld,hd,hb ev w h3]
 rw [e];refine ⟨λhw=>?_,λhw hbw=>?_⟩
 ·have hbw:b=want:=by simpa using hw
  exact (h hbw ev w h1 h2 h3).mono λ_ _ hf _=>hf
 ·rw [hbw] at hw;simp at hw
def All (P:Program) (l:List Oper) (fs:List Fact) (W:World) (a0:Act) (ds:List Nat):List Bool->List Oper->List Fact->Prop
 | [],o::os,f::gs=>Fine P l fs W a0 ds o f/\All P l fs W a0 ds [] os gs
 | false::bs,o::os,f::gs=>Fine P l fs W a0 ds o f/\All P l fs W a0 ds bs os gs
 | true::bs,_::os,_::gs=>True/\All P l fs W a0 ds bs os gs
 | _,_,_=>True
theorem all_at:∀{bs:List Bool} {os:List Oper} {gs:List Fact},All P l fs W a0 ds bs os gs->∀(k:Nat) (o:Oper) (f:Fact),os[k]?=some o->gs[k]?=some f->bs.getD k false=false->Fine P l fs W a0 ds o f
 | [],_ :: _,_ :: _,h,0,o,f,ho,hf,_=>by simp at ho hf;subst ho hf;exact h.1
 | [],_ :: _,_ :: _,h,k+1,o,f,ho,hf,hb=>all_at (bs:= []) h.2 k o f (by simpa using ho) (by simpa using hf) ZW
 | false :: _,_ :: _,_ :: _,h,0,o,f,ho,hf,_=>by simp at ho hf;subst ho hf;exact h.1
 | true :: _,_ :: _,_ :: _,h,0,o,f,ho,hf,hb=>by simp at hb
 | false :: _,_ :: _,_ :: _,h,k+1,o,f,ho,hf,hb=>all_at h.2 k o f (by simpa using ho) (by simpa using hf) (by simpa using hb)
 | true :: _,_ :: _,_ :: _,h,k+1,o,f,ho,hf,hb=>all_at h.2 k o f (by simpa using ho) (by simpa using hf) (by simpa using hb)
 | _,[],_,_,k,o,f,ho,hf,_=>by simp at ho
 | _,_ :: _,[],_,k,o,f,ho,hf,_=>by simp at hf
def Every (fs:List Fact):Prop:=match fs with
 | []=>True
 | f::fs=>Lasts f/\Every fs
theorem every_at:∀{fs:List Fact},Every fs->∀f∈fs,Lasts f
 | [],_,f,hf=>by simp at hf
 | g::fs,h,f,hf=>by
   rcases Fk.1 hf with rfl | hf
   ·exact h.1
   ·exact every_at h.2 f hf
def Idle:List Bool->List Fact->Prop
 | true::bs,f::fs=>(∀v w,f v w)/\Idle bs fs
 | false::bs,_::fs=>Idle bs fs
 | _,_=>True
theorem idle_at:∀{bs:List Bool} {fs:List Fact},Idle bs fs->∀(k:Nat) (f:Fact),fs[k]?=some f->bs.getD k false=true->∀v w,f v w
 | [],_,_,k,f,_,hb=>by simp at hb
 | true :: _,_ :: _,h,0,f,hf,_=>by simp at hf;subst hf;exact h.1
 | false :: _,_ :: _,_,0,f,_,hb=>by simp at hb
 | true :: _,_ :: _,h,k+1,f,hf,hb=>idle_at h.2 k f (by simpa using hf) (by simpa using hb)
 | false::bs,_::fs,h,k+1,f,hf,hb=>idle_at (bs:=bs) (fs:=fs) h k f (by simpa using hf) (by simpa using hb)
 | _ :: _,[],_,k,f,hf,_=>by simp at hf
theorem XXjkq {P:Prop} (h:P:=by
 intro k o hk e he hb;have:=h4 k (Ev.1 hk).1;rw [hk] at this;simp only [D5,Bc,AM,AX,ZJ] at this;rcases this e he with h | ⟨h,h'⟩
 ·rw [hb] at h;cases h
 ·refine ⟨h,λhk hl=>?_⟩;rcases h' with (h' | h') | h'
  ·rw [hl] at h';cases h'
  ·omega
  ·exact h'):P:=h
theorem region_gen (m:Nat) (ds:List Nat) (fs:List Fact) (lm:List Bool) (r:Nat) (p:Tree.Plan) {id:Nat} {a0:Act} {w:World} (hmo:P.follows .mixedOrders=true) (hg:good l m ds lm r=true) (hns:Ij l.toArray=true)
 (hp:Tree.fits l.toArray p r (fill l.length m lm)=true) (hQ:∀c a d v w,Q (.panic c) (Ab a d v) w->Q (.panic c) a w)
 (hsz:ds.all (λd=>decide (d<a0.tmps.size))=true) (hlen:fs.length=m) (hK0:K (As l.length false) (w.drewN 1)) (hK:∀(b:Array Bool) (k:Nat) (w w':World),k<m->b.getD k false=false->K b w->R k w w'->K (b.setIfInBounds k true) w') (hid:∀k w,R k w w) (hlast:∀(k j:Nat) (f:Fact),fs[k]?=some f->j≠k->(∀o,l[k]?=some o->∀e∈o.after.toList,Ii .any e=true->e.on≠j)->∀v w w',R j w w'->f v w->f v w') (hidle:Idle lm fs)
 (hfine:∀(k:Nat) (o:Oper) (f:Fact),l[k]?=some o->fs[k]?=some f->lm.getD k false=false->FineR P l fs R K a0 ds k o f)
 (hrest:∀(g:Nat->Value) (w':World),K (fill l.length m lm) w'->facts g w' ds fs->Tree.Step P l.toArray Q (λ_=>True) (Ju l p) (putg g ds a0) w'):(Code.region id l.toArray true).wp P Q a0 w:=by
 simp only [good,AM,D5,ZJ,List.mem_range,Bc] at hg;obtain ⟨h1,h2,h3,h4,h5,h6⟩:=hg;refine wp_region_held (S:=λ_=>True) hmo ?_;have hb4:∀(k:Nat) (o:Oper),l[k]?=some o->∀e∈o.after.toList,Ii .any e=true->e.on<k/\(k<m->lm.getD k false=false->lm.getD e.on false=false):=by exact XXjkq
 have hcov:∀i,i<l.length->m<=i∨lm.getD i false=true->∀k,k<m->lm.getD k false=false->(marks l l.length ((As l.length false).setIfInBounds i true)).getD k false=true:=by
  intro i hi hmi k hk hl;rcases h5 i hi with ⟨h,h'⟩ | h
  ·rcases hmi with hmi | hmi
   ·omega
   ·rw [hmi] at h';cases h'
  ·rcases h k hk with h | h
   ·rw [hl] at h;cases h
   ·exact h
 have hsz':∀d∈ds,d<a0.tmps.size:=by simpa using hsz
 have hI:Inv l fs K a0 m ds lm (As l.length false) a0 (w.drewN 1):=by
  have hrep:∀k,(As l.length false).getD k false=false:=λk=>by rw [Am];rcases Gp k l.length with h | h<;>simp [h]
  refine ⟨hK0,rfl,rfl,λ_ _=>rfl,λk d f _ _ h=>?_,λk o _ h=>?_,ZW,λk _=>hrep k⟩
  ·rw [hrep] at h;cases h
  ·rw [hrep] at h;cases h
 have:=all_of (P:=P) (Q:=Q) (r:=r) h1 h2 h3 hsz' hlen hK hid hlast (idle_at hidle) hfine (λk o hk e he hb=>(hb4 k o hk e he hb).1)
  (λk o hk hkm hl e he hb=>(hb4 k o hk e he hb).2 hkm hl) hcov
  (λg w' hb hf=>Tree.held_of_walk hns hQ p _ _ _ w' hp trivial (hrest g w' hb hf).out) l.length _ a0 (w.drewN 1) hI (by
    have:(Fy m).countP (λk=>!(As l.length false).getD k false && !lm.getD k false)<=(Fy m).countP (λk=>!lm.getD k false):=
     List.countP_mono_left λk _ hk=>by simp at hk;simpa using hk.2
    omega)
 simpa [World.drewN] using this
theorem region_late (m:Nat) (ds:List Nat) (fs:List Fact) (lm:List Bool) (r:Nat) (p:Tree.Plan) {id:Nat} {a0:Act} {w:World} (hmo:P.follows .mixedOrders=true) (hg:good l m ds lm r=true) (hns:Ij l.toArray=true)
 (hp:Tree.fits l.toArray p r (fill l.length m lm)=true) (hQ:∀c a d v w,Q (.panic c) (Ab a d v) w->Q (.panic c) a w)
 (hsz:ds.all (λd=>decide (d<a0.tmps.size))=true) (hlen:fs.length=m) (hlast:Every fs) (hidle:Idle lm fs) (hfine:All P l fs (w.drewN 1) a0 ds lm l fs)
 (hrest:∀(g:Nat->Value) (w':World),Below w.heap.size w w'->facts g w' ds fs->Tree.Step P l.toArray Q (λ_=>True) (Ju l p) (putg g ds a0) w'):(Code.region id l.toArray true).wp P Q a0 w:=
 region_gen (K:=λ_ w'=>Below (w.drewN 1).heap.size (w.drewN 1) w') (R:=λ_ w w'=>Below w.heap.size w w') m ds fs lm r p hmo hg hns hp hQ hsz hlen (AE _ _)
  (λ_ _ _ _ _ _ h h'=>h.trans (h'.mono h.size)) (λ_ _=>AE _ _) (λ_ _ f hf _ _=>every_at hlast f (Fs hf)) hidle
  (λk o f ho hf hl ev _ w' h1 h2 _ h4=>⟨λhw=>((all_at hfine k o f ho hf hl ev w' h1 h2 h4).1 hw).gen λ_ h=>h,(all_at hfine k o f ho hf hl ev w' h1 h2 h4).2⟩)
  λg w' hb hf=>hrest g w' ((Az (AE w.heap.size w) 1).trans hb) hf
theorem region (m:Nat) (ds:List Nat) (fs:List Fact) (p:Tree.Plan) {id:Nat} {a0:Act} {w:World} (hmo:P.follows .mixedOrders=true) (hg:good l m ds [] (l.length-m)=true) (hns:Ij l.toArray=true)
 (hp:Tree.fits l.toArray p (l.length-m) (fill l.length m [])=true) (hQ:∀c a d v w,Q (.panic c) (Ab a d v) w->Q (.panic c) a w)
 (hsz:ds.all (λd=>decide (d<a0.tmps.size))=true) (hlen:fs.length=m) (hlast:Every fs) (hfine:All P l fs (w.drewN 1) a0 ds [] l fs)
 (hrest:∀(g:Nat->Value) (w':World),Below w.heap.size w w'->facts g w' ds fs->Tree.Step P l.toArray Q (λ_=>True) (Ju l p) (putg g ds a0) w'):(Code.region id l.toArray true).wp P Q a0 w:=
 region_late m ds fs [] (l.length-m) p hmo hg hns hp hQ hsz hlen hlast trivial hfine hrest
theorem region_all (m:Nat) (ds:List Nat) (fs:List Fact) {id:Nat} {a0:Act} {w:World} (hmo:P.follows .mixedOrders=true) (hg:good l m ds [] (l.length-m)=true) (hns:Ij l.toArray=true)
 (hp:Tree.fits l.toArray .done (l.length-m) (fill l.length m [])=true) (hQ:∀c a d v w,Q (.panic c) (Ab a d v) w->Q (.panic c) a w)
 (hsz:ds.all (λd=>decide (d<a0.tmps.size))=true) (hlen:fs.length=m) (hlast:Every fs) (hfine:All P l fs (w.drewN 1) a0 ds [] l fs)
 (hrest:∀(g:Nat->Value) (w':World),Below w.heap.size w w'->facts g w' ds fs->Q .normal (putg g ds a0) w'):(Code.region id l.toArray true).wp P Q a0 w:=
 region m ds fs .done hmo hg hns hp hQ hsz hlen hlast hfine λg w' hb hf=>by rw [Ju];exact Js (hrest g w' hb hf)
end
abbrev _root_.Go.Proofs.YtdfabddnpgjepaaGreatDoor.eQ (x:Value):Fact:=λv _=>v=x
abbrev _root_.Go.Proofs.YtdfabddnpgjepaaGreatDoor.eP (g k:Nat):Fact:=eQ (ZA (some ⟨g,k,none⟩))
theorem std {P:Prop} (h:P:=by simp [Each.has,Region.binds] at hh;refine Each.Goes.same ?_;go_simp;(try with_reducible rfl);first | done | fail):P:=h
end Each
theorem XXqTe {P:Prop} (h:P:=by
 refine Each.Goes.same ?_;go_simp
 try with_reducible rfl):P:=h
theorem ZU {P:Prop} (h:P:=by go_simp):P:=h
namespace Rec
open Base Txt
section
theorem plainOf_any (V:Value) (r:R) (w:World) (h:Reads w V r):Calls Mm 177 #[V] w λe w'=>e=.returned (Z9 #[ZD r.m,ZD r.x,ZE Z7 r.k,ZB r.ch])/\Below w.heap.size w w':=by obtain ⟨fa,fc,ba,bc,ta,tc,rfl,h1,h2,h3⟩:=h;clear h1 h2 h3;obtain ⟨m,x,k,fs,ch,body,ts⟩:=r;go_enter Tryz.func177,Tryz.ntmps177;go_wp2;refine bodyPost_ret (v:=Z9 #[ZD m,ZD x,ZE Z7 k,ZB ch]) (by simp [results,Tryz.results177,go_sem]) rfl ⟨rfl,?_⟩;exact ((AE _ _).alloc (Gi _) _).alloc ZW _
end
def plainEq (a b:R):Bool:=decide (a.m=b.m)&&(decide (a.x=b.x)&&(decide (a.k=b.k)&&decide (a.ch=b.ch)))
theorem ba_list_inj {a b:List UInt8}:ba a=ba b↔a=b:=⟨λh=>by have:=congrArg (λx:ByteArray=>x.data.toList) h;simpa [ba] using this,λh=>by rw [h]⟩
section
theorem bytesEq_any (a:Option Addr) (n cap:Nat) (xs:List UInt8) (b:Option Addr) (m cap2:Nat) (ys:List UInt8) (w:World) (hx:Nums .u8 w a n (nums xs)) (hy:Nums .u8 w b m (nums ys)) :
 Calls Mm 179 #[.slice a n cap,.slice b m cap2] w λe w'=>e=.returned (ZB (decide (xs=ys)))/\w'=w:=by
 have h1:=conv_str w a n cap xs hx;have h2:=conv_str w b m cap2 ys hy;have e:decide (xs=ys)=((ba xs).toList==(ba ys).toList):=by rw [ba_beq,AR,ZJ,ZJ,ba_list_inj]
 rw [e];clear e hx hy;go_enter Tryz.func179,Tryz.ntmps179;go_wp2;go_ret;exact ⟨rfl,rfl⟩
theorem same_parts (r r':R):(((plainEq r r'&&decide (r.fs=r'.fs))&&decide (r.body=r'.body))&&decide (r.ts=r'.ts))=same r r':=by unfold plainEq same;cases decide (r.m=r'.m)<;>cases decide (r.x=r'.x)<;>cases decide (r.k=r'.k)<;>cases decide (r.fs=r'.fs)<;>cases decide (r.ch=r'.ch)<;>simp
theorem XXVHZ {P:Prop} (h:P:=by refine Each.fine rfl (λev w1 hR hb hh=>?_);have e2:=hR.old 2 rfl;have e3:=hR.old 3 rfl;simp only [Am,E6,Ep,Er,GW] at e2 e3;have q0:=(HA.out.below hb).c 0 _ rfl;have q1:=(HA.out.below hb).c 1 _ rfl;have q2:=(HA.out.below hb).c 2 _ rfl;have q3:=(HA.out.below hb).c 3 _ rfl;have q4:=(HA.out.below hb).c 4 _ rfl;have q5:=(HA.out.below hb).c 5 _ rfl;have q6:=(HA.out.below hb).c 6 _ rfl;have q0:=(HB.out.below hb).c 0 _ rfl;have q1:=(HB.out.below hb).c 1 _ rfl;have q2:=(HB.out.below hb).c 2 _ rfl;have q3:=(HB.out.below hb).c 3 _ rfl;have q4:=(HB.out.below hb).c 4 _ rfl;have q5:=(HB.out.below hb).c 5 _ rfl;have q6:=(HB.out.below hb).c 6 _ rfl;exact Each.std):P:=h
theorem same_any (V V':Value) (r r':R) (w:World) (h:Reads w V r) (h':Reads w V' r') (hf:Fit r) (hf':Fit r'):Calls Mm 151 #[V,V'] w λe w'=>e=.returned (ZB (same r r'))/\Below w.heap.size w w':=by
 rw [←same_parts];have HF:=Dl hf;have HF':=Dl hf';have HV:=Dl h;have HV':=Dl h';obtain ⟨fa,fc,ba,bc,ta,tc,rfl,h1,h2,h3⟩:=h;obtain ⟨fa',fc',ba',bc',ta',tc',rfl,h1',h2',h3'⟩:=h';have H1:=Dl h1;have H2:=Dl h2;have H3:=Dl h3;have H1':=Dl h1';have H2':=Dl h2';have H3':=Dl h3';clear h1 h2 h3 h1' h2' h3';clear hf hf';go_enter Tryz.func151,Tryz.ntmps151;go_wp2_with fail
 have hbw0:=Dl ((((AE _ _).alloc (Gi _) (.cells #[ZD r.m,ZD r.x,ZE Z7 r.k,.slice fa r.fs.length fc,ZB r.ch,.slice ba r.body.length bc,.slice ta r.ts.length tc] 58)).alloc ZW (.cells #[ZD r'.m,ZD r'.x,ZE Z7 r'.k,.slice fa' r'.fs.length fc',ZB r'.ch,.slice ba' r'.body.length bc',.slice ta' r'.ts.length tc'] 58)):Below w.heap.size w _)
 have hbw:=Dl (Az hbw0.out 1)
 have HA:=Dl (((Bk.new w w.heap.size rfl 58 [ZD r.m,ZD r.x,ZE Z7 r.k,.slice fa r.fs.length fc,ZB r.ch,.slice ba r.body.length bc,.slice ta r.ts.length tc]).alloc (.cells #[ZD r'.m,ZD r'.x,ZE Z7 r'.k,.slice fa' r'.fs.length fc',ZB r'.ch,.slice ba' r'.body.length bc',.slice ta' r'.ts.length tc'] 58)).drew 1)
 have HB:=Dl ((Bk.new (w.alloc (.cells #[ZD r.m,ZD r.x,ZE Z7 r.k,.slice fa r.fs.length fc,ZB r.ch,.slice ba r.body.length bc,.slice ta r.ts.length tc] 58)) (w.heap.size+1) ZW 58 [ZD r'.m,ZD r'.x,ZE Z7 r'.k,.slice fa' r'.fs.length fc',ZB r'.ch,.slice ba' r'.body.length bc',.slice ta' r'.ts.length tc']).drew 1)
 have HR:=Dl (HV.out.below hbw.out)
 have HR':=Dl (HV'.out.below hbw.out)
 replace H1:=Dl (H1.out.below hbw.out);replace H2:=Dl (H2.out.below hbw.out);replace H3:=Dl (H3.out.below hbw.out)
 replace H1':=Dl (H1'.out.below hbw.out);replace H2':=Dl (H2'.out.below hbw.out);replace H3':=Dl (H3'.out.below hbw.out)
 clear HV HV';refine Each.region_all 27 [5,6,7,8,9,10,11,12,13,14,15,16,17,18,19,20,21,22,23,24,25,26,27,28,29,30,4] [eQ (Z9 #[ZD r.m,ZD r.x,ZE Z7 r.k,.slice fa r.fs.length fc,ZB r.ch,.slice ba r.body.length bc,.slice ta r.ts.length tc]),eQ (Z9 #[ZD r.m,ZD r.x,ZE Z7 r.k,ZB r.ch]),eQ (Z9 #[ZD r'.m,ZD r'.x,ZE Z7 r'.k,.slice fa' r'.fs.length fc',ZB r'.ch,.slice ba' r'.body.length bc',.slice ta' r'.ts.length tc']),eQ (Z9 #[ZD r'.m,ZD r'.x,ZE Z7 r'.k,ZB r'.ch]),eQ (ZB (plainEq r r')),eQ (ZB (plainEq r r')),Each.When (plainEq r r') true (λv _=>v=ZA (some ⟨w.heap.size,3,none⟩)),Each.When (plainEq r r') true (λv _=>v=.slice fa r.fs.length fc),Each.When (plainEq r r') true (λv _=>v=ZA (some ⟨w.heap.size+1,3,none⟩)),Each.When (plainEq r r') true (λv _=>v=.slice fa' r'.fs.length fc'),Each.When (plainEq r r') true (λv _=>v=ZB (decide (r.fs=r'.fs))),eQ (ZB ((plainEq r r'&&decide (r.fs=r'.fs)))),eQ (ZB ((plainEq r r'&&decide (r.fs=r'.fs)))),Each.When ((plainEq r r'&&decide (r.fs=r'.fs))) true (λv _=>v=ZA (some ⟨w.heap.size,5,none⟩)),Each.When ((plainEq r r'&&decide (r.fs=r'.fs))) true (λv _=>v=.slice ba r.body.length bc),Each.When ((plainEq r r'&&decide (r.fs=r'.fs))) true (λv _=>v=ZA (some ⟨w.heap.size+1,5,none⟩)),Each.When ((plainEq r r'&&decide (r.fs=r'.fs))) true (λv _=>v=.slice ba' r'.body.length bc'),Each.When ((plainEq r r'&&decide (r.fs=r'.fs))) true (λv _=>v=ZB (decide (r.body=r'.body))),eQ (ZB (((plainEq r r'&&decide (r.fs=r'.fs))&&decide (r.body=r'.body)))),eQ (ZB (((plainEq r r'&&decide (r.fs=r'.fs))&&decide (r.body=r'.body)))),Each.When (((plainEq r r'&&decide (r.fs=r'.fs))&&decide (r.body=r'.body))) true (λv _=>v=ZA (some ⟨w.heap.size,6,none⟩)),Each.When (((plainEq r r'&&decide (r.fs=r'.fs))&&decide (r.body=r'.body))) true (λv _=>v=.slice ta r.ts.length tc),Each.When (((plainEq r r'&&decide (r.fs=r'.fs))&&decide (r.body=r'.body))) true (λv _=>v=ZA (some ⟨w.heap.size+1,6,none⟩)),Each.When (((plainEq r r'&&decide (r.fs=r'.fs))&&decide (r.body=r'.body))) true (λv _=>v=.slice ta' r'.ts.length tc'),Each.When (((plainEq r r'&&decide (r.fs=r'.fs))&&decide (r.body=r'.body))) true (λv _=>v=ZB (decide (r.ts=r'.ts))),eQ (ZB ((((plainEq r r'&&decide (r.fs=r'.fs))&&decide (r.body=r'.body))&&decide (r.ts=r'.ts)))),eQ (ZB ((((plainEq r r'&&decide (r.fs=r'.fs))&&decide (r.body=r'.body))&&decide (r.ts=r'.ts))))] ZY ZY ZY ZY (λ_ _ d _ _ h=>by cases d<;>exact h) ZV ZV ⟨Each.Lasts.eq _,Each.Lasts.eq _,Each.Lasts.eq _,Each.Lasts.eq _,Each.Lasts.eq _,Each.Lasts.eq _,Each.Lasts.when (Each.Lasts.eq _),Each.Lasts.when (Each.Lasts.eq _),Each.Lasts.when (Each.Lasts.eq _),Each.Lasts.when (Each.Lasts.eq _),Each.Lasts.when (Each.Lasts.eq _),Each.Lasts.eq _,Each.Lasts.eq _,Each.Lasts.when (Each.Lasts.eq _),Each.Lasts.when (Each.Lasts.eq _),Each.Lasts.when (Each.Lasts.eq _),Each.Lasts.when (Each.Lasts.eq _),Each.Lasts.when (Each.Lasts.eq _),Each.Lasts.eq _,Each.Lasts.eq _,Each.Lasts.when (Each.Lasts.eq _),Each.Lasts.when (Each.Lasts.eq _),Each.Lasts.when (Each.Lasts.eq _),Each.Lasts.when (Each.Lasts.eq _),Each.Lasts.when (Each.Lasts.eq _),Each.Lasts.eq _,Each.Lasts.eq _,trivial⟩ ?_ ?_
 ·refine ⟨?_,?_,?_,?_,?_,?_,?_,?_,?_,?_,?_,?_,?_,?_,?_,?_,?_,?_,?_,?_,?_,?_,?_,?_,?_,?_,?_,trivial⟩
  ·exact XXVHZ
  ·refine Each.fine rfl (λev w1 hR hb hh=>?_);have e5:ev (.tmp 5)= _:=hh.at 0;clear hh;have ef:=hR.func;refine Each.Goes.enter 177 #[Z9 #[ZD r.m,ZD r.x,ZE Z7 r.k,.slice fa r.fs.length fc,ZB r.ch,.slice ba r.body.length bc,.slice ta r.ts.length tc]] ZU (((plainOf_any _ _ w1 (HR.out.below hb))).mono ?_);rintro e w2 ⟨rfl,hb2⟩;exact ⟨_,rfl,hb2,rfl⟩
  ·exact XXVHZ
  ·refine Each.fine rfl (λev w1 hR hb hh=>?_);have e7:ev (.tmp 7)= _:=hh.at 0;clear hh;have ef:=hR.func;refine Each.Goes.enter 177 #[Z9 #[ZD r'.m,ZD r'.x,ZE Z7 r'.k,.slice fa' r'.fs.length fc',ZB r'.ch,.slice ba' r'.body.length bc',.slice ta' r'.ts.length tc']] ZU (((plainOf_any _ _ w1 (HR'.out.below hb))).mono ?_);rintro e w2 ⟨rfl,hb2⟩;exact ⟨_,rfl,hb2,rfl⟩
  ·refine Each.fine rfl (λev w1 hR hb hh=>?_);have e6:ev (.tmp 6)= _:=hh.at 0;have e8:ev (.tmp 8)= _:=hh.at 1;clear hh;refine Each.Goes.same ?_;go_simp;unfold plainEq;by_cases g1:r.m=r'.m<;>by_cases g2:r.x=r'.x<;>by_cases g3:r.k=r'.k<;>by_cases g4:r.ch=r'.ch<;>simp [g1,g2,g3,g4,toList_iff]
  ·exact XXVHZ
  ·refine Each.fine_when 5 10 rfl rfl (λev w1 hh=>?_) (λhg ev w1 hR hb hh=>?_)
   ·exact hh.at 0
   ·clear hh;have e2:=hR.old 2 rfl;simp only [Am,E6,Ep,Er,GW] at e2;exact XXqTe
  ·refine Each.fine_when 5 10 rfl rfl (λev w1 hh=>?_) (λhg ev w1 hR hb hh=>?_)
   ·exact hh.at 1
   ·have e11:=(show ((plainEq r r')=true->ev (.tmp 11)=ZA (some ⟨w.heap.size,3,none⟩)) from hh.at 0) hg;clear hh;have q3:=(HA.out.below hb).c 3 _ rfl;exact XXqTe
  ·refine Each.fine_when 5 10 rfl rfl (λev w1 hh=>?_) (λhg ev w1 hR hb hh=>?_)
   ·exact hh.at 0
   ·clear hh;have e3:=hR.old 3 rfl;simp only [Am,E6,Ep,Er,GW] at e3;exact XXqTe
  ·refine Each.fine_when 5 10 rfl rfl (λev w1 hh=>?_) (λhg ev w1 hR hb hh=>?_)
   ·exact hh.at 1
   ·have e13:=(show ((plainEq r r')=true->ev (.tmp 13)=ZA (some ⟨w.heap.size+1,3,none⟩)) from hh.at 0) hg;clear hh;have q3:=(HB.out.below hb).c 3 _ rfl;exact XXqTe
  ·refine Each.fine_when 5 10 rfl rfl (λev w1 hh=>?_) (λhg ev w1 hR hb hh=>?_)
   ·exact hh.at 2
   ·have e12:=(show ((plainEq r r')=true->ev (.tmp 12)=.slice fa r.fs.length fc) from hh.at 0) hg;have e14:=(show ((plainEq r r')=true->ev (.tmp 14)=.slice fa' r'.fs.length fc') from hh.at 1) hg;clear hh;have ef:=hR.func;refine Each.Goes.enter 178 #[.slice fa r.fs.length fc,.slice fa' r'.fs.length fc'] ZU (((fields_any fa _ fc _ fa' _ fc' _ w1 (H1.out.below hb) (H1'.out.below hb) (by have:=HF.out.fs;omega) (by have:=HF'.out.fs;omega))).mono ?_);rintro e w2 ⟨rfl,q,hb2⟩;exact ⟨_,rfl,(by subst hb2;exact Az (AE _ _) _),rfl⟩
  ·refine Each.fine rfl (λev w1 hR hb hh=>?_);have e10:ev (.tmp 10)= _:=hh.at 0;have h15:((plainEq r r')=true->ev (.tmp 15)=ZB (decide (r.fs=r'.fs))):=hh.at 1;clear hh;have ec:=hR.const;refine Each.Goes.same ?_;rcases AQ (plainEq r r') with hx | hx
   ·rw [hx] at e10 ⊢;have e15:=h15 hx;go_simp;try with_reducible rfl
   ·rw [hx] at e10 ⊢;go_simp;try with_reducible rfl
  ·exact XXVHZ
  ·refine Each.fine_when 12 17 rfl rfl (λev w1 hh=>?_) (λhg ev w1 hR hb hh=>?_)
   ·exact hh.at 0
   ·clear hh;have e2:=hR.old 2 rfl;simp only [Am,E6,Ep,Er,GW] at e2;exact XXqTe
  ·refine Each.fine_when 12 17 rfl rfl (λev w1 hh=>?_) (λhg ev w1 hR hb hh=>?_)
   ·exact hh.at 1
   ·have e18:=(show (((plainEq r r'&&decide (r.fs=r'.fs)))=true->ev (.tmp 18)=ZA (some ⟨w.heap.size,5,none⟩)) from hh.at 0) hg;clear hh;have q5:=(HA.out.below hb).c 5 _ rfl;exact XXqTe
  ·refine Each.fine_when 12 17 rfl rfl (λev w1 hh=>?_) (λhg ev w1 hR hb hh=>?_)
   ·exact hh.at 0
   ·clear hh;have e3:=hR.old 3 rfl;simp only [Am,E6,Ep,Er,GW] at e3;exact XXqTe
  ·refine Each.fine_when 12 17 rfl rfl (λev w1 hh=>?_) (λhg ev w1 hR hb hh=>?_)
   ·exact hh.at 1
   ·have e20:=(show (((plainEq r r'&&decide (r.fs=r'.fs)))=true->ev (.tmp 20)=ZA (some ⟨w.heap.size+1,5,none⟩)) from hh.at 0) hg;clear hh;have q5:=(HB.out.below hb).c 5 _ rfl;exact XXqTe
  ·refine Each.fine_when 12 17 rfl rfl (λev w1 hh=>?_) (λhg ev w1 hR hb hh=>?_)
   ·exact hh.at 2
   ·have e19:=(show (((plainEq r r'&&decide (r.fs=r'.fs)))=true->ev (.tmp 19)=.slice ba r.body.length bc) from hh.at 0) hg;have e21:=(show (((plainEq r r'&&decide (r.fs=r'.fs)))=true->ev (.tmp 21)=.slice ba' r'.body.length bc') from hh.at 1) hg;clear hh;have ef:=hR.func;refine Each.Goes.enter 179 #[.slice ba r.body.length bc,.slice ba' r'.body.length bc'] ZU (((bytesEq_any ba _ bc _ ba' _ bc' _ w1 (H2.out.below hb) (H2'.out.below hb))).mono ?_);rintro e w2 ⟨rfl,hb2⟩;exact ⟨_,rfl,(by subst hb2;exact AE _ _),rfl⟩
  ·refine Each.fine rfl (λev w1 hR hb hh=>?_);have e17:ev (.tmp 17)= _:=hh.at 0;have h22:(((plainEq r r'&&decide (r.fs=r'.fs)))=true->ev (.tmp 22)=ZB (decide (r.body=r'.body))):=hh.at 1;clear hh;have ec:=hR.const;refine Each.Goes.same ?_;rcases AQ ((plainEq r r'&&decide (r.fs=r'.fs))) with hx | hx
   ·rw [hx] at e17 ⊢;have e22:=h22 hx;go_simp;try with_reducible rfl
   ·rw [hx] at e17 ⊢;go_simp;try with_reducible rfl
  ·exact XXVHZ
  ·refine Each.fine_when 19 24 rfl rfl (λev w1 hh=>?_) (λhg ev w1 hR hb hh=>?_)
   ·exact hh.at 0
   ·clear hh;have e2:=hR.old 2 rfl;simp only [Am,E6,Ep,Er,GW] at e2;exact XXqTe
  ·refine Each.fine_when 19 24 rfl rfl (λev w1 hh=>?_) (λhg ev w1 hR hb hh=>?_)
   ·exact hh.at 1
   ·have e25:=(show ((((plainEq r r'&&decide (r.fs=r'.fs))&&decide (r.body=r'.body)))=true->ev (.tmp 25)=ZA (some ⟨w.heap.size,6,none⟩)) from hh.at 0) hg;clear hh;have q6:=(HA.out.below hb).c 6 _ rfl;exact XXqTe
  ·refine Each.fine_when 19 24 rfl rfl (λev w1 hh=>?_) (λhg ev w1 hR hb hh=>?_)
   ·exact hh.at 0
   ·clear hh;have e3:=hR.old 3 rfl;simp only [Am,E6,Ep,Er,GW] at e3;exact XXqTe
  ·refine Each.fine_when 19 24 rfl rfl (λev w1 hh=>?_) (λhg ev w1 hR hb hh=>?_)
   ·exact hh.at 1
   ·have e27:=(show ((((plainEq r r'&&decide (r.fs=r'.fs))&&decide (r.body=r'.body)))=true->ev (.tmp 27)=ZA (some ⟨w.heap.size+1,6,none⟩)) from hh.at 0) hg;clear hh;have q6:=(HB.out.below hb).c 6 _ rfl;exact XXqTe
  ·refine Each.fine_when 19 24 rfl rfl (λev w1 hh=>?_) (λhg ev w1 hR hb hh=>?_)
   ·exact hh.at 2
   ·have e26:=(show ((((plainEq r r'&&decide (r.fs=r'.fs))&&decide (r.body=r'.body)))=true->ev (.tmp 26)=.slice ta r.ts.length tc) from hh.at 0) hg;have e28:=(show ((((plainEq r r'&&decide (r.fs=r'.fs))&&decide (r.body=r'.body)))=true->ev (.tmp 28)=.slice ta' r'.ts.length tc') from hh.at 1) hg;clear hh;have ef:=hR.func;refine Each.Goes.enter 178 #[.slice ta r.ts.length tc,.slice ta' r'.ts.length tc'] ZU (((fields_any ta _ tc _ ta' _ tc' _ w1 (H3.out.below hb) (H3'.out.below hb) (by have:=HF.out.ts;omega) (by have:=HF'.out.ts;omega))).mono ?_);rintro e w2 ⟨rfl,q,hb2⟩;exact ⟨_,rfl,(by subst hb2;exact Az (AE _ _) _),rfl⟩
  ·refine Each.fine rfl (λev w1 hR hb hh=>?_);have e24:ev (.tmp 24)= _:=hh.at 0;have h29:((((plainEq r r'&&decide (r.fs=r'.fs))&&decide (r.body=r'.body)))=true->ev (.tmp 29)=ZB (decide (r.ts=r'.ts))):=hh.at 1;clear hh;have ec:=hR.const;refine Each.Goes.same ?_;rcases AQ (((plainEq r r'&&decide (r.fs=r'.fs))&&decide (r.body=r'.body))) with hx | hx
   ·rw [hx] at e24 ⊢;have e29:=h29 hx;go_simp;try with_reducible rfl
   ·rw [hx] at e24 ⊢;go_simp;try with_reducible rfl
  ·exact XXVHZ
 intro g1 w2 hb hf;have z4:g1 4= _:=hf.at 26;clear hf;simp only [Each.putg,Ab,F4,F7,F6];rw [z4];go_wp2;go_ret;exact ⟨rfl,A6 hbw0.out hb⟩
end
end Rec
open _root_.Array renaming getElem?_eq_none→Ao
open _root_.ByteArray renaming data_append→Bo,empty→Bp,size_extract→Bs
open _root_.Decidable renaming not_not→B7
open _root_.Go.Addr renaming add→Ac
open _root_.Go.Lib renaming IsBuilderF→CZ,byteCells→Da,extract_data→Di,toList_data→Dv
open _root_.Go.Proofs.Tryz renaming underlying124→MV,underlying22→MZ,underlying46→Nq,underlying5→Nr,underlying9→Ns
open _root_.List renaming contains_cons→DE,dropWhile_cons→DM,drop_eq_getElem_cons→DR,drop_eq_nil_of_le→DS,getElem_mem→EB,length_drop→ER,length_eq_zero_iff→ET,length_map→EV,length_take→Fc,map_append→Ff,reverse_append→F1,set_append_right→F5,take_append_drop→FD,take_of_length_le→FF,take_succ_eq_append_getElem→FG
open _root_.Nat renaming eq_zero_or_pos→Gg,lt_of_lt_of_le→Gn
open _root_.UInt8 renaming toNat_inj→NI
open App renaming wpList_append_list→Ai
open Base renaming some_undef→A8
open Pg.Q renaming read→Hr
open Rec renaming Reads→Ia
theorem XX2aa {P:Prop} (h:P:=by simp<;>omega):P:=h
theorem XXLUf {P:Prop} (h:P:=by
 have hcv:=run_bytes_of_string (P:=Mm) w 9 22 5 s Ns MZ Nr;refine ⟨_,_,hcv,λj hj=>?_,ZW,(AE _ _).drew.alloc (Gi _) _⟩;have hj':j<s.data.size:=by simpa using hj
 refine ⟨(World.cell?_alloc_mark w.drew _ _ _ j).trans (bytesRow_at s _ j hj'),(World.frozen?_alloc_mark w.drew _ _ _ _ j).trans ?_⟩;have:¬(bytesRow s (grownCap w s.size 0 5)).size<=j:=by unfold bytesRow;rw [Array.size_append,Array.size_map];omega
 simp [this]):P:=h
namespace Txt
open Base Oct
theorem stands_isIn (set:ByteArray) (x:UInt8):stands set.data.toList (x.toNat:Int)=isIn set x:=by
 unfold stands isIn;rw [AR,List.any_eq_true,List.contains_iff_exists_mem_beq];constructor
 ·rintro ⟨b,hb,e⟩;exact ⟨b,hb,by rw [ZI] at e ⊢;exact (NI.1 ZZ).symm⟩
 ·rintro ⟨b,hb,e⟩;rw [ZI] at e;subst e;exact ⟨x,hb,ZW⟩
def Bytes (w:World) (g:Nat) (l:List UInt8):Prop:=∀j (h:j<l.length),w.cell? ⟨g,j,none⟩=some (ZE Z6 (l[j].toNat:Int))/\w.frozen? ⟨g,j,none⟩=false
theorem Bytes.set {w:World} {g:Nat} {l:List UInt8} (h:Bytes w g l) (k:Nat) (b:UInt8):Bytes (w.setCell ⟨g,k,none⟩ (ZE Z6 (b.toNat:Int))) g (l.set k b):=by
 intro j hj;rw [List.length_set] at hj;obtain ⟨c,z⟩:=h j hj;refine ⟨?_,by rw [World.frozen?_setCell];exact z⟩;by_cases e:k=j
 ·subst e;rw [World.cell?_setCell_same _ _ _ c,List.getElem_set_self]
 ·rw [World.cell?_setCell_other _ _ _ _ XX2aa,List.getElem_set_ne e];exact c
theorem conv_bytes (s:ByteArray) (w:World):∃W cap,(convert 9 22 (ZD s)).run Mm w=.ok (ZC (some ⟨w.heap.size,0,none⟩) s.size cap) W/\Bytes W w.heap.size s.data.toList/\w.heap.size<W.heap.size/\Below w.heap.size w W:=by exact XXLUf
theorem mix_put (l:List UInt8) (k:Nat) (h:k<l.length):(mix l k).set k (lowB l[k])=mix l (k+1):=by
 unfold mix low;rw [F5 _ _ ZQ,FG h,DR h];have:k-(List.map lowB (List.take k l)).length=0:=ZQ;rw [this,F7,Ff,D7];rfl
theorem mix_get (l:List UInt8) (k:Nat) (h:k<l.length):(mix l k)[k]'(by rw [mix_length];exact h)=l[k]:=by
 unfold mix low;rw [List.getElem_append_right ZQ];have:k-(List.map lowB (List.take k l)).length=0:=ZQ;simp only [this,List.getElem_drop,Nat.add_zero]
theorem mix_skip (l:List UInt8) (k:Nat) (h:k<l.length) (e:lowB l[k]=l[k]):mix l k=mix l (k+1):=by rw [←mix_put l k h,e,←mix_get l k h,List.set_getElem_self]
def tbytes:Value->Nat
 | .string t=>t.size
 | _=>0
section
attribute [local go_sem] A8
theorem XXoMT {P:Prop} (h:P:=by
 generalize (s.data.toList[k].toNat:Int)=x at *;go_wp2;go_roundw
 case rel=>exact ⟨k+1,ZZ,ZT,HS,hbr⟩
 case measure=>simp [intOf];omega):P:=h
theorem rlower_any (s:ByteArray) (w:World) (hs:s.size<=1099511627776):Calls Mm 176 #[ZD s] w λe w'=>e=.returned (ZD (lower s))/\Below w.heap.size w w':=by
 obtain ⟨W,cap,hcv,hB,hg,hb⟩:=conv_bytes s w;have hB0:=Dl (show Bytes W w.heap.size (mix s.data.toList 0) by rw [mix_zero];exact hB);have hb0:=Dl hb;clear hB hb;go_enter Tryz.func176,Tryz.ntmps176;go_wp2;clear hcv;generalize hgw:w.heap.size=g at *;have HG:=Dl hgw;clear hgw
 go_loopw [4] (λi wr=>∃k:Nat,k<=s.size/\i=ZE Z7 k/\Hid (Bytes wr g (mix s.data.toList k))/\Hid (Below g w wr)) (λi _=>s.size-(intOf i).toNat)
 case atStart=>exact ⟨0,Gz _,rfl,hB0,hb0⟩
 case round=>
  obtain ⟨k,hk,rfl,hB,hbr⟩:=hrel;rcases Gp k s.size with hlt | hge
  ·have hll:k<s.data.toList.length:=by rw [len];exact hlt
   obtain ⟨hc,hz⟩:=hB.out k (by rw [mix_length];exact hll);rw [mix_get _ _ hll] at hc;have i1:(k:Int)<(s.size:Int):=ZZ;have hb0:0<=(s.data.toList[k].toNat:Int):=ZZ;have hb1:=byte_lt s.data.toList[k];by_cases hx:65<=s.data.toList[k].toNat/\s.data.toList[k].toNat<=90
   ·obtain ⟨x0,x1⟩:=hx;have e0:=lowB_toNat s.data.toList[k];have e1:lowN (s.data.toList[k].toNat:Int)=(s.data.toList[k].toNat:Int)+32:=by unfold lowN;rw [ZN ZZ]
    have hset:=(hB.out.set k (lowB s.data.toList[k]));rw [mix_put _ _ hll,e0,e1] at hset;have HS:=Dl hset;have y0:(65:Int)<=(s.data.toList[k].toNat:Int):=ZZ;have y1:(s.data.toList[k].toNat:Int)<=90:=ZZ;clear e0 e1 hset x0 x1;generalize (s.data.toList[k].toNat:Int)=x at *;have e2:IntKind.u8.wrap (x+32)=x+32:=by rw [IntKind.wrap_u8];omega
    go_wp2;go_roundw
    case rel=>exact ⟨k+1,ZZ,ZT,HS,Dl (hbr.out.setCell (Gi _) _)⟩
    case measure=>simp [intOf];omega
   ·have e0:lowB s.data.toList[k]=s.data.toList[k]:=by unfold lowB;rw [ZO hx]
    have hB2:=hB.out;rw [mix_skip _ _ hll e0] at hB2;have HS:=Dl hB2;clear hB2 e0;rcases Gp s.data.toList[k].toNat 65 with h | h
    ·have y0:¬(65:Int)<=(s.data.toList[k].toNat:Int):=by omega
     exact XXoMT
    ·have y0:(65:Int)<=(s.data.toList[k].toNat:Int):=by omega
     have y1:¬(s.data.toList[k].toNat:Int)<=90:=ZZ;exact XXoMT
  ·obtain rfl:k=s.size:=by omega
   have hconv:=run_convert_bytes_back (P:=Mm) wr 22 9 5 ⟨g,0,none⟩ cap (low s.data.toList) MZ Nr Ns (λj hj=>by
    have h1:=(hB.out j (by rw [mix_length];simpa [low] using hj)).1;have e:(⟨g,0,none⟩:Addr).add j=⟨g,j,none⟩:=by unfold Ac;by_cases h:j=0<;>simp [h]
    rw [e,h1]
    congr 4
    simp only [mix_all s.data.toList s.size XXc2a])
   have hl:(low s.data.toList).length=s.size:=by rw [low,EV,len]
   rw [hl] at hconv;go_wp2;go_ret;exact ⟨rfl,by rw [HG.out];exact hbr.out⟩
theorem rsame_any (a b:ByteArray) (w:World) (ha:a.size<=1099511627776) (hb:b.size<=1099511627776):Calls Mm 148 #[ZD a,ZD b] w λe w'=>e=.returned (ZB (same a b))/\Below w.heap.size w w':=by
 have h1:=Dl (λw=>rlower_any a w ha);have h2:=Dl (λw=>rlower_any b w hb);have hr:((lower a).toList==(lower b).toList)=same a b:=by rw [Dv,Dv];rfl
 generalize lower a=x at *;generalize lower b=y at *;go_enter Tryz.func148,Tryz.ntmps148
 go_wp2_with (first
  |(go_at_call 176;with_reducible refine (h1.out _).mono ?_;rintro e w1 ⟨rfl,hb1⟩)
  |(go_at_call 176;with_reducible refine (h2.out _).mono ?_;rintro e w2 ⟨rfl,hb2⟩))
 go_ret;exact ⟨by rw [←hr];rfl,A6 hb1 hb2⟩
theorem first_of (t:ByteArray) (h:0<t.size):t.data.toList=t[0]::t.data.toList.drop 1/\(t.extract 1 t.size).data.toList=t.data.toList.drop 1/\t.toList.isEmpty=false:=by
 have hl:0<t.data.toList.length:=by rw [len];exact h
 have e:t.data.toList=t[0]::t.data.toList.drop 1:=by
  conv=>lhs;rw [←List.drop_zero (l:=t.data.toList),DR hl]
  rfl
 refine ⟨e,?_,?_⟩
 ·rw [Di,FF (by rw [ER,len];exact Gi _)]
 ·rw [Dv,e];rfl
theorem last_of (t:ByteArray) (h:0<t.size):t.data.toList=t.data.toList.take (t.size-1) ++ [t[t.size-1]]/\(t.extract 0 (t.size-1)).data.toList=t.data.toList.take (t.size-1)/\t.toList.isEmpty=false:=by
 have e:=take_snoc t (t.size-1) ZZ;rw [show t.size-1+1=t.size by omega,take_all t _ (Gi _)] at e;refine ⟨e,?_,?_⟩
 ·rw [Di,List.drop_zero,Nat.sub_zero]
 ·rw [Dv];cases hl:t.data.toList with
  | nil=>exfalso;have h2:=len t;rw [hl,EW] at h2;omega
  | cons _ _=>rfl
theorem in_any (x:UInt8) (r:Bool) (set:ByteArray) (w:World) (ht:set.size<=maxLen) (hq:isIn set x=r):Calls Mm 194 #[ZE Z6 x.toNat,ZD set] w λe w'=>e=.returned (ZB r)/\w'=w:=by have:=Oct.stands_any (x.toNat:Int) set w ht;rw [stands_isIn,hq] at this;exact this
theorem rtrimOf_any (s set:ByteArray) (w:World) (ht:set.size<=maxLen) (hs:s.size<=maxLen):Calls Mm 169 #[ZD s,ZD set] w λe w'=>e=.returned (ZD (trimOf s set))/\w'=w:=by
 unfold maxLen at hs;go_enter Tryz.func169,Tryz.ntmps169;go_wp2
 go_loop [0] (λx=>∃t:ByteArray,x=ZD t/\t.size<=s.size/\Hid (t.data.toList.dropWhile (isIn set)=s.data.toList.dropWhile (isIn set))) (λx=>tbytes x)
 case atStart=>exact ⟨s,rfl,Gi _,Dl rfl⟩
 case round=>
  obtain ⟨t,rfl,hts,hdw⟩:=hrel;by_cases hgo:∃h:0<t.size,isIn set t[0]=true
  ·obtain ⟨h0,hq⟩:=hgo;have HC:=Dl (in_any t[0] true set w ht hq);obtain ⟨e1,e2,e3⟩:=first_of t h0
   have HD:=Dl (show (t.extract 1 t.size).data.toList.dropWhile (isIn set)=s.data.toList.dropWhile (isIn set) by
    rw [←hdw.out,e2]
    conv=>rhs;rw [e1,DM,ZN hq])
   have i0:t.toList.isEmpty=false:=e3;have i1:(1:Int)<=(t.size:Int):=ZZ;have i2:(t.size:Int)<=9223372036854775807:=ZZ;have hsz:(t.extract 1 t.size).size=t.size-1:=by rw [Bs];omega
   clear e1 e2 e3 hq;go_wp2_with (go_at_call 194;with_reducible refine HC.out.mono ?_;rintro e w' ⟨rfl,hw⟩;rw [hw];clear hw);go_round
   case rel=>exact ⟨_,rfl,ZZ,HD⟩
   case measure=>simp [tbytes];omega
  ·have hst:t.data.toList.dropWhile (isIn set)=t.data.toList:=by
    rcases Gg t.size with h0 | h0
    ·have:t.data.toList= []:=ET.1 (by rw [len];exact h0);rw [this];rfl
    ·obtain ⟨e1,_,_⟩:=first_of t h0;rw [e1];refine dropWhile_stop ?_;cases hq:isIn set t[0] with
     | false=>rfl
     | true=>exact ZG ⟨h0,hq⟩ hgo
   have hfin:=Dl (show trimL (isIn set) s.data.toList=(t.data.toList.reverse.dropWhile (isIn set)).reverse by unfold trimL;rw [←hdw.out,hst])
   have hlast:=Dl (show∀h:0<t.size,isIn set t[0]=false from λh=>by
    cases hq:isIn set t[0] with
    | false=>rfl
    | true=>exact ZG ⟨h,hq⟩ hgo)
   clear hgo hst;rcases Gg t.size with h0 | h0
   all_goals (first
    |(have i0:t.toList.isEmpty=false:=(first_of t h0).2.2
      have HC:=Dl (in_any t[0] false set w ht (hlast.out h0))
      (go_wp2_with (go_at_call 194;with_reducible refine HC.out.mono ?_;rintro e w' ⟨rfl,hw⟩;rw [hw];clear hw)))
    |(have i0:t.toList.isEmpty=true:=by
       rw [Dv,ET.1 (show t.data.toList.length=0 by rw [len];exact h0)];rfl
      go_wp2))
   all_goals
    clear i0
    go_loop [0] (λx=>∃u:ByteArray,x=ZD u/\u.size<=t.size/\Hid (u.data.toList.reverse.dropWhile (isIn set)=t.data.toList.reverse.dropWhile (isIn set))) (λx=>tbytes x)
    case atStart=>exact ⟨t,rfl,Gi _,Dl rfl⟩
    case round=>
     obtain ⟨u,rfl,hus,hrv⟩:=hrel;rcases Gg u.size with hu0 | hu0
     ·have e0:u.data.toList= []:=ET.1 (by rw [len];exact hu0);have i0:u.toList.isEmpty=true:=by rw [Dv,e0];rfl
      have HF:=Dl (show u=trimOf s set from ba_ext (by rw [trimOf,trimB_list,hfin.out,←hrv.out,e0];rfl));clear e0;go_wp2;go_ret;exact ⟨by rw [←HF.out];rfl,rfl⟩
     ·first
      |(exfalso;omega)
      |(
       obtain ⟨e1,e2,e3⟩:=last_of u hu0;have i0:u.toList.isEmpty=false:=e3;have i1:u.size-1<u.size:=ZZ;have i3:(u.size:Int)-1<(u.size:Int):=ZZ;have i4:0<=(u.size:Int)-1:=ZZ;have i5:IntKind.i64.wrap ((u.size:Int)-1)=(u.size:Int)-1:=wrap_in _ ZZ ZZ;have i6:((u.size:Int)-1).toNat=u.size-1:=ZZ;have i7:(u.size:Int)-1<=(u.size:Int):=ZZ;cases hq:isIn set u[u.size-1] with
       | true=>
         have HC:=Dl (in_any u[u.size-1] true set w ht hq)
         have HD:=Dl (show (u.extract 0 (u.size-1)).data.toList.reverse.dropWhile (isIn set)=t.data.toList.reverse.dropWhile (isIn set) by
          rw [←hrv.out,e2]
          conv=>rhs;rw [e1,F1,List.reverse_singleton,List.singleton_append,DM,ZN hq])
         have hsz:(u.extract 0 (u.size-1)).size=u.size-1:=by rw [Bs];omega
         clear e1 e2 e3 hq;go_wp2_with (go_at_call 194;with_reducible refine HC.out.mono ?_;rintro e w' ⟨rfl,hw⟩;rw [hw];clear hw);go_round
         case rel=>exact ⟨_,rfl,ZZ,HD⟩
         case measure=>simp [tbytes];omega
       | false=>
         have HC:=Dl (in_any u[u.size-1] false set w ht hq)
         have HF:=Dl (show u=trimOf s set from ba_ext (by rw [trimOf,trimB_list,hfin.out,←hrv.out,e1,F1,List.reverse_singleton,List.singleton_append,dropWhile_stop hq];simp));clear e1 e2 e3 hq;go_wp2_with (go_at_call 194;with_reducible refine HC.out.mono ?_;rintro e w' ⟨rfl,hw⟩;rw [hw];clear hw);go_ret;exact ⟨by rw [←HF.out];rfl,rfl⟩)
theorem rtrim_any (s:ByteArray) (w:World) (hs:s.size<=maxLen):Calls Mm 135 #[ZD s] w λe w'=>e=.returned (ZD (trim s))/\w'=w:=by
 have h:=Dl (rtrimOf_any s ⟨#[32,9]⟩ w ZX hs);have e:trimOf s ⟨#[32,9]⟩=trim s:=by
  unfold trimOf trim
  congr 1
  funext x
  simp only [isIn,blank,DE,List.contains_nil,Be]
 rw [e] at h;go_enter Tryz.func135,Tryz.ntmps135;go_wp2_with (go_at_call 169;with_reducible refine h.out.mono ?_;rintro e w' ⟨rfl,rfl⟩);go_ret;exact ⟨rfl,rfl⟩
end
end Txt
theorem XXde6 {P:Prop} (h:P:=by have:=hbr.out.size;simp;omega):P:=h
namespace Txt
open Base Oct
def Part (c:UInt8) (l:List UInt8) (f k:Nat) (done:List (List UInt8)):Prop:=
 (k<=l.length/\f<=k/\parts c l=done++parts c (l.drop f)/\c∉(l.drop f).take (k-f))∨(k=l.length+1/\f=l.length+1/\parts c l=done)
theorem Part.start (c:UInt8) (l:List UInt8):Part c l 0 0 []:=.inl ⟨Gz _,Gi _,rfl,ZW⟩
theorem Part.last {c:UInt8} {l:List UInt8} {f:Nat} {done:List (List UInt8)} (h:Part c l f l.length done):f<=l.length/\Part c l (l.length+1) (l.length+1) (done ++ [l.drop f]):=by
 rcases h with ⟨_,h1,h2,h3⟩ | ⟨h,_⟩
 ·refine ⟨h1,.inr ⟨rfl,rfl,?_⟩⟩;rw [FF (by rw [ER];omega)] at h3;rw [h2,parts_none c _ h3]
 ·omega
theorem Part.hit {c:UInt8} {l:List UInt8} {f k:Nat} {done:List (List UInt8)} (h:Part c l f k done) (hk:k<l.length) (hc:l[k]=c):f<=k/\Part c l (k+1) (k+1) (done ++ [(l.drop f).take (k-f)]):=by
 rcases h with ⟨_,h1,h2,h3⟩ | ⟨h,_⟩
 ·refine ⟨h1,.inl ⟨ZZ,Gi _,?_,ZW⟩⟩;have e:l.drop f=(l.drop f).take (k-f)++c::l.drop (k+1):=by
   conv=>lhs;rw [←FD (k-f) (l.drop f)]
   rw [List.drop_drop,show f+(k-f)=k by omega,DR hk,hc]
  rw [h2]
  conv=>lhs;rw [e]
  rw [parts_cut c _ _ h3,D7];rfl
 ·omega
theorem Part.miss {c:UInt8} {l:List UInt8} {f k:Nat} {done:List (List UInt8)} (h:Part c l f k done) (hk:k<l.length) (hc:l[k]≠c):Part c l f (k+1) done:=by
 rcases h with ⟨_,h1,h2,h3⟩ | ⟨h,_⟩
 ·refine .inl ⟨ZZ,ZZ,h2,?_⟩;have hlt:k-f<(l.drop f).length:=by rw [ER];omega
  rw [show k+1-f=(k-f)+1 by omega,FG hlt,Fj,not_or];refine ⟨h3,?_⟩;rw [List.getElem_drop,Fv];simp only [show f+(k-f)=k by omega];exact λe=>hc e.symm
 ·omega
section
attribute [local go_sem] A8
theorem rsplit_any (s:ByteArray) (c:UInt8) (w:World) (hs:s.size<=1000000000) :
 Calls Mm 166 #[ZD s,ZE Z6 c.toNat] w λe w'=>∃b m cp,e=.returned (.slice b m cp)/\m=(parts c s.data.toList).length/\Strs w' b m ((parts c s.data.toList).map ba)/\Below w.heap.size w w':=by
 obtain ⟨i0,hi,hz0,hz1,hz2⟩:=info_parts text_info;have G1:=Dl hi;have G2:=Dl hz0;have G3:=Dl hz1;have G4:=Dl hz2;clear hi hz0 hz1 hz2;obtain ⟨PS,hPS⟩:∃PS,parts c s.data.toList=PS:=⟨_,rfl⟩;rw [hPS];have HPS:=Dl hPS;clear hPS;go_enter Tryz.func166,Tryz.ntmps166;go_wp2
 go_loopw [5,6,7] (λv fr i wr=>∃(k f:Nat) (done:List (List UInt8)),k<=s.size+1/\f<=s.size+1/\done.length<=k/\fr=ZE Z7 f/\i=ZE Z7 k/\Hid (Part c s.data.toList f k done)/\Hid (wr.ownsRow w.heap.size 9 1 v done.length ((done.map ba).map Value.string))/\Hid (Below w.heap.size w wr)) (λ_ _ i _=>s.size+1-(intOf i).toNat)
 case atStart=>exact ⟨0,0,[],ZZ,ZZ,Gi _,rfl,rfl,Dl (Part.start _ _),Dl ⟨rfl,.inl ⟨rfl,rfl⟩⟩,Dl (AE _ _)⟩
 case round=>
  obtain ⟨k,f,done,hk,hf,hdn,rfl,rfl,hpt,hown,hbr⟩:=hrel;rcases Gp k s.size with hlt | hge
  ·have t0:(k:Int)<=(s.size:Int):=by omega
   have t1:((k:Int)==(s.size:Int))=false:=ZM.2 ZZ;have i1:(k:Int)<(s.size:Int):=ZZ;have hkl:k<s.data.toList.length:=by rw [len];exact hlt
   have e0:s[k]=s.data.toList[k]:=rfl;by_cases hc:s.data.toList[k]=c
   ·have t2:((s[k].toNat:Int)==(c.toNat:Int))=true:=by rw [e0,hc];exact beq_self_eq_true _
    obtain ⟨hfk,hP⟩:=hpt.out.hit hkl hc;have HP:=Dl hP;have ex:s.extract f k=ba ((s.data.toList.drop f).take (k-f)):=ba_ext (by rw [Di];rfl);have c1:(f:Int)<=(k:Int):=ZZ;have m1:IntKind.i64.wrap ((k:Int)+1)=((k+1:Nat):Int):=by rw [wrap_in _ ZZ ZZ];omega
    clear hP hpt hc e0;generalize (s.data.toList.drop f).take (k-f)=p at *;have HX:=Dl ex;clear ex
    go_wp2_with (at_builtin;refine wpList_append_own _ rfl _ _ 124 rfl w.heap.size 9 i0 (.string Bp) 1 16 MV G1.out G2.out G3.out G4.out rfl ZX _ _ _ rfl (hown.out.alloc _) ⟨wr.heap.size,0,none⟩ 1 1 [.string (s.extract f k)] rfl rfl ?c1 ?c2 ?c3 ?c4 ?c5 ?_)
    case c1=>exact news_one wr _ _
    case c2=>intro u hu;obtain rfl:u=ZD (s.extract f k):=by simpa using hu
             rfl
    case c3=>unfold maxLen;omega
    case c4=>omega
    case c5=>have:=hbr.out.size;simp;omega
    intro v' w' hown' hgr _
    have H2:Hid (w'.ownsRow w.heap.size 9 1 v' (done ++ [p]).length (((done ++ [p]).map ba).map Value.string)):=Dl (by rw [HX.out] at hown';simpa using hown');have H3:=Dl ((hbr.out.alloc hbr.out.size _).grown hgr XXde6 (own_base hown.out));clear hown' hgr hown hbr;go_wp2;go_roundw
    case rel=>exact ⟨k+1,k+1,done ++ [p],ZZ,ZZ,XXfa1,ZT,ZT,HP,H2,H3⟩
    case measure=>simp [intOf];omega
   ·have t2:((s[k].toNat:Int)==(c.toNat:Int))=false:=ZM.2 λe=>hc (NI.1 (by rw [e0] at e;omega));have HP:=Dl (hpt.out.miss hkl hc);clear hpt hc e0;go_wp2;go_roundw
    case rel=>exact ⟨k+1,f,done,ZZ,hf,ZZ,rfl,ZT,HP,hown,hbr⟩
    case measure=>simp [intOf];omega
  ·rcases Gp s.size k with hgt | hle
   ·obtain rfl:k=s.size+1:=by omega
    have t0:¬((s.size+1:Nat):Int)<=(s.size:Int):=ZZ;have hfin:done=PS:=by
     rcases hpt.out with ⟨h,_⟩ | ⟨_,_,h⟩
     ·rw [len] at h;omega
     ·rw [←h,HPS.out]
    subst hfin;obtain ⟨A,cp,rfl,hA⟩:=Strs.of_own hown.out;have HA:=Dl hA;clear hA hown hpt;go_wp2;go_ret;first | exact ⟨A,⟨cp,rfl⟩,HA.out,hbr.out⟩ | exact ⟨A,_,⟨cp,rfl⟩,rfl,HA.out,hbr.out⟩ | exact ⟨A,_,⟨cp,rfl⟩,HA.out,hbr.out⟩
   ·obtain rfl:k=s.size:=by omega
    have hpt':=hpt.out;rw [←len s] at hpt';obtain ⟨hfk,hP⟩:=hpt'.last;rw [len] at hfk hP;have HP:=Dl hP;have ex:s.extract f s.size=ba (s.data.toList.drop f):=ba_ext XXabb;have c1:(f:Int)<=(s.size:Int):=ZZ;have t0:(s.size:Int)<=(s.size:Int):=ZZ;have t1:((s.size:Int)==(s.size:Int))=true:=beq_self_eq_true _;have m1:IntKind.i64.wrap ((s.size:Int)+1)=((s.size+1:Nat):Int):=by rw [wrap_in _ ZZ ZZ];omega
    clear hP hpt hpt';generalize s.data.toList.drop f=p at *;have HX:=Dl ex;clear ex
    go_wp2_with (at_builtin;refine wpList_append_own _ rfl _ _ 124 rfl w.heap.size 9 i0 (.string Bp) 1 16 MV G1.out G2.out G3.out G4.out rfl ZX _ _ _ rfl (hown.out.alloc _) ⟨wr.heap.size,0,none⟩ 1 1 [.string (s.extract f s.size)] rfl rfl ?c1 ?c2 ?c3 ?c4 ?c5 ?_)
    case c1=>exact news_one wr _ _
    case c2=>intro u hu;obtain rfl:u=ZD (s.extract f s.size):=by simpa using hu
             rfl
    case c3=>unfold maxLen;omega
    case c4=>omega
    case c5=>have:=hbr.out.size;simp;omega
    intro v' w' hown' hgr _
    have H2:Hid (w'.ownsRow w.heap.size 9 1 v' (done ++ [p]).length (((done ++ [p]).map ba).map Value.string)):=Dl (by rw [HX.out] at hown';simpa using hown');have H3:=Dl ((hbr.out.alloc hbr.out.size _).grown hgr XXde6 (own_base hown.out));clear hown' hgr hown hbr;go_wp2;go_roundw
    case rel=>exact ⟨s.size+1,s.size+1,done ++ [p],ZZ,ZZ,XXfa1,ZT,ZT,HP,H2,H3⟩
    case measure=>simp [intOf]
end
end Txt
namespace Txt
open Base Oct
theorem drop_at (l:List UInt8) (f k:Nat) (hfk:f<=k) (hk:k<l.length):l.drop f=(l.take k).drop f++l[k]::l.drop (k+1):=by conv=>lhs;rw [←FD k l,List.drop_append_of_le_length (by rw [Fc];omega),DR hk]
theorem mid_snoc (l:List UInt8) (f k:Nat) (hfk:f<=k) (hk:k<l.length):(l.take (k+1)).drop f=(l.take k).drop f ++ [l[k]]:=by rw [FG hk,List.drop_append_of_le_length (by rw [Fc];omega)]
section
attribute [local go_sem] A8
theorem rsplit_own (s:ByteArray) (c:UInt8) (w:World) (hs:s.size<=1000000000) :
 Calls Mm 166 #[ZD s,ZE Z6 c.toNat] w λe w'=>∃g n k,e=.returned (ZC (some ⟨g,0,none⟩) n k)/\w.heap.size<=g/\n=(parts c s.data.toList).length/\Strs w' (some ⟨g,0,none⟩) n ((parts c s.data.toList).map ba)/\w.heap.size<w'.heap.size/\Below w.heap.size w w':=by
 obtain ⟨i0,hi,hz0,hz1,hz2⟩:=info_parts text_info;have G1:=Dl hi;have G2:=Dl hz0;have G3:=Dl hz1;have G4:=Dl hz2;clear hi hz0 hz1 hz2;have hpl:=parts_le c s.data.toList;rw [len] at hpl;have hp1:0<(parts c s.data.toList).length:=by rw [parts_length];omega
 go_enter Tryz.func166,Tryz.ntmps166;go_wp2
 go_loopw [5,6,7] (λv f i wr=>∃(k fr:Nat) (done:List (List UInt8)),f=ZE Z7 fr/\i=ZE Z7 k/\done.length<=k/\Hid (wr.ownsRow w.heap.size 9 1 v done.length ((done.map ba).map Value.string))/\Hid (Below w.heap.size w wr)/\
  ((fr<=k/\k<=s.size/\Hid (done++parts c (s.data.toList.drop fr)=parts c s.data.toList)/\Hid (c∉(s.data.toList.take k).drop fr))∨(k=s.size+1/\Hid (done=parts c s.data.toList)))) (λ_ _ i _=>s.size+1-(intOf i).toNat)
 case atStart=>exact ⟨0,0,[],rfl,rfl,Gi _,Dl ⟨rfl,.inl ⟨rfl,rfl⟩⟩,Dl (AE _ _),.inl ⟨Gi _,Gz _,Dl rfl,Dl ZW⟩⟩
 case round=>
  obtain ⟨k,fr,done,rfl,rfl,hdl,hown,hbr,hcase⟩:=hrel;rcases hcase with ⟨hfk,hks,hdone,hno⟩ | ⟨rfl,hdone⟩
  ·have t0:(k:Int)<=(s.size:Int):=by omega
   have t1:(fr:Int)<=(k:Int):=ZZ;have t9:wrap64 ((k:Int)+1)=(k:Int)+1:=by unfold wrap64;omega
   rcases Gp k s.size with hlt | hge
   ·have hll:k<s.data.toList.length:=by rw [len];exact hlt
    have t2:(k:Int)<(s.size:Int):=ZZ;have t3:((k:Int)==(s.size:Int))=false:=ZM.2 ZZ;by_cases hc:s.data.toList[k]=c
    ·have t4:((s[k].toNat:Int)==(c.toNat:Int))=true:=by rw [show s[k]=c from hc];exact beq_self_eq_true _
     have hcut:=parts_cut c ((s.data.toList.take k).drop fr) (s.data.toList.drop (k+1)) hno.out;rw [←hc,←drop_at _ _ _ hfk hll,hc] at hcut;have hx:(s.extract fr k)=ba ((s.data.toList.take k).drop fr):=ba_ext (by rw [Di];show _=(s.data.toList.take k).drop fr;rw [List.drop_take]);have HX:=Dl hx;have HD:=Dl (show (done ++ [(s.data.toList.take k).drop fr])++parts c (s.data.toList.drop (k+1))=parts c s.data.toList by rw [←hdone.out,hcut,D7];rfl);clear hcut hx hc hno;generalize (s.data.toList.take k).drop fr=p at *
     go_wp2_with (at_builtin;refine wpList_append_own _ rfl _ _ 124 rfl w.heap.size 9 i0 (.string Bp) 1 16 MV G1.out G2.out G3.out G4.out rfl ZX _ _ _ rfl (hown.out.alloc _) ⟨wr.heap.size,0,none⟩ 1 1 [.string (s.extract fr k)] rfl rfl ?c1 ?c2 ?c3 ?c4 ?c5 ?_)
     case c1=>exact news_one wr _ _
     case c2=>intro u hu;obtain rfl:u=ZD (s.extract fr k):=by simpa using hu
              rfl
     case c3=>unfold maxLen;omega
     case c4=>omega
     case c5=>have:=hbr.out.size;simp;omega
     intro v' w' hown' hgr _
     have H1:Hid (w'.ownsRow w.heap.size 9 1 v' (done ++ [p]).length (((done ++ [p]).map ba).map Value.string)):=Dl (by rw [HX.out] at hown';simpa using hown');have H2:=Dl ((hbr.out.alloc hbr.out.size _).grown hgr XXde6 (own_base hown.out));have hdl2:(done ++ [p]).length<=k+1:=by rw [EO];simp;omega
     clear hown' hgr;go_wp2;go_roundw
     case rel=>exact ⟨k+1,k+1,done ++ [p],ZT,ZT,hdl2,H1,H2,.inl ⟨Gi _,ZZ,HD,Dl (by rw [DS (by rw [Fc];omega)];simp)⟩⟩
     case measure=>simp [intOf];omega
    ·have t4:((s[k].toNat:Int)==(c.toNat:Int))=false:=ZM.2 (λe=>hc (show s[k]=c from NI.1 ZZ))
     have HN:=Dl (show c∉(s.data.toList.take (k+1)).drop fr by
      rw [mid_snoc _ _ _ hfk hll,Fj]
      rintro (h | h)
      ·exact hno.out h
      ·exact hc (Fv.1 h).symm)
     clear hno;go_wp2;go_roundw
     case rel=>exact ⟨k+1,fr,done,rfl,ZT,ZZ,hown,hbr,.inl ⟨ZZ,ZZ,hdone,HN⟩⟩
     case measure=>simp [intOf];omega
   ·obtain rfl:k=s.size:=by omega
    ·have t3:((s.size:Int)==(s.size:Int))=true:=beq_self_eq_true _;have hno':=hno.out;rw [take_all s _ (Gi _)] at hno';have hcut:=parts_none c (s.data.toList.drop fr) hno';have hx:(s.extract fr s.size)=ba (s.data.toList.drop fr):=ba_ext (by rw [Di,FF (by rw [ER,len];exact Gi _)];rfl);have HX:=Dl hx;have HD:=Dl (show done ++ [s.data.toList.drop fr]=parts c s.data.toList by rw [←hdone.out,hcut]);clear hcut hx hno hno';generalize s.data.toList.drop fr=p at *;generalize hk:s.size=k at *
     go_wp2_with (at_builtin;refine wpList_append_own _ rfl _ _ 124 rfl w.heap.size 9 i0 (.string Bp) 1 16 MV G1.out G2.out G3.out G4.out rfl ZX _ _ _ rfl (hown.out.alloc _) ⟨wr.heap.size,0,none⟩ 1 1 [.string (s.extract fr k)] rfl rfl ?c1 ?c2 ?c3 ?c4 ?c5 ?_)
     case c1=>exact news_one wr _ _
     case c2=>intro u hu;obtain rfl:u=ZD (s.extract fr k):=by simpa using hu
              rfl
     case c3=>unfold maxLen;omega
     case c4=>omega
     case c5=>have:=hbr.out.size;simp;omega
     intro v' w' hown' hgr _
     have H1:Hid (w'.ownsRow w.heap.size 9 1 v' (done ++ [p]).length (((done ++ [p]).map ba).map Value.string)):=Dl (by rw [HX.out] at hown';simpa using hown');have H2:=Dl ((hbr.out.alloc hbr.out.size _).grown hgr XXde6 (own_base hown.out));have hdl2:(done ++ [p]).length<=k+1:=by rw [EO];simp;omega
     clear hown' hgr;go_wp2;go_roundw
     case rel=>exact ⟨k+1,k+1,done ++ [p],ZT,ZT,hdl2,H1,H2,.inr ⟨rfl,HD⟩⟩
     case measure=>(simp [intOf]<;>omega)
  ·have t0:¬((s.size:Int)+1<=(s.size:Int)):=by omega
   have hdn:=hdone.out;subst hdn;obtain ⟨g,cap,rfl,hg0,hg1⟩:=hown.out.form hp1
   have HS:=Dl (show Strs wr (some ⟨g,0,none⟩) (parts c s.data.toList).length ((parts c s.data.toList).map ba) by
    obtain ⟨A,cc,e,hS⟩:=Strs.of_own (ss:=(parts c s.data.toList).map ba) hown.out;obtain ⟨rfl,rfl⟩:some ⟨g,0,none⟩=A/\cap=cc:=by simpa using e
    exact hS)
   clear hown hdone;go_wp2;go_ret;exact ⟨g,_,⟨cap,rfl⟩,hg0,rfl,HS.out,ZZ,hbr.out⟩
theorem rsplit44 (s:ByteArray) (w:World) (hs:s.size<=1000000000) :
 Calls Mm 166 #[ZD s,ZE Z6 44] w λe w'=>∃g n k,e=.returned (ZC (some ⟨g,0,none⟩) n k)/\w.heap.size<=g/\n=(parts 44 s.data.toList).length/\Strs w' (some ⟨g,0,none⟩) n ((parts 44 s.data.toList).map ba)/\w.heap.size<w'.heap.size/\Below w.heap.size w w':=
 rsplit_own s 44 w hs
theorem rlist_own (a:Option Addr) (n cap:Nat) (vs:List ByteArray) (w:World) (hv:Strs w a n vs) (hr:room vs<=1000000000) :
 Calls Mm 119 #[.slice a n cap] w λe w'=>∃v,e=.returned v/\w'.ownsRow w.heap.size 9 1 v (list vs).length ((list vs).map Value.string)/\Below w.heap.size w w':=by
 have hle:=list_le vs;have hnr:=len_room vs;rw [hv.1] at hnr;have HV:=Dl hv;have HL:=Dl hv.1;clear hv;obtain ⟨i0,hi,hz0,hz1,hz2⟩:=info_parts text_info;have G1:=Dl hi;have G2:=Dl hz0;have G3:=Dl hz1;have G4:=Dl hz2;clear hi hz0 hz1 hz2;go_enter Tryz.func119,Tryz.ntmps119;go_wp2
 go_loopw [3,4] (λv i wr=>∃k:Nat,k<=n/\i=ZE Z7 k/\Hid (wr.ownsRow w.heap.size 9 1 v (list (vs.take k)).length ((list (vs.take k)).map Value.string))/\Hid (Below w.heap.size w wr)) (λ_ i _=>n-(intOf i).toNat)
 case atStart=>exact ⟨0,Gz _,rfl,Dl ⟨rfl,.inl ⟨rfl,rfl⟩⟩,Dl (AE _ _)⟩
 case round=>
  obtain ⟨k,hk,rfl,hown,hbr⟩:=hrel;rcases Gp k n with hlt | hge
  ·obtain ⟨bl,off,rfl,_,hc⟩:=(HV.out.below hbr.out).2 ZZ;have hck:=hc k hlt
   have hsn:=Dl (list_snoc vs k (by rw [HL.out];exact hlt));have hle1:=list_take_le vs (k+1);rw [hsn.out,EO] at hle1;have hsz:(vs[k]?.getD Bp).size<=1000000000:=by
    have:k<vs.length:=by rw [HL.out];exact hlt
    rw [Et this];have h2:(vs[k].size+1)<=room vs:=by exact room_mem vs _ (EB _)
    show vs[k].size<=_;omega
   clear hc;generalize vs[k]?.getD Bp=x at *
   have HP:=Dl (rsplit44 x wr hsz);have hpm:=Dl (partsOf_map x);have hpl:(partsOf x).length=((parts 44 x.data.toList).map ba).length:=by rw [hpm.out,EV]
   have hp0:((parts 44 x.data.toList).map ba).length=(parts 44 x.data.toList).length:=EV _;rw [←hp0] at HP
   have hps:=Dl (show∀y∈(parts 44 x.data.toList).map ba,y.size<4294967281 from λy hy=>by obtain ⟨l,hl,rfl⟩:=List.mem_map.1 hy;have:=parts_size 44 _ l hl;rw [len] at this;rw [ba_size];omega);generalize (parts 44 x.data.toList).map ba=P at *;clear hp0;generalize list (vs.take k)=L at *
   go_wp2_with (go_at_call 166;with_reducible refine HP.out.mono ?_;rintro e w1 ⟨B,n1,c1,rfl,hgB,hn1,hS,hg1,hb1⟩)
   have hB1:=Dl (A6 hbr.out hb1);have hown1:=Dl (own_below hown.out hb1);have hS':=Dl hS;have hne:=Dl (show∀g,u3.ownBlock=some g->g≠B from λg hg=>by have:=(hown.out.lt g hg).2;omega);clear hgB;clear hS hb1 HP hown hbr
   go_loopw [3,6] (λv i wq=>∃j:Nat,j<=n1/\i=ZE Z7 j/\w1.heap.size<=wq.heap.size/\Hid (wq.ownsRow w.heap.size 9 1 v (L.length+j) ((L++(P.map trim).take j).map Value.string))/\Hid (Below w.heap.size w wq)/\Hid (∀g,v.ownBlock=some g->g≠B)/\Hid (Strs wq (some ⟨B,0,none⟩) n1 P)) (λ_ i _=>n1-(intOf i).toNat)
   case atStart=>exact ⟨0,Gz _,rfl,Gi _,by rw [List.take_zero,D8];exact hown1,hB1,hne,hS'⟩
   case round=>
    obtain ⟨j,hj,rfl,hsz,hown,hbq,hne,hSq⟩:=hrel;rcases Gp j n1 with hlj | hgj
    ·obtain ⟨bs,os,e,hbs,hc⟩:=hSq.out.2 ZZ;obtain ⟨rfl,rfl⟩:B=bs/\0=os:=by simpa using e
     have hcj:=hc j hlj;rw [Gy] at hcj;have HS1:=Dl (map_snoc trim Bp P j ZZ);clear hc e;have hys:(P[j]?.getD Bp).size<=maxLen:=by exact XX3G6
     generalize P[j]?.getD Bp=y at *;have HT:=Dl (λw=>rtrim_any y w hys);clear hys
     go_wp2_with (first
      |(go_at_call 135;with_reducible refine Cm (HT.out _) ?_)
      |(at_builtin;(refine wpList_append_own_at _ rfl _ _ 124 rfl w.heap.size 9 i0 (.string Bp) 1 16 MV G1.out G2.out G3.out G4.out rfl ZX _ _ _ rfl (hown.out.alloc _) ⟨wr.heap.size,0,none⟩ 1 1 [.string (trim y)] rfl rfl ?c1 ?c2 ?c3 ?c4 ?c5 ?_)))
     case c1=>exact news_one wr _ _
     case c2=>intro u hu;obtain rfl:u=ZD (trim y):=by simpa using hu
              rfl
     case c3=>unfold maxLen;omega
     case c4=>omega
     case c5=>have:=hbq.out.size;simp;omega
     exact XXOmL
    ·exact XX1YI
  ·exact XXL2M
theorem rlist_any (a:Option Addr) (n cap:Nat) (vs:List ByteArray) (w:World) (hv:Strs w a n vs) (hr:room vs<=1000000000) :
 Calls Mm 119 #[.slice a n cap] w λe w'=>∃b m c,e=.returned (.slice b m c)/\m=(list vs).length/\Strs w' b m (list vs)/\Below w.heap.size w w':=
 (rlist_own a n cap vs w hv hr).mono (by
   rintro e w' ⟨v,rfl,ho,hb⟩;obtain ⟨A,c,rfl,hA⟩:=Strs.of_own ho;exact ⟨A,_,c,rfl,rfl,hA,hb⟩)
theorem rfind_any (a:Option Addr) (n cap:Nat) (fs:List Fld) (name:ByteArray) (w:World) (hv:Flds w a n fs) (hn:n<=1000000000) (hs:∀f∈fs,f.1.size<=1000000000) (ht:name.size<=1000000000) :
 Calls Mm 102 #[.slice a n cap,ZD name] w λe w'=>∃b m c,e=.returned (.slice b m c)/\m=(find fs name).length/\Strs w' b m (find fs name)/\Below w.heap.size w w':=by
 have HV:=Dl hv;have HL:=Dl hv.1;have HS:=Dl hs;clear hv hs;obtain ⟨i0,hi,hz0,hz1,hz2⟩:=info_parts text_info;have G1:=Dl hi;have G2:=Dl hz0;have G3:=Dl hz1;have G4:=Dl hz2;clear hi hz0 hz1 hz2;go_enter Tryz.func102,Tryz.ntmps102;go_wp2
 go_loopw [5,6] (λv i wr=>∃k:Nat,k<=n/\i=ZE Z7 k/\Hid (wr.ownsRow w.heap.size 9 1 v (find (fs.take k) name).length ((find (fs.take k) name).map Value.string))/\Hid (Below w.heap.size w wr)) (λ_ i _=>n-(intOf i).toNat)
 case atStart=>exact ⟨0,Gz _,rfl,Dl ⟨rfl,.inl ⟨rfl,rfl⟩⟩,Dl (AE _ _)⟩
 case round=>
  obtain ⟨k,hk,rfl,hown,hbr⟩:=hrel;rcases Gp k n with hlt | hge
  ·obtain ⟨bl,off,rfl,hbl,hc⟩:=(HV.out.below hbr.out).2 ZZ;obtain ⟨hc0,hc1⟩:=hc k hlt;have hsn:=Dl (find_snoc fs name k (by rw [HL.out];exact hlt));have hfl:=find_le (fs.take k) name;rw [Fc] at hfl;have hsz:(fs[k]?.getD dflt).1.size<=1000000000:=by
    have:k<fs.length:=by rw [HL.out];exact hlt
    rw [Et this]
    exact HS.out _ (EB _)
   clear hc;generalize fs[k]?.getD dflt=f at *;generalize hL:find (fs.take k) name=L at *;obtain ⟨f0,f1⟩:=f;simp only at hc0 hc1 hsz hsn;have HC:=Dl (λw=>rsame_any f0 name w ZZ ZZ);clear hsz hL;cases hq:same f0 name with
   | false=>
     rw [hq] at HC hsn;rw [ZO ZX,D8] at hsn;clear hq;go_wp2_with (go_at_call 148;with_reducible refine (HC.out _).mono ?_;rintro e w2 ⟨rfl,hb2⟩);have hb0:Below wr.heap.size wr w2:=hb2
     have H2:Hid (w2.ownsRow w.heap.size 9 1 u5 (find (fs.take (k+1)) name).length ((find (fs.take (k+1)) name).map Value.string)):=Dl (by rw [hsn.out];exact own_below hown.out hb0);have H3:=Dl (A6 hbr.out hb0);clear hown hb2 hb0;exact XXuDV
   | true=>
     rw [hq] at HC hsn;rw [ZN rfl] at hsn;clear hq
     go_wp2_with (first
      |(go_at_call 148;with_reducible refine (HC.out _).mono ?_;rintro e w2 ⟨rfl,hb2⟩
        have hf1:=(hb2.cell (p:=⟨bl,off+k*2+1,none⟩) hbl).trans hc1
        have hb0:=Dl (show Below wr.heap.size wr w2 from hb2)
        have hown0:=Dl (own_below hown.out hb0.out))
      |(at_builtin;refine wpList_append_own _ rfl _ _ 124 rfl w.heap.size 9 i0 (.string Bp) 1 16 MV G1.out G2.out G3.out G4.out rfl ZX _ _ _ rfl (hown0.out.alloc _) ⟨w2.heap.size,0,none⟩ 1 1 [.string f1] rfl rfl ?c1 ?c2 ?c3 ?c4 ?c5 ?_))
     case c1=>exact news_one w2 _ _
     case c2=>intro u hu;obtain rfl:u=ZD f1:=by simpa using hu
              rfl
     case c3=>unfold maxLen;omega
     case c4=>omega
     case c5=>have:=hbr.out.size;have:=hb0.out.size;simp;omega
     exact XXLIl
  ·exact XXR68
end
end Txt
namespace Rec
open Base Txt
section
attribute [local go_sem] A8
end
end Rec
namespace Rec
open Base Txt
def RecAt (w:World) (b o:Nat) (r:R):Prop:=
 ∃(fa:Option Addr) (fc:Nat) (ba:Option Addr) (bc:Nat) (ta:Option Addr) (tc:Nat),
  (w.cell? ⟨b,o,none⟩=some (ZD r.m)/\w.cell? ⟨b,o+1,none⟩=some (ZD r.x)/\w.cell? ⟨b,o+2,none⟩=some (ZE Z7 r.k)/\w.cell? ⟨b,o+3,none⟩=some (.slice fa r.fs.length fc)/\
   w.cell? ⟨b,o+4,none⟩=some (ZB r.ch)/\w.cell? ⟨b,o+5,none⟩=some (.slice ba r.body.length bc)/\w.cell? ⟨b,o+6,none⟩=some (.slice ta r.ts.length tc))/\
  Reads w (Z9 #[ZD r.m,ZD r.x,ZE Z7 r.k,.slice fa r.fs.length fc,ZB r.ch,.slice ba r.body.length bc,.slice ta r.ts.length tc]) r
theorem RecAt.below {w w':World} {b o:Nat} {r:R} (h:RecAt w b o r) (hlt:b<w.heap.size) (hb:Below w.heap.size w w'):RecAt w' b o r:=by
 obtain ⟨fa,fc,ba,bc,ta,tc,⟨c0,c1,c2,c3,c4,c5,c6⟩,hr⟩:=h
 exact ⟨fa,fc,ba,bc,ta,tc,⟨(hb.cell (p:=⟨b,o,none⟩) hlt).trans c0,(hb.cell (p:=⟨b,o+1,none⟩) hlt).trans c1,(hb.cell (p:=⟨b,o+2,none⟩) hlt).trans c2,(hb.cell (p:=⟨b,o+3,none⟩) hlt).trans c3,
  (hb.cell (p:=⟨b,o+4,none⟩) hlt).trans c4,(hb.cell (p:=⟨b,o+5,none⟩) hlt).trans c5,(hb.cell (p:=⟨b,o+6,none⟩) hlt).trans c6⟩,hr.below hb⟩
def r0:R:=⟨Bp,Bp,0,[],false,[],[]⟩
def Recs (w:World) (a:Option Addr) (n:Nat) (rs:List R):Prop:=
 rs.length=n/\(0<n->∃b off,a=some ⟨b,off,none⟩/\b<w.heap.size/\∀k,k<n->RecAt w b (off+k*7) (rs[k]?.getD r0))
theorem Recs.below {w w':World} {a:Option Addr} {n:Nat} {rs:List R} (h:Recs w a n rs) (hb:Below w.heap.size w w'):Recs w' a n rs:=by exact XXsyZ
theorem all_iff:∀a b:List R,all a b=true↔a=b
 | [],[]=>by simp [all]
 | [],_ :: _=>by simp [all]
 | _ :: _,[]=>by simp [all]
 | x::a,y::b=>by rw [all,AM,same_iff,all_iff a b,List.cons.injEq]
theorem all_len (a b:List R) (h:¬a.length=b.length):all a b=false:=by
 rw [Bool.eq_false_iff]
 exact λe=>h (by rw [(all_iff a b).1 e])
theorem take_eq (xs ys:List R) (k:Nat) (hx:k<xs.length) (hy:k<ys.length) (h:xs.take k=ys.take k) (e:xs[k]?.getD r0=ys[k]?.getD r0):xs.take (k+1)=ys.take (k+1):=by exact XXzUO
theorem fit_at {rs:List R} (h:∀r∈rs,Fit r) (k:Nat) (hk:k<rs.length):Fit (rs[k]?.getD r0):=by rw [Et hk];exact h _ (EB hk)
theorem flat_at {α:Type} (f:α->List Value):∀(ps:List α) (k i:Nat) (hk:k<ps.length),(∀p∈ps,(f p).length=7)->i<7->(ps.flatMap f)[k*7+i]?=(f ps[k])[i]?
 | [],k,_,hk,_,_=>by simp at hk
 | p::ps,0,i,_,h,hi=>by
   rw [List.flatMap_cons,Nat.zero_mul,Gy,List.getElem?_append_left (by rw [h p ZW];exact hi)];rfl
 | p::ps,k+1,i,hk,h,hi=>by
   have h7:=h p ZW;rw [List.flatMap_cons,List.getElem?_append_right (by rw [h7];omega),h7,show (k+1)*7+i-7=k*7+i by omega];simpa using flat_at f ps k i (by simpa using hk) (λq hq=>h q (by simp [hq])) hi
theorem Recs.lit {w:World} {g:Nat} (ps:List (Array Value × R)) (hB:Bk w g (ps.flatMap (·.1.toList))) (hR:∀p∈ps,Reads w (.agg p.1) p.2):Recs w (some ⟨g,0,none⟩) ps.length (ps.map (·.2)):=by
 refine ⟨ZW,λ_=>⟨g,0,rfl,hB.lt,λk hk=>?_⟩⟩;have hlen:∀p∈ps,p.1.toList.length=7:=λp hp=>by obtain ⟨fa,fc,ba,bc,ta,tc,e,_⟩:=hR p hp;simp only [Value.agg.injEq] at e;rw [e];rfl
 have h:=hR ps[k] (EB hk);obtain ⟨fa,fc,ba,bc,ta,tc,e,h1,h2,h3⟩:=id h;simp only [Value.agg.injEq] at e;have hv:(ps.map (·.2))[k]?.getD r0=ps[k].2:=by rw [Ew,Et hk];rfl
 have hc:∀i v,i<7->ps[k].1.toList[i]?=some v->w.cell? ⟨g,k*7+i,none⟩=some v:=λi v hi hv=>hB.c _ _ ((flat_at _ ps k i hk hlen hi).trans hv);rw [e] at hc;rw [Gy,hv];refine ⟨fa,fc,ba,bc,ta,tc,⟨hc 0 _ ZX rfl,hc 1 _ ZX rfl,hc 2 _ ZX rfl,hc 3 _ ZX rfl,hc 4 _ ZX rfl,hc 5 _ ZX rfl,hc 6 _ ZX rfl⟩,?_⟩;rw [←e];exact h
section
theorem equalFunc_any (a:Option Addr) (n cap:Nat) (rs:List R) (b:Option Addr) (m cap2:Nat) (qs:List R) (w:World) (hv:Recs w a n rs) (hu:Recs w b m qs) (hn:n<=1000000000) (hm:m<=1000000000) (hf:∀r∈rs,Fit r) (hg:∀r∈qs,Fit r) :
 Calls Mm 150 #[.slice a n cap,.slice b m cap2,.func (.func 151) #[] #[]] w λe w'=>e=.returned (ZB (all rs qs))/\Below w.heap.size w w':=by
 have eg:∀args w,(callFunc 151 args).run Mm w=.ok (.enter 151 args) w:=enters_of Tryz.func151 ZY rfl;have HV:=Dl hv;have HU:=Dl hu;have HF:=Dl hf;have HG:=Dl hg;have HL:=Dl hv.1;have HM:=Dl hu.1;by_cases hnm:n=m
 ·subst hnm;clear hv hu hf hg;obtain ⟨B,hB⟩:∃B,all rs qs=B:=⟨_,rfl⟩;rw [hB];have HB:=Dl hB;clear hB;go_enter Tryz.func150,Tryz.ntmps150;go_wp2
  go_loopw [17] (λi wr=>∃k:Nat,k<=n/\i=ZE Z7 k/\Hid (rs.take k=qs.take k)/\Hid (Below w.heap.size w wr)) (λi _=>n-(intOf i).toNat)
  case atStart=>exact ⟨0,Gz _,rfl,Dl rfl,Dl (AE _ _)⟩
  case round=>
   obtain ⟨k,hk,rfl,hpre,hbr⟩:=hrel;rcases Gp k n with hlt | hge
   ·obtain ⟨bl,off,rfl,hbl,hc⟩:=(HV.out.below hbr.out).2 ZZ;obtain ⟨bl',off',rfl,hbl',hc'⟩:=(HU.out.below hbr.out).2 ZZ;have hkr:k<rs.length:=by rw [HL.out];exact hlt
    have hkq:k<qs.length:=by rw [HM.out];exact hlt
    have h1:=hc k hlt;have h2:=hc' k hlt;have f1:=fit_at HF.out k hkr;have f2:=fit_at HG.out k hkq
    have HN:=Dl (take_eq rs qs k hkr hkq hpre.out);have HX:=Dl (show rs=qs->rs[k]?.getD r0=qs[k]?.getD r0 from λe=>by rw [e]);clear hc hc' hkr hkq;generalize rs[k]?.getD r0=x at *;generalize qs[k]?.getD r0=y at *;obtain ⟨fa,fc,ba,bc,ta,tc,⟨c0,c1,c2,c3,c4,c5,c6⟩,hr1⟩:=h1;obtain ⟨fa',fc',ba',bc',ta',tc',⟨d0,d1,d2,d3,d4,d5,d6⟩,hr2⟩:=h2
    have HC:=Dl (λw2 (hb:Below wr.heap.size wr w2)=>same_any _ _ _ _ w2 (hr1.below hb) (hr2.below hb) f1 f2);have hb2:=Dl (((AE _ _).alloc (Gi _) (.cells #[ZD x.m,ZD x.x,ZE Z7 x.k,.slice fa x.fs.length fc,ZB x.ch,.slice ba x.body.length bc,.slice ta x.ts.length tc] 58)).alloc ZW (.cells #[ZD y.m,ZD y.x,ZE Z7 y.k,.slice fa' y.fs.length fc',ZB y.ch,.slice ba' y.body.length bc',.slice ta' y.ts.length tc'] 58):Below wr.heap.size wr _);have i1:(k:Int)<(n:Int):=ZZ;clear hr1 hr2 f1 f2;cases hq:same x y with
    | true=>
      have HE:=Dl (HN.out ((same_iff _ _).1 hq));rw [hq] at HC;clear HN HX hq
      go_wp2_with (go_at_fn 151;with_reducible refine (HC.out _ hb2.out).mono ?_;rintro e w2 ⟨rfl,hb3⟩);have H3:=Dl (A6 hbr.out (A6 hb2.out hb3));clear hb3;go_roundw
      case rel=>exact ⟨k+1,ZZ,ZT,HE,H3⟩
      case measure=>simp [intOf];omega
    | false=>
      have HE:=Dl (show B=false by
       rw [←HB.out,Bool.eq_false_iff];intro e;have:=(same_iff _ _).2 (HX.out ((all_iff _ _).1 e));rw [hq] at this;cases this)
      rw [hq] at HC;clear HN HX hq;go_wp2_with (go_at_fn 151;with_reducible refine (HC.out _ hb2.out).mono ?_;rintro e w2 ⟨rfl,hb3⟩);go_ret;exact ⟨by first | rfl |(rw [HE.out];rfl),A6 hbr.out (A6 hb2.out hb3)⟩
   ·obtain rfl:k=n:=by omega
    have HE:=Dl (show B=true by
     rw [←HB.out,all_iff];have:=hpre.out
     rwa [FF (by rw [HL.out];omega),FF (by rw [HM.out];omega)] at this)
    clear hpre;go_wp2;go_ret;exact ⟨by first | rfl |(rw [HE.out];rfl),hbr.out⟩
 ·have e:all rs qs=false:=all_len rs qs (by rw [hv.1,hu.1];exact hnm);have t0:((n:Int)==(m:Int))=false:=by rw [ZM];omega
  have t1:¬(n:Int)=(m:Int):=ZZ;rw [e];clear hv hu hf hg e hnm;go_enter Tryz.func150,Tryz.ntmps150;go_wp2;go_ret;exact ⟨rfl,AE _ _⟩
theorem all_any (a:Option Addr) (n cap:Nat) (rs:List R) (b:Option Addr) (m cap2:Nat) (qs:List R) (w:World) (hv:Recs w a n rs) (hu:Recs w b m qs) (hn:n<=1000000000) (hm:m<=1000000000) (hf:∀r∈rs,Fit r) (hg:∀r∈qs,Fit r) :
 Calls Mm 104 #[.slice a n cap,.slice b m cap2] w λe w'=>e=.returned (ZB (all rs qs))/\Below w.heap.size w w':=by
 have H:=Dl (equalFunc_any a n cap rs b m cap2 qs w hv hu hn hm hf hg);clear hv hu hf hg;go_enter Tryz.func104,Tryz.ntmps104;go_wp2_with (go_at_call 150;with_reducible refine H.out.mono ?_;rintro e w2 ⟨rfl,hb2⟩);go_ret;exact ⟨rfl,hb2⟩
end
end Rec
namespace Flt
open Base Txt Par Pg
structure F where
 x:Q
 y:Q
 code:Nat
 parted:Bool
def F.judge (f:F) (s l:Nat) (alike:Bool):F:=
 if s≠0 then {f with code:=s,parted:=l==0} else if (!(l==0) || !alike)=true then {f with code:=400,parted:=true} else f
section
variable (p:Nat) (b:Bd)
def F.look (f:F) (c:UInt8):F × List Hz:=
 let x:=f.x.byte 0 b c
 let y:=f.y.byte p b c
 (F.judge ⟨x.told,y.told,f.code,f.parted⟩ x.err y.err (Rec.all x.out y.out),if Rec.all x.out y.out=true then x.out else [])
def F.byte (f:F) (c:UInt8):F × List Hz:=if f.code=0 then f.look p b c else (f,[])
def F.feed:F->List UInt8->F × List Hz
 | f,[]=>(f,[])
 | f,c::l=>((F.feed (f.byte p b c).1 l).1,(f.byte p b c).2++(F.feed (f.byte p b c).1 l).2)
def F.new:F:=⟨Q.new 0 b,Q.new p b,(Q.new p b).err,false⟩
def F.held (f:F):Nat:=max f.x.held f.y.held
end
section
variable {p:Nat} {b:Bd}
def F.Just (p:Nat) (b:Bd) (f:F):Prop:=
 (f.code=0/\f.parted=false/\∃t,f.x=.live t/\t.Strict/\t.out= []/\f.y=.live (t.wide p)/\t.Ok/\b.right=true/\∃s,RR 0 b t s)∨(f.code≠0/\∃o,f.x=.dead f.code o)
theorem Ok.fit {t:T} (h:t.Ok):Rec.Fit t.r:=
 ⟨by have:=h.m;omega,by have:=h.x;omega,by have:=h.fsl;have:=h.hl;omega,λy hy=>by have:=h.fss y hy;have:=h.hl;omega,by have:=h.body;omega,by have:=h.tsl;have:=h.bl;omega,λy hy=>by have:=h.tss y hy;have:=h.bl;omega⟩
theorem line_told (t:T) (s:List UInt8):(t.line p b s).2.out=t.out∨(t.line p b s).2.out=t.out ++ [t.r]:=by
 unfold IX;split
 ·unfold T.first;split
  ·exact .inl rfl
  ·simp only;split<;>exact .inl rfl
 ·split
  ·unfold T.fields;split
   ·unfold IT;simp only;split
    ·exact .inl rfl
    ·split
     ·exact .inl rfl
     ·split
      ·exact .inr rfl
      ·exact .inl rfl
   ·exact .inl rfl
  ·split
   ·unfold IQ;simp only;split
    ·exact .inl rfl
    ·split
     ·exact .inl rfl
     ·split<;>exact .inl rfl
   ·split
    ·unfold T.trail;split
     ·exact .inr rfl
     ·exact .inl rfl
    ·exact .inl rfl
theorem ends_out (x:Nat × T):(ends x).out=x.2.out:=by unfold ends;split<;>rfl
def Fits (o:List Hz):Prop:=∀r∈o,Rec.Fit r
theorem inLine_fits {t:T} (h:Fits t.out) (ok:t.Ok) (c:UInt8):Fits (t.inLine p b c).1.out:=by
 unfold IW;simp only;split
 ·exact h
 ·split
  ·exact h
  ·split
   ·split
    ·exact h
    ·exact h
   ·show Fits (ends _).out;rw [ends_out];have hf:Rec.Fit t.r:=Ok.fit ok;rcases line_told (p:=p) (b:=b) {t with rd:=t.rd.byte c} (t.rd.byte c).line with e | e
    ·rw [e];exact h
    ·rw [e];intro r hr;rcases Fj.1 hr with hr | hr
     ·exact h r hr
     ·rw [Fv.1 hr];exact hf
theorem look_fits {t:T} (h:Fits t.out) (ok:t.Ok) (hb:b.right=true) (c:UInt8):Fits (t.look p b c).1.out:=by
 unfold T.look;split
 ·rename_i hs;have hk:Rec.Fit (t.keep c).r:=by
   have h1:=Ok.fit ok;have h2:=ok.left hs;exact ⟨h1.m,h1.x,h1.fs,h1.f,by have:=ok.body;show (t.r.body ++ [c]).length<=_;rw [EO,Fa];omega,h1.ts,h1.t⟩
  show Fits (if t.left=1 then (t.keep c).endData p else t.keep c).out;split
  ·unfold T.endData;split
   ·exact h
   ·intro r hr;rcases Fj.1 hr with hr | hr
    ·exact h r hr
    ·rw [Fv.1 hr];exact hk
  ·exact h
 ·split
  ·rename_i hh;split
   ·show Fits t.out;exact h
   ·rename_i hx;exact inLine_fits (by rw [counted_out];exact h) (ok.counted hb hx) c
  ·exact inLine_fits h ok c
theorem byte_fits {x:Q} (h:Fits x.out) (ok:x.Fine b) (c:UInt8):Fits (x.byte p b c).out:=by
 cases x with
 | dead e o=>exact h
 | live t=>
   obtain ⟨h1,h2⟩:=ok;show Fits (t.take p b c).out;unfold T.take;have k1:=look_fits (p:=p) (b:=b) (t:={t with cnt:=false}) h h1.cleared h2 c;rcases hq:T.look p b {t with cnt:=false} c with ⟨q,u⟩;rw [hq] at k1;cases q with
   | dead e o=>cases u<;>exact k1
   | live t1=>
     cases u with
     | true=>exact k1
     | false=>exact look_fits k1 (h1.cleared.look h2 c (by rw [hq])) h2 c
end
end Flt
namespace Pg
open Base Txt Par
def T.pre (o:List Hz) (t:T):T:={t with out:=o++t.out}
def Q.pre (o:List Hz):Q->Q
 | .live t=>.live (t.pre o)
 | .dead e x=>.dead e (o++x)
section
variable {p:Nat} {b:Bd} {t:T} {o:List Hz} {s:List UInt8} {c:UInt8}
end
end Pg
namespace Flt
open Base Txt Par Pg
section
variable {p:Nat} {b:Bd} {t:T} {s:List UInt8} {c:UInt8}
theorem line_bad_out (h:(t.line p b s).1≠0):(t.line p b s).2.out=t.out:=by
 revert h;unfold IX;split
 ·unfold T.first;split
  ·intro _;rfl
  ·dsimp only;split
   ·intro h;exact ZG rfl h
   ·intro _;rfl
 ·split
  ·unfold T.fields;split
   ·unfold IT;dsimp only;split
    ·intro _;rfl
    ·split
     ·intro _;rfl
     ·split
      ·intro h;exact ZG rfl h
      ·intro _;rfl
   ·intro _;rfl
  ·split
   ·unfold IQ;dsimp only;split
    ·intro _;rfl
    ·split
     ·intro _;rfl
     ·split
      ·intro _;rfl
      ·intro _;rfl
   ·split
    ·unfold T.trail;split
     ·intro h;exact ZG rfl h
     ·intro _;rfl
    ·intro _;rfl
theorem inLine_bad_out {e:Nat} {o:List Hz} {u:Bool} (h:t.inLine p b c=(.dead e o,u)):o=t.out:=by
 unfold IW at h;dsimp only at h;split at h
 ·cases h
 ·split at h
  ·cases h;rfl
  ·split at h
   ·split at h
    ·cases h
    ·cases h;rfl
   ·have h1:=ZH Prod.fst h;unfold ends at h1;dsimp only at h1;split at h1
    ·cases h1
    ·rename_i h0;have:=line_bad_out h0;cases h1;exact this
theorem look_bad_out {e:Nat} {o:List Hz} {u:Bool} (h:t.look p b c=(.dead e o,u)):o=t.out:=by
 unfold T.look at h;split at h
 ·cases h
 ·split at h
  ·split at h
   ·cases h;rfl
   ·have:=inLine_bad_out h
    rwa [counted_out] at this
  ·exact inLine_bad_out h
theorem strict_used (hs:t.Strict):(t.inLine 0 b c).2=true:=by
 have h2:t.rd.clear.next c≠2:=by
  unfold FJ.next;have e1:t.rd.clear.cr=false:=hs.cr;rw [e1];simp only [AT,if_false]
  repeat' split
  all_goals decide
 unfold IW;obtain ⟨how,hh⟩:∃how,t.rd.clear.next c=how:=⟨_,rfl⟩;simp only [hh] at h2 ⊢;split
 ·rfl
 ·split
  ·rfl
  ·split
   ·rw [none0 29,AN];rfl
   ·simp only [AX,ZM];exact h2
theorem strict_look (hs:t.Strict):(t.look 0 b c).2=true:=by
 unfold T.look;split
 ·rfl
 ·split
  ·split
   ·rfl
   ·exact strict_used ⟨by rw [counted_rd];exact hs.lf,by rw [counted_rd];exact hs.cr⟩
  ·exact strict_used hs
theorem strict_bad {e:Nat} {o:List Hz} (hs:t.Strict) (h:t.take 0 b c=.dead e o):o=t.out:=by
 unfold T.take at h;have hs0:({t with cnt:=false}:T).Strict:=⟨hs.lf,hs.cr⟩;have hu:=strict_look (b:=b) (c:=c) hs0;rcases hq:({t with cnt:=false}:T).look 0 b c with ⟨q,u⟩;rw [hq] at h hu;cases q with
 | dead e1 o1=>
   have:=look_bad_out hq
   cases u<;> (cases h;exact this)
 | live t1=>
   have hu:u=true:=hu;subst hu;cases h
end
end Flt
namespace Can
open Base Txt Par Pg Flt
def lineR (r:Hz):Prop:=∃(old:Bool) (l:List UInt8) (k:Nat),Is (Rq.clOf 0) old l=(r.m.data.toList,r.x.data.toList,k,0)/\r.k=(k:Int)
def hostR (r:Hz):Prop:=Cw false false r.k (find r.fs Cv)=0
structure Good (r:Hz):Prop where
 line:lineR r
 host:hostR r
 fields:∀f∈r.fs,okF f
 trailers:∀f∈r.ts,okF f
structure On (t:T):Prop where
 line:t.st≠1->lineR t.r
 host:3<=t.st->hostR t.r
 fields:∀f∈t.r.fs,okF f
 trailers:∀f∈t.r.ts,okF f
 out:∀r∈t.out,Good r
section
variable {b:Bd} {t t2:T} {s:List UInt8} {c:UInt8}
theorem On.good (h:On t) (h1:t.st≠1) (hh:hostR t.r):Good t.r:=⟨h.line h1,hh,h.fields,h.trailers⟩
theorem On.fin (h:On t) (hg:Good t.r):On t.fin:=⟨λe=>absurd rfl e,λe=>(by simp [T.fin] at e),λf hf=>(by cases hf),λf hf=>(by cases hf),λr hr=>by
 rcases Fj.1 hr with hr | hr
 ·exact h.out r hr
 ·rw [Fv.1 hr];exact hg⟩
theorem ok_field {lines:Nat} {l l':List Fld} {most:Int} (h:fieldV 0 lines l s most=.inr l') (hl:∀f∈l,okF f):∀f∈l',okF f:=by
 unfold fieldV at h;split at h
 ·cases h
 have hg:BX 0 s=false:=by unfold BX;rw [none0,AS]
 rw [ZO (by rw [hg,AS];exact AU),Fd.clOf_zero] at h;rcases Fd.parse_zero s with h2 | ⟨n,v,h2⟩
 ·rw [h2] at h;cases h
 ·rw [h2] at h;obtain rfl:=Sum.inr.inj h;intro f hf;rcases Fj.1 hf with hf | hf
  ·exact hl f hf
  ·obtain rfl:=Fv.1 hf;have:=(Fd.parse_all h2).2;show Fd.right (ba n).data.toList (ba v).data.toList=true;simpa [ba] using this
theorem host_of {ch:Bool} {body minor:Int} {fs:List Fld} (h:(Ct (Cp 0) ch body minor fs).2.2=0):Cw false false minor (find fs Cv)=0:=by
 rw [cl_zero] at h;unfold Ct Frm.bodyV at h;dsimp only at h;split at h
 ·rename_i h1;exact ZG h h1
 ·rename_i h1;exact B7.1 h1
theorem XXXhI {P:Prop} (h:P:=by exact ⟨λ_=>ht.line h1,λ_=>hh,ht.fields,ht.trailers,ht.out⟩):P:=h
theorem on_line (ht:On t) (h9:1<=t.st) (h:(t.line 0 b s).1=0):On (t.line 0 b s).2:=by
 unfold IX at h ⊢;by_cases h1:t.st=1
 ·simp only [ZN h1] at h ⊢;unfold T.first at h ⊢;by_cases h0:s= []
  ·rw [ZN h0];exact ht
  ·rw [ZO h0] at h ⊢;obtain ⟨m,x,k,e,hq⟩:∃m x k e,Is (Rq.clOf 0) b.od s=(m,x,k,e):=⟨_,_,_,_,rfl⟩;rw [hq] at h ⊢;dsimp only at h ⊢;by_cases he:e=0
   ·subst he;rw [ZN rfl];refine ⟨λ_=>⟨b.od,s,k,?_,rfl⟩,λe=>(by simp at e),ht.fields,ht.trailers,ht.out⟩;rw [hq];simp [ba]
   ·rw [ZO he];exact ht
 simp only [ZO h1] at h ⊢;by_cases h2:t.st=2
 ·simp only [ZN h2] at h ⊢;unfold T.fields at h ⊢;by_cases h0:s= []
  ·rw [ZN h0] at h ⊢;unfold IT at h ⊢;have hho:=host_of (ch:=b.ch) (body:=b.x3) (minor:=t.r.k) (fs:=t.r.fs);obtain ⟨d,hd⟩:∃d,Ct (Cp 0) b.ch b.x3 t.r.k t.r.fs=d:=⟨_,rfl⟩;rw [hd] at h ⊢ hho;dsimp only at h ⊢;split
   ·exact ht
   ·rename_i h3;have hh:hostR t.r:=hho (B7.1 h3);split
    ·exact XXXhI
    ·split
     ·exact ht.fin (ht.good h1 hh)
     ·exact XXXhI
  ·rw [ZO h0] at h ⊢;obtain ⟨l,hl⟩:=listE_zero h λe he=>fieldV_err he;rw [hl];exact ⟨λ_=>ht.line h1,λe=>(by have e:3<=t.st:=e;omega),ok_field hl ht.fields,ht.trailers,ht.out⟩
 simp only [ZO h2] at h ⊢;by_cases h4:t.st=4
 ·simp only [ZN h4];have hh:hostR t.r:=ht.host ZZ;unfold IQ;dsimp only;split
  ·exact ht
  ·split
   ·exact XXXhI
   ·split
    ·exact ht
    ·exact XXXhI
 simp only [ZO h4] at h ⊢;by_cases h7:t.st=7
 ·simp only [ZN h7] at h ⊢;have hh:hostR t.r:=ht.host ZZ;unfold T.trail at h ⊢;split
  ·exact ht.fin (ht.good h1 hh)
  ·rename_i h0;rw [ZO h0] at h;obtain ⟨l,hl⟩:=listE_zero h λe he=>fieldV_err he;rw [hl];exact ⟨λ_=>ht.line h1,λ_=>hh,ht.fields,ok_field hl ht.trailers,ht.out⟩
 simp only [ZO h7];unfold T.enter;have h0:3<=t.st:=ZZ;exact ⟨λ_=>ht.line h1,λ_=>ht.host h0,ht.fields,ht.trailers,ht.out⟩
theorem on_inLine {u:Bool} (ht:On t) (h9:1<=t.st) (h:t.inLine 0 b c=(.live t2,u)):On t2:=by
 unfold IW at h;dsimp only at h;split at h
 ·cases h;exact ⟨ht.line,ht.host,ht.fields,ht.trailers,ht.out⟩
 ·split at h
  ·cases h
  ·split at h
   ·rw [none0,AN,ZO AU] at h;cases h
   ·have h1:=ZH Prod.fst h;unfold ends at h1;dsimp only at h1;split at h1
    ·rename_i h0;have:=on_line (t:={t with rd:=t.rd.byte c}) ⟨ht.line,ht.host,ht.fields,ht.trailers,ht.out⟩ h9 h0;cases h1;exact this
    ·cases h1
theorem On.counted (ht:On t):On t.counted:=by
 unfold T.counted;split
 ·exact ht
 ·exact ⟨ht.line,ht.host,ht.fields,ht.trailers,ht.out⟩
theorem counted_st (t:T):t.counted.st=t.st:=by unfold T.counted;split<;>rfl
theorem on_look {u:Bool} (ht:On t) (h9:1<=t.st) (h:t.look 0 b c=(.live t2,u)):On t2:=by
 unfold T.look at h;split at h
 ·rename_i hb;have h3:t.st=3∨t.st=5:=by
   unfold Pg.bodied at hb;simpa using hb
  have hk:On (t.keep c):=⟨ht.line,ht.host,ht.fields,ht.trailers,ht.out⟩;have h1:=ZH Prod.fst h;dsimp only at h1;split at h1
  ·cases h1;unfold T.endData;split
   ·exact ⟨λ_=>ht.line ZZ,λ_=>ht.host ZZ,ht.fields,ht.trailers,ht.out⟩
   ·exact hk.fin ⟨ht.line ZZ,ht.host ZZ,ht.fields,ht.trailers⟩
  ·cases h1;exact hk
 ·split at h
  ·split at h
   ·cases h
   ·exact on_inLine ht.counted (by rw [counted_st];exact h9) h
  ·exact on_inLine ht h9 h
theorem on_take (ht:On t) (hs:t.Strict) (h9:1<=t.st) (h:t.take 0 b c=.live t2):On t2:=by
 unfold T.take at h;have hs0:({t with cnt:=false}:T).Strict:=⟨hs.lf,hs.cr⟩;have hu:=strict_look (b:=b) (c:=c) hs0;have hk:On ({t with cnt:=false}:T):=⟨ht.line,ht.host,ht.fields,ht.trailers,ht.out⟩;rcases hq:({t with cnt:=false}:T).look 0 b c with ⟨q,u⟩;rw [hq] at h hu;obtain rfl:u=true:=hu;cases q with
 | dead e1 o1=>cases h
 | live t1=>
   cases h;exact on_look hk h9 hq
theorem on_new:On (T.new 0 b):=⟨λe=>absurd rfl e,λe=>(by simp [T.new] at e),λf hf=>(by cases hf),λf hf=>(by cases hf),λr hr=>(by cases hr)⟩
theorem feed_good (hb:b.right=true):∀(l:List UInt8) (t:T),On t->t.Strict->t.Ok->∀r∈((Ho t).feed 0 b l).out,Good r
 | [],t,ht,_,_=>ht.out
 | c::l,t,ht,hs,ho=>by
   rw [feed_cons];show∀r∈((t.take 0 b c).feed 0 b l).out,Good r;cases h:t.take 0 b c with
   | live t2=>
     exact feed_good hb l t2 (on_take ht hs ho.st.1 h) (take_wide (p:=0) h hs).2 (T.Ok.take ho hb c h)
   | dead e o=>
     rw [feed_dead];show∀r∈o,Good r;rw [strict_bad hs h];exact ht.out
theorem read_good (hb:b.right=true) (h0:(T.new 0 b).Ok) (l:List UInt8):∀r∈(Hr 0 b l).out,Good r:=by unfold Hr;rw [show Q.new 0 b=.live (T.new 0 b) from if_pos (by rw [hb];rfl)];exact feed_good hb l (T.new 0 b) on_new ⟨none0 1,none0 2⟩ h0
end
end Can
namespace Can
open Base Txt Par Pg Flt
def chR (r:Hz):Prop:=r.ch=decide (find r.fs Cz≠ [])
structure Kn (t:T):Prop where
 no:t.st<=2->t.r.ch=false
 said:3<=t.st->chR t.r
 out:∀r∈t.out,chR r
section
variable {b:Bd} {t t2:T} {s:List UInt8} {c:UInt8}
end
end Can
namespace Can
open Base Txt Par Pg
section
attribute [local go_sem] A8
theorem chunked_any (V:Value) (r:Hz) (w:World) (h:Ia w V r):Calls Mm 59 #[V] w λe w'=>e=.returned (ZB (decide (r.ts≠ [])))/\Below w.heap.size w w':=by
 obtain ⟨fa,fc,ba,bc,ta,tc,rfl,h1,h2,h3⟩:=h;clear h1 h2 h3;have e0:decide (r.ts≠ [])=decide (0<r.ts.length):=by
  rcases r.ts with _ | ⟨a,l⟩
  ·rfl
  ·simp
 rw [e0];clear e0;generalize r.ts.length=n;generalize r.fs.length=n1;generalize r.body.length=n2;go_enter Tryz.func59,Tryz.ntmps59;go_wp2_with fail;go_ret;exact XXkPs
theorem XXO2p {P:Prop} (h:P:=by
 go_enter Tryz.func146,Tryz.ntmps146;go_wp2_with fail;go_ret
 exact ⟨rfl,rfl⟩):P:=h
theorem brings_any (m:ByteArray) (w:World):Calls Mm 146 #[ZD m] w λe w'=>e=.returned (ZB (decide (m.data.toList∈posts)))/\w'=w:=by
 have hb:∀(l:List UInt8),(m=Txt.ba l)=(m.data.toList=l):=λl=>by
  apply propext;constructor
  ·rintro rfl;simp [Txt.ba]
  ·intro h;rw [←h];simp [Txt.ba]
 have h1:(m=⟨#[80,79,83,84]⟩)=(m.data.toList= [80,79,83,84]):=hb _;have h2:(m=⟨#[80,85,84]⟩)=(m.data.toList= [80,85,84]):=hb _;have h3:(m=⟨#[80,65,84,67,72]⟩)=(m.data.toList= [80,65,84,67,72]):=hb _;clear hb;obtain ⟨P,hP⟩:∃P,decide (m.data.toList∈posts)=P:=⟨_,rfl⟩;rw [hP];by_cases c1:m=⟨#[80,79,83,84]⟩
 ·have:P=true:=by rw [←hP,ZK];unfold posts;rw [←h1.mp c1];simp
  subst this;clear h1 h2 h3 hP;exact XXO2p
 by_cases c2:m=⟨#[80,85,84]⟩
 ·have:P=true:=by rw [←hP,ZK];unfold posts;rw [←h2.mp c2];simp
  subst this;clear h1 h2 h3 hP;exact XXO2p
 by_cases c3:m=⟨#[80,65,84,67,72]⟩
 ·have:P=true:=by rw [←hP,ZK];unfold posts;rw [←h3.mp c3];simp
  subst this;clear h1 h2 h3 hP;exact XXO2p
 ·have:P=false:=by
   rw [←hP,ZL];unfold posts;rw [h1] at c1;rw [h2] at c2;rw [h3] at c3;simp [c1,c2,c3]
  have k1:(m.toList == [80,79,83,84])=false:=by rw [Dv,ZM];rwa [h1] at c1
  have k2:(m.toList == [80,85,84])=false:=by rw [Dv,ZM];rwa [h2] at c2
  have k3:(m.toList == [80,65,84,67,72])=false:=by rw [Dv,ZM];rwa [h3] at c3
  subst this;clear h1 h2 h3 hP c1 c2 c3;exact XXO2p
def frameV (m:List UInt8) (body:List UInt8) (ts:List Fld):List Fld:=
 if ts≠ [] then [(Cz,Cn)] else if body≠ []∨m∈posts then [(Co,lenV body.length)] else []
theorem flds_one (w:World) (t:TypeId) (n v:ByteArray):Flds (w.alloc (.cells #[ZD n,ZD v] t)) (some ⟨w.heap.size,0,none⟩) 1 [(n,v)]:=by refine Flds.of_cells rfl ZW λj hj=>?_;rw [cell_of_row _ _ j _ t (0,0) (heap_alloc_new w _)];rcases (by omega:j=0∨j=1) with rfl | rfl<;>rfl
theorem framing_any (V:Value) (r:Hz) (w:World) (h:Ia w V r) (hn:r.body.length<=1000000000):Calls Mm 100 #[V] w λe w'=>∃a c,e=.returned (.slice a (frameV r.m.data.toList r.body r.ts).length c)/\Flds w' a (frameV r.m.data.toList r.body r.ts).length (frameV r.m.data.toList r.body r.ts)/\Below w.heap.size w w':=by
 have HH:=Dl h;obtain ⟨fa,fc,ba,bc,ta,tc,rfl,h1,h2,h3⟩:=h;clear h1 h2 h3
 have HC:=Dl λw' hb=>chunked_any _ r w' (HH.out.below (w':=w') hb)
 have HB:=Dl (brings_any r.m);have HP:=Dl (λw'=>Num.put_any (r.body.length:Int) w' ZZ);rw [Int.toNat_natCast] at HP;generalize hX:frameV r.m.data.toList r.body r.ts=X;unfold frameV at hX;by_cases ht:r.ts≠ []
 ·rw [ZN ht] at hX;rw [ZK ht] at HC;subst hX;clear ht HB HP;go_enter Tryz.func100,Tryz.ntmps100
  go_wp2_with (first
   |(go_at_call 59;with_reducible refine (HC.out _ ((AE _ _).alloc (Gi _) _)).mono ?_;rintro e w1 ⟨rfl,hb1⟩
     have q0:=(hb1.cell (p:=⟨w.heap.size,0,none⟩) ZW).trans (show _=some (ZD r.m) by simp)
     have q5:=(hb1.cell (p:=⟨w.heap.size,5,none⟩) ZW).trans (show _=some (.slice ba r.body.length bc) by simp);have HB1:=Dl (A6 ((AE _ _).alloc (Gi _) _) hb1);clear hb1))
  go_ret;exact ⟨_,1,rfl,flds_one _ _ _ _,HB1.out.alloc HB1.out.size _⟩
 rw [ZO ht] at hX;rw [ZL ht] at HC;clear ht;by_cases hb:r.body≠ []
 ·rw [ZN (.inl hb)] at hX;have h0:0<r.body.length:=EX.2 hb;subst hX;clear hb HB;go_enter Tryz.func100,Tryz.ntmps100
  go_wp2_with (first
   |(go_at_call 59;with_reducible refine (HC.out _ ((AE _ _).alloc (Gi _) _)).mono ?_;rintro e w1 ⟨rfl,hb1⟩
     have q0:=(hb1.cell (p:=⟨w.heap.size,0,none⟩) ZW).trans (show _=some (ZD r.m) by simp)
     have q5:=(hb1.cell (p:=⟨w.heap.size,5,none⟩) ZW).trans (show _=some (.slice ba r.body.length bc) by simp);have HB1:=Dl (A6 ((AE _ _).alloc (Gi _) _) hb1);clear hb1)
   |(go_at_call 147;with_reducible refine (HP.out _).mono ?_;rintro e w3 ⟨rfl,m3,hw3⟩;rw [hw3];clear hw3))
  go_ret;exact ⟨_,1,rfl,flds_one _ _ _ _,(Az HB1.out _).alloc HB1.out.size _⟩
 have h0:r.body.length=0:=by rw [B7.1 hb];rfl
 by_cases hm:r.m.data.toList∈posts
 ·rw [ZN (.inr hm)] at hX;rw [ZK hm] at HB;rw [h0] at HP hX;have HP:=Dl (λw'=>(show Calls Mm 147 #[ZE Z7 0] w' _ from HP.out w'));subst hX;clear hb hm HH;generalize r.body.length=n at *;subst h0;go_enter Tryz.func100,Tryz.ntmps100
  go_wp2_with (first
   |(go_at_call 59;with_reducible refine (HC.out _ ((AE _ _).alloc (Gi _) _)).mono ?_;rintro e w1 ⟨rfl,hb1⟩
     have q0:=(hb1.cell (p:=⟨w.heap.size,0,none⟩) ZW).trans (show _=some (ZD r.m) by simp)
     have q5:=(hb1.cell (p:=⟨w.heap.size,5,none⟩) ZW).trans (show _=some (.slice ba 0 bc) by simp);have HB1:=Dl (A6 ((AE _ _).alloc (Gi _) _) hb1);clear hb1)
   |(go_at_call 147;with_reducible refine (HP.out _).mono ?_;rintro e w3 ⟨rfl,m3,hw3⟩;rw [hw3];clear hw3)
   |(go_at_call 146;with_reducible refine (HB.out _).mono ?_;rintro e w2 ⟨rfl,hw2⟩;rw [hw2];clear hw2))
  go_ret;exact ⟨_,1,rfl,flds_one _ _ _ _,(Az HB1.out _).alloc HB1.out.size _⟩
 ·rw [ZO (λx=>x.elim hb hm)] at hX;rw [ZL hm] at HB;subst hX;clear hb hm HH HP;generalize r.body.length=n at *;subst h0;go_enter Tryz.func100,Tryz.ntmps100
  go_wp2_with (first
   |(go_at_call 59;with_reducible refine (HC.out _ ((AE _ _).alloc (Gi _) _)).mono ?_;rintro e w1 ⟨rfl,hb1⟩
     have q0:=(hb1.cell (p:=⟨w.heap.size,0,none⟩) ZW).trans (show _=some (ZD r.m) by simp)
     have q5:=(hb1.cell (p:=⟨w.heap.size,5,none⟩) ZW).trans (show _=some (.slice ba 0 bc) by simp);have HB1:=Dl (A6 ((AE _ _).alloc (Gi _) _) hb1);clear hb1)
   |(go_at_call 146;with_reducible refine (HB.out _).mono ?_;rintro e w2 ⟨rfl,hw2⟩;rw [hw2];clear hw2))
  go_ret;exact ⟨none,0,rfl,Flds.nil _ _,HB1.out⟩
end
end Can
namespace Bld
abbrev T:TypeId:=180
abbrev E:TypeId:=5
theorem infoB:(Mm.info? 5).map (λi=>(i.zero,i.size,i.bytes))=some (some (ZE Z6 0),1,1):=ZY
theorem infoT:(Mm.info? 180).map (·.size)=some 2:=ZY
theorem liesT:liesAt Mm Mm.depth 180 (2/Mm.cellsOf 180) 0 180 1=true:=ZY
section
theorem check_any (B b:Nat) (bs:List Value) (w:World) (h:CZ T E B b bs w) :
 Calls Mm 200 #[ZA (some ⟨b,0,none⟩)] w λe w'=>e=.returned (Z8 #[])/\(Lib.BuilderAtF T E B b (ZA (some ⟨b,0,none⟩)) bs w'/\Below B w w'):=by
 obtain ⟨j,hj,hjs⟩:=Option.map_eq_some_iff.1 infoT;rcases h with h | h
 ·have h0:=h.cell0;have hsh:=h.shape;have hfz:=h.frozen0;have HH:=Dl h;go_enter Tryz.func200,Tryz.ntmps200;go_wp2;rw [Lib.run_to_unsafe w ⟨b,0,none⟩ Tryz.underlying178 Tryz.underlying222 hj (by rw [hjs];decide) hsh (Nat.zero_lt_succ 1)];simp only [Result.andThen];rw [Oper.upon_value];go_wp2;rw [run_callFunc_extern Tryz.func219 ZY ZY ZY (e:=Extern.AbiNoEscape.same) ZY];rw [Lib.run_noEscape];simp only [Result.andThen];rw [Oper.upon_value];go_wp2;rw [Lib.run_from_unsafe w ⟨b,0,none⟩ Tryz.underlying222 Tryz.underlying178 hj hsh liesT];simp only [Result.andThen];rw [Oper.upon_value];go_wp2;go_end0;exact ⟨rfl,HH.out.used _,(AE B w).setCell (p:=⟨b,0,none⟩) HH.out.1 _⟩
 ·have h0:=h.cell0;have HH:=Dl h;go_enter Tryz.func200,Tryz.ntmps200;go_wp2;rw [Lib.run_neq_ptr_same w _ Tryz.underlying178 hj];go_wp2;go_end0;exact ⟨rfl,HH.out,AE B _⟩
theorem write_any (B b:Nat) (bs:List Value) (s:ByteArray) (w:World) (h:CZ T E B b bs w) (hlen:bs.length+s.size<=140737488355328) (hBw:B<=w.heap.size) :
 Calls Mm 171 #[ZA (some ⟨b,0,none⟩),ZD s] w λe w'=>e=.returned (Z8 #[ZE Z7 s.size,.nilIface])/\(Lib.BuilderAtF T E B b (ZA (some ⟨b,0,none⟩)) (bs++Lib.strCells s) w'/\Below B w w'):=by
 obtain ⟨i0,hi,hz0,hz1,hz2⟩:=info_parts infoB;have HC:=Dl (check_any B b bs w h);clear h;go_enter Tryz.func171,Tryz.ntmps171;go_wp2_with (go_at_call 200;with_reducible refine HC.out.mono ?_);rintro e w1 ⟨rfl,h1⟩;obtain ⟨⟨hB,v,hbk,hown,hne⟩,hb1⟩:=h1;have c0:w1.cell? ⟨b,0,none⟩=some (ZA (some ⟨b,0,none⟩)):=by rw [Lib.cell_of_heap hbk];rfl
 have c1:w1.cell? ⟨b,1,none⟩=some v:=by rw [Lib.cell_of_heap hbk];rfl
 go_wp2_with (at_builtin;refine Lib.wpList_append_own_stringF _ rfl _ _ 22 9 rfl B 5 i0 MZ Ns hi hz0 hz1 hz2 _ _ _ rfl hown s rfl ?c3 ?c4 ?c5 ?_)
 case c3=>unfold maxLen;omega
 case c4=>omega
 case c5=>have:=hb1.size;omega
 intro v' w2 hown' hgrow _;have hlt:b<w1.heap.size:=by
  rcases Gp b w1.heap.size with h' | h'
  ·exact h'
  ·simp [Ao h'] at hbk
 have hb2:w2.heap[b]?=some (.cells #[ZA (some ⟨b,0,none⟩),v] T (0,0)):=by rw [hgrow.block b hlt (λe=>hne e.symm)];exact hbk
 have d0:w2.cell? ⟨b,0,none⟩=some (ZA (some ⟨b,0,none⟩)):=by rw [Lib.cell_of_heap hb2];rfl
 have d1:w2.cell? ⟨b,1,none⟩=some v:=by rw [Lib.cell_of_heap hb2];rfl
 have f1:w2.frozen? ⟨b,1,none⟩=false:=Lib.frozen_of_heap hb2 1;obtain ⟨ao,n',cap,rfl⟩:∃ao n' cap,v'=.slice ao n' cap:=by
  rcases hown'.2 with ⟨hv,_⟩ | ⟨g,cap,cur,fz,hv,_⟩
  ·exact ⟨_,_,_,hv⟩
  ·exact ⟨_,_,_,hv⟩
 go_wp2;go_ret2;refine ⟨rfl,?_,?_⟩
 ·exact Lib.BuilderAtF.put (T:=T) (e:=E) hB hb2 (bs':=bs++Lib.strCells s) (by simpa [Lib.strCells_length] using hown') ZX
 ·exact (hb1.grown hgrow (by have:=hb1.size;omega) (λk hk=>(hown.lt k hk).1)).setCell (p:=⟨b,1,none⟩) hB _
end
end Bld
theorem XX5ba {P:Prop} (h:P:=by simp [Value.ownBlock]):P:=h
namespace Fd
open Base Txt Tgt
abbrev lineB (f:Fld):ByteArray:=((f.1 ++⟨#[58,32]⟩)++f.2) ++⟨#[13,10]⟩
theorem lineB_list (f:Fld):(lineB f).data.toList=line f:=by simp [lineB,line,Bo]
theorem lineB_size (f:Fld):(lineB f).size=f.1.size+f.2.size+4:=by rw [←len,lineB_list,line_length]
theorem put_take (fs:List Fld) (k:Nat):(put (fs.take k)).length<=(put fs).length:=by
 conv=>rhs;rw [←FD k fs,put_append,EO]
 omega
theorem put_take_line (fs:List Fld) (k:Nat) (h:k<fs.length):(put (fs.take k)).length+(line (fs[k]?.getD dflt)).length<=(put fs).length:=by
 rw [←EO,←put_snoc fs k h]
 exact put_take fs (k+1)
theorem isB_alloc {T E:TypeId} {B b:Nat} {bs:List Value} {w:World} (h:CZ T E B b bs w) (o:Obj):CZ T E B b bs (w.alloc o):=
 h.elim (λx=>.inl (x.alloc o)) (λx=>.inr (x.alloc o))
theorem isB_fresh (w:World):CZ Bld.T Bld.E w.heap.size w.heap.size [] (w.alloc (.cells #[ZA none,ZC none 0 0] Bld.T)):=
 .inl ⟨Gi _,ZC none 0 0,heap_alloc_new w _,World.ownsRowF_nil _ _ _ _,XX5ba⟩
section
attribute [local go_sem] A8
theorem put_any (a:Option Addr) (n cap:Nat) (fs:List Fld) (w:World) (hv:Flds w a n fs) (hn:n<=1000000000) (hz:(put fs).length<=1000000000000) :
 Calls Mm 138 #[.slice a n cap] w λe w'=>e=.returned (ZD (ba (put fs)))/\Below w.heap.size w w':=by
 have HV:=Dl hv;have HL:=Dl hv.1;have HZ:=Dl hz;clear hv hz;have HW:=Dl (λ(bs:List Value) (s:ByteArray) (wz:World) h hl hw=>Bld.write_any w.heap.size w.heap.size bs s wz h hl hw);obtain ⟨R,hR⟩:∃R,ba (put fs)=R:=⟨_,rfl⟩;rw [hR];have HR:=Dl hR;clear hR;go_enter Tryz.func138,Tryz.ntmps138;go_wp2
 go_loopw [8] (λi wr=>∃k:Nat,k<=n/\i=ZE Z7 k/\Hid (CZ Bld.T Bld.E w.heap.size w.heap.size (Da (put (fs.take k))) wr)/\Hid (Below w.heap.size w wr)) (λi _=>n-(intOf i).toNat)
 case atStart=>exact ⟨0,Gz _,rfl,Dl (isB_fresh w),Dl ((AE _ _).alloc (Gi _) _)⟩
 case round=>
  obtain ⟨k,hk,rfl,HB,hbr⟩:=hrel;rcases Gp k n with hlt | hge
  ·obtain ⟨bl,off,rfl,hbl,hc⟩:=(HV.out.below hbr.out).2 ZZ;obtain ⟨hc0,hc1⟩:=hc k hlt;have hkl:k<fs.length:=by rw [HL.out];exact hlt
   have hsn:=Dl (put_snoc fs k hkl);have hle:=put_take_line fs k hkl;have hz:=HZ.out;clear hc;generalize fs[k]?.getD dflt=f at *;rw [line_length] at hle;have hlen:=Dl (show (Da (put (fs.take k))).length+(lineB f).size<=140737488355328 by rw [Lib.byteCells_length,lineB_size];omega);have v1:¬9223372036854775807<f.1.size+2:=ZZ;have v2:¬9223372036854775807<f.1.size+2+f.2.size:=ZZ;have v3:¬9223372036854775807<f.1.size+2+f.2.size+2:=ZZ;have hcells:Da (put (fs.take k))++Lib.strCells (lineB f)=Da (put (fs.take (k+1))):=by rw [Lib.strCells_eq,lineB_list,←Lib.byteCells_append,←hsn.out]
   have HCl:=Dl hcells;clear hcells hle hz hsn hkl;obtain ⟨f0,f1⟩:=f;simp only at hc0 hc1 v1 v2 v3;have hBw:w.heap.size<=wr.heap.size:=hbr.out.size
   go_wp2_with (go_at_call 171;with_reducible refine (HW.out _ _ _ (isB_alloc HB.out _) hlen.out ?hbw).mono ?_)
   case hbw=>simp;omega
   rintro e w2 ⟨rfl,hat,hb2⟩
   have H2:Hid (CZ Bld.T Bld.E w.heap.size w.heap.size (Da (put (fs.take (k+1)))) w2):=Dl (by rw [←HCl.out];exact .inr hat);have H3:Hid (Below w.heap.size w w2):=Dl ((hbr.out.alloc hBw _).trans hb2);clear hat hb2 HB hbr HCl hlen;go_wp2;exact XXuDV
  ·obtain rfl:k=n:=by omega
   have hput:fs.take k=fs:=FF (by rw [HL.out];exact Gi _);rw [hput] at HB;have HS:=Dl (Tryz.Builder_String_any_f w.heap.size w.heap.size (put fs) wr HB.out hbr.out.size);clear HB hput;go_wp2_with (go_at_call 172;with_reducible refine HS.out.mono ?_;rintro e w2 ⟨rfl,hx,hb2⟩);go_ret;exact ⟨by rw [←HR.out];rfl,hbr.out.trans hb2⟩
end
end Fd
namespace Can
open Base Txt Par Pg
theorem fields_frame (m:ByteArray) (fs ts:List Fld) (body:List UInt8):fieldsV m fs body ts=hostA (without fs [Co,Cz])++frameV m.data.toList body ts:=by
 unfold fieldsV frameV;split
 ·rfl
 ·split
  ·rfl
  ·rw [D8]
theorem frame_len (m:List UInt8) (body:List UInt8) (ts:List Fld):(frameV m body ts).length<=1:=by
 unfold frameV;split
 ·exact Gi _
 ·split
  ·exact Gi _
  ·exact Gz _
section
attribute [local go_sem] A8
theorem lines_any (a:Option Addr) (n cap:Nat) (fs:List Fld) (w:World) (hv:Flds w a n fs) (hn:n<=1000000000) (hz:(Cc fs).length<=1000000000000) :
 Calls Mm 93 #[.slice a n cap] w λe w'=>e=.returned (ZD (ba (Cc fs ++ [13,10])))/\Below w.heap.size w w':=by
 have H:=Dl (Fd.put_any a n cap fs w hv hn hz);have e0:ba (Cc fs ++ [13,10])=ba (Cc fs) ++⟨#[13,10]⟩:=by apply ByteArray.ext;simp [ba,Bo]
 have hs:(ba (Cc fs)).size<=1000000000000:=by rw [ba_size];exact hz
 rw [e0];clear e0 hv hz;generalize ba (Cc fs)=s at *;have v1:¬9223372036854775807<s.size+2:=ZZ;clear hs;go_enter Tryz.func93,Tryz.ntmps93;go_wp2_with (go_at_call 138;with_reducible refine H.out.mono ?_;rintro e w1 ⟨rfl,hb1⟩);go_ret;exact ⟨rfl,hb1⟩
theorem fields_any (V:Value) (r:Hz) (w:World) (h:Ia w V r) (hl:r.fs.length<=100000) (hf:∀f∈r.fs,f.1.size<=1000000000) (hn:r.body.length<=1000000000) :
 Calls Mm 57 #[V] w λe w'=>∃a c,e=.returned (.slice a (fieldsV r.m r.fs r.body r.ts).length c)/\Flds w' a (fieldsV r.m r.fs r.body r.ts).length (fieldsV r.m r.fs r.body r.ts)/\Below w.heap.size w w'/\w'.ownsRow w.heap.size 126 2 (.slice a (fieldsV r.m r.fs r.body r.ts).length c) (fieldsV r.m r.fs r.body r.ts).length (cells (fieldsV r.m r.fs r.body r.ts)):=by
 have hs9:∀f∈r.fs,f.1.size<=1000000000:=λf hm=>hf f hm;obtain ⟨fa,fc,ba,bc,ta,tc,rfl,h1,h2,h3⟩:=h;have HR:=Dl (show Ia w (Z9 #[ZD r.m,ZD r.x,ZE Z7 r.k,.slice fa r.fs.length fc,ZB r.ch,.slice ba r.body.length bc,.slice ta r.ts.length tc]) r from ⟨fa,fc,ba,bc,ta,tc,rfl,h1,h2,h3⟩);have HG:=Dl λw' hb=>framing_any _ r w' (HR.out.below (w':=w') hb) hn;clear HR h2 h3;rw [fields_frame];obtain ⟨X,hX⟩:∃X,without r.fs [Co,Cz]=X:=⟨_,rfl⟩;have HW:Hid (∀(w':World) (b:Option Addr),Below w.heap.size w w'->Strs w' b 2 [⟨#[67,111,110,116,101,110,116,45,76,101,110,103,116,104]⟩,⟨#[84,114,97,110,115,102,101,114,45,69,110,99,111,100,105,110,103]⟩]->Calls Mm 98 #[.slice fa r.fs.length fc,.slice b 2 2] w' λe w2=>∃d k c,e=.returned (.slice d k c)/\k=X.length/\Flds w2 d k X/\Below w'.heap.size w' w2/\w2.ownsRow w'.heap.size 126 2 (.slice d k c) k (cells X)):=
  Dl λw' b hb hu=>hX ▸ without_own fa _ fc r.fs b 2 2 [Co,Cz] w' (h1.below hb) hu ZZ ZX hs9 (by intro s hm;rcases (by simpa using hm:s=Co∨s=Cz) with rfl | rfl<;>decide)
 have hXl:X.length<=100000:=by have:=List.length_filter_le (λf:Fld=>!one [Co,Cz] f.1) r.fs;rw [←hX];unfold without;omega
 have HXS:Hid (∀f∈X,f.1.size<=maxLen):=Dl λf hm=>by rw [←hX] at hm;have:=hs9 f (List.mem_filter.1 hm).1;unfold maxLen;omega
 have hY:=frame_len r.m.data.toList r.body r.ts;generalize frameV r.m.data.toList r.body r.ts=Y at *;rw [hX];clear hX h1 hf hs9;obtain ⟨i0,hi,hz0,hz1,hz2⟩:=info_parts field_info;have G1:=Dl hi;have G2:=Dl hz0;have G3:=Dl hz1;have G4:=Dl hz2;clear hi hz0 hz1 hz2;obtain ⟨F,hF⟩:∃F,find X Cv=F:=⟨_,rfl⟩;have HF:Hid (∀(w':World) (b:Option Addr) (c:Nat),Flds w' b X.length X->Calls Mm 99 #[.slice b X.length c,ZD ⟨#[72,111,115,116]⟩] w' λe w2=>∃b m c,e=.returned (.slice b m c)/\m=F.length/\Below w'.heap.size w' w2):=
  Dl λw' b c hv=>(find_any b _ c X Cv w' hv ZZ HXS.out).mono (by rintro e w2 ⟨b,m,c,h1,h2, -,h4⟩;exact ⟨b,m,c,h1,by rw [h2,hF],h4⟩)
 unfold hostA;rw [hF];clear hF HXS;rcases F with _ | ⟨f0,F⟩
 ·rw [ZN rfl];go_enter Tryz.func57,Tryz.ntmps57
  go_wp2_with (first
   |(at_builtin;refine Ai _ rfl _ _ 46 rfl w.heap.size 126 i0 (.agg #[.string Bp,.string Bp]) 2 32 Nq G1.out G2.out G3.out G4.out rfl ZX _ (1+X.length) (cells ((⟨#[72,111,115,116]⟩,⟨#[108,111,99,97,108,104,111,115,116]⟩)::X)) rfl HO4.out a4 Y.length c4 (cells Y) rfl (cells_length _) (cells_here HF4.out) (cells_one Y) ZP ZZ HB4.out.size ?_;intro v5 w5 hown5 hgr5 _ _;have HB5:=Dl (HB4.out.grown hgr5 HB4.out.size (own_base HO4.out));rw [←cells_append] at hown5;obtain ⟨A5,c5,rfl,hA5⟩:=Flds.of_own hown5;have HA5:=Dl hA5;have HW5:=Dl hown5;clear hown5 hgr5 hA5)
   |(go_at_call 100;with_reducible refine (HG.out _ HB3.out).mono ?_;rintro e w4 ⟨a4,c4,rfl,hF4,hb4⟩
     have HB4:=Dl (A6 HB3.out hb4);have HO4:=Dl (own_below HO3.out hb4);have HF4:=Dl hF4;have HY4:=Dl hF4.1;clear hb4 hF4 q0 q1 q2 q3 q4 q5 q6)
   |(at_builtin;refine Ai _ rfl _ _ 46 rfl w.heap.size 126 i0 (.agg #[.string Bp,.string Bp]) 2 32 Nq G1.out G2.out G3.out G4.out rfl ZX _ 1 [.string ⟨#[72,111,115,116]⟩,.string ⟨#[108,111,99,97,108,104,111,115,116]⟩] rfl (World.ownsRow_lit (base:=w.heap.size) (e:=126) (size:=2) w2 #[.string ⟨#[72,111,115,116]⟩,.string ⟨#[108,111,99,97,108,104,111,115,116]⟩] 1 HB2.out.size ZX rfl) d X.length c (cells X) rfl (cells_length _) (cells_here (HF2.out.below ((AE _ _).alloc (Gi _) _))) (cells_one X) ZP ZZ (by simp;exact Nat.le_succ_of_le HB2.out.size) ?_;intro v3 w3 hown3 hgr3 _ _
     have hgb3:Below w2.heap.size w2 w3:=((AE _ _).alloc (Gi _) _).grown hgr3 ZW (by intro k hk;have h9:w2.heap.size=k:=GZ.inj hk;omega)
     replace q0:=(hgb3.cell (p:=⟨w.heap.size,0,none⟩) hlt).trans q0
     replace q1:=(hgb3.cell (p:=⟨w.heap.size,1,none⟩) hlt).trans q1
     replace q2:=(hgb3.cell (p:=⟨w.heap.size,2,none⟩) hlt).trans q2
     replace q3:=(hgb3.cell (p:=⟨w.heap.size,3,none⟩) hlt).trans q3
     replace q4:=(hgb3.cell (p:=⟨w.heap.size,4,none⟩) hlt).trans q4
     replace q5:=(hgb3.cell (p:=⟨w.heap.size,5,none⟩) hlt).trans q5
     replace q6:=(hgb3.cell (p:=⟨w.heap.size,6,none⟩) hlt).trans q6
     have HB3:=Dl (A6 HB2.out hgb3);have HO3:=Dl (show w3.ownsRow w.heap.size 126 2 v3 (1+X.length) (cells ((⟨#[72,111,115,116]⟩,⟨#[108,111,99,97,108,104,111,115,116]⟩)::X)) from hown3);clear hown3 hgr3 hgb3)
   |(go_at_call 99;with_reducible refine (HF.out _ _ _ HF1.out).mono ?_;rintro e w2 ⟨b2,m2,c2,rfl,rfl,hb2⟩
     replace q0:=(hb2.cell (p:=⟨w.heap.size,0,none⟩) hlt).trans q0
     replace q1:=(hb2.cell (p:=⟨w.heap.size,1,none⟩) hlt).trans q1
     replace q2:=(hb2.cell (p:=⟨w.heap.size,2,none⟩) hlt).trans q2
     replace q3:=(hb2.cell (p:=⟨w.heap.size,3,none⟩) hlt).trans q3
     replace q4:=(hb2.cell (p:=⟨w.heap.size,4,none⟩) hlt).trans q4
     replace q5:=(hb2.cell (p:=⟨w.heap.size,5,none⟩) hlt).trans q5
     replace q6:=(hb2.cell (p:=⟨w.heap.size,6,none⟩) hlt).trans q6
     replace hlt:=Gn hlt hb2.size
     have HB2:=Dl (A6 HB1.out hb2)
     have HO2:=Dl (own_below HO1.out hb2);have HF2:=Dl (HF1.out.below hb2);clear hb2)
   |(go_at_call 98;with_reducible refine (HW.out _ _ (((AE _ _).alloc (Gi _) _).alloc ZW _) (Strs.two _ _ ZW _ _ _)).mono ?_;rintro e w1 ⟨d,k,c,rfl,rfl,hF1,hb1,ho1⟩
     have q0:=(hb1.cell (p:=⟨w.heap.size,0,none⟩) XX2aa).trans (show _=some (ZD r.m) by simp)
     have q1:=(hb1.cell (p:=⟨w.heap.size,1,none⟩) XX2aa).trans (show _=some (ZD r.x) by simp)
     have q2:=(hb1.cell (p:=⟨w.heap.size,2,none⟩) XX2aa).trans (show _=some (ZE Z7 r.k) by simp)
     have q3:=(hb1.cell (p:=⟨w.heap.size,3,none⟩) XX2aa).trans (show _=some (.slice fa r.fs.length fc) by simp)
     have q4:=(hb1.cell (p:=⟨w.heap.size,4,none⟩) XX2aa).trans (show _=some (ZB r.ch) by simp)
     have q5:=(hb1.cell (p:=⟨w.heap.size,5,none⟩) XX2aa).trans (show _=some (.slice ba r.body.length bc) by simp);have q6:=(hb1.cell (p:=⟨w.heap.size,6,none⟩) XX2aa).trans (show _=some (.slice ta r.ts.length tc) by simp);have hlt:w.heap.size<w1.heap.size:=Gn XX2aa hb1.size
     have HB1:=Dl (A6 ((((AE _ _).alloc (Gi _) _).alloc ZW _):Below w.heap.size w _) hb1);have HO1:=Dl (own_lower ho1 (base':=w.heap.size) ZQ);have HF1:=Dl hF1;clear hb1 ho1 hF1))
  go_ret;have e9:1+X.length+Y.length=(X++Y).length+1:=ZQ;have h7:=HA5.out;have h8:=HW5.out;rw [e9] at h7 h8;exact ⟨A5,c5,ZQ,h7,HB5.out,h8⟩
 ·rw [ZO ZW];have hF0:¬(((f0::F).length:Nat):Int)=0:=by simp;omega
  generalize (f0::F).length=nF at *;go_enter Tryz.func57,Tryz.ntmps57
  go_wp2_with (first
   |(at_builtin;refine Ai _ rfl _ _ 46 rfl w.heap.size 126 i0 (.agg #[.string Bp,.string Bp]) 2 32 Nq G1.out G2.out G3.out G4.out rfl ZX _ (X.length) (cells X) rfl HO4.out a4 Y.length c4 (cells Y) rfl (cells_length _) (cells_here HF4.out) (cells_one Y) ZP ZZ HB4.out.size ?_;intro v5 w5 hown5 hgr5 _ _;have HB5:=Dl (HB4.out.grown hgr5 HB4.out.size (own_base HO4.out));rw [←cells_append] at hown5;obtain ⟨A5,c5,rfl,hA5⟩:=Flds.of_own hown5;have HA5:=Dl hA5;have HW5:=Dl hown5;clear hown5 hgr5 hA5)
   |(go_at_call 100;with_reducible refine (HG.out _ HB2.out).mono ?_;rintro e w4 ⟨a4,c4,rfl,hF4,hb4⟩
     have HB4:=Dl (A6 HB2.out hb4);have HO4:=Dl (own_below HO2.out hb4);have HF4:=Dl hF4;have HY4:=Dl hF4.1;clear hb4 hF4 q0 q1 q2 q3 q4 q5 q6)
   |(go_at_call 99;with_reducible refine (HF.out _ _ _ HF1.out).mono ?_;rintro e w2 ⟨b2,m2,c2,rfl,rfl,hb2⟩
     replace q0:=(hb2.cell (p:=⟨w.heap.size,0,none⟩) hlt).trans q0
     replace q1:=(hb2.cell (p:=⟨w.heap.size,1,none⟩) hlt).trans q1
     replace q2:=(hb2.cell (p:=⟨w.heap.size,2,none⟩) hlt).trans q2
     replace q3:=(hb2.cell (p:=⟨w.heap.size,3,none⟩) hlt).trans q3
     replace q4:=(hb2.cell (p:=⟨w.heap.size,4,none⟩) hlt).trans q4
     replace q5:=(hb2.cell (p:=⟨w.heap.size,5,none⟩) hlt).trans q5
     replace q6:=(hb2.cell (p:=⟨w.heap.size,6,none⟩) hlt).trans q6
     replace hlt:=Gn hlt hb2.size
     have HB2:=Dl (A6 HB1.out hb2)
     have HO2:=Dl (own_below HO1.out hb2);have HF2:=Dl (HF1.out.below hb2);clear hb2)
   |(go_at_call 98;with_reducible refine (HW.out _ _ (((AE _ _).alloc (Gi _) _).alloc ZW _) (Strs.two _ _ ZW _ _ _)).mono ?_;rintro e w1 ⟨d,k,c,rfl,rfl,hF1,hb1,ho1⟩
     have q0:=(hb1.cell (p:=⟨w.heap.size,0,none⟩) XX2aa).trans (show _=some (ZD r.m) by simp)
     have q1:=(hb1.cell (p:=⟨w.heap.size,1,none⟩) XX2aa).trans (show _=some (ZD r.x) by simp)
     have q2:=(hb1.cell (p:=⟨w.heap.size,2,none⟩) XX2aa).trans (show _=some (ZE Z7 r.k) by simp)
     have q3:=(hb1.cell (p:=⟨w.heap.size,3,none⟩) XX2aa).trans (show _=some (.slice fa r.fs.length fc) by simp)
     have q4:=(hb1.cell (p:=⟨w.heap.size,4,none⟩) XX2aa).trans (show _=some (ZB r.ch) by simp)
     have q5:=(hb1.cell (p:=⟨w.heap.size,5,none⟩) XX2aa).trans (show _=some (.slice ba r.body.length bc) by simp);have q6:=(hb1.cell (p:=⟨w.heap.size,6,none⟩) XX2aa).trans (show _=some (.slice ta r.ts.length tc) by simp);have hlt:w.heap.size<w1.heap.size:=Gn XX2aa hb1.size
     have HB1:=Dl (A6 ((((AE _ _).alloc (Gi _) _).alloc ZW _):Below w.heap.size w _) hb1);have HO1:=Dl (own_lower ho1 (base':=w.heap.size) ZQ);have HF1:=Dl hF1;clear hb1 ho1 hF1))
  go_ret;exact ⟨A5,c5,ZW,by simpa using HA5.out,HB5.out,by simpa using HW5.out⟩
end
end Can
namespace Can
open Base Txt Par Pg Flt
def SzF (M:Nat) (f:Fld):Prop:=f.1.size+f.2.size<=M
theorem cut_sum (c:UInt8) (l:List UInt8):(Jg c l).1.length+(Jg c l).2.1.length<=l.length:=by
 rcases Tgt.cut_cases c l with h | ⟨a,r,rfl,h⟩
 ·rw [Tgt.cutAt_none c l h];show l.length+0<=_;omega
 ·rw [Tgt.cutAt_app c a r h];show a.length+r.length<=(a++c::r).length;rw [EO,EP];omega
structure SzR (b:Bd) (r:Hz):Prop where
 m:r.m.size<=FT b.x0
 x:r.x.size<=FT b.x0
 fs:∀f∈r.fs,SzF (FT b.x0) f
 ts:∀f∈r.ts,SzF (FT b.x0) f
 fl:(r.fs.length:Int)<=b.x1
 tl:(r.ts.length:Int)<=b.x5
 body:r.body.length<=1048576
structure Sz (b:Bd) (t:T):Prop where
 most:t.rd.most<=FT b.x0
 m:t.r.m.size<=FT b.x0
 x:t.r.x.size<=FT b.x0
 fs:∀f∈t.r.fs,SzF (FT b.x0) f
 ts:∀f∈t.r.ts,SzF (FT b.x0) f
 fl:(t.r.fs.length:Int)<=t.hl/\(t.hl:Int)<=b.x1
 tl:(t.r.ts.length:Int)<=t.bl/\(t.bl:Int)<=b.x5
 out:∀r∈t.out,SzR b r
section
variable {b:Bd} {t t2:T} {s:List UInt8} {c:UInt8}
theorem Sz.said (h:Sz b t) (hb:t.r.body.length<=1048576):SzR b t.r:=⟨h.m,h.x,h.fs,h.ts,by have:=h.fl;omega,by have:=h.tl;omega,hb⟩
theorem Sz.fin (h:Sz b t) (hr:b.right=true) (hb:t.r.body.length<=1048576):Sz b t.fin:=by
 have hx:=Bd.edges hr;refine ⟨h.most,Gz _,Gz _,λf hf=>(by cases hf),λf hf=>(by cases hf),⟨by show (0:Int)<=0;omega,by show (0:Int)<=b.x1;omega⟩,⟨by show (0:Int)<=0;omega,by show (0:Int)<=b.x5;omega⟩,λr hm=>?_⟩;rcases Fj.1 hm with hm | hm
 ·exact h.out r hm
 ·rw [Fv.1 hm];exact h.said hb
theorem sz_field {lines:Nat} {l l':List Fld} {most:Int} {M:Nat} (h:fieldV 0 lines l s most=.inr l') (hs:s.length<=M) (hl:∀f∈l,SzF M f):(∀f∈l',SzF M f)/\l'.length=l.length+1/\((lines+1:Nat):Int)<=most:=by
 unfold fieldV at h;split at h
 ·cases h
 rename_i hm;have hg:BX 0 s=false:=by unfold BX;rw [none0,AS]
 rw [ZO (by rw [hg,AS];exact AU),Fd.clOf_zero] at h;rcases Fd.parse_zero s with h2 | ⟨n,v,h2⟩
 ·rw [h2] at h;cases h
 ·rw [h2] at h;obtain rfl:=Sum.inr.inj h;have k:=Fd.parse_strict h2;have kl:=cut_sum 58 s;refine ⟨λf hf=>?_,ZW,ZZ⟩;rcases Fj.1 hf with hf | hf
  ·exact hl f hf
  ·obtain rfl:=Fv.1 hf;show (ba n).size+(ba v).size<=M;rw [size_ba,size_ba,←k.2.1,←k.2.2.1];have:=trimL_length NF (Jg 58 s).2.1;omega
theorem XXsY1 {P:Prop} (h:P:=by exact ⟨ht.most,ht.m,ht.x,ht.fs,ht.ts,ht.fl,ht.tl,ht.out⟩):P:=h
theorem sz_line (ht:Sz b t) (hr:b.right=true) (ho:t.Ok) (hs:s.length<=FT b.x0) (h:(t.line 0 b s).1=0):Sz b (t.line 0 b s).2:=by
 have hbody:t.r.body.length<=1048576:=by have:=ho.body;omega
 unfold IX at h ⊢;by_cases h1:t.st=1
 ·simp only [ZN h1] at h ⊢;unfold T.first at h ⊢;by_cases h0:s= []
  ·rw [ZN h0];exact ht
  ·rw [ZO h0] at h ⊢;have hle:=Rq.request_le (Rq.clOf 0) b.od s;obtain ⟨m,x,k,e,hq⟩:∃m x k e,Is (Rq.clOf 0) b.od s=(m,x,k,e):=⟨_,_,_,_,rfl⟩;rw [hq] at h hle ⊢;dsimp only at h hle ⊢;by_cases he:e=0
   ·subst he;rw [ZN rfl];exact ⟨ht.most,by show (ba m).size<=_;rw [size_ba];omega,by show (ba x).size<=_;rw [size_ba];omega,ht.fs,ht.ts,ht.fl,ht.tl,ht.out⟩
   ·rw [ZO he];exact ht
 simp only [ZO h1] at h ⊢;by_cases h2:t.st=2
 ·simp only [ZN h2] at h ⊢;unfold T.fields at h ⊢;by_cases h0:s= []
  ·rw [ZN h0];unfold IT;dsimp only;split
   ·exact ht
   ·split
    ·exact XXsY1
    ·split
     ·exact ht.fin hr hbody
     ·exact XXsY1
  ·rw [ZO h0] at h ⊢;obtain ⟨l,hl⟩:=listE_zero h λe he=>fieldV_err he;rw [hl];obtain ⟨k1,k2,k3⟩:=sz_field hl hs ht.fs;exact ⟨ht.most,ht.m,ht.x,k1,ht.ts,⟨by show (l.length:Int)<=((t.hl+1:Nat):Int);have:=ht.fl;omega,k3⟩,ht.tl,ht.out⟩
 simp only [ZO h2] at h ⊢;by_cases h4:t.st=4
 ·simp only [ZN h4];unfold IQ;dsimp only;split
  ·exact ht
  ·split
   ·exact XXsY1
   ·split
    ·exact ht
    ·exact XXsY1
 simp only [ZO h4] at h ⊢;by_cases h7:t.st=7
 ·simp only [ZN h7] at h ⊢;unfold T.trail at h ⊢;by_cases h0:s= []
  ·rw [ZN h0];exact ht.fin hr hbody
  ·rw [ZO h0] at h ⊢;obtain ⟨l,hl⟩:=listE_zero h λe he=>fieldV_err he;rw [hl];obtain ⟨k1,k2,k3⟩:=sz_field hl hs ht.ts;exact ⟨ht.most,ht.m,ht.x,ht.fs,k1,ht.fl,⟨by show (l.length:Int)<=((t.bl+1:Nat):Int);have:=ht.tl;omega,k3⟩,ht.out⟩
 simp only [ZO h7];exact ⟨Gi _,ht.m,ht.x,ht.fs,ht.ts,ht.fl,ht.tl,ht.out⟩
theorem byte_most (m:FJ) (c:UInt8):(m.byte c).most=m.most:=by
 unfold FJ.byte
 repeat' split
 all_goals rfl
theorem line_most (ht:Sz b t) (ho:t.Ok):(t.rd.byte c).line.length<=FT b.x0:=by
 have h1:=(ho.rd.byte c).len;have h2:=byte_most t.rd c;have h3:=ht.most;unfold FJ.line;split
 ·omega
 ·exact Gz _
theorem Sz.byte (ht:Sz b t) (c:UInt8):Sz b {t with rd:=t.rd.byte c}:=⟨by show (t.rd.byte c).most<=_;rw [byte_most];exact ht.most,ht.m,ht.x,ht.fs,ht.ts,ht.fl,ht.tl,ht.out⟩
theorem sz_inLine {u:Bool} (ht:Sz b t) (hr:b.right=true) (ho:t.Ok) (h:t.inLine 0 b c=(.live t2,u)):Sz b t2:=by
 have hl:=line_most (c:=c) ht ho;unfold IW at h;dsimp only at h;split at h
 ·cases h;exact ht.byte c
 ·split at h
  ·cases h
  ·split at h
   ·rw [none0,AN,ZO AU] at h;cases h
   ·rename_i g0 g3 g4;have h1:=ZH Prod.fst h;unfold ends at h1;dsimp only at h1;split at h1
    ·rename_i h0;have hf:FS (t.rd.clear.next c)=false:=by
      unfold FS;simp only [Bool.or_eq_false_iff,ZM];exact ⟨g3,g4⟩
     have:=sz_line (t:={t with rd:=t.rd.byte c}) (ht.byte c) hr (ho.byteR c hf) hl h0;cases h1;exact this
    ·cases h1
theorem Sz.counted (ht:Sz b t):Sz b t.counted:=by
 unfold T.counted;split
 ·exact ht
 ·exact XXsY1
theorem sz_look {u:Bool} (ht:Sz b t) (hr:b.right=true) (ho:t.Ok) (h:t.look 0 b c=(.live t2,u)):Sz b t2:=by
 unfold T.look at h;split at h
 ·rename_i hb;have hk:Sz b (t.keep c):=⟨ht.most,ht.m,ht.x,ht.fs,ht.ts,ht.fl,ht.tl,ht.out⟩;have h1:=ZH Prod.fst h;dsimp only at h1;split at h1
  ·cases h1;unfold T.endData;split
   ·exact ⟨by show (FJ.of 0 0).most<=_;exact Gz _,hk.m,hk.x,hk.fs,hk.ts,hk.fl,hk.tl,hk.out⟩
   ·refine hk.fin hr ?_;show (t.r.body ++ [c]).length<=1048576;have h9:=ho.body;have h8:=ho.left hb;rw [EO,Fa];omega
  ·cases h1;exact hk
 ·split at h
  ·split at h
   ·cases h
   ·rename_i hx;exact sz_inLine ht.counted hr (ho.counted hr hx) h
  ·exact sz_inLine ht hr ho h
theorem sz_take (ht:Sz b t) (hr:b.right=true) (hs:t.Strict) (ho:t.Ok) (h:t.take 0 b c=.live t2):Sz b t2:=by
 unfold T.take at h;have hs0:({t with cnt:=false}:T).Strict:=⟨hs.lf,hs.cr⟩;have hu:=strict_look (b:=b) (c:=c) hs0;have hk:Sz b ({t with cnt:=false}:T):=⟨ht.most,ht.m,ht.x,ht.fs,ht.ts,ht.fl,ht.tl,ht.out⟩;have hk2:({t with cnt:=false}:T).Ok:=⟨ho.rd,ho.nf,ho.st,ho.hl,ho.bl,ho.fsl,ho.tsl,ho.fss,ho.tss,ho.m,ho.x,ho.body,ho.left,ho.early,ho.size⟩;rcases hq:({t with cnt:=false}:T).look 0 b c with ⟨q,u⟩;rw [hq] at h hu;obtain rfl:u=true:=hu;cases q with
 | dead e1 o1=>cases h
 | live t1=>
   cases h;exact sz_look hk hr hk2 hq
theorem sz_new (hr:b.right=true):Sz b (T.new 0 b):=by have hx:=Bd.edges hr;exact ⟨Gi _,Gz _,Gz _,λf hf=>(by cases hf),λf hf=>(by cases hf),⟨by show (0:Int)<=0;omega,by show (0:Int)<=b.x1;omega⟩,⟨by show (0:Int)<=0;omega,by show (0:Int)<=b.x5;omega⟩,λr hm=>(by cases hm)⟩
theorem feed_size (hr:b.right=true):∀(l:List UInt8) (t:T),Sz b t->t.Strict->t.Ok->∀r∈((Ho t).feed 0 b l).out,SzR b r
 | [],t,ht,_,_=>ht.out
 | c::l,t,ht,hs,ho=>by
   rw [feed_cons];show∀r∈((t.take 0 b c).feed 0 b l).out,SzR b r;cases h:t.take 0 b c with
   | live t2=>exact feed_size hr l t2 (sz_take ht hr hs ho h) (take_wide (p:=0) h hs).2 (T.Ok.take ho hr c h)
   | dead e o=>
     rw [feed_dead];show∀r∈o,SzR b r;rw [strict_bad hs h];exact ht.out
theorem read_size (hr:b.right=true) (h0:(T.new 0 b).Ok) (l:List UInt8):∀r∈(Hr 0 b l).out,SzR b r:=by unfold Hr;rw [show Q.new 0 b=.live (T.new 0 b) from if_pos (by rw [hr];rfl)];exact feed_size hr l (T.new 0 b) (sz_new hr) ⟨none0 1,none0 2⟩ h0
end
end Can
end Go.Proofs.YtdfabddnpgjepaaGreatDoor
