import Derived.Test.YtdfabddnpgjepaaGreatDoorCzc
set_option linter.unusedSimpArgs false
set_option maxHeartbeats 8000000
set_option maxRecDepth 100000
open Array renaming getD_eq_getD_getElem?→Am,getElem?_eq_getElem→An,getElem?_eq_none→Ao,replicate→As
open Bool renaming and_eq_true→AM,not_eq_true'→AX,or_eq_true→Bc
open ByteArray renaming data_append→Bo
open Classical renaming em→B4
open Go.Act renaming put→Ab
open Go.Addr renaming add→Ac
open Go.Builtin renaming append_→Bi,zeroCells→Bl
open Go.IntKind renaming i64→Z7,u8→Z6,u32→Z5
open Go.Lib renaming hid→Dl
open Go.Proofs.Tryz renaming prog→Mm,underlying22→MZ,underlying5→Nr,underlying9→Ns
open Go.Region renaming binds→Ii,noSelect→Ij,ready→Ik,wanted→Il
open Go.RowKit.Below renaming refl→AE
open Go.Value renaming int→ZE,string→ZD,slice→ZC,bool→ZB,pointer→ZA,agg→Z9,tuple→Z8
open Go.World renaming ownsRow_nil→NY
open Go.World.ownsRow renaming lt→NW
open List renaming all_eq_true→D5,append_assoc→D7,dropWhile_cons→DM,eq_nil_of_length_eq_zero→DX,getElem?_eq_getElem→Et,getElem?_eq_some_iff→Ev,getElem?_map→Ew,getElem?_set_ne→Ez,getElem?_toArray→E6,length_append→EO,length_cons→EP,length_eq_zero_iff→ET,length_map→EV,length_nil→EW,map_append→Ff,map_cons→Fg,mem_append→Fj,mem_cons→Fk,mem_of_getElem?→Fs,mem_or_eq_of_mem_set→Fu,mem_singleton→Fv,not_mem_nil→Fx,range→Fy,setIfInBounds_toArray→F4
open Nat renaming eq_zero_or_pos→Gg,le_refl→Gi,le_trans→Gl,lt_of_lt_of_le→Gn,lt_or_ge→Gp,zero_add→Gy
open Option renaming some→GZ
open Prod.mk renaming injEq→Hl
open UInt8 renaming ofNat→NG
namespace Go.Proofs.YtdfabddnpgjepaaGreatDoor
open Go.RowKit
open Base renaming below_drewN→Az,below_step→A6,some_undef→A8
open Chk renaming putL→Bx,sizeV→Bz
open _root_.Go.Proofs.YtdfabddnpgjepaaGreatDoor.Fd renaming put→Cc
open Frm renaming chunked→Cn,clN→Co,hostN→Cv,hostsV→Cw,teN→Cz
open Ln renaming M→FJ,mid→FT,row_frozen→FX,row_lt→FY
open Num renaming digitOf→G5,readOf→G6,spell→G7
open Oct renaming allOf→GA
open Qk renaming has→Hs
open Rec renaming Bk→Hv,Reads→Ia,R→Hz
open Tgt renaming cutAt→Jg
open Tree renaming grow→Ju
open Txt renaming blank→NF
namespace Can
open Base Txt Par Pg
theorem dw_none {q:UInt8->Bool}:∀{l:List UInt8},(∀x∈l,q x=false)->l.dropWhile q=l
 | [],_=>rfl
 | x::l,h=>by rw [DM,h x ZW];rfl
theorem trim_none {q:UInt8->Bool} {l:List UInt8} (h:∀x∈l,q x=false):trimL q l=l:=by unfold trimL;rw [dw_none h,dw_none (λx hx=>h x (List.mem_reverse.1 hx)),List.reverse_reverse]
theorem dig_tab:∀k:Fin 256,G5 10 (NG k.val)=true->Oct.oneOf [6] (NG k.val).toNat=true/\NF (NG k.val)=false:=ZR
theorem dig_ok {x:UInt8} (h:G5 10 x=true):Oct.oneOf [6] x.toNat=true/\NF x=false:=by have:=dig_tab ⟨x.toNat,x.toNat_lt⟩;simp only [UInt8.ofNat_toNat] at this;exact this h
theorem len_ok (n:Nat):okF (Co,lenV n):=by
 have hd:∀x∈G7 10 n,G5 10 x=true:=D5.1 (Num.spell_all (b:=10) ZX ZX n);have e:(lenV n).data.toList=G7 10 n:=by simp [lenV,ba]
 show Fd.right Co.data.toList (lenV n).data.toList=true;rw [e];unfold Fd.right;rw [show GA [6] (G7 10 n)=true from D5.2 λx hx=>(dig_ok (hd x hx)).1,ZK (trim_none λx hx=>(dig_ok (hd x hx)).2)];decide +kernel
theorem len_size {n:Nat} (h:n<=1048576):(lenV n).size<=21:=by
 show (ba _).size<=21;rw [size_ba];exact Num.spell_len (b:=10) ZX 21 n ZZ ZX
theorem mem_host {l:List Fld} {f:Fld} (h:f∈hostA l):f∈l∨f=(Cv,localV):=by
 unfold hostA at h;split at h
 ·rcases Fk.1 h with h | h
  ·exact .inr h
  ·exact .inl h
 ·exact .inl h
theorem mem_fields {m:ByteArray} {fs ts:List Fld} {body:List UInt8} {f:Fld} (h:f∈fieldsV m fs body ts):f∈fs∨f=(Cv,localV)∨f=(Cz,Cn)∨f=(Co,lenV body.length):=by
 have key:f∈hostA (without fs [Co,Cz])->f∈fs∨f=(Cv,localV):=λh=>(mem_host h).imp_left λh=>(List.mem_filter.1 h).1;unfold fieldsV at h;split at h
 ·rcases Fj.1 h with h | h
  ·exact (key h).imp_right .inl
  ·exact .inr (.inr (.inl (Fv.1 h)))
 ·split at h
  ·rcases Fj.1 h with h | h
   ·exact (key h).imp_right .inl
   ·exact .inr (.inr (.inr (Fv.1 h)))
  ·exact (key h).imp_right .inl
theorem fields_len (m:ByteArray) (fs ts:List Fld) (body:List UInt8):(fieldsV m fs body ts).length<=fs.length+2:=by
 have h1:(hostA (without fs [Co,Cz])).length<=fs.length+1:=by
  have:(without fs [Co,Cz]).length<=fs.length:=List.length_filter_le _ _;unfold hostA;split
  ·simp;omega
  ·omega
 unfold fieldsV;split
 ·simp;omega
 ·split
  ·simp;omega
  ·omega
theorem put_le {M:Nat}:∀{l:List Fld},(∀f∈l,(bare f).length<=M)->(Cc l).length<=(M+2)*l.length
 | [],_=>by simp [Cc]
 | f::l,h=>by
   have h1:=h f ZW;have h2:=put_le (l:=l) λg hg=>h g (by simp [hg]);have e:Cc (f::l)=(bare f ++ [13,10])++Cc l:=by rw [←line_bare];rfl
   rw [e];simp only [EO,EP,EW,Nat.mul_succ] at h2 ⊢;omega
theorem bare_len (f:Fld):(bare f).length=f.1.size+f.2.size+2:=by
 unfold bare;simp only [EO,EP];show f.1.data.toList.length+(f.2.data.toList.length+1+1)= _;have h1:f.1.data.toList.length=f.1.size:=ZW
 have h2:f.2.data.toList.length=f.2.size:=ZW;omega
theorem okH_of {r:Hz} (h:Good r):okH r.fs:=by
 obtain ⟨old,l,k,hq,hk⟩:=h.line;have hh:=h.host;unfold hostR Cw at hh;unfold okH;rcases List.eq_nil_or_concat (find r.fs Cv) with h0 | ⟨a,y,h0⟩
 ·exact .inl h0
 ·right;unfold Cw;split at hh
  ·exact ZG hh ZX
  ·rename_i h1;have h2:decide (1<(find r.fs Cv).length)=false:=by
    cases e:decide (1<(find r.fs Cv).length) with
    | false=>rfl
    | true=>rw [e] at h1;simp at h1
   have h3:decide ((find r.fs Cv).length=0)=false:=by rw [h0];simp
   rw [h2,h3];exact hh
theorem hex_tab:∀k:Fin 256,G5 16 (NG k.val)=true->NG k.val≠59/\NG k.val≠10/\NG k.val≠13:=ZR
theorem hex_ok {x:UInt8} (h:G5 16 x=true):x≠59/\x≠10/\x≠13:=by have:=hex_tab ⟨x.toNat,x.toNat_lt⟩;simp only [UInt8.ofNat_toNat] at this;exact this h
theorem size_spell {n:Nat} {ext body:Int} (h0:0<=body) (h:(n:Int)<=body):Bz (Hs 0 27) (Hs 0 28) ext body (G7 16 n)=((n:Int),0):=by have hd:∀x∈G7 16 n,G5 16 x=true:=D5.1 (Num.spell_all (b:=16) ZX ZX n);have hc:Jg 59 (G7 16 n)=(G7 16 n,[],false):=Tgt.cutAt_none 59 _ λhm=>(hex_ok (hd 59 hm)).1 rfl;have h9:=Num.read_spell (b:=16) ZX ZX n 0 body h0;rw [if_pos h] at h9;have h8:G6 16 body (G7 16 n)=((n:Int),0):=h9;unfold Bz Chk.sizeL Chk.extL;rw [none0,none0,hc];show (if Chk.isx ext []=true then Chk.numV (G6 16 body (G7 16 n)) else (0,400))= _;rw [if_pos (show Chk.isx ext []=true from rfl),h8];rfl
theorem spell_plain (n:Nat):∀c∈G7 16 n,c≠10/\c≠13:=λc hc=>(hex_ok (D5.1 (Num.spell_all (b:=16) ZX ZX n) c hc)).2
theorem fits_wide {b0 b:Bd} {r:Hz} (hg:Good r) (hs:SzR b0 r) (h0:FT b0.x0<=1024) (h1:b0.x1<=32) (h5:b0.x5<=8) (w0:FT b.x0=4096) (w1:b.x1=100) (w2:b.x2=65536) (w3:b.x3=1048576) (w5:b.x5=100) (wc:b.ch=true) :
 Fits b r.m.data.toList r.x.data.toList r.fs r.body r.ts:=by
 obtain ⟨old,l,k,hq, -⟩:=hg.line;rw [Rq.clOf_zero] at hq;obtain ⟨q1,q2, -, -⟩:=request_again (old':=b.od) hq;have em:r.m.data.toList.length=r.m.size:=ZW;have ex:r.x.data.toList.length=r.x.size:=ZW;have hm:=hs.m;have hx:=hs.x;have hfl:=hs.fl;have htl:=hs.tl;have hbd:=hs.body;have hlen:(reqL r.m.data.toList r.x.data.toList).length<=2058:=by unfold reqL;simp only [EO,EP,EW];omega
 have hF:∀f∈fieldsV (ba r.m.data.toList) r.fs r.body r.ts,okF f/\(bare f).length<=1026:=by
  intro f hf;rcases mem_fields hf with h | rfl | rfl | rfl
  ·exact ⟨hg.fields f h,by rw [bare_len];have:=hs.fs f h;unfold SzF at this;omega⟩
  ·exact ⟨by unfold okF;decide +kernel,by rw [bare_len];decide⟩
  ·exact ⟨by unfold okF;decide +kernel,by rw [bare_len];decide⟩
  ·refine ⟨len_ok _,?_⟩;rw [bare_len];have:=len_size (n:=r.body.length) hbd;show Co.size+(lenV r.body.length).size+2<=1026;have e:Co.size=14:=by decide
   omega
 have hT:∀f∈r.ts,okF f/\(bare f).length<=1026:=λf h=>⟨hg.trailers f h,by rw [bare_len];have:=hs.ts f h;unfold SzF at this;omega⟩;have hn:=fields_len (ba r.m.data.toList) r.fs r.ts r.body;have p1:=put_le (M:=1026) λf hf=>(hF f hf).2;have p2:=put_le (M:=1026) λf hf=>(hT f hf).2;refine ⟨by rw [Rq.clOf_zero];exact q1,q2,ZZ,λf hf=>⟨(hF f hf).1,by have:=(hF f hf).2;omega⟩,λf hf=>⟨(hT f hf).1,by have:=(hT f hf).2;omega⟩,ZZ,ZZ,ZZ,ZZ,okH_of hg,λ_=>wc,λ_ _=>⟨size_spell ZZ ZZ,spell_plain _,?_⟩,λ_=>⟨?_,ZZ⟩⟩
 ·have:=Num.spell_len (b:=16) ZX 21 r.body.length ZZ ZX;omega
 ·have:=size_spell (n:=0) (ext:=b.x4) (body:=b.x3) ZZ ZZ;exact (show G7 16 0= [48] by decide +kernel) ▸ this
end Can
namespace By
open Base
def Bytes (w:World) (g:Nat) (l:List UInt8):Prop:=∀j (h:j<l.length),w.cell? ⟨g,j,none⟩=some (ZE Z6 (l[j].toNat:Int))/\w.frozen? ⟨g,j,none⟩=false
theorem conv_bytes (s:ByteArray) (w:World):∃W cap,(convert 9 22 (ZD s)).run Mm w=.ok (ZC (some ⟨w.heap.size,0,none⟩) s.size cap) W/\Bytes W w.heap.size s.data.toList/\w.heap.size<W.heap.size/\Below w.heap.size w W:=by exact XXLUf
end By
namespace By
open Base
abbrev bv (c:UInt8):Value:=ZE Z6 (c.toNat:Int)
def Buf (w:World) (B:Nat) (v:Value) (xs:List UInt8):Prop:=∃g cap,v=ZC (some ⟨g,0,none⟩) xs.length cap/\B<=g/\g<w.heap.size/\xs.length<=cap/\(∀j (h:j<xs.length),w.cell? ⟨g,j,none⟩=some (bv xs[j]))/\
 ∀j,xs.length<=j->j<cap->(w.cell? ⟨g,j,none⟩).isSome=true/\w.frozen? ⟨g,j,none⟩=false
def Rd (w:World) (v:Value) (ys:List UInt8):Prop:=∃a c,v=.slice a ys.length c/\Nums .u8 w a ys.length (ys.map λc=>(c.toNat:Int))
theorem row_clear {w:World} {g:Nat} {cs:Array Value} {ty:TypeId} (h:w.heap[g]?=some (.cells cs ty (0,0))) (k:Nat):w.frozen? ⟨g,k,none⟩=false:=by simp [World.frozen?,h]
theorem lt_alloc (w:World) (o:Obj):w.heap.size<(w.drew.alloc o).heap.size:=by
 have h:w.drew.heap.size<(w.drew.alloc o).heap.size:=ZW;exact h
section
variable {w w':World} {B:Nat} {v x:Value} {xs ys:List UInt8}
theorem Buf.below (h:Buf w B v xs) (hb:Below w.heap.size w w'):Buf w' B v xs:=by obtain ⟨g,cap,e,h1,h2,h3,h4,h5⟩:=h;exact ⟨g,cap,e,h1,Gn h2 hb.size,h3,λj hj=>(hb.cell (p:=⟨g,j,none⟩) h2).trans (h4 j hj),λj k1 k2=>⟨by rw [hb.cell (p:=⟨g,j,none⟩) h2];exact (h5 j k1 k2).1,by rw [hb.frozen (p:=⟨g,j,none⟩) h2];exact (h5 j k1 k2).2⟩⟩
theorem Rd.below (h:Rd w v ys) (hb:Below w.heap.size w w'):Rd w' v ys:=by obtain ⟨a,c,e,hn⟩:=h;exact ⟨a,c,e,hn.below hb⟩
theorem Buf.rd (h:Buf w B v xs):Rd w v xs:=by obtain ⟨g,cap,e,h1,h2,h3,h4,h5⟩:=h;exact ⟨_,cap,e,ZW,λ_=>⟨g,0,rfl,h2,λj hj=>by rw [Gy,h4 j hj];simp [hj]⟩⟩
theorem u8_info:(Mm.info? 5).map (λi=>(i.zero,i.size,i.bytes))=some (some (ZE Z6 0),1,1):=ZY
theorem Rd.src (h:Rd w x ys):Src Mm 1 22 x ys.length (ys.map bv) w:=by
 obtain ⟨a,c,e,hl,hc⟩:=h;subst e;rcases Gg ys.length with h0 | h0
 ·have:ys= []:=DX h0;subst this;cases a with
  | none=>exact Src.ofNil w MZ c
  | some a=>exact Src.ofSlice w MZ a 0 c [] rfl (λj u hu=>by cases hu) (λu hu=>by cases hu)
 ·obtain ⟨b,off,rfl,hlt,hcc⟩:=hc h0
  refine Src.ofSlice w MZ _ _ c _ ZW (λj u hu=>?_) (λu hu=>?_)
  ·have hj:j<ys.length:=by have:=(Ev.1 hu).1;simpa using this
   have e:(⟨b,off,none⟩:Addr).add j=⟨b,off+j,none⟩:=by unfold Ac;by_cases h:j=0<;>simp [h]
   rw [e,hcc j hj];rw [Ew,Et hj] at hu;simp [hj] at hu ⊢;exact hu
  ·obtain ⟨c, -,rfl⟩:=List.mem_map.1 hu;rfl
theorem str_src (s:ByteArray):Src Mm 1 9 (.string s) s.data.toList.length (s.data.toList.map bv) w:=by have h:=Src.ofString (P:=Mm) (w:=w) (tx:=9) Ns s;have e:s.data.toList.length=s.size:=Array.length_toList;have e2:byteCells s=s.data.toList.map bv:=rfl;rw [e,←e2];exact h
theorem Buf.mono (h:Buf w B v xs) {B':Nat} (hB:B'<=B):Buf w B' v xs:=by obtain ⟨g,cap,rfl,h1,h2⟩:=h;exact ⟨g,cap,rfl,Gl hB h1,h2⟩
theorem buf_grow {g cap:Nat} (h4:∀j (h:j<xs.length),w.cell? ⟨g,j,none⟩=some (bv xs[j])) (tx:TypeId) (hs:Src Mm 1 tx x ys.length (ys.map bv) w) (hlen:xs.length+ys.length<=1000000000) (hr:cap<xs.length+ys.length) :
 ∃v' w',(Bi #[22,tx] 22 #[ZC (some ⟨g,0,none⟩) xs.length cap,x]).run Mm w=.ok v' w'/\Buf w' w.heap.size v' (xs++ys)/\Below w.heap.size w w':=by
 obtain ⟨i,hi,hzz⟩:=Option.map_eq_some_iff.1 u8_info;simp only [Hl] at hzz;obtain ⟨hz,hsz,hby⟩:=hzz;have hml:(ys.map bv).length=ys.length:=ZW;have hold:(Builtin.firstCells i.size xs.length (ZC (some ⟨g,0,none⟩) xs.length cap)).run Mm w.drew=.ok (xs.map bv).toArray w.drew:=by
  rw [hsz];refine run_firstCells_some w.drew 1 xs.length ⟨g,0,none⟩ xs.length cap (xs.map bv) ZW (λj u hu=>?_);have hj:j<xs.length:=by have:=(Ev.1 hu).1;simpa using this
  have e:(⟨g,0,none⟩:Addr).add j=⟨g,j,none⟩:=by unfold Ac;by_cases h:j=0<;>simp [h]
  rw [e];show w.cell? ⟨g,j,none⟩=some u;rw [h4 j hj];rw [Ew,Et hj] at hu;exact hu
 have hrun:=run_append_grow_src (P:=Mm) (w:=w) 22 tx 22 5 i (.int .u8 0) MZ hi hz (some ⟨g,0,none⟩) xs.length cap (xs.map bv) hold x ys.length (ys.map bv) (by rw [hsz];exact hs) hr ZZ
  (by rw [hby];have:=nextslicecap_le hr;omega)
 have hgc:=grownCap_ge w (xs.length+ys.length) cap 5;refine ⟨_,_,hrun,⟨w.heap.size,_,by rw [EO],Gi _,lt_alloc w _,by rw [EO];exact hgc,λj hj=>?_,λj k1 k2=>?_⟩,(AE _ _).drew.alloc (Gi _) _⟩
 ·have hrow:=cell_of_row (w.drew.alloc (.cells (((xs.map bv)++(ys.map bv)).toArray++Bl (Value.int .u8 0).cells (grownCap w (xs.length+ys.length) cap 5-(xs.length+ys.length))) 5)) w.heap.size j _ 5 (0,0) (heap_alloc_new w.drew _);rw [hrow,Array.getElem?_append_left (by rw [EO] at hj;simpa using hj),E6,←Ff,Ew,Et hj];rfl
 ·have hrow:=cell_of_row (w.drew.alloc (.cells (((xs.map bv)++(ys.map bv)).toArray++Bl (Value.int .u8 0).cells (grownCap w (xs.length+ys.length) cap 5-(xs.length+ys.length))) 5)) w.heap.size j _ 5 (0,0) (heap_alloc_new w.drew _);refine ⟨?_,row_clear (heap_alloc_new w.drew _) j⟩;rw [hrow];have hzl:(Bl (Value.int .u8 0).cells (grownCap w (xs.length+ys.length) cap 5-(xs.length+ys.length))).size=grownCap w (xs.length+ys.length) cap 5-(xs.length+ys.length):=by
   have e1:(Value.int IntKind.u8 0).cells.size=1:=rfl;simp [Bl,e1]
  rw [EO] at k1;rw [An (by rw [Array.size_append,hzl];simp;omega)];rfl
theorem Buf.append (h:Buf w B v xs) (tx:TypeId) (hs:Src Mm 1 tx x ys.length (ys.map bv) w) (hlen:xs.length+ys.length<=1000000000) (hB:B<=w.heap.size) :
 ∃v' w',(Bi #[22,tx] 22 #[v,x]).run Mm w=.ok v' w'/\Buf w' B v' (xs++ys)/\Below B w w':=by
 obtain ⟨g,cap,rfl,h1,h2,h3,h4,h5⟩:=h;obtain ⟨i,hi,hzz⟩:=Option.map_eq_some_iff.1 u8_info;simp only [Hl] at hzz;obtain ⟨hz,hsz,hby⟩:=hzz;have hml:(ys.map bv).length=ys.length:=ZW;rcases Gp cap (xs.length+ys.length) with hr | hr
 ·obtain ⟨v',w',hrun,hb,hbw⟩:=buf_grow h4 tx hs hlen hr;exact ⟨v',w',hrun,hb.mono hB,hbw.mono hB⟩
 ·have hrun:=run_append_room_src (P:=Mm) (w:=w) 22 tx 22 5 i MZ hi g 0 xs.length cap x ys.length (ys.map bv) (by rw [hsz];exact hs) hr
   (λj hj=>by rw [hsz,Gy,Nat.mul_one];rw [hml] at hj;exact (h5 (xs.length+j) ZZ ZZ).1)
   (λj hj=>by rw [hsz,Gy,Nat.mul_one];rw [hml] at hj;exact (h5 (xs.length+j) ZZ ZZ).2)
  rw [hsz,Gy,Nat.mul_one] at hrun;have hbw:Below B w (w.setCells g xs.length (ys.map bv)):=Lib.below_setCells_w h1 _ _ _;refine ⟨_,_,hrun,⟨g,cap,by rw [EO],h1,Gn h2 hbw.size,by rw [EO];exact hr,λj hj=>?_,λj k1 k2=>?_⟩,hbw⟩
  ·rcases Gp j xs.length with hjx | hjx
   ·rw [World.cell?_setCells_out g _ _ _ _ (λ_ _=>.inl hjx),h4 j hjx,List.getElem_append_left hjx]
   ·have hj':j-xs.length<(ys.map bv).length:=by rw [hml];rw [EO] at hj;omega
    have:=World.cell?_setCells_in g (ys.map bv) xs.length w (λk hk=>by rw [hml] at hk;exact (h5 (xs.length+k) ZZ ZZ).1) (j-xs.length) hj';rw [show xs.length+(j-xs.length)=j by omega] at this;rw [this,List.getElem_append_right hjx];simp
  ·rw [EO] at k1;refine ⟨?_,by rw [World.frozen?_setCells];exact (h5 j ZZ k2).2⟩;rw [World.cell?_setCells_out g _ _ _ _ (λ_ _=>.inr (by rw [hml];exact k1))];exact (h5 j ZZ k2).1
theorem exec_append {P:Program} {o:Oper} {ev:Operand->Value} {v u v':Value} (s z:Operand) (t tx:TypeId) (ho:o.op=.call {callee:=.builtin .append,args:=#[s,z],argTypes:=#[t,tx]}) (hs:ev s=v) (hx:ev z=u)
 (hr:(Bi #[t,tx] o.type #[v,u]).run P w=.ok v' w'):(execOp ev o).run P w=.ok (.value v') w':=by
 unfold execOp;simp only [ho,resolve,invoke,builtin,Sem.run_bind,Sem.run_pure,Result.andThen_ok,List.map_toArray,Fg,List.map_nil,hs,hx,hr]
theorem oper_append {P:Program} {o:Oper} {a:Act} {K:Act->World->Prop} {Q:Exit->Act->World->Prop} {v u v':Value} (s z:Operand) (t tx:TypeId) (ho:o.op=.call {callee:=.builtin .append,args:=#[s,z],argTypes:=#[t,tx]}) (hs:a.eval s=v) (hx:a.eval z=u)
 (hr:(Bi #[t,tx] o.type #[v,u]).run P w=.ok v' w') (h:K (a.put o.dst v') w'):o.wp P a w K Q:=by
 unfold Oper.wp;rw [exec_append s z t tx ho hs hx hr,Oper.upon_value];exact h
end
end By
namespace Can
open Base Txt Par Pg
def putR (r:Hz):List UInt8:=putV r.m.data.toList r.x.data.toList r.fs r.body r.ts
def fieldsR (r:Hz):List Fld:=fieldsV r.m r.fs r.body r.ts
structure Sm (r:Hz):Prop where
 m:r.m.size<=1000000
 x:r.x.size<=1000000
 fl:r.fs.length<=200
 fs:∀f∈r.fs,f.1.size+f.2.size<=200000
 body:r.body.length<=1048576
 tl:r.ts.length<=200
 ts:∀f∈r.ts,f.1.size+f.2.size<=200000
section
variable {r:Hz}
theorem Sm.fields (h:Sm r):(∀f∈fieldsR r,f.1.size+f.2.size<=200000)/\(fieldsR r).length<=202:=by
 refine ⟨λf hf=>?_,by have:=fields_len r.m r.fs r.ts r.body;have:=h.fl;unfold fieldsR;omega⟩;rcases mem_fields hf with h1 | rfl | rfl | rfl
 ·exact h.fs f h1
 ·decide
 ·decide
 ·have:=len_size h.body;have e:Co.size=14:=by decide
  show Co.size+(lenV r.body.length).size<=200000;omega
theorem put_size {l:List Fld} {n:Nat} (h:∀f∈l,f.1.size+f.2.size<=200000) (hn:l.length<=n):(Cc l).length<=200004*n:=by
 have h1:=put_le (M:=200002) (l:=l) λf hf=>by rw [bare_len];have:=h f hf;omega
 have h2:200004*l.length<=200004*n:=Nat.mul_le_mul_left _ hn;omega
theorem chunk_size (h:Sm r):(Bx [r.body]).length<=1048700:=by
 have e:Bx [r.body]=Chk.chunkL r.body ++ [48,13,10]:=by unfold Bx;simp
 have hb:=h.body;have:=Num.spell_len (b:=16) ZX 21 r.body.length ZZ ZX;rw [e];unfold Chk.chunkL;split<;>simp only [EO,EP,EW]<;>omega
theorem Sm.put (h:Sm r):(putR r).length<=100000000:=by
 obtain ⟨h1,h2⟩:=h.fields;have h3:=put_size h1 h2;have h4:=put_size h.ts h.tl;have h5:=chunk_size h;have hm:=h.m;have hx:=h.x;have hb:=h.body;have em:r.m.data.toList.length=r.m.size:=ZW;have ex:r.x.data.toList.length=r.x.size:=ZW;have ef:fieldsV (ba r.m.data.toList) r.fs r.body r.ts=fieldsR r:=rfl;unfold putR putV reqL;rw [ef];split<;>simp only [EO,EP,EW]<;>omega
end
theorem lines_one {w:World} {v:Value} {y:List UInt8} (h:By.Rd w v y) (t:TypeId):Txt.Lines (w.alloc (.cells #[v] t)) (some ⟨w.heap.size,0,none⟩) 1 [y]:=by
 obtain ⟨a,c,rfl,n⟩:=h;have hb:Below w.heap.size w (w.alloc (.cells #[.slice a y.length c] t)):=(AE _ _).alloc (Gi _) _;refine ⟨rfl,λ_=>⟨w.heap.size,0,rfl,ZW,λk hk=>?_⟩⟩;obtain rfl:k=0:=ZZ;exact ⟨a,c,(cell_of_row (w.alloc _) w.heap.size 0 _ t (0,0) (heap_alloc_new w _)).trans rfl,n.below hb⟩
section
attribute [local go_sem] A8
theorem conv_buf (s:ByteArray) (w:World):∃W V,(convert 9 22 (ZD s)).run Mm w=.ok V W/\By.Buf W w.heap.size V s.data.toList/\Below w.heap.size w W:=by
 have hcv:=run_bytes_of_string (P:=Mm) w 9 22 5 s Ns MZ Nr;have hg:=grownCap_ge w s.size 0 5;have hl:s.data.toList.length=s.size:=ZW;have hrs:(bytesRow s (grownCap w s.size 0 5)).size=grownCap w s.size 0 5:=by unfold bytesRow;have e:s.data.size=s.size:=rfl;rw [Array.size_append,Array.size_map,Array.size_replicate,e];omega
 refine ⟨_,_,hcv,⟨w.heap.size,_,by rw [hl],Gi _,ZW,by rw [hl];exact hg,λj hj=>?_,λj h1 h2=>?_⟩,(AE _ _).drew.alloc (Gi _) _⟩
 ·have hj':j<s.data.size:=by simpa using hj
  exact (World.cell?_alloc_mark w.drew _ _ _ j).trans (bytesRow_at s _ j hj')
 ·refine ⟨?_,(World.frozen?_alloc_mark w.drew _ _ _ _ j).trans ?_⟩
  ·have e:=World.cell?_alloc_mark w.drew (bytesRow s (grownCap w s.size 0 5)) 5 ((bytesRow s (grownCap w s.size 0 5)).size,(bytesRow s (grownCap w s.size 0 5)).size+1) j;refine (ZH Option.isSome e).trans ?_;rw [An (by rw [hrs];exact h2)];rfl
  ·have:¬(bytesRow s (grownCap w s.size 0 5)).size<=j:=by rw [hrs];omega
   simp [this]
theorem wp_append2 {P:Program} {w:World} {ops:Array Oper} {rest:List Oper} {o:Oper} {a:Act} {Q:Exit->Act->World->Prop} (hw:Il o (yielded ops a.tmps)=true) (s x:Operand) (t tx:TypeId) (ho:o.op=.call {callee:=.builtin .append,args:=#[s,x],argTypes:=#[t,tx]}) (v u:Value) (hs:a.eval s=v) (hx:a.eval x=u) (v':Value) (w':World)
 (hr:(Bi #[t,tx] o.type #[v,u]).run P w=.ok v' w') (h:wpList P ops Q rest (a.put o.dst v') w'):wpList P ops Q (o::rest) a w:=by
 unfold wpList;rw [ZN hw];left;exact By.oper_append s x t tx ho hs hx hr h
theorem put_any (V:Value) (r:Hz) (w:World) (h:Ia w V r) (hs:Sm r):Calls Mm 54 #[V] w λe w'=>∃v,e=.returned v/\By.Buf w' w.heap.size v (putR r)/\Below w.heap.size w w':=by
 obtain ⟨fa,fc,ba,bc,ta,tc,rfl,h1,h2,h3⟩:=h;have hR:Ia w (Z9 #[ZD r.m,ZD r.x,ZE Z7 r.k,.slice fa r.fs.length fc,ZB r.ch,.slice ba r.body.length bc,.slice ta r.ts.length tc]) r:=⟨fa,fc,ba,bc,ta,tc,rfl,h1,h2,h3⟩;obtain ⟨W1,hW1⟩:∃W1,W1=(w.alloc (.cells #[ZD r.m,ZD r.x,ZE Z7 r.k,.slice fa r.fs.length fc,ZB r.ch,.slice ba r.body.length bc,.slice ta r.ts.length tc] 58)):=⟨_,rfl⟩;have hsz:W1.heap.size=w.heap.size+1:=by rw [hW1];simp
 have hle:w.heap.size<=W1.heap.size:=ZZ;have hb1:Below w.heap.size w W1:=by rw [hW1];exact (AE _ _).alloc (Gi _) _
 have HW:Hid (∀wk,Below W1.heap.size W1 wk->Below w.heap.size w wk):=Dl λwk hb=>hb1.trans (hb.mono ZZ);have HQ:Hid (∀wk,Below W1.heap.size W1 wk->wk.cell? ⟨w.heap.size,0,none⟩=some (ZD r.m)/\wk.cell? ⟨w.heap.size,1,none⟩=some (ZD r.x)/\wk.cell? ⟨w.heap.size,2,none⟩=some (ZE Z7 r.k)/\wk.cell? ⟨w.heap.size,3,none⟩=some (.slice fa r.fs.length fc)/\wk.cell? ⟨w.heap.size,4,none⟩=some (ZB r.ch)/\wk.cell? ⟨w.heap.size,5,none⟩=some (.slice ba r.body.length bc)/\wk.cell? ⟨w.heap.size,6,none⟩=some (.slice ta r.ts.length tc)):=Dl λwk hb=>by have key:∀i,wk.cell? ⟨w.heap.size,i,none⟩=W1.cell? ⟨w.heap.size,i,none⟩:=λi=>hb.cell (p:=⟨w.heap.size,i,none⟩) (by show w.heap.size<W1.heap.size;omega);simp only [key];rw [hW1];refine ⟨?_,?_,?_,?_,?_,?_,?_⟩<;>simp
 obtain ⟨z1,z2⟩:=hs.fields;have hzt:=hs.put
 have HF:=Dl λwk hb=>fields_any _ r wk (hR.below (HW.out wk hb)) (by have:=hs.fl;omega) (λf hf=>by have:=hs.fs f hf;omega) (by have:=hs.body;omega);have HC:=Dl λwk hb=>chunked_any _ r wk (hR.below (HW.out wk hb));have HL1:Hid (∀(wk:World) a c,Flds wk a (fieldsR r).length (fieldsR r)->Calls Mm 93 #[.slice a (fieldsR r).length c] wk λe w'=>e=.returned (ZD (Txt.ba (Cc (fieldsR r) ++ [13,10])))/\Below wk.heap.size wk w'):=
  Dl λwk a c hv=>lines_any a _ c _ wk hv ZZ (by have:=put_size z1 z2;omega)
 have HL2:Hid (∀(wk:World),Below W1.heap.size W1 wk->Calls Mm 93 #[.slice ta r.ts.length tc] wk λe w'=>e=.returned (ZD (Txt.ba (Cc r.ts ++ [13,10])))/\Below wk.heap.size wk w'):=
  Dl λwk hb=>lines_any ta _ tc _ wk (h3.below (HW.out wk hb)) (by have:=hs.tl;omega) (by have:=put_size hs.ts hs.tl;omega)
 have HRQ:=Dl λwk=>Rq.put_any r.m r.x wk (by have:=hs.m;omega) (by have:=hs.x;omega);have HCH:Hid (∀(wk:World) a,Lines wk a 1 [r.body]->Calls Mm 94 #[.slice a 1 1] wk λe w'=>∃v,e=.returned v/\By.Rd w' v (Bx [r.body])/\Below wk.heap.size wk w'):=
  Dl λwk a hv=>(Chk.put_any a 1 1 [r.body] wk hv ZP (by have:=chunk_size hs;omega)).mono (by rintro e w' ⟨A,c,h1,h2,h3⟩;exact ⟨_,h1,⟨A,c,rfl,h2⟩,h3⟩)
 have HRB:Hid (∀wk,Below W1.heap.size W1 wk->By.Rd wk (.slice ba r.body.length bc) r.body):=Dl λwk hb=>⟨ba,bc,rfl,h2.below (HW.out wk hb)⟩;have el:=Rq.lineOf_list r.m r.x;have hz0:(Rq.lineOf r.m r.x).size=(reqL r.m.data.toList r.x.data.toList).length:=by rw [←len,el];rfl
 obtain ⟨P,hP⟩:∃P,putR r=P:=⟨_,rfl⟩;have hX:((Rq.lineOf r.m r.x) ++⟨#[13,10]⟩:ByteArray).data.toList=reqL r.m.data.toList r.x.data.toList ++ [13,10]:=by
  have e9:((Rq.lineOf r.m r.x) ++⟨#[13,10]⟩:ByteArray).data.toList=(Rq.lineOf r.m r.x).data.toList ++ [13,10]:=by simp [Bo]
  rw [e9,el];rfl
 obtain ⟨W2,V2,hcv,hbuf2,hb2⟩:=conv_buf ((Rq.lineOf r.m r.x) ++⟨#[13,10]⟩) W1;rw [hX] at hbuf2;have hv1:¬9223372036854775807<(Rq.lineOf r.m r.x).size+2:=by
  rw [hz0];have:(reqL r.m.data.toList r.x.data.toList).length<=(putR r).length:=by unfold putR putV;simp only [EO];omega
  omega
 have HP1:Hid (putR r=reqL r.m.data.toList r.x.data.toList ++ [13,10]++(Cc (fieldsR r) ++ [13,10])++(if r.ts≠ [] then Bx [r.body]++(Cc r.ts ++ [13,10]) else r.body)):=Dl (by unfold putR putV;rw [show fieldsV (Txt.ba r.m.data.toList) r.fs r.body r.ts=fieldsR r from rfl];simp only [D7]);have HZ:=Dl hzt;have HBUF2:=Dl hbuf2;have HB2:=Dl hb2;rw [hW1] at hcv;rw [hP] at HP1 HZ ⊢;unfold fieldsR at HL1;clear hX el hz0 z1 z2 hzt hs hR h1 h2 h3 hb1 hW1 hP hbuf2 hb2;generalize reqL r.m.data.toList r.x.data.toList ++ [13,10]=L1 at *;have HP2:Hid (P=L1++(Txt.ba (Cc (fieldsR r) ++ [13,10])).data.toList++(if r.ts≠ [] then Bx [r.body]++(Txt.ba (Cc r.ts ++ [13,10])).data.toList else r.body)):=Dl (by rw [HP1.out];simp [Txt.ba]);unfold fieldsR at HP2;clear HP1;generalize fieldsV r.m r.fs r.body r.ts=F at *;generalize Txt.ba (Cc F ++ [13,10])=S1 at *;generalize Txt.ba (Cc r.ts ++ [13,10])=S2 at *;generalize Rq.lineOf r.m r.x=LN at *;generalize Bx [r.body]=C at *;by_cases ht:r.ts≠ []
 ·rw [ZK ht] at HC;rw [ZN ht] at HP2;clear ht
  have HS:Hid (L1.length+S1.data.toList.length<=1000000000/\(L1++S1.data.toList).length+C.length<=1000000000/\(L1++S1.data.toList++C).length+S2.data.toList.length<=1000000000):=Dl (by have:=HZ.out;rw [HP2.out] at this;simp only [EO] at this ⊢;omega);clear HZ;go_enter Tryz.func54,Tryz.ntmps54;obtain ⟨p0,p1,p2,p3,p4,p5,p6⟩:=HQ.out _ HB2.out
  go_wp2_with (first
   |(at_builtin;(refine wp_append2 rfl _ _ 22 9 rfl _ _ rfl rfl _ _ hrun9 ?_))
   |(at_builtin;(refine wp_append2 rfl _ _ 22 22 rfl _ _ rfl rfl _ _ hrun7 ?_))
   |(at_builtin;(refine wp_append2 rfl _ _ 22 9 rfl _ _ rfl rfl _ _ hrun4 ?_))
   |(go_at_call 93;with_reducible refine (HL2.out _ HB7.out).mono ?_;rintro e w8 ⟨rfl,hb8⟩
     obtain ⟨v9,w9,hrun9,hbuf9,hb9⟩:=By.Buf.append (HBUF7.out.below hb8) 9 (By.str_src (w:=w8) S2) HS.out.2.2 (Gl HB7.out.size hb8.size);have HB9:=Dl ((A6 HB7.out hb8).trans hb9);have HBUF9:=Dl hbuf9;clear hbuf9 hb8 hb9)
   |(go_at_call 94;with_reducible refine (HCH.out _ _ (lines_one (HRB.out _ HB5.out) _)).mono ?_;rintro e w6 ⟨u6,rfl,hrd6,hb6⟩
     have hb56:=A6 (HB5.out.alloc HB5.out.size _) hb6;obtain ⟨v7,w7,hrun7,hbuf7,hb7⟩:=By.Buf.append (HBUF5.out.below (A6 ((AE _ _).alloc (Gi _) _) hb6)) 22 hrd6.src HS.out.2.1 hb56.size;have HB7:=Dl (hb56.trans hb7);have HBUF7:=Dl hbuf7;obtain ⟨s0,s1,s2,s3,s4,s5,s6⟩:=HQ.out _ HB7.out;clear hbuf7 hb6 hb7 hb56 hrd6)
   |(go_at_call 59;with_reducible refine (HC.out _ HB4.out).mono ?_;rintro e w5 ⟨rfl,hb5⟩
     have HB5:=Dl (A6 HB4.out hb5);have HBUF5:=Dl (HBUF4.out.below hb5);obtain ⟨r0,r1,r2,r3,r4,r5,r6⟩:=HQ.out _ HB5.out;clear hb5)
   |(go_at_call 93;with_reducible refine (HL1.out _ _ _ HF3.out).mono ?_;rintro e w3' ⟨rfl,hb3'⟩
     obtain ⟨v4,w4,hrun4,hbuf4,hb4⟩:=By.Buf.append (HBUF3.out.below hb3') 9 (By.str_src (w:=w3') S1) HS.out.1 (Gl HB3.out.size hb3'.size);have HB4:=Dl ((A6 HB3.out hb3').trans hb4);have HBUF4:=Dl hbuf4;obtain ⟨t0,t1,t2,t3,t4,t5,t6⟩:=HQ.out _ HB4.out;clear hbuf4 hb3' hb4)
   |(go_at_call 57;with_reducible refine (HF.out _ HB2.out).mono ?_;rintro e w3 ⟨a3,c3,rfl,hf3,hb3, -⟩
     have HB3:=Dl (A6 HB2.out hb3);have HBUF3:=Dl (HBUF2.out.below hb3);have HF3:=Dl hf3;clear hf3 hb3)
   |(go_at_call 92;with_reducible refine (HRQ.out _).mono ?_;rintro e w1' ⟨rfl,hw1⟩;rw [hw1];clear hw1))
  go_ret;refine ⟨_,rfl,?_,HW.out _ HB9.out⟩;have:=HBUF9.out.mono hle;rw [HP2.out,←D7];exact this
 ·rw [ZL ht] at HC;rw [ZO ht] at HP2;clear ht
  have HS:Hid (L1.length+S1.data.toList.length<=1000000000/\(L1++S1.data.toList).length+r.body.length<=1000000000):=Dl (by have:=HZ.out;rw [HP2.out] at this;simp only [EO] at this ⊢;omega);clear HZ HCH HL2;go_enter Tryz.func54,Tryz.ntmps54;obtain ⟨p0,p1,p2,p3,p4,p5,p6⟩:=HQ.out _ HB2.out
  go_wp2_with (first
   |(at_builtin;(refine wp_append2 rfl _ _ 22 22 rfl _ _ rfl rfl _ _ hrun7 ?_))
   |(at_builtin;(refine wp_append2 rfl _ _ 22 9 rfl _ _ rfl rfl _ _ hrun4 ?_))
   |(go_at_call 59;with_reducible refine (HC.out _ HB4.out).mono ?_;rintro e w5 ⟨rfl,hb5⟩
     have hb45:=A6 HB4.out hb5;obtain ⟨r0,r1,r2,r3,r4,r5,r6⟩:=HQ.out _ hb45;obtain ⟨v7,w7,hrun7,hbuf7,hb7⟩:=By.Buf.append (HBUF4.out.below hb5) 22 (HRB.out _ hb45).src HS.out.2 hb45.size;have HB7:=Dl (hb45.trans hb7);have HBUF7:=Dl hbuf7;clear hb5 hb45 hbuf7 hb7)
   |(go_at_call 93;with_reducible refine (HL1.out _ _ _ HF3.out).mono ?_;rintro e w3' ⟨rfl,hb3'⟩
     obtain ⟨v4,w4,hrun4,hbuf4,hb4⟩:=By.Buf.append (HBUF3.out.below hb3') 9 (By.str_src (w:=w3') S1) HS.out.1 (Gl HB3.out.size hb3'.size);have HB4:=Dl ((A6 HB3.out hb3').trans hb4);have HBUF4:=Dl hbuf4;obtain ⟨t0,t1,t2,t3,t4,t5,t6⟩:=HQ.out _ HB4.out;clear hbuf4 hb3' hb4)
   |(go_at_call 57;with_reducible refine (HF.out _ HB2.out).mono ?_;rintro e w3 ⟨a3,c3,rfl,hf3,hb3, -⟩
     have HB3:=Dl (A6 HB2.out hb3);have HBUF3:=Dl (HBUF2.out.below hb3);have HF3:=Dl hf3;clear hf3 hb3)
   |(go_at_call 92;with_reducible refine (HRQ.out _).mono ?_;rintro e w1' ⟨rfl,hw1⟩;rw [hw1];clear hw1))
  go_ret;refine ⟨_,rfl,?_,HW.out _ HB7.out⟩;have:=HBUF7.out.mono hle;rw [HP2.out];exact this
end
end Can
namespace Rec
open Base Txt
abbrev byteV (c:UInt8):Value:=ZE Z6 (c.toNat:Int)
def vals (l:List UInt8):List Value:=l.map byteV
theorem vals_app (a b:List UInt8):vals (a++b)=vals a++vals b:=Ff
theorem vals_length (a:List UInt8):(vals a).length=a.length:=EV _
theorem nums_of_own {w:World} {base:Nat} {v:Value} {n:Nat} {bs:List UInt8} {e:TypeId} (h:w.ownsRow base e 1 v n (vals bs)):∃A c,v=.slice A n c/\Nums .u8 w A n (Txt.nums bs):=by exact XXNIN
theorem put7 {w0 w:World} {B g:Nat} {zs:List Value} (hZ:Bk w g zs) (hl:zs.length=7) (hb:Below B w0 w) (hg:B<=g) (v0 v1 v2 v3 v4 v5 v6:Value) :
 ∃W,((((((w.setCell ⟨g,0,none⟩ v0).setCell ⟨g,1,none⟩ v1).setCell ⟨g,2,none⟩ v2).setCell ⟨g,3,none⟩ v3).setCell ⟨g,4,none⟩ v4).setCell ⟨g,5,none⟩ v5).setCell ⟨g,6,none⟩ v6=W/\Bk W g [v0,v1,v2,v3,v4,v5,v6]/\Below B w0 W/\W.heap.size=w.heap.size/\
  (∀(base:Nat) (e:TypeId) (size:Nat) (v:Value) (n:Nat) (xs:List Value),w.ownsRow base e size v n xs->v.ownBlock≠some g->W.ownsRow base e size v n xs)/\∀(g':Nat) (vs:List Value),¬g'=g->Bk w g' vs->Bk W g' vs:=by
 obtain ⟨z0,z1,z2,z3,z4,z5,z6,rfl⟩:∃z0 z1 z2 z3 z4 z5 z6,zs= [z0,z1,z2,z3,z4,z5,z6]:=by
  match zs,hl with
  | [a,b,c,d,e,f,g],_=>exact ⟨a,b,c,d,e,f,g,rfl⟩
 refine ⟨_,rfl,?_,((((((hb.setCell hg _).setCell hg _).setCell hg _).setCell hg _).setCell hg _).setCell hg _).setCell hg _,ZW,?_,?_⟩
 ·exact ((((((hZ.set 0 v0 ZW).set 1 v1 ZW).set 2 v2 ZW).set 3 v3 ZW).set 4 v4 ZW).set 5 v5 ZW).set 6 v6 ZW
 ·intro base e size v n xs h hne;exact ownsRow_setCell_other (ownsRow_setCell_other (ownsRow_setCell_other (ownsRow_setCell_other (ownsRow_setCell_other (ownsRow_setCell_other (ownsRow_setCell_other h hne _) hne _) hne _) hne _) hne _) hne _) hne _
 ·intro g' vs hne h;have hne':¬g=g':=λe=>hne e.symm;exact ((((((h.other g 0 v0 hne').other g 1 v1 hne').other g 2 v2 hne').other g 3 v3 hne').other g 4 v4 hne').other g 5 v5 hne').other g 6 v6 hne'
structure Owns (w:World) (B:Nat) (fa:Option Addr) (fc:Nat) (ba:Option Addr) (bc:Nat) (ta:Option Addr) (tc:Nat) (r:R):Prop where
 f:w.ownsRow B 126 2 (.slice fa r.fs.length fc) r.fs.length (cells r.fs)
 b:w.ownsRow B 5 1 (.slice ba r.body.length bc) r.body.length (vals r.body)
 t:w.ownsRow B 126 2 (.slice ta r.ts.length tc) r.ts.length (cells r.ts)
 fb:∀g,(Value.slice fa r.fs.length fc).ownBlock=some g->(Value.slice ba r.body.length bc).ownBlock≠some g
 ft:∀g,(Value.slice fa r.fs.length fc).ownBlock=some g->(Value.slice ta r.ts.length tc).ownBlock≠some g
 bt:∀g,(Value.slice ba r.body.length bc).ownBlock=some g->(Value.slice ta r.ts.length tc).ownBlock≠some g
section
end
end Rec
namespace Mem
open Base
def Lone (L:List (Option Nat)):Prop:=∀i j k:Nat,L[i]?=some (some k)->L[j]?=some (some k)->i=j
def In (w:World) (L:List (Option Nat)):Prop:=∀k,some k∈L->k<w.heap.size
def Of (w:World) (L L':List (Option Nat)):Prop:=∀k,some k∈L'->some k∈L∨w.heap.size<=k
structure Keeps (L:List (Option Nat)) (w w':World):Prop where
 os:w'.os=w.os
 tape:w'.tape=w.tape
 output:w'.output=w.output
 size:w.heap.size<=w'.heap.size
 block:∀k,k<w.heap.size->some k∉L->w'.heap[k]?=w.heap[k]?
section
variable {L L' L'':List (Option Nat)} {w w' w'':World} {B:Nat}
theorem Lone.ne (h:Lone L) {i j k:Nat} (hi:L[i]?=some (some k)) (hij:i≠j):L[j]?≠some (some k):=λhj=>hij (h i j k hi hj)
theorem Lone.set (h:Lone L) (hin:In w L) (i:Nat) (o:Option Nat) (ho:o=none∨L[i]?=some o∨∃k,o=some k/\w.heap.size<=k):Lone (L.set i o):=by
 have key:∀a b k,a≠b->(L.set i o)[a]?=some (some k)->(L.set i o)[b]?=some (some k)->a=i->False:=by
  intro a b k hab ha hb hai;subst hai;rw [Ez hab] at hb;have hlt:a<L.length:=by
   rcases Gp a L.length with h | h
   ·exact h
   ·rw [List.getElem?_eq_none (by simpa using h)] at ha;cases ha
  rw [List.getElem?_set_self hlt] at ha;obtain rfl:o=some k:=GZ.inj ha;rcases ho with ho | ho | ⟨k',ho,hk⟩
  ·cases ho
  ·exact hab (h a b k ho hb)
  ·obtain rfl:k=k':=GZ.inj ho;have:=hin k (Fs hb);omega
 intro a b k ha hb;by_cases hab:a=b
 ·exact hab
 ·by_cases hai:a=i
  ·exact (key a b k hab ha hb hai).elim
  ·by_cases hbi:b=i
   ·exact (key b a k (λe=>hab e.symm) hb ha hbi).elim
   ·rw [Ez (λe=>hai e.symm)] at ha;rw [Ez (λe=>hbi e.symm)] at hb;exact h a b k ha hb
theorem Of.refl:Of w L L:=λ_ h=>.inl h
theorem Of.trans (h:Of w L L') (h':Of w' L' L'') (hs:w.heap.size<=w'.heap.size):Of w L L'':=λk hk=>by
 rcases h' k hk with h1 | h1
 ·exact h k h1
 ·exact .inr ZZ
theorem Of.set (i:Nat) (o:Option Nat) (ho:o=none∨L[i]?=some o∨∃k,o=some k/\w.heap.size<=k):Of w L (L.set i o):=λk hk=>by
 rcases Fu hk with h | h
 ·exact .inl h
 ·rcases ho with ho | ho | ⟨k',ho,hk⟩
  ·rw [ho] at h;cases h
  ·exact .inl (by rw [h];exact Fs ho)
  ·rw [ho] at h;cases h;exact .inr hk
theorem Keeps.refl:Keeps L w w:=⟨rfl,rfl,rfl,Gi _,λ_ _ _=>rfl⟩
theorem Keeps.trans (h:Keeps L w w') (h':Keeps L' w' w'') (ho:Of w L L'):Keeps L w w'':=by
 refine ⟨h'.os.trans h.os,h'.tape.trans h.tape,h'.output.trans h.output,Gl h.size h'.size,λk hk hn=>?_⟩;refine (h'.block k (Gn hk h.size) λhm=>?_).trans (h.block k hk hn);rcases ho k hm with h1 | h1
 ·exact hn h1
 ·omega
theorem Keeps.mono (h:Keeps L w w') (hs:∀k,some k∈L->some k∈L'):Keeps L' w w':=⟨h.os,h.tape,h.output,h.size,λk hk hn=>h.block k hk λhm=>hn (hs k hm)⟩
theorem Keeps.below (h:Keeps L w w') (hB:B<=w.heap.size) (hL:∀k,some k∈L->B<=k):Below B w w':=
 ⟨h.os,h.tape,h.output,h.size,λk hk=>h.block k ZZ λhm=>by have:=hL k hm;omega⟩
theorem Keeps.of_below (h:Below w.heap.size w w'):Keeps L w w':=⟨h.os,h.tape,h.output,h.size,λk hk _=>h.block k hk⟩
theorem Keeps.set (g k:Nat) (v:Value) (hg:some g∈L):Keeps L w (w.setCell ⟨g,k,none⟩ v):=
 ⟨rfl,rfl,rfl,ZW,λj _ hn=>Below.heap_setCell _ _ _ _ (λe=>hn (by rw [e];exact hg))⟩
theorem Keeps.grown {o:Option Nat} (h:w.grownBy w' o) (ho:∀k,o=some k->some k∈L):Keeps L w w':=
 ⟨h.os,h.tape,h.output,h.size,λk hk hn=>h.block k hk λe=>hn (ho k e.symm)⟩
theorem Keeps.of_kept {g:Nat} {o:Option Nat} (h:Ln.Kept g o w w') (hg:some g∈L) (ho:∀k,o=some k->some k∈L):Keeps L w w':=
 ⟨h.os,h.tape,h.output,h.size,λk hk hn=>h.block k hk (λe=>hn (by rw [e];exact hg)) λe=>hn (ho k e.symm)⟩
theorem Keeps.cell (h:Keeps L w w') {p:Addr} (hp:p.block<w.heap.size) (hn:some p.block∉L):w'.cell? p=w.cell? p:=by unfold World.cell?;rw [h.block _ hp hn]
theorem Keeps.row (h:Keeps L w w') {j:Nat} {cs:Array Value} {ty:TypeId} (hr:w.heap[j]?=some (.cells cs ty (0,0))) (hn:some j∉L):w'.heap[j]?=some (.cells cs ty (0,0)):=(h.block j (FY hr) hn).trans hr
theorem Keeps.own (h:Keeps L w w') {e:TypeId} {size:Nat} {v:Value} {n:Nat} {xs:List Value} (hv:w.ownsRow B e size v n xs) (hn:∀k,v.ownBlock=some k->some k∉L):w'.ownsRow B e size v n xs:=by
 refine ⟨hv.1,?_⟩;rcases hv.2 with h0 | ⟨b,cap,cur,rfl,hb,hgg,rest⟩
 ·exact .inl h0
 ·refine .inr ⟨b,cap,cur,rfl,hb,?_,rest⟩;rw [h.block b (FY hgg) (hn b XX5ba)];exact hgg
end
structure Zone where
 b:Nat
 z:List (Option Nat)
instance:CoeOut Zone Nat:=⟨Zone.b⟩
structure Clear (w:World) (Z L:List (Option Nat)):Prop where
 inz:∀k,some k∈Z->k<w.heap.size
 off:∀k,some k∈L->some k∉Z
theorem Clear.of {w w':World} {Z L L':List (Option Nat)} (h:Clear w Z L) (hs:w.heap.size<=w'.heap.size) (ho:Of w L L'):Clear w' Z L':=
 ⟨λk hk=>Gn (h.inz k hk) hs,λk hk hz=>by
   rcases ho k hk with e | e
   ·exact h.off k e hz
   ·have:=h.inz k hz;omega⟩
theorem Clear.nil {w:World} {L:List (Option Nat)}:Clear w [] L:=⟨(λk hk=>by cases hk),(λk _ hz=>by cases hz)⟩
def slot:Value->Option Nat
 | .slice (some a) _ _=>some a.block
 | _=>none
def blocks:Value->List (Option Nat)
 | .agg cs=>cs.toList.map slot
 | _=> []
structure Far (L Z:List (Option Nat)) (w:World) (V:Value) (r:Hz):Prop where
 reads:Ia w V r
 far:∀k,some k∈blocks V->some k∉L/\k<w.heap.size
 off:∀k,some k∈blocks V->some k∉Z
section
variable {L L' Z:List (Option Nat)} {w w':World} {V:Value} {r:Hz}
theorem XX1Rn {P:Prop} (h:P:=by
 refine ⟨h.1,λh0=>?_⟩;obtain ⟨b,off,rfl,hlt,hc⟩:=h.2 h0;have hb:some b∉L:=by
  rcases hn 0 with e | ⟨k,e,hk⟩
  ·cases e
  ·cases e;exact hk
 first
  |exact ⟨b,off,rfl,Gn hlt hk.size,λk hkn=>⟨(hk.cell (p:=⟨b,off+k*2,none⟩) hlt hb).trans (hc k hkn).1,(hk.cell (p:=⟨b,off+k*2+1,none⟩) hlt hb).trans (hc k hkn).2⟩⟩
  |exact ⟨b,off,rfl,Gn hlt hk.size,λk hkn=>(hk.cell (p:=⟨b,off+k,none⟩) hlt hb).trans (hc k hkn)⟩):P:=h
theorem flds_keeps {a:Option Addr} {n:Nat} {fs:List Txt.Fld} (h:Txt.Flds w a n fs) (hk:Keeps L w w') (hn:∀c,slot (.slice a n c)=none∨∃k,slot (.slice a n c)=some k/\some k∉L):Txt.Flds w' a n fs:=by exact XX1Rn
theorem nums_keeps {a:Option Addr} {n:Nat} {kd:IntKind} {zs:List Int} (h:Nums kd w a n zs) (hk:Keeps L w w') (hn:∀c,slot (.slice a n c)=none∨∃k,slot (.slice a n c)=some k/\some k∉L):Nums kd w' a n zs:=by exact XX1Rn
theorem Far.keeps (h:Far L Z w V r) (hk:Keeps L w w'):Far L Z w' V r:=by
 refine ⟨?_,λk hb=>⟨(h.far k hb).1,Gn (h.far k hb).2 hk.size⟩,h.off⟩;obtain ⟨fa,fc,ba,bc,ta,tc,rfl,h1,h2,h3⟩:=h.reads;have hf:=h.far;simp only [blocks,Fg,List.map_nil,Fk,Fx,or_false] at hf;have key:∀(a:Option Addr) (n c:Nat),(∀k,some k=slot (.slice a n c)->some k∉L/\k<w.heap.size)->∀c',slot (.slice a n c')=none∨∃k,slot (.slice a n c')=some k/\some k∉L:=by
  intro a n c h c';cases a with
  | none=>exact .inl rfl
  | some a=>exact .inr ⟨a.block,rfl,(h a.block rfl).1⟩
 refine ⟨fa,fc,ba,bc,ta,tc,rfl,flds_keeps h1 hk (key _ _ fc λk e=>hf k ?_),nums_keeps h2 hk (key _ _ bc λk e=>hf k ?_),flds_keeps h3 hk (key _ _ tc λk e=>hf k ?_)⟩
 ·rw [e];simp
 ·rw [e];simp
 ·rw [e];simp
theorem Far.of (h:Far L Z w V r) (ho:∀k,some k∈L'->some k∈L∨w.heap.size<=k):Far L' Z w V r:=
 ⟨h.reads,λk hb=>⟨λhm=>by
   have:=h.far k hb;rcases ho k hm with h1 | h1
   ·exact this.1 h1
   ·omega,(h.far k hb).2⟩,h.off⟩
end
end Mem
theorem XXd29 {P:Prop} (h:P:=by rw [←e];rfl):P:=h
theorem XXVVx {P:Prop} (h:P:=by
 have hsub:∀k,some k∈blks g q v (ZC none 0 0) (ZC none 0 0) (ZC none 0 0) o->some k∈blks g q v f bd t o:=by
  intro k hk;simp only [Fk,Fx,or_false,Value.ownBlock,reduceCtorEq,false_or] at hk ⊢;rcases hk with hk | hk | hk | hk
  ·exact .inl hk
  ·exact .inr (.inl hk)
  ·exact .inr (.inr (.inl hk))
  ·exact .inr (.inr (.inr (.inr (.inr (.inr hk)))))
 obtain ⟨ps,h1,h2,h3⟩:=h.O;refine ⟨h.R,NY _ _ _ _,NY _ _ _ _,NY _ _ _ _,⟨ps,h1,λx hx=>⟨(h2 x hx).1,(h2 x hx).2.of λk hk=>.inl (hsub k hk)⟩,h3⟩,?_,h.ge,h.lt,h.zone.of (Gi _) λk hk=>.inl (hsub k hk)⟩;have e:blks g q v (ZC none 0 0) (ZC none 0 0) (ZC none 0 0) o=(((blks g q v f bd t o).set 3 none).set 4 none).set 5 none:=rfl;rw [e]
 exact ((h.lone.set h.in 3 none (.inl rfl)).set (λk hk=>h.in k (by
  rcases Fu hk with hk | hk
  ·exact hk
  ·cases hk)) 4 none (.inl rfl)).set (λk hk=>h.in k (by
  rcases Fu hk with hk | hk
  ·rcases Fu hk with hk | hk
   ·exact hk
   ·cases hk
  ·cases hk)) 5 none (.inl rfl)):P:=h
theorem XXCuB {P:Prop} (h:P:=by
 rw [e];intro i j k hi hj;have hL:=h.lone.set h.in 1 (some q1) (.inr (.inr ⟨q1,rfl,hq⟩));have hi':((blks g q v f bd t o).set 1 (some q1))[i]?=some (some k):=by
  by_cases e2:2=i
  ·subst e2;simp at hi
  ·rwa [Ez e2] at hi
 have hj':((blks g q v f bd t o).set 1 (some q1))[j]?=some (some k):=by
  by_cases e2:2=j
  ·subst e2;simp at hj
  ·rwa [Ez e2] at hj
 exact hL i j k hi' hj'):P:=h
theorem XX1c2 {P:Prop} (h:P:=by rw [e];rfl):P:=h
theorem XXJML {P:Prop} (h:P:=by
 simp only [Fk,Fx,or_false,reduceCtorEq,false_or] at hb;have key:∀i,i≠0->i≠1->i≠2->i≠6->(blks g q v f bd t o)[i]?=some (some k)->some k∉blks g q v (ZC none 0 0) (ZC none 0 0) (ZC none 0 0) o'/\k<w'.heap.size:=by
  intro i i0 i1 i2 i6 hi;have hlt:=hin k (Fs hi);refine ⟨λhm=>?_,Gn hlt hk.size⟩;rcases hsub k hm with (e | e | e | e) | e
  ·exact i0 (h.lone i 0 k hi XX1c2)
  ·exact i1 (h.lone i 1 k hi XX1c2)
  ·exact i2 (h.lone i 2 k hi XX1c2)
  ·exact i6 (h.lone i 6 k hi XX1c2)
  ·omega
 rcases hb with hb | hb | hb
 ·exact key 3 ZX ZX ZX ZX (by rw [hb,e1];rfl)
 ·exact key 4 ZX ZX ZX ZX (by rw [hb,e2];rfl)
 ·exact key 5 ZX ZX ZX ZX (by rw [hb,e3];rfl)):P:=h
theorem XXlw6 {P:Prop} (h:P:=by
 intro k hk
 replace hk:some k∈ [some g,some q,v.ownBlock,none,none,none,o'.ownBlock]:=hk
 simp only [Fk,Fx,or_false,reduceCtorEq,false_or] at hk;rcases hk with hk | hk | hk | hk
 ·exact .inl (.inl hk)
 ·exact .inl (.inr (.inl hk))
 ·exact .inl (.inr (.inr (.inl hk)))
 ·rcases hor with e | e
  ·exact .inl (.inr (.inr (.inr (by rw [←e];exact hk))))
  ·rw [e] at hk;cases hk;exact .inr (Gi _)):P:=h
theorem XXyOi {P:Prop} (h:P:=by
 have hz:=h.zero;have e:blks g q v (ZC none 0 0) (ZC none 0 0) (ZC none 0 0) o'=(blks g q v (ZC none 0 0) (ZC none 0 0) (ZC none 0 0) o).set 6 o'.ownBlock:=rfl;rw [e];refine hz.lone.set hz.in 6 _ ?_;rcases hor with e | e
 ·exact .inr (.inl XX1c2)
 ·exact .inr (.inr ⟨_,e,Gi _⟩)):P:=h
theorem XXNov {P:Prop} (h:P:=by
 simp only [Fk,Fx,or_false,reduceCtorEq,false_or] at hb;rcases hb with hb | hb | hb
 ·exact h.zone.off k (Fs (i:=3) (by rw [hb,e1];rfl))
 ·exact h.zone.off k (Fs (i:=4) (by rw [hb,e2];rfl))
 ·exact h.zone.off k (Fs (i:=5) (by rw [hb,e3];rfl))):P:=h
theorem XXq2s {P:Prop} (h:P:=by
 exact ⟨(hfar x hx).1,by
  have h2:=((hfar x hx).2.keeps hkL2)
  exact ⟨h2.reads,λk hb=>⟨λhm=>by
   rcases hof k hm with e | e
   ·exact (h2.far k hb).1 e
   ·exact ZG ((hfar x hx).2.far k hb).2 ZZ,(h2.far k hb).2⟩,h2.off⟩⟩):P:=h
theorem XXHi0 {P:Prop} (h:P:=by
 obtain ⟨A1,c1,e1,h1⟩:=Flds.of_own F';obtain ⟨A2,c2,e2,h2⟩:=Rec.nums_of_own D';obtain ⟨A3,c3,e3,h3⟩:=Flds.of_own T';subst e1 e2 e3
 exact ⟨_,_,_,_,_,_,rfl,h1,h2,h3⟩):P:=h
theorem XXZgq {P:Prop} (h:P:=by
 rcases hsub k hk with (e | e | e | e) | e
 ·exact .inl (by simp [e])
 ·exact .inl (by simp [e])
 ·exact .inl (by simp [e])
 ·exact .inl (by simp [e])
 ·exact .inr e):P:=h
theorem XXNT9 {P:Prop} (h:P:=by
 rcases hor with e | e
 ·exact .inr (.inl XX1c2)
 ·exact .inr (.inr e)):P:=h
namespace Par
open Base Txt Mem
theorem row_cellL {w:World} {g k:Nat} {l:List Value} {ty:TypeId} (h:w.heap[g]?=some (.cells l.toArray ty (0,0))) {v:Value} (hk:l[k]?=some v):w.cell? ⟨g,k,none⟩=some v:=Ln.row_cell h (by rw [E6];exact hk)
theorem row_setL {w:World} {g:Nat} {l:List Value} {ty:TypeId} (h:w.heap[g]?=some (.cells l.toArray ty (0,0))) (k:Nat) (v:Value):(w.setCell ⟨g,k,none⟩ v).heap[g]?=some (.cells (l.set k v).toArray ty (0,0)):=by rw [←F4];exact Ln.row_set h k v
abbrev ptr (g:Nat):Value:=ZA (some ⟨g,0,none⟩)
abbrev pcells (p:Nat) (b:Bd) (s:S) (q:Nat) (f bd t o:Value):List Value:=
 [ZE Z5 (p:Int),ZE Z7 b.x0,ZE Z7 b.x1,ZE Z7 b.x2,ZE Z7 b.x3,ZE Z7 b.x4,ZE Z7 b.x5,ZE Z7 b.x6,ZE Z7 b.x7,ZB b.ch,ZB b.od,ZE Z7 (s.st:Int),ptr q,
   ZD s.r.m,ZD s.r.x,ZE Z7 s.r.k,f,ZB s.r.ch,bd,t,ZE Z7 (s.lines:Int),ZE Z7 (s.head:Int),ZE Z7 (s.left:Int),ZB s.fresh,ZB s.clean,ZE Z7 (s.e:Int),o]
abbrev blks (g q:Nat) (v f bd t o:Value):List (Option Nat):= [some g,some q,v.ownBlock,f.ownBlock,bd.ownBlock,t.ownBlock,o.ownBlock]
def Outs (L:List (Option Nat)) (B:Zone) (w:World) (o:Value) (out:List Hz):Prop:=
 ∃ps:List (Array Value × Hz),ps.map (·.2)=out/\(∀x∈ps,x.1.size=7/\Far L B.z w (Z9 x.1) x.2)/\w.ownsRow B 58 7 o out.length (ps.flatMap (·.1.toList))
structure Own (w:World) (B:Zone) (g q:Nat) (v f bd t o:Value) (p:Nat) (rd:Ln.R) (fs:List Fld) (body:List UInt8) (ts:List Fld) (out:List Hz):Prop where
 R:Ln.Rr w B q v p rd
 F:w.ownsRow B 126 2 f fs.length (cells fs)
 D:w.ownsRow B 5 1 bd body.length (Rec.vals body)
 T:w.ownsRow B 126 2 t ts.length (cells ts)
 O:Outs (blks g q v f bd t o) B w o out
 lone:Lone (blks g q v f bd t o)
 ge:B<=g
 lt:g<w.heap.size
 zone:Clear w B.z (blks g q v f bd t o)
structure PR (w:World) (B:Zone) (g q:Nat) (v f bd t o:Value) (p:Nat) (b:Bd) (s:S):Prop where
 row:w.heap[g]?=some (.cells (pcells p b s q f bd t o).toArray 60 (0,0))
 own:Own w B g q v f bd t o p s.rd s.r.fs s.r.body s.r.ts s.out
section
variable {w w':World} {B:Zone} {g q:Nat} {v f bd t o:Value} {p:Nat} {b:Bd} {s:S} {rd:Ln.R} {fs ts:List Fld} {body:List UInt8} {out:List Hz} {L:List (Option Nat)}
theorem Outs.keeps (h:Outs L B w o out) {L2:List (Option Nat)} (hk:Keeps L2 w w') (hs:∀k,some k∈L2->some k∈L) (ho:∀k,o.ownBlock=some k->some k∉L2):Outs L B w' o out:=by obtain ⟨ps,h1,h2,h3⟩:=h;exact ⟨ps,h1,λx hx=>⟨(h2 x hx).1,(h2 x hx).2.keeps (hk.mono hs)⟩,hk.own h3 ho⟩
theorem Own.in (h:Own w B g q v f bd t o p rd fs body ts out):In w (blks g q v f bd t o):=by
 intro k hk;simp only [Fk,Fx,or_false,GZ.injEq] at hk;obtain ⟨ps,h1,h2,h3⟩:=h.O;rcases hk with rfl | rfl | hk | hk | hk | hk | hk
 ·exact h.lt
 ·exact FY h.R.row
 ·exact (NW h.R.own k hk.symm).2
 ·exact (NW h.F k hk.symm).2
 ·exact (NW h.D k hk.symm).2
 ·exact (NW h.T k hk.symm).2
 ·exact (NW h3 k hk.symm).2
theorem Own.low (h:Own w B g q v f bd t o p rd fs body ts out):∀k,some k∈blks g q v f bd t o->B<=k:=by
 intro k hk;simp only [Fk,Fx,or_false,GZ.injEq] at hk;obtain ⟨ps,h1,h2,h3⟩:=h.O;rcases hk with rfl | rfl | hk | hk | hk | hk | hk
 ·exact h.ge
 ·exact h.R.ge
 ·exact (NW h.R.own k hk.symm).1
 ·exact (NW h.F k hk.symm).1
 ·exact (NW h.D k hk.symm).1
 ·exact (NW h.T k hk.symm).1
 ·exact (NW h3 k hk.symm).1
theorem Own.set (h:Own w B g q v f bd t o p rd fs body ts out) (k:Nat) (u:Value):Own (w.setCell ⟨g,k,none⟩ u) B g q v f bd t o p rd fs body ts out:=by
 have hk:Keeps [some g] w (w.setCell ⟨g,k,none⟩ u):=Keeps.set g k u ZW;have hn:∀i j,i≠0->(blks g q v f bd t o)[i]?=some (some j)->some j∉ [some g]:=λi j hi hj hm=>by
  have e:j=g:=by simpa using hm
  rw [e] at hj
  exact hi (h.lone i 0 g hj rfl)
 exact ⟨⟨hk.row h.R.row (hn 1 q ZX rfl),hk.own h.R.own λj e=>hn 2 j ZX XXd29,h.R.ge,h.R.ne⟩,
  hk.own h.F λj e=>hn 3 j ZX XXd29,hk.own h.D λj e=>hn 4 j ZX XXd29,hk.own h.T λj e=>hn 5 j ZX XXd29,
  h.O.keeps hk (λj hj=>by obtain rfl:j=g:=by simpa using hj
                          simp) λj e=>hn 6 j ZX XXd29,
  h.lone,h.ge,by simpa using h.lt,h.zone.of hk.size Of.refl⟩
theorem Own.below (h:Own w B g q v f bd t o p rd fs body ts out) (hb:Below w.heap.size w w'):Own w' B g q v f bd t o p rd fs body ts out:=by have hk:Keeps [] w w':=Keeps.of_below hb;refine ⟨⟨hk.row h.R.row ZW,hk.own h.R.own ZW,h.R.ge,h.R.ne⟩,hk.own h.F ZW,hk.own h.D ZW,hk.own h.T ZW,h.O.keeps hk ZW ZW,h.lone,h.ge,Gn h.lt hb.size,h.zone.of hb.size Of.refl⟩
theorem PR.below (h:PR w B g q v f bd t o p b s) (hb:Below w.heap.size w w'):PR w' B g q v f bd t o p b s:=
 ⟨(hb.block g h.own.lt).trans h.row,h.own.below hb⟩
theorem PR.drew (h:PR w B g q v f bd t o p b s) (n:Nat):PR (w.drewN n) B g q v f bd t o p b s:=h.below (Az (AE _ _) n)
theorem PR.put (h:PR w B g q v f bd t o p b s) (k:Nat) (u:Value) (s':S) (hc:(pcells p b s q f bd t o).set k u=pcells p b s' q f bd t o) (hd:s'.rd=s.rd) (h1:s'.r.fs=s.r.fs) (h2:s'.r.body=s.r.body) (h3:s'.r.ts=s.r.ts) (h4:s'.out=s.out) :
 PR (w.setCell ⟨g,k,none⟩ u) B g q v f bd t o p b s':=by
 refine ⟨?_,?_⟩
 ·rw [←hc,←F4];exact Ln.row_set h.row k u
 ·rw [hd,h1,h2,h3,h4];exact h.own.set k u
theorem Own.zero (h:Own w B g q v f bd t o p rd fs body ts out):Own w B g q v (ZC none 0 0) (ZC none 0 0) (ZC none 0 0) o p rd [] [] [] out:=by exact XXVVx
theorem Own.line (h:Own w B g q v f bd t o p rd fs body ts out) (hb:Below w.heap.size w w') {q1:Nat} {rd1:Ln.R} (hr:Ln.Rr w' B q1 (ZC none 0 0) p rd1) (hq:w.heap.size<=q1):Own w' B g q1 (ZC none 0 0) f bd t o p rd1 fs body ts out:=by
 have e:blks g q1 (ZC none 0 0) f bd t o=((blks g q v f bd t o).set 1 (some q1)).set 2 none:=rfl;have hof:Of w (blks g q v f bd t o) (blks g q1 (ZC none 0 0) f bd t o):=by
  rw [e]
  exact (Of.set 1 (some q1) (.inr (.inr ⟨q1,rfl,hq⟩))).trans (Of.set 2 none (.inl rfl)) (Gi _)
 have hw:=h.below hb;obtain ⟨ps,h1,h2,h3⟩:=h.O;have hk:Keeps (blks g q1 (ZC none 0 0) f bd t o) w w':=Keeps.of_below hb;refine ⟨hr,hw.F,hw.D,hw.T,⟨ps,h1,λx hx=>⟨(h2 x hx).1,((h2 x hx).2.of hof).keeps hk⟩,by obtain ⟨ps',h1',h2',h3'⟩:=hw.O;exact (Keeps.of_below hb:Keeps [] w w').own h3 ZW⟩,?_,h.ge,hw.lt,h.zone.of hb.size hof⟩;exact XXCuB
theorem PR.line (h:PR w B g q v f bd t o p b s) (hb:Below w.heap.size w w') {q1:Nat} {rd1:Ln.R} (hr:Ln.Rr w' B q1 (ZC none 0 0) p rd1) (hq:w.heap.size<=q1):PR (w'.setCell ⟨g,12,none⟩ (ptr q1)) B g q1 (ZC none 0 0) f bd t o p b {s with rd:=rd1}:=
 ⟨row_setL ((hb.block g h.own.lt).trans h.row) 12 (ptr q1),(h.own.line hb hr hq).set 12 (ptr q1)⟩
theorem slot_own {w:World} {B:Zone} {e:TypeId} {size:Nat} {v:Value} {n:Nat} {xs:List Value} (h:w.ownsRow B e size v n xs):slot v=v.ownBlock:=by rcases h.2 with ⟨rfl,_⟩ | ⟨g,cap,cur,rfl,_⟩<;>rfl
theorem Own.push {r:Hz} (h:Own w B g q v f bd t o p rd r.fs r.body r.ts out) (hg:w.grownBy w' o.ownBlock) {o':Value} (ps:List (Array Value × Hz)) (hps:ps.map (·.2)=out) (hfar:∀x∈ps,x.1.size=7/\Far (blks g q v f bd t o) B.z w (Z9 x.1) x.2)
 (ho:w'.ownsRow B 58 7 o' (out.length+1) (ps.flatMap (·.1.toList) ++ [ZD r.m,ZD r.x,ZE Z7 r.k,f,ZB r.ch,bd,t])) (hor:o'.ownBlock=o.ownBlock∨o'.ownBlock=some w.heap.size) :
 Own w' B g q v (ZC none 0 0) (ZC none 0 0) (ZC none 0 0) o' p rd [] [] [] (out ++ [r]):=by
 have hk:Keeps [o.ownBlock] w w':=Keeps.grown hg λk e=>by simp [e]
 have hn:∀i j,i≠6->(blks g q v f bd t o)[i]?=some (some j)->some j∉ [o.ownBlock]:=λi j hi hj hm=>by
  have e:some j=o.ownBlock:=by simpa using hm
  exact hi (h.lone i 6 j hj XX1c2)
 have hin:=h.in;have F':=hk.own h.F λj e=>hn 3 j ZX XXd29;have D':=hk.own h.D λj e=>hn 4 j ZX XXd29;have T':=hk.own h.T λj e=>hn 5 j ZX XXd29;have hsub:∀k,some k∈blks g q v (ZC none 0 0) (ZC none 0 0) (ZC none 0 0) o'->(some k=some g∨some k=some q∨some k=v.ownBlock∨some k=o.ownBlock)∨w.heap.size<=k:=by exact XXlw6
 have hof:∀k,some k∈blks g q v (ZC none 0 0) (ZC none 0 0) (ZC none 0 0) o'->some k∈blks g q v f bd t o∨w.heap.size<=k:=λk hk=>by exact XXZgq
 have hkL2:Keeps (blks g q v f bd t o) w w':=hk.mono λk hk=>by
  have e:some k=o.ownBlock:=by simpa using hk
  simp [e]
 refine ⟨⟨hk.row h.R.row (hn 1 q ZX rfl),hk.own h.R.own λj e=>hn 2 j ZX XXd29,h.R.ge,h.R.ne⟩,NY _ _ _ _,NY _ _ _ _,NY _ _ _ _,
  ⟨ps ++ [(#[ZD r.m,ZD r.x,ZE Z7 r.k,f,ZB r.ch,bd,t],r)],by rw [Ff,hps];rfl,λx hx=>?_,by rw [EO,List.flatMap_append];simpa using ho⟩,?_,h.ge,Gn h.lt hk.size,h.zone.of hk.size hof⟩
 ·rcases Fj.1 hx with hx | hx
  ·exact XXq2s
  ·obtain rfl:x= _:=by simpa using hx
   refine ⟨rfl,?_,λk hb=>?_,λk hb=>?_⟩
   ·exact XXHi0
   ·have e1:=slot_own h.F;have e2:=slot_own h.D;have e3:=slot_own h.T
    replace hb:some k∈ [none,none,none,slot f,none,slot bd,slot t]:=hb
    exact XXJML
   ·have e1:=slot_own h.F;have e2:=slot_own h.D;have e3:=slot_own h.T
    replace hb:some k∈ [none,none,none,slot f,none,slot bd,slot t]:=hb
    exact XXNov
 ·exact XXyOi
structure Step (L L':List (Option Nat)) (w w':World):Prop where
 keeps:Keeps L w w'
 of:Of w L L'
theorem Step.refl:Step L L w w:=⟨Keeps.refl,Of.refl⟩
theorem Step.trans {L' L'':List (Option Nat)} {w'':World} (h:Step L L' w w') (h':Step L' L'' w' w''):Step L L'' w w'':=⟨h.keeps.trans h'.keeps h.of,h.of.trans h'.of h.keeps.size⟩
theorem Step.set (g k:Nat) (u:Value) (hg:some g∈L):Step L L w (w.setCell ⟨g,k,none⟩ u):=⟨Keeps.set g k u hg,Of.refl⟩
theorem Step.of_below (hb:Below w.heap.size w w'):Step L L w w':=⟨Keeps.of_below hb,Of.refl⟩
theorem Step.zero:Step (blks g q v f bd t o) (blks g q v (ZC none 0 0) (ZC none 0 0) (ZC none 0 0) o) w w:=⟨Keeps.refl,λk hk=>by
 simp only [Fk,Fx,or_false,Value.ownBlock,reduceCtorEq,false_or] at hk ⊢;rcases hk with hk | hk | hk | hk
 ·exact .inl (.inl hk)
 ·exact .inl (.inr (.inl hk))
 ·exact .inl (.inr (.inr (.inl hk)))
 ·exact .inl (.inr (.inr (.inr (.inr (.inr (.inr hk))))))⟩
theorem Step.line (hb:Below w.heap.size w w') {q1:Nat} (hq:w.heap.size<=q1):Step (blks g q v f bd t o) (blks g q1 (ZC none 0 0) f bd t o) w w':=⟨Keeps.of_below hb,by
 have e:blks g q1 (ZC none 0 0) f bd t o=((blks g q v f bd t o).set 1 (some q1)).set 2 none:=rfl;rw [e]
 exact (Of.set 1 (some q1) (.inr (.inr ⟨q1,rfl,hq⟩))).trans (Of.set 2 none (.inl rfl)) (Gi _)⟩
theorem Step.push {o':Value} (hg:w.grownBy w' o.ownBlock) (hor:o'.ownBlock=o.ownBlock∨o'.ownBlock=some w.heap.size):Step (blks g q v f bd t o) (blks g q v (ZC none 0 0) (ZC none 0 0) (ZC none 0 0) o') w w':=⟨Keeps.grown hg λk e=>by simp [e],λk hk=>by
 replace hk:some k∈ [some g,some q,v.ownBlock,none,none,none,o'.ownBlock]:=hk
 simp only [Fk,Fx,or_false,reduceCtorEq,false_or] at hk;rcases hk with hk | hk | hk | hk
 ·exact .inl (by simp [hk])
 ·exact .inl (by simp [hk])
 ·exact .inl (by simp [hk])
 ·rcases hor with e | e
  ·rw [e] at hk;exact .inl (by simp [hk])
  ·rw [e] at hk;cases hk;exact .inr (Gi _)⟩
theorem one_own {e:TypeId} {size:Nat} {u:Value} {n:Nat} {xs:List Value} (h:w.ownsRow B e size u n xs):u.oneCell'=true:=by rcases h.2 with ⟨rfl,_⟩ | ⟨g,cap,cur,rfl,_⟩<;>rfl
theorem Own.setF (h:Own w B g q v f bd t o p rd fs body ts out) {f':Value} {fs':List Fld} (hk:Keeps [f.ownBlock] w w') (hr:w'.ownsRow B 126 2 f' fs'.length (cells fs')) (hor:f'.ownBlock=f.ownBlock∨∃k,f'.ownBlock=some k/\w.heap.size<=k) :
 Own w' B g q v f' bd t o p rd fs' body ts out/\Step (blks g q v f bd t o) (blks g q v f' bd t o) w w':=by
 have hn:∀i j,i≠3->(blks g q v f bd t o)[i]?=some (some j)->some j∉ [f.ownBlock]:=λi j hi hj hm=>by
  have e:some j=f.ownBlock:=by simpa using hm
  exact hi (h.lone i 3 j hj XX1c2)
 have e:blks g q v f' bd t o=(blks g q v f bd t o).set 3 f'.ownBlock:=rfl;have ho:f'.ownBlock=none∨(blks g q v f bd t o)[3]?=some f'.ownBlock∨∃k,f'.ownBlock=some k/\w.heap.size<=k:=by exact XXNT9
 have hof:Of w (blks g q v f bd t o) (blks g q v f' bd t o):=by rw [e];exact Of.set 3 _ ho
 have hkL:Keeps (blks g q v f bd t o) w w':=hk.mono λk hk=>by
  have e:some k=f.ownBlock:=by simpa using hk
  simp [e]
 obtain ⟨ps,h1,h2,h3⟩:=h.O
 refine ⟨⟨⟨hk.row h.R.row (hn 1 q ZX rfl),hk.own h.R.own λj e=>hn 2 j ZX XXd29,h.R.ge,h.R.ne⟩,hr,hk.own h.D λj e=>hn 4 j ZX XXd29,hk.own h.T λj e=>hn 5 j ZX XXd29,
  ⟨ps,h1,λx hx=>⟨(h2 x hx).1,by
    have hx2:=(h2 x hx).2.keeps hkL
    exact ⟨hx2.reads,λk hb=>⟨λhm=>by
     rcases hof k hm with e | e
     ·exact (hx2.far k hb).1 e
     ·exact ZG ((h2 x hx).2.far k hb).2 ZZ,(hx2.far k hb).2⟩,hx2.off⟩⟩,hk.own h3 λj e=>hn 6 j ZX XXd29⟩,?_,h.ge,Gn h.lt hk.size,h.zone.of hk.size hof⟩,hkL,hof⟩
 rw [e];exact h.lone.set h.in 3 _ ho
theorem Own.setD (h:Own w B g q v f bd t o p rd fs body ts out) {bd':Value} {body':List UInt8} (hk:Keeps [bd.ownBlock] w w') (hr:w'.ownsRow B 5 1 bd' body'.length (Rec.vals body')) (hor:bd'.ownBlock=bd.ownBlock∨∃k,bd'.ownBlock=some k/\w.heap.size<=k) :
 Own w' B g q v f bd' t o p rd fs body' ts out/\Step (blks g q v f bd t o) (blks g q v f bd' t o) w w':=by
 have hn:∀i j,i≠4->(blks g q v f bd t o)[i]?=some (some j)->some j∉ [bd.ownBlock]:=λi j hi hj hm=>by
  have e:some j=bd.ownBlock:=by simpa using hm
  exact hi (h.lone i 4 j hj XX1c2)
 have e:blks g q v f bd' t o=(blks g q v f bd t o).set 4 bd'.ownBlock:=rfl;have ho:bd'.ownBlock=none∨(blks g q v f bd t o)[4]?=some bd'.ownBlock∨∃k,bd'.ownBlock=some k/\w.heap.size<=k:=by exact XXNT9
 have hof:Of w (blks g q v f bd t o) (blks g q v f bd' t o):=by rw [e];exact Of.set 4 _ ho
 have hkL:Keeps (blks g q v f bd t o) w w':=hk.mono λk hk=>by
  have e:some k=bd.ownBlock:=by simpa using hk
  simp [e]
 obtain ⟨ps,h1,h2,h3⟩:=h.O
 refine ⟨⟨⟨hk.row h.R.row (hn 1 q ZX rfl),hk.own h.R.own λj e=>hn 2 j ZX XXd29,h.R.ge,h.R.ne⟩,hk.own h.F λj e=>hn 3 j ZX XXd29,hr,hk.own h.T λj e=>hn 5 j ZX XXd29,
  ⟨ps,h1,λx hx=>⟨(h2 x hx).1,by
    have hx2:=(h2 x hx).2.keeps hkL
    exact ⟨hx2.reads,λk hb=>⟨λhm=>by
     rcases hof k hm with e | e
     ·exact (hx2.far k hb).1 e
     ·exact ZG ((h2 x hx).2.far k hb).2 ZZ,(hx2.far k hb).2⟩,hx2.off⟩⟩,hk.own h3 λj e=>hn 6 j ZX XXd29⟩,?_,h.ge,Gn h.lt hk.size,h.zone.of hk.size hof⟩,hkL,hof⟩
 rw [e];exact h.lone.set h.in 4 _ ho
theorem Own.setT (h:Own w B g q v f bd t o p rd fs body ts out) {t':Value} {ts':List Fld} (hk:Keeps [t.ownBlock] w w') (hr:w'.ownsRow B 126 2 t' ts'.length (cells ts')) (hor:t'.ownBlock=t.ownBlock∨∃k,t'.ownBlock=some k/\w.heap.size<=k) :
 Own w' B g q v f bd t' o p rd fs body ts' out/\Step (blks g q v f bd t o) (blks g q v f bd t' o) w w':=by
 have hn:∀i j,i≠5->(blks g q v f bd t o)[i]?=some (some j)->some j∉ [t.ownBlock]:=λi j hi hj hm=>by
  have e:some j=t.ownBlock:=by simpa using hm
  exact hi (h.lone i 5 j hj XX1c2)
 have e:blks g q v f bd t' o=(blks g q v f bd t o).set 5 t'.ownBlock:=rfl;have ho:t'.ownBlock=none∨(blks g q v f bd t o)[5]?=some t'.ownBlock∨∃k,t'.ownBlock=some k/\w.heap.size<=k:=by exact XXNT9
 have hof:Of w (blks g q v f bd t o) (blks g q v f bd t' o):=by rw [e];exact Of.set 5 _ ho
 have hkL:Keeps (blks g q v f bd t o) w w':=hk.mono λk hk=>by
  have e:some k=t.ownBlock:=by simpa using hk
  simp [e]
 obtain ⟨ps,h1,h2,h3⟩:=h.O
 refine ⟨⟨⟨hk.row h.R.row (hn 1 q ZX rfl),hk.own h.R.own λj e=>hn 2 j ZX XXd29,h.R.ge,h.R.ne⟩,hk.own h.F λj e=>hn 3 j ZX XXd29,hk.own h.D λj e=>hn 4 j ZX XXd29,hr,
  ⟨ps,h1,λx hx=>⟨(h2 x hx).1,by
    have hx2:=(h2 x hx).2.keeps hkL
    exact ⟨hx2.reads,λk hb=>⟨λhm=>by
     rcases hof k hm with e | e
     ·exact (hx2.far k hb).1 e
     ·exact ZG ((h2 x hx).2.far k hb).2 ZZ,(hx2.far k hb).2⟩,hx2.off⟩⟩,hk.own h3 λj e=>hn 6 j ZX XXd29⟩,?_,h.ge,Gn h.lt hk.size,h.zone.of hk.size hof⟩,hkL,hof⟩
 rw [e];exact h.lone.set h.in 5 _ ho
theorem PR.bk (h:PR w B g q v f bd t o p b s):Hv w g (pcells p b s q f bd t o):=⟨λ_ _ hu=>row_cellL h.row hu,λk _=>FX h.row k,h.own.lt⟩
theorem rr_below {q1:Nat} {rd1:Ln.R} (h:Ln.Rr w B q1 v p rd1) (hb:Below w.heap.size w w'):Ln.Rr w' B q1 v p rd1:=by have hk:Keeps [] w w':=Keeps.of_below hb;exact ⟨hk.row h.row ZW,hk.own h.own ZW,h.ge,h.ne⟩
def Par (w:World) (B:Zone) (g:Nat) (p:Nat) (b:Bd) (s:S) (L:List (Option Nat)):Prop:=∃q v f bd t o,L=blks g q v f bd t o/\PR w B g q v f bd t o p b s
end
end Par
namespace Pg
open Base Txt Mem Par
abbrev pgcells (p:Nat) (b:Bd) (s:T) (q:Nat) (f bd t o:Value):List Value:=
 [ZE Z7 0,ZE Z7 (s.hl:Int),f,ZD s.r.m,ZD s.r.x,ZE Z7 s.r.k,ZE Z7 (s.size:Int),ZB s.cnt,ZE Z7 (s.bl:Int),t,ZB s.r.ch,bd,ZE Z7 (s.left:Int),
   ZE Z5 (p:Int),ZE Z7 b.x0,ZE Z7 b.x1,ZE Z7 b.x2,ZE Z7 b.x3,ZE Z7 b.x4,ZE Z7 b.x5,ZE Z7 b.x6,ZE Z7 b.x7,ZB b.ch,ZB b.od,ZE Z7 (s.st:Int),ptr q,o]
structure Own (w:World) (B:Zone) (g q:Nat) (v f bd t o:Value) (rd:FJ) (fs:List Fld) (body:List UInt8) (ts:List Fld) (out:List Hz):Prop where
 R:Ln.Rd w B q v rd
 F:w.ownsRow B 126 2 f fs.length (cells fs)
 D:w.ownsRow B 5 1 bd body.length (Rec.vals body)
 TR:w.ownsRow B 126 2 t ts.length (cells ts)
 O:Outs (blks g q v f bd t o) B w o out
 lone:Lone (blks g q v f bd t o)
 ge:B<=g
 lt:g<w.heap.size
 zone:Clear w B.z (blks g q v f bd t o)
structure PR (w:World) (B:Zone) (g q:Nat) (v f bd t o:Value) (p:Nat) (b:Bd) (s:T):Prop where
 row:w.heap[g]?=some (.cells (pgcells p b s q f bd t o).toArray 55 (0,0))
 own:Own w B g q v f bd t o s.rd s.r.fs s.r.body s.r.ts s.out
section
variable {w w':World} {B:Zone} {g q:Nat} {v f bd t o:Value} {p:Nat} {b:Bd} {s:T} {rd:FJ} {fs ts:List Fld} {body:List UInt8} {out:List Hz} {L:List (Option Nat)}
theorem Own.in (h:Own w B g q v f bd t o rd fs body ts out):In w (blks g q v f bd t o):=by
 intro k hk;simp only [Fk,Fx,or_false,GZ.injEq] at hk;obtain ⟨ps,h1,h2,h3⟩:=h.O;rcases hk with rfl | rfl | hk | hk | hk | hk | hk
 ·exact h.lt
 ·exact FY h.R.row
 ·exact (NW h.R.own k hk.symm).2
 ·exact (NW h.F k hk.symm).2
 ·exact (NW h.D k hk.symm).2
 ·exact (NW h.TR k hk.symm).2
 ·exact (NW h3 k hk.symm).2
theorem Own.low (h:Own w B g q v f bd t o rd fs body ts out):∀k,some k∈blks g q v f bd t o->B<=k:=by
 intro k hk;simp only [Fk,Fx,or_false,GZ.injEq] at hk;obtain ⟨ps,h1,h2,h3⟩:=h.O;rcases hk with rfl | rfl | hk | hk | hk | hk | hk
 ·exact h.ge
 ·exact h.R.ge
 ·exact (NW h.R.own k hk.symm).1
 ·exact (NW h.F k hk.symm).1
 ·exact (NW h.D k hk.symm).1
 ·exact (NW h.TR k hk.symm).1
 ·exact (NW h3 k hk.symm).1
theorem Own.set (h:Own w B g q v f bd t o rd fs body ts out) (k:Nat) (u:Value):Own (w.setCell ⟨g,k,none⟩ u) B g q v f bd t o rd fs body ts out:=by
 have hk:Keeps [some g] w (w.setCell ⟨g,k,none⟩ u):=Keeps.set g k u ZW;have hn:∀i j,i≠0->(blks g q v f bd t o)[i]?=some (some j)->some j∉ [some g]:=λi j hi hj hm=>by
  have e:j=g:=by simpa using hm
  rw [e] at hj
  exact hi (h.lone i 0 g hj rfl)
 exact ⟨⟨hk.row h.R.row (hn 1 q ZX rfl),hk.own h.R.own λj e=>hn 2 j ZX XXd29,h.R.ge,h.R.ne⟩,
  hk.own h.F λj e=>hn 3 j ZX XXd29,hk.own h.D λj e=>hn 4 j ZX XXd29,hk.own h.TR λj e=>hn 5 j ZX XXd29,
  h.O.keeps hk (λj hj=>by obtain rfl:j=g:=by simpa using hj
                          simp) λj e=>hn 6 j ZX XXd29,
  h.lone,h.ge,by simpa using h.lt,h.zone.of hk.size Of.refl⟩
theorem Own.below (h:Own w B g q v f bd t o rd fs body ts out) (hb:Below w.heap.size w w'):Own w' B g q v f bd t o rd fs body ts out:=by have hk:Keeps [] w w':=Keeps.of_below hb;refine ⟨⟨hk.row h.R.row ZW,hk.own h.R.own ZW,h.R.ge,h.R.ne⟩,hk.own h.F ZW,hk.own h.D ZW,hk.own h.TR ZW,h.O.keeps hk ZW ZW,h.lone,h.ge,Gn h.lt hb.size,h.zone.of hb.size Of.refl⟩
theorem PR.below (h:PR w B g q v f bd t o p b s) (hb:Below w.heap.size w w'):PR w' B g q v f bd t o p b s:=
 ⟨(hb.block g h.own.lt).trans h.row,h.own.below hb⟩
theorem PR.drew (h:PR w B g q v f bd t o p b s) (n:Nat):PR (w.drewN n) B g q v f bd t o p b s:=h.below (Az (AE _ _) n)
theorem PR.put (h:PR w B g q v f bd t o p b s) (k:Nat) (u:Value) (s':T) (hc:(pgcells p b s q f bd t o).set k u=pgcells p b s' q f bd t o) (hd:s'.rd=s.rd) (h1:s'.r.fs=s.r.fs) (h2:s'.r.body=s.r.body) (h3:s'.r.ts=s.r.ts) (h4:s'.out=s.out) :
 PR (w.setCell ⟨g,k,none⟩ u) B g q v f bd t o p b s':=by
 refine ⟨?_,?_⟩
 ·rw [←hc,←F4];exact Ln.row_set h.row k u
 ·rw [hd,h1,h2,h3,h4];exact h.own.set k u
theorem Own.zero (h:Own w B g q v f bd t o rd fs body ts out):Own w B g q v (ZC none 0 0) (ZC none 0 0) (ZC none 0 0) o rd [] [] [] out:=by exact XXVVx
theorem Own.line (h:Own w B g q v f bd t o rd fs body ts out) (hb:Below w.heap.size w w') {q1:Nat} {rd1:FJ} (hr:Ln.Rd w' B q1 (ZC none 0 0) rd1) (hq:w.heap.size<=q1):Own w' B g q1 (ZC none 0 0) f bd t o rd1 fs body ts out:=by
 have e:blks g q1 (ZC none 0 0) f bd t o=((blks g q v f bd t o).set 1 (some q1)).set 2 none:=rfl;have hof:Of w (blks g q v f bd t o) (blks g q1 (ZC none 0 0) f bd t o):=by
  rw [e]
  exact (Of.set 1 (some q1) (.inr (.inr ⟨q1,rfl,hq⟩))).trans (Of.set 2 none (.inl rfl)) (Gi _)
 have hw:=h.below hb;obtain ⟨ps,h1,h2,h3⟩:=h.O;have hk:Keeps (blks g q1 (ZC none 0 0) f bd t o) w w':=Keeps.of_below hb;refine ⟨hr,hw.F,hw.D,hw.TR,⟨ps,h1,λx hx=>⟨(h2 x hx).1,((h2 x hx).2.of hof).keeps hk⟩,by obtain ⟨ps',h1',h2',h3'⟩:=hw.O;exact (Keeps.of_below hb:Keeps [] w w').own h3 ZW⟩,?_,h.ge,hw.lt,h.zone.of hb.size hof⟩;exact XXCuB
theorem Own.push {r:Hz} (h:Own w B g q v f bd t o rd r.fs r.body r.ts out) (hg:w.grownBy w' o.ownBlock) {o':Value} (ps:List (Array Value × Hz)) (hps:ps.map (·.2)=out) (hfar:∀x∈ps,x.1.size=7/\Far (blks g q v f bd t o) B.z w (Z9 x.1) x.2)
 (ho:w'.ownsRow B 58 7 o' (out.length+1) (ps.flatMap (·.1.toList) ++ [ZD r.m,ZD r.x,ZE Z7 r.k,f,ZB r.ch,bd,t])) (hor:o'.ownBlock=o.ownBlock∨o'.ownBlock=some w.heap.size) :
 Own w' B g q v (ZC none 0 0) (ZC none 0 0) (ZC none 0 0) o' rd [] [] [] (out ++ [r]):=by
 have hk:Keeps [o.ownBlock] w w':=Keeps.grown hg λk e=>by simp [e]
 have hn:∀i j,i≠6->(blks g q v f bd t o)[i]?=some (some j)->some j∉ [o.ownBlock]:=λi j hi hj hm=>by
  have e:some j=o.ownBlock:=by simpa using hm
  exact hi (h.lone i 6 j hj XX1c2)
 have hin:=h.in;have F':=hk.own h.F λj e=>hn 3 j ZX XXd29;have D':=hk.own h.D λj e=>hn 4 j ZX XXd29;have T':=hk.own h.TR λj e=>hn 5 j ZX XXd29;have hsub:∀k,some k∈blks g q v (ZC none 0 0) (ZC none 0 0) (ZC none 0 0) o'->(some k=some g∨some k=some q∨some k=v.ownBlock∨some k=o.ownBlock)∨w.heap.size<=k:=by exact XXlw6
 have hof:∀k,some k∈blks g q v (ZC none 0 0) (ZC none 0 0) (ZC none 0 0) o'->some k∈blks g q v f bd t o∨w.heap.size<=k:=λk hk=>by exact XXZgq
 have hkL2:Keeps (blks g q v f bd t o) w w':=hk.mono λk hk=>by
  have e:some k=o.ownBlock:=by simpa using hk
  simp [e]
 refine ⟨⟨hk.row h.R.row (hn 1 q ZX rfl),hk.own h.R.own λj e=>hn 2 j ZX XXd29,h.R.ge,h.R.ne⟩,NY _ _ _ _,NY _ _ _ _,NY _ _ _ _,
  ⟨ps ++ [(#[ZD r.m,ZD r.x,ZE Z7 r.k,f,ZB r.ch,bd,t],r)],by rw [Ff,hps];rfl,λx hx=>?_,by rw [EO,List.flatMap_append];simpa using ho⟩,?_,h.ge,Gn h.lt hk.size,h.zone.of hk.size hof⟩
 ·rcases Fj.1 hx with hx | hx
  ·exact XXq2s
  ·obtain rfl:x= _:=by simpa using hx
   refine ⟨rfl,?_,λk hb=>?_,λk hb=>?_⟩
   ·exact XXHi0
   ·have e1:=slot_own h.F;have e2:=slot_own h.D;have e3:=slot_own h.TR
    replace hb:some k∈ [none,none,none,slot f,none,slot bd,slot t]:=hb
    exact XXJML
   ·have e1:=slot_own h.F;have e2:=slot_own h.D;have e3:=slot_own h.TR
    replace hb:some k∈ [none,none,none,slot f,none,slot bd,slot t]:=hb
    exact XXNov
 ·exact XXyOi
theorem Own.setF (h:Own w B g q v f bd t o rd fs body ts out) {f':Value} {fs':List Fld} (hk:Keeps [f.ownBlock] w w') (hr:w'.ownsRow B 126 2 f' fs'.length (cells fs')) (hor:f'.ownBlock=f.ownBlock∨∃k,f'.ownBlock=some k/\w.heap.size<=k) :
 Own w' B g q v f' bd t o rd fs' body ts out/\Step (blks g q v f bd t o) (blks g q v f' bd t o) w w':=by
 have hn:∀i j,i≠3->(blks g q v f bd t o)[i]?=some (some j)->some j∉ [f.ownBlock]:=λi j hi hj hm=>by
  have e:some j=f.ownBlock:=by simpa using hm
  exact hi (h.lone i 3 j hj XX1c2)
 have e:blks g q v f' bd t o=(blks g q v f bd t o).set 3 f'.ownBlock:=rfl;have ho:f'.ownBlock=none∨(blks g q v f bd t o)[3]?=some f'.ownBlock∨∃k,f'.ownBlock=some k/\w.heap.size<=k:=by exact XXNT9
 have hof:Of w (blks g q v f bd t o) (blks g q v f' bd t o):=by rw [e];exact Of.set 3 _ ho
 have hkL:Keeps (blks g q v f bd t o) w w':=hk.mono λk hk=>by
  have e:some k=f.ownBlock:=by simpa using hk
  simp [e]
 obtain ⟨ps,h1,h2,h3⟩:=h.O
 refine ⟨⟨⟨hk.row h.R.row (hn 1 q ZX rfl),hk.own h.R.own λj e=>hn 2 j ZX XXd29,h.R.ge,h.R.ne⟩,hr,hk.own h.D λj e=>hn 4 j ZX XXd29,hk.own h.TR λj e=>hn 5 j ZX XXd29,
  ⟨ps,h1,λx hx=>⟨(h2 x hx).1,by
    have hx2:=(h2 x hx).2.keeps hkL
    exact ⟨hx2.reads,λk hb=>⟨λhm=>by
     rcases hof k hm with e | e
     ·exact (hx2.far k hb).1 e
     ·exact ZG ((h2 x hx).2.far k hb).2 ZZ,(hx2.far k hb).2⟩,hx2.off⟩⟩,hk.own h3 λj e=>hn 6 j ZX XXd29⟩,?_,h.ge,Gn h.lt hk.size,h.zone.of hk.size hof⟩,hkL,hof⟩
 rw [e];exact h.lone.set h.in 3 _ ho
theorem Own.setD (h:Own w B g q v f bd t o rd fs body ts out) {bd':Value} {body':List UInt8} (hk:Keeps [bd.ownBlock] w w') (hr:w'.ownsRow B 5 1 bd' body'.length (Rec.vals body')) (hor:bd'.ownBlock=bd.ownBlock∨∃k,bd'.ownBlock=some k/\w.heap.size<=k) :
 Own w' B g q v f bd' t o rd fs body' ts out/\Step (blks g q v f bd t o) (blks g q v f bd' t o) w w':=by
 have hn:∀i j,i≠4->(blks g q v f bd t o)[i]?=some (some j)->some j∉ [bd.ownBlock]:=λi j hi hj hm=>by
  have e:some j=bd.ownBlock:=by simpa using hm
  exact hi (h.lone i 4 j hj XX1c2)
 have e:blks g q v f bd' t o=(blks g q v f bd t o).set 4 bd'.ownBlock:=rfl;have ho:bd'.ownBlock=none∨(blks g q v f bd t o)[4]?=some bd'.ownBlock∨∃k,bd'.ownBlock=some k/\w.heap.size<=k:=by exact XXNT9
 have hof:Of w (blks g q v f bd t o) (blks g q v f bd' t o):=by rw [e];exact Of.set 4 _ ho
 have hkL:Keeps (blks g q v f bd t o) w w':=hk.mono λk hk=>by
  have e:some k=bd.ownBlock:=by simpa using hk
  simp [e]
 obtain ⟨ps,h1,h2,h3⟩:=h.O
 refine ⟨⟨⟨hk.row h.R.row (hn 1 q ZX rfl),hk.own h.R.own λj e=>hn 2 j ZX XXd29,h.R.ge,h.R.ne⟩,hk.own h.F λj e=>hn 3 j ZX XXd29,hr,hk.own h.TR λj e=>hn 5 j ZX XXd29,
  ⟨ps,h1,λx hx=>⟨(h2 x hx).1,by
    have hx2:=(h2 x hx).2.keeps hkL
    exact ⟨hx2.reads,λk hb=>⟨λhm=>by
     rcases hof k hm with e | e
     ·exact (hx2.far k hb).1 e
     ·exact ZG ((h2 x hx).2.far k hb).2 ZZ,(hx2.far k hb).2⟩,hx2.off⟩⟩,hk.own h3 λj e=>hn 6 j ZX XXd29⟩,?_,h.ge,Gn h.lt hk.size,h.zone.of hk.size hof⟩,hkL,hof⟩
 rw [e];exact h.lone.set h.in 4 _ ho
theorem Own.setT (h:Own w B g q v f bd t o rd fs body ts out) {t':Value} {ts':List Fld} (hk:Keeps [t.ownBlock] w w') (hr:w'.ownsRow B 126 2 t' ts'.length (cells ts')) (hor:t'.ownBlock=t.ownBlock∨∃k,t'.ownBlock=some k/\w.heap.size<=k) :
 Own w' B g q v f bd t' o rd fs body ts' out/\Step (blks g q v f bd t o) (blks g q v f bd t' o) w w':=by
 have hn:∀i j,i≠5->(blks g q v f bd t o)[i]?=some (some j)->some j∉ [t.ownBlock]:=λi j hi hj hm=>by
  have e:some j=t.ownBlock:=by simpa using hm
  exact hi (h.lone i 5 j hj XX1c2)
 have e:blks g q v f bd t' o=(blks g q v f bd t o).set 5 t'.ownBlock:=rfl;have ho:t'.ownBlock=none∨(blks g q v f bd t o)[5]?=some t'.ownBlock∨∃k,t'.ownBlock=some k/\w.heap.size<=k:=by exact XXNT9
 have hof:Of w (blks g q v f bd t o) (blks g q v f bd t' o):=by rw [e];exact Of.set 5 _ ho
 have hkL:Keeps (blks g q v f bd t o) w w':=hk.mono λk hk=>by
  have e:some k=t.ownBlock:=by simpa using hk
  simp [e]
 obtain ⟨ps,h1,h2,h3⟩:=h.O
 refine ⟨⟨⟨hk.row h.R.row (hn 1 q ZX rfl),hk.own h.R.own λj e=>hn 2 j ZX XXd29,h.R.ge,h.R.ne⟩,hk.own h.F λj e=>hn 3 j ZX XXd29,hk.own h.D λj e=>hn 4 j ZX XXd29,hr,
  ⟨ps,h1,λx hx=>⟨(h2 x hx).1,by
    have hx2:=(h2 x hx).2.keeps hkL
    exact ⟨hx2.reads,λk hb=>⟨λhm=>by
     rcases hof k hm with e | e
     ·exact (hx2.far k hb).1 e
     ·exact ZG ((h2 x hx).2.far k hb).2 ZZ,(hx2.far k hb).2⟩,hx2.off⟩⟩,hk.own h3 λj e=>hn 6 j ZX XXd29⟩,?_,h.ge,Gn h.lt hk.size,h.zone.of hk.size hof⟩,hkL,hof⟩
 rw [e];exact h.lone.set h.in 5 _ ho
theorem PR.bk (h:PR w B g q v f bd t o p b s):Hv w g (pgcells p b s q f bd t o):=⟨λ_ _ hu=>row_cellL h.row hu,λk _=>FX h.row k,h.own.lt⟩
def Par (w:World) (B:Zone) (g:Nat) (p:Nat) (b:Bd) (s:T) (L:List (Option Nat)):Prop:=∃q v f bd t o,L=blks g q v f bd t o/\PR w B g q v f bd t o p b s
end
end Pg
namespace Each
open Base
def goodF (l:List Oper) (m:Nat) (ds:List Nat) (lm:List Bool) (r:Nat) (f:Option Nat:=none):Bool:=
 decide (m<=l.length)&&(decide ((l.take m).map (·.dst)=ds.map some)&&(decide ds.Nodup &&
 ((Fy l.length).all (λk=>match l[k]? with
   | some o=>o.after.toList.all λe=>!Region.binds .any e|| (decide (e.on<k)&&(lm.getD k false||decide (m<=k) || !lm.getD e.on false))
   | none=>true) &&
 ((Fy l.length).all (λi=>(decide (i<m) && !lm.getD i false)|| (Fy m).all λk=>lm.getD k false|| (decide (f=some k)|| (marks l l.length ((As l.length false).setIfInBounds i true)).getD k false)) &&
 decide ((Fy m).countP (λk=>!lm.getD k false)+r<=l.length)))))
def floats (m:Nat) (lm:List Bool):Option Nat->Bool
 | none=>true
 | some k=>decide (k<m) && !lm.getD k false
section
variable {P:Program} {l:List Oper} {Q:Exit->Act->World->Prop} {fs:List Fact} {W:World} {a0:Act} {m:Nat} {ds:List Nat} {lm:List Bool} {r:Nat} {fl:Option Nat}
theorem all_float (hm:m<=l.length) (hdst:(l.take m).map (·.dst)=ds.map some) (hnd:ds.Nodup) (hsz:∀d∈ds,d<a0.tmps.size) (hlen:fs.length=m)
 (hlast:∀f∈fs,Lasts f) (hidle:∀(k:Nat) (f:Fact),fs[k]?=some f->lm.getD k false=true->∀v w,f v w)
 (hfine:∀(k:Nat) (o:Oper) (f:Fact),l[k]?=some o->fs[k]?=some f->lm.getD k false=false->Fine P l fs W a0 ds o f)
 (hback:∀(k:Nat) (o:Oper),l[k]?=some o->∀e∈o.after.toList,Ii .any e=true->e.on<k)
 (hfree:∀(k:Nat) (o:Oper),l[k]?=some o->k<m->lm.getD k false=false->∀e∈o.after.toList,Ii .any e=true->lm.getD e.on false=false)
 (hcov:∀i,i<l.length->m<=i∨lm.getD i false=true->∀k,k<m->lm.getD k false=false->fl≠some k->(marks l l.length ((As l.length false).setIfInBounds i true)).getD k false=true)
 (hfl:∀k,fl=some k->k<m/\lm.getD k false=false)
 (hrest:∀(g:Nat->Value) (w:World),Below W.heap.size W w->facts g w ds fs->wpAnyH P .any l.toArray Q (λ_=>True) r (fill l.length m lm) (putg g ds a0) w)
 (hrest0:∀k0,fl=some k0->∀(g:Nat->Value) (w:World),Below W.heap.size W w->facts g w ds (fs.set k0 λ_ _=>True)->wpAnyH P .any l.toArray Q (λ_=>True) (r+1) ((fill l.length m lm).setIfInBounds k0 false) (putg g ds a0) w) :
 ∀(n:Nat) (b:Array Bool) (a:Act) (w:World),Inv l fs (λ_ w'=>Below W.heap.size W w') a0 m ds lm b a w->(Fy m).countP (λk=>!b.getD k false && !lm.getD k false)+r<=n->wpAnyH P .any l.toArray Q (λ_=>True) n b a w:=by
 have base:∀(b:Array Bool) (a:Act) (w:World),Inv l fs (λ_ w'=>Below W.heap.size W w') a0 m ds lm b a w->(∀k,k<m->lm.getD k false=false->fl≠some k->b.getD k false=true)->
  ∃q,(q=r∨(q=r+1/\0<(Fy m).countP (λk=>!b.getD k false && !lm.getD k false)))/\wpAnyH P .any l.toArray Q (λ_=>True) q b a w:=by
  intro b a w hI hall;rcases B4 (∃k0,fl=some k0/\b.getD k0 false=false) with ⟨k0,hk0,hbk0⟩ | hno
  ·obtain ⟨hkm,hkl⟩:=hfl k0 hk0;have hall':∀k,k<m->lm.getD k false=false->¬k=k0->b.getD k false=true:=λk h1 h2 h3=>hall k h1 h2 (λe=>h3 (by rw [hk0] at e;exact (GZ.inj e).symm));refine ⟨r+1,.inr ⟨rfl,?_⟩,?_⟩
   ·rw [List.countP_pos_iff];exact ⟨k0,by simpa using hkm,by rw [hbk0,hkl];rfl⟩
   have hb:b=(fill l.length m lm).setIfInBounds k0 false:=by
    refine Array.ext (by simp [fill,hI.bsize]) λi h1 h2=>?_;have e:b.getD i false=b[i]:=by simp [Am,h1]
    rw [←e,Array.getElem_setIfInBounds (by simpa using h2)];by_cases hik:k0=i
    ·rw [ZN hik,←hik,hbk0]
    ·rw [ZO hik];have e2:∀h,(fill l.length m lm)[i]'h=(decide (i<m) && !lm.getD i false):=by intro h;simp [fill]
     rw [e2];rcases Gp i m with hi | hi
     ·cases hl:lm.getD i false with
      | true=>rw [hI.rest i (.inr hl)];simp
      | false=>rw [hall' i hi hl (λe=>hik e.symm)];simp [hi]
     ·rw [hI.rest i (.inl hi)];simp [show¬i<m by omega]
   have:=hrest0 k0 hk0 _ w hI.bel (facts_of (λd=>a.eval (.tmp d)) ds (fs.set k0 λ_ _=>True) λk d f hd hf=>by
    by_cases hkk:k0=k
    ·subst hkk;have:k0<fs.length:=by rw [hlen];exact hkm
     rw [List.getElem?_set_self this] at hf;obtain rfl:=GZ.inj hf
     trivial
    ·rw [Ez hkk] at hf;cases hl:lm.getD k false with
     | true=>exact hidle k f hf hl _ _
     | false=>exact hI.fact k d f hd hf (hall' k (by have:=(Ev.1 hf).1;omega) hl (λe=>hkk e.symm)))
   rw [←act_of hI,←hb] at this;exact this
  ·have hall':∀k,k<m->lm.getD k false=false->b.getD k false=true:=λk h1 h2=>by
    rcases B4 (fl=some k) with h | h
    ·cases hb:b.getD k false with
     | true=>rfl
     | false=>exact ZG ⟨k,h,hb⟩ hno
    ·exact hall k h1 h2 h
   refine ⟨r,.inl rfl,?_⟩;have hb:b=fill l.length m lm:=by
    refine Array.ext (by simp [fill,hI.bsize]) λi h1 h2=>?_;have e:b.getD i false=b[i]:=by simp [Am,h1]
    rw [←e];have e2:(fill l.length m lm)[i]=(decide (i<m) && !lm.getD i false):=by simp [fill]
    rw [e2];rcases Gp i m with hi | hi
    ·cases hl:lm.getD i false with
     | true=>rw [hI.rest i (.inr hl)];simp
     | false=>rw [hall' i hi hl];simp [hi]
    ·rw [hI.rest i (.inl hi)];simp [show¬i<m by omega]
   have:=hrest _ w hI.bel (facts_of (λd=>a.eval (.tmp d)) ds fs λk d f hd hf=>by
    cases hl:lm.getD k false with
    | true=>exact hidle k f hf hl _ _
    | false=>exact hI.fact k d f hd hf (hall' k (by have:=(Ev.1 hf).1;omega) hl))
   rw [←act_of hI,←hb] at this;exact this
 intro n
 induction n with
 | zero=>
   intro b a w hI hn;have hc:(Fy m).countP (λk=>!b.getD k false && !lm.getD k false)=0:=ZZ
   obtain ⟨q,hq,h⟩:=base b a w hI (λk hk hl _=>by have:=List.countP_eq_zero.1 hc k (by simpa using hk);rw [hl] at this;simpa using this);rw [show q=0 by omega] at h;exact h
 | succ n ih=>
   intro b a w hI hn;by_cases hc:∀k,k<m->lm.getD k false=false->fl≠some k->b.getD k false=true
   ·obtain ⟨q,hq,h⟩:=base b a w hI hc;have h2:=wpAnyH_up q (n+1-q) _ _ _ h;rw [show q+(n+1-q)=n+1 by omega] at h2;exact h2
   ·
    have hex:∃k,k<m/\lm.getD k false=false/\fl≠some k/\b.getD k false=false:=by
     rcases B4 (∃k,k<m/\lm.getD k false=false/\fl≠some k/\b.getD k false=false) with h | h
     ·exact h
     ·refine ZG (λk hk hl hf=>?_) hc;cases hb:b.getD k false with
      | true=>rfl
      | false=>exact ZG ⟨k,hk,hl,hf,hb⟩ h
    have hin:∀i∈Ik .any l.toArray b,i<m/\lm.getD i false=false:=by
     intro i hi;obtain ⟨hun,o,ho,hal⟩:=mem_ready.1 hi;have ho':l[i]?=some o:=by simpa using ho
     have hil:i<l.length:=(Ev.1 ho').1;have key:m<=i∨lm.getD i false=true->False:=by intro h;obtain ⟨k,hk,hlk,hfk,hbk⟩:=hex;have hmk:=hcov i hil h k hk hlk hfk;exact XX5Ks
     exact XXSDj
    have hne:Ik .any l.toArray b≠ []:=by
     have:∀k,k<m->lm.getD k false=false->b.getD k false=false->∃i,i∈Ik .any l.toArray b:=by
      intro k
      induction k using Nat.strongRecOn with
      | _ k ihk=>
        exact XXcCR
     obtain ⟨k,hk,hlk,_,hbk⟩:=hex;obtain ⟨i,hi⟩:=this k hk hlk hbk;intro h0;rw [h0] at hi;cases hi
    refine wpAnyH_all rfl hne ?_;intro i hi;obtain ⟨him,hil⟩:=hin i hi
    refine wpOp_mono (λa' w' h'=>⟨trivial,ih _ a' w' h' ?_⟩) (step (R:=λ_ w w'=>Below w.heap.size w w') hm hdst hnd hsz hlen (λ_ _ _ _ _ _ h h'=>h.trans (h'.mono h.size)) (λ_ _=>AE _ _) (λ_ _ f hf _ _=>hlast f (Fs hf))
     (λk o f ho hf hl ev _ w' h1 h2 _ h4=>⟨λhw=>((hfine k o f ho hf hl ev w' h1 h2 h4).1 hw).gen λ_ h=>h,(hfine k o f ho hf hl ev w' h1 h2 h4).2⟩) hI him hil hi)
    exact XXuDq
theorem region_float (m:Nat) (ds:List Nat) (fs:List Fact) (lm:List Bool) (r:Nat) (fl:Option Nat) (p p0:Tree.Plan) {id:Nat} {a0:Act} {w:World} (hmo:P.follows .mixedOrders=true) (hg:goodF l m ds lm r fl=true) (hns:Ij l.toArray=true)
 (hp:Tree.fits l.toArray p r (fill l.length m lm)=true) (hp0:∀k0,fl=some k0->Tree.fits l.toArray p0 (r+1) ((fill l.length m lm).setIfInBounds k0 false)=true) (hQ:∀c a d v w,Q (.panic c) (Ab a d v) w->Q (.panic c) a w)
 (hsz:ds.all (λd=>decide (d<a0.tmps.size))=true) (hlen:fs.length=m) (hlast:Every fs) (hidle:Idle lm fs) (hfloat:floats m lm fl=true) (hfine:All P l fs (w.drewN 1) a0 ds lm l fs)
 (hrest:∀(g:Nat->Value) (w':World),Below w.heap.size w w'->facts g w' ds fs->Tree.Step P l.toArray Q (λ_=>True) (Ju l p) (putg g ds a0) w')
 (hrest0:∀k0,fl=some k0->∀(g:Nat->Value) (w':World),Below w.heap.size w w'->facts g w' ds (fs.set k0 λ_ _=>True)->Tree.Step P l.toArray Q (λ_=>True) (Ju l p0) (putg g ds a0) w'):(Code.region id l.toArray true).wp P Q a0 w:=by
 simp only [goodF,AM,D5,ZJ,List.mem_range,Bc] at hg;obtain ⟨h1,h2,h3,h4,h5,h6⟩:=hg;refine wp_region_held (S:=λ_=>True) hmo ?_;have hb4:∀(k:Nat) (o:Oper),l[k]?=some o->∀e∈o.after.toList,Ii .any e=true->e.on<k/\(k<m->lm.getD k false=false->lm.getD e.on false=false):=by exact XXjkq
 have hcov:∀i,i<l.length->m<=i∨lm.getD i false=true->∀k,k<m->lm.getD k false=false->fl≠some k->(marks l l.length ((As l.length false).setIfInBounds i true)).getD k false=true:=by
  intro i hi hmi k hk hl hf;rcases h5 i hi with ⟨h,h'⟩ | h
  ·rcases hmi with hmi | hmi
   ·omega
   ·rw [hmi] at h';cases h'
  ·rcases h k hk with h | h | h
   ·rw [hl] at h;cases h
   ·exact ZG h hf
   ·exact h
 have hfl:∀k,fl=some k->k<m/\lm.getD k false=false:=by intro k hk;subst hk;simp only [floats,AM,ZJ,AX] at hfloat;exact hfloat
 have hsz':∀d∈ds,d<a0.tmps.size:=by simpa using hsz
 have hI:Inv l fs (λ_ w'=>Below (w.drewN 1).heap.size (w.drewN 1) w') a0 m ds lm (As l.length false) a0 (w.drewN 1):=by
  have hrep:∀k,(As l.length false).getD k false=false:=λk=>by rw [Am];rcases Gp k l.length with h | h<;>simp [h]
  refine ⟨AE _ _,rfl,rfl,λ_ _=>rfl,λk d f _ _ h=>?_,λk o _ h=>?_,ZW,λk _=>hrep k⟩
  ·rw [hrep] at h;cases h
  ·rw [hrep] at h;cases h
 have:=all_float (P:=P) (Q:=Q) (r:=r) (fl:=fl) h1 h2 h3 hsz' hlen (every_at hlast) (idle_at hidle) (λk o f ho hf hl=>all_at hfine k o f ho hf hl) (λk o hk e he hb=>(hb4 k o hk e he hb).1)
  (λk o hk hkm hl e he hb=>(hb4 k o hk e he hb).2 hkm hl) hcov hfl
  (λg w' hb hf=>Tree.held_of_walk hns hQ p _ _ _ w' hp trivial (hrest g w' ((Az (AE w.heap.size w) 1).trans hb) hf).out)
  (λk0 hk0 g w' hb hf=>Tree.held_of_walk hns hQ p0 _ _ _ w' (hp0 k0 hk0) trivial (hrest0 k0 hk0 g w' ((Az (AE w.heap.size w) 1).trans hb) hf).out) l.length _ a0 (w.drewN 1) hI (by
    have:(Fy m).countP (λk=>!(As l.length false).getD k false && !lm.getD k false)<=(Fy m).countP (λk=>!lm.getD k false):=
     List.countP_mono_left λk _ hk=>by simp at hk;simpa using hk.2
    omega)
 simpa [World.drewN] using this
end
section run
variable {P:Program} {o:Oper}
theorem exec_append {ev:Operand->Value} {w w':World} {v u v':Value} (s x:Operand) (t:TypeId) (ho:o.op=.call {callee:=.builtin .append,args:=#[s,x],argTypes:=#[t,t]}) (hs:ev s=v) (hx:ev x=u)
 (hr:(Bi #[t,t] o.type #[v,u]).run P w=.ok v' w'):(execOp ev o).run P w=.ok (.value v') w':=by
 unfold execOp;simp only [ho,resolve,invoke,builtin,Sem.run_bind,Sem.run_pure,Result.andThen_ok,List.map_toArray,Fg,List.map_nil,hs,hx,hr]
theorem oper_append {a:Act} {w w':World} {K:Act->World->Prop} {Q:Exit->Act->World->Prop} {v u v':Value} (s x:Operand) (t:TypeId) (ho:o.op=.call {callee:=.builtin .append,args:=#[s,x],argTypes:=#[t,t]}) (hs:a.eval s=v) (hx:a.eval x=u)
 (hr:(Bi #[t,t] o.type #[v,u]).run P w=.ok v' w') (h:K (a.put o.dst v') w'):o.wp P a w K Q:=by
 unfold Oper.wp;rw [exec_append s x t ho hs hx hr,Oper.upon_value];exact h
theorem oper_enter {a:Act} {w:World} {K:Act->World->Prop} {Q:Exit->Act->World->Prop} {g:FuncId} {args:Array Value} (h:(execOp a.eval o).run P w=.ok (.enter g args) w) (hc:Calls P g args w λe w'=>∃v,e=.returned v/\K (a.put o.dst v) w'):o.wp P a w K Q:=by unfold Oper.wp;rw [h,Oper.upon_enter];refine hc.mono ?_;rintro e w' ⟨v,rfl,hk⟩;exact hk
end run
end Each
open _root_.ByteArray renaming empty→Bp
open _root_.List renaming getElem?_cons_succ→Ep,getElem?_cons_zero→Er,set_cons_succ→F6,set_cons_zero→F7
open _root_.Nat renaming le_of_lt→Gh
open _root_.Option renaming getD_some→GW
open App renaming run_append_list→Ah,wpList_append_list→Ai
open Each renaming fine→BI,putg→BM,region_float→BP,region→BN
open Each.Goes renaming enter→BA,value→BD
open Each.Lasts renaming eq→BF
open Ln renaming own_slice→FV
open Mem.Keeps renaming grown→CP
open Par.Step renaming of_below→II,set→IL
open Qk renaming has_any→Ht
open Rec renaming byteV→Ib,wraps→Ih
open Rec.Bk renaming new→Hw
open Tree renaming change→Jr,done→Js,put1→Jw,quiet→Jx
theorem XX8I9 {P:Prop} (h:P:=by
 rintro r w' ⟨rfl,rfl⟩
 exact ⟨_,rfl,Gi _,⟨heap_alloc_new w _,NY _ _ _ _,hB,XX5ba⟩,(AE _ _).alloc (Gi _) _⟩):P:=h
theorem XXa25 {P:Prop} (h:P:=by repeat first | exact trivial | refine ⟨BF _,?_⟩):P:=h
namespace Pg
open Base Txt Mem Par
abbrev nil:Value:=ZC none 0 0
structure Cs (w:World) (g:Nat) (p:Nat) (b:Bd) (s:T) (q:Nat) (f bd t o:Value):Prop where
 c0:w.cell? ⟨g,0,none⟩=some (ZE Z7 0)
 c1:w.cell? ⟨g,1,none⟩=some (ZE Z7 (s.hl:Int))
 c2:w.cell? ⟨g,2,none⟩=some (f)
 c3:w.cell? ⟨g,3,none⟩=some (ZD s.r.m)
 c4:w.cell? ⟨g,4,none⟩=some (ZD s.r.x)
 c5:w.cell? ⟨g,5,none⟩=some (ZE Z7 s.r.k)
 c6:w.cell? ⟨g,6,none⟩=some (ZE Z7 (s.size:Int))
 c7:w.cell? ⟨g,7,none⟩=some (ZB s.cnt)
 c8:w.cell? ⟨g,8,none⟩=some (ZE Z7 (s.bl:Int))
 c9:w.cell? ⟨g,9,none⟩=some (t)
 c10:w.cell? ⟨g,10,none⟩=some (ZB s.r.ch)
 c11:w.cell? ⟨g,11,none⟩=some (bd)
 c12:w.cell? ⟨g,12,none⟩=some (ZE Z7 (s.left:Int))
 c13:w.cell? ⟨g,13,none⟩=some (ZE Z5 (p:Int))
 c14:w.cell? ⟨g,14,none⟩=some (ZE Z7 b.x0)
 c15:w.cell? ⟨g,15,none⟩=some (ZE Z7 b.x1)
 c16:w.cell? ⟨g,16,none⟩=some (ZE Z7 b.x2)
 c17:w.cell? ⟨g,17,none⟩=some (ZE Z7 b.x3)
 c18:w.cell? ⟨g,18,none⟩=some (ZE Z7 b.x4)
 c19:w.cell? ⟨g,19,none⟩=some (ZE Z7 b.x5)
 c20:w.cell? ⟨g,20,none⟩=some (ZE Z7 b.x6)
 c21:w.cell? ⟨g,21,none⟩=some (ZE Z7 b.x7)
 c22:w.cell? ⟨g,22,none⟩=some (ZB b.ch)
 c23:w.cell? ⟨g,23,none⟩=some (ZB b.od)
 c24:w.cell? ⟨g,24,none⟩=some (ZE Z7 (s.st:Int))
 c25:w.cell? ⟨g,25,none⟩=some (ptr q)
 c26:w.cell? ⟨g,26,none⟩=some (o)
theorem Cs.of {w:World} {g:Nat} {p:Nat} {b:Bd} {s:T} {q:Nat} {f bd t o:Value} (h:w.heap[g]?=some (.cells (pgcells p b s q f bd t o).toArray 55 (0,0))):Cs w g p b s q f bd t o:=⟨row_cellL h rfl,row_cellL h rfl,row_cellL h rfl,row_cellL h rfl,row_cellL h rfl,row_cellL h rfl,row_cellL h rfl,row_cellL h rfl,row_cellL h rfl,row_cellL h rfl,row_cellL h rfl,row_cellL h rfl,row_cellL h rfl,row_cellL h rfl,row_cellL h rfl,row_cellL h rfl,row_cellL h rfl,row_cellL h rfl,row_cellL h rfl,row_cellL h rfl,row_cellL h rfl,row_cellL h rfl,row_cellL h rfl,row_cellL h rfl,row_cellL h rfl,row_cellL h rfl,row_cellL h rfl⟩
abbrev deadcells (e:Nat) (o:Value):List Value:= [ZE Z7 (e:Int),ZE Z7 0,nil,ZD E0,ZD E0,ZE Z7 0,ZE Z7 0,ZB false,ZE Z7 0,nil,ZB false,nil,ZE Z7 0,ZE Z5 0,ZE Z7 0,ZE Z7 0,ZE Z7 0,ZE Z7 0,ZE Z7 0,ZE Z7 0,ZE Z7 0,ZE Z7 0,ZB false,ZB false,ZE Z7 0,ZA none,o]
structure Dead (w:World) (B:Zone) (g:Nat) (e:Nat) (o:Value) (out:List Hz):Prop where
 row:w.heap[g]?=some (.cells (deadcells e o).toArray 55 (0,0))
 O:Outs [some g,o.ownBlock] B w o out
 ne:o.ownBlock≠some g
 ge:B<=g
 lt:g<w.heap.size
 bad:e≠0
 zone:Clear w B.z [some g,o.ownBlock]
section
attribute [local go_sem] A8
variable {w:World} {B:Zone} {g q:Nat} {v f bd t o:Value} {p:Nat} {b:Bd} {s:T}
theorem PR.cs (h:PR w B g q v f bd t o p b s):Cs w g p b s q f bd t o:=Cs.of h.row
theorem PR.marks (h:PR w B g q v f bd t o p b s) (k:Nat):w.frozen? ⟨g,k,none⟩=false:=FX h.row k
theorem PR.line (h:PR w B g q v f bd t o p b s) {w':World} (hb:Below w.heap.size w w') {q1:Nat} {rd1:FJ} (hr:Ln.Rd w' B q1 (ZC none 0 0) rd1) (hq:w.heap.size<=q1):PR (w'.setCell ⟨g,25,none⟩ (ptr q1)) B g q1 (ZC none 0 0) f bd t o p b {s with rd:=rd1}:=
 ⟨row_setL ((hb.block g h.own.lt).trans h.row) 25 (ptr q1),(h.own.line hb hr hq).set 25 (ptr q1)⟩
theorem failed_live (h:w.cell? ⟨g,0,none⟩=some (ZE Z7 0)):Calls Mm 78 #[ptr g] w λr w'=>r=.returned (ZB false)/\w'=w:=by go_enter Tryz.func78,Tryz.ntmps78;go_wp2;go_ret;exact ⟨rfl,rfl⟩
theorem failed_dead {e:Nat} (h:w.cell? ⟨g,0,none⟩=some (ZE Z7 (e:Int))) (hn:e≠0):Calls Mm 78 #[ptr g] w λr w'=>r=.returned (ZB true)/\w'=w:=by
 have h1:((e:Int)==0)=false:=ZM.2 ZZ;have h2:¬(e:Int)=0:=ZZ;have h3:((e:Int) != 0)=true:=bne_iff_ne.2 h2;go_enter Tryz.func78,Tryz.ntmps78;go_wp2;go_ret;exact ⟨by rw [←h3];rfl,rfl⟩
theorem err_any {x:Int} (h:w.cell? ⟨g,0,none⟩=some (ZE Z7 x)):Calls Mm 20 #[ptr g] w λr w'=>r=.returned (ZE Z7 x)/\w'=w:=by go_enter Tryz.func20,Tryz.ntmps20;go_wp2;go_ret;exact ⟨rfl,rfl⟩
theorem isNew_any (h:PR w B g q v f bd t o p b s):Calls Mm 82 #[ptr g] w λr w'=>r=.returned (ZB s.isNew)/\w'=w:=by
 have c25:=h.cs.c25;have HL0:=Ln.len_any h.own.R.row h.own.R.own;have HP:=Dl (Ln.pending_any h.own.R.row);unfold T.isNew;generalize s.rd.pend=pe at *;generalize s.rd.len=n at *;rcases Gg n with rfl | hn
 ·have HL:=Dl (show Calls Mm 79 #[ptr q] w λe w'=>e=.returned (ZE Z7 0)/\w'=w from HL0);clear HL0;go_enter Tryz.func82,Tryz.ntmps82
  go_wp2_with (first
   |(go_at_call 79;with_reducible refine Cm HL.out ?_)
   |(go_at_call 123;with_reducible refine Cm HP.out ?_))
  go_ret;exact ⟨by cases pe<;>rfl,rfl⟩
 ·have HL:=Dl HL0;have t1:((n:Int)==0)=false:=ZM.2 ZZ;have t2:¬(n:Int)=0:=ZZ;have t3:¬n=0:=ZZ;clear HL0;go_enter Tryz.func82,Tryz.ntmps82
  go_wp2_with (first
   |(go_at_call 79;with_reducible refine Cm HL.out ?_)
   |(go_at_call 123;with_reducible refine Cm HP.out ?_))
  go_ret;exact ⟨by rw [ZL t3];rfl,rfl⟩
theorem clean_live (h:PR w B g q v f bd t o p b s):Calls Mm 25 #[ptr g] w λr w'=>r=.returned (ZB (s.st==1&&s.isNew))/\w'=w:=by
 have c24:=h.cs.c24;have HN:=Dl (isNew_any h);clear h;generalize s.isNew=i at *;by_cases h1:s.st=1
 ·have c24:w.cell? ⟨g,24,none⟩=some (ZE Z7 1):=by rw [h1] at c24;exact c24
  rw [h1];go_enter Tryz.func25,Tryz.ntmps25;go_wp2_with (go_at_call 82;with_reducible refine Cm HN.out ?_);go_ret;exact ⟨rfl,rfl⟩
 ·have t1:((s.st:Int)==1)=false:=ZM.2 ZZ;have t2:¬(s.st:Int)=1:=by omega
  rw [ZM.2 h1];go_enter Tryz.func25,Tryz.ntmps25;go_wp2;go_ret;exact ⟨rfl,rfl⟩
theorem clean_dead (h:w.cell? ⟨g,24,none⟩=some (ZE Z7 0)):Calls Mm 25 #[ptr g] w λr w'=>r=.returned (ZB false)/\w'=w:=by go_enter Tryz.func25,Tryz.ntmps25;go_wp2;go_ret;exact ⟨rfl,rfl⟩
theorem line_new (hp:p<4294967296) (B:Zone) (most:Int) (w:World) (hB:B<=w.heap.size):Calls Mm 112 #[ZE Z5 (p:Int),ZE Z7 most] w λr w'=>∃q1,r=.returned (ptr q1)/\w.heap.size<=q1/\Ln.Rd w' B q1 nil (FJ.of p most)/\Below w.heap.size w w':=by refine (Ln.new_any p hp most w).mono ?_;exact XX8I9
theorem enter_any (hp:p<4294967296) (h:PR w B g q v f bd t o p b s) (st:Nat) (x:Int) (hx:x=(st:Int)) (most:Int):Calls Mm 68 #[ptr g,ZE Z7 x,ZE Z7 most] w λr w'=>
 r=.returned (Z8 #[])/\∃q1,PR w' B g q1 nil f bd t o p b (s.enter p st most)/\Step (blks g q v f bd t o) (blks g q1 nil f bd t o) w w':=by
 subst hx;have c24:=h.cs.c24;have z24:=h.marks 24
 have H1:=Dl (h.put 24 (ZE Z7 (st:Int)) {s with st:=st} rfl rfl rfl rfl rfl rfl);have HS1:=Dl (IL (w:=w) (L:=blks g q v f bd t o) g 24 (ZE Z7 (st:Int)) ZW);clear h;go_enter Tryz.func68,Tryz.ntmps68;go_upto_region 1 with fail
 generalize w.setCell ⟨g,24,none⟩ (ZE Z7 (st:Int))=W1 at *;clear c24 z24;have c13:=H1.out.cs.c13;have e25:=H1.out.cs.c25;have z25:=H1.out.marks 25;have HNL:=Dl (line_new hp B most W1 (Gl H1.out.own.ge (Gh H1.out.own.lt)));go_wp2_with
  (go_at_call 112;with_reducible refine HNL.out.mono ?_;rintro r w8 ⟨q1,rfl,hq1,hr1,hb8⟩
   have d25:=(hb8.cell (p:=⟨g,25,none⟩) H1.out.own.lt).trans e25;have y25:=(hb8.frozen (p:=⟨g,25,none⟩) H1.out.own.lt).trans z25;have HL8:=Dl (H1.out.line hb8 hr1 hq1);have HS8:=Dl (HS1.out.trans (Step.line hb8 hq1));clear hb8 hr1 hq1 e25 z25)
 go_end0;exact ⟨rfl,q1,HL8.out,HS8.out.trans (IL g 25 (ptr q1) ZW)⟩
theorem draft_any (h:PR w B g q v f bd t o p b s):Calls Mm 76 #[ptr g] w λr w'=>r=.returned (Z9 #[ZD s.r.m,ZD s.r.x,ZE Z7 s.r.k,f,ZB s.r.ch,bd,t])/\Below w.heap.size w w':=by
 obtain ⟨fo,fc,ef, -⟩:=FV h.own.F;obtain ⟨bo,bc,eb, -⟩:=FV h.own.D;obtain ⟨ta,tc,et, -⟩:=FV h.own.TR;subst ef eb et
 have hb0:=((AE _ _).alloc (Gi _) (.cells #[ZD ⟨#[]⟩,ZD ⟨#[]⟩,ZE Z7 0,ZC none 0 0,ZB false,ZC none 0 0,ZC none 0 0] 58):Below w.heap.size w _);have H1:=Dl (h.below hb0);obtain ⟨G1,hG1⟩:∃G1,G1=w.heap.size:=⟨_,rfl⟩;have HZ:=Dl (Hw w G1 hG1 58 [ZD ⟨#[]⟩,ZD ⟨#[]⟩,ZE Z7 0,ZC none 0 0,ZB false,ZC none 0 0,ZC none 0 0]);have HB0:=Dl hb0;have HG1:=Dl hG1;clear h hb0;go_enter Tryz.func76,Tryz.ntmps76;go_upto_region 1 with fail
 rw [←hG1];clear hG1;generalize w.alloc (.cells #[ZD ⟨#[]⟩,ZD ⟨#[]⟩,ZE Z7 0,ZC none 0 0,ZB false,ZC none 0 0,ZC none 0 0] 58)=W1 at *;have HQ:=Dl ((H1.out.drew 1).bk);refine BN 38 [3,4,5,6,7,8,9,10,11,12,13,14,15,16,17,18,19,20,21,22,23,24,25,26,27,28,29,30,31,32,33,34,35,36,37,38,39,40] [eP g 0,eP g 0,eP g 1,eP g 3,eQ (ZD s.r.m),eP g 0,eP g 0,eP g 1,eP g 4,eQ (ZD s.r.x),eP g 0,eP g 0,eP g 1,eP g 5,eQ (ZE Z7 s.r.k),eP g 0,eP g 0,eP g 1,eP g 1,eP g 2,eQ (.slice fo s.r.fs.length fc),eP g 0,eP g 0,eP g 8,eP g 10,eQ (ZB s.r.ch),eP g 0,eP g 0,eP g 8,eP g 11,eQ (.slice bo s.r.body.length bc),eP g 0,eP g 0,eP g 8,eP g 8,eP g 9,eQ (.slice ta s.r.ts.length tc),eQ (Z9 #[ZD s.r.m,ZD s.r.x,ZE Z7 s.r.k,.slice fo s.r.fs.length fc,ZB s.r.ch,.slice bo s.r.body.length bc,.slice ta s.r.ts.length tc])] (.act 38 .done) ZY ZY ZY ZY (λ_ _ d _ _ h=>by cases d<;>exact h) ZV ZV XXa25 ?_ ?_
 ·refine ⟨?_,?_,?_,?_,?_,?_,?_,?_,?_,?_,?_,?_,?_,?_,?_,?_,?_,?_,?_,?_,?_,?_,?_,?_,?_,?_,?_,?_,?_,?_,?_,?_,?_,?_,?_,?_,?_,?_,trivial⟩
  all_goals (refine BI rfl (λev w1 hR hb hh=>?_);have e0:=hR.old 0 rfl;simp only [Am,E6,Ep,Er,GW] at e0;have q3:=(HQ.out.below hb).c 3 _ rfl;have q4:=(HQ.out.below hb).c 4 _ rfl;have q5:=(HQ.out.below hb).c 5 _ rfl;have q2:=(HQ.out.below hb).c 2 _ rfl;have q10:=(HQ.out.below hb).c 10 _ rfl;have q11:=(HQ.out.below hb).c 11 _ rfl;have q9:=(HQ.out.below hb).c 9 _ rfl;exact Each.std)
 intro g1 w2 hb hf;have z40:g1 40= _:=hf.at 37;clear hf;simp only [BM,Ab,F4,F7,F6];rw [z40];simp only [Ju,Jw,Er,Ep]
 have HZ2:=Dl (HZ.out.below (A6 (AE _ _) hb));have HB2:=Dl (A6 HB0.out hb);have c0:=HZ2.out.c 0 _ rfl;have c1:=HZ2.out.c 1 _ rfl;have c2:=HZ2.out.c 2 _ rfl;have c3:=HZ2.out.c 3 _ rfl;have c4:=HZ2.out.c 4 _ rfl;have c5:=HZ2.out.c 5 _ rfl;have c6:=HZ2.out.c 6 _ rfl;have z0:=HZ2.out.z 0 ZW;have z1:=HZ2.out.z 1 ZW;have z2:=HZ2.out.z 2 ZW;have z3:=HZ2.out.z 3 ZW;have z4:=HZ2.out.z 4 ZW;have z5:=HZ2.out.z 5 ZW;have z6:=HZ2.out.z 6 ZW;refine Jr ZV (λK hK=>?_);go_simp;refine hK _ _ trivial ?_;clear hK K;refine Js ?_;obtain ⟨X,hX,hBX,hbX, -, -, -⟩:=Rec.put7 HZ2.out ZW HB2.out (by rw [HG1.out];exact Gi _) (ZD s.r.m) (ZD s.r.x) (ZE Z7 s.r.k) (.slice fo s.r.fs.length fc) (ZB s.r.ch) (.slice bo s.r.body.length bc) (.slice ta s.r.ts.length tc);clear c0 c1 c2 c3 c4 c5 c6 z0 z1 z2 z3 z4 z5 z6;go_wp2;rw [hX];have d0:=hBX.c 0 _ rfl;have d1:=hBX.c 1 _ rfl;have d2:=hBX.c 2 _ rfl;have d3:=hBX.c 3 _ rfl;have d4:=hBX.c 4 _ rfl;have d5:=hBX.c 5 _ rfl;have d6:=hBX.c 6 _ rfl;refine ZF (v:=Z9 #[ZD s.r.m,ZD s.r.x,ZE Z7 s.r.k,.slice fo s.r.fs.length fc,ZB s.r.ch,.slice bo s.r.body.length bc,.slice ta s.r.ts.length tc]) (by simp [results,Tryz.results76,go_sem,d0,d1,d2,d3,d4,d5,d6]) rfl ⟨rfl,hbX⟩
theorem XXavT {P:Prop} (h:P:=by
 go_enter Tryz.func184,Tryz.ntmps184;go_wp2;go_ret
 exact ⟨rfl,rfl⟩):P:=h
theorem tooLong_any (h:w.cell? ⟨g,24,none⟩=some (ZE Z7 (s.st:Int))):Calls Mm 184 #[ptr g] w λr w'=>r=.returned (ZE Z7 (longE s.st:Int))/\w'=w:=by
 unfold longE;generalize s.st=n at *;by_cases h1:n=1
 ·subst h1;exact XXavT
 ·by_cases h2:n=2
  ·subst h2;exact XXavT
  ·by_cases h7:n=7
   ·subst h7;exact XXavT
   ·have t1:((n:Int)==1)=false:=ZM.2 ZZ;have t2:((n:Int)==2)=false:=ZM.2 ZZ;have t7:((n:Int)==7)=false:=ZM.2 ZZ;have m1:¬(n:Int)=1:=ZZ;have m2:¬(n:Int)=2:=ZZ;have m7:¬(n:Int)=7:=ZZ;rw [ZO h1,ZO ZZ];clear h1 h2 h7;exact XXavT
theorem emptyLine_any (hp:p<4294967296) (h:w.cell? ⟨g,13,none⟩=some (ZE Z5 (p:Int))):Calls Mm 223 #[ptr g] w λr w'=>r=.returned (ZE Z7 ((if Hs p 0=true then 0 else 400:Nat):Int))/\w'=w:=by
 have HH0:=λw=>Ht p hp 0 w;generalize Hs p 0=e at *;have HH:=Dl HH0;clear HH0
 cases e<;> (go_enter Tryz.func223,Tryz.ntmps223;go_wp2_with (go_at_call 84;with_reducible refine Cm (HH.out _) ?_);go_ret;exact ⟨rfl,rfl⟩)
end
end Pg
theorem XXc64 {P:Prop} (h:P:=by have:=HBL.out;unfold maxLen;omega):P:=h
theorem XXca6 {P:Prop} (h:P:=by rw [hl,Rec.vals_app];exact hO5):P:=h
theorem XXUgj {P:Prop} (h:P:=by
 rintro r w2 ⟨rfl,hb2⟩
 exact ⟨_,rfl,hb2,rfl⟩):P:=h
theorem XX4eD {P:Prop} (h:P:=by
 clear hh
 exact BD (ZC (some ⟨w1.heap.size,0,none⟩) 1 1) (w1.alloc (.cells #[ZD s.r.m,ZD s.r.x,ZE Z7 s.r.k,f,ZB s.r.ch,bd,t] 58)) ZU ((AE _ _).alloc (Gi _) _) ⟨_,rfl,Hw w1 _ rfl 58 [ZD s.r.m,ZD s.r.x,ZE Z7 s.r.k,f,ZB s.r.ch,bd,t]⟩):P:=h
namespace Pg
open Base Txt Mem Par
theorem Outs.less {L L':List (Option Nat)} {B:Zone} {w:World} {o:Value} {out:List Hz} (h:Outs L B w o out) (hs:∀k,some k∈L'->some k∈L∨w.heap.size<=k):Outs L' B w o out:=by obtain ⟨ps,h1,h2,h3⟩:=h;exact ⟨ps,h1,λx hx=>⟨(h2 x hx).1,(h2 x hx).2.of hs⟩,h3⟩
theorem setRow_keeps (w:World) (g:Nat) (c:Array Value):Keeps [some g] w (w.setRow g c):=
 ⟨rfl,rfl,rfl,by simp [World.setRow],λk _ hn=>by
   unfold World.setRow;simp only [Array.getElem?_modify]
   rw [ZO (λe=>hn (by rw [e];exact Fv.2 rfl))]⟩
theorem wl_val {P:Program} {ops:Array Oper} {Q:Exit->Act->World->Prop} {rest:List Oper} {o:Oper} {a:Act} {w:World} (hw:Il o (yielded ops a.tmps)=true) (v:Value) (hv:(execOp a.eval o).run P w=.ok (.value v) w) (h:wpList P ops Q rest (a.put o.dst v) w):wpList P ops Q (o::rest) a w:=by unfold wpList;rw [if_pos hw];left;unfold Oper.wp;rw [hv,Oper.upon_value];exact h
theorem wl_act {P:Program} {ops:Array Oper} {Q:Exit->Act->World->Prop} {rest:List Oper} {o:Oper} {a:Act} {w:World} (hw:Il o (yielded ops a.tmps)=true) (h:o.wp P a w (wpList P ops Q rest) Q):wpList P ops Q (o::rest) a w:=by unfold wpList;rw [if_pos hw];exact .inl h
theorem parser_info:(Mm.info? 55).map (·.size)=some 27:=ZY
theorem byte_info:(Mm.info? 5).map (λi=>(i.zero,i.size,i.bytes))=some (some (ZE Z6 0),1,1):=ZY
theorem record_info:(Mm.info? 58).map (λi=>(i.zero,i.size,i.bytes))=some (some (Z9 #[ZD Bp,ZD Bp,ZE Z7 0,ZC none 0 0,ZB false,ZC none 0 0,ZC none 0 0]),7,120):=ZY
section
attribute [local go_sem] A8
variable {w:World} {B:Zone} {g q:Nat} {v f bd t o:Value} {p:Nat} {b:Bd} {s:T}
theorem keep_any (c:UInt8) (h:PR w B g q v f bd t o p b s) (hl:1<=s.left/\s.left<=2000000) (hbl:s.r.body.length<=2000000):Calls Mm 153 #[ZA (some ⟨g,8,none⟩),ZE Z6 (c.toNat:Int)] w λr w'=>
 r=.returned (ZB (decide (s.left=1)))/\∃bd1,PR w' B g q v f bd1 t o p b (s.keep c)/\Step (blks g q v f bd t o) (blks g q v f bd1 t o) w w':=by
 obtain ⟨iB,hi,hz0,hz1,hz2⟩:=info_parts byte_info;have I1:=Dl hi;have I2:=Dl hz0;have I3:=Dl hz1;have I4:=Dl hz2;obtain ⟨bb,cb,eb, -⟩:=FV h.own.D;subst eb;have H:=Dl h;have HBL:=Dl hbl;have c11:=h.cs.c11;have z11:=h.marks 11;clear hi hz0 hz1 hz2 hbl h;by_cases hmore:1<s.left
 ·obtain ⟨k,hleft⟩:∃k,s.left=k+1:=⟨s.left-1,ZZ⟩;have e:s.keep c={s with r:={s.r with body:=s.r.body ++ [c]},left:=k}:=by unfold T.keep;rw [hleft];rfl
  rw [e,ZL (show¬s.left=1 by omega)];obtain ⟨a1,a2⟩:=Ih (k:Int) ⟨ZZ,ZZ⟩;have a3:(k:Int)+1-1=(k:Int):=ZZ;have t1:((k:Int)==0)=false:=ZM.2 ZZ;have t2:¬(k:Int)=0:=ZZ;have t3:¬k=0:=ZZ;clear e hmore;go_enter Tryz.func153,Tryz.ntmps153;have HLE:=Dl hleft;clear hleft hl;go_upto_region 2 with
   (at_builtin;refine Ai _ rfl _ _ 22 rfl B 5 iB (.int .u8 0) 1 1 MZ I1.out I2.out I3.out I4.out rfl ZX (.slice bb s.r.body.length cb) s.r.body.length (Rec.vals s.r.body) rfl (H.out.own.D.alloc (.cells #[Ib c] 5)) (some ⟨w.heap.size,0,none⟩) 1 1 [Ib c] rfl rfl (λ_=>⟨w.heap.size,0,rfl,λj u hu=>by rw [Gy];exact (Hw w _ rfl 5 [Ib c]).c j u hu⟩) (λu hu=>by rw [Fv.1 hu];rfl) XXc64 (by have:=HBL.out;omega) (by have:=H.out.own.lt;have:=H.out.own.ge;simp;omega) ?_;intro v2 w5 hO5 hgr5 _ hor5;obtain ⟨b9,c9,e9, -⟩:=FV hO5;subst e9;have hk5:Keeps [(.slice bb s.r.body.length cb:Value).ownBlock] (w.alloc (.cells #[Ib c] 5)) w5:=CP hgr5 λk e=>by rw [e];exact Fv.2 rfl
    have h4:=H.out.below ((AE _ _).alloc (Gi _) (.cells #[Ib c] 5));have hl:(s.r.body ++ [c]).length=s.r.body.length+1:=ZW
    obtain ⟨ho5,hs5⟩:=h4.own.setD (bd':=.slice b9 (s.r.body.length+1) c9) (body':=s.r.body ++ [c]) hk5 XXca6 (by
     rcases hor5 with e | e
     ·exact .inl e
     ·exact .inr ⟨_,e,Gi _⟩)
    have hrow:w5.heap[g]?= _:=hk5.row h4.row (λhm=>by
     have e:some g=(.slice bb s.r.body.length cb:Value).ownBlock:=by simpa using hm
     exact h4.own.lone.ne (i:=0) (j:=4) rfl ZX XX1c2)
    have HR5:=Dl hrow;have HO5:=Dl ho5;have HS5:=Dl ((II ((AE w.heap.size w).alloc (Gi _) (.cells #[Ib c] 5))).trans hs5);have d11:=row_cellL hrow (k:=11) rfl;have y11:=FX hrow 11;clear hO5 hgr5 hor5 hk5 h4 hl ho5 hs5 hrow c11 z11)
  have H6:=Dl (show PR (w5.setCell ⟨g,11,none⟩ (.slice b9 (s.r.body.length+1) c9)) B g q v f (.slice b9 (s.r.body.length+1) c9) t o p b {s with r:={s.r with body:=s.r.body ++ [c]}} from ⟨row_setL HR5.out 11 (.slice b9 (s.r.body.length+1) c9),HO5.out.set 11 (.slice b9 (s.r.body.length+1) c9)⟩);have HS6:=Dl (HS5.out.trans (IL g 11 (.slice b9 (s.r.body.length+1) c9) ZW));clear HR5 HO5 HS5 d11 y11;generalize w5.setCell ⟨g,11,none⟩ (.slice b9 (s.r.body.length+1) c9)=W6 at *;have c12:W6.cell? ⟨g,12,none⟩=some (ZE Z7 ((k:Int)+1)):=by have:=H6.out.cs.c12;rw [HLE.out] at this;exact this
  have z12:=H6.out.marks 12
  have H7:=Dl (H6.out.put 12 (ZE Z7 (k:Int)) {s with r:={s.r with body:=s.r.body ++ [c]},left:=k} rfl rfl rfl rfl rfl rfl);have HS7:=Dl (HS6.out.trans (IL g 12 (ZE Z7 (k:Int)) ZW));clear HS6 H H6;go_wp2;go_ret;exact ⟨rfl,_,H7.out,HS7.out⟩
 ·have hleft:s.left=1:=by omega
  have e:s.keep c={s with r:={s.r with body:=s.r.body ++ [c]},left:=0}:=by unfold T.keep;rw [hleft]
  rw [e,ZK hleft];clear e hmore;go_enter Tryz.func153,Tryz.ntmps153;have HLE:=Dl hleft;clear hleft hl;go_upto_region 2 with
   (at_builtin;refine Ai _ rfl _ _ 22 rfl B 5 iB (.int .u8 0) 1 1 MZ I1.out I2.out I3.out I4.out rfl ZX (.slice bb s.r.body.length cb) s.r.body.length (Rec.vals s.r.body) rfl (H.out.own.D.alloc (.cells #[Ib c] 5)) (some ⟨w.heap.size,0,none⟩) 1 1 [Ib c] rfl rfl (λ_=>⟨w.heap.size,0,rfl,λj u hu=>by rw [Gy];exact (Hw w _ rfl 5 [Ib c]).c j u hu⟩) (λu hu=>by rw [Fv.1 hu];rfl) XXc64 (by have:=HBL.out;omega) (by have:=H.out.own.lt;have:=H.out.own.ge;simp;omega) ?_;intro v2 w5 hO5 hgr5 _ hor5;obtain ⟨b9,c9,e9, -⟩:=FV hO5;subst e9;have hk5:Keeps [(.slice bb s.r.body.length cb:Value).ownBlock] (w.alloc (.cells #[Ib c] 5)) w5:=CP hgr5 λk e=>by rw [e];exact Fv.2 rfl
    have h4:=H.out.below ((AE _ _).alloc (Gi _) (.cells #[Ib c] 5));have hl:(s.r.body ++ [c]).length=s.r.body.length+1:=ZW
    obtain ⟨ho5,hs5⟩:=h4.own.setD (bd':=.slice b9 (s.r.body.length+1) c9) (body':=s.r.body ++ [c]) hk5 XXca6 (by
     rcases hor5 with e | e
     ·exact .inl e
     ·exact .inr ⟨_,e,Gi _⟩)
    have hrow:w5.heap[g]?= _:=hk5.row h4.row (λhm=>by
     have e:some g=(.slice bb s.r.body.length cb:Value).ownBlock:=by simpa using hm
     exact h4.own.lone.ne (i:=0) (j:=4) rfl ZX XX1c2)
    have HR5:=Dl hrow;have HO5:=Dl ho5;have HS5:=Dl ((II ((AE w.heap.size w).alloc (Gi _) (.cells #[Ib c] 5))).trans hs5);have d11:=row_cellL hrow (k:=11) rfl;have y11:=FX hrow 11;clear hO5 hgr5 hor5 hk5 h4 hl ho5 hs5 hrow c11 z11)
  have H6:=Dl (show PR (w5.setCell ⟨g,11,none⟩ (.slice b9 (s.r.body.length+1) c9)) B g q v f (.slice b9 (s.r.body.length+1) c9) t o p b {s with r:={s.r with body:=s.r.body ++ [c]}} from ⟨row_setL HR5.out 11 (.slice b9 (s.r.body.length+1) c9),HO5.out.set 11 (.slice b9 (s.r.body.length+1) c9)⟩);have HS6:=Dl (HS5.out.trans (IL g 11 (.slice b9 (s.r.body.length+1) c9) ZW));clear HR5 HO5 HS5 d11 y11;generalize w5.setCell ⟨g,11,none⟩ (.slice b9 (s.r.body.length+1) c9)=W6 at *;have c12:W6.cell? ⟨g,12,none⟩=some (ZE Z7 1):=by have:=H6.out.cs.c12;rw [HLE.out] at this;exact this
  have z12:=H6.out.marks 12
  have H7:=Dl (H6.out.put 12 (ZE Z7 0) {s with r:={s.r with body:=s.r.body ++ [c]},left:=0} rfl rfl rfl rfl rfl rfl);have HS7:=Dl (HS6.out.trans (IL g 12 (ZE Z7 0) ZW));clear HS6 H H6;go_wp2;go_ret;exact ⟨rfl,_,H7.out,HS7.out⟩
theorem count_any (most:Int) (h:PR w B g q v f bd t o p b s) (hsz:s.size<=1000000):Calls Mm 155 #[ZA (some ⟨g,1,none⟩),ZE Z7 most] w λr w'=>
 r=.returned (ZB (!decide (most<(s.counted.size:Int))))/\PR w' B g q v f bd t o p b s.counted/\Step (blks g q v f bd t o) (blks g q v f bd t o) w w':=by
 obtain ⟨a1,a2⟩:=Ih ((s.size:Int)+1) ⟨ZZ,ZZ⟩;have c6:=h.cs.c6;have z6:=h.marks 6;have c7:=h.cs.c7;have z7:=h.marks 7;have H:=Dl h;unfold T.counted;cases hc:s.cnt with
 | true=>
   rw [hc] at c7;have HC:=Dl hc;clear h hc;rw [ZN rfl]
   by_cases hm:most<(s.size:Int)
   ·have t1:¬(s.size:Int)<=most:=by omega
    rw [ZK hm];clear hm;go_enter Tryz.func155,Tryz.ntmps155;go_wp2;go_ret;exact ⟨rfl,H.out,Step.refl⟩
   ·have t1:(s.size:Int)<=most:=by omega
    rw [ZL hm];clear hm;go_enter Tryz.func155,Tryz.ntmps155;go_wp2;go_ret;exact ⟨rfl,H.out,Step.refl⟩
 | false=>
   rw [hc] at c7
   have H2:=Dl ((h.put 7 (ZB true) {s with cnt:=true} rfl rfl rfl rfl rfl rfl).put 6 (ZE Z7 ((s.size:Int)+1)) {s with cnt:=true,size:=s.size+1} rfl rfl rfl rfl rfl rfl);have HS2:=Dl ((IL (w:=w) (L:=blks g q v f bd t o) g 7 (ZB true) ZW).trans (IL g 6 (ZE Z7 ((s.size:Int)+1)) ZW));clear h hc;rw [ZO ZX]
   by_cases hm:most<((s.size+1:Nat):Int)
   ·have t1:¬(s.size:Int)+1<=most:=by omega
    rw [ZK hm];clear hm;go_enter Tryz.func155,Tryz.ntmps155;go_wp2;go_ret;exact ⟨rfl,H2.out,HS2.out⟩
   ·have t1:(s.size:Int)+1<=most:=by omega
    rw [ZL hm];clear hm;go_enter Tryz.func155,Tryz.ntmps155;go_wp2;go_ret;exact ⟨rfl,H2.out,HS2.out⟩
theorem fail_zero (w:World) (g:Nat):Calls Mm 156 #[ptr g,ZE Z7 0] w λr w'=>r=.returned (Z8 #[])/\w'=w:=by go_enter Tryz.func156,Tryz.ntmps156;go_wp2;go_end0;exact ⟨rfl,rfl⟩
theorem fail_any (h:PR w B g q v f bd t o p b s) (e:Nat) (he:e≠0) (x:Int) (hx:x=(e:Int)):Calls Mm 156 #[ptr g,ZE Z7 x] w λr w'=>
 r=.returned (Z8 #[])/\Dead w' B g e o s.out/\Step (blks g q v f bd t o) [some g,o.ownBlock] w w':=by
 subst hx;obtain ⟨ps0, -, -,hrow0⟩:=h.own.O;obtain ⟨oo,oc,eo, -⟩:=FV hrow0;subst eo;clear hrow0;obtain ⟨W1,hW1⟩:∃W1,w.setRow g (deadcells e (.slice oo s.out.length oc)).toArray=W1:=⟨_,rfl⟩;have hk:Keeps [some g] w W1:=by rw [←hW1];exact setRow_keeps _ _ _
 have hrow:W1.heap[g]?=some (.cells (deadcells e (.slice oo s.out.length oc)).toArray 55 (0,0)):=by rw [←hW1];exact setRow_heap w g _ _ _ _ h.row
 have hne:(Value.slice oo s.out.length oc).ownBlock≠some g:=λe=>h.own.lone.ne (i:=0) (j:=6) rfl ZX XXd29;have hsub:∀k,some k∈ [some g,(Value.slice oo s.out.length oc).ownBlock]->some k∈blks g q v f bd t (.slice oo s.out.length oc):=λk hk=>by
  simp only [Fk,Fx,or_false] at hk ⊢;rcases hk with hk | hk
  ·exact .inl hk
  ·exact .inr (.inr (.inr (.inr (.inr (.inr hk)))))
 have HD:=Dl (show Dead W1 B g e (.slice oo s.out.length oc) s.out from ⟨hrow,Outs.less (h.own.O.keeps hk (λk hk=>by simp only [Fv] at hk;simp [hk]) (λk e hm=>hne (by rw [e,Fv.1 hm]))) (λk hk=>.inl (hsub k hk)),hne,h.own.ge,Gn h.own.lt hk.size,he,h.own.zone.of hk.size λk hk=>.inl (hsub k hk)⟩);have HS:=Dl (show Step (blks g q v f bd t (.slice oo s.out.length oc)) [some g,(Value.slice oo s.out.length oc).ownBlock] w W1 from ⟨hk.mono (λk hk=>by simp only [Fv] at hk;simp [hk]),λk hk=>.inl (hsub k hk)⟩);have c26:=h.cs.c26;have HR:=Dl h.row;have HW1:=Dl hW1;have t1:((e:Int)==0)=false:=ZM.2 ZZ;have t2:¬(e:Int)=0:=ZZ;have t3:((e:Int) != 0)=true:=bne_iff_ne.2 t2;clear hk hrow hne hsub h he hW1;go_enter Tryz.func156,Tryz.ntmps156;go_upto_region 1 with fail
 refine wp_region_lit ?_;refine wl_val ZV (ptr g) ZU ?_;simp only [Ab,F4,F7,F6];refine wl_val ZV (ZE Z7 (e:Int)) ZU ?_;simp only [Ab,F4,F7,F6];refine wl_val ZV (Z9 #[ZE Z7 (e:Int)]) ZU ?_;simp only [Ab,F4,F7,F6];refine wl_val ZV (ptr g) ZU ?_;simp only [Ab,F4,F7,F6];refine wl_val ZV (ptr g) ZU ?_;simp only [Ab,F4,F7,F6];refine wl_val ZV (ZA (some ⟨g,26,none⟩)) ZU ?_;simp only [Ab,F4,F7,F6];refine wl_val ZV (.slice oo s.out.length oc) ZU ?_;simp only [Ab,F4,F7,F6];refine wl_val ZV (Z9 (deadcells e (.slice oo s.out.length oc)).toArray) ZU ?_;simp only [Ab,F4,F7,F6];refine wl_val ZV (ptr g) ZU ?_;simp only [Ab,F4,F7,F6];refine wl_act ZV (wp_store_row 55 (.tmp 14) (.tmp 13) rfl g (deadcells e (.slice oo s.out.length oc)).toArray rfl rfl 55 _ HR.out parser_info rfl (Array.all_eq_true_iff_forall_mem.2 (by intro u hu;simp only [List.mem_toArray,Fk,Fx,or_false] at hu;rcases hu with rfl | rfl | rfl | rfl | rfl | rfl | rfl | rfl | rfl | rfl | rfl | rfl | rfl | rfl | rfl | rfl | rfl | rfl | rfl | rfl | rfl | rfl | rfl | rfl | rfl | rfl | rfl<;>rfl)) ?_);rw [HW1.out];refine wpList_nil ?_;go_wp2;go_end0;exact ⟨rfl,HD.out,HS.out⟩
theorem XXU8h {P:Prop} (h:P:=by
 have H2:=H.out.below hb;obtain ⟨ps,hps,hfar,hrow⟩:=H2.own.O;obtain ⟨bo,co,eo, -⟩:=FV hrow;subst eo;obtain ⟨v',w3,hrun,ho,hgr,hor⟩:=Ah w2 39 39 B 58 iR (.agg #[.string Bp,.string Bp,.int .i64 0,.slice none 0 0,.bool false,.slice none 0 0,.slice none 0 0]) 7 120 Tryz.underlying39 I1.out I2.out I3.out I4.out rfl ZX (.slice bo s.out.length co) s.out.length (ps.flatMap (·.1.toList)) hrow (some ⟨gl,0,none⟩) 1 1 [.string s.r.m,.string s.r.x,.int .i64 s.r.k,f,.bool s.r.ch,bd,t] rfl (λ_=>⟨gl,0,rfl,λj u hu=>by rw [Gy];exact hBl.c j u hu⟩) (by intro u hu;simp only [Fk,Fx,or_false] at hu;rcases hu with rfl | rfl | rfl | rfl | rfl | rfl | rfl<;>first | rfl | exact one_own H2.own.F | exact one_own H2.own.D | exact one_own H2.own.TR) (by have:=HN.out;unfold maxLen;omega) (by have:=HN.out;omega) (Gl H2.own.ge (Gh H2.own.lt));obtain ⟨b9,c9,e9, -⟩:=FV ho;subst e9;have HP:=H2.own.push hgr ps hps hfar ho hor;have hr3:w3.heap[g]?=some (.cells (pgcells p b s q f bd t (.slice bo s.out.length co)).toArray 55 (0,0)):=(hgr.block g H2.own.lt (λe=>H2.own.lone.ne (i:=0) (j:=6) rfl ZX XX1c2)).trans H2.row;refine Jr ZV (λK hK=>?_);refine Each.oper_append _ _ _ rfl ZV ZV hrun ?_;refine hK _ _ trivial ?_;clear hK K hrun;simp only [Ab,F4,F7,F6];refine Jx ZV (ptr g) (λ_ _=>by go_simp) ?_;simp only [Ab,F4,F7,F6];refine Jx ZV (.pointer (some ⟨g,26,none⟩)) (λ_ _=>by go_simp) ?_;simp only [Ab,F4,F7,F6];have c26:=(Cs.of hr3).c26;have z26:=FX hr3 26;refine Jr ZV (λK hK=>?_);go_simp;refine hK _ _ trivial ?_;clear hK K;refine Js ?_
 have HR4:=Dl (row_setL hr3 26 (.slice b9 (s.out.length+1) c9))
 have HO4:=Dl (HP.set 26 (.slice b9 (s.out.length+1) c9));have HS4:=Dl (((II hb (L:=blks g q v f bd t (.slice bo s.out.length co))).trans (Step.push hgr hor)).trans (IL g 26 (.slice b9 (s.out.length+1) c9) ZW));clear c26 z26 hr3 HP hgr ho hor hrow hfar hps H2 hBl;generalize w3.setCell ⟨g,26,none⟩ (.slice b9 (s.out.length+1) c9)=W4 at *;have cs:=Cs.of (s:={s with out:=s.out ++ [s.r]}) (o:=.slice b9 (s.out.length+1) c9) HR4.out;have c1:=cs.c1;have z1:=FX HR4.out 1;have c2:=cs.c2;have z2:=FX HR4.out 2;have c3:=cs.c3;have z3:=FX HR4.out 3;have c4:=cs.c4;have z4:=FX HR4.out 4;have c5:=cs.c5;have z5:=FX HR4.out 5;have c6:=cs.c6;have z6:=FX HR4.out 6;have c7:=cs.c7;have z7:=FX HR4.out 7;have c8:=cs.c8;have z8:=FX HR4.out 8;have c9:=cs.c9;have z9:=FX HR4.out 9;have c10:=cs.c10;have z10:=FX HR4.out 10;have c11:=cs.c11;have z11:=FX HR4.out 11;have c12:=cs.c12;have z12:=FX HR4.out 12;have c24:=cs.c24;have z24:=FX HR4.out 24;clear cs;go_wp2;go_end0
 exact ⟨rfl,_,⟨row_setL (row_setL (row_setL (row_setL (row_setL (row_setL (row_setL (row_setL (row_setL (row_setL (row_setL (row_setL (row_setL (HR4.out) 1 (ZE Z7 0)) 2 (nil)) 3 (ZD E0)) 4 (ZD E0)) 5 (ZE Z7 0)) 6 (ZE Z7 0)) 7 (ZB false)) 8 (ZE Z7 0)) 9 (nil)) 10 (ZB false)) 11 (nil)) 12 (ZE Z7 0)) 24 (ZE Z7 1),(((((((((((((HO4.out).set 1 (ZE Z7 0)).set 2 (nil)).set 3 (ZD E0)).set 4 (ZD E0)).set 5 (ZE Z7 0)).set 6 (ZE Z7 0)).set 7 (ZB false)).set 8 (ZE Z7 0)).set 9 (nil)).set 10 (ZB false)).set 11 (nil)).set 12 (ZE Z7 0)).set 24 (ZE Z7 1)⟩,(((((((((((((HS4.out).trans (IL g 1 (ZE Z7 0) ZW)).trans (IL g 2 (nil) ZW)).trans (IL g 3 (ZD E0) ZW)).trans (IL g 4 (ZD E0) ZW)).trans (IL g 5 (ZE Z7 0) ZW)).trans (IL g 6 (ZE Z7 0) ZW)).trans (IL g 7 (ZB false) ZW)).trans (IL g 8 (ZE Z7 0) ZW)).trans (IL g 9 (nil) ZW)).trans (IL g 10 (ZB false) ZW)).trans (IL g 11 (nil) ZW)).trans (IL g 12 (ZE Z7 0) ZW)).trans (IL g 24 (ZE Z7 1) ZW)⟩):P:=h
theorem XXATG {P:Prop} (h:P:=by refine BI rfl (λev w1 hR hb hh=>?_);have e0:=hR.old 0 rfl;simp only [Am,E6,Ep,Er,GW] at e0;have q26:=(HQ.out.below hb).c 26 _ rfl;exact Each.std):P:=h
theorem finish_any (h:PR w B g q v f bd t o p b s) (hn:s.out.length<=1000000000):Calls Mm 180 #[ptr g] w λr w'=>
 r=.returned (Z8 #[])/\∃o1,PR w' B g q v nil nil nil o1 p b s.fin/\Step (blks g q v f bd t o) (blks g q v nil nil nil o1) w w':=by
 obtain ⟨iR,hi,hz0,hz1,hz2⟩:=info_parts record_info;have I1:=Dl hi;have I2:=Dl hz0;have I3:=Dl hz1;have I4:=Dl hz2;clear hi hz0 hz1 hz2
 have H:=Dl h;have HN:=Dl hn;have HD:=Dl (h.drew 1);have HQ:=Dl ((h.drew 1).bk);clear h hn;go_enter Tryz.func180,Tryz.ntmps180;go_upto_region 0 with fail
 refine BP 8 [2,3,4,5,6,7,8,9] [eP g 0,eP g 0,eP g 0,eP g 26,eQ (o),eP g 0,eQ (Z9 #[ZD s.r.m,ZD s.r.x,ZE Z7 s.r.k,f,ZB s.r.ch,bd,t]),λv w=>∃g1,v=ZC (some ⟨g1,0,none⟩) 1 1/\Hv w g1 [ZD s.r.m,ZD s.r.x,ZE Z7 s.r.k,f,ZB s.r.ch,bd,t]] [] 4 (some 0) (.act 8 (.quiet 9 (.quiet 10 (.act 11 .done)))) (.quiet 0 (.act 8 (.quiet 9 (.quiet 10 (.act 11 .done))))) ZY ZY ZY ZY (λk0 h=>by cases h;kernel_rfl) (λ_ _ d _ _ h=>by cases d<;>exact h) ZV ZV ⟨BF _,BF _,BF _,BF _,BF _,BF _,BF _,((λ_ _ _ hb h=>by obtain ⟨g1,e1,hB⟩:=h;exact ⟨g1,e1,hB.below hb⟩)),trivial⟩ trivial ZV ?_ ?_ ?_
 ·refine ⟨?_,?_,?_,?_,?_,?_,?_,?_,trivial⟩
  iterate 6·exact XXATG
  ·refine BI rfl (λev w1 hR hb hh=>?_);have e7:ev (.tmp 7)= _:=hh.at 0;clear hh;have ef:=hR.func;refine BA 76 #[ptr g] ZU ((draft_any (HD.out.below hb)).mono ?_);exact XXUgj
  ·refine BI rfl (λev w1 hR hb hh=>?_);have e8:ev (.tmp 8)= _:=hh.at 0;exact XX4eD
 ·intro g1 w2 hb hf;have z2:g1 2= _:=hf.at 0;have z6:g1 6= _:=hf.at 4;have z9:=hf.at 7;clear hf;obtain ⟨gl,el,hBl⟩:=z9;simp only [BM,Ab,F4,F7,F6];rw [z2,z6,el];simp only [Ju,Jw,Er,Ep];exact XXU8h
 ·intro k0 hk0 g1 w2 hb hf;cases hk0;have z6:g1 6= _:=hf.at 4;have z9:=hf.at 7;clear hf;obtain ⟨gl,el,hBl⟩:=z9;simp only [BM,Ab,F4,F7,F6];rw [z6,el];simp only [Ju,Jw,Er,Ep];refine Jx ZV (ptr g) (λ_ _=>by go_simp) ?_;simp only [Ab,F4,F7,F6];exact XXU8h
theorem endData_any (hp:p<4294967296) (h:PR w B g q v f bd t o p b s) (hn:s.out.length<=1000000000):Calls Mm 154 #[ptr g] w λr w'=>
 r=.returned (Z8 #[])/\∃q1 v1 f1 bd1 t1 o1,PR w' B g q1 v1 f1 bd1 t1 o1 p b (s.endData p)/\Step (blks g q v f bd t o) (blks g q1 v1 f1 bd1 t1 o1) w w':=by
 have c10:=h.cs.c10;unfold T.endData;cases hc:s.r.ch with
 | true=>
   rw [hc] at c10;have HE:=Dl (enter_any hp h 6 6 rfl 0);rw [ZN rfl];clear h hc;go_enter Tryz.func154,Tryz.ntmps154;go_wp2_with (go_at_call 68;with_reducible refine HE.out.mono ?_;rintro r w2 ⟨rfl,q1,hP,hS⟩);first | go_end0 | refine ZF (results_none rfl _ _ _) rfl ?_
   exact ⟨rfl,_,_,_,_,_,_,hP,hS⟩
 | false=>
   rw [hc] at c10;have HE:=Dl (finish_any h hn);rw [ZO ZX];clear h hc;go_enter Tryz.func154,Tryz.ntmps154;go_wp2_with (go_at_call 180;with_reducible refine HE.out.mono ?_;rintro r w2 ⟨rfl,o1,hP,hS⟩);first | go_end0 | refine ZF (results_none rfl _ _ _) rfl ?_
   exact ⟨rfl,_,_,_,_,_,_,hP,hS⟩
end
end Pg
open _root_.Go.Proofs.Tryz renaming func226→JW,ntmps226→LG,underlying46→Nq
open _root_.List renaming dropLast_concat_getLast→DL,set_append_right→F5
open _root_.Go.Proofs.YtdfabddnpgjepaaGreatDoor.Fd renaming goes→BX,joined→BY
open Mem.Keeps renaming set→CU
open Mem.Of renaming refl→GQ
theorem XXWvg {P:Prop} (h:P:=by
 have e:(cells ini).length=ini.length*2:=cells_length ini;have e2:cells [a]= [ZD a.1,ZD a.2]:=by simp [cells]
 rw [cells_append,e2];refine ⟨?_,?_⟩
 ·rw [List.getElem?_append_right ZZ,e,Nat.sub_self];rfl
 ·rw [List.getElem?_append_right ZZ,e,show ini.length*2+1-ini.length*2=1 by omega];rfl):P:=h
theorem XXysj {P:Prop} (h:P:=by
 have e:(cells ini).length=ini.length*2:=cells_length ini;have e2:∀d:Fld,cells [d]= [ZD d.1,ZD d.2]:=λd=>by simp [cells]
 rw [cells_append,cells_append,e2,e2,F5 _ _ ZZ,e,Nat.sub_self,F5 _ _ ZZ,e,show ini.length*2+1-ini.length*2=1 by omega]
 rfl):P:=h
theorem XX1f9 {P:Prop} (h:P:=by intro u hu;rcases (by simpa using hu:u=ZD (ba n)∨u=ZD (ba vv)) with rfl | rfl<;>rfl):P:=h
theorem XX821 {P:Prop} (h:P:=by have:=HLEN.out;unfold maxLen;omega):P:=h
theorem XXvfE {P:Prop} (h:P:=by
 go_ret;have h4:=H1.out.below (HB3.out.alloc HB3.out.size (.cells #[ZD ⟨#[]⟩,ZD ⟨#[]⟩] 126));first
  |exact ⟨rfl,_,h4,HS1.out.trans (II (HB3.out.alloc HB3.out.size (.cells #[.string ⟨#[]⟩,.string ⟨#[]⟩] 126)))⟩
  |exact ⟨_,rfl,h4.row,h4.own,HS1.out.trans (II (HB3.out.alloc HB3.out.size (.cells #[.string ⟨#[]⟩,.string ⟨#[]⟩] 126)))⟩):P:=h
theorem XXaNX {P:Prop} (h:P:=by
 have ho:(Value.slice (some ⟨gf,0,none⟩) s.r.fs.length co).ownBlock=some gf:=by simp [Value.ownBlock]
 have hk3:Keeps [(Value.slice (some ⟨gf,0,none⟩) s.r.fs.length co).ownBlock] w3 ((w3.setCell ⟨gf,k*2,none⟩ (ZD last.1)).setCell ⟨gf,k*2+1,none⟩ (ZD (ba (BY last.2.data.toList x.data.toList)))):=
  (CU gf (k*2) _ (by rw [ho];simp)).trans (CU gf (k*2+1) _ (by rw [ho];simp)) GQ
 have hl3:(ini ++ [joinF last x.data.toList]).length=s.r.fs.length:=by rw [HEL.out];simp
 have hr3:=((h3.own.F.stored (k*2) (ZD last.1)).1.stored (k*2+1) (ZD (ba (BY last.2.data.toList x.data.toList)))).1
 obtain ⟨ho3,hs3⟩:=h3.own.setF (f':=ZC (some ⟨gf,0,none⟩) s.r.fs.length co) (fs':=ini ++ [joinF last x.data.toList]) hk3 (by
  rw [hl3,←cells_put ini last (joinF last x.data.toList),HK.out];have e:cells (ini ++ [last])=cells s.r.fs:=by rw [HEL.out]
  rw [e];exact hr3) (.inl rfl)
 have hrow:((w3.setCell ⟨gf,k*2,none⟩ (ZD last.1)).setCell ⟨gf,k*2+1,none⟩ (ZD (ba (BY last.2.data.toList x.data.toList)))).heap[g]?= _:=hk3.row h3.row (λhm=>by
  have e:some g=some gf:=by rw [←ho];simpa using hm
  exact h3.own.lone.ne (i:=0) (j:=3) rfl ZX (by rw [e,←ho];rfl))
 first
  |exact ⟨rfl,_,⟨hrow,ho3⟩,HS1.out.trans ((II HB4.out).trans hs3)⟩
  |exact ⟨_,rfl,hrow,ho3,HS1.out.trans ((II HB3.out).trans hs3)⟩):P:=h
theorem XX098 {P:Prop} (h:P:=by
 unfold fieldV;have e1:(BX p x.data.toList && !s.r.fs.isEmpty)=true:=by rw [hg,el];simp
 rw [ZO hm,ZN e1,el]
 simp):P:=h
theorem XX34b {P:Prop} (h:P:=by have:=HSZx.out;omega):P:=h
theorem XXef8 {P:Prop} (h:P:=by have:=(HSZ.out last (by rw [el];simp)).2;omega):P:=h
theorem XXKim {P:Prop} (h:P:=by
 obtain ⟨ho3,hs3⟩:=h3.own.setT (t':=ZC (some ⟨gf,0,none⟩) s.r.ts.length co) (ts':=ini ++ [joinF last x.data.toList]) hk3 (by
  rw [hl3,←cells_put ini last (joinF last x.data.toList),HK.out];have e:cells (ini ++ [last])=cells s.r.ts:=by rw [HEL.out]
  rw [e];exact hr3) (.inl rfl)
 have hrow:((w3.setCell ⟨gf,k*2,none⟩ (ZD last.1)).setCell ⟨gf,k*2+1,none⟩ (ZD (ba (BY last.2.data.toList x.data.toList)))).heap[g]?= _:=hk3.row h3.row (λhm=>by
  have e:some g=some gf:=by rw [←ho];simpa using hm
  exact h3.own.lone.ne (i:=0) (j:=5) rfl ZX (by rw [e,←ho];rfl))
 first
  |exact ⟨rfl,_,⟨hrow,ho3⟩,HS1.out.trans ((II HB4.out).trans hs3)⟩
  |exact ⟨_,rfl,hrow,ho3,HS1.out.trans ((II HB3.out).trans hs3)⟩):P:=h
theorem XXTMq {P:Prop} (h:P:=by
 unfold fieldV;have e1:(BX p x.data.toList && !s.r.ts.isEmpty)=true:=by rw [hg,el];simp
 rw [ZO hm,ZN e1,el]
 simp):P:=h
namespace Pg
open Base Txt Mem Par
theorem cells_last (ini:List Fld) (a:Fld):(cells (ini ++ [a]))[ini.length*2]?=some (ZD a.1)/\(cells (ini ++ [a]))[ini.length*2+1]?=some (ZD a.2):=by exact XXWvg
theorem cells_put (ini:List Fld) (a c:Fld):((cells (ini ++ [a])).set (ini.length*2) (ZD c.1)).set (ini.length*2+1) (ZD c.2)=cells (ini ++ [c]):=by exact XXysj
section
attribute [local go_sem] A8
variable {w:World} {B:Zone} {g q:Nat} {v f bd t o:Value} {p:Nat} {b:Bd} {s:T}
theorem XXDC0 {P:Prop} (h:P:=by
 have HB4:=Dl (HB3.out.alloc HB3.out.size (.cells #[ZD (ba n),ZD (ba vv)] 126));have HL4:=Dl (Hw w3 w3.heap.size rfl 126 [ZD (ba n),ZD (ba vv)]);generalize w3.alloc (.cells #[ZD (ba n),ZD (ba vv)] 126)=W4 at *;generalize w3.heap.size=gL at *
 have H4:=Dl (H1.out.below HB4.out);have HS4:=Dl (HS1.out.trans (II HB4.out));have HQ:=Dl ((H4.out.drew 1).bk);have HQL:=Dl (HL4.out.drew 1);clear b1 b2 b3 c2 H1 HS1 HB3 HB4 HL4;refine BP 7 [62,63,64,65,66,67,68] [eP g 1,eP g 1,eP g 1,eP g 2,eQ (.slice bo s.r.fs.length co),eQ (Z9 #[ZD (ba n),ZD (ba vv)]),λv w=>∃g1,v=ZC (some ⟨g1,0,none⟩) 1 1/\Hv w g1 [ZD (ba n),ZD (ba vv)]] [] 4 (some 0) (.act 7 (.quiet 8 (.quiet 9 (.act 10 .done)))) (.quiet 0 (.act 7 (.quiet 8 (.quiet 9 (.act 10 .done))))) ZY ZY ZY ZY (λk0 h=>by cases h;kernel_rfl) (λ_ _ d _ _ h=>by cases d<;>exact h) ZV ZV ⟨BF _,BF _,BF _,BF _,BF _,BF _,((λ_ _ _ hb h=>by obtain ⟨g1,e1,hB⟩:=h;exact ⟨g1,e1,hB.below hb⟩)),trivial⟩ trivial ZV ?_ ?_ ?_
 ·refine ⟨?_,?_,?_,?_,?_,?_,?_,trivial⟩
  ·refine BI rfl (λev w1 hR hb hh=>?_);have e0:=hR.old 0 rfl;have e10:=hR.old 10 rfl;simp only [Am,E6,Ep,Er,GW] at e0 e10;have q2:=(HQ.out.below hb).c 2 _ rfl;have q0:=(HQL.out.below hb).c 0 _ rfl;have q1:=(HQL.out.below hb).c 1 _ rfl;exact Each.std
  ·refine BI rfl (λev w1 hR hb hh=>?_);have e0:=hR.old 0 rfl;have e10:=hR.old 10 rfl;simp only [Am,E6,Ep,Er,GW] at e0 e10;have q2:=(HQ.out.below hb).c 2 _ rfl;have q0:=(HQL.out.below hb).c 0 _ rfl;have q1:=(HQL.out.below hb).c 1 _ rfl;exact Each.std
  ·refine BI rfl (λev w1 hR hb hh=>?_);have e0:=hR.old 0 rfl;have e10:=hR.old 10 rfl;simp only [Am,E6,Ep,Er,GW] at e0 e10;have q2:=(HQ.out.below hb).c 2 _ rfl;have q0:=(HQL.out.below hb).c 0 _ rfl;have q1:=(HQL.out.below hb).c 1 _ rfl;exact Each.std
  ·refine BI rfl (λev w1 hR hb hh=>?_);have e0:=hR.old 0 rfl;have e10:=hR.old 10 rfl;simp only [Am,E6,Ep,Er,GW] at e0 e10;have q2:=(HQ.out.below hb).c 2 _ rfl;have q0:=(HQL.out.below hb).c 0 _ rfl;have q1:=(HQL.out.below hb).c 1 _ rfl;exact Each.std
  ·refine BI rfl (λev w1 hR hb hh=>?_);have e0:=hR.old 0 rfl;have e10:=hR.old 10 rfl;simp only [Am,E6,Ep,Er,GW] at e0 e10;have q2:=(HQ.out.below hb).c 2 _ rfl;have q0:=(HQL.out.below hb).c 0 _ rfl;have q1:=(HQL.out.below hb).c 1 _ rfl;exact Each.std
  ·refine BI rfl (λev w1 hR hb hh=>?_);have e0:=hR.old 0 rfl;have e10:=hR.old 10 rfl;simp only [Am,E6,Ep,Er,GW] at e0 e10;have q2:=(HQ.out.below hb).c 2 _ rfl;have q0:=(HQL.out.below hb).c 0 _ rfl;have q1:=(HQL.out.below hb).c 1 _ rfl;exact Each.std
  ·refine BI rfl (λev w1 hR hb hh=>?_);have e67:ev (.tmp 67)= _:=hh.at 0;clear hh;exact BD (ZC (some ⟨w1.heap.size,0,none⟩) 1 1) (w1.alloc (.cells #[ZD (ba n),ZD (ba vv)] 126)) ZU ((AE _ _).alloc (Gi _) _) ⟨_,rfl,Hw w1 _ rfl 126 [ZD (ba n),ZD (ba vv)]⟩
 ·intro g1 w5 hb hf;have z62:g1 62= _:=hf.at 0;have z66:g1 66= _:=hf.at 4;have z68:=hf.at 6;clear hf;obtain ⟨gl,el,hBl⟩:=z68;simp only [BM,Ab,F4,F7,F6];rw [z62,z66,el];simp only [Ju,Jw,Er,Ep]
  have H5:=H4.out.below (A6 (AE W4.heap.size W4) hb);obtain ⟨v',w6,hrun,hO5,hgr5,hor5⟩:=Ah w5 46 46 B 126 iF (.agg #[.string Bp,.string Bp]) 2 32 Nq I1.out I2.out I3.out I4.out rfl ZX (.slice bo s.r.fs.length co) s.r.fs.length (cells s.r.fs) H5.own.F (some ⟨gl,0,none⟩) 1 1 [.string (ba n),.string (ba vv)] rfl (λ_=>⟨gl,0,rfl,λj u hu=>by rw [Gy];exact hBl.c j u hu⟩) XX1f9 XX821 (by have:=HLEN.out;omega) (Gl H5.own.ge (Gh H5.own.lt));obtain ⟨bz,cz,ez, -⟩:=FV hO5;subst ez;have hl5:(s.r.fs ++ [(ba n,ba vv)]).length=s.r.fs.length+1:=ZW;have hk5:Keeps [(.slice bo s.r.fs.length co:Value).ownBlock] w5 w6:=CP hgr5 λk e=>by rw [e];exact Fv.2 rfl
  obtain ⟨ho5,hs5⟩:=H5.own.setF (f':=.slice bz (s.r.fs.length+1) cz) (fs':=s.r.fs ++ [(ba n,ba vv)]) hk5 (by rw [hl5,cells_append];exact hO5) (by
   rcases hor5 with e | e
   ·exact .inl e
   ·exact .inr ⟨_,e,Gi _⟩)
  have hrow:w6.heap[g]?= _:=hk5.row H5.row (λhm=>by
   have e:some g=(.slice bo s.r.fs.length co:Value).ownBlock:=by simpa using hm
   exact H5.own.lone.ne (i:=0) (j:=3) rfl ZX XX1c2)
  refine Jr ZV (λK hK=>?_);refine Each.oper_append _ _ _ rfl ZV ZV hrun ?_;refine hK _ _ trivial ?_;clear hK K hrun;simp only [Ab,F4,F7,F6];refine Jx ZV (ZA (some ⟨g,1,none⟩)) (λ_ _=>by go_simp) ?_;simp only [Ab,F4,F7,F6];refine Jx ZV (ZA (some ⟨g,2,none⟩)) (λ_ _=>by go_simp) ?_;simp only [Ab,F4,F7,F6];have c2:=row_cellL hrow (k:=2) rfl;have z2:=FX hrow 2;refine Jr ZV (λK hK=>?_);go_simp;refine hK _ _ trivial ?_;clear hK K;refine Js ?_
  have HR6:=Dl (row_setL hrow 2 (.slice bz (s.r.fs.length+1) cz));have HO6:=Dl (ho5.set 2 (.slice bz (s.r.fs.length+1) cz));have HS6:=Dl ((HS4.out.trans ((II (A6 (AE W4.heap.size W4) hb)).trans hs5)).trans (IL g 2 (.slice bz (s.r.fs.length+1) cz) ZW));clear c2 z2 hrow ho5 hs5 hk5 hl5 hO5 hgr5 hor5 H5 hBl;go_wp2;go_ret;exact ⟨rfl,_,⟨HR6.out,HO6.out⟩,HS6.out⟩
 ·intro k0 hk0 g1 w5 hb hf;cases hk0;have z66:g1 66= _:=hf.at 4;have z68:=hf.at 6;clear hf;obtain ⟨gl,el,hBl⟩:=z68;simp only [BM,Ab,F4,F7,F6];rw [z66,el];simp only [Ju,Jw,Er,Ep];refine Jx ZV (ZA (some ⟨g,1,none⟩)) (λ_ _=>by go_simp) ?_;simp only [Ab,F4,F7,F6]
  have H5:=H4.out.below (A6 (AE W4.heap.size W4) hb);obtain ⟨v',w6,hrun,hO5,hgr5,hor5⟩:=Ah w5 46 46 B 126 iF (.agg #[.string Bp,.string Bp]) 2 32 Nq I1.out I2.out I3.out I4.out rfl ZX (.slice bo s.r.fs.length co) s.r.fs.length (cells s.r.fs) H5.own.F (some ⟨gl,0,none⟩) 1 1 [.string (ba n),.string (ba vv)] rfl (λ_=>⟨gl,0,rfl,λj u hu=>by rw [Gy];exact hBl.c j u hu⟩) XX1f9 XX821 (by have:=HLEN.out;omega) (Gl H5.own.ge (Gh H5.own.lt));obtain ⟨bz,cz,ez, -⟩:=FV hO5;subst ez;have hl5:(s.r.fs ++ [(ba n,ba vv)]).length=s.r.fs.length+1:=ZW;have hk5:Keeps [(.slice bo s.r.fs.length co:Value).ownBlock] w5 w6:=CP hgr5 λk e=>by rw [e];exact Fv.2 rfl
  obtain ⟨ho5,hs5⟩:=H5.own.setF (f':=.slice bz (s.r.fs.length+1) cz) (fs':=s.r.fs ++ [(ba n,ba vv)]) hk5 (by rw [hl5,cells_append];exact hO5) (by
   rcases hor5 with e | e
   ·exact .inl e
   ·exact .inr ⟨_,e,Gi _⟩)
  have hrow:w6.heap[g]?= _:=hk5.row H5.row (λhm=>by
   have e:some g=(.slice bo s.r.fs.length co:Value).ownBlock:=by simpa using hm
   exact H5.own.lone.ne (i:=0) (j:=3) rfl ZX XX1c2)
  refine Jr ZV (λK hK=>?_);refine Each.oper_append _ _ _ rfl ZV ZV hrun ?_;refine hK _ _ trivial ?_;clear hK K hrun;simp only [Ab,F4,F7,F6];refine Jx ZV (ZA (some ⟨g,1,none⟩)) (λ_ _=>by go_simp) ?_;simp only [Ab,F4,F7,F6];refine Jx ZV (ZA (some ⟨g,2,none⟩)) (λ_ _=>by go_simp) ?_;simp only [Ab,F4,F7,F6];have c2:=row_cellL hrow (k:=2) rfl;have z2:=FX hrow 2;refine Jr ZV (λK hK=>?_);go_simp;refine hK _ _ trivial ?_;clear hK K;refine Js ?_
  have HR6:=Dl (row_setL hrow 2 (.slice bz (s.r.fs.length+1) cz));have HO6:=Dl (ho5.set 2 (.slice bz (s.r.fs.length+1) cz));have HS6:=Dl ((HS4.out.trans ((II (A6 (AE W4.heap.size W4) hb)).trans hs5)).trans (IL g 2 (.slice bz (s.r.fs.length+1) cz) ZW));clear c2 z2 hrow ho5 hs5 hk5 hl5 hO5 hgr5 hor5 H5 hBl;go_wp2;go_ret
  exact ⟨rfl,_,⟨HR6.out,HO6.out⟩,HS6.out⟩):P:=h
theorem XXNoy {P:Prop} (h:P:=by refine BI rfl (λev w1 hR hb hh=>?_);have e0:=hR.old 0 rfl;have e9:=hR.old 9 rfl;have e1:=hR.old 1 rfl;simp only [Am,E6,Ep,Er,GW] at e0 e9 e1;have q2:=(HQ.out.below hb).c 2 _ rfl;have y0:=((A6 HD.out hb).cell (p:=⟨gf,k*2,none⟩) HGF.out).trans HQ0.out;have y1:=((A6 HD.out hb).cell (p:=⟨gf,k*2+1,none⟩) HGF.out).trans HQ1.out;exact Each.std):P:=h
theorem addF_any (hp:p<4294967296) (x:ByteArray) (hx:x.size<=5000) (most:Int) (h:PR w B g q v f bd t o p b s) (hl:s.hl<=1000) (hsz:∀y∈s.r.fs,y.1.size<=1000000/\y.2.size<=1000000) (hlen:s.r.fs.length<=500) :
 Calls Mm 226 #[ZA (some ⟨g,1,none⟩),ZD x,ZE Z5 (p:Int),ZE Z7 most] w λr w'=>r=.returned (ZE Z7 (listE (fieldV p s.hl s.r.fs x.data.toList most):Int))/\∃f1,PR w' B g q v f1 bd t o p b {s with hl:=s.hl+1,r:={s.r with fs:=listL s.r.fs (fieldV p s.hl s.r.fs x.data.toList most)}}/\Step (blks g q v f bd t o) (blks g q v f1 bd t o) w w':=by
 obtain ⟨a1,a2⟩:=Ih ((s.hl:Int)+1) ⟨ZZ,ZZ⟩
 have H1:=Dl (h.put 1 (ZE Z7 ((s.hl:Int)+1)) {s with hl:=s.hl+1} rfl rfl rfl rfl rfl rfl);have HS1:=Dl (IL (w:=w) (L:=blks g q v f bd t o) g 1 (ZE Z7 ((s.hl:Int)+1)) ZW);have c1:=h.cs.c1;have z1:=h.marks 1;have HSZ:=Dl hsz;have HLEN:=Dl hlen;clear hsz hlen
 by_cases hm:most<((s.hl+1:Nat):Int)
 ·have e:fieldV p s.hl s.r.fs x.data.toList most=.inl 431:=by unfold fieldV;rw [ZN hm]
  rw [e];have t0:most<(s.hl:Int)+1:=ZZ;clear e hm h hl hx;go_enter JW,LG;go_wp2;go_ret;exact ⟨rfl,_,H1.out,HS1.out⟩
 ·have t0:¬most<(s.hl:Int)+1:=by omega
  obtain ⟨bo,co,eo, -⟩:=FV h.own.F;have hgo:=λw=>Fd.goes_any x p hp w;have HSZx:=Dl hx;have hnn:(s.r.fs.length:Int)<=500:=by have:=HLEN.out;omega
  subst eo;obtain ⟨S1,hS1⟩:∃S1:T,{s with hl:=s.hl+1}=S1:=⟨_,rfl⟩;have HS:=Dl hS1;clear h hl hx;by_cases hj:(BX p x.data.toList && !s.r.fs.isEmpty)=true
  ·simp only [AM,AX,List.isEmpty_eq_false_iff] at hj;obtain ⟨hg,hne⟩:=hj;rw [hg] at hgo;have HGo:=Dl hgo;obtain ⟨ini,last,el⟩:∃ini last,s.r.fs=ini ++ [last]:=⟨_,_,(DL hne).symm⟩;have hn1:s.r.fs.length=ini.length+1:=by rw [el];simp
   have e:fieldV p s.hl s.r.fs x.data.toList most=.inr (ini ++ [joinF last x.data.toList]):=by exact XX098
   rw [e];obtain ⟨gf,cf,hform,hgl,hgf⟩:=H1.out.own.F.form (by show 0<s.r.fs.length;omega);simp only [Value.slice.injEq,true_and] at hform;obtain ⟨rfl,rfl⟩:=hform
   have hq0:=(H1.out.own.F.cellAt (ini.length*2) (by show ini.length*2<s.r.fs.length*2;omega)).trans (show (cells s.r.fs)[ini.length*2]?=some (ZD last.1) by rw [el];exact (cells_last ini last).1)
   have hq1:=(H1.out.own.F.cellAt (ini.length*2+1) (by show ini.length*2+1<s.r.fs.length*2;omega)).trans (show (cells s.r.fs)[ini.length*2+1]?=some (ZD last.2) by rw [el];exact (cells_last ini last).2)
   have hz0:=H1.out.own.F.frozenAt (ini.length*2);have hz1:=H1.out.own.F.frozenAt (ini.length*2+1)
   have HJ:=Dl (show∀w,Calls Mm 246 #[Z9 #[ZD last.1,ZD last.2],ZD x] w λe w'=>e=.returned (Z9 #[ZD last.1,ZD (ba (BY last.2.data.toList x.data.toList))])/\Below w.heap.size w w' from
    λw=>Fd.join_any last.1 last.2 x w XX34b XXef8)
   obtain ⟨k,hk⟩:∃k,ini.length=k:=⟨_,rfl⟩;have HK:=Dl hk;rw [hk] at hn1 hq0 hq1 hz0 hz1;have t1:(0:Int)<=(k:Int):=ZZ;have i1:(k:Int)<(s.r.fs.length:Int):=ZZ;have i2:k<s.r.fs.length:=ZZ;obtain ⟨b1,b2⟩:=Ih ((s.r.fs.length:Int)-1) ⟨ZZ,ZZ⟩;have b3:(s.r.fs.length:Int)-1=(k:Int):=ZZ;rw [b3] at b1 b2;have HEL:=Dl el;have HN1:=Dl hn1;have HGL:=Dl hgl;have HQ0:=Dl hq0;have HQ1:=Dl hq1;have HGF:=Dl hgf;have HZ0:=Dl hz0;have HZ1:=Dl hz1;have HB3:=Dl b3;have HI2:=Dl i2;clear hne e hk hnn el hn1 hg hgo hm hgl hq0 hq1 hgf hz0 hz1;go_enter JW,LG;go_upto_region 4 with fail
   generalize w.setCell ⟨g,1,none⟩ (ZE Z7 ((s.hl:Int)+1))=W1 at *;clear c1 z1 a1 a2 t0;have c2:=H1.out.cs.c2
   go_upto_region 6 with (go_at_call 245;with_reducible refine Cm (HGo.out _) ?_)
   have HQ:=Dl ((H1.out.drew 1).bk);have HD:=Dl (Az (AE W1.heap.size W1) 1);clear b1 b2 b3 c2;refine BN 15 [39,40,41,42,43,44,45,46,47,48,49,50,51,52,53] [eP g 1,eP g 1,eP g 2,eQ (ZC (some ⟨gf,0,none⟩) s.r.fs.length co),eQ (ZE Z7 (k:Int)),eP g 1,eP g 1,eP g 2,eQ (ZC (some ⟨gf,0,none⟩) s.r.fs.length co),eQ (ZE Z7 (k:Int)),eP gf (k*2),eQ (Z9 #[ZD last.1,ZD last.2]),eQ (ZD x),eQ (Z9 #[ZD last.1,ZD (ba (BY last.2.data.toList x.data.toList))]),eP gf (k*2)] (.act 15 .done) ZY ZY ZY ZY (λ_ _ d _ _ h=>by cases d<;>exact h) ZV ZV XXa25 ?_ ?_
   ·refine ⟨?_,?_,?_,?_,?_,?_,?_,?_,?_,?_,?_,?_,?_,?_,?_,trivial⟩
    iterate 10·exact XXNoy
    ·refine BI rfl (λev w1 hR hb hh=>?_);have e47:ev (.tmp 47)= _:=hh.at 0;have e48:ev (.tmp 48)= _:=hh.at 1;clear hh;have d1:=HI2.out;have d2:(k:Int)<(s.r.fs.length:Int):=by omega
     exact XXqTe
    iterate 2·exact XXNoy
    ·refine BI rfl (λev w1 hR hb hh=>?_);have e50:ev (.tmp 50)= _:=hh.at 0;have e51:ev (.tmp 51)= _:=hh.at 1;clear hh;have ef:=hR.func;refine BA 246 #[Z9 #[ZD last.1,ZD last.2],ZD x] ZU ((HJ.out w1).mono ?_);exact XXUgj
    ·refine BI rfl (λev w1 hR hb hh=>?_);have e42:ev (.tmp 42)= _:=hh.at 0;have e43:ev (.tmp 43)= _:=hh.at 1;clear hh;have d1:=HI2.out;have d2:(k:Int)<(s.r.fs.length:Int):=by omega
     exact XXqTe
   intro g1 w3 hb hf;have z52:g1 52= _:=hf.at 13;have z53:g1 53= _:=hf.at 14;clear hf;simp only [BM,Ab,F4,F7,F6];rw [z52,z53];simp only [Ju,Jw,Er,Ep];have HB4:=Dl hb;have y0:=(HB4.out.cell (p:=⟨gf,k*2,none⟩) HGF.out).trans HQ0.out;have y1:=(HB4.out.cell (p:=⟨gf,k*2+1,none⟩) HGF.out).trans HQ1.out;have x0:=(HB4.out.frozen (p:=⟨gf,k*2,none⟩) HGF.out).trans HZ0.out;have x1:=(HB4.out.frozen (p:=⟨gf,k*2+1,none⟩) HGF.out).trans HZ1.out;refine Jr ZV (λK hK=>?_);go_simp;refine hK _ _ trivial ?_;clear hK K y0 y1 x0 x1;refine Js ?_;go_wp2;go_ret;have h3:=H1.out.below HB4.out;exact XXaNX
  ·have hgt:s.r.fs.length=0∨BX p x.data.toList=false/\∃k,s.r.fs.length=k+1:=by
    rcases Gg s.r.fs.length with h0 | h0
    ·exact .inl h0
    ·refine .inr ⟨?_,s.r.fs.length-1,ZZ⟩;cases hg:BX p x.data.toList with
     | false=>rfl
     | true=>
       rw [hg] at hj;have:s.r.fs= []:=by simpa using hj
       rw [this] at h0;cases h0
   have hp:=λw=>Fd.parse_any x p hp w XX34b;obtain ⟨iF,hi,hz0,hz1,hz2⟩:=info_parts field_info;have I1:=Dl hi;have I2:=Dl hz0;have I3:=Dl hz1;have I4:=Dl hz2;clear hi hz0 hz1 hz2;rcases hpar:Fd.parse (Fd.clOf p) x.data.toList with _ | _ | ⟨n,vv⟩
   ·have e:fieldV p s.hl s.r.fs x.data.toList most=.inl 400:=by unfold fieldV;rw [ZO hm,ZO hj,hpar]
    rw [e];rw [hpar] at hp;simp only [Fd.rv,Fd.fv] at hp;have HP:=Dl hp;clear e hpar hp hm hj;rcases hgt with h0 | hgk
    ·have b3:(s.r.fs.length:Int)-1= -1:=by omega
     obtain ⟨b1,b2⟩:=Ih ((s.r.fs.length:Int)-1) ⟨ZZ,ZZ⟩;rw [b3] at b1 b2;clear hgo hnn h0;go_enter JW,LG;go_upto_region 4 with fail
     generalize w.setCell ⟨g,1,none⟩ (ZE Z7 ((s.hl:Int)+1))=W1 at *;clear c1 z1 a1 a2 t0;have c2:=H1.out.cs.c2;go_wp2_with
      (go_at_call 247;with_reducible refine (HP.out _).mono ?_;rintro r w3 ⟨rfl,hb3⟩
       have HB3:=Dl hb3;clear hb3)
     exact XXvfE
    ·obtain ⟨hg,k,hk⟩:=hgk;rw [hg] at hgo;have HGo:=Dl hgo;have t1:(0:Int)<=(k:Int):=by omega
     have b3:(s.r.fs.length:Int)-1=(k:Int):=ZZ;obtain ⟨b1,b2⟩:=Ih ((s.r.fs.length:Int)-1) ⟨ZZ,ZZ⟩;rw [b3] at b1 b2;clear hgo hg hk hnn;go_enter JW,LG;go_upto_region 4 with fail
     generalize w.setCell ⟨g,1,none⟩ (ZE Z7 ((s.hl:Int)+1))=W1 at *;clear c1 z1 a1 a2 t0;have c2:=H1.out.cs.c2
     go_wp2_with (first
      |(go_at_call 247;with_reducible refine (HP.out _).mono ?_;rintro r w3 ⟨rfl,hb3⟩
        have HB3:=Dl hb3;clear hb3)
      |(go_at_call 245;with_reducible refine Cm (HGo.out _) ?_))
     exact XXvfE
   ·have e:fieldV p s.hl s.r.fs x.data.toList most=.inr s.r.fs:=by unfold fieldV;rw [ZO hm,ZO hj,hpar]
    rw [e];rw [hpar] at hp;simp only [Fd.rv,Fd.fv] at hp;have HP:=Dl hp;clear e hpar hp hm hj;rcases hgt with h0 | hgk
    ·have b3:(s.r.fs.length:Int)-1= -1:=by omega
     obtain ⟨b1,b2⟩:=Ih ((s.r.fs.length:Int)-1) ⟨ZZ,ZZ⟩;rw [b3] at b1 b2;clear hgo hnn h0;go_enter JW,LG;go_upto_region 4 with fail
     generalize w.setCell ⟨g,1,none⟩ (ZE Z7 ((s.hl:Int)+1))=W1 at *;clear c1 z1 a1 a2 t0;have c2:=H1.out.cs.c2;go_wp2_with
      (go_at_call 247;with_reducible refine (HP.out _).mono ?_;rintro r w3 ⟨rfl,hb3⟩
       have HB3:=Dl hb3;clear hb3)
     exact XXvfE
    ·obtain ⟨hg,k,hk⟩:=hgk;rw [hg] at hgo;have HGo:=Dl hgo;have t1:(0:Int)<=(k:Int):=by omega
     have b3:(s.r.fs.length:Int)-1=(k:Int):=ZZ;obtain ⟨b1,b2⟩:=Ih ((s.r.fs.length:Int)-1) ⟨ZZ,ZZ⟩;rw [b3] at b1 b2;clear hgo hg hk hnn;go_enter JW,LG;go_upto_region 4 with fail
     generalize w.setCell ⟨g,1,none⟩ (ZE Z7 ((s.hl:Int)+1))=W1 at *;clear c1 z1 a1 a2 t0;have c2:=H1.out.cs.c2
     go_wp2_with (first
      |(go_at_call 247;with_reducible refine (HP.out _).mono ?_;rintro r w3 ⟨rfl,hb3⟩
        have HB3:=Dl hb3;clear hb3)
      |(go_at_call 245;with_reducible refine Cm (HGo.out _) ?_))
     exact XXvfE
   ·have e:fieldV p s.hl s.r.fs x.data.toList most=.inr (s.r.fs ++ [(ba n,ba vv)]):=by unfold fieldV;rw [ZO hm,ZO hj,hpar]
    rw [e];rw [hpar] at hp;simp only [Fd.rv,Fd.fv] at hp;have HP:=Dl hp;clear e hpar hp hm hj;rcases hgt with h0 | hgk
    ·have b3:(s.r.fs.length:Int)-1= -1:=by omega
     obtain ⟨b1,b2⟩:=Ih ((s.r.fs.length:Int)-1) ⟨ZZ,ZZ⟩;rw [b3] at b1 b2;clear hgo hnn h0;go_enter JW,LG;go_upto_region 4 with fail
     generalize w.setCell ⟨g,1,none⟩ (ZE Z7 ((s.hl:Int)+1))=W1 at *;clear c1 z1 a1 a2 t0;have c2:=H1.out.cs.c2;go_upto_region 10 with
      (go_at_call 247;with_reducible refine (HP.out _).mono ?_;rintro r w3 ⟨rfl,hb3⟩
       have HB3:=Dl hb3;clear hb3)
     exact XXDC0
    ·obtain ⟨hg,k,hk⟩:=hgk;rw [hg] at hgo;have HGo:=Dl hgo;have t1:(0:Int)<=(k:Int):=by omega
     have b3:(s.r.fs.length:Int)-1=(k:Int):=ZZ;obtain ⟨b1,b2⟩:=Ih ((s.r.fs.length:Int)-1) ⟨ZZ,ZZ⟩;rw [b3] at b1 b2;clear hgo hg hk hnn;go_enter JW,LG;go_upto_region 4 with fail
     generalize w.setCell ⟨g,1,none⟩ (ZE Z7 ((s.hl:Int)+1))=W1 at *;clear c1 z1 a1 a2 t0;have c2:=H1.out.cs.c2
     go_upto_region 10 with (first
      |(go_at_call 247;with_reducible refine (HP.out _).mono ?_;rintro r w3 ⟨rfl,hb3⟩
        have HB3:=Dl hb3;clear hb3)
      |(go_at_call 245;with_reducible refine Cm (HGo.out _) ?_))
     exact XXDC0
theorem XXLci {P:Prop} (h:P:=by
 have HB4:=Dl (HB3.out.alloc HB3.out.size (.cells #[ZD (ba n),ZD (ba vv)] 126));have HL4:=Dl (Hw w3 w3.heap.size rfl 126 [ZD (ba n),ZD (ba vv)]);generalize w3.alloc (.cells #[ZD (ba n),ZD (ba vv)] 126)=W4 at *;generalize w3.heap.size=gL at *
 have H4:=Dl (H1.out.below HB4.out);have HS4:=Dl (HS1.out.trans (II HB4.out));have HQ:=Dl ((H4.out.drew 1).bk);have HQL:=Dl (HL4.out.drew 1);clear b1 b2 b3 c9 H1 HS1 HB3 HB4 HL4;refine BP 7 [62,63,64,65,66,67,68] [eP g 8,eP g 8,eP g 8,eP g 9,eQ (.slice bo s.r.ts.length co),eQ (Z9 #[ZD (ba n),ZD (ba vv)]),λv w=>∃g1,v=ZC (some ⟨g1,0,none⟩) 1 1/\Hv w g1 [ZD (ba n),ZD (ba vv)]] [] 4 (some 0) (.act 7 (.quiet 8 (.quiet 9 (.act 10 .done)))) (.quiet 0 (.act 7 (.quiet 8 (.quiet 9 (.act 10 .done))))) ZY ZY ZY ZY (λk0 h=>by cases h;kernel_rfl) (λ_ _ d _ _ h=>by cases d<;>exact h) ZV ZV ⟨BF _,BF _,BF _,BF _,BF _,BF _,((λ_ _ _ hb h=>by obtain ⟨g1,e1,hB⟩:=h;exact ⟨g1,e1,hB.below hb⟩)),trivial⟩ trivial ZV ?_ ?_ ?_
 ·refine ⟨?_,?_,?_,?_,?_,?_,?_,trivial⟩
  ·refine BI rfl (λev w1 hR hb hh=>?_);have e0:=hR.old 0 rfl;have e10:=hR.old 10 rfl;simp only [Am,E6,Ep,Er,GW] at e0 e10;have q9:=(HQ.out.below hb).c 9 _ rfl;have q0:=(HQL.out.below hb).c 0 _ rfl;have q1:=(HQL.out.below hb).c 1 _ rfl;exact Each.std
  ·refine BI rfl (λev w1 hR hb hh=>?_);have e0:=hR.old 0 rfl;have e10:=hR.old 10 rfl;simp only [Am,E6,Ep,Er,GW] at e0 e10;have q9:=(HQ.out.below hb).c 9 _ rfl;have q0:=(HQL.out.below hb).c 0 _ rfl;have q1:=(HQL.out.below hb).c 1 _ rfl;exact Each.std
  ·refine BI rfl (λev w1 hR hb hh=>?_);have e0:=hR.old 0 rfl;have e10:=hR.old 10 rfl;simp only [Am,E6,Ep,Er,GW] at e0 e10;have q9:=(HQ.out.below hb).c 9 _ rfl;have q0:=(HQL.out.below hb).c 0 _ rfl;have q1:=(HQL.out.below hb).c 1 _ rfl;exact Each.std
  ·refine BI rfl (λev w1 hR hb hh=>?_);have e0:=hR.old 0 rfl;have e10:=hR.old 10 rfl;simp only [Am,E6,Ep,Er,GW] at e0 e10;have q9:=(HQ.out.below hb).c 9 _ rfl;have q0:=(HQL.out.below hb).c 0 _ rfl;have q1:=(HQL.out.below hb).c 1 _ rfl;exact Each.std
  ·refine BI rfl (λev w1 hR hb hh=>?_);have e0:=hR.old 0 rfl;have e10:=hR.old 10 rfl;simp only [Am,E6,Ep,Er,GW] at e0 e10;have q9:=(HQ.out.below hb).c 9 _ rfl;have q0:=(HQL.out.below hb).c 0 _ rfl;have q1:=(HQL.out.below hb).c 1 _ rfl;exact Each.std
  ·refine BI rfl (λev w1 hR hb hh=>?_);have e0:=hR.old 0 rfl;have e10:=hR.old 10 rfl;simp only [Am,E6,Ep,Er,GW] at e0 e10;have q9:=(HQ.out.below hb).c 9 _ rfl;have q0:=(HQL.out.below hb).c 0 _ rfl;have q1:=(HQL.out.below hb).c 1 _ rfl;exact Each.std
  ·refine BI rfl (λev w1 hR hb hh=>?_);have e67:ev (.tmp 67)= _:=hh.at 0;clear hh;exact BD (ZC (some ⟨w1.heap.size,0,none⟩) 1 1) (w1.alloc (.cells #[ZD (ba n),ZD (ba vv)] 126)) ZU ((AE _ _).alloc (Gi _) _) ⟨_,rfl,Hw w1 _ rfl 126 [ZD (ba n),ZD (ba vv)]⟩
 ·intro g1 w5 hb hf;have z62:g1 62= _:=hf.at 0;have z66:g1 66= _:=hf.at 4;have z68:=hf.at 6;clear hf;obtain ⟨gl,el,hBl⟩:=z68;simp only [BM,Ab,F4,F7,F6];rw [z62,z66,el];simp only [Ju,Jw,Er,Ep]
  have H5:=H4.out.below (A6 (AE W4.heap.size W4) hb);obtain ⟨v',w6,hrun,hO5,hgr5,hor5⟩:=Ah w5 46 46 B 126 iF (.agg #[.string Bp,.string Bp]) 2 32 Nq I1.out I2.out I3.out I4.out rfl ZX (.slice bo s.r.ts.length co) s.r.ts.length (cells s.r.ts) H5.own.TR (some ⟨gl,0,none⟩) 1 1 [.string (ba n),.string (ba vv)] rfl (λ_=>⟨gl,0,rfl,λj u hu=>by rw [Gy];exact hBl.c j u hu⟩) XX1f9 XX821 (by have:=HLEN.out;omega) (Gl H5.own.ge (Gh H5.own.lt));obtain ⟨bz,cz,ez, -⟩:=FV hO5;subst ez;have hl5:(s.r.ts ++ [(ba n,ba vv)]).length=s.r.ts.length+1:=ZW;have hk5:Keeps [(.slice bo s.r.ts.length co:Value).ownBlock] w5 w6:=CP hgr5 λk e=>by rw [e];exact Fv.2 rfl
  obtain ⟨ho5,hs5⟩:=H5.own.setT (t':=.slice bz (s.r.ts.length+1) cz) (ts':=s.r.ts ++ [(ba n,ba vv)]) hk5 (by rw [hl5,cells_append];exact hO5) (by
   rcases hor5 with e | e
   ·exact .inl e
   ·exact .inr ⟨_,e,Gi _⟩)
  have hrow:w6.heap[g]?= _:=hk5.row H5.row (λhm=>by
   have e:some g=(.slice bo s.r.ts.length co:Value).ownBlock:=by simpa using hm
   exact H5.own.lone.ne (i:=0) (j:=5) rfl ZX XX1c2)
  refine Jr ZV (λK hK=>?_);refine Each.oper_append _ _ _ rfl ZV ZV hrun ?_;refine hK _ _ trivial ?_;clear hK K hrun;simp only [Ab,F4,F7,F6];refine Jx ZV (ZA (some ⟨g,8,none⟩)) (λ_ _=>by go_simp) ?_;simp only [Ab,F4,F7,F6];refine Jx ZV (ZA (some ⟨g,9,none⟩)) (λ_ _=>by go_simp) ?_;simp only [Ab,F4,F7,F6];have c9:=row_cellL hrow (k:=9) rfl;have z9:=FX hrow 9;refine Jr ZV (λK hK=>?_);go_simp;refine hK _ _ trivial ?_;clear hK K;refine Js ?_
  have HR6:=Dl (row_setL hrow 9 (.slice bz (s.r.ts.length+1) cz));have HO6:=Dl (ho5.set 9 (.slice bz (s.r.ts.length+1) cz));have HS6:=Dl ((HS4.out.trans ((II (A6 (AE W4.heap.size W4) hb)).trans hs5)).trans (IL g 9 (.slice bz (s.r.ts.length+1) cz) ZW));clear c9 z9 hrow ho5 hs5 hk5 hl5 hO5 hgr5 hor5 H5 hBl;go_wp2;go_ret;exact ⟨rfl,_,⟨HR6.out,HO6.out⟩,HS6.out⟩
 ·intro k0 hk0 g1 w5 hb hf;cases hk0;have z66:g1 66= _:=hf.at 4;have z68:=hf.at 6;clear hf;obtain ⟨gl,el,hBl⟩:=z68;simp only [BM,Ab,F4,F7,F6];rw [z66,el];simp only [Ju,Jw,Er,Ep];refine Jx ZV (ZA (some ⟨g,8,none⟩)) (λ_ _=>by go_simp) ?_;simp only [Ab,F4,F7,F6]
  have H5:=H4.out.below (A6 (AE W4.heap.size W4) hb);obtain ⟨v',w6,hrun,hO5,hgr5,hor5⟩:=Ah w5 46 46 B 126 iF (.agg #[.string Bp,.string Bp]) 2 32 Nq I1.out I2.out I3.out I4.out rfl ZX (.slice bo s.r.ts.length co) s.r.ts.length (cells s.r.ts) H5.own.TR (some ⟨gl,0,none⟩) 1 1 [.string (ba n),.string (ba vv)] rfl (λ_=>⟨gl,0,rfl,λj u hu=>by rw [Gy];exact hBl.c j u hu⟩) XX1f9 XX821 (by have:=HLEN.out;omega) (Gl H5.own.ge (Gh H5.own.lt));obtain ⟨bz,cz,ez, -⟩:=FV hO5;subst ez;have hl5:(s.r.ts ++ [(ba n,ba vv)]).length=s.r.ts.length+1:=ZW;have hk5:Keeps [(.slice bo s.r.ts.length co:Value).ownBlock] w5 w6:=CP hgr5 λk e=>by rw [e];exact Fv.2 rfl
  obtain ⟨ho5,hs5⟩:=H5.own.setT (t':=.slice bz (s.r.ts.length+1) cz) (ts':=s.r.ts ++ [(ba n,ba vv)]) hk5 (by rw [hl5,cells_append];exact hO5) (by
   rcases hor5 with e | e
   ·exact .inl e
   ·exact .inr ⟨_,e,Gi _⟩)
  have hrow:w6.heap[g]?= _:=hk5.row H5.row (λhm=>by
   have e:some g=(.slice bo s.r.ts.length co:Value).ownBlock:=by simpa using hm
   exact H5.own.lone.ne (i:=0) (j:=5) rfl ZX XX1c2)
  refine Jr ZV (λK hK=>?_);refine Each.oper_append _ _ _ rfl ZV ZV hrun ?_;refine hK _ _ trivial ?_;clear hK K hrun;simp only [Ab,F4,F7,F6];refine Jx ZV (ZA (some ⟨g,8,none⟩)) (λ_ _=>by go_simp) ?_;simp only [Ab,F4,F7,F6];refine Jx ZV (ZA (some ⟨g,9,none⟩)) (λ_ _=>by go_simp) ?_;simp only [Ab,F4,F7,F6];have c9:=row_cellL hrow (k:=9) rfl;have z9:=FX hrow 9;refine Jr ZV (λK hK=>?_);go_simp;refine hK _ _ trivial ?_;clear hK K;refine Js ?_
  have HR6:=Dl (row_setL hrow 9 (.slice bz (s.r.ts.length+1) cz));have HO6:=Dl (ho5.set 9 (.slice bz (s.r.ts.length+1) cz));have HS6:=Dl ((HS4.out.trans ((II (A6 (AE W4.heap.size W4) hb)).trans hs5)).trans (IL g 9 (.slice bz (s.r.ts.length+1) cz) ZW));clear c9 z9 hrow ho5 hs5 hk5 hl5 hO5 hgr5 hor5 H5 hBl;go_wp2;go_ret
  exact ⟨rfl,_,⟨HR6.out,HO6.out⟩,HS6.out⟩):P:=h
theorem XXOsI {P:Prop} (h:P:=by refine BI rfl (λev w1 hR hb hh=>?_);have e0:=hR.old 0 rfl;have e9:=hR.old 9 rfl;have e1:=hR.old 1 rfl;simp only [Am,E6,Ep,Er,GW] at e0 e9 e1;have q9:=(HQ.out.below hb).c 9 _ rfl;have y0:=((A6 HD.out hb).cell (p:=⟨gf,k*2,none⟩) HGF.out).trans HQ0.out;have y1:=((A6 HD.out hb).cell (p:=⟨gf,k*2+1,none⟩) HGF.out).trans HQ1.out;exact Each.std):P:=h
theorem addTR_any (hp:p<4294967296) (x:ByteArray) (hx:x.size<=5000) (most:Int) (h:PR w B g q v f bd t o p b s) (hl:s.bl<=1000) (hsz:∀y∈s.r.ts,y.1.size<=1000000/\y.2.size<=1000000) (hlen:s.r.ts.length<=500) :
 Calls Mm 226 #[ZA (some ⟨g,8,none⟩),ZD x,ZE Z5 (p:Int),ZE Z7 most] w λr w'=>r=.returned (ZE Z7 (listE (fieldV p s.bl s.r.ts x.data.toList most):Int))/\∃t1,PR w' B g q v f bd t1 o p b {s with bl:=s.bl+1,r:={s.r with ts:=listL s.r.ts (fieldV p s.bl s.r.ts x.data.toList most)}}/\Step (blks g q v f bd t o) (blks g q v f bd t1 o) w w':=by
 obtain ⟨a1,a2⟩:=Ih ((s.bl:Int)+1) ⟨ZZ,ZZ⟩
 have H1:=Dl (h.put 8 (ZE Z7 ((s.bl:Int)+1)) {s with bl:=s.bl+1} rfl rfl rfl rfl rfl rfl);have HS1:=Dl (IL (w:=w) (L:=blks g q v f bd t o) g 8 (ZE Z7 ((s.bl:Int)+1)) ZW);have c8:=h.cs.c8;have z8:=h.marks 8;have HSZ:=Dl hsz;have HLEN:=Dl hlen;clear hsz hlen
 by_cases hm:most<((s.bl+1:Nat):Int)
 ·have e:fieldV p s.bl s.r.ts x.data.toList most=.inl 431:=by unfold fieldV;rw [ZN hm]
  rw [e];have t0:most<(s.bl:Int)+1:=ZZ;clear e hm h hl hx;go_enter JW,LG;go_wp2;go_ret;exact ⟨rfl,_,H1.out,HS1.out⟩
 ·have t0:¬most<(s.bl:Int)+1:=by omega
  obtain ⟨bo,co,eo, -⟩:=FV h.own.TR;have hgo:=λw=>Fd.goes_any x p hp w;have HSZx:=Dl hx;have hnn:(s.r.ts.length:Int)<=500:=by have:=HLEN.out;omega
  subst eo;obtain ⟨S1,hS1⟩:∃S1:T,{s with bl:=s.bl+1}=S1:=⟨_,rfl⟩;have HS:=Dl hS1;clear h hl hx;by_cases hj:(BX p x.data.toList && !s.r.ts.isEmpty)=true
  ·simp only [AM,AX,List.isEmpty_eq_false_iff] at hj;obtain ⟨hg,hne⟩:=hj;rw [hg] at hgo;have HGo:=Dl hgo;obtain ⟨ini,last,el⟩:∃ini last,s.r.ts=ini ++ [last]:=⟨_,_,(DL hne).symm⟩;have hn1:s.r.ts.length=ini.length+1:=by rw [el];simp
   have e:fieldV p s.bl s.r.ts x.data.toList most=.inr (ini ++ [joinF last x.data.toList]):=by exact XXTMq
   rw [e];obtain ⟨gf,cf,hform,hgl,hgf⟩:=H1.out.own.TR.form (by show 0<s.r.ts.length;omega);simp only [Value.slice.injEq,true_and] at hform;obtain ⟨rfl,rfl⟩:=hform
   have hq0:=(H1.out.own.TR.cellAt (ini.length*2) (by show ini.length*2<s.r.ts.length*2;omega)).trans (show (cells s.r.ts)[ini.length*2]?=some (ZD last.1) by rw [el];exact (cells_last ini last).1)
   have hq1:=(H1.out.own.TR.cellAt (ini.length*2+1) (by show ini.length*2+1<s.r.ts.length*2;omega)).trans (show (cells s.r.ts)[ini.length*2+1]?=some (ZD last.2) by rw [el];exact (cells_last ini last).2)
   have hz0:=H1.out.own.TR.frozenAt (ini.length*2);have hz1:=H1.out.own.TR.frozenAt (ini.length*2+1)
   have HJ:=Dl (show∀w,Calls Mm 246 #[Z9 #[ZD last.1,ZD last.2],ZD x] w λe w'=>e=.returned (Z9 #[ZD last.1,ZD (ba (BY last.2.data.toList x.data.toList))])/\Below w.heap.size w w' from
    λw=>Fd.join_any last.1 last.2 x w XX34b XXef8)
   obtain ⟨k,hk⟩:∃k,ini.length=k:=⟨_,rfl⟩;have HK:=Dl hk;rw [hk] at hn1 hq0 hq1 hz0 hz1;have t1:(0:Int)<=(k:Int):=ZZ;have i1:(k:Int)<(s.r.ts.length:Int):=ZZ;have i2:k<s.r.ts.length:=ZZ;obtain ⟨b1,b2⟩:=Ih ((s.r.ts.length:Int)-1) ⟨ZZ,ZZ⟩;have b3:(s.r.ts.length:Int)-1=(k:Int):=ZZ;rw [b3] at b1 b2;have HEL:=Dl el;have HN1:=Dl hn1;have HGL:=Dl hgl;have HQ0:=Dl hq0;have HQ1:=Dl hq1;have HGF:=Dl hgf;have HZ0:=Dl hz0;have HZ1:=Dl hz1;have HB3:=Dl b3;have HI2:=Dl i2;clear hne e hk hnn el hn1 hg hgo hm hgl hq0 hq1 hgf hz0 hz1;go_enter JW,LG;go_upto_region 4 with fail
   generalize w.setCell ⟨g,8,none⟩ (ZE Z7 ((s.bl:Int)+1))=W1 at *;clear c8 z8 a1 a2 t0;have c9:=H1.out.cs.c9
   go_upto_region 6 with (go_at_call 245;with_reducible refine Cm (HGo.out _) ?_)
   have HQ:=Dl ((H1.out.drew 1).bk);have HD:=Dl (Az (AE W1.heap.size W1) 1);clear b1 b2 b3 c9;refine BN 15 [39,40,41,42,43,44,45,46,47,48,49,50,51,52,53] [eP g 8,eP g 8,eP g 9,eQ (ZC (some ⟨gf,0,none⟩) s.r.ts.length co),eQ (ZE Z7 (k:Int)),eP g 8,eP g 8,eP g 9,eQ (ZC (some ⟨gf,0,none⟩) s.r.ts.length co),eQ (ZE Z7 (k:Int)),eP gf (k*2),eQ (Z9 #[ZD last.1,ZD last.2]),eQ (ZD x),eQ (Z9 #[ZD last.1,ZD (ba (BY last.2.data.toList x.data.toList))]),eP gf (k*2)] (.act 15 .done) ZY ZY ZY ZY (λ_ _ d _ _ h=>by cases d<;>exact h) ZV ZV XXa25 ?_ ?_
   ·refine ⟨?_,?_,?_,?_,?_,?_,?_,?_,?_,?_,?_,?_,?_,?_,?_,trivial⟩
    iterate 10·exact XXOsI
    ·refine BI rfl (λev w1 hR hb hh=>?_);have e47:ev (.tmp 47)= _:=hh.at 0;have e48:ev (.tmp 48)= _:=hh.at 1;clear hh;have d1:=HI2.out;have d2:(k:Int)<(s.r.ts.length:Int):=by omega
     exact XXqTe
    iterate 2·exact XXOsI
    ·refine BI rfl (λev w1 hR hb hh=>?_);have e50:ev (.tmp 50)= _:=hh.at 0;have e51:ev (.tmp 51)= _:=hh.at 1;clear hh;have ef:=hR.func;refine BA 246 #[Z9 #[ZD last.1,ZD last.2],ZD x] ZU ((HJ.out w1).mono ?_);exact XXUgj
    ·refine BI rfl (λev w1 hR hb hh=>?_);have e42:ev (.tmp 42)= _:=hh.at 0;have e43:ev (.tmp 43)= _:=hh.at 1;clear hh;have d1:=HI2.out;have d2:(k:Int)<(s.r.ts.length:Int):=by omega
     exact XXqTe
   intro g1 w3 hb hf;have z52:g1 52= _:=hf.at 13;have z53:g1 53= _:=hf.at 14;clear hf;simp only [BM,Ab,F4,F7,F6];rw [z52,z53];simp only [Ju,Jw,Er,Ep];have HB4:=Dl hb;have y0:=(HB4.out.cell (p:=⟨gf,k*2,none⟩) HGF.out).trans HQ0.out;have y1:=(HB4.out.cell (p:=⟨gf,k*2+1,none⟩) HGF.out).trans HQ1.out;have x0:=(HB4.out.frozen (p:=⟨gf,k*2,none⟩) HGF.out).trans HZ0.out;have x1:=(HB4.out.frozen (p:=⟨gf,k*2+1,none⟩) HGF.out).trans HZ1.out;refine Jr ZV (λK hK=>?_);go_simp;refine hK _ _ trivial ?_;clear hK K y0 y1 x0 x1;refine Js ?_;go_wp2;go_ret;have h3:=H1.out.below HB4.out;have ho:(Value.slice (some ⟨gf,0,none⟩) s.r.ts.length co).ownBlock=some gf:=by simp [Value.ownBlock]
   have hk3:Keeps [(Value.slice (some ⟨gf,0,none⟩) s.r.ts.length co).ownBlock] w3 ((w3.setCell ⟨gf,k*2,none⟩ (ZD last.1)).setCell ⟨gf,k*2+1,none⟩ (ZD (ba (BY last.2.data.toList x.data.toList)))):=
    (CU gf (k*2) _ (by rw [ho];simp)).trans (CU gf (k*2+1) _ (by rw [ho];simp)) GQ
   have hl3:(ini ++ [joinF last x.data.toList]).length=s.r.ts.length:=by rw [HEL.out];simp
   have hr3:=((h3.own.TR.stored (k*2) (ZD last.1)).1.stored (k*2+1) (ZD (ba (BY last.2.data.toList x.data.toList)))).1;exact XXKim
  ·have hgt:s.r.ts.length=0∨BX p x.data.toList=false/\∃k,s.r.ts.length=k+1:=by
    rcases Gg s.r.ts.length with h0 | h0
    ·exact .inl h0
    ·refine .inr ⟨?_,s.r.ts.length-1,ZZ⟩;cases hg:BX p x.data.toList with
     | false=>rfl
     | true=>
       rw [hg] at hj;have:s.r.ts= []:=by simpa using hj
       rw [this] at h0;cases h0
   have hp:=λw=>Fd.parse_any x p hp w XX34b;obtain ⟨iF,hi,hz0,hz1,hz2⟩:=info_parts field_info;have I1:=Dl hi;have I2:=Dl hz0;have I3:=Dl hz1;have I4:=Dl hz2;clear hi hz0 hz1 hz2;rcases hpar:Fd.parse (Fd.clOf p) x.data.toList with _ | _ | ⟨n,vv⟩
   ·have e:fieldV p s.bl s.r.ts x.data.toList most=.inl 400:=by unfold fieldV;rw [ZO hm,ZO hj,hpar]
    rw [e];rw [hpar] at hp;simp only [Fd.rv,Fd.fv] at hp;have HP:=Dl hp;clear e hpar hp hm hj;rcases hgt with h0 | hgk
    ·have b3:(s.r.ts.length:Int)-1= -1:=by omega
     obtain ⟨b1,b2⟩:=Ih ((s.r.ts.length:Int)-1) ⟨ZZ,ZZ⟩;rw [b3] at b1 b2;clear hgo hnn h0;go_enter JW,LG;go_upto_region 4 with fail
     generalize w.setCell ⟨g,8,none⟩ (ZE Z7 ((s.bl:Int)+1))=W1 at *;clear c8 z8 a1 a2 t0;have c9:=H1.out.cs.c9;go_wp2_with
      (go_at_call 247;with_reducible refine (HP.out _).mono ?_;rintro r w3 ⟨rfl,hb3⟩
       have HB3:=Dl hb3;clear hb3)
     exact XXvfE
    ·obtain ⟨hg,k,hk⟩:=hgk;rw [hg] at hgo;have HGo:=Dl hgo;have t1:(0:Int)<=(k:Int):=by omega
     have b3:(s.r.ts.length:Int)-1=(k:Int):=ZZ;obtain ⟨b1,b2⟩:=Ih ((s.r.ts.length:Int)-1) ⟨ZZ,ZZ⟩;rw [b3] at b1 b2;clear hgo hg hk hnn;go_enter JW,LG;go_upto_region 4 with fail
     generalize w.setCell ⟨g,8,none⟩ (ZE Z7 ((s.bl:Int)+1))=W1 at *;clear c8 z8 a1 a2 t0;have c9:=H1.out.cs.c9
     go_wp2_with (first
      |(go_at_call 247;with_reducible refine (HP.out _).mono ?_;rintro r w3 ⟨rfl,hb3⟩
        have HB3:=Dl hb3;clear hb3)
      |(go_at_call 245;with_reducible refine Cm (HGo.out _) ?_))
     exact XXvfE
   ·have e:fieldV p s.bl s.r.ts x.data.toList most=.inr s.r.ts:=by unfold fieldV;rw [ZO hm,ZO hj,hpar]
    rw [e];rw [hpar] at hp;simp only [Fd.rv,Fd.fv] at hp;have HP:=Dl hp;clear e hpar hp hm hj;rcases hgt with h0 | hgk
    ·have b3:(s.r.ts.length:Int)-1= -1:=by omega
     obtain ⟨b1,b2⟩:=Ih ((s.r.ts.length:Int)-1) ⟨ZZ,ZZ⟩;rw [b3] at b1 b2;clear hgo hnn h0;go_enter JW,LG;go_upto_region 4 with fail
     generalize w.setCell ⟨g,8,none⟩ (ZE Z7 ((s.bl:Int)+1))=W1 at *;clear c8 z8 a1 a2 t0;have c9:=H1.out.cs.c9;go_wp2_with
      (go_at_call 247;with_reducible refine (HP.out _).mono ?_;rintro r w3 ⟨rfl,hb3⟩
       have HB3:=Dl hb3;clear hb3)
     exact XXvfE
    ·obtain ⟨hg,k,hk⟩:=hgk;rw [hg] at hgo;have HGo:=Dl hgo;have t1:(0:Int)<=(k:Int):=by omega
     have b3:(s.r.ts.length:Int)-1=(k:Int):=ZZ;obtain ⟨b1,b2⟩:=Ih ((s.r.ts.length:Int)-1) ⟨ZZ,ZZ⟩;rw [b3] at b1 b2;clear hgo hg hk hnn;go_enter JW,LG;go_upto_region 4 with fail
     generalize w.setCell ⟨g,8,none⟩ (ZE Z7 ((s.bl:Int)+1))=W1 at *;clear c8 z8 a1 a2 t0;have c9:=H1.out.cs.c9
     go_wp2_with (first
      |(go_at_call 247;with_reducible refine (HP.out _).mono ?_;rintro r w3 ⟨rfl,hb3⟩
        have HB3:=Dl hb3;clear hb3)
      |(go_at_call 245;with_reducible refine Cm (HGo.out _) ?_))
     exact XXvfE
   ·have e:fieldV p s.bl s.r.ts x.data.toList most=.inr (s.r.ts ++ [(ba n,ba vv)]):=by unfold fieldV;rw [ZO hm,ZO hj,hpar]
    rw [e];rw [hpar] at hp;simp only [Fd.rv,Fd.fv] at hp;have HP:=Dl hp;clear e hpar hp hm hj;rcases hgt with h0 | hgk
    ·have b3:(s.r.ts.length:Int)-1= -1:=by omega
     obtain ⟨b1,b2⟩:=Ih ((s.r.ts.length:Int)-1) ⟨ZZ,ZZ⟩;rw [b3] at b1 b2;clear hgo hnn h0;go_enter JW,LG;go_upto_region 4 with fail
     generalize w.setCell ⟨g,8,none⟩ (ZE Z7 ((s.bl:Int)+1))=W1 at *;clear c8 z8 a1 a2 t0;have c9:=H1.out.cs.c9;go_upto_region 10 with
      (go_at_call 247;with_reducible refine (HP.out _).mono ?_;rintro r w3 ⟨rfl,hb3⟩
       have HB3:=Dl hb3;clear hb3)
     exact XXLci
    ·obtain ⟨hg,k,hk⟩:=hgk;rw [hg] at hgo;have HGo:=Dl hgo;have t1:(0:Int)<=(k:Int):=by omega
     have b3:(s.r.ts.length:Int)-1=(k:Int):=ZZ;obtain ⟨b1,b2⟩:=Ih ((s.r.ts.length:Int)-1) ⟨ZZ,ZZ⟩;rw [b3] at b1 b2;clear hgo hg hk hnn;go_enter JW,LG;go_upto_region 4 with fail
     generalize w.setCell ⟨g,8,none⟩ (ZE Z7 ((s.bl:Int)+1))=W1 at *;clear c8 z8 a1 a2 t0;have c9:=H1.out.cs.c9
     go_upto_region 10 with (first
      |(go_at_call 247;with_reducible refine (HP.out _).mono ?_;rintro r w3 ⟨rfl,hb3⟩
        have HB3:=Dl hb3;clear hb3)
      |(go_at_call 245;with_reducible refine Cm (HGo.out _) ?_))
     exact XXLci
end
end Pg
open _root_.Go.Act renaming eval→Aa
open _root_.Go.Proofs.Tryz renaming ntmps182→Lv,ntmps205→L7
open Each renaming oper_enter→BL,region_all→BO
open Frm renaming clOf→Cp
open Pg.T renaming chunk→IQ,endHead→IT,line→IX
open Rq renaming request→Is
open Tree renaming assign→Jq
theorem XX7js {P:Prop} (h:P:=by
 rw [hZ];show (if (0:Int)≠0 then _ else if (n:Int)=0 then _ else if b.x3-(s.r.body.length:Int)<(n:Int) then _ else _)= _
 rw [ZO ZX,ZO tz,ZN hov]):P:=h
theorem XXsvP {P:Prop} (h:P:=by
 have y0:=hB2.c 0 _ rfl;have y1:=hB2.c 1 _ rfl;have x0:=hB2.z 0 ZW;have x1:=hB2.z 1 ZW;refine Jr ZV (λK hK=>?_);go_simp;refine hK _ _ trivial ?_;clear hK K y0 y1 x0 x1;refine Jq _ ZV ZV ?_;simp only [Ab,Aa,Am,E6,Er,Ep,GW,F4,F7,F6];refine Js ?_;go_wp2_with fail;go_meet
 case rel=>exact ⟨g2,rfl,rfl,Dl ((hb.setCell hg2 _).setCell hg2 _),Dl ((hB2.set 0 (ZE Z7 1) ZW).set 1 (ZE Z7 (n:Int)) ZW),Dl hg2⟩):P:=h
theorem XXZHN {P:Prop} (h:P:=by
 have y0:=hB2.c 0 _ rfl;have y1:=hB2.c 1 _ rfl;have x0:=hB2.z 0 ZW;have x1:=hB2.z 1 ZW;refine Jr ZV (λK hK=>?_);go_simp;refine hK _ _ trivial ?_;clear hK K y0 y1 x0 x1;refine Jq _ ZV ZV ?_;simp only [Ab,Aa,Am,E6,Er,Ep,GW,F4,F7,F6];refine Js ?_;go_wp2_with fail;go_meet
 case rel=>exact ⟨g2,rfl,rfl,Dl ((hb.setCell hg2 _).setCell hg2 _),Dl ((hB2.set 0 (ZE Z7 2) ZW).set 1 (ZE Z7 0) ZW),Dl hg2⟩):P:=h
theorem XX4U6 {P:Prop} (h:P:=by
 have y0:=hB2.c 0 _ rfl;have y1:=hB2.c 1 _ rfl;have x0:=hB2.z 0 ZW;have x1:=hB2.z 1 ZW;refine Jr ZV (λK hK=>?_);go_simp;refine hK _ _ trivial ?_;clear hK K y0 y1 x0 x1;refine Jq _ ZV ZV ?_;simp only [Ab,Aa,Am,E6,Er,Ep,GW,F4,F7,F6];refine Js ?_;go_wp2_with fail;go_meet
 case rel=>exact ⟨g2,rfl,rfl,Dl ((hb.setCell hg2 _).setCell hg2 _),Dl ((hB2.set 0 (ZE Z7 1) ZW).set 1 (ZE Z7 0) ZW),Dl hg2⟩):P:=h
theorem XX0H4 {P:Prop} (h:P:=by
 have y0:=hB2.c 0 _ rfl;have y1:=hB2.c 1 _ rfl;have x0:=hB2.z 0 ZW;have x1:=hB2.z 1 ZW;refine Jr ZV (λK hK=>?_);go_simp;refine hK _ _ trivial ?_;clear hK K y0 y1 x0 x1;refine Jq _ ZV ZV ?_;simp only [Ab,Aa,Am,E6,Er,Ep,GW,F4,F7,F6];refine Js ?_;go_wp2_with fail;go_meet
 case rel=>exact ⟨g2,rfl,rfl,Dl ((hb.setCell hg2 _).setCell hg2 _),Dl ((hB2.set 0 (ZE Z7 0) ZW).set 1 (ZE Z7 0) ZW),Dl hg2⟩):P:=h
theorem XXEhL {P:Prop} (h:P:=by
 refine BI rfl (λev w1 hR hb hh=>?_);clear hh
 exact BD (ptr w1.heap.size) (w1.alloc (.cells #[ZE Z7 0,ZE Z7 0] 214)) ZU ((AE _ _).alloc (Gi _) _) ⟨_,rfl,hb.size,Hw w1 _ rfl 214 [ZE Z7 0,ZE Z7 0]⟩):P:=h
namespace Pg
open Base Txt Mem Par
theorem empty_of {x:ByteArray} (h:x.size=0):x=⟨#[]⟩:=by
 have:x.data.size=0:=h;cases x with
 | mk d=>
   have e:d= #[]:=Array.eq_empty_of_size_eq_zero this;rw [e]
theorem list_ne {x:ByteArray} (h:0<x.size):x.data.toList≠ []:=λe=>by
 have:x.size=0:=by rw [←len,e];rfl
 omega
section
attribute [local go_sem] A8
variable {w:World} {B:Zone} {g q:Nat} {v f bd t o:Value} {p:Nat} {b:Bd} {s:T}
theorem XXDW2 {P:Prop} (h:P:=by refine BI rfl (λev w1 hR hb hh=>?_);have e1:=hR.old 1 rfl;have e0:=hR.old 0 rfl;simp only [Am,E6,Ep,Er,GW] at e1 e0;have q13:=(HQ.out.below hb).c 13 _ rfl;have q14:=(HQ.out.below hb).c 14 _ rfl;have q15:=(HQ.out.below hb).c 15 _ rfl;have q16:=(HQ.out.below hb).c 16 _ rfl;have q17:=(HQ.out.below hb).c 17 _ rfl;have q18:=(HQ.out.below hb).c 18 _ rfl;have q19:=(HQ.out.below hb).c 19 _ rfl;have q20:=(HQ.out.below hb).c 20 _ rfl;have q21:=(HQ.out.below hb).c 21 _ rfl;have q22:=(HQ.out.below hb).c 22 _ rfl;have q23:=(HQ.out.below hb).c 23 _ rfl;exact Each.std):P:=h
theorem XXCdj {P:Prop} (h:P:=by exact ⟨rfl,_,_,_,_,_,_,H2.out,HS2.out⟩):P:=h
theorem firstLine_any (hp:p<4294967296) (x:ByteArray) (hx:x.size<=5000) (h:PR w B g q v f bd t o p b s):Calls Mm 203 #[ptr g,ZD x] w λr w'=>
 r=.returned (ZE Z7 (((s.first p b x.data.toList).1:Nat):Int))/\∃q1 v1 f1 bd1 t1 o1,PR w' B g q1 v1 f1 bd1 t1 o1 p b (s.first p b x.data.toList).2/\Step (blks g q v f bd t o) (blks g q1 v1 f1 bd1 t1 o1) w w':=by
 have H:=Dl h;rcases Gg x.size with h0 | h0
 ·obtain rfl:=empty_of h0;have HE:=Dl (emptyLine_any (g:=g) hp h.cs.c13);have e:s.first p b (⟨#[]⟩:ByteArray).data.toList=(if Hs p 0=true then 0 else 400,s):=rfl;rw [e];obtain ⟨z,hz⟩:∃z:Nat,(if Hs p 0=true then 0 else 400)=z:=⟨_,rfl⟩;rw [hz] at HE ⊢;clear h h0 hx e hz;go_enter Tryz.func203,Tryz.ntmps203;go_wp2_with (go_at_call 223;with_reducible refine Cm HE.out ?_);go_ret;exact ⟨rfl,_,_,_,_,_,_,H.out,Step.refl⟩
 ·have hne:=list_ne h0;have te:=Fd.first_no x h0
  have HQ:=Dl ((h.drew 1).bk);have hz:=λw=>Rq.parse_any x p hp b.x0 b.x1 b.x2 b.x3 b.x4 b.x5 b.x6 b.x7 b.ch b.od w ZZ;unfold T.first;rw [ZO hne];obtain ⟨⟨m1,t1,qk,qe⟩,hq⟩:∃Q,Is (Rq.clOf p) b.od x.data.toList=Q:=⟨_,rfl⟩;rw [hq] at hz;simp only [Rq.rv] at hz;rw [hq];obtain ⟨qm,hqm⟩:∃qm,ba m1=qm:=⟨_,rfl⟩;obtain ⟨qt,hqt⟩:∃qt,ba t1=qt:=⟨_,rfl⟩;rw [hqm,hqt] at hz;have HZ:=Dl hz;simp only [hqm,hqt];clear hz hq hqm hqt hne h0 hx h;by_cases hqe:qe=0
  ·subst hqe;rw [ZN rfl];have HZ:=Dl (show∀w,Calls Mm 224 #[ZD x,ZE Z5 (p:Int),Z9 #[ZE Z7 b.x0,ZE Z7 b.x1,ZE Z7 b.x2,ZE Z7 b.x3,ZE Z7 b.x4,ZE Z7 b.x5,ZE Z7 b.x6,ZE Z7 b.x7,ZB b.ch,ZB b.od]] w λe w'=>e=.returned (Z8 #[ZD qm,ZD qt,ZE Z7 (qk:Int),ZE Z7 0])/\Below w.heap.size w w' from λw=>HZ.out w);go_enter Tryz.func203,Tryz.ntmps203;go_upto_region 3 with fail
   refine BO 19 [14,15,16,17,18,19,20,21,22,23,13,24,25,26,27,5,6,7,8] [eQ (ZD x),eP g 0,eP g 0,eP g 13,eQ (ZE Z5 (p:Int)),eP g 0,eP g 0,eP g 14,eQ (Z9 #[ZE Z7 b.x0,ZE Z7 b.x1,ZE Z7 b.x2,ZE Z7 b.x3,ZE Z7 b.x4,ZE Z7 b.x5,ZE Z7 b.x6,ZE Z7 b.x7,ZB b.ch,ZB b.od]),eQ (Z8 #[ZD qm,ZD qt,ZE Z7 (qk:Int),ZE Z7 0]),eQ (Z8 #[ZD qm,ZD qt,ZE Z7 (qk:Int),ZE Z7 0]),eQ (ZD qm),eQ (ZD qt),eQ (ZE Z7 (qk:Int)),eQ (ZE Z7 0),eQ (ZD qm),eQ (ZD qt),eQ (ZE Z7 (qk:Int)),eQ (ZE Z7 0)] ZY ZY ZY ZY (λ_ _ d _ _ h=>by cases d<;>exact h) ZV ZV XXa25 ?_ ?_
   ·refine ⟨?_,?_,?_,?_,?_,?_,?_,?_,?_,?_,?_,?_,?_,?_,?_,?_,?_,?_,?_,trivial⟩
    iterate 9·exact XXDW2
    ·refine BI rfl (λev w1 hR hb hh=>?_);have e14:ev (.tmp 14)= _:=hh.at 0;have e18:ev (.tmp 18)= _:=hh.at 1;have e22:ev (.tmp 22)= _:=hh.at 2;clear hh;have ef:=hR.func;refine BA 224 #[ZD x,ZE Z5 (p:Int),Z9 #[ZE Z7 b.x0,ZE Z7 b.x1,ZE Z7 b.x2,ZE Z7 b.x3,ZE Z7 b.x4,ZE Z7 b.x5,ZE Z7 b.x6,ZE Z7 b.x7,ZB b.ch,ZB b.od]] ZU ((HZ.out w1).mono ?_);exact XXUgj
    iterate 9·exact XXDW2
   intro g1 w2 hb hf;have z5:g1 5= _:=hf.at 15;have z6:g1 6= _:=hf.at 16;have z7:g1 7= _:=hf.at 17;have z8:g1 8= _:=hf.at 18;clear hf;simp only [BM,Ab,F4,F7,F6];rw [z5];rw [z6];rw [z7];rw [z8];have H1:=Dl (H.out.below hb);have HS1:=Dl (II hb (L:=blks g q v f bd t o));clear hb HQ
   have H2:=Dl (((((H1.out).put 3 (ZD qm) {s with r:={s.r with m:=qm}} rfl rfl rfl rfl rfl rfl).put 4 (ZD qt) {s with r:={s.r with m:=qm,x:=qt}} rfl rfl rfl rfl rfl rfl).put 5 (ZE Z7 (qk:Int)) {s with r:={s.r with m:=qm,x:=qt,k:=(qk:Int)}} rfl rfl rfl rfl rfl rfl).put 24 (ZE Z7 2) {s with r:={s.r with m:=qm,x:=qt,k:=(qk:Int)},st:=2} rfl rfl rfl rfl rfl rfl);have HS2:=Dl (((((HS1.out).trans (IL g 3 (ZD qm) ZW)).trans (IL g 4 (ZD qt) ZW)).trans (IL g 5 (ZE Z7 (qk:Int)) ZW)).trans (IL g 24 (ZE Z7 2) ZW));have c3:=H1.out.cs.c3;have z3:=H1.out.marks 3;have c4:=H1.out.cs.c4;have z4:=H1.out.marks 4;have c5:=H1.out.cs.c5;have z5:=H1.out.marks 5;have c24:=H1.out.cs.c24;have z24:=H1.out.marks 24;go_wp2;first | go_end0 | go_ret
   exact XXCdj
  ·rw [ZO hqe];have tz:¬(qe:Int)=0:=by omega
   have tz':((qe:Int)==0)=false:=ZM.2 tz;clear hqe;go_enter Tryz.func203,Tryz.ntmps203;go_upto_region 3 with fail
   refine BO 19 [14,15,16,17,18,19,20,21,22,23,13,24,25,26,27,5,6,7,8] [eQ (ZD x),eP g 0,eP g 0,eP g 13,eQ (ZE Z5 (p:Int)),eP g 0,eP g 0,eP g 14,eQ (Z9 #[ZE Z7 b.x0,ZE Z7 b.x1,ZE Z7 b.x2,ZE Z7 b.x3,ZE Z7 b.x4,ZE Z7 b.x5,ZE Z7 b.x6,ZE Z7 b.x7,ZB b.ch,ZB b.od]),eQ (Z8 #[ZD qm,ZD qt,ZE Z7 (qk:Int),ZE Z7 (qe:Int)]),eQ (Z8 #[ZD qm,ZD qt,ZE Z7 (qk:Int),ZE Z7 (qe:Int)]),eQ (ZD qm),eQ (ZD qt),eQ (ZE Z7 (qk:Int)),eQ (ZE Z7 (qe:Int)),eQ (ZD qm),eQ (ZD qt),eQ (ZE Z7 (qk:Int)),eQ (ZE Z7 (qe:Int))] ZY ZY ZY ZY (λ_ _ d _ _ h=>by cases d<;>exact h) ZV ZV XXa25 ?_ ?_
   ·refine ⟨?_,?_,?_,?_,?_,?_,?_,?_,?_,?_,?_,?_,?_,?_,?_,?_,?_,?_,?_,trivial⟩
    iterate 9·exact XXDW2
    ·refine BI rfl (λev w1 hR hb hh=>?_);have e14:ev (.tmp 14)= _:=hh.at 0;have e18:ev (.tmp 18)= _:=hh.at 1;have e22:ev (.tmp 22)= _:=hh.at 2;clear hh;have ef:=hR.func;refine BA 224 #[ZD x,ZE Z5 (p:Int),Z9 #[ZE Z7 b.x0,ZE Z7 b.x1,ZE Z7 b.x2,ZE Z7 b.x3,ZE Z7 b.x4,ZE Z7 b.x5,ZE Z7 b.x6,ZE Z7 b.x7,ZB b.ch,ZB b.od]] ZU ((HZ.out w1).mono ?_);exact XXUgj
    iterate 9·exact XXDW2
   intro g1 w2 hb hf;have z5:g1 5= _:=hf.at 15;have z6:g1 6= _:=hf.at 16;have z7:g1 7= _:=hf.at 17;have z8:g1 8= _:=hf.at 18;clear hf;simp only [BM,Ab,F4,F7,F6];rw [z5];rw [z6];rw [z7];rw [z8];have H1:=Dl (H.out.below hb);have HS1:=Dl (II hb (L:=blks g q v f bd t o));clear hb HQ;go_wp2;first | go_end0 | go_ret
   exact ⟨rfl,_,_,_,_,_,_,H1.out,HS1.out⟩
theorem XXNvB {P:Prop} (h:P:=by
 refine BI rfl (λev w1 hR hb hh=>?_);have e8:ev (.tmp 8)= _:=hh.at 0;have e12:ev (.tmp 12)= _:=hh.at 1;have e16:ev (.tmp 16)= _:=hh.at 2;clear hh;have ef:=hR.func;refine BA 227 #[ZD x,ZE Z5 (p:Int),Z9 #[ZE Z7 b.x0,ZE Z7 b.x1,ZE Z7 b.x2,ZE Z7 b.x3,ZE Z7 b.x4,ZE Z7 b.x5,ZE Z7 b.x6,ZE Z7 b.x7,ZB b.ch,ZB b.od]] ZU ((HZ.out w1).mono ?_);rintro r w2 ⟨rfl,hb2⟩
 exact ⟨_,rfl,hb2,rfl⟩):P:=h
theorem XXYV8 {P:Prop} (h:P:=by
 refine ⟨?_,?_,?_,?_,?_,?_,?_,?_,?_,?_,?_,?_,?_,?_,?_,trivial⟩
 all_goals (refine BI rfl (λev w1 hR hb hh=>?_);have e5:=hR.old 5 rfl;have e0:=hR.old 0 rfl;simp only [Am,E6,Ep,Er,GW] at e5 e0;have q17:=(HQ.out.below hb).c 17 _ rfl;have q11:=(HQ.out.below hb).c 11 _ rfl;have d1:=HD.out;have d2:=HT.out;exact Each.std)):P:=h
theorem XXS6f {P:Prop} (h:P:=by
 intro g1 w2 hb hf;have z5:g1 5= _:=hf.at 13;have z6:g1 6= _:=hf.at 14;clear hf;simp only [BM,Ab,F4,F7,F6];rw [z5];rw [z6];have H1:=Dl (H.out.below hb);have HB:=Dl hb;clear HQ hb;go_wp2;go_ret
 exact ⟨rfl,_,_,_,_,_,_,H1.out,II HB.out⟩):P:=h
theorem sizeLine_any (hp:p<4294967296) (h3:16<=b.x3/\b.x3<=1048576) (x:ByteArray) (hx:x.size<=5000) (h:PR w B g q v f bd t o p b s) (hbl:s.r.body.length<=2000000):Calls Mm 205 #[ptr g,ZD x] w λr w'=>
 r=.returned (ZE Z7 (((s.chunk p b x.data.toList).1:Nat):Int))/\∃q1 v1 f1 bd1 t1 o1,PR w' B g q1 v1 f1 bd1 t1 o1 p b (s.chunk p b x.data.toList).2/\Step (blks g q v f bd t o) (blks g q1 v1 f1 bd1 t1 o1) w w':=by
 have H:=Dl h
 have HQ:=Dl ((h.drew 1).bk);have hz:=λw=>Chk.size_any x p hp b.x0 b.x1 b.x2 b.x3 b.x4 b.x5 b.x6 b.x7 b.ch b.od ZZ w ZZ;have HF:=chunk_facts (Hs p 27) (Hs p 28) b.x4 b.x3 x.data.toList;obtain ⟨⟨z1,z2⟩,hZ⟩:∃Z,Bz (Hs p 27) (Hs p 28) b.x4 b.x3 x.data.toList=Z:=⟨_,rfl⟩;rw [hZ] at HF;clear h hx;rcases HF with ⟨e2,h0,h1⟩ | e2 | e2
 ·have e2:z2=0:=e2;subst e2;obtain ⟨n,rfl⟩:∃n:Nat,z1=(n:Int):=⟨z1.toNat,by have:0<=z1:=h0;omega⟩;have h1:(n:Int)<=max b.x3 0:=h1;have HZ:=Dl (show∀w,Calls Mm 227 #[ZD x,ZE Z5 (p:Int),Z9 #[ZE Z7 b.x0,ZE Z7 b.x1,ZE Z7 b.x2,ZE Z7 b.x3,ZE Z7 b.x4,ZE Z7 b.x5,ZE Z7 b.x6,ZE Z7 b.x7,ZB b.ch,ZB b.od]] w λe w'=>e=.returned (Z8 #[ZE Z7 (n:Int),ZE Z7 0])/\Below w.heap.size w w' from λw=>by have:=hz w;rw [hZ] at this;exact this);clear hz;rcases Gg n with hn | hn
  ·subst hn;have e:s.chunk p b x.data.toList=(0,{s with st:=7}):=by unfold IQ;rw [hZ];rfl
   rw [e];have HZ:=Dl (show∀w,Calls Mm 227 #[ZD x,ZE Z5 (p:Int),Z9 #[ZE Z7 b.x0,ZE Z7 b.x1,ZE Z7 b.x2,ZE Z7 b.x3,ZE Z7 b.x4,ZE Z7 b.x5,ZE Z7 b.x6,ZE Z7 b.x7,ZB b.ch,ZB b.od]] w λe w'=>e=.returned (Z8 #[ZE Z7 0,ZE Z7 0])/\Below w.heap.size w w' from λw=>HZ.out w);clear e hZ h0 h1;go_enter Tryz.func205,L7;go_upto_region 1 with fail
   refine BO 15 [8,9,10,11,12,13,14,15,16,17,7,18,19,5,6] [eQ (ZD x),eP g 0,eP g 0,eP g 13,eQ (ZE Z5 (p:Int)),eP g 0,eP g 0,eP g 14,eQ (Z9 #[ZE Z7 b.x0,ZE Z7 b.x1,ZE Z7 b.x2,ZE Z7 b.x3,ZE Z7 b.x4,ZE Z7 b.x5,ZE Z7 b.x6,ZE Z7 b.x7,ZB b.ch,ZB b.od]),eQ (Z8 #[ZE Z7 0,ZE Z7 0]),eQ (Z8 #[ZE Z7 0,ZE Z7 0]),eQ (ZE Z7 0),eQ (ZE Z7 0),eQ (ZE Z7 0),eQ (ZE Z7 0)] ZY ZY ZY ZY (λ_ _ d _ _ h=>by cases d<;>exact h) ZV ZV XXa25 ?_ ?_
   ·refine ⟨?_,?_,?_,?_,?_,?_,?_,?_,?_,?_,?_,?_,?_,?_,?_,trivial⟩
    iterate 9·exact XXDW2
    ·exact XXNvB
    iterate 5·exact XXDW2
   intro g1 w2 hb hf;have z5:g1 5= _:=hf.at 13;have z6:g1 6= _:=hf.at 14;clear hf;simp only [BM,Ab,F4,F7,F6];rw [z5];rw [z6];have H1:=Dl (H.out.below hb);have HB:=Dl hb;clear HQ hb
   have H2:=Dl (H1.out.put 24 (ZE Z7 7) {s with st:=7} rfl rfl rfl rfl rfl rfl);have HS2:=Dl ((II HB.out (L:=blks g q v f bd t o)).trans (IL g 24 (ZE Z7 7) ZW));have c24:=H1.out.cs.c24;have z24:=H1.out.marks 24;go_wp2;go_ret;exact XXCdj
  ·obtain ⟨bb,cb,eb, -⟩:=FV H.out.own.D;subst eb;have HD:=Dl (Base.wrap_in (b.x3-(s.r.body.length:Int)) ZZ ZZ);have tz:¬(n:Int)=0:=ZZ;have tz':((n:Int)==0)=false:=ZM.2 tz
   by_cases hov:b.x3-(s.r.body.length:Int)<(n:Int)
   ·have e:s.chunk p b x.data.toList=(413,s):=by
     unfold IQ;exact XX7js
    rw [e];have HT:=Dl hov;clear e hZ h0 h1 hn;go_enter Tryz.func205,L7;go_upto_region 1 with fail
    refine BO 15 [8,9,10,11,12,13,14,15,16,17,7,18,19,5,6] [eQ (ZD x),eP g 0,eP g 0,eP g 13,eQ (ZE Z5 (p:Int)),eP g 0,eP g 0,eP g 14,eQ (Z9 #[ZE Z7 b.x0,ZE Z7 b.x1,ZE Z7 b.x2,ZE Z7 b.x3,ZE Z7 b.x4,ZE Z7 b.x5,ZE Z7 b.x6,ZE Z7 b.x7,ZB b.ch,ZB b.od]),eQ (Z8 #[ZE Z7 (n:Int),ZE Z7 0]),eQ (Z8 #[ZE Z7 (n:Int),ZE Z7 0]),eQ (ZE Z7 (n:Int)),eQ (ZE Z7 0),eQ (ZE Z7 (n:Int)),eQ (ZE Z7 0)] ZY ZY ZY ZY (λ_ _ d _ _ h=>by cases d<;>exact h) ZV ZV XXa25 ?_ ?_
    ·refine ⟨?_,?_,?_,?_,?_,?_,?_,?_,?_,?_,?_,?_,?_,?_,?_,trivial⟩
     iterate 9·exact XXDW2
     ·exact XXNvB
     iterate 5·exact XXDW2
    intro g1 w2 hb hf;have z5:g1 5= _:=hf.at 13;have z6:g1 6= _:=hf.at 14;clear hf;simp only [BM,Ab,F4,F7,F6];rw [z5];rw [z6];have H1:=Dl (H.out.below hb);have HB:=Dl hb;clear HQ hb;go_upto_region 8 with fail
    have HQ:=Dl ((H1.out.drew 1).bk);refine BO 15 [39,40,41,42,43,44,45,46,47,48,49,50,51,52,38] [eQ (ZE Z7 ((n:Nat):Int)),eP g 0,eP g 0,eP g 14,eP g 17,eQ (ZE Z7 b.x3),eP g 0,eP g 0,eP g 8,eP g 11,eQ (.slice bb s.r.body.length cb),eQ (ZE Z7 ((s.r.body.length:Nat):Int)),eQ (ZE Z7 (b.x3-(s.r.body.length:Int))),eQ (ZB true),eQ (ZB true)] ZY ZY ZY ZY (λ_ _ d _ _ h=>by cases d<;>exact h) ZV ZV XXa25 ?_ ?_
    ·exact XXYV8
    intro g1 w3 hb hf;have z38:g1 38= _:=hf.at 14;clear hf;simp only [BM,Ab,F4,F7,F6];rw [z38];have H2:=Dl (H1.out.below hb);have HS2:=Dl ((II HB.out (L:=blks g q v f (.slice bb s.r.body.length cb) t o)).trans (II hb));clear H1 HB hb HQ;go_wp2;go_ret;exact XXCdj
   ·have e:s.chunk p b x.data.toList=(0,{s with st:=5,left:=n}):=by
     unfold IQ;rw [hZ];show (if (0:Int)≠0 then _ else if (n:Int)=0 then _ else if b.x3-(s.r.body.length:Int)<(n:Int) then _ else (0,({s with left:=(n:Int).toNat,st:=5}:T)))= _;rw [ZO ZX,ZO tz,ZO hov,Int.toNat_natCast]
    rw [e];have HT:=Dl hov;clear e hZ h0 h1 hn;go_enter Tryz.func205,L7;go_upto_region 1 with fail
    refine BO 15 [8,9,10,11,12,13,14,15,16,17,7,18,19,5,6] [eQ (ZD x),eP g 0,eP g 0,eP g 13,eQ (ZE Z5 (p:Int)),eP g 0,eP g 0,eP g 14,eQ (Z9 #[ZE Z7 b.x0,ZE Z7 b.x1,ZE Z7 b.x2,ZE Z7 b.x3,ZE Z7 b.x4,ZE Z7 b.x5,ZE Z7 b.x6,ZE Z7 b.x7,ZB b.ch,ZB b.od]),eQ (Z8 #[ZE Z7 (n:Int),ZE Z7 0]),eQ (Z8 #[ZE Z7 (n:Int),ZE Z7 0]),eQ (ZE Z7 (n:Int)),eQ (ZE Z7 0),eQ (ZE Z7 (n:Int)),eQ (ZE Z7 0)] ZY ZY ZY ZY (λ_ _ d _ _ h=>by cases d<;>exact h) ZV ZV XXa25 ?_ ?_
    ·refine ⟨?_,?_,?_,?_,?_,?_,?_,?_,?_,?_,?_,?_,?_,?_,?_,trivial⟩
     iterate 9·exact XXDW2
     ·exact XXNvB
     iterate 5·exact XXDW2
    intro g1 w2 hb hf;have z5:g1 5= _:=hf.at 13;have z6:g1 6= _:=hf.at 14;clear hf;simp only [BM,Ab,F4,F7,F6];rw [z5];rw [z6];have H1:=Dl (H.out.below hb);have HB:=Dl hb;clear HQ hb;go_upto_region 8 with fail
    have HQ:=Dl ((H1.out.drew 1).bk);refine BO 15 [39,40,41,42,43,44,45,46,47,48,49,50,51,52,38] [eQ (ZE Z7 ((n:Nat):Int)),eP g 0,eP g 0,eP g 14,eP g 17,eQ (ZE Z7 b.x3),eP g 0,eP g 0,eP g 8,eP g 11,eQ (.slice bb s.r.body.length cb),eQ (ZE Z7 ((s.r.body.length:Nat):Int)),eQ (ZE Z7 (b.x3-(s.r.body.length:Int))),eQ (ZB false),eQ (ZB false)] ZY ZY ZY ZY (λ_ _ d _ _ h=>by cases d<;>exact h) ZV ZV XXa25 ?_ ?_
    ·exact XXYV8
    intro g1 w3 hb hf;have z38:g1 38= _:=hf.at 14;clear hf;simp only [BM,Ab,F4,F7,F6];rw [z38];have H2:=Dl (H1.out.below hb);have HS2:=Dl ((II HB.out (L:=blks g q v f (.slice bb s.r.body.length cb) t o)).trans (II hb));clear H1 HB hb HQ
    have H3:=Dl ((H2.out.put 12 (ZE Z7 (n:Int)) {s with left:=n} rfl rfl rfl rfl rfl rfl).put 24 (ZE Z7 5) {s with left:=n,st:=5} rfl rfl rfl rfl rfl rfl);have HS3:=Dl (HS2.out.trans ((IL g 12 (ZE Z7 (n:Int)) ZW).trans (IL g 24 (ZE Z7 5) ZW)));have c12:=H2.out.cs.c12;have z12:=H2.out.marks 12;have c24:=H2.out.cs.c24;have z24:=H2.out.marks 24;go_wp2;go_ret;exact ⟨rfl,_,_,_,_,_,_,H3.out,HS3.out⟩
 ·have e2:z2=400:=e2;subst e2;have HZ:=Dl (show∀w,Calls Mm 227 #[ZD x,ZE Z5 (p:Int),Z9 #[ZE Z7 b.x0,ZE Z7 b.x1,ZE Z7 b.x2,ZE Z7 b.x3,ZE Z7 b.x4,ZE Z7 b.x5,ZE Z7 b.x6,ZE Z7 b.x7,ZB b.ch,ZB b.od]] w λe w'=>e=.returned (Z8 #[ZE Z7 z1,ZE Z7 400])/\Below w.heap.size w w' from λw=>by have:=hz w;rw [hZ] at this;exact this);have e:s.chunk p b x.data.toList=(400,s):=by unfold IQ;rw [hZ];rfl
  rw [e];clear hz hZ e;go_enter Tryz.func205,L7;go_upto_region 1 with fail
  refine BO 15 [8,9,10,11,12,13,14,15,16,17,7,18,19,5,6] [eQ (ZD x),eP g 0,eP g 0,eP g 13,eQ (ZE Z5 (p:Int)),eP g 0,eP g 0,eP g 14,eQ (Z9 #[ZE Z7 b.x0,ZE Z7 b.x1,ZE Z7 b.x2,ZE Z7 b.x3,ZE Z7 b.x4,ZE Z7 b.x5,ZE Z7 b.x6,ZE Z7 b.x7,ZB b.ch,ZB b.od]),eQ (Z8 #[ZE Z7 z1,ZE Z7 400]),eQ (Z8 #[ZE Z7 z1,ZE Z7 400]),eQ (ZE Z7 z1),eQ (ZE Z7 400),eQ (ZE Z7 z1),eQ (ZE Z7 400)] ZY ZY ZY ZY (λ_ _ d _ _ h=>by cases d<;>exact h) ZV ZV XXa25 ?_ ?_
  ·refine ⟨?_,?_,?_,?_,?_,?_,?_,?_,?_,?_,?_,?_,?_,?_,?_,trivial⟩
   iterate 9·exact XXDW2
   ·exact XXNvB
   iterate 5·exact XXDW2
  exact XXS6f
 ·have e2:z2=413:=e2;subst e2;have HZ:=Dl (show∀w,Calls Mm 227 #[ZD x,ZE Z5 (p:Int),Z9 #[ZE Z7 b.x0,ZE Z7 b.x1,ZE Z7 b.x2,ZE Z7 b.x3,ZE Z7 b.x4,ZE Z7 b.x5,ZE Z7 b.x6,ZE Z7 b.x7,ZB b.ch,ZB b.od]] w λe w'=>e=.returned (Z8 #[ZE Z7 z1,ZE Z7 413])/\Below w.heap.size w w' from λw=>by have:=hz w;rw [hZ] at this;exact this);have e:s.chunk p b x.data.toList=(413,s):=by unfold IQ;rw [hZ];rfl
  rw [e];clear hz hZ e;go_enter Tryz.func205,L7;go_upto_region 1 with fail
  refine BO 15 [8,9,10,11,12,13,14,15,16,17,7,18,19,5,6] [eQ (ZD x),eP g 0,eP g 0,eP g 13,eQ (ZE Z5 (p:Int)),eP g 0,eP g 0,eP g 14,eQ (Z9 #[ZE Z7 b.x0,ZE Z7 b.x1,ZE Z7 b.x2,ZE Z7 b.x3,ZE Z7 b.x4,ZE Z7 b.x5,ZE Z7 b.x6,ZE Z7 b.x7,ZB b.ch,ZB b.od]),eQ (Z8 #[ZE Z7 z1,ZE Z7 413]),eQ (Z8 #[ZE Z7 z1,ZE Z7 413]),eQ (ZE Z7 z1),eQ (ZE Z7 413),eQ (ZE Z7 z1),eQ (ZE Z7 413)] ZY ZY ZY ZY (λ_ _ d _ _ h=>by cases d<;>exact h) ZV ZV XXa25 ?_ ?_
  ·refine ⟨?_,?_,?_,?_,?_,?_,?_,?_,?_,?_,?_,?_,?_,?_,?_,trivial⟩
   iterate 9·exact XXDW2
   ·exact XXNvB
   iterate 5·exact XXDW2
  exact XXS6f
theorem XXkR9 {P:Prop} (h:P:=by refine BI rfl (λev w1 hR hb hh=>?_);have e0:=hR.old 0 rfl;simp only [Am,E6,Ep,Er,GW] at e0;have q13:=(HQ.out.below hb).c 13 _ rfl;have q14:=(HQ.out.below hb).c 14 _ rfl;have q15:=(HQ.out.below hb).c 15 _ rfl;have q16:=(HQ.out.below hb).c 16 _ rfl;have q17:=(HQ.out.below hb).c 17 _ rfl;have q18:=(HQ.out.below hb).c 18 _ rfl;have q19:=(HQ.out.below hb).c 19 _ rfl;have q20:=(HQ.out.below hb).c 20 _ rfl;have q21:=(HQ.out.below hb).c 21 _ rfl;have q22:=(HQ.out.below hb).c 22 _ rfl;have q23:=(HQ.out.below hb).c 23 _ rfl;have q5:=(HQ.out.below hb).c 5 _ rfl;have q2:=(HQ.out.below hb).c 2 _ rfl;exact Each.std):P:=h
theorem XXlAS {P:Prop} (h:P:=by
 refine BI rfl (λev w1 hR hb hh=>?_);have e9:ev (.tmp 9)= _:=hh.at 0;have e13:ev (.tmp 13)= _:=hh.at 1;have e18:ev (.tmp 18)= _:=hh.at 2;have e24:ev (.tmp 24)= _:=hh.at 3;clear hh;have ef:=hR.func;refine BA 244 #[ZE Z5 (p:Int),Z9 #[ZE Z7 b.x0,ZE Z7 b.x1,ZE Z7 b.x2,ZE Z7 b.x3,ZE Z7 b.x4,ZE Z7 b.x5,ZE Z7 b.x6,ZE Z7 b.x7,ZB b.ch,ZB b.od],ZE Z7 s.r.k,.slice bf s.r.fs.length cf] ZU ((HZ.out w1 hb).mono ?_);rintro r w2 ⟨rfl,hb2⟩
 exact ⟨_,rfl,hb2,rfl⟩):P:=h
theorem endHead_any (hp:p<4294967296) (h3:16<=b.x3/\b.x3<=1048576) (h:PR w B g q v f bd t o p b s) (hn:s.r.fs.length<=500) (hs:∀y∈s.r.fs,y.1.size<=1000000/\y.2.size<=1000000) (hout:s.out.length<=1000000000):Calls Mm 225 #[ptr g] w λr w'=>
 r=.returned (ZE Z7 (((s.endHead p b).1:Nat):Int))/\∃q1 v1 f1 bd1 t1 o1,PR w' B g q1 v1 f1 bd1 t1 o1 p b (s.endHead p b).2/\Step (blks g q v f bd t o) (blks g q1 v1 f1 bd1 t1 o1) w w':=by
 obtain ⟨A,c,e,hv⟩:=Flds.of_own h.own.F;obtain ⟨bf,cf,eb, -⟩:=FV h.own.F;subst eb;simp only [Value.slice.injEq,true_and] at e;obtain ⟨rfl,rfl⟩:=e;have H:=Dl h
 have HQ:=Dl ((h.drew 1).bk);have hvd:=hv.below (Az (AE w.heap.size w) 1);have hz:=λw2 (hb:Below (w.drewN 1).heap.size (w.drewN 1) w2)=>Frm.decide_any p hp b.x0 b.x1 b.x2 b.x3 b.x4 b.x5 b.x6 b.x7 b.ch b.od ZZ s.r.k _ _ cf s.r.fs w2 (hvd.below hb) hn hs;have HO:=Dl hout;clear h hn hs hout hv;rcases decide_facts (Cp p) b.ch b.x3 s.r.k s.r.fs with hD | ⟨n,hle,hD⟩ | ⟨e,he,hD⟩
 ·have HZ:=Dl (show∀w2,Below (w.drewN 1).heap.size (w.drewN 1) w2->Calls Mm 244 #[ZE Z5 (p:Int),Z9 #[ZE Z7 b.x0,ZE Z7 b.x1,ZE Z7 b.x2,ZE Z7 b.x3,ZE Z7 b.x4,ZE Z7 b.x5,ZE Z7 b.x6,ZE Z7 b.x7,ZB b.ch,ZB b.od],ZE Z7 s.r.k,.slice bf s.r.fs.length cf] w2 λr w'=>r=.returned (Z8 #[Z9 #[ZE Z7 2,ZE Z7 0],ZE Z7 0])/\Below w2.heap.size w2 w' from λw2 hb=>by have:=hz w2 hb;rw [hD] at this;exact this);have e:s.endHead p b=(0,{s with r:={s.r with ch:=true},st:=4}):=by unfold IT;rw [hD];rfl
  rw [e];clear hz hD e hvd;go_enter Tryz.func225,Tryz.ntmps225;go_upto_region 1 with fail
  go_cut [3,4] from 5 to 27 (λu c wx=>∃g2,u=ptr g2/\c=ZE Z7 0/\Hid (Below w.heap.size w wx)/\Hid (Hv wx g2 [ZE Z7 2,ZE Z7 0])/\Hid (w.heap.size<=g2))
  case first=>
   refine BP 24 [6,7,8,9,10,11,12,13,14,15,16,17,18,19,20,21,22,23,24,25,5,26,27,3] [eP g 0,eP g 0,eP g 13,eQ (ZE Z5 (p:Int)),eP g 0,eP g 0,eP g 14,eQ (Z9 #[ZE Z7 b.x0,ZE Z7 b.x1,ZE Z7 b.x2,ZE Z7 b.x3,ZE Z7 b.x4,ZE Z7 b.x5,ZE Z7 b.x6,ZE Z7 b.x7,ZB b.ch,ZB b.od]),eP g 0,eP g 0,eP g 1,eP g 5,eQ (ZE Z7 s.r.k),eP g 0,eP g 0,eP g 1,eP g 1,eP g 2,eQ (.slice bf s.r.fs.length cf),eQ (Z8 #[Z9 #[ZE Z7 2,ZE Z7 0],ZE Z7 0]),eQ (Z8 #[Z9 #[ZE Z7 2,ZE Z7 0],ZE Z7 0]),eQ (Z9 #[ZE Z7 2,ZE Z7 0]),eQ (ZE Z7 0),λv u=>∃g2,v=ptr g2/\w.heap.size<=g2/\Hv u g2 [ZE Z7 0,ZE Z7 0]] [] 2 (some 22) (.act 24 (.quiet 25 .done)) (.quiet 22 (.act 24 (.quiet 25 .done))) ZY ZY ZY ZY (λk0 h=>by cases h;kernel_rfl) (λ_ _ d _ _ h=>by cases d<;>exact h) ZV ZV ⟨BF _,BF _,BF _,BF _,BF _,BF _,BF _,BF _,BF _,BF _,BF _,BF _,BF _,BF _,BF _,BF _,BF _,BF _,BF _,BF _,BF _,BF _,BF _,((λ_ _ _ hb h=>by obtain ⟨g2,e1,h1,hB⟩:=h;exact ⟨g2,e1,h1,hB.below hb⟩)),trivial⟩ trivial ZV ?_ ?_ ?_
   ·refine ⟨?_,?_,?_,?_,?_,?_,?_,?_,?_,?_,?_,?_,?_,?_,?_,?_,?_,?_,?_,?_,?_,?_,?_,?_,trivial⟩
    iterate 19·exact XXkR9
    ·exact XXlAS
    iterate 3·exact XXkR9
    ·exact XXEhL
   ·intro g1 w2 hb hf;have z5:g1 5= _:=hf.at 20;have z26:g1 26= _:=hf.at 21;have z27:g1 27= _:=hf.at 22;have z3:=hf.at 23;clear hf;obtain ⟨g2,e2,hg2,hB2⟩:=z3;simp only [BM,Ab,F4,F7,F6];rw [z5,z26,z27,e2];simp only [Ju,Jw,Er,Ep];exact XXZHN
   ·intro k0 hk0 g1 w2 hb hf;cases hk0;have z5:g1 5= _:=hf.at 20;have z26:g1 26= _:=hf.at 21;have z3:=hf.at 23;clear hf;obtain ⟨g2,e2,hg2,hB2⟩:=z3;simp only [BM,Ab,F4,F7,F6];rw [z5,z26,e2];simp only [Ju,Jw,Er,Ep];refine Jx ZV (ZE Z7 0) (λ_ _=>by go_simp) ?_;simp only [Ab,F4,F7,F6];exact XXZHN
  case rest=>
  obtain ⟨g2,rfl,rfl,HB,HG,HG2⟩:=hcut;have H1:=Dl (H.out.below HB.out);clear HQ;obtain ⟨W0,hW0⟩:∃x,x=wc:=⟨_,rfl⟩;subst hW0;have y0:=HG.out.c 0 _ rfl;have y1:=HG.out.c 1 _ rfl
  have H2:=Dl ((H1.out.put 10 (ZB true) {s with r:={s.r with ch:=true}} rfl rfl rfl rfl rfl rfl).put 24 (ZE Z7 4) {s with r:={s.r with ch:=true},st:=4} rfl rfl rfl rfl rfl rfl);have HS2:=Dl ((II HB.out (L:=blks g q v (.slice bf s.r.fs.length cf) bd t o)).trans ((IL g 10 (ZB true) ZW).trans (IL g 24 (ZE Z7 4) ZW)));have c10:=H1.out.cs.c10;have z10:=H1.out.marks 10;have c24:=H1.out.cs.c24;have z24:=H1.out.marks 24;go_wp2;go_ret;exact XXCdj
 ·have HZ:=Dl (show∀w2,Below (w.drewN 1).heap.size (w.drewN 1) w2->Calls Mm 244 #[ZE Z5 (p:Int),Z9 #[ZE Z7 b.x0,ZE Z7 b.x1,ZE Z7 b.x2,ZE Z7 b.x3,ZE Z7 b.x4,ZE Z7 b.x5,ZE Z7 b.x6,ZE Z7 b.x7,ZB b.ch,ZB b.od],ZE Z7 s.r.k,.slice bf s.r.fs.length cf] w2 λr w'=>r=.returned (Z8 #[Z9 #[ZE Z7 1,ZE Z7 (n:Int)],ZE Z7 0])/\Below w2.heap.size w2 w' from λw2 hb=>by have:=hz w2 hb;rw [hD] at this;exact this);rcases Gg n with hn | hn
  ·subst hn;have HZ:=Dl (show∀w2,Below (w.drewN 1).heap.size (w.drewN 1) w2->Calls Mm 244 #[ZE Z5 (p:Int),Z9 #[ZE Z7 b.x0,ZE Z7 b.x1,ZE Z7 b.x2,ZE Z7 b.x3,ZE Z7 b.x4,ZE Z7 b.x5,ZE Z7 b.x6,ZE Z7 b.x7,ZB b.ch,ZB b.od],ZE Z7 s.r.k,.slice bf s.r.fs.length cf] w2 λe w'=>e=.returned (Z8 #[Z9 #[ZE Z7 1,ZE Z7 0],ZE Z7 0])/\Below w2.heap.size w2 w' from λw2 hb=>HZ.out w2 hb);have e:s.endHead p b=(0,s.fin):=by unfold IT;rw [hD];rfl
   rw [e];clear hz hD e hvd hle;go_enter Tryz.func225,Tryz.ntmps225;go_upto_region 1 with fail
   go_cut [3,4] from 5 to 27 (λu c wx=>∃g2,u=ptr g2/\c=ZE Z7 0/\Hid (Below w.heap.size w wx)/\Hid (Hv wx g2 [ZE Z7 1,ZE Z7 0])/\Hid (w.heap.size<=g2))
   case first=>
    refine BP 24 [6,7,8,9,10,11,12,13,14,15,16,17,18,19,20,21,22,23,24,25,5,26,27,3] [eP g 0,eP g 0,eP g 13,eQ (ZE Z5 (p:Int)),eP g 0,eP g 0,eP g 14,eQ (Z9 #[ZE Z7 b.x0,ZE Z7 b.x1,ZE Z7 b.x2,ZE Z7 b.x3,ZE Z7 b.x4,ZE Z7 b.x5,ZE Z7 b.x6,ZE Z7 b.x7,ZB b.ch,ZB b.od]),eP g 0,eP g 0,eP g 1,eP g 5,eQ (ZE Z7 s.r.k),eP g 0,eP g 0,eP g 1,eP g 1,eP g 2,eQ (.slice bf s.r.fs.length cf),eQ (Z8 #[Z9 #[ZE Z7 1,ZE Z7 0],ZE Z7 0]),eQ (Z8 #[Z9 #[ZE Z7 1,ZE Z7 0],ZE Z7 0]),eQ (Z9 #[ZE Z7 1,ZE Z7 0]),eQ (ZE Z7 0),λv u=>∃g2,v=ptr g2/\w.heap.size<=g2/\Hv u g2 [ZE Z7 0,ZE Z7 0]] [] 2 (some 22) (.act 24 (.quiet 25 .done)) (.quiet 22 (.act 24 (.quiet 25 .done))) ZY ZY ZY ZY (λk0 h=>by cases h;kernel_rfl) (λ_ _ d _ _ h=>by cases d<;>exact h) ZV ZV ⟨BF _,BF _,BF _,BF _,BF _,BF _,BF _,BF _,BF _,BF _,BF _,BF _,BF _,BF _,BF _,BF _,BF _,BF _,BF _,BF _,BF _,BF _,BF _,((λ_ _ _ hb h=>by obtain ⟨g2,e1,h1,hB⟩:=h;exact ⟨g2,e1,h1,hB.below hb⟩)),trivial⟩ trivial ZV ?_ ?_ ?_
    ·refine ⟨?_,?_,?_,?_,?_,?_,?_,?_,?_,?_,?_,?_,?_,?_,?_,?_,?_,?_,?_,?_,?_,?_,?_,?_,trivial⟩
     iterate 19·exact XXkR9
     ·exact XXlAS
     iterate 3·exact XXkR9
     ·exact XXEhL
    ·intro g1 w2 hb hf;have z5:g1 5= _:=hf.at 20;have z26:g1 26= _:=hf.at 21;have z27:g1 27= _:=hf.at 22;have z3:=hf.at 23;clear hf;obtain ⟨g2,e2,hg2,hB2⟩:=z3;simp only [BM,Ab,F4,F7,F6];rw [z5,z26,z27,e2];simp only [Ju,Jw,Er,Ep];exact XX4U6
    ·intro k0 hk0 g1 w2 hb hf;cases hk0;have z5:g1 5= _:=hf.at 20;have z26:g1 26= _:=hf.at 21;have z3:=hf.at 23;clear hf;obtain ⟨g2,e2,hg2,hB2⟩:=z3;simp only [BM,Ab,F4,F7,F6];rw [z5,z26,e2];simp only [Ju,Jw,Er,Ep];refine Jx ZV (ZE Z7 0) (λ_ _=>by go_simp) ?_;simp only [Ab,F4,F7,F6];exact XX4U6
   case rest=>
   obtain ⟨g2,rfl,rfl,HB,HG,HG2⟩:=hcut;have H1:=Dl (H.out.below HB.out);clear HQ;obtain ⟨W0,hW0⟩:∃x,x=wc:=⟨_,rfl⟩;subst hW0;have y0:=HG.out.c 0 _ rfl;have y1:=HG.out.c 1 _ rfl
   have HW:=Dl (finish_any H1.out HO.out);go_wp2_with (go_at_call 180;with_reducible refine HW.out.mono ?_;rintro r w3 ⟨rfl,o1,hP,hS⟩);go_ret;exact ⟨rfl,_,_,_,_,_,_,hP,(II HB.out).trans hS⟩
  ·have tz:¬(n:Int)=0:=by omega
   have tz':((n:Int)==0)=false:=ZM.2 tz;have e:s.endHead p b=(0,{s with st:=3,left:=n}):=by unfold IT;rw [hD];show (if (0:Int)≠0 then _ else if (1:Int)=2 then _ else if (n:Int)=0 then _ else (0,({s with left:=(n:Int).toNat,st:=3}:T)))= _;rw [ZO ZX,ZO ZX,ZO tz,Int.toNat_natCast]
   rw [e];clear hz hD e hvd hle hn;go_enter Tryz.func225,Tryz.ntmps225;go_upto_region 1 with fail
   go_cut [3,4] from 5 to 27 (λu c wx=>∃g2,u=ptr g2/\c=ZE Z7 0/\Hid (Below w.heap.size w wx)/\Hid (Hv wx g2 [ZE Z7 1,ZE Z7 (n:Int)])/\Hid (w.heap.size<=g2))
   case first=>
    refine BP 24 [6,7,8,9,10,11,12,13,14,15,16,17,18,19,20,21,22,23,24,25,5,26,27,3] [eP g 0,eP g 0,eP g 13,eQ (ZE Z5 (p:Int)),eP g 0,eP g 0,eP g 14,eQ (Z9 #[ZE Z7 b.x0,ZE Z7 b.x1,ZE Z7 b.x2,ZE Z7 b.x3,ZE Z7 b.x4,ZE Z7 b.x5,ZE Z7 b.x6,ZE Z7 b.x7,ZB b.ch,ZB b.od]),eP g 0,eP g 0,eP g 1,eP g 5,eQ (ZE Z7 s.r.k),eP g 0,eP g 0,eP g 1,eP g 1,eP g 2,eQ (.slice bf s.r.fs.length cf),eQ (Z8 #[Z9 #[ZE Z7 1,ZE Z7 (n:Int)],ZE Z7 0]),eQ (Z8 #[Z9 #[ZE Z7 1,ZE Z7 (n:Int)],ZE Z7 0]),eQ (Z9 #[ZE Z7 1,ZE Z7 (n:Int)]),eQ (ZE Z7 0),λv u=>∃g2,v=ptr g2/\w.heap.size<=g2/\Hv u g2 [ZE Z7 0,ZE Z7 0]] [] 2 (some 22) (.act 24 (.quiet 25 .done)) (.quiet 22 (.act 24 (.quiet 25 .done))) ZY ZY ZY ZY (λk0 h=>by cases h;kernel_rfl) (λ_ _ d _ _ h=>by cases d<;>exact h) ZV ZV ⟨BF _,BF _,BF _,BF _,BF _,BF _,BF _,BF _,BF _,BF _,BF _,BF _,BF _,BF _,BF _,BF _,BF _,BF _,BF _,BF _,BF _,BF _,BF _,((λ_ _ _ hb h=>by obtain ⟨g2,e1,h1,hB⟩:=h;exact ⟨g2,e1,h1,hB.below hb⟩)),trivial⟩ trivial ZV ?_ ?_ ?_
    ·refine ⟨?_,?_,?_,?_,?_,?_,?_,?_,?_,?_,?_,?_,?_,?_,?_,?_,?_,?_,?_,?_,?_,?_,?_,?_,trivial⟩
     iterate 19·exact XXkR9
     ·exact XXlAS
     iterate 3·exact XXkR9
     ·exact XXEhL
    ·intro g1 w2 hb hf;have z5:g1 5= _:=hf.at 20;have z26:g1 26= _:=hf.at 21;have z27:g1 27= _:=hf.at 22;have z3:=hf.at 23;clear hf;obtain ⟨g2,e2,hg2,hB2⟩:=z3;simp only [BM,Ab,F4,F7,F6];rw [z5,z26,z27,e2];simp only [Ju,Jw,Er,Ep];exact XXsvP
    ·intro k0 hk0 g1 w2 hb hf;cases hk0;have z5:g1 5= _:=hf.at 20;have z26:g1 26= _:=hf.at 21;have z3:=hf.at 23;clear hf;obtain ⟨g2,e2,hg2,hB2⟩:=z3;simp only [BM,Ab,F4,F7,F6];rw [z5,z26,e2];simp only [Ju,Jw,Er,Ep];refine Jx ZV (ZE Z7 0) (λ_ _=>by go_simp) ?_;simp only [Ab,F4,F7,F6];exact XXsvP
   case rest=>
   obtain ⟨g2,rfl,rfl,HB,HG,HG2⟩:=hcut;have H1:=Dl (H.out.below HB.out);clear HQ;obtain ⟨W0,hW0⟩:∃x,x=wc:=⟨_,rfl⟩;subst hW0;have y0:=HG.out.c 0 _ rfl;have y1:=HG.out.c 1 _ rfl
   have H2:=Dl ((H1.out.put 12 (ZE Z7 (n:Int)) {s with left:=n} rfl rfl rfl rfl rfl rfl).put 24 (ZE Z7 3) {s with left:=n,st:=3} rfl rfl rfl rfl rfl rfl);have HS2:=Dl ((II HB.out (L:=blks g q v (.slice bf s.r.fs.length cf) bd t o)).trans ((IL g 12 (ZE Z7 (n:Int)) ZW).trans (IL g 24 (ZE Z7 3) ZW)));have c12:=H1.out.cs.c12;have z12:=H1.out.marks 12;have c24:=H1.out.cs.c24;have z24:=H1.out.marks 24;go_wp2;go_ret;exact XXCdj
 ·have HZ:=Dl (show∀w2,Below (w.drewN 1).heap.size (w.drewN 1) w2->Calls Mm 244 #[ZE Z5 (p:Int),Z9 #[ZE Z7 b.x0,ZE Z7 b.x1,ZE Z7 b.x2,ZE Z7 b.x3,ZE Z7 b.x4,ZE Z7 b.x5,ZE Z7 b.x6,ZE Z7 b.x7,ZB b.ch,ZB b.od],ZE Z7 s.r.k,.slice bf s.r.fs.length cf] w2 λr w'=>r=.returned (Z8 #[Z9 #[ZE Z7 0,ZE Z7 0],ZE Z7 (e:Int)])/\Below w2.heap.size w2 w' from λw2 hb=>by have:=hz w2 hb;rw [hD] at this;exact this);have tz:¬(e:Int)=0:=by omega
  have tz':((e:Int)==0)=false:=ZM.2 tz;have tz2:((e:Int) != 0)=true:=bne_iff_ne.2 tz;have e1:s.endHead p b=(e,s):=by unfold IT;rw [hD];show (if (e:Int)≠0 then ((e:Int).toNat,s) else _)= _;rw [ZN tz,Int.toNat_natCast]
  rw [e1];clear hz hD e1 hvd he;go_enter Tryz.func225,Tryz.ntmps225;go_upto_region 1 with fail
  go_cut [3,4] from 5 to 27 (λu c wx=>∃g2,u=ptr g2/\c=ZE Z7 (e:Int)/\Hid (Below w.heap.size w wx)/\Hid (Hv wx g2 [ZE Z7 0,ZE Z7 0])/\Hid (w.heap.size<=g2))
  case first=>
   refine BP 24 [6,7,8,9,10,11,12,13,14,15,16,17,18,19,20,21,22,23,24,25,5,26,27,3] [eP g 0,eP g 0,eP g 13,eQ (ZE Z5 (p:Int)),eP g 0,eP g 0,eP g 14,eQ (Z9 #[ZE Z7 b.x0,ZE Z7 b.x1,ZE Z7 b.x2,ZE Z7 b.x3,ZE Z7 b.x4,ZE Z7 b.x5,ZE Z7 b.x6,ZE Z7 b.x7,ZB b.ch,ZB b.od]),eP g 0,eP g 0,eP g 1,eP g 5,eQ (ZE Z7 s.r.k),eP g 0,eP g 0,eP g 1,eP g 1,eP g 2,eQ (.slice bf s.r.fs.length cf),eQ (Z8 #[Z9 #[ZE Z7 0,ZE Z7 0],ZE Z7 (e:Int)]),eQ (Z8 #[Z9 #[ZE Z7 0,ZE Z7 0],ZE Z7 (e:Int)]),eQ (Z9 #[ZE Z7 0,ZE Z7 0]),eQ (ZE Z7 (e:Int)),λv u=>∃g2,v=ptr g2/\w.heap.size<=g2/\Hv u g2 [ZE Z7 0,ZE Z7 0]] [] 2 (some 22) (.act 24 (.quiet 25 .done)) (.quiet 22 (.act 24 (.quiet 25 .done))) ZY ZY ZY ZY (λk0 h=>by cases h;kernel_rfl) (λ_ _ d _ _ h=>by cases d<;>exact h) ZV ZV ⟨BF _,BF _,BF _,BF _,BF _,BF _,BF _,BF _,BF _,BF _,BF _,BF _,BF _,BF _,BF _,BF _,BF _,BF _,BF _,BF _,BF _,BF _,BF _,((λ_ _ _ hb h=>by obtain ⟨g2,e1,h1,hB⟩:=h;exact ⟨g2,e1,h1,hB.below hb⟩)),trivial⟩ trivial ZV ?_ ?_ ?_
   ·refine ⟨?_,?_,?_,?_,?_,?_,?_,?_,?_,?_,?_,?_,?_,?_,?_,?_,?_,?_,?_,?_,?_,?_,?_,?_,trivial⟩
    iterate 19·exact XXkR9
    ·exact XXlAS
    iterate 3·exact XXkR9
    ·exact XXEhL
   ·intro g1 w2 hb hf;have z5:g1 5= _:=hf.at 20;have z26:g1 26= _:=hf.at 21;have z27:g1 27= _:=hf.at 22;have z3:=hf.at 23;clear hf;obtain ⟨g2,e2,hg2,hB2⟩:=z3;simp only [BM,Ab,F4,F7,F6];rw [z5,z26,z27,e2];simp only [Ju,Jw,Er,Ep];exact XX0H4
   ·intro k0 hk0 g1 w2 hb hf;cases hk0;have z5:g1 5= _:=hf.at 20;have z26:g1 26= _:=hf.at 21;have z3:=hf.at 23;clear hf;obtain ⟨g2,e2,hg2,hB2⟩:=z3;simp only [BM,Ab,F4,F7,F6];rw [z5,z26,e2];simp only [Ju,Jw,Er,Ep];refine Jx ZV (ZE Z7 (e:Int)) (λ_ _=>by go_simp) ?_;simp only [Ab,F4,F7,F6];exact XX0H4
  case rest=>
  obtain ⟨g2,rfl,rfl,HB,HG,HG2⟩:=hcut;have H1:=Dl (H.out.below HB.out);clear HQ;obtain ⟨W0,hW0⟩:∃x,x=wc:=⟨_,rfl⟩;subst hW0;have y0:=HG.out.c 0 _ rfl;have y1:=HG.out.c 1 _ rfl;go_wp2;go_ret;exact ⟨rfl,_,_,_,_,_,_,H1.out,II HB.out⟩
theorem XXoqK {P:Prop} (h:P:=by
 refine ⟨_,rfl,?_⟩;refine hK _ _ trivial ?_;clear hK K;simp only [Ab,F4,F7,F6];refine Jq _ ZV ZV ?_;simp only [Ab,Aa,Am,E6,Er,Ep,GW,F4,F7,F6];refine Js ?_;have HP2:=Dl hP;have HS2:=Dl (HS1.out.trans hS);clear hP hS HFI HS1 HFI0;go_wp2;go_ret
 exact ⟨rfl,_,_,_,_,_,_,HP2.out,HS2.out⟩):P:=h
theorem XXCDO {P:Prop} (h:P:=by
 go_ret
 exact ⟨rfl,_,_,_,_,_,_,hP,hS⟩):P:=h
theorem fieldLine_any (hp:p<4294967296) (h3:16<=b.x3/\b.x3<=1048576) (x:ByteArray) (hx:x.size<=5000) (h:PR w B g q v f bd t o p b s) (hl:s.hl<=1000) (hlen:s.r.fs.length<=500) (hsz:∀y∈s.r.fs,y.1.size<=1000000/\y.2.size<=1000000) (hout:s.out.length<=1000000000):Calls Mm 204 #[ptr g,ZD x] w λr w'=>
 r=.returned (ZE Z7 (((s.fields p b x.data.toList).1:Nat):Int))/\∃q1 v1 f1 bd1 t1 o1,PR w' B g q1 v1 f1 bd1 t1 o1 p b (s.fields p b x.data.toList).2/\Step (blks g q v f bd t o) (blks g q1 v1 f1 bd1 t1 o1) w w':=by
 rcases Gg x.size with h0 | h0
 ·obtain rfl:=empty_of h0;have HE:=Dl (endHead_any hp h3 h hlen hsz hout);have e:s.fields p b (⟨#[]⟩:ByteArray).data.toList=s.endHead p b:=rfl;rw [e];clear h h0 hx e hl hlen hsz hout;go_enter Tryz.func204,Tryz.ntmps204;go_wp2_with (go_at_call 225;with_reducible refine HE.out.mono ?_;rintro r w2 ⟨rfl,q1,v1,f1,bd1,t1,o1,hP,hS⟩);exact XXCDO
 ·have hne:=list_ne h0;have te:=Fd.first_no x h0;have HQ:=Dl ((h.drew 1).bk);unfold T.fields;rw [ZO hne];have HFI0:=Dl (λw1 (hb:Below w.heap.size w w1)=>addF_any hp x hx b.x1 (h.below hb) hl hsz hlen);clear h hne h0 hl hlen hsz hout hx;go_enter Tryz.func204,Tryz.ntmps204;go_upto_region 3 with fail
  refine BN 14 [9,10,11,12,13,14,15,16,17,18,19,20,21,22] [eP g 0,eP g 0,eP g 1,eP g 1,eQ (ZD x),eP g 0,eP g 0,eP g 13,eQ (ZE Z5 (p:Int)),eP g 0,eP g 0,eP g 14,eP g 15,eQ (ZE Z7 b.x1)] (.act 14 (.quiet 15 .done)) ZY ZY ZY ZY (λ_ _ d _ _ h=>by cases d<;>exact h) ZV ZV XXa25 ?_ ?_
  ·refine ⟨?_,?_,?_,?_,?_,?_,?_,?_,?_,?_,?_,?_,?_,?_,trivial⟩
   all_goals (refine BI rfl (λev w1 hR hb hh=>?_);have e0:=hR.old 0 rfl;have e1:=hR.old 1 rfl;simp only [Am,E6,Ep,Er,GW] at e0 e1;have q13:=(HQ.out.below hb).c 13 _ rfl;have q15:=(HQ.out.below hb).c 15 _ rfl;exact Each.std)
  intro g1 w2 hb hf;have z12:g1 12= _:=hf.at 3;have z13:g1 13= _:=hf.at 4;have z17:g1 17= _:=hf.at 8;have z22:g1 22= _:=hf.at 13;clear hf;simp only [BM,Ab,F4,F7,F6];rw [z12,z13,z17,z22];simp only [Ju,Jw,Er,Ep]
  have HS1:=Dl (II hb (L:=blks g q v f bd t o));have HFI:=Dl (HFI0.out _ hb);clear hb HQ
  refine Jr ZV (λK hK=>?_);refine BL (g:=226) (args:=#[ZA (some ⟨g,1,none⟩),ZD x,ZE Z5 (p:Int),ZE Z7 b.x1]) ZU (HFI.out.mono ?_);rintro r w3 ⟨rfl,f1,hP,hS⟩;exact XXoqK
theorem trailerLine_any (hp:p<4294967296) (x:ByteArray) (hx:x.size<=5000) (h:PR w B g q v f bd t o p b s) (hl:s.bl<=1000) (hlen:s.r.ts.length<=500) (hsz:∀y∈s.r.ts,y.1.size<=1000000/\y.2.size<=1000000) (hout:s.out.length<=1000000000):Calls Mm 206 #[ptr g,ZD x] w λr w'=>
 r=.returned (ZE Z7 (((s.trail p b x.data.toList).1:Nat):Int))/\∃q1 v1 f1 bd1 t1 o1,PR w' B g q1 v1 f1 bd1 t1 o1 p b (s.trail p b x.data.toList).2/\Step (blks g q v f bd t o) (blks g q1 v1 f1 bd1 t1 o1) w w':=by
 rcases Gg x.size with h0 | h0
 ·obtain rfl:=empty_of h0;have HE:=Dl (finish_any h hout);have e:s.trail p b (⟨#[]⟩:ByteArray).data.toList=(0,s.fin):=rfl;rw [e];clear h h0 hx e hl hlen hsz hout;go_enter Tryz.func206,Tryz.ntmps206;go_wp2_with (go_at_call 180;with_reducible refine HE.out.mono ?_;rintro r w2 ⟨rfl,o1,hP,hS⟩);exact XXCDO
 ·have hne:=list_ne h0;have te:=Fd.first_no x h0;have HQ:=Dl ((h.drew 1).bk);unfold T.trail;rw [ZO hne];have HFI0:=Dl (λw1 (hb:Below w.heap.size w w1)=>addTR_any hp x hx b.x5 (h.below hb) hl hsz hlen);clear h hne h0 hl hlen hsz hout hx;go_enter Tryz.func206,Tryz.ntmps206;go_upto_region 4 with fail
  refine BN 14 [9,10,11,12,13,14,15,16,17,18,19,20,21,22] [eP g 0,eP g 0,eP g 8,eP g 8,eQ (ZD x),eP g 0,eP g 0,eP g 13,eQ (ZE Z5 (p:Int)),eP g 0,eP g 0,eP g 14,eP g 19,eQ (ZE Z7 b.x5)] (.act 14 (.quiet 15 .done)) ZY ZY ZY ZY (λ_ _ d _ _ h=>by cases d<;>exact h) ZV ZV XXa25 ?_ ?_
  ·refine ⟨?_,?_,?_,?_,?_,?_,?_,?_,?_,?_,?_,?_,?_,?_,trivial⟩
   all_goals (refine BI rfl (λev w1 hR hb hh=>?_);have e0:=hR.old 0 rfl;have e1:=hR.old 1 rfl;simp only [Am,E6,Ep,Er,GW] at e0 e1;have q13:=(HQ.out.below hb).c 13 _ rfl;have q19:=(HQ.out.below hb).c 19 _ rfl;exact Each.std)
  intro g1 w2 hb hf;have z12:g1 12= _:=hf.at 3;have z13:g1 13= _:=hf.at 4;have z17:g1 17= _:=hf.at 8;have z22:g1 22= _:=hf.at 13;clear hf;simp only [BM,Ab,F4,F7,F6];rw [z12,z13,z17,z22];simp only [Ju,Jw,Er,Ep]
  have HS1:=Dl (II hb (L:=blks g q v f bd t o));have HFI:=Dl (HFI0.out _ hb);clear hb HQ
  refine Jr ZV (λK hK=>?_);refine BL (g:=226) (args:=#[ZA (some ⟨g,8,none⟩),ZD x,ZE Z5 (p:Int),ZE Z7 b.x5]) ZU (HFI.out.mono ?_);rintro r w3 ⟨rfl,t1,hP,hS⟩;exact XXoqK
theorem endLine_any (hp:p<4294967296) (hb:b.right=true) (x:ByteArray) (hx:x.size<=4096) (h:PR w B g q v f bd t o p b s) (ok:s.Ok) (hout:s.out.length<=1000000000):Calls Mm 182 #[ptr g,ZD x] w λr w'=>
 r=.returned (ZE Z7 (((s.line p b x.data.toList).1:Nat):Int))/\∃q1 v1 f1 bd1 t1 o1,PR w' B g q1 v1 f1 bd1 t1 o1 p b (s.line p b x.data.toList).2/\Step (blks g q v f bd t o) (blks g q1 v1 f1 bd1 t1 o1) w w':=by
 have e3:=(Bd.edges hb).2.2.2.1;have c24:=h.cs.c24;have hh:=ok.hl;have hbl:=ok.bl;have hfl:=ok.fsl;have htl:=ok.tsl;have hbd:=ok.body;have hfs:∀y∈s.r.fs,y.1.size<=1000000/\y.2.size<=1000000:=λy hy=>by have:=ok.fss y hy;omega
 have hts:∀y∈s.r.ts,y.1.size<=1000000/\y.2.size<=1000000:=λy hy=>by have:=ok.tss y hy;omega
 unfold IX;by_cases h1:s.st=1
 ·rw [ZN h1];rw [h1] at c24;have HA:=Dl (firstLine_any hp x ZZ h);clear h ok h1 hx hfs hts hh hbl hfl htl hbd hout e3;go_enter Tryz.func182,Lv;go_wp2_with (go_at_call 203;with_reducible refine HA.out.mono ?_;rintro r w2 ⟨rfl,q1,v1,f1,bd1,t1,o1,hP,hS⟩);exact XXCDO
 ·rw [ZO h1];by_cases h2:s.st=2
  ·rw [ZN h2];rw [h2] at c24;have HA:=Dl (fieldLine_any hp e3 x ZZ h ZZ ZZ hfs hout);clear h ok h1 h2 hx hfs hts hh hbl hfl htl hbd hout e3;go_enter Tryz.func182,Lv;go_wp2_with (go_at_call 204;with_reducible refine HA.out.mono ?_;rintro r w2 ⟨rfl,q1,v1,f1,bd1,t1,o1,hP,hS⟩);exact XXCDO
  ·rw [ZO h2];by_cases h4:s.st=4
   ·rw [ZN h4];rw [h4] at c24;have HA:=Dl (sizeLine_any hp e3 x ZZ h ZZ);clear h ok h1 h2 h4 hx hfs hts hh hbl hfl htl hbd hout e3;go_enter Tryz.func182,Lv;go_wp2_with (go_at_call 205;with_reducible refine HA.out.mono ?_;rintro r w2 ⟨rfl,q1,v1,f1,bd1,t1,o1,hP,hS⟩);exact XXCDO
   ·rw [ZO h4];by_cases h7:s.st=7
    ·rw [ZN h7];rw [h7] at c24;have HA:=Dl (trailerLine_any hp x ZZ h ZZ ZZ hts hout);clear h ok h1 h2 h4 h7 hx hfs hts hh hbl hfl htl hbd hout e3;go_enter Tryz.func182,Lv;go_wp2_with (go_at_call 206;with_reducible refine HA.out.mono ?_;rintro r w2 ⟨rfl,q1,v1,f1,bd1,t1,o1,hP,hS⟩);exact XXCDO
    ·rw [ZO h7];have t1:((s.st:Int)==1)=false:=ZM.2 ZZ;have t2:((s.st:Int)==2)=false:=ZM.2 ZZ;have t4:((s.st:Int)==4)=false:=ZM.2 ZZ;have t7:((s.st:Int)==7)=false:=ZM.2 ZZ;have m1:¬(s.st:Int)=1:=ZZ;have m2:¬(s.st:Int)=2:=ZZ;have m4:¬(s.st:Int)=4:=ZZ;have m7:¬(s.st:Int)=7:=ZZ;have c14:=h.cs.c14;have HA:=Dl (enter_any hp h 4 4 rfl b.x0);clear h ok hx hfs hts hh hbl hfl htl hbd hout e3;go_enter Tryz.func182,Lv;go_wp2_with (go_at_call 68;with_reducible refine HA.out.mono ?_;rintro r w2 ⟨rfl,q1,hP,hS⟩);exact XXCDO
end
end Pg
open _root_.Bool renaming and_false→AN,and_true→AO,false_and→AS
open _root_.Go.Proofs.Tryz renaming func157→JA,ntmps114→Le,ntmps157→Lk
open _root_.List renaming append_nil→D8,getElem_mem→EB,length_take→Fc,take_append_drop→FD,take_of_length_le→FF,take_succ_eq_append_getElem→FG
open _root_.Nat renaming le_succ→Gj,zero_le→Gz
open Mem.Keeps renaming of_below→CQ
open Pg.Q renaming read→Hr
open Pg.T renaming inLine→IW
theorem XXVqF {P:Prop} (h:P:=by
 rcases (by simpa using hm:j=q∨some j=v.ownBlock) with e | e
 ·exact h1 (h.lone i 1 j hj XX1c2)
 ·exact h2 (h.lone i 2 j hj XX1c2)):P:=h
namespace Pg
open Base Txt Mem Par
def At (w:World) (B:Zone) (g:Nat) (p:Nat) (b:Bd) (L:List (Option Nat)):Q->Prop
 | .live s=>∃q v f bd t o,L=blks g q v f bd t o/\PR w B g q v f bd t o p b s
 | .dead e out=>∃o,L= [some g,o.ownBlock]/\Dead w B g e o out
theorem ba_list (l:List UInt8):(ba l).data.toList=l:=rfl
section
variable {w w':World} {B:Zone} {g q:Nat} {v f bd t o:Value} {p:Nat} {rd:FJ} {fs ts:List Fld} {body:List UInt8} {out:List Hz}
theorem Own.reader (h:Own w B g q v f bd t o rd fs body ts out) {v':Value} {rd':FJ} (hk:Ln.Kept q v.ownBlock w w') (hm:Ln.Moved w v.ownBlock v'.ownBlock) (hr:Ln.Rd w' B q v' rd') :
 Own w' B g q v' f bd t o rd' fs body ts out/\Step (blks g q v f bd t o) (blks g q v' f bd t o) w w'/\Keeps [some q,v.ownBlock] w w':=by
 have hk2:Keeps [some q,v.ownBlock] w w':=Keeps.of_kept hk ZW λk e=>by simp [e]
 have hn:∀i j,i≠1->i≠2->(blks g q v f bd t o)[i]?=some (some j)->some j∉ [some q,v.ownBlock]:=λi j h1 h2 hj hm=>by exact XXVqF
 have e:blks g q v' f bd t o=(blks g q v f bd t o).set 2 v'.ownBlock:=rfl;have ho:v'.ownBlock=none∨(blks g q v f bd t o)[2]?=some v'.ownBlock∨∃k,v'.ownBlock=some k/\w.heap.size<=k:=by
  rcases hm with e | e | e
  ·exact .inr (.inl XX1c2)
  ·exact .inl e
  ·exact .inr (.inr e)
 have hof:Of w (blks g q v f bd t o) (blks g q v' f bd t o):=by rw [e];exact Of.set 2 _ ho
 have hkL:Keeps (blks g q v f bd t o) w w':=hk2.mono λk hk=>by
  rcases (by simpa using hk:k=q∨some k=v.ownBlock) with e | e
  ·simp [e]
  ·simp [e]
 obtain ⟨ps,h1,h2,h3⟩:=h.O
 refine ⟨⟨hr,hk2.own h.F λj e=>hn 3 j ZX ZX XXd29,hk2.own h.D λj e=>hn 4 j ZX ZX XXd29,hk2.own h.TR λj e=>hn 5 j ZX ZX XXd29,
  ⟨ps,h1,λx hx=>⟨(h2 x hx).1,by
    have hx2:=(h2 x hx).2.keeps hkL
    exact ⟨hx2.reads,λk hb=>⟨λhm=>by
     rcases hof k hm with e | e
     ·exact (hx2.far k hb).1 e
     ·exact ZG ((h2 x hx).2.far k hb).2 ZZ,(hx2.far k hb).2⟩,hx2.off⟩⟩,hk2.own h3 λj e=>hn 6 j ZX ZX XXd29⟩,?_,h.ge,Gn h.lt hk2.size,h.zone.of hk2.size hof⟩,⟨hkL,hof⟩,hk2⟩
 rw [e];exact h.lone.set h.in 2 _ ho
theorem PR.reader {b:Bd} {s:T} (h:PR w B g q v f bd t o p b s) {v':Value} {rd':FJ} (hk:Ln.Kept q v.ownBlock w w') (hm:Ln.Moved w v.ownBlock v'.ownBlock) (hr:Ln.Rd w' B q v' rd') :
 PR w' B g q v' f bd t o p b {s with rd:=rd'}/\Step (blks g q v f bd t o) (blks g q v' f bd t o) w w':=by
 obtain ⟨h1,h2,h3⟩:=h.own.reader hk hm hr;refine ⟨⟨h3.row h.row λhm=>?_,h1⟩,h2⟩;rcases (by simpa using hm:g=q∨some g=v.ownBlock) with e | e
 ·exact ZG (h.own.lone 0 1 g rfl XX1c2) ZX
 ·exact ZG (h.own.lone 0 2 g rfl XX1c2) ZX
end
section
attribute [local go_sem] A8
variable {w:World} {B:Zone} {g q:Nat} {v f bd t o:Value} {p:Nat} {b:Bd} {s:T}
theorem reader_any (c:UInt8) (hm:s.rd.Ok) (h:PR w B g q v f bd t o p b s):Calls Mm 181 #[ptr q,ZE Z6 (c.toNat:Int)] w λr w'=>
 ∃v1,r=.returned (ZE Z7 (s.rd.clear.next c))/\PR w' B g q v1 f bd t o p b {s with rd:=s.rd.byte c}/\Step (blks g q v f bd t o) (blks g q v1 f bd t o) w w':=by
 refine (Ln.byte_any c s.rd hm w B q v h.own.R).mono ?_;rintro r w' ⟨v1,rfl,h1,h2,h3⟩;obtain ⟨h4,h5⟩:=h.reader h2 h3 h1;exact ⟨v1,rfl,h4,h5⟩
theorem XXuF3 {P:Prop} (h:P:=by
 rw [e0]
 have HEN:=Dl (λ(w2:World) (v1:Value) (h2:PR w2 B g q v1 f bd t o p b {s with rd:=s.rd.byte c})=>endLine_any hp hb0 (ba ln) (by rw [size_ba];exact hln) h2 ok2 hout);have HLI:=Dl (λ(w2:World) (v1:Value) (h2:PR w2 B g q v1 f bd t o p b {s with rd:=s.rd.byte c})=>Ln.line_any h2.own.R.row h2.own.R.own);have HLN:=Dl hl;have HX:=Dl hx;have c25:=h.cs.c25;clear h hby ok2 hln hl hx e0 hhow ok;rcases Gg e with he | he
 ·subst he;go_enter JA,Lk
  go_wp2_with (first
   |(go_at_call 156;with_reducible refine Cm (HFZ.out) ?_)
   |(go_at_call 182;with_reducible refine HEN2.out.mono ?_;rintro r w4 ⟨rfl,q1,v2,f1,bd1,t1,o1,hP,hS⟩
     have HP:=Dl hP;have HS:=Dl (HS2.out.trans hS);have HFZ:=Dl (fail_zero w4 g);clear hP hS)
   |(go_at_call 183;with_reducible refine Cm HLI2.out ?_)
   |(go_at_call 181;with_reducible refine HBY.out.mono ?_;rintro r w2 ⟨v1,rfl,h2,hS2⟩
     have d25:=h2.cs.c25;have HS2:=Dl hS2;have HEN2:=HEN.out w2 v1 h2;have HLI2:=HLI.out w2 v1 h2
     replace HEN2:=Dl (show Calls Mm 182 #[ptr g,ZD (Ln.ba ln)] w2 λr w'=>r=.returned (ZE Z7 0)/\∃q1 v2 f1 bd1 t1 o1,PR w' B g q1 v2 f1 bd1 t1 o1 p b t2/\Step (blks g q v1 f bd t o) (blks g q1 v2 f1 bd1 t1 o1) w2 w' from by rw [ba_list,HX.out] at HEN2;exact HEN2)
     rw [HLN.out] at HLI2
     replace HLI2:=Dl HLI2
     clear h2 hS2 c25))
  go_ret;exact ⟨rfl,_,⟨_,_,_,_,_,_,rfl,HP.out⟩,HS.out⟩
 ·have hne:e≠0:=by omega
  have e1:ends (e,t2)=.dead e t2.out:=by unfold ends;rw [ZO hne]
  rw [e1];have HNE:=Dl hne;clear he hne e1;go_enter JA,Lk
  go_wp2_with (first
   |(go_at_call 156;with_reducible refine HFA.out.mono ?_;rintro r w5 ⟨rfl,hD,hS5⟩)
   |(go_at_call 182;with_reducible refine HEN2.out.mono ?_;rintro r w4 ⟨rfl,q1,v2,f1,bd1,t1,o1,hP,hS⟩
     have HS:=Dl (HS2.out.trans hS);have HFA:=Dl (fail_any hP e HNE.out _ rfl);clear hP hS)
   |(go_at_call 183;with_reducible refine Cm HLI2.out ?_)
   |(go_at_call 181;with_reducible refine HBY.out.mono ?_;rintro r w2 ⟨v1,rfl,h2,hS2⟩
     have d25:=h2.cs.c25;have HS2:=Dl hS2;have HEN2:=HEN.out w2 v1 h2;have HLI2:=HLI.out w2 v1 h2
     replace HEN2:=Dl (show Calls Mm 182 #[ptr g,ZD (Ln.ba ln)] w2 λr w'=>r=.returned (ZE Z7 (e:Int))/\∃q1 v2 f1 bd1 t1 o1,PR w' B g q1 v2 f1 bd1 t1 o1 p b t2/\Step (blks g q v1 f bd t o) (blks g q1 v2 f1 bd1 t1 o1) w2 w' from by rw [ba_list,HX.out] at HEN2;exact HEN2)
     rw [HLN.out] at HLI2
     replace HLI2:=Dl HLI2
     clear h2 hS2 c25))
  go_ret
  exact ⟨rfl,_,⟨_,rfl,hD⟩,HS.out.trans hS5⟩):P:=h
theorem inLine_any (hp:p<4294967296) (hb0:b.right=true) (c:UInt8) (h:PR w B g q v f bd t o p b s) (ok:s.Ok) (hout:s.out.length<=1000000000):Calls Mm 157 #[ptr g,ZE Z6 (c.toNat:Int)] w λr w'=>
 r=.returned (ZB (s.inLine p b c).2)/\∃L1,At w' B g p b L1 (s.inLine p b c).1/\Step (blks g q v f bd t o) L1 w w':=by
 have hby:=reader_any c ok.rd h;rcases FJ.next_is s.rd.clear c with hhow | hhow | hhow | hhow | hhow
 ·have HBY:=Dl (show Calls Mm 181 #[ptr q,ZE Z6 (c.toNat:Int)] w λr w'=>∃v1,r=.returned (ZE Z7 0)/\PR w' B g q v1 f bd t o p b {s with rd:=s.rd.byte c}/\Step (blks g q v f bd t o) (blks g q v1 f bd t o) w w' from by rw [←hhow];exact hby);have e0:s.inLine p b c=(.live {s with rd:=s.rd.byte c},true):=by
   unfold IW;dsimp only;rw [hhow,ZN rfl]
  rw [e0];have c25:=h.cs.c25;clear h hby ok hout e0 hhow;go_enter JA,Lk;go_wp2_with
   (go_at_call 181;with_reducible refine HBY.out.mono ?_;rintro r w2 ⟨v1,rfl,h2,hS2⟩
    have HP:=Dl h2;have HS:=Dl hS2;clear h2 hS2 c25)
  go_ret;exact ⟨rfl,_,⟨_,_,_,_,_,_,rfl,HP.out⟩,HS.out⟩
 ·have HBY:=Dl (show Calls Mm 181 #[ptr q,ZE Z6 (c.toNat:Int)] w λr w'=>∃v1,r=.returned (ZE Z7 1)/\PR w' B g q v1 f bd t o p b {s with rd:=s.rd.byte c}/\Step (blks g q v f bd t o) (blks g q v1 f bd t o) w w' from by rw [←hhow];exact hby);have ok2:({s with rd:=s.rd.byte c}:T).Ok:=ok.byteR c (by rw [hhow];rfl);have hln:=line_len ok c;obtain ⟨ln,hl⟩:∃ln,(s.rd.byte c).line=ln:=⟨_,rfl⟩;rw [hl] at hln;obtain ⟨⟨e,t2⟩,hx⟩:∃x,IX p b {s with rd:=s.rd.byte c} ln=x:=⟨_,rfl⟩;have e0:s.inLine p b c=(ends (e,t2),true):=by unfold IW;dsimp only;rw [hhow,ZO ZX,ZO ZX,ZO ZX,hl,hx];rfl
  exact XXuF3
 ·have HBY:=Dl (show Calls Mm 181 #[ptr q,ZE Z6 (c.toNat:Int)] w λr w'=>∃v1,r=.returned (ZE Z7 2)/\PR w' B g q v1 f bd t o p b {s with rd:=s.rd.byte c}/\Step (blks g q v f bd t o) (blks g q v1 f bd t o) w w' from by rw [←hhow];exact hby);have ok2:({s with rd:=s.rd.byte c}:T).Ok:=ok.byteR c (by rw [hhow];rfl);have hln:=line_len ok c;obtain ⟨ln,hl⟩:∃ln,(s.rd.byte c).line=ln:=⟨_,rfl⟩;rw [hl] at hln;obtain ⟨⟨e,t2⟩,hx⟩:∃x,IX p b {s with rd:=s.rd.byte c} ln=x:=⟨_,rfl⟩;have e0:s.inLine p b c=(ends (e,t2),false):=by unfold IW;dsimp only;rw [hhow,ZO ZX,ZO ZX,ZO ZX,hl,hx];rfl
  exact XXuF3
 ·have HBY:=Dl (show Calls Mm 181 #[ptr q,ZE Z6 (c.toNat:Int)] w λr w'=>∃v1,r=.returned (ZE Z7 3)/\PR w' B g q v1 f bd t o p b {s with rd:=s.rd.byte c}/\Step (blks g q v f bd t o) (blks g q v1 f bd t o) w w' from by rw [←hhow];exact hby);have e0:s.inLine p b c=(.dead 400 s.out,true):=by
   unfold IW;dsimp only;rw [hhow,ZO ZX,ZN rfl]
  rw [e0];have c25:=h.cs.c25;clear h hby ok hout e0 hhow;go_enter JA,Lk
  go_wp2_with (first
   |(go_at_call 156;with_reducible refine HFA.out.mono ?_;rintro r w5 ⟨rfl,hD,hS5⟩)
   |(go_at_call 181;with_reducible refine HBY.out.mono ?_;rintro r w2 ⟨v1,rfl,h2,hS2⟩
     have HS2:=Dl hS2;have HFA:=Dl (fail_any h2 400 ZX 400 rfl);clear h2 hS2 c25))
  go_ret;exact ⟨rfl,_,⟨_,rfl,hD⟩,HS2.out.trans hS5⟩
 ·have HBY:=Dl (show Calls Mm 181 #[ptr q,ZE Z6 (c.toNat:Int)] w λr w'=>∃v1,r=.returned (ZE Z7 4)/\PR w' B g q v1 f bd t o p b {s with rd:=s.rd.byte c}/\Step (blks g q v f bd t o) (blks g q v1 f bd t o) w w' from by rw [←hhow];exact hby);have HH0:=λw=>Ht p hp 29 w;have c25:=h.cs.c25;have e0:s.inLine p b c=(if (s.st==6&&Hs p 29)=true then (.live (({s with rd:=s.rd.byte c}:T).enter p 4 b.x0),false) else (.dead (longE s.st) s.out,true)):=by
   unfold IW;dsimp only;rw [hhow,ZO ZX,ZO ZX,ZN rfl]
  rw [e0]
  have HEN:=Dl (λ(w2:World) (v1:Value) (h2:PR w2 B g q v1 f bd t o p b {s with rd:=s.rd.byte c})=>enter_any hp h2 4 4 rfl b.x0)
  have HTL:=Dl (λ(w2:World) (v1:Value) (h2:PR w2 B g q v1 f bd t o p b {s with rd:=s.rd.byte c})=>tooLong_any h2.cs.c24)
  have hlong:longE s.st≠0:=by unfold longE;split<;>first | decide |(split<;>decide)
  have HLE:=Dl hlong;clear h hby ok hout e0 hhow hlong;by_cases h6:s.st=6
  ·cases hh:Hs p 29 with
   | true=>
     rw [hh] at HH0;have HH:=Dl HH0;have H6:=Dl h6;rw [h6,ZN ZX];clear HH0 hh h6;go_enter JA,Lk
     go_wp2_with (first
      |(go_at_call 68;with_reducible refine HE2.out.mono ?_;rintro r w5 ⟨rfl,q1,hP,hS5⟩)
      |(go_at_call 84;with_reducible refine Cm (HH.out _) ?_)
      |(go_at_call 181;with_reducible refine HBY.out.mono ?_;rintro r w2 ⟨v1,rfl,h2,hS2⟩
        have HS2:=Dl hS2;have HE2:=Dl (HEN.out w2 v1 h2);have c24:w2.cell? ⟨g,24,none⟩=some (ZE Z7 6):=by have:=h2.cs.c24;rw [show ({s with rd:=s.rd.byte c}:T).st=6 from H6.out] at this;exact this
        have c13:=h2.cs.c13;have c14:=h2.cs.c14;clear h2 hS2 c25))
     go_ret;exact ⟨rfl,_,⟨_,_,_,_,_,_,rfl,hP⟩,HS2.out.trans hS5⟩
   | false=>
     rw [hh] at HH0;have HH:=Dl HH0;have H6:=Dl h6;have e1:(s.st==6&&false)=false:=AN _;rw [e1,ZO ZX];clear HH0 hh h6 e1;go_enter JA,Lk
     go_wp2_with (first
      |(go_at_call 156;with_reducible refine HFA.out.mono ?_;rintro r w5 ⟨rfl,hD,hS5⟩)
      |(go_at_call 184;with_reducible refine Cm HT2.out ?_)
      |(go_at_call 84;with_reducible refine Cm (HH.out _) ?_)
      |(go_at_call 181;with_reducible refine HBY.out.mono ?_;rintro r w2 ⟨v1,rfl,h2,hS2⟩
        have HS2:=Dl hS2;have HT2:=Dl (HTL.out w2 v1 h2);have HFA:=Dl (fail_any h2 (longE s.st) HLE.out _ rfl);have c24:w2.cell? ⟨g,24,none⟩=some (ZE Z7 6):=by have:=h2.cs.c24;rw [show ({s with rd:=s.rd.byte c}:T).st=6 from H6.out] at this;exact this
        have c13:=h2.cs.c13;clear h2 hS2 c25))
     go_ret;exact ⟨rfl,_,⟨_,rfl,hD⟩,HS2.out.trans hS5⟩
  ·have t6:((s.st:Int)==6)=false:=ZM.2 ZZ;have m6:¬(s.st:Int)=6:=by omega
   have m6n:¬s.st=6:=h6;rw [ZM.2 h6,AS,ZO ZX];clear HH0 h6;go_enter JA,Lk
   go_wp2_with (first
    |(go_at_call 156;with_reducible refine HFA.out.mono ?_;rintro r w5 ⟨rfl,hD,hS5⟩)
    |(go_at_call 184;with_reducible refine Cm HT2.out ?_)
    |(go_at_call 181;with_reducible refine HBY.out.mono ?_;rintro r w2 ⟨v1,rfl,h2,hS2⟩
      have HS2:=Dl hS2;have HT2:=Dl (HTL.out w2 v1 h2);have HFA:=Dl (fail_any h2 (longE s.st) HLE.out _ rfl);have c24:w2.cell? ⟨g,24,none⟩=some (ZE Z7 (s.st:Int)):=h2.cs.c24;clear h2 hS2 c25))
   go_ret;exact ⟨rfl,_,⟨_,rfl,hD⟩,HS2.out.trans hS5⟩
theorem XXIv5 {P:Prop} (h:P:=by
 rw [hst] at c24;go_enter Tryz.func114,Le;go_upto_region 10 with fail
 refine BN 8 [23,24,25,26,27,28,29,30] [eP g 0,eP g 0,eP g 1,eP g 0,eP g 0,eP g 14,eP g 16,eQ (ZE Z7 b.x2)] (.act 8 (.quiet 9 .done)) ZY ZY ZY ZY (λ_ _ d _ _ h=>by cases d<;>exact h) ZV ZV XXa25 ?_ ?_
 ·refine ⟨?_,?_,?_,?_,?_,?_,?_,?_,trivial⟩
  all_goals (refine BI rfl (λev w1 hR hb hh=>?_);have e0:=hR.old 0 rfl;simp only [Am,E6,Ep,Er,GW] at e0;have q16:=(HQ.out.below hb).c 16 _ rfl;exact Each.std)
 intro g1 w2 hb hf;have z25:g1 25= _:=hf.at 2;have z30:g1 30= _:=hf.at 7;clear hf;simp only [BM,Ab,F4,F7,F6];rw [z25,z30];simp only [Ju,Jw,Er,Ep]
 have HS1:=Dl (II hb (L:=blks g q v f bd t o));have HFI:=Dl (count_any b.x2 (H.out.below hb) hsz);clear hb HQ;rw [HTR.out] at HFI
 refine Jr ZV (λK hK=>?_);refine BL (g:=155) (args:=#[ZA (some ⟨g,1,none⟩),ZE Z7 b.x2]) ZU (HFI.out.mono ?_);rintro r w3 ⟨rfl,hP,hS⟩;refine ⟨_,rfl,?_⟩;refine hK _ _ trivial ?_;clear hK K;simp only [Ab,F4,F7,F6];refine Jx ZV (ZB false) (λ_ _=>by go_simp) ?_;simp only [Ab,F4,F7,F6];refine Js ?_;have HP2:=Dl hP;have HS2:=Dl (HS1.out.trans hS);clear HFI HS1 hS;have HI:=Dl (inLine_any hp hb0 c hP (ok.counted hb0 hov) (by rw [counted_out];exact hout));clear hP;go_wp2_with (go_at_call 157;with_reducible refine HI.out.mono ?_;rintro r w4 ⟨rfl,L4,hA,hS4⟩);go_ret
 exact ⟨rfl,L4,hA,HS2.out.trans hS4⟩):P:=h
theorem XXtX3 {P:Prop} (h:P:=by
 rw [hst] at c24;go_enter Tryz.func114,Le;go_upto_region 10 with fail
 refine BN 8 [23,24,25,26,27,28,29,30] [eP g 0,eP g 0,eP g 1,eP g 0,eP g 0,eP g 14,eP g 16,eQ (ZE Z7 b.x2)] (.act 8 (.quiet 9 .done)) ZY ZY ZY ZY (λ_ _ d _ _ h=>by cases d<;>exact h) ZV ZV XXa25 ?_ ?_
 ·refine ⟨?_,?_,?_,?_,?_,?_,?_,?_,trivial⟩
  all_goals (refine BI rfl (λev w1 hR hb hh=>?_);have e0:=hR.old 0 rfl;simp only [Am,E6,Ep,Er,GW] at e0;have q16:=(HQ.out.below hb).c 16 _ rfl;exact Each.std)
 intro g1 w2 hb hf;have z25:g1 25= _:=hf.at 2;have z30:g1 30= _:=hf.at 7;clear hf;simp only [BM,Ab,F4,F7,F6];rw [z25,z30];simp only [Ju,Jw,Er,Ep]
 have HS1:=Dl (II hb (L:=blks g q v f bd t o));have HFI:=Dl (count_any b.x2 (H.out.below hb) hsz);clear hb HQ;rw [HTR.out] at HFI
 refine Jr ZV (λK hK=>?_);refine BL (g:=155) (args:=#[ZA (some ⟨g,1,none⟩),ZE Z7 b.x2]) ZU (HFI.out.mono ?_);rintro r w3 ⟨rfl,hP,hS⟩;refine ⟨_,rfl,?_⟩;refine hK _ _ trivial ?_;clear hK K;simp only [Ab,F4,F7,F6];refine Jx ZV (ZB true) (λ_ _=>by go_simp) ?_;simp only [Ab,F4,F7,F6];refine Js ?_;have HP2:=Dl hP;have HS2:=Dl (HS1.out.trans hS);clear HFI HS1 hS;have HF:=Dl (fail_any hP 431 ZX 431 rfl);clear hP;go_wp2_with (go_at_call 156;with_reducible refine HF.out.mono ?_;rintro r w4 ⟨rfl,hD,hS4⟩);go_ret
 exact ⟨rfl,_,⟨_,rfl,by rw [counted_out] at hD;exact hD⟩,HS2.out.trans hS4⟩):P:=h
theorem XXYZX {P:Prop} (h:P:=by
 rw [hst] at c24;clear hst;go_enter Tryz.func114,Le
 go_wp2_with (first
  |(go_at_call 154;with_reducible refine HED.out.mono ?_;rintro r w5 ⟨rfl,q1,v1,f1,bd2,t1,o1,hP,hS5⟩)
  |(go_at_call 153;with_reducible refine HK.out.mono ?_;rintro r w4 ⟨rfl,bd1,h2,hS2⟩
    have HS2:=Dl hS2;have HED:=Dl (HK9.out w4 bd1 h2);clear h2 hS2))
 go_ret
 exact ⟨rfl,_,⟨_,_,_,_,_,_,rfl,hP⟩,HS2.out.trans hS5⟩):P:=h
theorem XXJc6 {P:Prop} (h:P:=by
 rw [hst] at c24;clear hst;go_enter Tryz.func114,Le;go_wp2_with (go_at_call 153;with_reducible refine HK.out.mono ?_;rintro r w4 ⟨rfl,bd1,h2,hS2⟩);go_ret
 exact ⟨rfl,_,⟨_,_,_,_,_,_,rfl,h2⟩,hS2⟩):P:=h
theorem look_any (hp:p<4294967296) (hb0:b.right=true) (c:UInt8) (h:PR w B g q v f bd t o p b s) (ok:s.Ok) (hout:s.out.length<=1000000000):Calls Mm 114 #[ptr g,ZE Z6 (c.toNat:Int)] w λr w'=>
 r=.returned (ZB (s.look p b c).2)/\∃L1,At w' B g p b L1 (s.look p b c).1/\Step (blks g q v f bd t o) L1 w w':=by
 have H:=Dl h;have c24:=h.cs.c24;by_cases hbd:bodied s.st=true
 ·have hl:=ok.left hbd;have hbl:=ok.body;have HK0:=keep_any c h ⟨hl,ZZ⟩ ZZ;have HK9:=Dl (λ(w2:World) (bd1:Value) (h2:PR w2 B g q v f bd1 t o p b (s.keep c))=>endData_any hp h2 hout);have hst:s.st=3∨s.st=5:=by unfold bodied at hbd;simpa using hbd
  unfold T.look;rw [ZN hbd];clear h hb0 hbl hout ok hbd;by_cases h1:s.left=1
  ·rw [ZK h1] at HK0;have HK:=Dl HK0;rw [ZN h1];clear HK0 h1 hl;rcases hst with hst | hst
   iterate 2·exact XXYZX
  ·rw [ZL h1] at HK0;have HK:=Dl HK0;rw [ZO h1];clear HK0 h1 hl;rcases hst with hst | hst
   iterate 2·exact XXJc6
 ·have hbd:bodied s.st=false:=by simpa using hbd
  unfold T.look;rw [ZO (by rw [hbd];decide)];have hn:¬s.st=3/\¬s.st=5:=by unfold bodied at hbd;simpa using hbd
  by_cases hhd:headed s.st=true
  ·rw [ZN hhd];have hst:s.st=1∨s.st=2∨s.st=7:=by
    unfold headed at hhd;simp only [Bc,ZI] at hhd;omega
   have hsz:s.size<=1000000:=Gl ok.size ZX;have HQ:=Dl ((h.drew 1).bk);clear hhd hn
   by_cases hov:b.x2<(s.counted.size:Int)
   ·rw [ZN hov];have HTR:=Dl (show (!decide (b.x2<(s.counted.size:Int)))=false by rw [ZK hov];rfl);clear hov h hbd hout hb0 ok;rcases hst with hst | hst | hst
    iterate 3·exact XXtX3
   ·rw [ZO hov];have HTR:=Dl (show (!decide (b.x2<(s.counted.size:Int)))=true by rw [ZL hov];rfl);clear h hbd;rcases hst with hst | hst | hst
    iterate 3·exact XXIv5
  ·rw [ZO hhd];have hn2:¬s.st=1/\¬s.st=2/\¬s.st=7:=by
    unfold headed at hhd;simp only [Bc,ZI] at hhd;omega
   have t1:((s.st:Int)==1)=false:=ZM.2 ZZ;have m1:¬(s.st:Int)=1:=ZZ;have t2:((s.st:Int)==2)=false:=ZM.2 ZZ;have m2:¬(s.st:Int)=2:=ZZ;have t3:((s.st:Int)==3)=false:=ZM.2 ZZ;have m3:¬(s.st:Int)=3:=ZZ;have t5:((s.st:Int)==5)=false:=ZM.2 ZZ;have m5:¬(s.st:Int)=5:=ZZ;have t7:((s.st:Int)==7)=false:=ZM.2 ZZ;have m7:¬(s.st:Int)=7:=ZZ;have HI:=Dl (inLine_any hp hb0 c h ok hout);clear h hbd ok hout hb0 hhd hn hn2;go_enter Tryz.func114,Le;go_wp2_with (go_at_call 157;with_reducible refine HI.out.mono ?_;rintro r w4 ⟨rfl,L4,hA,hS4⟩);go_ret;exact ⟨rfl,L4,hA,hS4⟩
end
end Pg
namespace Pg
open Base Txt Mem Par
def Q.Ok (b:Bd):Q->Prop
 | .live t=>t.Ok/\b.right=true
 | .dead _ _=>True
section
variable {p:Nat} {b:Bd} {t t':T} {s:List UInt8}
theorem line_out (t:T) (s:List UInt8):(t.line p b s).2.out.length<=t.out.length+1:=by
 have hf:t.fin.out.length<=t.out.length+1:=by show (t.out ++ [t.r]).length<=_;simp
 unfold IX T.first T.fields IT IQ T.trail;split
 ·split
  ·exact Gj _
  ·dsimp only;split<;>exact Gj _
 ·split
  ·split
   ·dsimp only;split
    ·exact Gj _
    ·split
     ·exact Gj _
     ·split
      ·exact hf
      ·exact Gj _
   ·exact Gj _
  ·split
   ·dsimp only;split
    ·exact Gj _
    ·split
     ·exact Gj _
     ·split<;>exact Gj _
   ·split
    ·split
     ·exact hf
     ·exact Gj _
    ·exact Gj _
theorem inLine_out (t:T) (c:UInt8):(t.inLine p b c).1.out.length<=t.out.length+1:=by
 unfold IW;dsimp only;split
 ·exact Gj _
 ·split
  ·exact Gj _
  ·split
   ·split<;>exact Gj _
   ·have h:=line_out (p:=p) (b:=b) {t with rd:=t.rd.byte c} (t.rd.byte c).line;unfold ends;split<;>exact h
theorem look_out (t:T) (c:UInt8):(t.look p b c).1.out.length<=t.out.length+1:=by
 unfold T.look;split
 ·split
  ·show (T.endData p (t.keep c)).out.length<=_;unfold T.endData;split
   ·exact Gj _
   ·show (t.out ++ [_]).length<=_;simp
  ·exact Gj _
 ·split
  ·split
   ·exact Gj _
   ·have h:=inLine_out (p:=p) (b:=b) t.counted c;rw [counted_out] at h;exact h
  ·exact inLine_out t c
theorem take_out (t:T) (c:UInt8):(t.take p b c).out.length<=t.out.length+2:=by
 have h:=look_out (p:=p) (b:=b) {t with cnt:=false} c;have e:({t with cnt:=false}:T).out=t.out:=rfl;rw [e] at h;unfold T.take;rcases hx:({t with cnt:=false}:T).look p b c with ⟨t1 | ⟨e,o⟩,u⟩
 ·rw [hx] at h;have h:t1.out.length<=t.out.length+1:=h;cases u with
  | true=>show t1.out.length<=_;omega
  | false=>
    have h2:=look_out (p:=p) (b:=b) t1 c;show (t1.look p b c).1.out.length<=_;omega
 ·rw [hx] at h;have h:o.length<=t.out.length+1:=h
  cases u<;> (show o.length<=_;omega)
theorem Q.byte_out (x:Q) (c:UInt8):(x.byte p b c).out.length<=x.out.length+2:=by
 cases x with
 | live t=>exact take_out t c
 | dead e o=>show o.length<=o.length+2;omega
theorem Q.feed_out:∀(l:List UInt8) (x:Q),(x.feed p b l).out.length<=x.out.length+2*l.length
 | [],_=>Gi _
 | c::l,x=>by
   have h1:=Q.byte_out (p:=p) (b:=b) x c;have h2:=Q.feed_out l (x.byte p b c);rw [feed_cons,EP];omega
theorem Q.Ok.byte {x:Q} (h:x.Ok b) (c:UInt8):(x.byte p b c).Ok b:=by
 cases x with
 | live t=>
   show (t.take p b c).Ok b;rcases hx:t.take p b c with t1 | ⟨e,o⟩
   ·exact ⟨T.Ok.take h.1 h.2 c hx,h.2⟩
   ·trivial
 | dead e o=>trivial
theorem Q.Ok.feed:∀(l:List UInt8) {x:Q},x.Ok b->(x.feed p b l).Ok b
 | [],_,h=>h
 | c::l,_,h=>Q.Ok.feed l (h.byte c)
end
structure Bts (L:List (Option Nat)) (w:World) (a:Option Addr) (l:List UInt8):Prop where
 nums:Nums .u8 w a l.length (l.map λc=>(c.toNat:Int))
 far:∀ad,a=some ad->some ad.block∉L/\ad.block<w.heap.size
structure Parts (L:List (Option Nat)) (w:World) (a:Option Addr) (ls:List (List UInt8)):Prop where
 cells:0<ls.length->∃bk off,a=some ⟨bk,off,none⟩/\bk<w.heap.size/\some bk∉L/\∀k (hk:k<ls.length),∃ak ck,w.cell? ⟨bk,off+k,none⟩=some (.slice ak ls[k].length ck)/\Bts L w ak ls[k]
theorem Bts.step {L L':List (Option Nat)} {w w':World} {a:Option Addr} {l:List UInt8} (h:Bts L w a l) (hs:Step L L' w w'):Bts L' w' a l:=by
 refine ⟨nums_keeps h.nums hs.keeps (λc=>?_),λad e=>⟨λhm=>?_,Gn (h.far ad e).2 hs.keeps.size⟩⟩
 ·cases ha:a with
  | none=>exact .inl rfl
  | some ad=>exact .inr ⟨ad.block,rfl,(h.far ad ha).1⟩
 ·rcases hs.of _ hm with h1 | h1
  ·exact (h.far ad e).1 h1
  ·have:=(h.far ad e).2;omega
theorem Parts.step {L L':List (Option Nat)} {w w':World} {a:Option Addr} {ls:List (List UInt8)} (h:Parts L w a ls) (hs:Step L L' w w'):Parts L' w' a ls:=by
 refine ⟨λh0=>?_⟩;obtain ⟨bk,off,e,hlt,hn,hc⟩:=h.cells h0;refine ⟨bk,off,e,Gn hlt hs.keeps.size,λhm=>?_,λk hk=>?_⟩
 ·rcases hs.of _ hm with h1 | h1
  ·exact hn h1
  ·omega
 ·obtain ⟨ak,ck,h1,h2⟩:=hc k hk;exact ⟨ak,ck,(hs.keeps.cell (p:=⟨bk,off+k,none⟩) hlt hn).trans h1,h2.step hs⟩
section
attribute [local go_sem] A8
variable {w:World} {B:Zone} {g q:Nat} {v f bd t o:Value} {p:Nat} {b:Bd} {s:T}
theorem Dead.cell0 {e:Nat} {out:List Hz} (h:Dead w B g e o out):w.cell? ⟨g,0,none⟩=some (ZE Z7 (e:Int)):=row_cellL h.row rfl
theorem Dead.put {e:Nat} {out:List Hz} (h:Dead w B g e o out) (k:Nat) (u:Value) (o':Value) (out':List Hz) (hc:(deadcells e o).set k u=deadcells e o') (hO:Outs [some g,o'.ownBlock] B (w.setCell ⟨g,k,none⟩ u) o' out') (hn:o'.ownBlock≠some g) (hz:o'.ownBlock=none∨o'.ownBlock=o.ownBlock):Dead (w.setCell ⟨g,k,none⟩ u) B g e o' out':=
 ⟨by rw [←hc];exact row_setL h.row k u,hO,hn,h.ge,by simpa using h.lt,h.bad,h.zone.of ZW λk hk=>.inl (by
   rcases (by simpa using hk:k=g∨some k=o'.ownBlock) with e | e
   ·simp [e]
   ·rcases hz with z | z
    ·rw [z] at e;cases e
    ·rw [←z,←e];simp)⟩
theorem Dead.same {e:Nat} {out:List Hz} (h:Dead w B g e o out) (k:Nat) (u:Value) (hc:(deadcells e o).set k u=deadcells e o):Dead (w.setCell ⟨g,k,none⟩ u) B g e o out:=
 h.put k u o out hc (h.O.keeps (CU g k u (Fv.2 rfl)) (λk hk=>by simp only [Fv] at hk;simp [hk]) (λk e hm=>h.ne (by rw [e,Fv.1 hm]))) h.ne (.inr rfl)
theorem XXfSm {P:Prop} (h:P:=by
 clear htw hx hok2 hoo;go_enter Tryz.func71,Tryz.ntmps71;go_upto_region 1 with fail
 generalize w.setCell ⟨g,7,none⟩ (ZB false)=W1 at *;clear c7 z7
 have HF:=Dl (failed_live H1.out.cs.c0);have HL1:=Dl (HL.out _ H1.out);refine wp_loop_rounds 1 ?_;rw [rounds_succ]
 go_wp2_with (first
  |(go_at_call 114;with_reducible refine HL1.out.mono ?_;rintro r w2 ⟨rfl,L2,hA,hS2⟩)
  |(go_at_call 78;with_reducible refine Cm HF.out ?_))
 first | go_end0 | refine ZF (results_none rfl _ _ _) rfl ?_
 exact ⟨rfl,_,hA,HS1.out.trans hS2⟩):P:=h
theorem take_any (hp:p<4294967296) (c:UInt8) (x:Q) {L:List (Option Nat)} (h:At w B g p b L x) (ok:x.Ok b) (hout:x.out.length<=999999998):Calls Mm 71 #[ptr g,ZE Z6 (c.toNat:Int)] w λr w'=>
 r=.returned (Z8 #[])/\∃L',At w' B g p b L' (x.byte p b c)/\Step L L' w w':=by
 cases x with
 | dead e out=>
   obtain ⟨o,rfl,hd⟩:=h
   have H1:=Dl (hd.same 7 (ZB false) rfl);have HS1:=Dl (IL (w:=w) (L:= [some g,o.ownBlock]) g 7 (ZB false) ZW);have HB:=Dl hd.bad;have c7:=row_cellL hd.row (k:=7) rfl;have z7:=FX hd.row 7;clear hd ok hout;go_enter Tryz.func71,Tryz.ntmps71;go_upto_region 1 with fail
   generalize w.setCell ⟨g,7,none⟩ (ZB false)=W1 at *;clear c7 z7;have HF:=Dl (failed_dead H1.out.cell0 HB.out);refine wp_loop_rounds 1 ?_;rw [rounds_succ];go_wp2_with (go_at_call 78;with_reducible refine Cm HF.out ?_);first | go_end0 | refine ZF (results_none rfl _ _ _) rfl ?_
   exact ⟨rfl,_,⟨_,rfl,H1.out⟩,HS1.out⟩
 | live s=>
   obtain ⟨q,v,f,bd,t,o,rfl,h⟩:=h
   have H1:=Dl (h.put 7 (ZB false) {s with cnt:=false} rfl rfl rfl rfl rfl rfl);have HS1:=Dl (IL (w:=w) (L:=blks g q v f bd t o) g 7 (ZB false) ZW);have c7:=h.cs.c7;have z7:=h.marks 7;obtain ⟨ok,hb0⟩:s.Ok/\b.right=true:=ok;have hout:s.out.length<=999999998:=hout;have ok1:=ok.cleared;obtain ⟨S1,hS1⟩:∃S1:T,{s with cnt:=false}=S1:=⟨_,rfl⟩;have ho1:S1.out.length<=999999998:=by rw [←hS1];exact hout
   rw [hS1] at ok1 H1
   have e:Q.byte p b (.live s) c=(match S1.look p b c with
    |(.live t1,false)=>(t1.look p b c).1
    |(x,_)=>x):=by rw [←hS1];rfl
   have HL:=Dl (λ(w2:World) (h2:PR w2 B g q v f bd t o p b S1)=>look_any hp hb0 c h2 ok1 ZZ);have htw:=λt'=>look_twice (p:=p) (t':=t') ok1 hb0 c;have hoo:=look_out (p:=p) (b:=b) S1 c;have hok2:=λt' (h:(S1.look p b c).1=.live t')=>ok1.look hb0 c h;rw [e];clear h ok hout e hS1;rcases hx:S1.look p b c with ⟨t1 | ⟨e,out⟩,u⟩
   ·rw [hx] at HL hoo;cases u with
    | true=>
      show Calls _ _ _ _ λr w'=>r=.returned (Z8 #[])/\∃L',At w' B g p b L' (.live t1)/\Step _ L' w w';exact XXfSm
    | false=>
      have hu:=htw t1 hx;show Calls _ _ _ _ λr w'=>r=.returned (Z8 #[])/\∃L',At w' B g p b L' (t1.look p b c).1/\Step _ L' w w'
      have ok2:=hok2 t1 (by rw [hx]);have hoo:t1.out.length<=S1.out.length+1:=hoo;have HL9:=λ(w2:World) (q v f bd t o) (h2:PR w2 B g q v f bd t o p b t1)=>look_any hp hb0 c h2 ok2 ZZ;rw [hu] at HL9;have HL2:=Dl HL9;clear htw hx hok2 hoo hu ok2 HL9;go_enter Tryz.func71,Tryz.ntmps71;go_upto_region 1 with fail
      generalize w.setCell ⟨g,7,none⟩ (ZB false)=W1 at *;clear c7 z7
      have HF:=Dl (failed_live H1.out.cs.c0);have HL1:=Dl (HL.out _ H1.out);refine wp_loop_rounds 2 ?_;rw [rounds_succ]
      go_wp2_with (first
       |(go_at_call 114;with_reducible refine HL1.out.mono ?_;rintro r w2 ⟨rfl,L2,hA,hS2⟩)
       |(go_at_call 78;with_reducible refine Cm HF.out ?_))
      obtain ⟨q2,v2,f2,bd2,t2,o2,rfl,h2⟩:=hA
      have HF2:=Dl (failed_live h2.cs.c0)
      have HL3:=Dl (HL2.out _ _ _ _ _ _ _ h2);have HS2:=Dl (HS1.out.trans hS2);clear h2 hS2 HF HL1 HL2 H1 HS1;rw [rounds_succ]
      go_wp2_with (first
       |(go_at_call 114;with_reducible refine HL3.out.mono ?_;rintro r w4 ⟨rfl,L4,hA4,hS4⟩)
       |(go_at_call 78;with_reducible refine Cm HF2.out ?_))
      first | go_end0 | refine ZF (results_none rfl _ _ _) rfl ?_
      exact ⟨rfl,_,hA4,HS2.out.trans hS4⟩
   ·rw [hx] at HL hoo;cases u with
    | true=>
      show Calls _ _ _ _ λr w'=>r=.returned (Z8 #[])/\∃L',At w' B g p b L' (.dead e out)/\Step _ L' w w';exact XXfSm
    | false=>
      show Calls _ _ _ _ λr w'=>r=.returned (Z8 #[])/\∃L',At w' B g p b L' (.dead e out)/\Step _ L' w w';clear htw hx hok2 hoo;go_enter Tryz.func71,Tryz.ntmps71;go_upto_region 1 with fail
      generalize w.setCell ⟨g,7,none⟩ (ZB false)=W1 at *;clear c7 z7
      have HF:=Dl (failed_live H1.out.cs.c0);have HL1:=Dl (HL.out _ H1.out);refine wp_loop_rounds 2 ?_;rw [rounds_succ]
      go_wp2_with (first
       |(go_at_call 114;with_reducible refine HL1.out.mono ?_;rintro r w2 ⟨rfl,L2,hA,hS2⟩)
       |(go_at_call 78;with_reducible refine Cm HF.out ?_))
      obtain ⟨o2,rfl,h2⟩:=hA;have HF2:=Dl (failed_dead h2.cell0 h2.bad);have HD2:=Dl h2;have HS2:=Dl (HS1.out.trans hS2);clear h2 hS2 HF HL1 H1 HS1;rw [rounds_succ];go_wp2_with (go_at_call 78;with_reducible refine Cm HF2.out ?_);first | go_end0 | refine ZF (results_none rfl _ _ _) rfl ?_
      exact ⟨rfl,_,⟨_,rfl,HD2.out⟩,HS2.out⟩
end
end Pg
theorem XXZe9 {P:Prop} (h:P:=by intro x hx;cases hx):P:=h
theorem XXTkD {P:Prop} (h:P:=by
 obtain ⟨i,hi⟩:=List.getElem?_of_mem hm;have h6:(blks g q v f bd t o)[6]?=some (some k):=by rw [←e];rfl
 rcases i with _ | _ | _ | _ | _ | _ | _ | i
 ·exact h.own.lone.ne (i:=0) (j:=6) (k:=k) hi ZX h6
 ·exact h.own.lone.ne (i:=1) (j:=6) (k:=k) hi ZX h6
 ·exact h.own.lone.ne (i:=2) (j:=6) (k:=k) hi ZX h6
 ·exact h.own.lone.ne (i:=3) (j:=6) (k:=k) hi ZX h6
 ·exact h.own.lone.ne (i:=4) (j:=6) (k:=k) hi ZX h6
 ·exact h.own.lone.ne (i:=5) (j:=6) (k:=k) hi ZX h6
 ·cases hi
 ·cases hi):P:=h
theorem XX5KD {P:Prop} (h:P:=by
 simp only [Fk,Fx,or_false,Value.ownBlock,reduceCtorEq] at hk ⊢
 rcases hk with e | e | e | e | e | e<;>simp [e]):P:=h
theorem XX086 {P:Prop} (h:P:=by
 have:=ZH List.length (ZH List.flatten (FD (k+1) ls));rw [List.flatten_append,EO] at this
 omega):P:=h
theorem XXMED {P:Prop} (h:P:=by
 go_wp2_with fail;go_roundw
 case rel=>exact ⟨k+1,ZZ,ZT,Dl ⟨Lq,HA2.out,HS2.out⟩⟩
 case measure=>simp [intOf];omega):P:=h
namespace Pg
open Base Txt Mem Par
structure Told (L:List (Option Nat)) (B:Zone) (w:World) (o:Value) (out:List Hz):Prop where
 outs:Outs L B w o out
 far:∀k,o.ownBlock=some k->some k∉L/\k<w.heap.size
 off:∀k,o.ownBlock=some k->some k∉B.z
theorem Told.step {L L':List (Option Nat)} {B:Zone} {w w':World} {o:Value} {out:List Hz} (h:Told L B w o out) (hs:Step L L' w w'):Told L' B w' o out:=by
 obtain ⟨ps,h1,h2,h3⟩:=h.outs;refine ⟨⟨ps,h1,λx hx=>⟨(h2 x hx).1,⟨((h2 x hx).2.keeps hs.keeps).reads,λk hb=>⟨λhm=>?_,Gn ((h2 x hx).2.far k hb).2 hs.keeps.size⟩,(h2 x hx).2.off⟩⟩,hs.keeps.own h3 (λk e=>(h.far k e).1)⟩,λk e=>⟨λhm=>?_,Gn (h.far k e).2 hs.keeps.size⟩,h.off⟩
 ·rcases hs.of k hm with e | e
  ·exact ((h2 x hx).2.far k hb).1 e
  ·exact ZG ((h2 x hx).2.far k hb).2 ZZ
 ·rcases hs.of k hm with h1 | h1
  ·exact (h.far k e).1 h1
  ·have:=(h.far k e).2;omega
section
attribute [local go_sem] A8
variable {w:World} {B:Zone} {g q:Nat} {v f bd t o:Value} {p:Nat} {b:Bd} {s:T}
theorem Own.less {rd:FJ} {fs ts:List Fld} {body:List UInt8} {out:List Hz} (h:Own w B g q v f bd t o rd fs body ts out):Own w B g q v f bd t nil rd fs body ts []:=by
 have e:blks g q v f bd t nil=(blks g q v f bd t o).set 6 none:=rfl;refine ⟨h.R,h.F,h.D,h.TR,⟨[],rfl,XXZe9,NY _ _ _ _⟩,?_,h.ge,h.lt,h.zone.of (Gi _) (by rw [e];exact Of.set 6 none (.inl rfl))⟩;rw [e]
 exact h.lone.set h.in 6 none (.inl rfl)
theorem At.below {L:List (Option Nat)} {w':World} {x:Q} (h:At w B g p b L x) (hb:Below w.heap.size w w'):At w' B g p b L x:=by
 cases x with
 | live s=>
   obtain ⟨q,v,f,bd,t,o,rfl,h⟩:=h;exact ⟨q,v,f,bd,t,o,rfl,h.below hb⟩
 | dead e out=>
   obtain ⟨o,rfl,h⟩:=h;refine ⟨o,rfl,(hb.block g h.lt).trans h.row,h.O.keeps (CQ hb:Keeps [] w w') ZW ZW,h.ne,h.ge,Gn h.lt hb.size,h.bad,h.zone.of hb.size GQ⟩
theorem At.low {L:List (Option Nat)} {x:Q} (h:At w B g p b L x):∀k,some k∈L->B<=k:=by
 cases x with
 | live s=>
   obtain ⟨q,v,f,bd,t,o,rfl,h⟩:=h;exact h.own.low
 | dead e out=>
   obtain ⟨o,rfl,h⟩:=h;intro k hk;obtain ⟨ps, -, -,h3⟩:=h.O;rcases (by simpa using hk:k=g∨some k=o.ownBlock) with e | e
   ·rw [e];exact h.ge
   ·exact (NW h3 k e.symm).1
theorem At.in {L:List (Option Nat)} {x:Q} (h:At w B g p b L x):In w L:=by
 cases x with
 | live s=>
   obtain ⟨q,v,f,bd,t,o,rfl,h⟩:=h;exact h.own.in
 | dead e out=>
   obtain ⟨o,rfl,h⟩:=h;intro k hk;obtain ⟨ps, -, -,h3⟩:=h.O;rcases (by simpa using hk:k=g∨some k=o.ownBlock) with e | e
   ·rw [e];exact h.lt
   ·exact (NW h3 k e.symm).2
theorem At.tell {L:List (Option Nat)} {x:Q} (h:At w B g p b L x):∃o L',w.cell? ⟨g,26,none⟩=some o/\w.frozen? ⟨g,26,none⟩=false/\At (w.setCell ⟨g,26,none⟩ nil) B g p b L' x.told/\Told L' B (w.setCell ⟨g,26,none⟩ nil) o x.out/\Step L L' w (w.setCell ⟨g,26,none⟩ nil):=by
 cases x with
 | live s=>
   obtain ⟨q,v,f,bd,t,o,rfl,h⟩:=h;have hg:(blks g q v f bd t o)[0]?=some (some g):=rfl;have hne:o.ownBlock≠some g:=λe=>h.own.lone.ne (i:=0) (j:=6) rfl ZX XXd29;have hsub:∀k,some k∈blks g q v f bd t nil->some k∈blks g q v f bd t o:=λk hk=>by exact XX5KD
   refine ⟨o,blks g q v f bd t nil,h.cs.c26,h.marks 26,⟨q,v,f,bd,t,nil,rfl,⟨row_setL h.row 26 nil,(h.own.less).set 26 nil⟩⟩,⟨Outs.less (h.own.O.keeps (CU g 26 nil (Fv.2 rfl)) (λk hk=>by simp only [Fv] at hk;simp [hk]) (λk e hm=>hne (by rw [e,Fv.1 hm]))) (λk hk=>.inl (hsub k hk)),λk e=>⟨λhm=>?_,?_⟩,λk e=>h.own.zone.off k (Fs (i:=6) XXd29)⟩,⟨CU g 26 nil (Fs hg),λk hk=>.inl (hsub k hk)⟩⟩
   ·exact XXTkD
   ·have:=h.own.in k (Fs (i:=6) XXd29);simpa using this
 | dead e out=>
   obtain ⟨o,rfl,h⟩:=h;obtain ⟨ps, -, -,h3⟩:=h.O;refine ⟨o,[some g,none],row_cellL h.row rfl,FX h.row 26,⟨nil,rfl,h.put 26 nil nil [] rfl ⟨[],rfl,XXZe9,NY _ _ _ _⟩ XX5ba (.inl rfl)⟩,⟨Outs.less (h.O.keeps (CU g 26 nil (Fv.2 rfl)) (λk hk=>by simp only [Fv] at hk;simp [hk]) (λk e hm=>h.ne (by rw [e,Fv.1 hm]))) (λk hk=>.inl (by simpa using Or.inl (by simpa using hk))),λk e=>⟨λhm=>?_,?_⟩,λk e=>h.zone.off k (by rw [←e];simp)⟩,⟨CU g 26 nil ZW,λk hk=>.inl (by simpa using Or.inl (by simpa using hk))⟩⟩
   ·rcases (by simpa using hm:k=g) with rfl;exact h.ne e
   ·have:=(NW h3 k e).2;simpa using this
theorem feed_any (hp:p<4294967296) (x:Q) {L:List (Option Nat)} (h:At w B g p b L x) (ok:x.Ok b) (a:Option Addr) (ca:Nat) (ls:List (List UInt8)) (hl:Parts L w a ls) (hn:ls.length<=1000000) (hout:x.out.length+2*ls.flatten.length<=999999998) :
 Calls Mm 17 #[ptr g,.slice a ls.length ca] w λr w'=>∃o L',r=.returned o/\At w' B g p b L' (x.feed p b ls.flatten).told/\Told L' B w' o (x.feed p b ls.flatten).out/\Step L L' w w':=by
 have H:=Dl h;have HL:=Dl hl;have HOK:=Dl ok;have HOU:=Dl hout;obtain ⟨n,hnn⟩:∃n,ls.length=n:=⟨_,rfl⟩;have HN:=Dl hnn;have hn1:n<=1000000:=ZZ;rw [hnn];clear h hl ok hout hn hnn;go_enter Tryz.func17,Tryz.ntmps17;go_upto_region 2 with fail
 go_loopw [12] (λi wr=>∃k:Nat,k<=n/\i=ZE Z7 k/\Hid (∃Lr,At wr B g p b Lr (x.feed p b (ls.take k).flatten)/\Step L Lr w wr)) (λi _=>n-(intOf i).toNat)
 case atStart=>exact ⟨0,Gz _,rfl,Dl ⟨L,H.out,Step.refl⟩⟩
 case round=>
  obtain ⟨k,hk,rfl,hR⟩:=hrel;rcases Gp k n with hlt | hge
  ·obtain ⟨Lr,hA,hS⟩:=hR.out;have hkl:k<ls.length:=by rw [HN.out];exact hlt
   obtain ⟨bk,off,rfl,hbk,hnb,hc⟩:=(HL.out.step hS).cells ZZ;obtain ⟨ak,ck,hcell,hB⟩:=hc k hkl;have htk:(ls.take (k+1)).flatten=(ls.take k).flatten++ls[k]:=by rw [FG hkl,List.flatten_append];simp
   have hsum:(ls.take (k+1)).flatten.length<=ls.flatten.length:=by exact XX086
   rw [htk,EO] at hsum;have t1:(k:Int)<(n:Int):=ZZ;have HTK:=Dl htk;obtain ⟨pl,hpl⟩:∃pl,ls[k]=pl:=⟨_,rfl⟩;rw [hpl] at hcell hB hsum HTK;have hpb:pl.length<=1000000000:=by have:=HOU.out;omega
   obtain ⟨m,hm⟩:∃m,pl.length=m:=⟨_,rfl⟩;rw [hm] at hcell hpb hsum;have HM:=Dl hm;obtain ⟨X,hX⟩:∃X,x.feed p b (ls.take k).flatten=X:=⟨_,rfl⟩;have hXok:X.Ok b:=by rw [←hX];exact Q.Ok.feed _ HOK.out
   have hXo:X.out.length+2*m<=999999998:=by have:=Q.feed_out (p:=p) (b:=b) (ls.take k).flatten x;rw [hX] at this;have:=HOU.out;omega
   rw [hX] at hA;have HX:=Dl hX;have HXO:=Dl hXok;have HXL:=Dl hXo;have HA:=Dl hA;have HS:=Dl hS;have HB:=Dl hB;clear hA hS hB hX hXok hXo hsum htk hpl hm hc hR hnb hbk;go_upto_region 5 with fail
   clear hcell
   go_loopw [18] (λj wq=>∃i:Nat,i<=m/\j=ZE Z7 i/\Hid (∃Lq,At wq B g p b Lq (X.feed p b (pl.take i))/\Step Lr Lq wr wq)) (λj _=>m-(intOf j).toNat)
   case atStart=>exact ⟨0,Gz _,rfl,Dl ⟨Lr,HA.out,Step.refl⟩⟩
   case round=>
    obtain ⟨wC,hwC⟩:∃x,x=wr:=⟨_,rfl⟩;obtain ⟨i,hi,rfl,hR2⟩:=hrel;rcases Gp i m with hilt | hige
    ·obtain ⟨Lq,hA2,hS2⟩:=hR2.out;have hil:i<pl.length:=by rw [HM.out];exact hilt
     obtain ⟨zb,zo,rfl,hzb,hz⟩:=(HB.out.step hS2).nums.2 ZZ;have hcell:=hz i hil;have hti:pl.take (i+1)=pl.take i ++ [pl[i]]:=FG hil;have hgi:(pl.map λc=>(c.toNat:Int))[i]?.getD 0=(pl[i].toNat:Int):=by simp [hil]
     rw [hgi] at hcell;have HTI:=Dl hti;obtain ⟨c,hc⟩:∃c,pl[i]=c:=⟨_,rfl⟩;rw [hc] at hcell HTI;have t2:(i:Int)<(m:Int):=ZZ;have hok3:(X.feed p b (pl.take i)).Ok b:=Q.Ok.feed _ HXO.out;have hou3:(X.feed p b (pl.take i)).out.length<=999999998:=by have h1:=Q.feed_out (p:=p) (b:=b) (pl.take i) X;have h2:=HXL.out;rw [Fc] at h1;omega
     have HTA:=Dl (take_any hp c _ hA2 hok3 hou3);have HS2:=Dl hS2;clear hA2 hS2 hz hzb hti hgi hc hok3 hou3 hR2;go_wp2_with (go_at_call 71;with_reducible refine HTA.out.mono ?_;rintro r w5 ⟨rfl,L5,hA5,hS5⟩);go_roundw
     case rel=>exact ⟨i+1,ZZ,ZT,Dl ⟨L5,by rw [HTI.out,feed_app];exact hA5,HS2.out.trans hS5⟩⟩
     case measure=>simp [intOf];omega
    ·obtain rfl:i=m:=by omega
     have t2:¬(i:Int)<(i:Int):=ZZ;obtain ⟨Lq,hA2,hS2⟩:=hR2.out;have e:pl.take i=pl:=FF (by rw [HM.out];exact Gi _);rw [e,←HX.out,←feed_app,←HTK.out] at hA2;have HA2:=Dl hA2;have HS2:=Dl (HS.out.trans hS2);clear hA2 hS2 e hR2;exact XXMED
  ·obtain rfl:k=n:=by omega
   have t1:¬(k:Int)<(k:Int):=ZZ;obtain ⟨Lr,hA,hS⟩:=hR.out;have e:ls.take k=ls:=FF (by rw [HN.out];exact Gi _);rw [e] at hA;obtain ⟨o,L2,c26,z26,hA2,hT2,hS2⟩:=hA.tell;have HA2:=Dl hA2;have HT2:=Dl hT2;have HS2:=Dl (hS.trans hS2);clear hA hS hR e hA2 hT2 hS2;go_wp2_with fail;go_ret;exact ⟨o,rfl,L2,HA2.out,HT2.out,HS2.out⟩
theorem errq_any {L:List (Option Nat)} {x:Q} (h:At w B g p b L x):Calls Mm 20 #[ptr g] w λr w'=>r=.returned (ZE Z7 (x.err:Int))/\w'=w:=by
 cases x with
 | live s=>
   obtain ⟨q,v,f,bd,t,o,rfl,h⟩:=h;exact err_any h.cs.c0
 | dead e out=>
   obtain ⟨o,rfl,h⟩:=h;exact err_any h.cell0
theorem cleanq_any {L:List (Option Nat)} {x:Q} (h:At w B g p b L x):Calls Mm 25 #[ptr g] w λr w'=>r=.returned (ZB x.clean)/\w'=w:=by
 cases x with
 | live s=>
   obtain ⟨q,v,f,bd,t,o,rfl,h⟩:=h;exact clean_live h
 | dead e out=>
   obtain ⟨o,rfl,h⟩:=h
   exact clean_dead (row_cellL h.row rfl)
end
end Pg
namespace Pg
open Base Txt Mem Par
section
attribute [local go_sem] A8
variable {w:World} {B:Zone} {g q:Nat} {v f bd t o:Value} {p:Nat} {b:Bd} {s:T}
theorem enter_new (hp:p<4294967296) (hz:B.z= []) (hrow:w.heap[g]?=some (.cells ([ZE Z7 0,ZE Z7 0,nil,ZD E0,ZD E0,ZE Z7 0,ZE Z7 0,ZB false,ZE Z7 0,nil,ZB false,nil,ZE Z7 0,ZE Z5 (p:Int),ZE Z7 b.x0,ZE Z7 b.x1,ZE Z7 b.x2,ZE Z7 b.x3,ZE Z7 b.x4,ZE Z7 b.x5,ZE Z7 b.x6,ZE Z7 b.x7,ZB b.ch,ZB b.od,ZE Z7 0,ZA none,nil]:List Value).toArray 55 (0,0))) (hB:B<=g):Calls Mm 68 #[ptr g,ZE Z7 1,ZE Z7 b.x0] w λr w'=>
 r=.returned (Z8 #[])/\∃q1,PR w' B g q1 nil nil nil nil nil p b (T.new p b)/\Keeps [some g] w w':=by
 have hlt:=FY hrow
 have HR1:=Dl (row_setL hrow 24 (ZE Z7 1))
 have HK1:=Dl (CU (w:=w) (L:= [some g]) g 24 (ZE Z7 1) ZW);have HLT:=Dl (show g<(w.setCell ⟨g,24,none⟩ (ZE Z7 1)).heap.size by simpa using hlt);have HB:=Dl hB;have c24:=row_cellL hrow (k:=24) rfl;have z24:=FX hrow 24;clear hrow hB hlt;go_enter Tryz.func68,Tryz.ntmps68;go_upto_region 1 with fail
 generalize w.setCell ⟨g,24,none⟩ (ZE Z7 1)=W1 at *;clear c24 z24;have c13:W1.cell? ⟨g,13,none⟩=some (ZE Z5 (p:Int)):=row_cellL HR1.out (k:=13) rfl;have HNL:=Dl (line_new hp B b.x0 W1 (Gl HB.out (Gh HLT.out)));go_wp2_with
  (go_at_call 112;with_reducible refine HNL.out.mono ?_;rintro r w8 ⟨q1,rfl,hq1,hr1,hb8⟩
   have hrow8:=(hb8.block g HLT.out).trans HR1.out;have d25:=row_cellL hrow8 (k:=25) rfl;have y25:=FX hrow8 25;have HR8:=Dl hrow8;have HD8:=Dl hr1;have HQ8:=Dl hq1;have HB8:=Dl hb8;clear hb8 hr1 hq1 hrow8)
 go_end0;have hgq:g≠q1:=by have:=HLT.out;have:=HQ8.out;omega
 have hk:Keeps [some g] w8 (w8.setCell ⟨g,25,none⟩ (ptr q1)):=CU g 25 _ ZW;refine ⟨rfl,q1,⟨row_setL HR8.out 25 (ptr q1),⟨⟨hk.row HD8.out.row (by simpa using λe=>hgq e.symm),hk.own HD8.out.own XX5ba,HD8.out.ge,HD8.out.ne⟩,NY _ _ _ _,NY _ _ _ _,NY _ _ _ _,⟨[],rfl,XXZe9,NY _ _ _ _⟩,?_,HB.out,by have:=HLT.out;have:=HB8.out.size;simp;omega,by rw [hz];exact Clear.nil⟩⟩,(HK1.out.trans (CQ HB8.out) GQ).trans hk GQ⟩;intro i j k hi hj;rcases i with _ | _ | _ | _ | _ | _ | _ | i<;>rcases j with _ | _ | _ | _ | _ | _ | _ | j<;>simp [Value.ownBlock] at hi hj ⊢<;>omega
theorem T.new_ok (p:Nat) (b:Bd):(T.new p b).Ok:=
 ⟨FJ.new_ok _ _ _ (Ln.mid_le _),rfl,⟨Gi _,by show 1<=7;omega⟩,Gz _,Gz _,Gi _,Gi _,(by intro y hy;cases hy),(by intro y hy;cases hy),Gz _,Gz _,Gz _,λh=>(by cases h),λ_=>rfl,Gz _⟩
theorem Q.new_ok (p:Nat) (b:Bd):(Q.new p b).Ok b:=by
 unfold Q.new;split
 ·rename_i h;simp only [AM] at h;exact ⟨T.new_ok p b,h.1⟩
 ·trivial
theorem dead_new {W:World} (hz:B.z= []) (hrow:W.heap[g]?=some (.cells ([ZE Z7 20,ZE Z7 0,nil,ZD E0,ZD E0,ZE Z7 0,ZE Z7 0,ZB false,ZE Z7 0,nil,ZB false,nil,ZE Z7 0,ZE Z5 0,ZE Z7 0,ZE Z7 0,ZE Z7 0,ZE Z7 0,ZE Z7 0,ZE Z7 0,ZE Z7 0,ZE Z7 0,ZB false,ZB false,ZE Z7 0,ZA none,nil]:List Value).toArray 55 (0,0))) (hB:B<=g):At W B g p b [some g,none] (.dead 20 []):=
 ⟨nil,rfl,⟨hrow,⟨[],rfl,XXZe9,NY _ _ _ _⟩,XX5ba,hB,FY hrow,ZX,by rw [hz];exact Clear.nil⟩⟩
theorem new_any (hp:p<4294967296) (w:World):Calls Mm 15 #[ZE Z5 (p:Int),Z9 #[ZE Z7 b.x0,ZE Z7 b.x1,ZE Z7 b.x2,ZE Z7 b.x3,ZE Z7 b.x4,ZE Z7 b.x5,ZE Z7 b.x6,ZE Z7 b.x7,ZB b.ch,ZB b.od]] w λr w'=>
 ∃g L',r=.returned (ptr g)/\w.heap.size<=g/\At w' ⟨w.heap.size,[]⟩ g p b L' (Q.new p b)/\Below w.heap.size w w':=by
 have hqr:=λw=>Qk.right_any p hp w;have hbr:=λw=>Bnd.right_any b.x0 b.x1 b.x2 b.x3 b.x4 b.x5 b.x6 b.x7 b.ch b.od w
 have HB0:=Dl (((AE _ _).alloc (Gi _) (.cells #[ZE Z7 b.x0,ZE Z7 b.x1,ZE Z7 b.x2,ZE Z7 b.x3,ZE Z7 b.x4,ZE Z7 b.x5,ZE Z7 b.x6,ZE Z7 b.x7,ZB b.ch,ZB b.od] 29)):Below w.heap.size w _)
 have HZ0:=Dl (Hw w w.heap.size rfl 29 [ZE Z7 b.x0,ZE Z7 b.x1,ZE Z7 b.x2,ZE Z7 b.x3,ZE Z7 b.x4,ZE Z7 b.x5,ZE Z7 b.x6,ZE Z7 b.x7,ZB b.ch,ZB b.od]);have HSZ:=Dl (show w.heap.size<(w.alloc (.cells #[ZE Z7 b.x0,ZE Z7 b.x1,ZE Z7 b.x2,ZE Z7 b.x3,ZE Z7 b.x4,ZE Z7 b.x5,ZE Z7 b.x6,ZE Z7 b.x7,ZB b.ch,ZB b.od] 29)).heap.size by simp);unfold Q.new;by_cases hP:p<1073741824
 ·rw [ZK hP] at hqr ⊢;rw [AO];have HQR:=Dl hqr;unfold Bd.right;cases hb:Bnd.right b.x0 b.x1 b.x2 b.x3 b.x4 b.x5 b.x6 b.x7 with
  | true=>
    rw [hb] at hbr;have HBR:=Dl hbr;rw [ZN rfl];clear hqr hbr hb hP;go_enter Tryz.func15,Tryz.ntmps15;go_upto_region 1 with fail
    generalize w.alloc (.cells #[ZE Z7 b.x0,ZE Z7 b.x1,ZE Z7 b.x2,ZE Z7 b.x3,ZE Z7 b.x4,ZE Z7 b.x5,ZE Z7 b.x6,ZE Z7 b.x7,ZB b.ch,ZB b.od] 29)=W0 at *;have y0:=HZ0.out.c 0 _ rfl;have y1:=HZ0.out.c 1 _ rfl;have y2:=HZ0.out.c 2 _ rfl;have y3:=HZ0.out.c 3 _ rfl;have y4:=HZ0.out.c 4 _ rfl;have y5:=HZ0.out.c 5 _ rfl;have y6:=HZ0.out.c 6 _ rfl;have y7:=HZ0.out.c 7 _ rfl;have y8:=HZ0.out.c 8 _ rfl;have y9:=HZ0.out.c 9 _ rfl
    go_upto_region 4 with (first
     |(go_at_call 67;with_reducible refine (HBR.out _).mono ?_;rintro r w3 ⟨rfl,hb3⟩
       have HB3:=Dl hb3;have HZ3:=Dl (HZ0.out.below hb3);have x0:=HZ3.out.c 0 _ rfl;have x1:=HZ3.out.c 1 _ rfl;have x2:=HZ3.out.c 2 _ rfl;have x3:=HZ3.out.c 3 _ rfl;have x4:=HZ3.out.c 4 _ rfl;have x5:=HZ3.out.c 5 _ rfl;have x6:=HZ3.out.c 6 _ rfl;have x7:=HZ3.out.c 7 _ rfl;have x8:=HZ3.out.c 8 _ rfl;have x9:=HZ3.out.c 9 _ rfl;clear hb3)
     |(go_at_call 66;with_reducible refine Cm (HQR.out _) ?_))
    have HB4:=Dl (A6 HB0.out HB3.out)
    have HR4:=Dl (heap_alloc_new w3 (.cells ([ZE Z7 0,ZE Z7 0,nil,ZD E0,ZD E0,ZE Z7 0,ZE Z7 0,ZB false,ZE Z7 0,nil,ZB false,nil,ZE Z7 0,ZE Z5 (p:Int),ZE Z7 b.x0,ZE Z7 b.x1,ZE Z7 b.x2,ZE Z7 b.x3,ZE Z7 b.x4,ZE Z7 b.x5,ZE Z7 b.x6,ZE Z7 b.x7,ZB b.ch,ZB b.od,ZE Z7 0,ZA none,nil]:List Value).toArray 55))
    have HG:=Dl (show w.heap.size<=w3.heap.size from Gl (Gh HSZ.out) HB3.out.size)
    have HBW:=Dl (HB4.out.alloc HG.out (.cells ([ZE Z7 0,ZE Z7 0,nil,ZD E0,ZD E0,ZE Z7 0,ZE Z7 0,ZB false,ZE Z7 0,nil,ZB false,nil,ZE Z7 0,ZE Z5 (p:Int),ZE Z7 b.x0,ZE Z7 b.x1,ZE Z7 b.x2,ZE Z7 b.x3,ZE Z7 b.x4,ZE Z7 b.x5,ZE Z7 b.x6,ZE Z7 b.x7,ZB b.ch,ZB b.od,ZE Z7 0,ZA none,nil]:List Value).toArray 55))
    have HX4:=Dl ((HZ3.out.alloc (.cells ([ZE Z7 0,ZE Z7 0,nil,ZD E0,ZD E0,ZE Z7 0,ZE Z7 0,ZB false,ZE Z7 0,nil,ZB false,nil,ZE Z7 0,ZE Z5 (p:Int),ZE Z7 b.x0,ZE Z7 b.x1,ZE Z7 b.x2,ZE Z7 b.x3,ZE Z7 b.x4,ZE Z7 b.x5,ZE Z7 b.x6,ZE Z7 b.x7,ZB b.ch,ZB b.od,ZE Z7 0,ZA none,nil]:List Value).toArray 55)).c 0 _ rfl);have HE:=Dl (enter_new (B:=⟨w.heap.size,[]⟩) hp rfl HR4.out HG.out);clear y0 y1 y2 y3 y4 y5 y6 y7 y8 y9 x0 x1 x2 x3 x4 x5 x6 x7 x8 x9 HR4;have x0:=HX4.out;go_wp2_with (go_at_call 68;with_reducible refine HE.out.mono ?_;rintro r w5 ⟨rfl,q1,hP,hK⟩);go_ret;exact ⟨_,_,rfl,HG.out,⟨_,_,_,_,_,_,rfl,hP⟩,HBW.out.trans (hK.below HBW.out.size (λk hk=>by rw [GZ.inj (Fv.1 hk)];exact HG.out))⟩
  | false=>
    rw [hb] at hbr;have HBR:=Dl hbr;rw [ZO ZX];clear hqr hbr hb hP;go_enter Tryz.func15,Tryz.ntmps15;go_upto_region 1 with fail
    generalize w.alloc (.cells #[ZE Z7 b.x0,ZE Z7 b.x1,ZE Z7 b.x2,ZE Z7 b.x3,ZE Z7 b.x4,ZE Z7 b.x5,ZE Z7 b.x6,ZE Z7 b.x7,ZB b.ch,ZB b.od] 29)=W0 at *;have y0:=HZ0.out.c 0 _ rfl;have y1:=HZ0.out.c 1 _ rfl;have y2:=HZ0.out.c 2 _ rfl;have y3:=HZ0.out.c 3 _ rfl;have y4:=HZ0.out.c 4 _ rfl;have y5:=HZ0.out.c 5 _ rfl;have y6:=HZ0.out.c 6 _ rfl;have y7:=HZ0.out.c 7 _ rfl;have y8:=HZ0.out.c 8 _ rfl;have y9:=HZ0.out.c 9 _ rfl
    go_wp2_with (first
     |(go_at_call 67;with_reducible refine (HBR.out _).mono ?_;rintro r w3 ⟨rfl,hb3⟩
       have HB3:=Dl hb3;clear hb3)
     |(go_at_call 66;with_reducible refine Cm (HQR.out _) ?_))
    go_ret;have hg:=Gl (Gh HSZ.out) HB3.out.size;exact ⟨_,_,rfl,hg,dead_new (B:=⟨w.heap.size,[]⟩) rfl (heap_alloc_new w3 (.cells ([ZE Z7 20,ZE Z7 0,nil,ZD E0,ZD E0,ZE Z7 0,ZE Z7 0,ZB false,ZE Z7 0,nil,ZB false,nil,ZE Z7 0,ZE Z5 0,ZE Z7 0,ZE Z7 0,ZE Z7 0,ZE Z7 0,ZE Z7 0,ZE Z7 0,ZE Z7 0,ZE Z7 0,ZB false,ZB false,ZE Z7 0,ZA none,nil]:List Value).toArray 55)) hg,(A6 HB0.out HB3.out).alloc hg _⟩
 ·rw [ZL hP] at hqr ⊢;rw [AN,ZO ZX];have HQR:=Dl hqr;clear hqr hbr hP;go_enter Tryz.func15,Tryz.ntmps15;go_upto_region 1 with fail
  generalize w.alloc (.cells #[ZE Z7 b.x0,ZE Z7 b.x1,ZE Z7 b.x2,ZE Z7 b.x3,ZE Z7 b.x4,ZE Z7 b.x5,ZE Z7 b.x6,ZE Z7 b.x7,ZB b.ch,ZB b.od] 29)=W0 at *;go_wp2_with (go_at_call 66;with_reducible refine Cm (HQR.out _) ?_);go_ret;have hg:=Gh HSZ.out;exact ⟨_,_,rfl,hg,dead_new (B:=⟨w.heap.size,[]⟩) rfl (heap_alloc_new W0 (.cells ([ZE Z7 20,ZE Z7 0,nil,ZD E0,ZD E0,ZE Z7 0,ZE Z7 0,ZB false,ZE Z7 0,nil,ZB false,nil,ZE Z7 0,ZE Z5 0,ZE Z7 0,ZE Z7 0,ZE Z7 0,ZE Z7 0,ZE Z7 0,ZE Z7 0,ZE Z7 0,ZE Z7 0,ZB false,ZB false,ZE Z7 0,ZA none,nil]:List Value).toArray 55)) hg,HB0.out.alloc hg _⟩
end
end Pg
theorem XXIoU {P:Prop} (h:P:=by
 refine ⟨HL.out.nums.below (A6 HB0.out HB1.out),λad e=>?_⟩;have:=(HL.out.far ad e).2;refine ⟨λhm=>?_,Gn this (Gl (Gh HSZ.out) HB1.out.size)⟩;have:W0.heap.size<=ad.block:=hlow _ hm;have:=HSZ.out
 omega):P:=h
namespace Pg
open Base Txt Mem Par
theorem told_err (x:Q):x.told.err=x.err:=by cases x<;>rfl
theorem told_clean (x:Q):x.told.clean=x.clean:=by cases x<;>rfl
theorem Parts.one {L:List (Option Nat)} {w:World} {a:Option Addr} {c:Nat} {l:List UInt8} (h:Bts L w a l) (hin:In w L) (ty:TypeId):Parts L (w.alloc (.cells #[.slice a l.length c] ty)) (some ⟨w.heap.size,0,none⟩) [l]:=by
 have hb:Below w.heap.size w (w.alloc (.cells #[.slice a l.length c] ty)):=(AE _ _).alloc (Gi _) _;refine ⟨λ_=>⟨w.heap.size,0,rfl,ZW,λhm=>by have:=hin _ hm;omega,λk hk=>?_⟩⟩;have hk:k<1:=hk;obtain rfl:k=0:=ZZ;refine ⟨a,c,?_,?_⟩
 ·have:=cell_of_row (w.alloc (.cells #[.slice a l.length c] ty)) w.heap.size 0 _ ty (0,0) (heap_alloc_new w _);exact this.trans rfl
 ·exact h.step (II hb)
section
attribute [local go_sem] A8
variable {w:World} {B:Zone} {g q:Nat} {v f bd t o:Value} {p:Nat} {b:Bd} {s:T}
theorem read_any (hp:p<4294967296) (w:World) (a:Option Addr) (c:Nat) (l:List UInt8) (hl:Bts [] w a l) (hn:l.length<=400000000):Calls Mm 63 #[ZE Z5 (p:Int),Z9 #[ZE Z7 b.x0,ZE Z7 b.x1,ZE Z7 b.x2,ZE Z7 b.x3,ZE Z7 b.x4,ZE Z7 b.x5,ZE Z7 b.x6,ZE Z7 b.x7,ZB b.ch,ZB b.od],.slice a l.length c] w λr w'=>
 ∃o L B0,r=.returned (Z8 #[o,ZE Z7 ((Hr p b l).err:Int),ZB (Hr p b l).clean])/\Told L B0 w' o (Hr p b l).out/\Below w.heap.size w w':=by
 have HB0:=Dl (((AE _ _).alloc (Gi _) (.cells #[ZE Z7 b.x0,ZE Z7 b.x1,ZE Z7 b.x2,ZE Z7 b.x3,ZE Z7 b.x4,ZE Z7 b.x5,ZE Z7 b.x6,ZE Z7 b.x7,ZB b.ch,ZB b.od] 29)):Below w.heap.size w _)
 have HZ0:=Dl (Hw w w.heap.size rfl 29 [ZE Z7 b.x0,ZE Z7 b.x1,ZE Z7 b.x2,ZE Z7 b.x3,ZE Z7 b.x4,ZE Z7 b.x5,ZE Z7 b.x6,ZE Z7 b.x7,ZB b.ch,ZB b.od]);have HSZ:=Dl (show w.heap.size<(w.alloc (.cells #[ZE Z7 b.x0,ZE Z7 b.x1,ZE Z7 b.x2,ZE Z7 b.x3,ZE Z7 b.x4,ZE Z7 b.x5,ZE Z7 b.x6,ZE Z7 b.x7,ZB b.ch,ZB b.od] 29)).heap.size by simp);have HL:=Dl hl;have HN:=Dl hn;unfold Hr;obtain ⟨X,hX⟩:∃X,Q.feed p b (Q.new p b) l=X:=⟨_,rfl⟩;rw [hX];have HX:=Dl hX;obtain ⟨m,hm⟩:∃m,l.length=m:=⟨_,rfl⟩;have HM:=Dl hm;rw [hm];clear hl hn hm hX;go_enter Tryz.func63,Tryz.ntmps63;go_upto_region 1 with fail
 generalize w.alloc (.cells #[ZE Z7 b.x0,ZE Z7 b.x1,ZE Z7 b.x2,ZE Z7 b.x3,ZE Z7 b.x4,ZE Z7 b.x5,ZE Z7 b.x6,ZE Z7 b.x7,ZB b.ch,ZB b.od] 29)=W0 at *;have y0:=HZ0.out.c 0 _ rfl;have y1:=HZ0.out.c 1 _ rfl;have y2:=HZ0.out.c 2 _ rfl;have y3:=HZ0.out.c 3 _ rfl;have y4:=HZ0.out.c 4 _ rfl;have y5:=HZ0.out.c 5 _ rfl;have y6:=HZ0.out.c 6 _ rfl;have y7:=HZ0.out.c 7 _ rfl;have y8:=HZ0.out.c 8 _ rfl;have y9:=HZ0.out.c 9 _ rfl;have HNW:=Dl (new_any (b:=b) hp W0);go_upto_region 2 with
  (go_at_call 15;with_reducible refine HNW.out.mono ?_;rintro r w1 ⟨g,L1,rfl,hg,hA,hb1⟩
   have HG:=Dl hg;have HA:=Dl hA;have HB1:=Dl hb1;clear hg hA hb1)
 have hlow:=HA.out.low;have hlA:Bts L1 w1 a l:=by exact XXIoU
 have hpa:=Parts.one (c:=c) hlA HA.out.in 22;rw [HM.out] at hpa;have hb2:Below w1.heap.size w1 (w1.alloc (.cells #[.slice a m c] 22)):=(AE _ _).alloc (Gi _) _
 have hfe:=feed_any hp _ (HA.out.below hb2) (Q.new_ok p b) (some ⟨w1.heap.size,0,none⟩) 1 [l] hpa ZW (by
  have h1:(Q.new p b).out.length=0:=by unfold Q.new;split<;>rfl
  have h2:=HN.out;rw [h1];simp only [List.flatten_cons,List.flatten_nil,D8];omega)
 have efl: [l].flatten=l:=ZW;rw [efl] at hfe;have HFE:=Dl (show Calls Mm 17 #[ptr g,ZC (some ⟨w1.heap.size,0,none⟩) 1 1] (w1.alloc (.cells #[.slice a m c] 22)) λr w'=>∃o L',r=.returned o/\At w' ⟨W0.heap.size,[]⟩ g p b L' (Q.feed p b (Q.new p b) l).told/\Told L' ⟨W0.heap.size,[]⟩ w' o (Q.feed p b (Q.new p b) l).out/\Step L1 L' (w1.alloc (.cells #[.slice a m c] 22)) w' from hfe);have HLOW:=Dl hlow;have HB2:=Dl (A6 (A6 HB0.out HB1.out) hb2);rw [HX.out] at HFE;clear hlA hpa hb2 hfe efl hlow y0 y1 y2 y3 y4 y5 y6 y7 y8 y9
 go_wp2_with (first
  |(go_at_call 25;with_reducible refine Cm HC.out ?_)
  |(go_at_call 20;with_reducible refine Cm HE.out ?_)
  |(go_at_call 17;with_reducible refine HFE.out.mono ?_;rintro r w3 ⟨o,L',rfl,hA3,hT3,hS3⟩
    have HE:=Dl (errq_any hA3);have HC:=Dl (cleanq_any hA3);rw [told_err] at HE;rw [told_clean] at HC;have HT3:=Dl hT3;have HS3:=Dl hS3;clear hA3 hT3 hS3))
 refine ZF (v:=Z8 #[o,ZE Z7 (X.err:Int),ZB X.clean]) (by simp [results,Tryz.results63,go_sem]) rfl ?_;refine ⟨_,_,_,rfl,HT3.out,HB2.out.trans (HS3.out.keeps.below HB2.out.size (λk hk=>?_))⟩;have:=HLOW.out k hk;have:=HSZ.out;omega
end
theorem flat_at:∀(ps:List (Array Value × Hz)),(∀x∈ps,x.1.size=7)->∀k (hk:k<ps.length) j,j<7->(ps.flatMap (·.1.toList))[k*7+j]?=ps[k].1.toList[j]?
 | [],_,k,hk,_,_=>by cases hk
 | x::ps,h,0,_,j,hj=>by
   have hx:x.1.toList.length=7:=by simpa using h x ZW
   rw [List.flatMap_cons,List.getElem?_append_left ZZ,Nat.zero_mul,Gy];rfl
 | x::ps,h,k+1,hk,j,hj=>by
   have hx:x.1.toList.length=7:=by simpa using h x ZW
   rw [List.flatMap_cons,List.getElem?_append_right ZZ,hx,show (k+1)*7+j-7=k*7+j by omega];exact flat_at ps (λy hy=>h y (by simp [hy])) k (by simpa using hk) j hj
theorem Told.at {L:List (Option Nat)} {B:Zone} {w:World} {o:Value} {out:List Hz} (h:Told L B w o out):∃a c,o=.slice a out.length c/\(0<out.length->∃bk,a=some ⟨bk,0,none⟩/\bk<w.heap.size/\
 ∀k (hk:k<out.length),∃fa fc ba bc ta tc,Flds w fa out[k].fs.length out[k].fs/\Nums .u8 w ba out[k].body.length (out[k].body.map λc=>(c.toNat:Int))/\Flds w ta out[k].ts.length out[k].ts/\
  w.cell? ⟨bk,k*7,none⟩=some (ZD out[k].m)/\w.cell? ⟨bk,k*7+1,none⟩=some (ZD out[k].x)/\w.cell? ⟨bk,k*7+2,none⟩=some (ZE Z7 out[k].k)/\w.cell? ⟨bk,k*7+3,none⟩=some (.slice fa out[k].fs.length fc)/\
  w.cell? ⟨bk,k*7+4,none⟩=some (ZB out[k].ch)/\w.cell? ⟨bk,k*7+5,none⟩=some (.slice ba out[k].body.length bc)/\w.cell? ⟨bk,k*7+6,none⟩=some (.slice ta out[k].ts.length tc)):=by
 obtain ⟨ps,h1,h2,h3⟩:=h.outs;obtain ⟨a,c,e, -⟩:=FV h3;subst e;refine ⟨a,c,rfl,λh0=>?_⟩;obtain ⟨bk,cf,hform, -,hlt⟩:=h3.form h0;simp only [Value.slice.injEq,true_and] at hform;obtain ⟨rfl,rfl⟩:=hform;refine ⟨bk,rfl,hlt,λk hk=>?_⟩;have hkp:k<ps.length:=by rw [←h1,EV] at hk;exact hk
 have hr:out[k]=ps[k].2:=by simp [←h1]
 obtain ⟨h7,hF⟩:=h2 ps[k] (EB hkp);obtain ⟨fa,fc,ba,bc,ta,tc,hV,f1,f2,f3⟩:=hF.reads;have hcs:ps[k].1= #[ZD ps[k].2.m,ZD ps[k].2.x,ZE Z7 ps[k].2.k,.slice fa ps[k].2.fs.length fc,ZB ps[k].2.ch,.slice ba ps[k].2.body.length bc,.slice ta ps[k].2.ts.length tc]:=by injection hV
 have key:∀j,j<7->w.cell? ⟨bk,k*7+j,none⟩=ps[k].1.toList[j]?:=by
  intro j hj;have hc:=h3.cellAt (k*7+j) ZZ;have e:(ps.flatMap (·.1.toList))[k*7+j]?=ps[k].1.toList[j]?:=flat_at ps (λx hx=>(h2 x hx).1) k hkp j hj;exact hc.trans e
 rw [hr];rw [hcs] at key;exact ⟨fa,fc,ba,bc,ta,tc,f1,f2,f3,key 0 ZX,key 1 ZX,key 2 ZX,key 3 ZX,key 4 ZX,key 5 ZX,key 6 ZX⟩
end Pg
namespace Pg
open Base Txt Mem Par
abbrev usual:Bd:=⟨1024,32,8192,65536,32,8,4,20,true,true⟩
abbrev bdV (b:Bd):Value:=Z9 #[ZE Z7 b.x0,ZE Z7 b.x1,ZE Z7 b.x2,ZE Z7 b.x3,ZE Z7 b.x4,ZE Z7 b.x5,ZE Z7 b.x6,ZE Z7 b.x7,ZB b.ch,ZB b.od]
def RecAt (w:World) (bk j:Nat) (r:Hz):Prop:=∃fa fc ba bc ta tc,Flds w fa r.fs.length r.fs/\Nums .u8 w ba r.body.length (r.body.map λc=>(c.toNat:Int))/\Flds w ta r.ts.length r.ts/\
 w.cell? ⟨bk,j,none⟩=some (ZD r.m)/\w.cell? ⟨bk,j+1,none⟩=some (ZD r.x)/\w.cell? ⟨bk,j+2,none⟩=some (ZE Z7 r.k)/\w.cell? ⟨bk,j+3,none⟩=some (.slice fa r.fs.length fc)/\
 w.cell? ⟨bk,j+4,none⟩=some (ZB r.ch)/\w.cell? ⟨bk,j+5,none⟩=some (.slice ba r.body.length bc)/\w.cell? ⟨bk,j+6,none⟩=some (.slice ta r.ts.length tc)
def Said (w:World) (o:Value) (out:List Hz):Prop:=∃a c,o=.slice a out.length c/\(0<out.length->∃bk,a=some ⟨bk,0,none⟩/\bk<w.heap.size/\∀k (hk:k<out.length),RecAt w bk (k*7) out[k])
theorem Told.said {L:List (Option Nat)} {B:Zone} {w:World} {o:Value} {out:List Hz} (h:Told L B w o out):Said w o out:=h.at
theorem RecAt.below {w w':World} {bk j:Nat} {r:Hz} (h:RecAt w bk j r) (hlt:bk<w.heap.size) (hb:Below w.heap.size w w'):RecAt w' bk j r:=by obtain ⟨fa,fc,ba,bc,ta,tc,f1,f2,f3,c0,c1,c2,c3,c4,c5,c6⟩:=h;exact ⟨fa,fc,ba,bc,ta,tc,f1.below hb,f2.below hb,f3.below hb,(hb.cell (p:=⟨bk,j,none⟩) hlt).trans c0,(hb.cell (p:=⟨bk,j+1,none⟩) hlt).trans c1,(hb.cell (p:=⟨bk,j+2,none⟩) hlt).trans c2,(hb.cell (p:=⟨bk,j+3,none⟩) hlt).trans c3,(hb.cell (p:=⟨bk,j+4,none⟩) hlt).trans c4,(hb.cell (p:=⟨bk,j+5,none⟩) hlt).trans c5,(hb.cell (p:=⟨bk,j+6,none⟩) hlt).trans c6⟩
theorem Said.below {w w':World} {o:Value} {out:List Hz} (h:Said w o out) (hb:Below w.heap.size w w'):Said w' o out:=by obtain ⟨a,c,e,hc⟩:=h;refine ⟨a,c,e,λh0=>?_⟩;obtain ⟨bk,e1,hlt,h1⟩:=hc h0;exact ⟨bk,e1,Gn hlt hb.size,λk hk=>(h1 k hk).below hlt hb⟩
abbrev bytesV (l:List UInt8):Array Value:=(l.map λc=>Value.int .u8 (c.toNat:Int)).toArray
theorem Bts.lit {L:List (Option Nat)} {w:World} (hin:In w L) (l:List UInt8) (V:Array Value) (hV:V=bytesV l) (ty:TypeId) (fr:Nat × Nat):Bts L (w.alloc (.cells V ty fr)) (some ⟨w.heap.size,0,none⟩) l:=by
 subst hV;refine ⟨⟨ZW,λh0=>⟨w.heap.size,0,rfl,ZW,λk hk=>?_⟩⟩,λad e=>?_⟩
 ·rw [Gy,cell_of_row _ _ k _ ty fr (heap_alloc_new _ _)];simp [bytesV,hk]
 ·obtain rfl:ad=⟨w.heap.size,0,none⟩:=by simpa using e.symm
  exact ⟨λhm=>by have:w.heap.size<w.heap.size:=hin _ hm;omega,ZW⟩
theorem in_nil (w:World):In w []:=λk hk=>by cases hk
theorem read_said {p:Nat} (hp:p<4294967296) (b:Bd) (w:World) (a:Option Addr) (c:Nat) (l:List UInt8) (hl:Bts [] w a l) (hn:l.length<=400000000) (e:Nat) (cl:Bool) (out:List Hz) (he:(Hr p b l).err=e) (hc:(Hr p b l).clean=cl) (ho:(Hr p b l).out=out):Calls Mm 63 #[ZE Z5 (p:Int),bdV b,.slice a l.length c] w λr w'=>
 ∃o,r=.returned (Z8 #[o,ZE Z7 (e:Int),ZB cl])/\Said w' o out/\Below w.heap.size w w':=by
 refine (read_any (b:=b) hp w a c l hl hn).mono ?_;rintro r w' ⟨o,L,B0,rfl,hT,hb⟩;rw [he,hc];rw [ho] at hT;exact ⟨o,rfl,hT.said,hb⟩
end Pg
end Go.Proofs.YtdfabddnpgjepaaGreatDoor
