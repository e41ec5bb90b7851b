import Derived.Test.YtnabkcglnbdfeaaGreatDoorFeu
namespace Go.Proofs.YtnabkcglnbdfeaaGreatDoor.Rec
open Go.RowKit Base Txt
def atV (n:Nat) (zs:List Int) (i:Int):Int:=if n=0 then i%256 else (zs[i.toNat%n]?.getD 0+wrap64 (wrap64 (Int.tdiv i n)*41)%256)%256
theorem atV_in (n:Nat) (zs:List Int) (i:Int):0≤atV n zs i∧atV n zs i≤255:=by unfold atV;split<;>omega
theorem rem_at (x:Int) (h:0≤x) (n:Nat) (hn:0<n):∃j:Nat,j<n∧Int.tmod x n=(j:Int)∧x%n=(j:Int):=by
 refine ⟨x.toNat%n,Nat.mod_lt _ hn,?_,?_⟩
 ·rw [Int.tmod_eq_emod_of_nonneg h,Int.natCast_emod,Int.toNat_of_nonneg h]
 ·rw [Int.natCast_emod,Int.toNat_of_nonneg h]
theorem nums_of_bk {w:World} {g:Nat} {B:List UInt8} (h:Bk w g (vals B)) (n:Nat) (hn:B.length=n):Nums .u8 w (some ⟨g,0,none⟩) n (nums B):=by
 subst hn;refine ⟨by simp [nums],fun _=>⟨g,0,rfl,h.lt,fun k hk=>?_⟩⟩;rw [Nat.zero_add,nums_at B k hk]
 exact h.c k _ (by rw [vals,List.getElem?_map,List.getElem?_eq_getElem hk];rfl)
theorem bk_of_bytes {w:World} {g:Nat} {B:List UInt8} (h:Bytes w g B) (hlt:g<w.heap.size):Bk w g (vals B):=by
 refine ⟨fun k v hv=>?_,fun k hk=>?_,hlt⟩
 ·have hk:k<B.length:=by
   rcases Nat.lt_or_ge k B.length with h | h
   ·exact h
   ·rw [vals,List.getElem?_map,List.getElem?_eq_none h] at hv;cases hv
  rw [vals,List.getElem?_map,List.getElem?_eq_getElem hk] at hv;rw [(h k hk).1];exact hv
 ·exact (h k (by rw [vals_length] at hk;exact hk)).2
def neatM:List ByteArray:= [⟨#[71,69,84]⟩,⟨#[80,79,83,84]⟩,⟨#[80,85,84]⟩,⟨#[68,69,76,69,84,69]⟩,⟨#[72,69,65,68]⟩]
def neatX:List ByteArray:= [⟨#[47]⟩,⟨#[47,97]⟩,⟨#[47,97,47,98,63,120,61,49]⟩,⟨#[47,118,49,47,105,116,101,109,47,55]⟩,⟨#[47,115,116,97,116,105,99,47,99,115,115,47,109,46,99,115,115]⟩,⟨#[104,116,116,112,58,47,47,97,47,113]⟩]
def neatH:List ByteArray:= [⟨#[97]⟩,⟨#[104,46,111,114,103]⟩]
def neatF:List Fld:= [(⟨#[65]⟩,⟨#[98]⟩),(⟨#[88,45,89]⟩,⟨#[122]⟩),(⟨#[65,99,99,101,112,116]⟩,⟨#[42,47,42]⟩),(⟨#[67,111,111,107,105,101]⟩,⟨#[97,61,49]⟩)]
def neatB:List UInt8:= [48,49,50,51,52,53,54,55,56,57,97,98,99,100,101,102]
def FsR (x:ByteArray) (fs:List Fld):Prop:=∃gs:List Fld,fs=(⟨#[72,111,115,116]⟩,x)::gs∧∀g∈gs,g∈neatF
theorem neatF_small:∀g∈neatF,g.1.size≤100∧g.2.size≤100:=by decide
theorem FsR.small {x:ByteArray} {fs:List Fld} (h:FsR x fs) (hx:x.size≤100):∀f∈fs,f.1.size≤100∧f.2.size≤100:=by
 obtain ⟨gs,rfl,hg⟩:=h;intro f hf;rcases List.mem_cons.1 hf with rfl | hf
 ·exact ⟨show (⟨#[72,111,115,116]⟩:ByteArray).size≤100 by decide,hx⟩
 ·exact neatF_small f (hg f hf)
structure NeatR (r:R):Prop where
 m:r.m∈neatM
 x:r.x∈neatX
 k:r.k=1
 fs:∃h∈neatH,∃gs:List Fld,r.fs=(⟨#[72,111,115,116]⟩,h)::gs∧gs.length≤2∧∀g∈gs,g∈neatF
 body:∃n,n≤15∧r.body=neatB.take n
 ts:r.ts= []∨r.ts= [(⟨#[84]⟩,⟨#[117]⟩)]
theorem FsR.all {x:ByteArray} {fs:List Fld} {k:Nat} (h:FsR x fs) (hx:x∈neatH) (hl:fs.length=k+1) (hk:k≤2):∃h∈neatH,∃gs:List Fld,fs=(⟨#[72,111,115,116]⟩,h)::gs∧gs.length≤2∧∀g∈gs,g∈neatF:=by obtain ⟨gs,rfl,hg⟩:=h;exact ⟨x,hx,gs,rfl,by rw [List.length_cons] at hl;omega,hg⟩
theorem dig_take (x:Nat):((ByteArray.mk #[48,49,50,51,52,53,54,55,56,57,97,98,99,100,101,102]).extract 0 x).data.toList=neatB.take x:=by rw [Lib.extract_data];simp [neatB]
section code
set_option maxHeartbeats 4000000
set_option maxRecDepth 20000
theorem at_any (a:Option Addr) (n cap:Nat) (zs:List Int) (g:Nat) (i:Int) (w:World) (hc:w.cell? ⟨g,0,none⟩=some (.slice a n cap)) (hv:Nums .u8 w a n zs) (h0:0≤i) :
 Calls Tryz.prog 90 #[.int .i64 i,.pointer (some ⟨g,0,none⟩)] w fun e w'=>e=.returned (.int .u8 (atV n zs i))∧∃q,w'=w.drewN q:=by
 rcases Nat.eq_zero_or_pos n with hz | hp
 ·subst hz;go_enter Tryz.func90,Tryz.ntmps90;go_wp2;go_ret;exact ⟨rfl,0,rfl⟩
 ·have e:atV n zs i=(zs[i.toNat%n]?.getD 0+wrap64 (wrap64 (Int.tdiv i n)*41)%256)%256:=by unfold atV;rw [if_neg (by omega)]
  rw [e];clear e;obtain ⟨b,off,rfl,hb,hcs⟩:=hv.2 hp;obtain ⟨j,hj,hjm,_⟩:∃j:Nat,j<n∧Int.tmod i (n:Int)=(j:Int)∧i.toNat%n=j:=by refine ⟨i.toNat%n,Nat.mod_lt _ hp,?_,rfl⟩;rw [Int.tmod_eq_emod_of_nonneg h0,Int.natCast_emod,Int.toNat_of_nonneg h0]
  rename_i hjn;rw [hjn];obtain ⟨d,hd⟩:∃d:Int,Int.tdiv i (n:Int)=d:=⟨_,rfl⟩;rw [hd];have hck:=hcs j hj;generalize zs[j]?.getD 0=z at *;have t0:((n:Int)==0)=false:=by rw [beq_eq_false_iff_ne];omega
  have t1:¬(n:Int)=0:=by omega
  clear hcs hv hjn h0;go_enter Tryz.func90,Tryz.ntmps90;go_wp2_with fail
  go_quiet (fail);rename_i nq;go_wp2;go_ret;exact ⟨rfl,nq,rfl⟩
theorem parse4_any (j:Nat) (hj:j<4) (X:ByteArray) (hX:([.string ⟨#[65,58,32,98]⟩,.string ⟨#[88,45,89,58,32,122]⟩,.string ⟨#[65,99,99,101,112,116,58,32,42,47,42]⟩,.string ⟨#[67,111,111,107,105,101,58,32,97,61,49]⟩]:List Value)[j]?=some (.string X)) (w:World):Calls Tryz.prog 91 #[.string X,.int .u32 0] w fun e w'=>
 ∃nn vv:ByteArray,e=.returned (.tuple #[.agg #[.string nn,.string vv],.bool true,.int .i64 0])∧(nn,vv)∈neatF∧Below w.heap.size w w':=by
 have key:∀(s:ByteArray) (nn vv:List UInt8),s.size≤1000→Fd.parse Fd.c0 s.data.toList=some (some (nn,vv))→(ba nn,ba vv)∈neatF→Calls Tryz.prog 91 #[.string s,.int .u32 0] w fun e w'=>
  ∃nn vv:ByteArray,e=.returned (.tuple #[.agg #[.string nn,.string vv],.bool true,.int .i64 0])∧(nn,vv)∈neatF∧Below w.heap.size w w':=by
  intro s nn vv hs hp h1;refine (Fd.rparse_any s 0 (by decide) w (by omega)).mono ?_;rintro e w' ⟨rfl,hb⟩;rw [Fd.clOf_zero,hp];exact ⟨Txt.ba nn,Txt.ba vv,rfl,h1,hb⟩
 match j,hj with
 | 0,_=>simp at hX;subst hX;exact key _ [65] [98] (by decide) (by decide +kernel) (by simp [neatF,Txt.ba])
 | 1,_=>simp at hX;subst hX;exact key _ [88,45,89] [122] (by decide) (by decide +kernel) (by simp [neatF,Txt.ba])
 | 2,_=>simp at hX;subst hX;exact key _ [65,99,99,101,112,116] [42,47,42] (by decide) (by decide +kernel) (by simp [neatF,Txt.ba])
 | 3,_=>simp at hX;subst hX;exact key _ [67,111,111,107,105,101] [97,61,49] (by decide) (by decide +kernel) (by simp [neatF,Txt.ba])
theorem neat_full (a:Option Addr) (n cap:Nat) (zs:List Int) (w:World) (hv:Nums .u8 w a n zs) :
 Calls Tryz.prog 47 #[.slice a n cap] w fun e w'=>∃V' r',e=.returned V'∧Reads w' V' r'∧r'.k=1∧Small r'∧0<r'.fs.length∧r'.fs.length≤3∧Below w.heap.size w w'∧NeatR r':=by
 have eg:∀args w,(callFunc 90 args).run Tryz.prog w=.ok (.enter 90 args) w:=enters_of Tryz.func90 (by kernel_rfl) rfl;have HAT:Hid (∀(w1:World) (i:Int),Below w.heap.size w w1→Bk w1 w.heap.size [.slice a n cap]→0≤i→Calls Tryz.prog 90 #[.int .i64 i,.pointer (some ⟨w.heap.size,0,none⟩)] w1 fun e w'=>e=.returned (.int .u8 (atV n zs i))∧∃q,w'=w1.drewN q):=
  Lib.hid (fun w1 i hb hB h0=>at_any a n cap zs w.heap.size i w1 (hB.c 0 _ rfl) (hv.below hb) h0)
 have hF:=fun i=>atV_in n zs i;clear hv;generalize atV n zs=F at *
 obtain ⟨j0,hj0,rj0,rj0'⟩:=rem_at (F 0) (hF 0).1 5 (by decide);obtain ⟨X0,hX0,hsX0,hmX0⟩:∃X:ByteArray,([.string ⟨#[71,69,84]⟩,.string ⟨#[80,79,83,84]⟩,.string ⟨#[80,85,84]⟩,.string ⟨#[68,69,76,69,84,69]⟩,.string ⟨#[72,69,65,68]⟩]:List Value)[j0]?=some (.string X)∧X.size≤100∧X∈neatM:=by
  match j0,hj0 with
  | 0,_=>exact ⟨_,rfl,by decide,by simp [neatM]⟩
  | 1,_=>exact ⟨_,rfl,by decide,by simp [neatM]⟩
  | 2,_=>exact ⟨_,rfl,by decide,by simp [neatM]⟩
  | 3,_=>exact ⟨_,rfl,by decide,by simp [neatM]⟩
  | 4,_=>exact ⟨_,rfl,by decide,by simp [neatM]⟩
 have Hj0:=Lib.hid (show j0<5∧(j0:Int)<5 from ⟨hj0,by omega⟩);have HX0:=Lib.hid hX0;have HMX0:=Lib.hid hmX0
 have R0:=Lib.hid (show Int.tmod (F 0) 5=(j0:Int)∧(F 0)%5=(j0:Int) from ⟨rj0,rj0'⟩);clear hj0 rj0 rj0' hX0 hmX0
 obtain ⟨j1,hj1,rj1,rj1'⟩:=rem_at (F 1) (hF 1).1 6 (by decide);obtain ⟨X1,hX1,hsX1,hmX1⟩:∃X:ByteArray,([.string ⟨#[47]⟩,.string ⟨#[47,97]⟩,.string ⟨#[47,97,47,98,63,120,61,49]⟩,.string ⟨#[47,118,49,47,105,116,101,109,47,55]⟩,.string ⟨#[47,115,116,97,116,105,99,47,99,115,115,47,109,46,99,115,115]⟩,.string ⟨#[104,116,116,112,58,47,47,97,47,113]⟩]:List Value)[j1]?=some (.string X)∧X.size≤100∧X∈neatX:=by
  match j1,hj1 with
  | 0,_=>exact ⟨_,rfl,by decide,by simp [neatX]⟩
  | 1,_=>exact ⟨_,rfl,by decide,by simp [neatX]⟩
  | 2,_=>exact ⟨_,rfl,by decide,by simp [neatX]⟩
  | 3,_=>exact ⟨_,rfl,by decide,by simp [neatX]⟩
  | 4,_=>exact ⟨_,rfl,by decide,by simp [neatX]⟩
  | 5,_=>exact ⟨_,rfl,by decide,by simp [neatX]⟩
 have Hj1:=Lib.hid (show j1<6∧(j1:Int)<6 from ⟨hj1,by omega⟩);have HX1:=Lib.hid hX1;have HMX1:=Lib.hid hmX1
 have R1:=Lib.hid (show Int.tmod (F 1) 6=(j1:Int)∧(F 1)%6=(j1:Int) from ⟨rj1,rj1'⟩);clear hj1 rj1 rj1' hX1 hmX1
 obtain ⟨j2,hj2,rj2,rj2'⟩:=rem_at (F 2) (hF 2).1 2 (by decide);obtain ⟨X2,hX2,hsX2,hmX2⟩:∃X:ByteArray,([.string ⟨#[97]⟩,.string ⟨#[104,46,111,114,103]⟩]:List Value)[j2]?=some (.string X)∧X.size≤100∧X∈neatH:=by
  match j2,hj2 with
  | 0,_=>exact ⟨_,rfl,by decide,by simp [neatH]⟩
  | 1,_=>exact ⟨_,rfl,by decide,by simp [neatH]⟩
 have Hj2:=Lib.hid (show j2<2∧(j2:Int)<2 from ⟨hj2,by omega⟩);have HX2:=Lib.hid hX2;have HMX2:=Lib.hid hmX2
 have R2:=Lib.hid (show Int.tmod (F 2) 2=(j2:Int)∧(F 2)%2=(j2:Int) from ⟨rj2,rj2'⟩);clear hj2 rj2 rj2' hX2 hmX2;obtain ⟨t3,HHt3⟩:∃t3:Nat,Hid (t3<3∧Int.tmod (F 3) 3=(t3:Int)∧F 3%3=(t3:Int)):=by obtain ⟨j,h1,h2,h3⟩:=rem_at (F 3) (hF 3).1 3 (by decide);exact ⟨j,Lib.hid ⟨h1,h2,h3⟩⟩
 obtain ⟨j7,HHj7⟩:∃j7:Nat,Hid (j7<2∧Int.tmod (F 7) 2=(j7:Int)∧F 7%2=(j7:Int)):=by obtain ⟨j,h1,h2,h3⟩:=rem_at (F 7) (hF 7).1 2 (by decide);exact ⟨j,Lib.hid ⟨h1,h2,h3⟩⟩
 obtain ⟨x8,HHx8⟩:∃x8:Nat,Hid (x8<16∧Int.tmod (F 8) 16=(x8:Int)∧F 8%16=(x8:Int)):=by obtain ⟨j,h1,h2,h3⟩:=rem_at (F 8) (hF 8).1 16 (by decide);exact ⟨j,Lib.hid ⟨h1,h2,h3⟩⟩
 obtain ⟨j9,HHj9⟩:∃j9:Nat,Hid (j9<5∧Int.tmod (F 9) 5=(j9:Int)∧F 9%5=(j9:Int)):=by obtain ⟨j,h1,h2,h3⟩:=rem_at (F 9) (hF 9).1 5 (by decide);exact ⟨j,Lib.hid ⟨h1,h2,h3⟩⟩
 replace hF:=Lib.hid hF
 go_enter Tryz.func47,Tryz.ntmps47;go_upto_region 2 with fail
 have hb00:=Lib.hid (((Below.refl _ _).alloc (Nat.le_refl _) (.cells #[.slice a n cap] 22)).alloc (by simp) (.cells #[.string ⟨#[]⟩,.string ⟨#[]⟩,.int .i64 0,.slice none 0 0,.bool false,.slice none 0 0,.slice none 0 0] 58):Below w.heap.size w _)
 have HAl:=Lib.hid ((Bk.new w w.heap.size rfl 22 [.slice a n cap]).alloc (.cells #[.string ⟨#[]⟩,.string ⟨#[]⟩,.int .i64 0,.slice none 0 0,.bool false,.slice none 0 0,.slice none 0 0] 58))
 have HZr:=Lib.hid (Bk.new (w.alloc (.cells #[.slice a n cap] 22)) (w.heap.size+1) (by simp) 58 [.string ⟨#[]⟩,.string ⟨#[]⟩,.int .i64 0,.slice none 0 0,.bool false,.slice none 0 0,.slice none 0 0])
 have hwz:=Lib.hid (show w.heap.size+1<((w.alloc (.cells #[.slice a n cap] 22)).alloc (.cells #[.string ⟨#[]⟩,.string ⟨#[]⟩,.int .i64 0,.slice none 0 0,.bool false,.slice none 0 0,.slice none 0 0] 58)).heap.size by simp);generalize (w.alloc (.cells #[.slice a n cap] 22)).alloc (.cells #[.string ⟨#[]⟩,.string ⟨#[]⟩,.int .i64 0,.slice none 0 0,.bool false,.slice none 0 0,.slice none 0 0] 58)=W0 at *
 have hb0:=Lib.hid (Base.below_drewN hb00.out 1)
 have HAl1:=Lib.hid (HAl.out.drew 1);refine Each.region 22 [10,11,12,13,14,15,16,17,18,19,20,21,22,23,24,25,26,27,28,29,30,4]
  [fun v w=>∃g,v=.slice (some ⟨g,0,none⟩) 5 5∧Bk w g [.string ⟨#[71,69,84]⟩,.string ⟨#[80,79,83,84]⟩,.string ⟨#[80,85,84]⟩,.string ⟨#[68,69,76,69,84,69]⟩,.string ⟨#[72,69,65,68]⟩],
    fun v _=>v=.func (.func 90) #[] #[.pointer (some ⟨w.heap.size,0,none⟩)],
    fun v _=>v=.int .u8 (F 0),
    fun v _=>v=.int .u8 (j0:Int),
    fun v w=>∃g,v=.pointer (some ⟨g,j0,none⟩)∧Bk w g [.string ⟨#[71,69,84]⟩,.string ⟨#[80,79,83,84]⟩,.string ⟨#[80,85,84]⟩,.string ⟨#[68,69,76,69,84,69]⟩,.string ⟨#[72,69,65,68]⟩],
    fun v _=>v=.string X0,
    fun v w=>∃g,v=.slice (some ⟨g,0,none⟩) 6 6∧Bk w g [.string ⟨#[47]⟩,.string ⟨#[47,97]⟩,.string ⟨#[47,97,47,98,63,120,61,49]⟩,.string ⟨#[47,118,49,47,105,116,101,109,47,55]⟩,.string ⟨#[47,115,116,97,116,105,99,47,99,115,115,47,109,46,99,115,115]⟩,.string ⟨#[104,116,116,112,58,47,47,97,47,113]⟩],
    fun v _=>v=.func (.func 90) #[] #[.pointer (some ⟨w.heap.size,0,none⟩)],
    fun v _=>v=.int .u8 (F 1),
    fun v _=>v=.int .u8 (j1:Int),
    fun v w=>∃g,v=.pointer (some ⟨g,j1,none⟩)∧Bk w g [.string ⟨#[47]⟩,.string ⟨#[47,97]⟩,.string ⟨#[47,97,47,98,63,120,61,49]⟩,.string ⟨#[47,118,49,47,105,116,101,109,47,55]⟩,.string ⟨#[47,115,116,97,116,105,99,47,99,115,115,47,109,46,99,115,115]⟩,.string ⟨#[104,116,116,112,58,47,47,97,47,113]⟩],
    fun v _=>v=.string X1,
    fun v w=>∃g,v=.slice (some ⟨g,0,none⟩) 2 2∧Bk w g [.string ⟨#[97]⟩,.string ⟨#[104,46,111,114,103]⟩],
    fun v _=>v=.func (.func 90) #[] #[.pointer (some ⟨w.heap.size,0,none⟩)],
    fun v _=>v=.int .u8 (F 2),
    fun v _=>v=.int .u8 (j2:Int),
    fun v w=>∃g,v=.pointer (some ⟨g,j2,none⟩)∧Bk w g [.string ⟨#[97]⟩,.string ⟨#[104,46,111,114,103]⟩],
    fun v _=>v=.string X2,
    fun v _=>v=.agg #[.string ⟨#[72,111,115,116]⟩,.string X2],
    fun v w=>∃g,v=.slice (some ⟨g,0,none⟩) 1 1∧World.ownsRow w W0.heap.size 126 2 (.slice (some ⟨g,0,none⟩) 1 1) 1 (cells [(⟨#[72,111,115,116]⟩,X2)]),
    fun v w=>∃g,v=.agg #[.string X0,.string X1,.int .i64 1,.slice (some ⟨g,0,none⟩) 1 1,.bool false,.slice none 0 0,.slice none 0 0]∧World.ownsRow w W0.heap.size 126 2 (.slice (some ⟨g,0,none⟩) 1 1) 1 (cells [(⟨#[72,111,115,116]⟩,X2)]),
    fun v w=>∃g,v=.pointer (some ⟨g,0,none⟩)∧(W0.heap.size≤g∧Bk w g [.string ⟨#[]⟩,.string ⟨#[]⟩,.int .i64 0,.slice none 0 0,.bool false,.slice none 0 0,.slice none 0 0])]
  (.act 22 .done) (by kernel_rfl) (by kernel_rfl) (by kernel_rfl) (by kernel_rfl) (fun _ _ d _ _ h=>by cases d<;>exact h) (by rfl) (by rfl)
  ⟨((fun _ _ _ hb h=>by obtain ⟨g,rfl,hB⟩:=h;exact ⟨g,rfl,hB.below hb⟩)),Each.Lasts.eq _,Each.Lasts.eq _,Each.Lasts.eq _,((fun _ _ _ hb h=>by obtain ⟨g,rfl,hB⟩:=h;exact ⟨g,rfl,hB.below hb⟩)),Each.Lasts.eq _,((fun _ _ _ hb h=>by obtain ⟨g,rfl,hB⟩:=h;exact ⟨g,rfl,hB.below hb⟩)),Each.Lasts.eq _,Each.Lasts.eq _,Each.Lasts.eq _,((fun _ _ _ hb h=>by obtain ⟨g,rfl,hB⟩:=h;exact ⟨g,rfl,hB.below hb⟩)),Each.Lasts.eq _,((fun _ _ _ hb h=>by obtain ⟨g,rfl,hB⟩:=h;exact ⟨g,rfl,hB.below hb⟩)),Each.Lasts.eq _,Each.Lasts.eq _,Each.Lasts.eq _,((fun _ _ _ hb h=>by obtain ⟨g,rfl,hB⟩:=h;exact ⟨g,rfl,hB.below hb⟩)),Each.Lasts.eq _,Each.Lasts.eq _,((fun _ _ _ hb h=>by obtain ⟨g,rfl,hB⟩:=h;exact ⟨g,rfl,own_below hB hb⟩)),((fun _ _ _ hb h=>by obtain ⟨g,rfl,hB⟩:=h;exact ⟨g,rfl,own_below hB hb⟩)),((fun _ _ _ hb h=>by obtain ⟨g,rfl,hg,hB⟩:=h;exact ⟨g,rfl,hg,hB.below hb⟩)),trivial⟩ ?_ ?_
 ·refine ⟨?_,?_,?_,?_,?_,?_,?_,?_,?_,?_,?_,?_,?_,?_,?_,?_,?_,?_,?_,?_,?_,?_,trivial⟩
  ·refine Each.fine rfl (fun ev w1 hR hb hh=>?_);clear hh;have ec:=hR.const;exact Each.Goes.value (.slice (some ⟨w1.heap.size,0,none⟩) 5 5) (w1.alloc (.cells #[.string ⟨#[71,69,84]⟩,.string ⟨#[80,79,83,84]⟩,.string ⟨#[80,85,84]⟩,.string ⟨#[68,69,76,69,84,69]⟩,.string ⟨#[72,69,65,68]⟩] 9)) (by go_simp) ((Below.refl _ _).alloc (Nat.le_refl _) _) ⟨_,rfl,Bk.new w1 _ rfl 9 [.string ⟨#[71,69,84]⟩,.string ⟨#[80,79,83,84]⟩,.string ⟨#[80,85,84]⟩,.string ⟨#[68,69,76,69,84,69]⟩,.string ⟨#[72,69,65,68]⟩]⟩
  ·refine Each.fine rfl (fun ev w1 hR hb hh=>?_);clear hh;have e3:=hR.old 3 rfl;simp only [Array.getD_eq_getD_getElem?,List.getElem?_toArray,List.getElem?_cons_succ,List.getElem?_cons_zero,Option.getD_some] at e3;refine Each.Goes.same ?_;go_simp;try with_reducible rfl
  ·refine Each.fine rfl (fun ev w1 hR hb hh=>?_);have e11:(ev (.tmp 11)=.func (.func 90) #[] #[.pointer (some ⟨w.heap.size,0,none⟩)]):=hh.at 0;clear hh;have ec:=hR.const
   refine Each.Goes.enter 90 #[.int .i64 0,.pointer (some ⟨w.heap.size,0,none⟩)] (by go_simp) ((HAT.out w1 0 (Base.below_step hb0.out hb) (HAl1.out.below hb) (by decide)).mono ?_);rintro e w2 ⟨rfl,q,hw⟩;exact ⟨_,rfl,(by rw [hw];exact Base.below_drewN (Below.refl _ _) q),rfl⟩
  ·refine Each.fine rfl (fun ev w1 hR hb hh=>?_);have e12:(ev (.tmp 12)=.int .u8 (F 0)):=hh.at 0;clear hh;have ec:=hR.const;have r1:=R0.out.1;have r2:=R0.out.2;refine Each.Goes.same ?_;go_simp;try with_reducible rfl
  ·refine Each.fine rfl (fun ev w1 hR hb hh=>?_);have e10:((fun v w=>∃g,v=.slice (some ⟨g,0,none⟩) 5 5∧Bk w g [.string ⟨#[71,69,84]⟩,.string ⟨#[80,79,83,84]⟩,.string ⟨#[80,85,84]⟩,.string ⟨#[68,69,76,69,84,69]⟩,.string ⟨#[72,69,65,68]⟩]) (ev (.tmp 10)) w1):=hh.at 0;have e13:(ev (.tmp 13)=.int .u8 (j0:Int)):=hh.at 1;clear hh;obtain ⟨ga,ea,hB⟩:=e10;have hi1:=Hj0.out.1;have hi2:=Hj0.out.2;exact Each.Goes.value (.pointer (some ⟨ga,j0,none⟩)) w1 (by go_simp) (Below.refl _ _) ⟨ga,rfl,hB⟩
  ·refine Each.fine rfl (fun ev w1 hR hb hh=>?_);have e14:((fun v w=>∃g,v=.pointer (some ⟨g,j0,none⟩)∧Bk w g [.string ⟨#[71,69,84]⟩,.string ⟨#[80,79,83,84]⟩,.string ⟨#[80,85,84]⟩,.string ⟨#[68,69,76,69,84,69]⟩,.string ⟨#[72,69,65,68]⟩]) (ev (.tmp 14)) w1):=hh.at 0;clear hh;obtain ⟨ga,ea,hB⟩:=e14;have q0:=hB.c j0 _ HX0.out;refine Each.Goes.same ?_;go_simp;try with_reducible rfl
  ·refine Each.fine rfl (fun ev w1 hR hb hh=>?_);clear hh;have ec:=hR.const;exact Each.Goes.value (.slice (some ⟨w1.heap.size,0,none⟩) 6 6) (w1.alloc (.cells #[.string ⟨#[47]⟩,.string ⟨#[47,97]⟩,.string ⟨#[47,97,47,98,63,120,61,49]⟩,.string ⟨#[47,118,49,47,105,116,101,109,47,55]⟩,.string ⟨#[47,115,116,97,116,105,99,47,99,115,115,47,109,46,99,115,115]⟩,.string ⟨#[104,116,116,112,58,47,47,97,47,113]⟩] 9)) (by go_simp) ((Below.refl _ _).alloc (Nat.le_refl _) _) ⟨_,rfl,Bk.new w1 _ rfl 9 [.string ⟨#[47]⟩,.string ⟨#[47,97]⟩,.string ⟨#[47,97,47,98,63,120,61,49]⟩,.string ⟨#[47,118,49,47,105,116,101,109,47,55]⟩,.string ⟨#[47,115,116,97,116,105,99,47,99,115,115,47,109,46,99,115,115]⟩,.string ⟨#[104,116,116,112,58,47,47,97,47,113]⟩]⟩
  ·refine Each.fine rfl (fun ev w1 hR hb hh=>?_);clear hh;have e3:=hR.old 3 rfl;simp only [Array.getD_eq_getD_getElem?,List.getElem?_toArray,List.getElem?_cons_succ,List.getElem?_cons_zero,Option.getD_some] at e3;refine Each.Goes.same ?_;go_simp;try with_reducible rfl
  ·refine Each.fine rfl (fun ev w1 hR hb hh=>?_);have e17:(ev (.tmp 17)=.func (.func 90) #[] #[.pointer (some ⟨w.heap.size,0,none⟩)]):=hh.at 0;clear hh;have ec:=hR.const
   refine Each.Goes.enter 90 #[.int .i64 1,.pointer (some ⟨w.heap.size,0,none⟩)] (by go_simp) ((HAT.out w1 1 (Base.below_step hb0.out hb) (HAl1.out.below hb) (by decide)).mono ?_);rintro e w2 ⟨rfl,q,hw⟩;exact ⟨_,rfl,(by rw [hw];exact Base.below_drewN (Below.refl _ _) q),rfl⟩
  ·refine Each.fine rfl (fun ev w1 hR hb hh=>?_);have e18:(ev (.tmp 18)=.int .u8 (F 1)):=hh.at 0;clear hh;have ec:=hR.const;have r1:=R1.out.1;have r2:=R1.out.2;refine Each.Goes.same ?_;go_simp;try with_reducible rfl
  ·refine Each.fine rfl (fun ev w1 hR hb hh=>?_);have e16:((fun v w=>∃g,v=.slice (some ⟨g,0,none⟩) 6 6∧Bk w g [.string ⟨#[47]⟩,.string ⟨#[47,97]⟩,.string ⟨#[47,97,47,98,63,120,61,49]⟩,.string ⟨#[47,118,49,47,105,116,101,109,47,55]⟩,.string ⟨#[47,115,116,97,116,105,99,47,99,115,115,47,109,46,99,115,115]⟩,.string ⟨#[104,116,116,112,58,47,47,97,47,113]⟩]) (ev (.tmp 16)) w1):=hh.at 0;have e19:(ev (.tmp 19)=.int .u8 (j1:Int)):=hh.at 1;clear hh;obtain ⟨ga,ea,hB⟩:=e16;have hi1:=Hj1.out.1;have hi2:=Hj1.out.2;exact Each.Goes.value (.pointer (some ⟨ga,j1,none⟩)) w1 (by go_simp) (Below.refl _ _) ⟨ga,rfl,hB⟩
  ·refine Each.fine rfl (fun ev w1 hR hb hh=>?_);have e20:((fun v w=>∃g,v=.pointer (some ⟨g,j1,none⟩)∧Bk w g [.string ⟨#[47]⟩,.string ⟨#[47,97]⟩,.string ⟨#[47,97,47,98,63,120,61,49]⟩,.string ⟨#[47,118,49,47,105,116,101,109,47,55]⟩,.string ⟨#[47,115,116,97,116,105,99,47,99,115,115,47,109,46,99,115,115]⟩,.string ⟨#[104,116,116,112,58,47,47,97,47,113]⟩]) (ev (.tmp 20)) w1):=hh.at 0;clear hh;obtain ⟨ga,ea,hB⟩:=e20;have q0:=hB.c j1 _ HX1.out;refine Each.Goes.same ?_;go_simp;try with_reducible rfl
  ·refine Each.fine rfl (fun ev w1 hR hb hh=>?_);clear hh;have ec:=hR.const;exact Each.Goes.value (.slice (some ⟨w1.heap.size,0,none⟩) 2 2) (w1.alloc (.cells #[.string ⟨#[97]⟩,.string ⟨#[104,46,111,114,103]⟩] 9)) (by go_simp) ((Below.refl _ _).alloc (Nat.le_refl _) _) ⟨_,rfl,Bk.new w1 _ rfl 9 [.string ⟨#[97]⟩,.string ⟨#[104,46,111,114,103]⟩]⟩
  ·refine Each.fine rfl (fun ev w1 hR hb hh=>?_);clear hh;have e3:=hR.old 3 rfl;simp only [Array.getD_eq_getD_getElem?,List.getElem?_toArray,List.getElem?_cons_succ,List.getElem?_cons_zero,Option.getD_some] at e3;refine Each.Goes.same ?_;go_simp;try with_reducible rfl
  ·refine Each.fine rfl (fun ev w1 hR hb hh=>?_);have e23:(ev (.tmp 23)=.func (.func 90) #[] #[.pointer (some ⟨w.heap.size,0,none⟩)]):=hh.at 0;clear hh;have ec:=hR.const
   refine Each.Goes.enter 90 #[.int .i64 2,.pointer (some ⟨w.heap.size,0,none⟩)] (by go_simp) ((HAT.out w1 2 (Base.below_step hb0.out hb) (HAl1.out.below hb) (by decide)).mono ?_);rintro e w2 ⟨rfl,q,hw⟩;exact ⟨_,rfl,(by rw [hw];exact Base.below_drewN (Below.refl _ _) q),rfl⟩
  ·refine Each.fine rfl (fun ev w1 hR hb hh=>?_);have e24:(ev (.tmp 24)=.int .u8 (F 2)):=hh.at 0;clear hh;have ec:=hR.const;have r1:=R2.out.1;have r2:=R2.out.2;refine Each.Goes.same ?_;go_simp;try with_reducible rfl
  ·refine Each.fine rfl (fun ev w1 hR hb hh=>?_);have e22:((fun v w=>∃g,v=.slice (some ⟨g,0,none⟩) 2 2∧Bk w g [.string ⟨#[97]⟩,.string ⟨#[104,46,111,114,103]⟩]) (ev (.tmp 22)) w1):=hh.at 0;have e25:(ev (.tmp 25)=.int .u8 (j2:Int)):=hh.at 1;clear hh;obtain ⟨ga,ea,hB⟩:=e22;have hi1:=Hj2.out.1;have hi2:=Hj2.out.2;exact Each.Goes.value (.pointer (some ⟨ga,j2,none⟩)) w1 (by go_simp) (Below.refl _ _) ⟨ga,rfl,hB⟩
  ·refine Each.fine rfl (fun ev w1 hR hb hh=>?_);have e26:((fun v w=>∃g,v=.pointer (some ⟨g,j2,none⟩)∧Bk w g [.string ⟨#[97]⟩,.string ⟨#[104,46,111,114,103]⟩]) (ev (.tmp 26)) w1):=hh.at 0;clear hh;obtain ⟨ga,ea,hB⟩:=e26;have q0:=hB.c j2 _ HX2.out;refine Each.Goes.same ?_;go_simp;try with_reducible rfl
  ·refine Each.fine rfl (fun ev w1 hR hb hh=>?_);have e27:(ev (.tmp 27)=.string X2):=hh.at 0;clear hh;have ec:=hR.const;refine Each.Goes.same ?_;go_simp;try with_reducible rfl
  ·refine Each.fine rfl (fun ev w1 hR hb hh=>?_);have e28:(ev (.tmp 28)=.agg #[.string ⟨#[72,111,115,116]⟩,.string X2]):=hh.at 0;clear hh;exact Each.Goes.value (.slice (some ⟨w1.heap.size,0,none⟩) 1 1) (w1.alloc (.cells #[.string ⟨#[72,111,115,116]⟩,.string X2] 126)) (by go_simp) ((Below.refl _ _).alloc (Nat.le_refl _) _) ⟨_,rfl,World.ownsRow_lit w1 #[.string ⟨#[72,111,115,116]⟩,.string X2] 1 (hb.size) (by decide) rfl⟩
  ·refine Each.fine rfl (fun ev w1 hR hb hh=>?_);have e15:(ev (.tmp 15)=.string X0):=hh.at 0;have e21:(ev (.tmp 21)=.string X1):=hh.at 1;have e29:((fun v w=>∃g,v=.slice (some ⟨g,0,none⟩) 1 1∧World.ownsRow w W0.heap.size 126 2 (.slice (some ⟨g,0,none⟩) 1 1) 1 (cells [(⟨#[72,111,115,116]⟩,X2)])) (ev (.tmp 29)) w1):=hh.at 2;clear hh;have ec:=hR.const;obtain ⟨g,ea,ho⟩:=e29;exact Each.Goes.value (.agg #[.string X0,.string X1,.int .i64 1,.slice (some ⟨g,0,none⟩) 1 1,.bool false,.slice none 0 0,.slice none 0 0]) w1 (by go_simp) (Below.refl _ _) ⟨g,rfl,ho⟩
  ·refine Each.fine rfl (fun ev w1 hR hb hh=>?_);clear hh;exact Each.Goes.value (.pointer (some ⟨w1.heap.size,0,none⟩)) (w1.alloc (.cells #[.string ⟨#[]⟩,.string ⟨#[]⟩,.int .i64 0,.slice none 0 0,.bool false,.slice none 0 0,.slice none 0 0] 58)) (by go_simp) ((Below.refl _ _).alloc (Nat.le_refl _) _) ⟨_,rfl,hb.size,Bk.new w1 _ rfl 58 [.string ⟨#[]⟩,.string ⟨#[]⟩,.int .i64 0,.slice none 0 0,.bool false,.slice none 0 0,.slice none 0 0]⟩
 intro g1 w2 hb hf;have z30:((fun v w=>∃g,v=.agg #[.string X0,.string X1,.int .i64 1,.slice (some ⟨g,0,none⟩) 1 1,.bool false,.slice none 0 0,.slice none 0 0]∧World.ownsRow w W0.heap.size 126 2 (.slice (some ⟨g,0,none⟩) 1 1) 1 (cells [(⟨#[72,111,115,116]⟩,X2)])) (g1 30) w2):=hf.at 20;have z4:((fun v w=>∃g,v=.pointer (some ⟨g,0,none⟩)∧(W0.heap.size≤g∧Bk w g [.string ⟨#[]⟩,.string ⟨#[]⟩,.int .i64 0,.slice none 0 0,.bool false,.slice none 0 0,.slice none 0 0])) (g1 4) w2):=hf.at 21;clear hf;obtain ⟨ga,ea,ho⟩:=z30;obtain ⟨gb,eb,hgb,hB⟩:=z4;simp only [Each.putg,Act.put,List.setIfInBounds_toArray,List.set_cons_zero,List.set_cons_succ];rw [ea,eb];simp only [Tree.grow,Tree.put1,List.getElem?_cons_zero,List.getElem?_cons_succ]
 refine Tree.change (by rfl) (fun K hK=>?_);have y0:=hB.c 0 _ rfl;have y1:=hB.c 1 _ rfl;have y2:=hB.c 2 _ rfl;have y3:=hB.c 3 _ rfl;have y4:=hB.c 4 _ rfl;have y5:=hB.c 5 _ rfl;have y6:=hB.c 6 _ rfl
 have p0:=hB.z 0 (by simp);have p1:=hB.z 1 (by simp);have p2:=hB.z 2 (by simp);have p3:=hB.z 3 (by simp);have p4:=hB.z 4 (by simp);have p5:=hB.z 5 (by simp);have p6:=hB.z 6 (by simp);have hne:¬ga=gb:=fun e=>by have h1:=ho.cellAt 0 (by decide);rw [e,y0] at h1;rw [show (cells [((⟨#[72,111,115,116]⟩:ByteArray),X2)])[0]?=some (.string ⟨#[72,111,115,116]⟩) from rfl] at h1;simp at h1
 obtain ⟨X,hX,hBX,hbX,hsX,hoX,hkX⟩:=put7 hB (by simp) (Base.below_step hb00.out hb) (by have:=hwz.out;omega) (.string X0) (.string X1) (.int .i64 1) (.slice (some ⟨ga,0,none⟩) 1 1) (.bool false) (.slice none 0 0) (.slice none 0 0);have HG0:=Lib.hid hBX
 have HO0:=Lib.hid (hoX _ _ _ _ _ _ ho (fun e=>hne (by simpa [Value.ownBlock] using e)))
 have HAx:=Lib.hid (hkX _ _ (by have:=hwz.out;omega) (HAl.out.below hb))
 have HZx:=Lib.hid (hkX _ _ (by have:=hwz.out;omega) (HZr.out.below hb));have HBx:=Lib.hid hbX;have HX:=Lib.hid hX;have HNE:=Lib.hid hne
 have HSX:=Lib.hid (show W0.heap.size≤X.heap.size by rw [hsX];exact hb.size);clear hBX hoX hkX hbX hne hX ho ea eb;go_simp;refine hK _ _ trivial ?_;rw [HX.out];have hgb:=Lib.hid hgb;clear hK K HX y0 y1 y2 y3 y4 y5 y6 p0 p1 p2 p3 p4 p5 p6 hB hb hsX HAl HAl1 HZr hb0 hb00;refine Tree.done ?_;obtain ⟨iF,hi,hz0,hz1,hz2⟩:=info_parts field_info;have I1:=Lib.hid hi;have I2:=Lib.hid hz0;have I3:=Lib.hid hz1;have I4:=Lib.hid hz2;clear hi hz0 hz1 hz2;have HXs:=HBx;go_wp2_with fail
 go_loopw [5] (fun i wr=>∃(k:Nat) (fs:List Fld) (v:Value),k≤t3∧i=.int .i64 k∧fs.length=k+1∧Hid (FsR X2 fs)∧Hid (Bk wr gb [.string X0,.string X1,.int .i64 1,v,.bool false,.slice none 0 0,.slice none 0 0])∧Hid (wr.ownsRow W0.heap.size 126 2 v (k+1) (cells fs))∧
  Hid (∀q,v.ownBlock=some q→¬q=gb∧W0.heap.size≤q)∧Hid (Bk wr w.heap.size [.slice a n cap])∧Hid (Bk wr (w.heap.size+1) [.string ⟨#[]⟩,.string ⟨#[]⟩,.int .i64 0,.slice none 0 0,.bool false,.slice none 0 0,.slice none 0 0])∧Hid (W0.heap.size≤wr.heap.size)∧Hid (Below w.heap.size w wr)) (fun i _=>3-(intOf i).toNat)
 case atStart=>
  exact ⟨0,[(⟨#[72,111,115,116]⟩,X2)],.slice (some ⟨ga,0,none⟩) 1 1,Nat.zero_le _,rfl,rfl,Lib.hid ⟨[],rfl,fun g hg=>(by cases hg)⟩,HG0,HO0,Lib.hid (fun q hq=>by
   obtain rfl:ga=q:=(by simpa [Value.ownBlock] using hq)
   exact ⟨HNE.out,(World.ownsRow.lt HO0.out _ rfl).1⟩),HAx,HZx,HSX,HBx⟩
 case round=>
  obtain ⟨k,fs,v,hk,rfl,hfl,HFs,HGr,HOr,HNr,HAr,HZr,HSr,hbr⟩:=hrel;by_cases hkt:k<t3
  ·have i1:(k:Int)<(t3:Int):=by omega
   obtain ⟨j4,HH4⟩:∃j:Nat,Hid (j<4∧Int.tmod (F (4+(k:Int))) 4=(j:Int)∧F (4+(k:Int))%4=(j:Int)):=by obtain ⟨j,h1,h2,h3⟩:=rem_at (F (4+(k:Int))) (hF.out _).1 4 (by decide);exact ⟨j,Lib.hid ⟨h1,h2,h3⟩⟩
   have hj4:=HH4.out.1;obtain ⟨X4,hX4⟩:∃X:ByteArray,([.string ⟨#[65,58,32,98]⟩,.string ⟨#[88,45,89,58,32,122]⟩,.string ⟨#[65,99,99,101,112,116,58,32,42,47,42]⟩,.string ⟨#[67,111,111,107,105,101,58,32,97,61,49]⟩]:List Value)[j4]?=some (.string X):=by
    match j4,hj4 with
    | 0,_=>exact ⟨_,rfl⟩
    | 1,_=>exact ⟨_,rfl⟩
    | 2,_=>exact ⟨_,rfl⟩
    | 3,_=>exact ⟨_,rfl⟩
   have HPa:=Lib.hid (fun w=>parse4_any j4 hj4 X4 hX4 w);have HX4:=Lib.hid hX4;have i4:(j4:Int)<4:=by omega
   have hk3:t3≤2:=by have:=HHt3.out.1;omega
   have a1:IntKind.i64.wrap (4+(k:Int))=4+(k:Int):=wrap_in _ (by omega) (by omega)
   have a2:wrap64 (4+(k:Int))=4+(k:Int):=wrap64_in _ (by omega) (by omega);obtain ⟨-,r1,r2⟩:=HHt3.out;obtain ⟨-,r3,r4⟩:=HH4.out;have HKT:=Lib.hid hkt;have HK:=Lib.hid hk;have HK3:=Lib.hid hk3;have HFL:=Lib.hid hfl;have HJ4:=Lib.hid hj4;have HI4:=Lib.hid i4;clear hX4 hkt hk hk3 hfl
   go_upto_region 7 with (first
    |(go_at_call 91;with_reducible refine (HPa.out _).mono ?_;rintro e w6 ⟨nn,vv,rfl,hn6,hb6⟩
      have HB6:=Lib.hid (Base.below_step HB5.out hb6);have HS6:=Lib.hid hn6;clear hb6 hn6)
    |(go_at_fn 90;with_reducible refine (HAT.out _ (4+(k:Int)) (Base.below_step hbr.out (HB4.out.alloc HB4.out.size (.cells #[.string ⟨#[65,58,32,98]⟩,.string ⟨#[88,45,89,58,32,122]⟩,.string ⟨#[65,99,99,101,112,116,58,32,42,47,42]⟩,.string ⟨#[67,111,111,107,105,101,58,32,97,61,49]⟩] 9))) ((HAr.out.below HB4.out).alloc (.cells #[.string ⟨#[65,58,32,98]⟩,.string ⟨#[88,45,89,58,32,122]⟩,.string ⟨#[65,99,99,101,112,116,58,32,42,47,42]⟩,.string ⟨#[67,111,111,107,105,101,58,32,97,61,49]⟩] 9)) (by omega)).mono ?_;rintro e w5 ⟨rfl,q5,hw5⟩
      have hb5:Below (w4.alloc (.cells #[.string ⟨#[65,58,32,98]⟩,.string ⟨#[88,45,89,58,32,122]⟩,.string ⟨#[65,99,99,101,112,116,58,32,42,47,42]⟩,.string ⟨#[67,111,111,107,105,101,58,32,97,61,49]⟩] 9)).heap.size (w4.alloc (.cells #[.string ⟨#[65,58,32,98]⟩,.string ⟨#[88,45,89,58,32,122]⟩,.string ⟨#[65,99,99,101,112,116,58,32,42,47,42]⟩,.string ⟨#[67,111,111,107,105,101,58,32,97,61,49]⟩] 9)) w5:=by rw [hw5];exact Base.below_drewN (Below.refl _ _) q5
      have HB5:=Lib.hid (Base.below_step (HB4.out.alloc HB4.out.size (.cells #[.string ⟨#[65,58,32,98]⟩,.string ⟨#[88,45,89,58,32,122]⟩,.string ⟨#[65,99,99,101,112,116,58,32,42,47,42]⟩,.string ⟨#[67,111,111,107,105,101,58,32,97,61,49]⟩] 9)) hb5)
      have qx:=(hb5.cell (p:=⟨w4.heap.size,j4,none⟩) (by simp)).trans ((Bk.new w4 w4.heap.size rfl 9 [.string ⟨#[65,58,32,98]⟩,.string ⟨#[88,45,89,58,32,122]⟩,.string ⟨#[65,99,99,101,112,116,58,32,42,47,42]⟩,.string ⟨#[67,111,111,107,105,101,58,32,97,61,49]⟩]).c j4 _ HX4.out);clear hb5 hw5)
    |(go_at_fn 90;with_reducible refine (HAT.out _ 3 hbr.out HAr.out (by decide)).mono ?_;rintro e w4 ⟨rfl,q4,hw4⟩
      have HB4:=Lib.hid (show Below wr.heap.size wr w4 by rw [hw4];exact Base.below_drewN (Below.refl _ _) q4);clear hw4))
   have HW2:=Lib.hid (HB6.out.alloc HB6.out.size (.cells #[.string nn,.string vv] 126))
   have HFb:=Lib.hid (Bk.new w6 w6.heap.size rfl 126 [.string nn,.string vv])
   have hfw:=Lib.hid (show wr.heap.size≤w6.heap.size from HB6.out.size);clear qx;generalize w6.alloc (.cells #[.string nn,.string vv] 126)=W2 at *;generalize w6.heap.size=fb at *;clear r1 r2 r3 r4 i1 a1 a2 i4
   have hb2:=Lib.hid (Base.below_step hbr.out HW2.out)
   have HG2:=Lib.hid (HGr.out.below HW2.out);have HA2:=Lib.hid (HAr.out.below HW2.out);have HZ2:=Lib.hid (HZr.out.below HW2.out);have HO2:=Lib.hid (own_below HOr.out HW2.out)
   have HQ:=Lib.hid (show∀q,v.ownBlock=some q→q<W2.heap.size from fun q hq=>own_lt HO2.out q hq)
   have HGl:=Lib.hid (show gb<W2.heap.size from HG2.out.lt)
   have q3:=HG2.out.c 3 _ rfl;have z3:=HG2.out.z 3 (by simp);have y0:=HFb.out.c 0 _ rfl;have y1:=HFb.out.c 1 _ rfl;go_upto_region 5 with
    (at_builtin;refine App.wpList_append_list _ rfl _ _ 46 rfl W0.heap.size 126 iF (.agg #[.string ByteArray.empty,.string ByteArray.empty]) 2 32 Tryz.underlying46 I1.out I2.out I3.out I4.out rfl (by decide) v (k+1) (cells fs) rfl (HO2.out.alloc (.cells #[.string nn,.string vv] 126)) (some ⟨W2.heap.size,0,none⟩) 1 1 [.string nn,.string vv] rfl rfl (lit_lie W2 W2.heap.size rfl 126 [.string nn,.string vv] 1) (by intro u hu;rcases (by simpa using hu:u=.string nn∨u=.string vv) with rfl | rfl<;>rfl) (by have:=HKT.out;have:=HK3.out;unfold maxLen;omega) (by have:=HKT.out;have:=HK3.out;omega) (by have:=HSr.out;have:=HW2.out.size;simp;omega) ?_;intro v2 w7 hO7 hgr7 _ hor7;obtain ⟨b2,c2,rfl⟩:=own_slice hO7;have hO7':w7.ownsRow W0.heap.size 126 2 (.slice b2 (k+1+1) c2) (k+1+1) (cells (fs ++ [(nn,vv)])):=by rw [cells_append];exact hO7
     have HO7:=Lib.hid hO7'
     have HG7:=Lib.hid ((HG2.out.alloc (.cells #[.string nn,.string vv] 126)).grown hgr7 (fun e=>(HNr.out _ e.symm).1 rfl))
     have HA7:=Lib.hid ((HA2.out.alloc (.cells #[.string nn,.string vv] 126)).grown hgr7 (fun e=>by have:=(HNr.out _ e.symm).2;have:=hwz.out;omega))
     have HZ7:=Lib.hid ((HZ2.out.alloc (.cells #[.string nn,.string vv] 126)).grown hgr7 (fun e=>by have:=(HNr.out _ e.symm).2;have:=hwz.out;omega))
     have HB7:=Lib.hid ((hb2.out.alloc hb2.out.size (.cells #[.string nn,.string vv] 126)).grown hgr7 (by have:=hb2.out.size;simp;omega) (fun q e=>by have:=(HNr.out _ e).2;have:=hwz.out;omega))
     have HN7:=Lib.hid (show∀q,(.slice b2 (k+1+1) c2:Value).ownBlock=some q→¬q=gb∧W0.heap.size≤q from fun q e=>by
      rcases hor7 with h | h
      ·rw [h] at e;exact HNr.out q e
      ·rw [h] at e;cases e;have:=HGl.out;have:=HSr.out;have:=HW2.out.size;simp;exact ⟨by omega,by omega⟩)
     have HG8s:=Lib.hid (show W2.heap.size≤w7.heap.size from Nat.le_trans (by simp) hgr7.size)
     have qx:=HG7.out.c 3 _ rfl;have zx:=HG7.out.z 3 (by simp);clear hO7 hO7' hgr7 hor7 q3 z3 y0 y1)
   clear qx zx
   have HG8:=Lib.hid (HG7.out.set 3 (.slice b2 (k+1+1) c2) (by simp))
   have HA8:=Lib.hid (HA7.out.other gb 3 (.slice b2 (k+1+1) c2) (by have:=hgb.out;have:=hwz.out;omega))
   have HZ8:=Lib.hid (HZ7.out.other gb 3 (.slice b2 (k+1+1) c2) (by have:=hgb.out;have:=hwz.out;omega))
   have HB8:=Lib.hid (show Below w.heap.size w (w7.setCell ⟨gb,3,none⟩ (.slice b2 (k+1+1) c2)) from HB7.out.setCell (show w.heap.size≤gb by have:=hgb.out;have:=hwz.out;omega) _)
   have HS8:=Lib.hid (show W0.heap.size≤(w7.setCell ⟨gb,3,none⟩ (.slice b2 (k+1+1) c2)).heap.size by have:=HSr.out;have:=HW2.out.size;have:=HG8s.out;simp;omega)
   have HO8:=Lib.hid (ownsRow_setCell_other HO7.out (a:=⟨gb,3,none⟩) (fun e=>(HN7.out _ e).1 rfl) (.slice b2 (k+1+1) c2));generalize w7.setCell ⟨gb,3,none⟩ (.slice b2 (k+1+1) c2)=W3 at *
   have HFs':=Lib.hid (show FsR X2 (fs ++ [(nn,vv)]) from by
    obtain ⟨gs,e,hg⟩:=HFs.out;refine ⟨gs ++ [(nn,vv)],by rw [e];rfl,fun g hm=>?_⟩;rcases List.mem_append.1 hm with h | h
    ·exact hg g h
    ·rw [List.mem_singleton.1 h];exact HS6.out)
   have HFl':=Lib.hid (show (fs ++ [(nn,vv)]).length=k+1+1 by rw [List.length_append,HFL.out];rfl);have hkt:=HKT.out;have hk3:=HK3.out;go_wp2;go_roundw
   case rel=>exact ⟨k+1,fs ++ [(nn,vv)],.slice b2 (k+1+1) c2,by have:=HKT.out;omega,by go_num,HFl'.out,HFs',HG8,HO8,HN7,HA8,HZ8,HS8,HB8⟩
   case measure=>have:=HKT.out;have:=HK3.out;simp [intOf];omega
  ·have i1:¬(k:Int)<(t3:Int):=by omega
   obtain ⟨-,r1,r2⟩:=HHt3.out;have HKT:=Lib.hid hkt;have HK:=Lib.hid hk;have HK3:=Lib.hid (show t3≤2 by have:=HHt3.out.1;omega);have HFL:=Lib.hid hfl;clear hkt hk hfl;obtain ⟨hj7,r3,r4⟩:=HHj7.out;obtain ⟨-,r5,r6⟩:=HHx8.out;have hx8:(x8:Int)≤16:=by have:=HHx8.out.1;omega
   have hx8':¬(16:Int)<(x8:Int):=by omega
   obtain ⟨bf,cf,rfl⟩:=own_slice HOr.out;rcases (by omega:j7=0∨j7=1) with rfl | rfl
   ·clear hj7
    go_upto_region 10 with (first
     |(go_at_fn 90;with_reducible refine (HAT.out _ 8 (Base.below_step hbr.out HB5.out) (HAr.out.below HB5.out) (by decide)).mono ?_;rintro e wq ⟨rfl,q6,hw6⟩
       have hb6:Below w5.heap.size w5 wq:=by rw [hw6];exact Base.below_drewN (Below.refl _ _) q6
       have HB6:=Lib.hid (Base.below_step HB5.out hb6);obtain ⟨Wc,cc,hrun,hby,hlc,hbc⟩:=conv_bytes ((ByteArray.mk #[48,49,50,51,52,53,54,55,56,57,97,98,99,100,101,102]).extract 0 x8) wq
       have HBY:=Lib.hid (bk_of_bytes hby hlc);have HBC:=Lib.hid (Base.below_step HB6.out hbc);have z5:=(HGr.out.below HBC.out).z 5 (by simp);have q5:=(HGr.out.below HBC.out).c 5 _ rfl;clear hw6 hb6 hby hlc hbc)
     |(go_at_fn 90;with_reducible refine (HAT.out _ 7 (Base.below_step hbr.out HB4.out) (HAr.out.below HB4.out) (by decide)).mono ?_;rintro e w5 ⟨rfl,q5,hw5⟩
       have HB5:=Lib.hid (show Below wr.heap.size wr w5 by rw [hw5];exact Base.below_drewN HB4.out q5);clear hw5)
     |(go_at_fn 90;with_reducible refine (HAT.out _ 3 hbr.out HAr.out (by decide)).mono ?_;rintro e w4 ⟨rfl,q4,hw4⟩
       have HB4:=Lib.hid (show Below wr.heap.size wr w4 by rw [hw4];exact Base.below_drewN (Below.refl _ _) q4);clear hw4))
    have HGl0:=Lib.hid (show gb<wq.heap.size from Nat.lt_of_lt_of_le HGr.out.lt HB6.out.size)
    have HG8:=Lib.hid ((HGr.out.below HBC.out).set 5 (.slice (some ⟨wq.heap.size,0,none⟩) (min x8 16) cc) (by simp))
    have HZ8:=Lib.hid ((HZr.out.below HBC.out).other gb 5 (.slice (some ⟨wq.heap.size,0,none⟩) (min x8 16) cc) (by have:=hgb.out;have:=hwz.out;omega))
    have HA8:=Lib.hid ((HAr.out.below HBC.out).other gb 5 (.slice (some ⟨wq.heap.size,0,none⟩) (min x8 16) cc) (by have:=hgb.out;have:=hwz.out;omega))
    have HO8:=Lib.hid (ownsRow_setCell_other (a:=⟨gb,5,none⟩) (own_below HOr.out HBC.out) (fun e=>(HNr.out _ e).1 rfl) (.slice (some ⟨wq.heap.size,0,none⟩) (min x8 16) cc))
    have HB8:=Lib.hid (show Below w.heap.size w (Wc.setCell ⟨gb,5,none⟩ (.slice (some ⟨wq.heap.size,0,none⟩) (min x8 16) cc)) from (Base.below_step hbr.out HBC.out).setCell (show w.heap.size≤gb by have:=hgb.out;have:=hwz.out;omega) _)
    have HD8:=Lib.hid (HBY.out.other gb 5 (.slice (some ⟨wq.heap.size,0,none⟩) (min x8 16) cc) (by have:=HGl0.out;omega))
    have HDne:=Lib.hid (show¬gb=wq.heap.size by have:=HGl0.out;omega)
    have HDn:=Lib.hid (show¬wq.heap.size=w.heap.size+1 by have:=HGl0.out;have:=hgb.out;have:=hwz.out;omega);obtain ⟨Bd,hBd⟩:∃Bd,((ByteArray.mk #[48,49,50,51,52,53,54,55,56,57,97,98,99,100,101,102]).extract 0 x8).data.toList=Bd:=⟨_,rfl⟩
    have HBT:=Lib.hid (show Bd=neatB.take x8 from by rw [←hBd];exact dig_take x8)
    have HBl:=Lib.hid (show Bd.length=min x8 16 by rw [←hBd,len,ByteArray.size_extract];simp;rfl);rw [hBd] at HD8 HBY;clear hrun z5 q5 hBd r3 r4 r5 r6 hx8 hx8' HBY;generalize Wc.setCell ⟨gb,5,none⟩ (.slice (some ⟨wq.heap.size,0,none⟩) (min x8 16) cc)=W8 at *;generalize wq.heap.size=gbd at *;obtain ⟨h9',r7,r8⟩:=HHj9.out;clear h9';by_cases h9:j9=0
    ·subst h9;go_upto_region 12 with
      (go_at_fn 90;with_reducible refine (HAT.out _ 9 HB8.out HA8.out (by decide)).mono ?_;rintro e w9 ⟨rfl,q_w9,hw_w9⟩
       have HBw9:=Lib.hid (show Below W8.heap.size W8 w9 by rw [hw_w9];exact Base.below_drewN (Below.refl _ _) q_w9);have z6:=((HG8.out.below HBw9.out).alloc (.cells #[.string ⟨#[84]⟩,.string ⟨#[117]⟩] 126)).z 6 (by simp);have q6:=((HG8.out.below HBw9.out).alloc (.cells #[.string ⟨#[84]⟩,.string ⟨#[117]⟩] 126)).c 6 _ rfl;clear hw_w9)
     have HGl:=Lib.hid (show gb<w9.heap.size from (HG8.out.below HBw9.out).lt)
     have HG9:=Lib.hid (((HG8.out.below HBw9.out).alloc (.cells #[.string ⟨#[84]⟩,.string ⟨#[117]⟩] 126)).set 6 (.slice (some ⟨w9.heap.size,0,none⟩) 1 1) (by simp))
     have HZ9:=Lib.hid (((HZ8.out.below HBw9.out).alloc (.cells #[.string ⟨#[84]⟩,.string ⟨#[117]⟩] 126)).other gb 6 (.slice (some ⟨w9.heap.size,0,none⟩) 1 1) (by have:=hgb.out;have:=hwz.out;omega))
     have HT9:=Lib.hid ((Bk.new w9 w9.heap.size rfl 126 [.string ⟨#[84]⟩,.string ⟨#[117]⟩]).other gb 6 (.slice (some ⟨w9.heap.size,0,none⟩) 1 1) (by have:=HGl.out;omega))
     have HO9:=Lib.hid (ownsRow_setCell_other (a:=⟨gb,6,none⟩) ((own_below HO8.out HBw9.out).alloc (.cells #[.string ⟨#[84]⟩,.string ⟨#[117]⟩] 126)) (fun e=>(HNr.out _ e).1 rfl) (.slice (some ⟨w9.heap.size,0,none⟩) 1 1))
     have HB9:=Lib.hid (show Below w.heap.size w ((w9.alloc (.cells #[.string ⟨#[84]⟩,.string ⟨#[117]⟩] 126)).setCell ⟨gb,6,none⟩ (.slice (some ⟨w9.heap.size,0,none⟩) 1 1)) from ((Base.below_step HB8.out HBw9.out).alloc (Base.below_step HB8.out HBw9.out).size (.cells #[.string ⟨#[84]⟩,.string ⟨#[117]⟩] 126)).setCell (show w.heap.size≤gb by have:=hgb.out;have:=hwz.out;omega) _)
     have HD9:=Lib.hid (((HD8.out.below HBw9.out).alloc (.cells #[.string ⟨#[84]⟩,.string ⟨#[117]⟩] 126)).other gb 6 (.slice (some ⟨w9.heap.size,0,none⟩) 1 1) HDne.out)
     have hgt:=Lib.hid (show¬w9.heap.size=w.heap.size+1 by have:=HB8.out.size;have:=HBw9.out.size;have:=(HZ8.out.below HBw9.out).lt;omega);generalize (w9.alloc (.cells #[.string ⟨#[84]⟩,.string ⟨#[117]⟩] 126)).setCell ⟨gb,6,none⟩ (.slice (some ⟨w9.heap.size,0,none⟩) 1 1)=W9 at *;generalize w9.heap.size=gt at *;clear r7 r8 z6 q6;have q0:=HG9.out.c 0 _ rfl;have q1:=HG9.out.c 1 _ rfl;have q2:=HG9.out.c 2 _ rfl;have q3:=HG9.out.c 3 _ rfl;have q4:=HG9.out.c 4 _ rfl;have q5:=HG9.out.c 5 _ rfl;have q6:=HG9.out.c 6 _ rfl;have p0:=HZ9.out.z 0 (by simp);have y0:=HZ9.out.c 0 _ rfl;have p1:=HZ9.out.z 1 (by simp);have y1:=HZ9.out.c 1 _ rfl;have p2:=HZ9.out.z 2 (by simp);have y2:=HZ9.out.c 2 _ rfl;have p3:=HZ9.out.z 3 (by simp);have y3:=HZ9.out.c 3 _ rfl;have p4:=HZ9.out.z 4 (by simp);have y4:=HZ9.out.c 4 _ rfl;have p5:=HZ9.out.z 5 (by simp);have y5:=HZ9.out.c 5 _ rfl;have p6:=HZ9.out.z 6 (by simp);have y6:=HZ9.out.c 6 _ rfl;clear r1 r2 i1;go_wp2_with fail
     obtain ⟨Xf,hX,hBX,hbX,hsX,hoX,hkX⟩:=put7 HZ9.out (by simp) HB9.out (Nat.le_succ _) (.string X0) (.string X1) (.int .i64 1) (.slice bf (k+1) cf) (.bool false) (.slice (some ⟨gbd,0,none⟩) (min x8 16) cc) (.slice (some ⟨gt,0,none⟩) 1 1);rw [hX];have d0:=hBX.c 0 _ rfl;have d1:=hBX.c 1 _ rfl;have d2:=hBX.c 2 _ rfl;have d3:=hBX.c 3 _ rfl;have d4:=hBX.c 4 _ rfl;have d5:=hBX.c 5 _ rfl;have d6:=hBX.c 6 _ rfl;have hneq:∀q,(.slice bf (k+1) cf:Value).ownBlock=some q→¬q=w.heap.size+1:=fun q hq=>by have:=(HNr.out q hq).2;have:=hwz.out;omega
     obtain ⟨A9,c9,e9,h9⟩:=Flds.of_own (hoX _ _ _ _ _ _ HO9.out (fun e=>hneq _ e rfl));simp only [Value.slice.injEq,true_and] at e9;obtain ⟨rfl,rfl⟩:=e9;refine bodyPost_ret (v:=.agg #[.string X0,.string X1,.int .i64 1,.slice bf (k+1) cf,.bool false,.slice (some ⟨gbd,0,none⟩) (min x8 16) cc,.slice (some ⟨gt,0,none⟩) 1 1]) (by simp [results,Tryz.results47,go_sem,d0,d1,d2,d3,d4,d5,d6]) rfl ⟨_,⟨X0,X1,1,fs,false,Bd,[((⟨#[84]⟩:ByteArray),(⟨#[117]⟩:ByteArray))]⟩,rfl,?_,rfl,?_,?_,?_,hbX,?_⟩
     ·exact ⟨bf,cf,_,_,_,_,(by show _=Value.agg #[.string X0,.string X1,.int .i64 1,.slice bf fs.length cf,.bool false,.slice _ (Bd:List UInt8).length _,.slice _ ([((⟨#[84]⟩:ByteArray),(⟨#[117]⟩:ByteArray))]:List Fld).length _];rw [HFL.out,HBl.out];rfl),(by show Flds Xf bf fs.length fs;rw [HFL.out];exact h9),(by show Nums .u8 Xf _ Bd.length _;rw [HBl.out];exact nums_of_bk (hkX _ _ HDn.out HD9.out) _ HBl.out),(Flds.of_cells (w:=Xf) (b:=gt) (fs:= [(⟨#[84]⟩,⟨#[117]⟩)]) (n:=1) rfl (hkX _ _ hgt.out HT9.out).lt (fun j hj=>by rcases (by omega:j=0∨j=1) with rfl | rfl;exact (hkX _ _ hgt.out HT9.out).c 0 _ rfl;exact (hkX _ _ hgt.out HT9.out).c 1 _ rfl))⟩
     ·exact ⟨show X0.size≤1000 by omega,show X1.size≤1000 by omega,show fs.length≤100 by have:=HFL.out;have:=HK.out;have:=HK3.out;omega,fun f hf=>by have:=HFs.out.small hsX2 f hf;omega,show (Bd:List UInt8).length≤1000 by have:=HBl.out;omega,show ([((⟨#[84]⟩:ByteArray),(⟨#[117]⟩:ByteArray))]:List Fld).length≤100 by simp,fun f hf=>by obtain rfl:f= _:=(by simpa using hf);exact ⟨show (ByteArray.mk #[84]).size≤1000 by decide,show (ByteArray.mk #[117]).size≤1000 by decide⟩⟩
     ·show 0<fs.length;rw [HFL.out];omega
     ·show fs.length≤3;have:=HFL.out;have:=HK.out;have:=HK3.out;omega
     ·exact ⟨HMX0.out,HMX1.out,rfl,HFs.out.all HMX2.out HFL.out (by have:=HK.out;have:=HK3.out;omega),⟨x8,by have:=HHx8.out.1;omega,HBT.out⟩,.inr rfl⟩
    ·have t0:((j9:Int)==0)=false:=by rw [beq_eq_false_iff_ne];omega
     have t1:¬(j9:Int)=0:=by omega
     clear h9;go_upto_region 12 with
      (go_at_fn 90;with_reducible refine (HAT.out _ 9 HB8.out HA8.out (by decide)).mono ?_;rintro e w9 ⟨rfl,q_w9,hw_w9⟩
       have HBw9:=Lib.hid (show Below W8.heap.size W8 w9 by rw [hw_w9];exact Base.below_drewN (Below.refl _ _) q_w9);clear hw_w9)
     clear r7 r8 t0 t1
     have HG9:=Lib.hid (HG8.out.below HBw9.out);have HZ9:=Lib.hid (HZ8.out.below HBw9.out);have HB9:=Lib.hid (Base.below_step HB8.out HBw9.out);have HO9:=Lib.hid (own_below HO8.out HBw9.out);have HD9:=Lib.hid (HD8.out.below HBw9.out);have q0:=HG9.out.c 0 _ rfl;have q1:=HG9.out.c 1 _ rfl;have q2:=HG9.out.c 2 _ rfl;have q3:=HG9.out.c 3 _ rfl;have q4:=HG9.out.c 4 _ rfl;have q5:=HG9.out.c 5 _ rfl;have q6:=HG9.out.c 6 _ rfl;have p0:=HZ9.out.z 0 (by simp);have y0:=HZ9.out.c 0 _ rfl;have p1:=HZ9.out.z 1 (by simp);have y1:=HZ9.out.c 1 _ rfl;have p2:=HZ9.out.z 2 (by simp);have y2:=HZ9.out.c 2 _ rfl;have p3:=HZ9.out.z 3 (by simp);have y3:=HZ9.out.c 3 _ rfl;have p4:=HZ9.out.z 4 (by simp);have y4:=HZ9.out.c 4 _ rfl;have p5:=HZ9.out.z 5 (by simp);have y5:=HZ9.out.c 5 _ rfl;have p6:=HZ9.out.z 6 (by simp);have y6:=HZ9.out.c 6 _ rfl;clear r1 r2 i1;go_wp2_with fail
     obtain ⟨Xf,hX,hBX,hbX,hsX,hoX,hkX⟩:=put7 HZ9.out (by simp) HB9.out (Nat.le_succ _) (.string X0) (.string X1) (.int .i64 1) (.slice bf (k+1) cf) (.bool false) (.slice (some ⟨gbd,0,none⟩) (min x8 16) cc) (.slice none 0 0);rw [hX];have d0:=hBX.c 0 _ rfl;have d1:=hBX.c 1 _ rfl;have d2:=hBX.c 2 _ rfl;have d3:=hBX.c 3 _ rfl;have d4:=hBX.c 4 _ rfl;have d5:=hBX.c 5 _ rfl;have d6:=hBX.c 6 _ rfl;have hneq:∀q,(.slice bf (k+1) cf:Value).ownBlock=some q→¬q=w.heap.size+1:=fun q hq=>by have:=(HNr.out q hq).2;have:=hwz.out;omega
     obtain ⟨A9,c9,e9,h9⟩:=Flds.of_own (hoX _ _ _ _ _ _ HO9.out (fun e=>hneq _ e rfl));simp only [Value.slice.injEq,true_and] at e9;obtain ⟨rfl,rfl⟩:=e9;refine bodyPost_ret (v:=.agg #[.string X0,.string X1,.int .i64 1,.slice bf (k+1) cf,.bool false,.slice (some ⟨gbd,0,none⟩) (min x8 16) cc,.slice none 0 0]) (by simp [results,Tryz.results47,go_sem,d0,d1,d2,d3,d4,d5,d6]) rfl ⟨_,⟨X0,X1,1,fs,false,Bd,[]⟩,rfl,?_,rfl,?_,?_,?_,hbX,?_⟩
     ·exact ⟨bf,cf,_,_,_,_,(by show _=Value.agg #[.string X0,.string X1,.int .i64 1,.slice bf fs.length cf,.bool false,.slice _ (Bd:List UInt8).length _,.slice _ ([]:List Fld).length _];rw [HFL.out,HBl.out];rfl),(by show Flds Xf bf fs.length fs;rw [HFL.out];exact h9),(by show Nums .u8 Xf _ Bd.length _;rw [HBl.out];exact nums_of_bk (hkX _ _ HDn.out HD9.out) _ HBl.out),Flds.nil _ _⟩
     ·exact ⟨show X0.size≤1000 by omega,show X1.size≤1000 by omega,show fs.length≤100 by have:=HFL.out;have:=HK.out;have:=HK3.out;omega,fun f hf=>by have:=HFs.out.small hsX2 f hf;omega,show (Bd:List UInt8).length≤1000 by have:=HBl.out;omega,show ([]:List Fld).length≤100 by simp,fun f hf=>by simp at hf⟩
     ·show 0<fs.length;rw [HFL.out];omega
     ·show fs.length≤3;have:=HFL.out;have:=HK.out;have:=HK3.out;omega
     ·exact ⟨HMX0.out,HMX1.out,rfl,HFs.out.all HMX2.out HFL.out (by have:=HK.out;have:=HK3.out;omega),⟨x8,by have:=HHx8.out.1;omega,HBT.out⟩,.inl rfl⟩
   ·clear hj7 r5 r6 hx8 hx8'
    go_upto_region 10 with (first
     |(go_at_fn 90;with_reducible refine (HAT.out _ 7 (Base.below_step hbr.out HB4.out) (HAr.out.below HB4.out) (by decide)).mono ?_;rintro e W8 ⟨rfl,q5,hw5⟩
       have HB5:=Lib.hid (show Below wr.heap.size wr W8 by rw [hw5];exact Base.below_drewN HB4.out q5);clear hw5)
     |(go_at_fn 90;with_reducible refine (HAT.out _ 3 hbr.out HAr.out (by decide)).mono ?_;rintro e w4 ⟨rfl,q4,hw4⟩
       have HB4:=Lib.hid (show Below wr.heap.size wr w4 by rw [hw4];exact Base.below_drewN (Below.refl _ _) q4);clear hw4))
    have HG8:=Lib.hid (HGr.out.below HB5.out);have HZ8:=Lib.hid (HZr.out.below HB5.out);have HA8:=Lib.hid (HAr.out.below HB5.out);have HO8:=Lib.hid (own_below HOr.out HB5.out);have HB8:=Lib.hid (Base.below_step hbr.out HB5.out);clear r3 r4;obtain ⟨h9',r7,r8⟩:=HHj9.out;clear h9';by_cases h9:j9=0
    ·subst h9;go_upto_region 12 with
      (go_at_fn 90;with_reducible refine (HAT.out _ 9 HB8.out HA8.out (by decide)).mono ?_;rintro e w9 ⟨rfl,q_w9,hw_w9⟩
       have HBw9:=Lib.hid (show Below W8.heap.size W8 w9 by rw [hw_w9];exact Base.below_drewN (Below.refl _ _) q_w9);have z6:=((HG8.out.below HBw9.out).alloc (.cells #[.string ⟨#[84]⟩,.string ⟨#[117]⟩] 126)).z 6 (by simp);have q6:=((HG8.out.below HBw9.out).alloc (.cells #[.string ⟨#[84]⟩,.string ⟨#[117]⟩] 126)).c 6 _ rfl;clear hw_w9)
     have HGl:=Lib.hid (show gb<w9.heap.size from (HG8.out.below HBw9.out).lt)
     have HG9:=Lib.hid (((HG8.out.below HBw9.out).alloc (.cells #[.string ⟨#[84]⟩,.string ⟨#[117]⟩] 126)).set 6 (.slice (some ⟨w9.heap.size,0,none⟩) 1 1) (by simp))
     have HZ9:=Lib.hid (((HZ8.out.below HBw9.out).alloc (.cells #[.string ⟨#[84]⟩,.string ⟨#[117]⟩] 126)).other gb 6 (.slice (some ⟨w9.heap.size,0,none⟩) 1 1) (by have:=hgb.out;have:=hwz.out;omega))
     have HT9:=Lib.hid ((Bk.new w9 w9.heap.size rfl 126 [.string ⟨#[84]⟩,.string ⟨#[117]⟩]).other gb 6 (.slice (some ⟨w9.heap.size,0,none⟩) 1 1) (by have:=HGl.out;omega))
     have HO9:=Lib.hid (ownsRow_setCell_other (a:=⟨gb,6,none⟩) ((own_below HO8.out HBw9.out).alloc (.cells #[.string ⟨#[84]⟩,.string ⟨#[117]⟩] 126)) (fun e=>(HNr.out _ e).1 rfl) (.slice (some ⟨w9.heap.size,0,none⟩) 1 1))
     have HB9:=Lib.hid (show Below w.heap.size w ((w9.alloc (.cells #[.string ⟨#[84]⟩,.string ⟨#[117]⟩] 126)).setCell ⟨gb,6,none⟩ (.slice (some ⟨w9.heap.size,0,none⟩) 1 1)) from ((Base.below_step HB8.out HBw9.out).alloc (Base.below_step HB8.out HBw9.out).size (.cells #[.string ⟨#[84]⟩,.string ⟨#[117]⟩] 126)).setCell (show w.heap.size≤gb by have:=hgb.out;have:=hwz.out;omega) _)
     have hgt:=Lib.hid (show¬w9.heap.size=w.heap.size+1 by have:=HB8.out.size;have:=HBw9.out.size;have:=(HZ8.out.below HBw9.out).lt;omega);generalize (w9.alloc (.cells #[.string ⟨#[84]⟩,.string ⟨#[117]⟩] 126)).setCell ⟨gb,6,none⟩ (.slice (some ⟨w9.heap.size,0,none⟩) 1 1)=W9 at *;generalize w9.heap.size=gt at *;clear r7 r8 z6 q6;have q0:=HG9.out.c 0 _ rfl;have q1:=HG9.out.c 1 _ rfl;have q2:=HG9.out.c 2 _ rfl;have q3:=HG9.out.c 3 _ rfl;have q4:=HG9.out.c 4 _ rfl;have q5:=HG9.out.c 5 _ rfl;have q6:=HG9.out.c 6 _ rfl;have p0:=HZ9.out.z 0 (by simp);have y0:=HZ9.out.c 0 _ rfl;have p1:=HZ9.out.z 1 (by simp);have y1:=HZ9.out.c 1 _ rfl;have p2:=HZ9.out.z 2 (by simp);have y2:=HZ9.out.c 2 _ rfl;have p3:=HZ9.out.z 3 (by simp);have y3:=HZ9.out.c 3 _ rfl;have p4:=HZ9.out.z 4 (by simp);have y4:=HZ9.out.c 4 _ rfl;have p5:=HZ9.out.z 5 (by simp);have y5:=HZ9.out.c 5 _ rfl;have p6:=HZ9.out.z 6 (by simp);have y6:=HZ9.out.c 6 _ rfl;clear r1 r2 i1;go_wp2_with fail
     obtain ⟨Xf,hX,hBX,hbX,hsX,hoX,hkX⟩:=put7 HZ9.out (by simp) HB9.out (Nat.le_succ _) (.string X0) (.string X1) (.int .i64 1) (.slice bf (k+1) cf) (.bool false) (.slice none 0 0) (.slice (some ⟨gt,0,none⟩) 1 1);rw [hX];have d0:=hBX.c 0 _ rfl;have d1:=hBX.c 1 _ rfl;have d2:=hBX.c 2 _ rfl;have d3:=hBX.c 3 _ rfl;have d4:=hBX.c 4 _ rfl;have d5:=hBX.c 5 _ rfl;have d6:=hBX.c 6 _ rfl;have hneq:∀q,(.slice bf (k+1) cf:Value).ownBlock=some q→¬q=w.heap.size+1:=fun q hq=>by have:=(HNr.out q hq).2;have:=hwz.out;omega
     obtain ⟨A9,c9,e9,h9⟩:=Flds.of_own (hoX _ _ _ _ _ _ HO9.out (fun e=>hneq _ e rfl));simp only [Value.slice.injEq,true_and] at e9;obtain ⟨rfl,rfl⟩:=e9;refine bodyPost_ret (v:=.agg #[.string X0,.string X1,.int .i64 1,.slice bf (k+1) cf,.bool false,.slice none 0 0,.slice (some ⟨gt,0,none⟩) 1 1]) (by simp [results,Tryz.results47,go_sem,d0,d1,d2,d3,d4,d5,d6]) rfl ⟨_,⟨X0,X1,1,fs,false,[],[((⟨#[84]⟩:ByteArray),(⟨#[117]⟩:ByteArray))]⟩,rfl,?_,rfl,?_,?_,?_,hbX,?_⟩
     ·exact ⟨bf,cf,_,_,_,_,(by show _=Value.agg #[.string X0,.string X1,.int .i64 1,.slice bf fs.length cf,.bool false,.slice _ ([]:List UInt8).length _,.slice _ ([((⟨#[84]⟩:ByteArray),(⟨#[117]⟩:ByteArray))]:List Fld).length _];rw [HFL.out];rfl),(by show Flds Xf bf fs.length fs;rw [HFL.out];exact h9),Nums.nil _ _ _,(Flds.of_cells (w:=Xf) (b:=gt) (fs:= [(⟨#[84]⟩,⟨#[117]⟩)]) (n:=1) rfl (hkX _ _ hgt.out HT9.out).lt (fun j hj=>by rcases (by omega:j=0∨j=1) with rfl | rfl;exact (hkX _ _ hgt.out HT9.out).c 0 _ rfl;exact (hkX _ _ hgt.out HT9.out).c 1 _ rfl))⟩
     ·exact ⟨show X0.size≤1000 by omega,show X1.size≤1000 by omega,show fs.length≤100 by have:=HFL.out;have:=HK.out;have:=HK3.out;omega,fun f hf=>by have:=HFs.out.small hsX2 f hf;omega,show ([]:List UInt8).length≤1000 by simp,show ([((⟨#[84]⟩:ByteArray),(⟨#[117]⟩:ByteArray))]:List Fld).length≤100 by simp,fun f hf=>by obtain rfl:f= _:=(by simpa using hf);exact ⟨show (ByteArray.mk #[84]).size≤1000 by decide,show (ByteArray.mk #[117]).size≤1000 by decide⟩⟩
     ·show 0<fs.length;rw [HFL.out];omega
     ·show fs.length≤3;have:=HFL.out;have:=HK.out;have:=HK3.out;omega
     ·exact ⟨HMX0.out,HMX1.out,rfl,HFs.out.all HMX2.out HFL.out (by have:=HK.out;have:=HK3.out;omega),⟨0,by decide,rfl⟩,.inr rfl⟩
    ·have t0:((j9:Int)==0)=false:=by rw [beq_eq_false_iff_ne];omega
     have t1:¬(j9:Int)=0:=by omega
     clear h9;go_upto_region 12 with
      (go_at_fn 90;with_reducible refine (HAT.out _ 9 HB8.out HA8.out (by decide)).mono ?_;rintro e w9 ⟨rfl,q_w9,hw_w9⟩
       have HBw9:=Lib.hid (show Below W8.heap.size W8 w9 by rw [hw_w9];exact Base.below_drewN (Below.refl _ _) q_w9);clear hw_w9)
     clear r7 r8 t0 t1
     have HG9:=Lib.hid (HG8.out.below HBw9.out);have HZ9:=Lib.hid (HZ8.out.below HBw9.out);have HB9:=Lib.hid (Base.below_step HB8.out HBw9.out);have HO9:=Lib.hid (own_below HO8.out HBw9.out);have q0:=HG9.out.c 0 _ rfl;have q1:=HG9.out.c 1 _ rfl;have q2:=HG9.out.c 2 _ rfl;have q3:=HG9.out.c 3 _ rfl;have q4:=HG9.out.c 4 _ rfl;have q5:=HG9.out.c 5 _ rfl;have q6:=HG9.out.c 6 _ rfl;have p0:=HZ9.out.z 0 (by simp);have y0:=HZ9.out.c 0 _ rfl;have p1:=HZ9.out.z 1 (by simp);have y1:=HZ9.out.c 1 _ rfl;have p2:=HZ9.out.z 2 (by simp);have y2:=HZ9.out.c 2 _ rfl;have p3:=HZ9.out.z 3 (by simp);have y3:=HZ9.out.c 3 _ rfl;have p4:=HZ9.out.z 4 (by simp);have y4:=HZ9.out.c 4 _ rfl;have p5:=HZ9.out.z 5 (by simp);have y5:=HZ9.out.c 5 _ rfl;have p6:=HZ9.out.z 6 (by simp);have y6:=HZ9.out.c 6 _ rfl;clear r1 r2 i1;go_wp2_with fail
     obtain ⟨Xf,hX,hBX,hbX,hsX,hoX,hkX⟩:=put7 HZ9.out (by simp) HB9.out (Nat.le_succ _) (.string X0) (.string X1) (.int .i64 1) (.slice bf (k+1) cf) (.bool false) (.slice none 0 0) (.slice none 0 0);rw [hX];have d0:=hBX.c 0 _ rfl;have d1:=hBX.c 1 _ rfl;have d2:=hBX.c 2 _ rfl;have d3:=hBX.c 3 _ rfl;have d4:=hBX.c 4 _ rfl;have d5:=hBX.c 5 _ rfl;have d6:=hBX.c 6 _ rfl;have hneq:∀q,(.slice bf (k+1) cf:Value).ownBlock=some q→¬q=w.heap.size+1:=fun q hq=>by have:=(HNr.out q hq).2;have:=hwz.out;omega
     obtain ⟨A9,c9,e9,h9⟩:=Flds.of_own (hoX _ _ _ _ _ _ HO9.out (fun e=>hneq _ e rfl));simp only [Value.slice.injEq,true_and] at e9;obtain ⟨rfl,rfl⟩:=e9;refine bodyPost_ret (v:=.agg #[.string X0,.string X1,.int .i64 1,.slice bf (k+1) cf,.bool false,.slice none 0 0,.slice none 0 0]) (by simp [results,Tryz.results47,go_sem,d0,d1,d2,d3,d4,d5,d6]) rfl ⟨_,⟨X0,X1,1,fs,false,[],[]⟩,rfl,?_,rfl,?_,?_,?_,hbX,?_⟩
     ·exact ⟨bf,cf,_,_,_,_,(by show _=Value.agg #[.string X0,.string X1,.int .i64 1,.slice bf fs.length cf,.bool false,.slice _ ([]:List UInt8).length _,.slice _ ([]:List Fld).length _];rw [HFL.out];rfl),(by show Flds Xf bf fs.length fs;rw [HFL.out];exact h9),Nums.nil _ _ _,Flds.nil _ _⟩
     ·exact ⟨show X0.size≤1000 by omega,show X1.size≤1000 by omega,show fs.length≤100 by have:=HFL.out;have:=HK.out;have:=HK3.out;omega,fun f hf=>by have:=HFs.out.small hsX2 f hf;omega,show ([]:List UInt8).length≤1000 by simp,show ([]:List Fld).length≤100 by simp,fun f hf=>by simp at hf⟩
     ·show 0<fs.length;rw [HFL.out];omega
     ·show fs.length≤3;have:=HFL.out;have:=HK.out;have:=HK3.out;omega
     ·exact ⟨HMX0.out,HMX1.out,rfl,HFs.out.all HMX2.out HFL.out (by have:=HK.out;have:=HK3.out;omega),⟨0,by decide,rfl⟩,.inl rfl⟩
end code
end Go.Proofs.YtnabkcglnbdfeaaGreatDoor.Rec
namespace Go.Proofs.YtnabkcglnbdfeaaGreatDoor.Pg
open Go.RowKit Base Txt Par
abbrev lineB (x:Int):Bd:=⟨x,32,8192,65536,32,8,4,20,true,true⟩
def tgtL (m:Nat):List UInt8:=([71,69,84,32,47]++List.replicate m 97) ++ [32,72,84,84,80,47,49,46,49]
end Go.Proofs.YtnabkcglnbdfeaaGreatDoor.Pg
namespace Go.Proofs.YtnabkcglnbdfeaaGreatDoor.Rq
open Go.RowKit Base Txt
section code
set_option maxHeartbeats 1000000
attribute [local go_sem] Base.some_undef
end code
end Go.Proofs.YtnabkcglnbdfeaaGreatDoor.Rq
namespace Go.Proofs.YtnabkcglnbdfeaaGreatDoor.Rq
open Go.RowKit Base Txt
section code
set_option maxHeartbeats 4000000
set_option maxRecDepth 10000
attribute [local go_sem] Base.some_undef
end code
end Go.Proofs.YtnabkcglnbdfeaaGreatDoor.Rq
namespace Go.Proofs.YtnabkcglnbdfeaaGreatDoor.Rq
open Go.RowKit Base Txt
section code
set_option maxHeartbeats 4000000
set_option maxRecDepth 10000
attribute [local go_sem] Base.some_undef
end code
end Go.Proofs.YtnabkcglnbdfeaaGreatDoor.Rq
namespace Go.Proofs.YtnabkcglnbdfeaaGreatDoor.Rq
open Go.RowKit Base Txt Rec
section code
set_option maxHeartbeats 8000000
set_option maxRecDepth 20000
attribute [local go_sem] Base.some_undef
end code
end Go.Proofs.YtnabkcglnbdfeaaGreatDoor.Rq
namespace Go.Proofs.YtnabkcglnbdfeaaGreatDoor.Rq
open Go.RowKit Base Txt
section code
set_option maxHeartbeats 4000000
set_option maxRecDepth 20000
attribute [local go_sem] Base.some_undef
end code
end Go.Proofs.YtnabkcglnbdfeaaGreatDoor.Rq
namespace Go.Proofs.YtnabkcglnbdfeaaGreatDoor.By
open Go.RowKit Base
def PRow (w:World) (B:Nat) (V:Value) (ls:List (List UInt8)):Prop:=∃cs:List Value,cs.length=ls.length∧w.ownsRow B 22 1 V ls.length cs∧∀j (h:j<ls.length),∃u,cs[j]?=some u∧Rd w u ls[j]
section
variable {w w':World} {B:Nat} {V u:Value} {ls:List (List UInt8)} {ys:List UInt8}
def Low (B:Nat) (u:Value):Prop:=∀a n c,u=.slice (some a) n c→0<n→a.block<B
def PLow (w:World) (B:Nat) (V:Value) (ls:List (List UInt8)):Prop:=∃cs:List Value,cs.length=ls.length∧w.ownsRow B 22 1 V ls.length cs∧∀j (h:j<ls.length),∃u,cs[j]?=some u∧Rd w u ls[j]∧Low B u∧u.oneCell'=true
end
section
variable {P:Program} {w w':World} {ops:Array Oper} {rest:List Oper} {o:Oper} {a:Act} {Q:Exit→Act→World→Prop}
end
end Go.Proofs.YtnabkcglnbdfeaaGreatDoor.By
namespace Go.Proofs.YtnabkcglnbdfeaaGreatDoor.Par
open Go.RowKit Base Txt Mem
abbrev nil:Value:=.slice none 0 0
structure Cs (w:World) (g:Nat) (p:Nat) (b:Bd) (s:S) (q:Nat) (f bd t o:Value):Prop where
 c0:w.cell? ⟨g,0,none⟩=some (.int .u32 (p:Int))
 c1:w.cell? ⟨g,1,none⟩=some (.int .i64 b.x0)
 c2:w.cell? ⟨g,2,none⟩=some (.int .i64 b.x1)
 c3:w.cell? ⟨g,3,none⟩=some (.int .i64 b.x2)
 c4:w.cell? ⟨g,4,none⟩=some (.int .i64 b.x3)
 c5:w.cell? ⟨g,5,none⟩=some (.int .i64 b.x4)
 c6:w.cell? ⟨g,6,none⟩=some (.int .i64 b.x5)
 c7:w.cell? ⟨g,7,none⟩=some (.int .i64 b.x6)
 c8:w.cell? ⟨g,8,none⟩=some (.int .i64 b.x7)
 c9:w.cell? ⟨g,9,none⟩=some (.bool b.ch)
 c10:w.cell? ⟨g,10,none⟩=some (.bool b.od)
 c11:w.cell? ⟨g,11,none⟩=some (.int .i64 (s.st:Int))
 c12:w.cell? ⟨g,12,none⟩=some (ptr q)
 c13:w.cell? ⟨g,13,none⟩=some (.string s.r.m)
 c14:w.cell? ⟨g,14,none⟩=some (.string s.r.x)
 c15:w.cell? ⟨g,15,none⟩=some (.int .i64 s.r.k)
 c16:w.cell? ⟨g,16,none⟩=some (f)
 c17:w.cell? ⟨g,17,none⟩=some (.bool s.r.ch)
 c18:w.cell? ⟨g,18,none⟩=some (bd)
 c19:w.cell? ⟨g,19,none⟩=some (t)
 c20:w.cell? ⟨g,20,none⟩=some (.int .i64 (s.lines:Int))
 c21:w.cell? ⟨g,21,none⟩=some (.int .i64 (s.head:Int))
 c22:w.cell? ⟨g,22,none⟩=some (.int .i64 (s.left:Int))
 c23:w.cell? ⟨g,23,none⟩=some (.bool s.fresh)
 c24:w.cell? ⟨g,24,none⟩=some (.bool s.clean)
 c25:w.cell? ⟨g,25,none⟩=some (.int .i64 (s.e:Int))
 c26:w.cell? ⟨g,26,none⟩=some (o)
section code
set_option maxHeartbeats 4000000
set_option maxRecDepth 20000
variable {w:World} {B:Zone} {g q:Nat} {v f bd t o:Value} {p:Nat} {b:Bd} {s:S}
end code
end Go.Proofs.YtnabkcglnbdfeaaGreatDoor.Par
namespace Go.Proofs.YtnabkcglnbdfeaaGreatDoor.Par
open Go.RowKit Base Txt Mem
section code
set_option maxHeartbeats 4000000
set_option maxRecDepth 20000
attribute [local go_sem] Base.some_undef
variable {w:World} {B:Zone} {g q:Nat} {v f bd t o:Value} {p:Nat} {b:Bd} {s:S}
end code
end Go.Proofs.YtnabkcglnbdfeaaGreatDoor.Par
namespace Go.Proofs.YtnabkcglnbdfeaaGreatDoor.Tgt
open Go.RowKit Base Oct Num Txt
section code
set_option maxHeartbeats 1000000
attribute [local go_sem] Base.some_undef
end code
end Go.Proofs.YtnabkcglnbdfeaaGreatDoor.Tgt
namespace Go.Proofs.YtnabkcglnbdfeaaGreatDoor.Tgt
open Go.RowKit Base Oct Num Txt
section code
set_option maxHeartbeats 1000000
attribute [local go_sem] Base.some_undef
end code
end Go.Proofs.YtnabkcglnbdfeaaGreatDoor.Tgt
namespace Go.Proofs.YtnabkcglnbdfeaaGreatDoor.Tgt
open Go.RowKit Base Oct Num Txt
section code
set_option maxHeartbeats 1000000
attribute [local go_sem] Base.some_undef
end code
end Go.Proofs.YtnabkcglnbdfeaaGreatDoor.Tgt
namespace Go.Proofs.YtnabkcglnbdfeaaGreatDoor.Tgt
open Go.RowKit Base Oct Num Txt
section code
set_option maxHeartbeats 1000000
attribute [local go_sem] Base.some_undef
end code
end Go.Proofs.YtnabkcglnbdfeaaGreatDoor.Tgt
namespace Go.Proofs.YtnabkcglnbdfeaaGreatDoor.Tgt
open Go.RowKit Base Oct Num Txt
def relabel (F:Nat) (ho:List UInt8) (o:Option Tg):Option Tg:=o.map fun t=>⟨F,ho,t.path,t.query,t.asked⟩
section code
set_option maxHeartbeats 1000000
attribute [local go_sem] Base.some_undef
end code
end Go.Proofs.YtnabkcglnbdfeaaGreatDoor.Tgt
namespace Go.Proofs.YtnabkcglnbdfeaaGreatDoor.Frm
open Go.RowKit Base Txt
def Rowf (w:World) (g n:Nat) (f:Nat→ByteArray):Prop:=∀j,j<n→w.cell? ⟨g,j,none⟩=some (.string (f j))∧w.frozen? ⟨g,j,none⟩=false
def norm (tb:Bool) (v:ByteArray):ByteArray:=lower (if tb=true then trimOf v blanksOf else v)
def mixN (tb:Bool) (ls:List ByteArray) (k:Nat) (j:Nat):ByteArray:=if j<k then norm tb (ls[j]?.getD ByteArray.empty) else ls[j]?.getD ByteArray.empty
section code
set_option maxHeartbeats 4000000
set_option maxRecDepth 10000
attribute [local go_sem] Base.some_undef
end code
end Go.Proofs.YtnabkcglnbdfeaaGreatDoor.Frm
namespace Go.Proofs.YtnabkcglnbdfeaaGreatDoor.Frm
open Go.RowKit Base Txt
section code
set_option maxHeartbeats 4000000
set_option maxRecDepth 10000
attribute [local go_sem] Base.some_undef
end code
end Go.Proofs.YtnabkcglnbdfeaaGreatDoor.Frm
namespace Go.Proofs.YtnabkcglnbdfeaaGreatDoor.Frm
open Go.RowKit Base Txt
section code
set_option maxHeartbeats 4000000
set_option maxRecDepth 10000
attribute [local go_sem] Base.some_undef
end code
end Go.Proofs.YtnabkcglnbdfeaaGreatDoor.Frm
namespace Go.Proofs.YtnabkcglnbdfeaaGreatDoor.Frm
open Go.RowKit Base Txt
section code
set_option maxHeartbeats 8000000
set_option maxRecDepth 10000
attribute [local go_sem] Base.some_undef
end code
end Go.Proofs.YtnabkcglnbdfeaaGreatDoor.Frm
namespace Go.Proofs.YtnabkcglnbdfeaaGreatDoor.Par
open Go.RowKit Base Txt Mem
section code
set_option maxHeartbeats 4000000
set_option maxRecDepth 20000
attribute [local go_sem] Base.some_undef
variable {w:World} {B:Zone} {g q:Nat} {v f bd t o:Value} {p:Nat} {b:Bd} {s:S}
end code
end Go.Proofs.YtnabkcglnbdfeaaGreatDoor.Par
namespace Go.Proofs.YtnabkcglnbdfeaaGreatDoor.Chk
open Go.RowKit Base Txt
section code
set_option maxHeartbeats 8000000
set_option maxRecDepth 100000
attribute [local go_sem] Base.some_undef
end code
end Go.Proofs.YtnabkcglnbdfeaaGreatDoor.Chk
namespace Go.Proofs.YtnabkcglnbdfeaaGreatDoor.Par
open Go.RowKit Base Txt Mem
section code
set_option maxHeartbeats 4000000
set_option maxRecDepth 20000
attribute [local go_sem] Base.some_undef
variable {w:World} {B:Zone} {g q:Nat} {v f bd t o:Value} {p:Nat} {b:Bd} {s:S}
end code
end Go.Proofs.YtnabkcglnbdfeaaGreatDoor.Par
namespace Go.Proofs.YtnabkcglnbdfeaaGreatDoor.Rq
open Go.RowKit Base Txt
section code
set_option maxHeartbeats 1000000
attribute [local go_sem] Base.some_undef
theorem rput_any (m t:ByteArray) (w:World) (hm:m.size≤140737488351232) (ht:t.size≤140737488351232):Calls Tryz.prog 87 #[.string m,.string t] w fun e w'=>e=.returned (.string (lineOf m t))∧w'=w:=by
 have v1:¬9223372036854775807<m.size+1:=by omega
 have v2:¬9223372036854775807<m.size+1+t.size:=by omega
 have v3:¬9223372036854775807<m.size+1+t.size+9:=by omega
 have e:lineOf m t=((m ++⟨#[32]⟩)++t) ++⟨#[32,72,84,84,80,47,49,46,49]⟩:=ba_ext (by rw [lineOf_list];simp);rw [e];clear e;go_enter Tryz.func87,Tryz.ntmps87;go_wp2_with fail;go_ret;exact ⟨rfl,rfl⟩
end code
end Go.Proofs.YtnabkcglnbdfeaaGreatDoor.Rq
namespace Go.Proofs.YtnabkcglnbdfeaaGreatDoor.Rq
open Go.RowKit Base Txt
def Spn (w:World) (a:Option Addr) (n:Nat) (sp:List (Nat × Nat)):Prop:=
 sp.length=n∧(0<n→∃b,a=some ⟨b,0,none⟩∧b<w.heap.size∧∀k,(hk:k<sp.length)→w.cell? ⟨b,k*2,none⟩=some (.int .i64 (sp[k].1:Nat))∧w.cell? ⟨b,k*2+1,none⟩=some (.int .i64 (sp[k].2:Nat)))
def Done (bl:Bool) (l:List UInt8) (k f:Nat) (done:List (Nat × Nat)):Prop:=
 (k≤l.length∧f≤k∧spans bl l=(pcs (sepB bl) (!bl) (l.drop k) k f).map (done ++ ·))∨(k=l.length+1∧spans bl l=some done)
section code
set_option maxHeartbeats 2000000
attribute [local go_sem] Base.some_undef
end code
end Go.Proofs.YtnabkcglnbdfeaaGreatDoor.Rq
namespace Go.Proofs.YtnabkcglnbdfeaaGreatDoor.Rq
open Go.RowKit Base Txt
def rpv (bl:Bool) (l:List UInt8):Value:=
 match spans bl l with
 | none=>.tuple #[.string ⟨#[]⟩,.string ⟨#[]⟩,.string ⟨#[]⟩,.int .i64 0,.bool false]
 | some sp=>if sp.length<2 then .tuple #[.string ⟨#[]⟩,.string ⟨#[]⟩,.string ⟨#[]⟩,.int .i64 (sp.length:Nat),.bool false]
   else .tuple #[.string (ba (ext l (sp.getD 0 (0,0)))),.string (ba (if 2<sp.length then ext l ((sp.getD 1 (0,0)).1,(sp.getD (sp.length-2) (0,0)).2) else [])),.string (ba (ext l (sp.getD (sp.length-1) (0,0)))),.int .i64 (sp.length:Nat),.bool true]
section code
set_option maxHeartbeats 2000000
attribute [local go_sem] Base.some_undef
end code
end Go.Proofs.YtnabkcglnbdfeaaGreatDoor.Rq
namespace Go.Proofs.YtnabkcglnbdfeaaGreatDoor.Rq
open Go.RowKit Base Txt
section code
set_option maxHeartbeats 16000000
attribute [local go_sem] Base.some_undef
end code
end Go.Proofs.YtnabkcglnbdfeaaGreatDoor.Rq
namespace Go.Proofs.YtnabkcglnbdfeaaGreatDoor.Par
open Go.RowKit Base Txt Mem
structure Fits (s:S):Prop where
 lines:s.st=1∨s.st=6→s.lines≤1000
 fss:∀y∈s.r.fs,y.1.size≤1000000∧y.2.size≤1000000
 fsl:s.r.fs.length≤500
 tss:∀y∈s.r.ts,y.1.size≤1000000∧y.2.size≤1000000
 tsl:s.r.ts.length≤500
 body:s.r.body.length≤2000000
 out:s.out.length≤1000000000
section code
set_option maxHeartbeats 4000000
set_option maxRecDepth 20000
attribute [local go_sem] Base.some_undef
variable {w:World} {B:Zone} {g q:Nat} {v f bd t o:Value} {p:Nat} {b:Bd} {s:S}
end code
end Go.Proofs.YtnabkcglnbdfeaaGreatDoor.Par
namespace Go.Proofs.YtnabkcglnbdfeaaGreatDoor.Par
open Go.RowKit Base Txt Mem
section code
set_option maxHeartbeats 4000000
set_option maxRecDepth 20000
attribute [local go_sem] Base.some_undef
variable {w:World} {B:Zone} {g q:Nat} {v f bd t o:Value} {p:Nat} {b:Bd} {s:S}
end code
end Go.Proofs.YtnabkcglnbdfeaaGreatDoor.Par
namespace Go.Proofs.YtnabkcglnbdfeaaGreatDoor.Par
open Go.RowKit Base Txt Mem
section
variable {w w':World} {B:Zone} {g q:Nat} {v f bd t o:Value} {p:Nat} {rd:Ln.R} {fs ts:List Fld} {body:List UInt8} {out:List Rec.R}
end
section code
set_option maxHeartbeats 4000000
set_option maxRecDepth 20000
attribute [local go_sem] Base.some_undef
variable {w:World} {B:Zone} {g q:Nat} {v f bd t o:Value} {p:Nat} {b:Bd} {s:S}
end code
end Go.Proofs.YtnabkcglnbdfeaaGreatDoor.Par
namespace Go.Proofs.YtnabkcglnbdfeaaGreatDoor.Par
open Go.RowKit Base Txt Mem
def lined (st:Nat):Prop:=st=0∨st=1∨st=3∨st=5∨st=6
structure LineOk (p:Nat) (q:Ln.R):Prop where
 lf:q.lf=Qk.has p 1
 cr:q.cr=Qk.has p 2
 most:q.most≤4096
 len:q.B.length≤q.most
section code
set_option maxHeartbeats 4000000
set_option maxRecDepth 20000
attribute [local go_sem] Base.some_undef
variable {w:World} {B:Zone} {g q:Nat} {v f bd t o:Value} {p:Nat} {b:Bd} {s:S}
end code
end Go.Proofs.YtnabkcglnbdfeaaGreatDoor.Par
namespace Go.Proofs.YtnabkcglnbdfeaaGreatDoor.Par
open Go.RowKit Base Txt Mem
section code
set_option maxHeartbeats 4000000
set_option maxRecDepth 20000
attribute [local go_sem] Base.some_undef
variable {w:World} {B:Zone} {g q:Nat} {v f bd t o:Value} {p:Nat} {b:Bd} {s:S}
end code
end Go.Proofs.YtnabkcglnbdfeaaGreatDoor.Par
namespace Go.Proofs.YtnabkcglnbdfeaaGreatDoor.Par
open Go.RowKit Base Txt Mem
structure PlainOk (p:Nat) (s:S) (c:UInt8):Prop where
 e:s.e=0
 fit:Fits s
 st:lined s.st∨s.st=2∨s.st=4
 left:bodied s.st=true→1≤s.left∧s.left≤2000000
 line:lined s.st→LineOk p s.rd∧s.rd.CR=false∧(s.st=5→s.rd.how c=4→Qk.has p 29=false)
section code
set_option maxHeartbeats 4000000
set_option maxRecDepth 20000
attribute [local go_sem] Base.some_undef
variable {w:World} {B:Zone} {g q:Nat} {v f bd t o:Value} {p:Nat} {b:Bd} {s:S}
end code
end Go.Proofs.YtnabkcglnbdfeaaGreatDoor.Par
namespace Go.Proofs.YtnabkcglnbdfeaaGreatDoor.Par
open Go.RowKit Base Txt Mem
section code
set_option maxHeartbeats 4000000
set_option maxRecDepth 20000
attribute [local go_sem] Base.some_undef
variable {w:World} {B:Zone} {g q:Nat} {v f bd t o:Value} {p:Nat} {b:Bd} {s:S}
end code
end Go.Proofs.YtnabkcglnbdfeaaGreatDoor.Par
namespace Go.Proofs.YtnabkcglnbdfeaaGreatDoor.Par
open Go.RowKit Base Txt Mem
section code
set_option maxHeartbeats 4000000
set_option maxRecDepth 20000
attribute [local go_sem] Base.some_undef
variable {w:World} {B:Zone} {g q:Nat} {v f bd t o:Value} {p:Nat} {b:Bd} {s:S}
end code
end Go.Proofs.YtnabkcglnbdfeaaGreatDoor.Par
namespace Go.Proofs.YtnabkcglnbdfeaaGreatDoor.Par
open Go.RowKit Base Txt Mem
section
variable {p:Nat} {b:Bd} {x:Pg.T} {s:S}
end
section code
set_option maxHeartbeats 4000000
variable {w:World} {B:Zone} {g q:Nat} {v f bd t o:Value} {p:Nat} {b:Bd} {s:S} {x:Pg.T}
end code
end Go.Proofs.YtnabkcglnbdfeaaGreatDoor.Par
namespace Go.Proofs.YtnabkcglnbdfeaaGreatDoor.Par
open Go.RowKit Base Txt Mem Each
abbrev ncells (p:Nat) (b:Bd) (cl:Bool) (e:Nat):List Value:=
 [.int .u32 (p:Int),.int .i64 b.x0,.int .i64 b.x1,.int .i64 b.x2,.int .i64 b.x3,.int .i64 b.x4,.int .i64 b.x5,.int .i64 b.x6,.int .i64 b.x7,.bool b.ch,.bool b.od,.int .i64 0,.pointer none,
   .string E0,.string E0,.int .i64 0,nil,.bool false,nil,nil,.int .i64 0,.int .i64 0,.int .i64 0,.bool false,.bool cl,.int .i64 (e:Int),nil]
structure Bad (w:World) (B:Zone) (g p:Nat) (b:Bd) (s:S):Prop where
 row:w.heap[g]?=some (.cells (ncells p b false 20).toArray 60 (0,0))
 e:s.e=20
 clean:s.clean=false
 out:s.out= []
 ge:B≤g
 zone:Clear w B.z [some g]
structure Rest (w:World) (B:Zone) (g q:Nat) (v f bd t:Value) (p:Nat) (b:Bd) (s:S):Prop where
 row:∃o,w.heap[g]?=some (.cells (pcells p b s q f bd t o).toArray 60 (0,0))
 own:Own w B g q v f bd t nil p s.rd s.r.fs s.r.body s.r.ts []
def Run (w:World) (B:Zone) (g p:Nat) (b:Bd) (L:List (Option Nat)) (s:S):Prop:=
 (∃q v f bd t o,L=blks g q v f bd t o∧PR w B g q v f bd t o p b s)∨(L= [some g]∧Bad w B g p b s)
def DAt (w:World) (B:Zone) (g p:Nat) (b:Bd) (L:List (Option Nat)) (s:S):Prop:=
 (∃q v f bd t,L=blks g q v f bd t nil∧Rest w B g q v f bd t p b s)∨(L= [some g]∧Bad w B g p b s)
def DQ (w:World) (B:Zone) (g p:Nat) (b:Bd) (L:List (Option Nat)) (x:Pg.Q):Prop:=∃s,Pg.RQ p b x s∧x.Fine b∧DAt w B g p b L s
section
variable {w w':World} {B:Zone} {g q:Nat} {v f bd t o:Value} {p:Nat} {b:Bd} {L M:List (Option Nat)} {s:S} {x:Pg.Q} {rd:Ln.R} {fs ts:List Fld} {body:List UInt8} {out:List Rec.R}
end
section code
set_option maxHeartbeats 4000000
set_option maxRecDepth 20000
attribute [local go_sem] Base.some_undef
variable {w:World} {B:Zone} {g q:Nat} {v f bd t o:Value} {p:Nat} {b:Bd} {s:S} {x:Pg.Q} {L:List (Option Nat)}
end code
end Go.Proofs.YtnabkcglnbdfeaaGreatDoor.Par
namespace Go.Proofs.YtnabkcglnbdfeaaGreatDoor.Par
open Go.RowKit Base Txt Mem Each
section
variable {w:World} {B:Zone} {g p:Nat} {b:Bd} {s:S} {x:Pg.Q} {L:List (Option Nat)}
end
section code
set_option maxHeartbeats 4000000
set_option maxRecDepth 20000
attribute [local go_sem] Base.some_undef
variable {w:World} {B:Zone} {g q:Nat} {v f bd t o:Value} {p:Nat} {b:Bd} {s:S} {x:Pg.Q} {L:List (Option Nat)}
end code
end Go.Proofs.YtnabkcglnbdfeaaGreatDoor.Par
namespace Go.Proofs.YtnabkcglnbdfeaaGreatDoor.Par
open Go.RowKit Base Txt Mem Each
section code
set_option maxHeartbeats 4000000
set_option maxRecDepth 20000
attribute [local go_sem] Base.some_undef
variable {w:World} {B:Zone} {g q:Nat} {v f bd t o:Value} {p:Nat} {b:Bd} {s:S} {x:Pg.Q} {L:List (Option Nat)}
end code
end Go.Proofs.YtnabkcglnbdfeaaGreatDoor.Par
namespace Go.Proofs.YtnabkcglnbdfeaaGreatDoor.Can
open Go.RowKit Base Txt Par Pg
theorem neat_of {r:Rec.R} (h:Rec.NeatR r):Neat r:=⟨h.m,h.x,h.k,h.fs,h.body,h.ts⟩
def Gat (w:World) (B:Nat) (v:Value) (xs:List UInt8):Prop:=(v=.slice none 0 0∧xs= [])∨By.Buf w B v xs
def FldsF (l:List Fld):Each.Fact:=fun v w=>∃a c,v=.slice a l.length c∧Flds w a l.length l
theorem FldsF.lasts {l:List Fld}:Each.Lasts (FldsF l):=fun _ _ _ hb ⟨a,c,e,h⟩=>⟨a,c,e,h.below hb⟩
section
variable {w w':World} {B:Nat} {v x:Value} {xs ys:List UInt8}
end
section code
set_option maxHeartbeats 8000000
set_option maxRecDepth 100000
attribute [local go_sem] Base.some_undef
end code
end Go.Proofs.YtnabkcglnbdfeaaGreatDoor.Can
