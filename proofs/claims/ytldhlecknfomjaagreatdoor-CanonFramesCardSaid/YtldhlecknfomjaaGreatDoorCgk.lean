import Derived.Test.YtldhlecknfomjaaGreatDoorCgj
namespace Go.Proofs.YtldhlecknfomjaaGreatDoor.Can
open Go.RowKit Base Txt Par Pg
theorem fields_frame (m:ByteArray) (fs ts:List Fld) (body:List UInt8):fieldsV m fs body ts=hostA (without fs [Frm.clN,Frm.teN])++frameV m.data.toList body ts:=by
 unfold fieldsV frameV;split
 ·rfl
 ·split
  ·rfl
  ·rw [List.append_nil]
theorem frame_len (m:List UInt8) (body:List UInt8) (ts:List Fld):(frameV m body ts).length≤1:=by
 unfold frameV;split
 ·exact Nat.le_refl _
 ·split
  ·exact Nat.le_refl _
  ·exact Nat.zero_le _
section code
set_option maxHeartbeats 4000000
set_option maxRecDepth 100000
attribute [local go_sem] Base.some_undef
theorem lines_any (a:Option Addr) (n cap:Nat) (fs:List Fld) (w:World) (hv:Flds w a n fs) (hn:n≤1000000000) (hz:(Fd.put fs).length≤1000000000000) :
 Calls Tryz.prog 77 #[.slice a n cap] w fun e w'=>e=.returned (.string (ba (Fd.put fs ++ [13,10])))∧Below w.heap.size w w':=by
 have H:=Lib.hid (Fd.put_any a n cap fs w hv hn hz);have e0:ba (Fd.put fs ++ [13,10])=ba (Fd.put fs) ++⟨#[13,10]⟩:=by apply ByteArray.ext;simp [ba,ByteArray.data_append]
 have hs:(ba (Fd.put fs)).size≤1000000000000:=by rw [ba_size];exact hz
 rw [e0];clear e0 hv hz;generalize ba (Fd.put fs)=s at *;have v1:¬9223372036854775807<s.size+2:=by omega
 clear hs;go_enter Tryz.func77,Tryz.ntmps77
 go_wp2_with (go_at_call 121;with_reducible refine H.out.mono ?_;rintro e w1 ⟨rfl,hb1⟩);go_ret;exact ⟨rfl,hb1⟩
theorem fields_any (V:Value) (r:Rec.R) (w:World) (h:Rec.Reads w V r) (hl:r.fs.length≤100000) (hf:∀f∈r.fs,f.1.size≤1000000000) (hn:r.body.length≤1000000000) :
 Calls Tryz.prog 25 #[V] w fun e w'=>∃a c,e=.returned (.slice a (fieldsV r.m r.fs r.body r.ts).length c)∧Flds w' a (fieldsV r.m r.fs r.body r.ts).length (fieldsV r.m r.fs r.body r.ts)∧Below w.heap.size w w'∧w'.ownsRow w.heap.size 48 2 (.slice a (fieldsV r.m r.fs r.body r.ts).length c) (fieldsV r.m r.fs r.body r.ts).length (cells (fieldsV r.m r.fs r.body r.ts)):=by
 have hs9:∀f∈r.fs,f.1.size≤1000000000:=fun f hm=>hf f hm;obtain ⟨fa,fc,ba,bc,ta,tc,rfl,h1,h2,h3⟩:=h
 have HR:=Lib.hid (show Rec.Reads w (.agg #[.string r.m,.string r.x,.int .i64 r.k,.slice fa r.fs.length fc,.bool r.ch,.slice ba r.body.length bc,.slice ta r.ts.length tc]) r from ⟨fa,fc,ba,bc,ta,tc,rfl,h1,h2,h3⟩);have HG:=Lib.hid fun w' hb=>framing_any _ r w' (HR.out.below (w':=w') hb) hn;clear HR h2 h3;rw [fields_frame];obtain ⟨X,hX⟩:∃X,without r.fs [Frm.clN,Frm.teN]=X:=⟨_,rfl⟩;have HW:Hid (∀(w':World) (b:Option Addr),Below w.heap.size w w'→Strs w' b 2 [⟨#[67,111,110,116,101,110,116,45,76,101,110,103,116,104]⟩,⟨#[84,114,97,110,115,102,101,114,45,69,110,99,111,100,105,110,103]⟩]→Calls Tryz.prog 82 #[.slice fa r.fs.length fc,.slice b 2 2] w' fun e w2=>∃d k c,e=.returned (.slice d k c)∧k=X.length∧Flds w2 d k X∧Below w'.heap.size w' w2∧w2.ownsRow w'.heap.size 48 2 (.slice d k c) k (cells X)):=
  Lib.hid fun w' b hb hu=>hX ▸ without_own fa _ fc r.fs b 2 2 [Frm.clN,Frm.teN] w' (h1.below hb) hu (by omega) (by decide) hs9 (by intro s hm;rcases (by simpa using hm:s=Frm.clN∨s=Frm.teN) with rfl | rfl<;>decide)
 have hXl:X.length≤100000:=by have:=List.length_filter_le (fun f:Fld=>!one [Frm.clN,Frm.teN] f.1) r.fs;rw [←hX];unfold without;omega
 have HXS:Hid (∀f∈X,f.1.size≤maxLen):=Lib.hid fun f hm=>by rw [←hX] at hm;have:=hs9 f (List.mem_filter.1 hm).1;unfold maxLen;omega
 have hY:=frame_len r.m.data.toList r.body r.ts;generalize frameV r.m.data.toList r.body r.ts=Y at *;rw [hX];clear hX h1 hf hs9;obtain ⟨i0,hi,hz0,hz1,hz2⟩:=info_parts field_info;have G1:=Lib.hid hi;have G2:=Lib.hid hz0;have G3:=Lib.hid hz1;have G4:=Lib.hid hz2;clear hi hz0 hz1 hz2;obtain ⟨F,hF⟩:∃F,find X Frm.hostN=F:=⟨_,rfl⟩;have HF:Hid (∀(w':World) (b:Option Addr) (c:Nat),Flds w' b X.length X→Calls Tryz.prog 83 #[.slice b X.length c,.string ⟨#[72,111,115,116]⟩] w' fun e w2=>∃b m c,e=.returned (.slice b m c)∧m=F.length∧Below w'.heap.size w' w2):=
  Lib.hid fun w' b c hv=>(find_any b _ c X Frm.hostN w' hv (by omega) HXS.out).mono (by rintro e w2 ⟨b,m,c,h1,h2, -,h4⟩;exact ⟨b,m,c,h1,by rw [h2,hF],h4⟩)
 unfold hostA;rw [hF];clear hF HXS;rcases F with _ | ⟨f0,F⟩
 ·rw [if_pos rfl];go_enter Tryz.func25,Tryz.ntmps25
  go_wp2_with (first
   |(at_builtin;refine App.wpList_append_list _ rfl _ _ 22 rfl w.heap.size 48 i0 (.agg #[.string ByteArray.empty,.string ByteArray.empty]) 2 32 Tryz.underlying22 G1.out G2.out G3.out G4.out rfl (by decide) _ (1+X.length) (cells ((⟨#[72,111,115,116]⟩,⟨#[108,111,99,97,108,104,111,115,116]⟩)::X)) rfl HO4.out a4 Y.length c4 (cells Y) rfl (cells_length _) (cells_here HF4.out) (cells_one Y) (by unfold maxLen;omega) (by omega) HB4.out.size ?_;intro v5 w5 hown5 hgr5 _ _
     have HB5:=Lib.hid (HB4.out.grown hgr5 HB4.out.size (own_base HO4.out));rw [←cells_append] at hown5;obtain ⟨A5,c5,rfl,hA5⟩:=Flds.of_own hown5;have HA5:=Lib.hid hA5;have HW5:=Lib.hid hown5;clear hown5 hgr5 hA5)
   |(go_at_call 84;with_reducible refine (HG.out _ HB3.out).mono ?_;rintro e w4 ⟨a4,c4,rfl,hF4,hb4⟩
     have HB4:=Lib.hid (Base.below_step HB3.out hb4)
     have HO4:=Lib.hid (own_below HO3.out hb4);have HF4:=Lib.hid hF4;have HY4:=Lib.hid hF4.1;clear hb4 hF4 q0 q1 q2 q3 q4 q5 q6)
   |(at_builtin;refine App.wpList_append_list _ rfl _ _ 22 rfl w.heap.size 48 i0 (.agg #[.string ByteArray.empty,.string ByteArray.empty]) 2 32 Tryz.underlying22 G1.out G2.out G3.out G4.out rfl (by decide) _ 1 [.string ⟨#[72,111,115,116]⟩,.string ⟨#[108,111,99,97,108,104,111,115,116]⟩] rfl (World.ownsRow_lit (base:=w.heap.size) (e:=48) (size:=2) w2 #[.string ⟨#[72,111,115,116]⟩,.string ⟨#[108,111,99,97,108,104,111,115,116]⟩] 1 HB2.out.size (by decide) rfl) d X.length c (cells X) rfl (cells_length _) (cells_here (HF2.out.below ((Below.refl _ _).alloc (Nat.le_refl _) _))) (cells_one X) (by unfold maxLen;omega) (by omega) (by simp;exact Nat.le_succ_of_le HB2.out.size) ?_;intro v3 w3 hown3 hgr3 _ _
     have hgb3:Below w2.heap.size w2 w3:=((Below.refl _ _).alloc (Nat.le_refl _) _).grown hgr3 (by simp) (by intro k hk;have h9:w2.heap.size=k:=Option.some.inj hk;omega)
     replace q0:=(hgb3.cell (p:=⟨w.heap.size,0,none⟩) hlt).trans q0
     replace q1:=(hgb3.cell (p:=⟨w.heap.size,1,none⟩) hlt).trans q1
     replace q2:=(hgb3.cell (p:=⟨w.heap.size,2,none⟩) hlt).trans q2
     replace q3:=(hgb3.cell (p:=⟨w.heap.size,3,none⟩) hlt).trans q3
     replace q4:=(hgb3.cell (p:=⟨w.heap.size,4,none⟩) hlt).trans q4
     replace q5:=(hgb3.cell (p:=⟨w.heap.size,5,none⟩) hlt).trans q5
     replace q6:=(hgb3.cell (p:=⟨w.heap.size,6,none⟩) hlt).trans q6
     have HB3:=Lib.hid (Base.below_step HB2.out hgb3)
     have HO3:=Lib.hid (show w3.ownsRow w.heap.size 48 2 v3 (1+X.length) (cells ((⟨#[72,111,115,116]⟩,⟨#[108,111,99,97,108,104,111,115,116]⟩)::X)) from hown3);clear hown3 hgr3 hgb3)
   |(go_at_call 83;with_reducible refine (HF.out _ _ _ HF1.out).mono ?_;rintro e w2 ⟨b2,m2,c2,rfl,rfl,hb2⟩
     replace q0:=(hb2.cell (p:=⟨w.heap.size,0,none⟩) hlt).trans q0
     replace q1:=(hb2.cell (p:=⟨w.heap.size,1,none⟩) hlt).trans q1
     replace q2:=(hb2.cell (p:=⟨w.heap.size,2,none⟩) hlt).trans q2
     replace q3:=(hb2.cell (p:=⟨w.heap.size,3,none⟩) hlt).trans q3
     replace q4:=(hb2.cell (p:=⟨w.heap.size,4,none⟩) hlt).trans q4
     replace q5:=(hb2.cell (p:=⟨w.heap.size,5,none⟩) hlt).trans q5
     replace q6:=(hb2.cell (p:=⟨w.heap.size,6,none⟩) hlt).trans q6
     replace hlt:=Nat.lt_of_lt_of_le hlt hb2.size
     have HB2:=Lib.hid (Base.below_step HB1.out hb2)
     have HO2:=Lib.hid (own_below HO1.out hb2)
     have HF2:=Lib.hid (HF1.out.below hb2);clear hb2)
   |(go_at_call 82;with_reducible refine (HW.out _ _ (((Below.refl _ _).alloc (Nat.le_refl _) _).alloc (by simp) _) (Strs.two _ _ (by simp) _ _ _)).mono ?_;rintro e w1 ⟨d,k,c,rfl,rfl,hF1,hb1,ho1⟩
     have q0:=(hb1.cell (p:=⟨w.heap.size,0,none⟩) (by simp<;>omega)).trans (show _=some (.string r.m) by simp)
     have q1:=(hb1.cell (p:=⟨w.heap.size,1,none⟩) (by simp<;>omega)).trans (show _=some (.string r.x) by simp)
     have q2:=(hb1.cell (p:=⟨w.heap.size,2,none⟩) (by simp<;>omega)).trans (show _=some (.int .i64 r.k) by simp)
     have q3:=(hb1.cell (p:=⟨w.heap.size,3,none⟩) (by simp<;>omega)).trans (show _=some (.slice fa r.fs.length fc) by simp)
     have q4:=(hb1.cell (p:=⟨w.heap.size,4,none⟩) (by simp<;>omega)).trans (show _=some (.bool r.ch) by simp)
     have q5:=(hb1.cell (p:=⟨w.heap.size,5,none⟩) (by simp<;>omega)).trans (show _=some (.slice ba r.body.length bc) by simp)
     have q6:=(hb1.cell (p:=⟨w.heap.size,6,none⟩) (by simp<;>omega)).trans (show _=some (.slice ta r.ts.length tc) by simp);have hlt:w.heap.size<w1.heap.size:=Nat.lt_of_lt_of_le (by simp<;>omega) hb1.size
     have HB1:=Lib.hid (Base.below_step ((((Below.refl _ _).alloc (Nat.le_refl _) _).alloc (by simp) _):Below w.heap.size w _) hb1)
     have HO1:=Lib.hid (own_lower ho1 (base':=w.heap.size) (by simp;omega));have HF1:=Lib.hid hF1;clear hb1 ho1 hF1))
  go_ret;have e9:1+X.length+Y.length=(X++Y).length+1:=by simp;omega
  have h7:=HA5.out;have h8:=HW5.out;rw [e9] at h7 h8;exact ⟨A5,c5,by simp;omega,h7,HB5.out,h8⟩
 ·rw [if_neg (by simp)];have hF0:¬(((f0::F).length:Nat):Int)=0:=by simp;omega
  generalize (f0::F).length=nF at *;go_enter Tryz.func25,Tryz.ntmps25
  go_wp2_with (first
   |(at_builtin;refine App.wpList_append_list _ rfl _ _ 22 rfl w.heap.size 48 i0 (.agg #[.string ByteArray.empty,.string ByteArray.empty]) 2 32 Tryz.underlying22 G1.out G2.out G3.out G4.out rfl (by decide) _ (X.length) (cells X) rfl HO4.out a4 Y.length c4 (cells Y) rfl (cells_length _) (cells_here HF4.out) (cells_one Y) (by unfold maxLen;omega) (by omega) HB4.out.size ?_;intro v5 w5 hown5 hgr5 _ _
     have HB5:=Lib.hid (HB4.out.grown hgr5 HB4.out.size (own_base HO4.out));rw [←cells_append] at hown5;obtain ⟨A5,c5,rfl,hA5⟩:=Flds.of_own hown5;have HA5:=Lib.hid hA5;have HW5:=Lib.hid hown5;clear hown5 hgr5 hA5)
   |(go_at_call 84;with_reducible refine (HG.out _ HB2.out).mono ?_;rintro e w4 ⟨a4,c4,rfl,hF4,hb4⟩
     have HB4:=Lib.hid (Base.below_step HB2.out hb4)
     have HO4:=Lib.hid (own_below HO2.out hb4);have HF4:=Lib.hid hF4;have HY4:=Lib.hid hF4.1;clear hb4 hF4 q0 q1 q2 q3 q4 q5 q6)
   |(go_at_call 83;with_reducible refine (HF.out _ _ _ HF1.out).mono ?_;rintro e w2 ⟨b2,m2,c2,rfl,rfl,hb2⟩
     replace q0:=(hb2.cell (p:=⟨w.heap.size,0,none⟩) hlt).trans q0
     replace q1:=(hb2.cell (p:=⟨w.heap.size,1,none⟩) hlt).trans q1
     replace q2:=(hb2.cell (p:=⟨w.heap.size,2,none⟩) hlt).trans q2
     replace q3:=(hb2.cell (p:=⟨w.heap.size,3,none⟩) hlt).trans q3
     replace q4:=(hb2.cell (p:=⟨w.heap.size,4,none⟩) hlt).trans q4
     replace q5:=(hb2.cell (p:=⟨w.heap.size,5,none⟩) hlt).trans q5
     replace q6:=(hb2.cell (p:=⟨w.heap.size,6,none⟩) hlt).trans q6
     replace hlt:=Nat.lt_of_lt_of_le hlt hb2.size
     have HB2:=Lib.hid (Base.below_step HB1.out hb2)
     have HO2:=Lib.hid (own_below HO1.out hb2)
     have HF2:=Lib.hid (HF1.out.below hb2);clear hb2)
   |(go_at_call 82;with_reducible refine (HW.out _ _ (((Below.refl _ _).alloc (Nat.le_refl _) _).alloc (by simp) _) (Strs.two _ _ (by simp) _ _ _)).mono ?_;rintro e w1 ⟨d,k,c,rfl,rfl,hF1,hb1,ho1⟩
     have q0:=(hb1.cell (p:=⟨w.heap.size,0,none⟩) (by simp<;>omega)).trans (show _=some (.string r.m) by simp)
     have q1:=(hb1.cell (p:=⟨w.heap.size,1,none⟩) (by simp<;>omega)).trans (show _=some (.string r.x) by simp)
     have q2:=(hb1.cell (p:=⟨w.heap.size,2,none⟩) (by simp<;>omega)).trans (show _=some (.int .i64 r.k) by simp)
     have q3:=(hb1.cell (p:=⟨w.heap.size,3,none⟩) (by simp<;>omega)).trans (show _=some (.slice fa r.fs.length fc) by simp)
     have q4:=(hb1.cell (p:=⟨w.heap.size,4,none⟩) (by simp<;>omega)).trans (show _=some (.bool r.ch) by simp)
     have q5:=(hb1.cell (p:=⟨w.heap.size,5,none⟩) (by simp<;>omega)).trans (show _=some (.slice ba r.body.length bc) by simp)
     have q6:=(hb1.cell (p:=⟨w.heap.size,6,none⟩) (by simp<;>omega)).trans (show _=some (.slice ta r.ts.length tc) by simp);have hlt:w.heap.size<w1.heap.size:=Nat.lt_of_lt_of_le (by simp<;>omega) hb1.size
     have HB1:=Lib.hid (Base.below_step ((((Below.refl _ _).alloc (Nat.le_refl _) _).alloc (by simp) _):Below w.heap.size w _) hb1)
     have HO1:=Lib.hid (own_lower ho1 (base':=w.heap.size) (by simp;omega));have HF1:=Lib.hid hF1;clear hb1 ho1 hF1))
  go_ret;exact ⟨A5,c5,by simp,by simpa using HA5.out,HB5.out,by simpa using HW5.out⟩
end code
end Go.Proofs.YtldhlecknfomjaaGreatDoor.Can
namespace Go.Proofs.YtldhlecknfomjaaGreatDoor.Can
open Go.RowKit Base Txt Par Pg Flt
def SzF (M:Nat) (f:Fld):Prop:=f.1.size+f.2.size≤M
structure SzR (b:Bd) (r:Rec.R):Prop where
 m:r.m.size≤Ln.mid b.x0
 x:r.x.size≤Ln.mid b.x0
 fs:∀f∈r.fs,SzF (Ln.mid b.x0) f
 ts:∀f∈r.ts,SzF (Ln.mid b.x0) f
 fl:(r.fs.length:Int)≤b.x1
 tl:(r.ts.length:Int)≤b.x5
 body:r.body.length≤1048576
structure Sz (b:Bd) (t:T):Prop where
 most:t.rd.most≤Ln.mid b.x0
 m:t.r.m.size≤Ln.mid b.x0
 x:t.r.x.size≤Ln.mid b.x0
 fs:∀f∈t.r.fs,SzF (Ln.mid b.x0) f
 ts:∀f∈t.r.ts,SzF (Ln.mid b.x0) f
 fl:(t.r.fs.length:Int)≤t.hl∧(t.hl:Int)≤b.x1
 tl:(t.r.ts.length:Int)≤t.bl∧(t.bl:Int)≤b.x5
 out:∀r∈t.out,SzR b r
section
variable {b:Bd} {t t2:T} {s:List UInt8} {c:UInt8}
end
end Go.Proofs.YtldhlecknfomjaaGreatDoor.Can
namespace Go.Proofs.YtldhlecknfomjaaGreatDoor.Can
open Go.RowKit Base Txt Par Pg
theorem len_size {n:Nat} (h:n≤1048576):(lenV n).size≤21:=by
 show (ba _).size≤21;rw [size_ba]
 exact Num.spell_len (b:=10) (by decide) 21 n (by omega) (by decide)
theorem mem_host {l:List Fld} {f:Fld} (h:f∈hostA l):f∈l∨f=(Frm.hostN,localV):=by
 unfold hostA at h;split at h
 ·rcases List.mem_cons.1 h with h | h
  ·exact .inr h
  ·exact .inl h
 ·exact .inl h
theorem mem_fields {m:ByteArray} {fs ts:List Fld} {body:List UInt8} {f:Fld} (h:f∈fieldsV m fs body ts):f∈fs∨f=(Frm.hostN,localV)∨f=(Frm.teN,Frm.chunked)∨f=(Frm.clN,lenV body.length):=by
 have key:f∈hostA (without fs [Frm.clN,Frm.teN])→f∈fs∨f=(Frm.hostN,localV):=fun h=>(mem_host h).imp_left fun h=>(List.mem_filter.1 h).1;unfold fieldsV at h;split at h
 ·rcases List.mem_append.1 h with h | h
  ·exact (key h).imp_right .inl
  ·exact .inr (.inr (.inl (List.mem_singleton.1 h)))
 ·split at h
  ·rcases List.mem_append.1 h with h | h
   ·exact (key h).imp_right .inl
   ·exact .inr (.inr (.inr (List.mem_singleton.1 h)))
  ·exact (key h).imp_right .inl
theorem fields_len (m:ByteArray) (fs ts:List Fld) (body:List UInt8):(fieldsV m fs body ts).length≤fs.length+2:=by
 have h1:(hostA (without fs [Frm.clN,Frm.teN])).length≤fs.length+1:=by
  have:(without fs [Frm.clN,Frm.teN]).length≤fs.length:=List.length_filter_le _ _;unfold hostA;split
  ·simp;omega
  ·omega
 unfold fieldsV;split
 ·simp;omega
 ·split
  ·simp;omega
  ·omega
theorem put_le {M:Nat}:∀{l:List Fld},(∀f∈l,(bare f).length≤M)→(Fd.put l).length≤(M+2)*l.length
 | [],_=>by simp [Fd.put]
 | f::l,h=>by
   have h1:=h f (by simp)
   have h2:=put_le (l:=l) fun g hg=>h g (by simp [hg]);have e:Fd.put (f::l)=(bare f ++ [13,10])++Fd.put l:=by rw [←line_bare];rfl
   rw [e];simp only [List.length_append,List.length_cons,List.length_nil,Nat.mul_succ] at h2 ⊢;omega
theorem bare_len (f:Fld):(bare f).length=f.1.size+f.2.size+2:=by
 unfold bare;simp only [List.length_append,List.length_cons];show f.1.data.toList.length+(f.2.data.toList.length+1+1)= _;have h1:f.1.data.toList.length=f.1.size:=by simp
 have h2:f.2.data.toList.length=f.2.size:=by simp
 omega
end Go.Proofs.YtldhlecknfomjaaGreatDoor.Can
namespace Go.Proofs.YtldhlecknfomjaaGreatDoor.By
open Go.RowKit Base
def Bytes (w:World) (g:Nat) (l:List UInt8):Prop:=∀j (h:j<l.length),w.cell? ⟨g,j,none⟩=some (.int .u8 (l[j].toNat:Int))∧w.frozen? ⟨g,j,none⟩=false
end Go.Proofs.YtldhlecknfomjaaGreatDoor.By
namespace Go.Proofs.YtldhlecknfomjaaGreatDoor.By
open Go.RowKit Base
abbrev bv (c:UInt8):Value:=.int .u8 (c.toNat:Int)
def Buf (w:World) (B:Nat) (v:Value) (xs:List UInt8):Prop:=∃g cap,v=.slice (some ⟨g,0,none⟩) xs.length cap∧B≤g∧g<w.heap.size∧xs.length≤cap∧(∀j (h:j<xs.length),w.cell? ⟨g,j,none⟩=some (bv xs[j]))∧
 ∀j,xs.length≤j→j<cap→(w.cell? ⟨g,j,none⟩).isSome=true∧w.frozen? ⟨g,j,none⟩=false
def Rd (w:World) (v:Value) (ys:List UInt8):Prop:=∃a c,v=.slice a ys.length c∧Nums .u8 w a ys.length (ys.map fun c=>(c.toNat:Int))
theorem row_clear {w:World} {g:Nat} {cs:Array Value} {ty:TypeId} (h:w.heap[g]?=some (.cells cs ty (0,0))) (k:Nat):w.frozen? ⟨g,k,none⟩=false:=by simp [World.frozen?,h]
theorem lt_alloc (w:World) (o:Obj):w.heap.size<(w.drew.alloc o).heap.size:=by
 have h:w.drew.heap.size<(w.drew.alloc o).heap.size:=by simp
 exact h
section
variable {w w':World} {B:Nat} {v x:Value} {xs ys:List UInt8}
theorem Buf.below (h:Buf w B v xs) (hb:Below w.heap.size w w'):Buf w' B v xs:=by obtain ⟨g,cap,e,h1,h2,h3,h4,h5⟩:=h;exact ⟨g,cap,e,h1,Nat.lt_of_lt_of_le h2 hb.size,h3,fun j hj=>(hb.cell (p:=⟨g,j,none⟩) h2).trans (h4 j hj),fun j k1 k2=>⟨by rw [hb.cell (p:=⟨g,j,none⟩) h2];exact (h5 j k1 k2).1,by rw [hb.frozen (p:=⟨g,j,none⟩) h2];exact (h5 j k1 k2).2⟩⟩
theorem u8_info:(Tryz.prog.info? 5).map (fun i=>(i.zero,i.size,i.bytes))=some (some (.int .u8 0),1,1):=by kernel_rfl
theorem Rd.src (h:Rd w x ys):Src Tryz.prog 1 23 x ys.length (ys.map bv) w:=by
 obtain ⟨a,c,e,hl,hc⟩:=h;subst e;rcases Nat.eq_zero_or_pos ys.length with h0 | h0
 ·have:ys= []:=List.eq_nil_of_length_eq_zero h0;subst this;cases a with
  | none=>exact Src.ofNil w Tryz.underlying23 c
  | some a=>exact Src.ofSlice w Tryz.underlying23 a 0 c [] rfl (fun j u hu=>by cases hu) (fun u hu=>by cases hu)
 ·obtain ⟨b,off,rfl,hlt,hcc⟩:=hc h0
  refine Src.ofSlice w Tryz.underlying23 _ _ c _ (by simp) (fun j u hu=>?_) (fun u hu=>?_)
  ·have hj:j<ys.length:=by have:=(List.getElem?_eq_some_iff.1 hu).1;simpa using this
   have e:(⟨b,off,none⟩:Addr).add j=⟨b,off+j,none⟩:=by unfold Addr.add;by_cases h:j=0<;>simp [h]
   rw [e,hcc j hj];rw [List.getElem?_map,List.getElem?_eq_getElem hj] at hu;simp [hj] at hu ⊢;exact hu
  ·obtain ⟨c, -,rfl⟩:=List.mem_map.1 hu;rfl
theorem str_src (s:ByteArray):Src Tryz.prog 1 9 (.string s) s.data.toList.length (s.data.toList.map bv) w:=by have h:=Src.ofString (P:=Tryz.prog) (w:=w) (tx:=9) Tryz.underlying9 s;have e:s.data.toList.length=s.size:=Array.length_toList;have e2:byteCells s=s.data.toList.map bv:=rfl;rw [e,←e2];exact h
theorem Buf.mono (h:Buf w B v xs) {B':Nat} (hB:B'≤B):Buf w B' v xs:=by obtain ⟨g,cap,rfl,h1,h2⟩:=h;exact ⟨g,cap,rfl,Nat.le_trans hB h1,h2⟩
theorem buf_grow {g cap:Nat} (h4:∀j (h:j<xs.length),w.cell? ⟨g,j,none⟩=some (bv xs[j])) (tx:TypeId) (hs:Src Tryz.prog 1 tx x ys.length (ys.map bv) w) (hlen:xs.length+ys.length≤1000000000) (hr:cap<xs.length+ys.length) :
 ∃v' w',(Builtin.append_ #[23,tx] 23 #[.slice (some ⟨g,0,none⟩) xs.length cap,x]).run Tryz.prog w=.ok v' w'∧Buf w' w.heap.size v' (xs++ys)∧Below w.heap.size w w':=by
 obtain ⟨i,hi,hzz⟩:=Option.map_eq_some_iff.1 u8_info;simp only [Prod.mk.injEq] at hzz;obtain ⟨hz,hsz,hby⟩:=hzz;have hml:(ys.map bv).length=ys.length:=by simp
 have hold:(Builtin.firstCells i.size xs.length (.slice (some ⟨g,0,none⟩) xs.length cap)).run Tryz.prog w.drew=.ok (xs.map bv).toArray w.drew:=by
  rw [hsz]
  refine run_firstCells_some w.drew 1 xs.length ⟨g,0,none⟩ xs.length cap (xs.map bv) (by simp) (fun j u hu=>?_);have hj:j<xs.length:=by have:=(List.getElem?_eq_some_iff.1 hu).1;simpa using this
  have e:(⟨g,0,none⟩:Addr).add j=⟨g,j,none⟩:=by unfold Addr.add;by_cases h:j=0<;>simp [h]
  rw [e];show w.cell? ⟨g,j,none⟩=some u;rw [h4 j hj];rw [List.getElem?_map,List.getElem?_eq_getElem hj] at hu;exact hu
 have hrun:=run_append_grow_src (P:=Tryz.prog) (w:=w) 23 tx 23 5 i (.int .u8 0) Tryz.underlying23 hi hz (some ⟨g,0,none⟩) xs.length cap (xs.map bv) hold x ys.length (ys.map bv) (by rw [hsz];exact hs) hr (by omega)
  (by rw [hby];have:=nextslicecap_le hr;omega)
 have hgc:=grownCap_ge w (xs.length+ys.length) cap 5;refine ⟨_,_,hrun,⟨w.heap.size,_,by rw [List.length_append],Nat.le_refl _,lt_alloc w _,by rw [List.length_append];exact hgc,fun j hj=>?_,fun j k1 k2=>?_⟩,(Below.refl _ _).drew.alloc (Nat.le_refl _) _⟩
 ·have hrow:=cell_of_row (w.drew.alloc (.cells (((xs.map bv)++(ys.map bv)).toArray++Builtin.zeroCells (Value.int .u8 0).cells (grownCap w (xs.length+ys.length) cap 5-(xs.length+ys.length))) 5)) w.heap.size j _ 5 (0,0) (heap_alloc_new w.drew _);rw [hrow,Array.getElem?_append_left (by rw [List.length_append] at hj;simpa using hj),List.getElem?_toArray,←List.map_append,List.getElem?_map,List.getElem?_eq_getElem hj];rfl
 ·have hrow:=cell_of_row (w.drew.alloc (.cells (((xs.map bv)++(ys.map bv)).toArray++Builtin.zeroCells (Value.int .u8 0).cells (grownCap w (xs.length+ys.length) cap 5-(xs.length+ys.length))) 5)) w.heap.size j _ 5 (0,0) (heap_alloc_new w.drew _);refine ⟨?_,row_clear (heap_alloc_new w.drew _) j⟩;rw [hrow];have hzl:(Builtin.zeroCells (Value.int .u8 0).cells (grownCap w (xs.length+ys.length) cap 5-(xs.length+ys.length))).size=grownCap w (xs.length+ys.length) cap 5-(xs.length+ys.length):=by
   have e1:(Value.int IntKind.u8 0).cells.size=1:=rfl;simp [Builtin.zeroCells,e1]
  rw [List.length_append] at k1;rw [Array.getElem?_eq_getElem (by rw [Array.size_append,hzl];simp;omega)];rfl
theorem Buf.append (h:Buf w B v xs) (tx:TypeId) (hs:Src Tryz.prog 1 tx x ys.length (ys.map bv) w) (hlen:xs.length+ys.length≤1000000000) (hB:B≤w.heap.size) :
 ∃v' w',(Builtin.append_ #[23,tx] 23 #[v,x]).run Tryz.prog w=.ok v' w'∧Buf w' B v' (xs++ys)∧Below B w w':=by
 obtain ⟨g,cap,rfl,h1,h2,h3,h4,h5⟩:=h;obtain ⟨i,hi,hzz⟩:=Option.map_eq_some_iff.1 u8_info;simp only [Prod.mk.injEq] at hzz;obtain ⟨hz,hsz,hby⟩:=hzz;have hml:(ys.map bv).length=ys.length:=by simp
 rcases Nat.lt_or_ge cap (xs.length+ys.length) with hr | hr
 ·obtain ⟨v',w',hrun,hb,hbw⟩:=buf_grow h4 tx hs hlen hr;exact ⟨v',w',hrun,hb.mono hB,hbw.mono hB⟩
 ·have hrun:=run_append_room_src (P:=Tryz.prog) (w:=w) 23 tx 23 5 i Tryz.underlying23 hi g 0 xs.length cap x ys.length (ys.map bv) (by rw [hsz];exact hs) hr
   (fun j hj=>by rw [hsz,Nat.zero_add,Nat.mul_one];rw [hml] at hj;exact (h5 (xs.length+j) (by omega) (by omega)).1)
   (fun j hj=>by rw [hsz,Nat.zero_add,Nat.mul_one];rw [hml] at hj;exact (h5 (xs.length+j) (by omega) (by omega)).2)
  rw [hsz,Nat.zero_add,Nat.mul_one] at hrun;have hbw:Below B w (w.setCells g xs.length (ys.map bv)):=Lib.below_setCells_w h1 _ _ _;refine ⟨_,_,hrun,⟨g,cap,by rw [List.length_append],h1,Nat.lt_of_lt_of_le h2 hbw.size,by rw [List.length_append];exact hr,fun j hj=>?_,fun j k1 k2=>?_⟩,hbw⟩
  ·rcases Nat.lt_or_ge j xs.length with hjx | hjx
   ·rw [World.cell?_setCells_out g _ _ _ _ (fun _ _=>.inl hjx),h4 j hjx,List.getElem_append_left hjx]
   ·have hj':j-xs.length<(ys.map bv).length:=by rw [hml];rw [List.length_append] at hj;omega
    have:=World.cell?_setCells_in g (ys.map bv) xs.length w (fun k hk=>by rw [hml] at hk;exact (h5 (xs.length+k) (by omega) (by omega)).1) (j-xs.length) hj';rw [show xs.length+(j-xs.length)=j by omega] at this;rw [this,List.getElem_append_right hjx];simp
  ·rw [List.length_append] at k1;refine ⟨?_,by rw [World.frozen?_setCells];exact (h5 j (by omega) k2).2⟩;rw [World.cell?_setCells_out g _ _ _ _ (fun _ _=>.inr (by rw [hml];exact k1))];exact (h5 j (by omega) k2).1
theorem exec_append {P:Program} {o:Oper} {ev:Operand→Value} {v u v':Value} (s z:Operand) (t tx:TypeId) (ho:o.op=.call {callee:=.builtin .append,args:=#[s,z],argTypes:=#[t,tx]}) (hs:ev s=v) (hx:ev z=u)
 (hr:(Builtin.append_ #[t,tx] o.type #[v,u]).run P w=.ok v' w'):(execOp ev o).run P w=.ok (.value v') w':=by
 unfold execOp;simp only [ho,resolve,invoke,builtin,Sem.run_bind,Sem.run_pure,Result.andThen_ok,List.map_toArray,List.map_cons,List.map_nil,hs,hx,hr]
theorem oper_append {P:Program} {o:Oper} {a:Act} {K:Act→World→Prop} {Q:Exit→Act→World→Prop} {v u v':Value} (s z:Operand) (t tx:TypeId) (ho:o.op=.call {callee:=.builtin .append,args:=#[s,z],argTypes:=#[t,tx]}) (hs:a.eval s=v) (hx:a.eval z=u)
 (hr:(Builtin.append_ #[t,tx] o.type #[v,u]).run P w=.ok v' w') (h:K (a.put o.dst v') w'):o.wp P a w K Q:=by
 unfold Oper.wp;rw [exec_append s z t tx ho hs hx hr,Oper.upon_value];exact h
end
end Go.Proofs.YtldhlecknfomjaaGreatDoor.By
namespace Go.Proofs.YtldhlecknfomjaaGreatDoor.Can
open Go.RowKit Base Txt Par Pg
def putR (r:Rec.R):List UInt8:=putV r.m.data.toList r.x.data.toList r.fs r.body r.ts
def fieldsR (r:Rec.R):List Fld:=fieldsV r.m r.fs r.body r.ts
structure Sm (r:Rec.R):Prop where
 m:r.m.size≤1000000
 x:r.x.size≤1000000
 fl:r.fs.length≤200
 fs:∀f∈r.fs,f.1.size+f.2.size≤200000
 body:r.body.length≤1048576
 tl:r.ts.length≤200
 ts:∀f∈r.ts,f.1.size+f.2.size≤200000
section
variable {r:Rec.R}
theorem Sm.fields (h:Sm r):(∀f∈fieldsR r,f.1.size+f.2.size≤200000)∧(fieldsR r).length≤202:=by
 refine ⟨fun f hf=>?_,by have:=fields_len r.m r.fs r.ts r.body;have:=h.fl;unfold fieldsR;omega⟩;rcases mem_fields hf with h1 | rfl | rfl | rfl
 ·exact h.fs f h1
 ·decide
 ·decide
 ·have:=len_size h.body;have e:Frm.clN.size=14:=by decide
  show Frm.clN.size+(lenV r.body.length).size≤200000;omega
theorem put_size {l:List Fld} {n:Nat} (h:∀f∈l,f.1.size+f.2.size≤200000) (hn:l.length≤n):(Fd.put l).length≤200004*n:=by
 have h1:=put_le (M:=200002) (l:=l) fun f hf=>by rw [bare_len];have:=h f hf;omega
 have h2:200004*l.length≤200004*n:=Nat.mul_le_mul_left _ hn;omega
theorem chunk_size (h:Sm r):(Chk.putL [r.body]).length≤1048700:=by
 have e:Chk.putL [r.body]=Chk.chunkL r.body ++ [48,13,10]:=by unfold Chk.putL;simp
 have hb:=h.body
 have:=Num.spell_len (b:=16) (by decide) 21 r.body.length (by omega) (by decide);rw [e];unfold Chk.chunkL;split<;>simp only [List.length_append,List.length_cons,List.length_nil]<;>omega
theorem Sm.put (h:Sm r):(putR r).length≤100000000:=by
 obtain ⟨h1,h2⟩:=h.fields;have h3:=put_size h1 h2;have h4:=put_size h.ts h.tl;have h5:=chunk_size h;have hm:=h.m;have hx:=h.x;have hb:=h.body;have em:r.m.data.toList.length=r.m.size:=by simp
 have ex:r.x.data.toList.length=r.x.size:=by simp
 have ef:fieldsV (ba r.m.data.toList) r.fs r.body r.ts=fieldsR r:=rfl;unfold putR putV reqL;rw [ef];split<;>simp only [List.length_append,List.length_cons,List.length_nil]<;>omega
end
theorem lines_one {w:World} {v:Value} {y:List UInt8} (h:By.Rd w v y) (t:TypeId):Txt.Lines (w.alloc (.cells #[v] t)) (some ⟨w.heap.size,0,none⟩) 1 [y]:=by
 obtain ⟨a,c,rfl,n⟩:=h;have hb:Below w.heap.size w (w.alloc (.cells #[.slice a y.length c] t)):=(Below.refl _ _).alloc (Nat.le_refl _) _;refine ⟨rfl,fun _=>⟨w.heap.size,0,rfl,by simp,fun k hk=>?_⟩⟩;obtain rfl:k=0:=by omega
 exact ⟨a,c,(cell_of_row (w.alloc _) w.heap.size 0 _ t (0,0) (heap_alloc_new w _)).trans rfl,n.below hb⟩
section code
set_option maxHeartbeats 4000000
set_option maxRecDepth 100000
attribute [local go_sem] Base.some_undef
theorem conv_buf (s:ByteArray) (w:World):∃W V,(convert 9 23 (.string s)).run Tryz.prog w=.ok V W∧By.Buf W w.heap.size V s.data.toList∧Below w.heap.size w W:=by
 have hcv:=run_bytes_of_string (P:=Tryz.prog) w 9 23 5 s Tryz.underlying9 Tryz.underlying23 Tryz.underlying5;have hg:=grownCap_ge w s.size 0 5;have hl:s.data.toList.length=s.size:=by simp
 have hrs:(bytesRow s (grownCap w s.size 0 5)).size=grownCap w s.size 0 5:=by unfold bytesRow;have e:s.data.size=s.size:=rfl;rw [Array.size_append,Array.size_map,Array.size_replicate,e];omega
 refine ⟨_,_,hcv,⟨w.heap.size,_,by rw [hl],Nat.le_refl _,by simp,by rw [hl];exact hg,fun j hj=>?_,fun j h1 h2=>?_⟩,(Below.refl _ _).drew.alloc (Nat.le_refl _) _⟩
 ·have hj':j<s.data.size:=by simpa using hj
  exact (World.cell?_alloc_mark w.drew _ _ _ j).trans (bytesRow_at s _ j hj')
 ·refine ⟨?_,(World.frozen?_alloc_mark w.drew _ _ _ _ j).trans ?_⟩
  ·have e:=World.cell?_alloc_mark w.drew (bytesRow s (grownCap w s.size 0 5)) 5 ((bytesRow s (grownCap w s.size 0 5)).size,(bytesRow s (grownCap w s.size 0 5)).size+1) j;refine (congrArg Option.isSome e).trans ?_;rw [Array.getElem?_eq_getElem (by rw [hrs];exact h2)];rfl
  ·have:¬(bytesRow s (grownCap w s.size 0 5)).size≤j:=by rw [hrs];omega
   simp [this]
theorem wp_append2 {P:Program} {w:World} {ops:Array Oper} {rest:List Oper} {o:Oper} {a:Act} {Q:Exit→Act→World→Prop} (hw:Region.wanted o (yielded ops a.tmps)=true) (s x:Operand) (t tx:TypeId) (ho:o.op=.call {callee:=.builtin .append,args:=#[s,x],argTypes:=#[t,tx]}) (v u:Value) (hs:a.eval s=v) (hx:a.eval x=u) (v':Value) (w':World)
 (hr:(Builtin.append_ #[t,tx] o.type #[v,u]).run P w=.ok v' w') (h:wpList P ops Q rest (a.put o.dst v') w'):wpList P ops Q (o::rest) a w:=by
 unfold wpList;rw [if_pos hw];left;exact By.oper_append s x t tx ho hs hx hr h
theorem put_any (V:Value) (r:Rec.R) (w:World) (h:Rec.Reads w V r) (hs:Sm r):Calls Tryz.prog 22 #[V] w fun e w'=>∃v,e=.returned v∧By.Buf w' w.heap.size v (putR r)∧Below w.heap.size w w':=by
 obtain ⟨fa,fc,ba,bc,ta,tc,rfl,h1,h2,h3⟩:=h;have hR:Rec.Reads w (.agg #[.string r.m,.string r.x,.int .i64 r.k,.slice fa r.fs.length fc,.bool r.ch,.slice ba r.body.length bc,.slice ta r.ts.length tc]) r:=⟨fa,fc,ba,bc,ta,tc,rfl,h1,h2,h3⟩;obtain ⟨W1,hW1⟩:∃W1,W1=(w.alloc (.cells #[.string r.m,.string r.x,.int .i64 r.k,.slice fa r.fs.length fc,.bool r.ch,.slice ba r.body.length bc,.slice ta r.ts.length tc] 25)):=⟨_,rfl⟩;have hsz:W1.heap.size=w.heap.size+1:=by rw [hW1];simp
 have hle:w.heap.size≤W1.heap.size:=by omega
 have hb1:Below w.heap.size w W1:=by rw [hW1];exact (Below.refl _ _).alloc (Nat.le_refl _) _
 have HW:Hid (∀wk,Below W1.heap.size W1 wk→Below w.heap.size w wk):=Lib.hid fun wk hb=>hb1.trans (hb.mono (by omega));have HQ:Hid (∀wk,Below W1.heap.size W1 wk→wk.cell? ⟨w.heap.size,0,none⟩=some (.string r.m)∧wk.cell? ⟨w.heap.size,1,none⟩=some (.string r.x)∧wk.cell? ⟨w.heap.size,2,none⟩=some (.int .i64 r.k)∧wk.cell? ⟨w.heap.size,3,none⟩=some (.slice fa r.fs.length fc)∧wk.cell? ⟨w.heap.size,4,none⟩=some (.bool r.ch)∧wk.cell? ⟨w.heap.size,5,none⟩=some (.slice ba r.body.length bc)∧wk.cell? ⟨w.heap.size,6,none⟩=some (.slice ta r.ts.length tc)):=Lib.hid fun wk hb=>by have key:∀i,wk.cell? ⟨w.heap.size,i,none⟩=W1.cell? ⟨w.heap.size,i,none⟩:=fun i=>hb.cell (p:=⟨w.heap.size,i,none⟩) (by show w.heap.size<W1.heap.size;omega);simp only [key];rw [hW1];refine ⟨?_,?_,?_,?_,?_,?_,?_⟩<;>simp
 obtain ⟨z1,z2⟩:=hs.fields;have hzt:=hs.put
 have HF:=Lib.hid fun wk hb=>fields_any _ r wk (hR.below (HW.out wk hb)) (by have:=hs.fl;omega) (fun f hf=>by have:=hs.fs f hf;omega) (by have:=hs.body;omega)
 have HC:=Lib.hid fun wk hb=>chunked_any _ r wk (hR.below (HW.out wk hb));have HL1:Hid (∀(wk:World) a c,Flds wk a (fieldsR r).length (fieldsR r)→Calls Tryz.prog 77 #[.slice a (fieldsR r).length c] wk fun e w'=>e=.returned (.string (Txt.ba (Fd.put (fieldsR r) ++ [13,10])))∧Below wk.heap.size wk w'):=
  Lib.hid fun wk a c hv=>lines_any a _ c _ wk hv (by omega) (by have:=put_size z1 z2;omega)
 have HL2:Hid (∀(wk:World),Below W1.heap.size W1 wk→Calls Tryz.prog 77 #[.slice ta r.ts.length tc] wk fun e w'=>e=.returned (.string (Txt.ba (Fd.put r.ts ++ [13,10])))∧Below wk.heap.size wk w'):=
  Lib.hid fun wk hb=>lines_any ta _ tc _ wk (h3.below (HW.out wk hb)) (by have:=hs.tl;omega) (by have:=put_size hs.ts hs.tl;omega)
 have HRQ:=Lib.hid fun wk=>Rq.put_any r.m r.x wk (by have:=hs.m;omega) (by have:=hs.x;omega);have HCH:Hid (∀(wk:World) a,Lines wk a 1 [r.body]→Calls Tryz.prog 78 #[.slice a 1 1] wk fun e w'=>∃v,e=.returned v∧By.Rd w' v (Chk.putL [r.body])∧Below wk.heap.size wk w'):=
  Lib.hid fun wk a hv=>(Chk.put_any a 1 1 [r.body] wk hv (by unfold maxLen;omega) (by have:=chunk_size hs;omega)).mono (by rintro e w' ⟨A,c,h1,h2,h3⟩;exact ⟨_,h1,⟨A,c,rfl,h2⟩,h3⟩)
 have HRB:Hid (∀wk,Below W1.heap.size W1 wk→By.Rd wk (.slice ba r.body.length bc) r.body):=Lib.hid fun wk hb=>⟨ba,bc,rfl,h2.below (HW.out wk hb)⟩;have el:=Rq.lineOf_list r.m r.x;have hz0:(Rq.lineOf r.m r.x).size=(reqL r.m.data.toList r.x.data.toList).length:=by rw [←len,el];rfl
 obtain ⟨P,hP⟩:∃P,putR r=P:=⟨_,rfl⟩;have hX:((Rq.lineOf r.m r.x) ++⟨#[13,10]⟩:ByteArray).data.toList=reqL r.m.data.toList r.x.data.toList ++ [13,10]:=by
  have e9:((Rq.lineOf r.m r.x) ++⟨#[13,10]⟩:ByteArray).data.toList=(Rq.lineOf r.m r.x).data.toList ++ [13,10]:=by simp [ByteArray.data_append]
  rw [e9,el];rfl
 obtain ⟨W2,V2,hcv,hbuf2,hb2⟩:=conv_buf ((Rq.lineOf r.m r.x) ++⟨#[13,10]⟩) W1;rw [hX] at hbuf2;have hv1:¬9223372036854775807<(Rq.lineOf r.m r.x).size+2:=by
  rw [hz0];have:(reqL r.m.data.toList r.x.data.toList).length≤(putR r).length:=by unfold putR putV;simp only [List.length_append];omega
  omega
 have HP1:Hid (putR r=reqL r.m.data.toList r.x.data.toList ++ [13,10]++(Fd.put (fieldsR r) ++ [13,10])++(if r.ts≠ [] then Chk.putL [r.body]++(Fd.put r.ts ++ [13,10]) else r.body)):=Lib.hid (by unfold putR putV;rw [show fieldsV (Txt.ba r.m.data.toList) r.fs r.body r.ts=fieldsR r from rfl];simp only [List.append_assoc])
 have HZ:=Lib.hid hzt;have HBUF2:=Lib.hid hbuf2;have HB2:=Lib.hid hb2;rw [hW1] at hcv;rw [hP] at HP1 HZ ⊢;unfold fieldsR at HL1;clear hX el hz0 z1 z2 hzt hs hR h1 h2 h3 hb1 hW1 hP hbuf2 hb2;generalize reqL r.m.data.toList r.x.data.toList ++ [13,10]=L1 at *
 have HP2:Hid (P=L1++(Txt.ba (Fd.put (fieldsR r) ++ [13,10])).data.toList++(if r.ts≠ [] then Chk.putL [r.body]++(Txt.ba (Fd.put r.ts ++ [13,10])).data.toList else r.body)):=Lib.hid (by rw [HP1.out];simp [Txt.ba]);unfold fieldsR at HP2;clear HP1;generalize fieldsV r.m r.fs r.body r.ts=F at *;generalize Txt.ba (Fd.put F ++ [13,10])=S1 at *;generalize Txt.ba (Fd.put r.ts ++ [13,10])=S2 at *;generalize Rq.lineOf r.m r.x=LN at *;generalize Chk.putL [r.body]=C at *;by_cases ht:r.ts≠ []
 ·rw [decide_eq_true ht] at HC;rw [if_pos ht] at HP2;clear ht
  have HS:Hid (L1.length+S1.data.toList.length≤1000000000∧(L1++S1.data.toList).length+C.length≤1000000000∧(L1++S1.data.toList++C).length+S2.data.toList.length≤1000000000):=Lib.hid (by have:=HZ.out;rw [HP2.out] at this;simp only [List.length_append] at this ⊢;omega)
  clear HZ;go_enter Tryz.func22,Tryz.ntmps22;obtain ⟨p0,p1,p2,p3,p4,p5,p6⟩:=HQ.out _ HB2.out
  go_wp2_with (first
   |(at_builtin;(refine wp_append2 rfl _ _ 23 9 rfl _ _ rfl rfl _ _ hrun9 ?_))
   |(at_builtin;(refine wp_append2 rfl _ _ 23 23 rfl _ _ rfl rfl _ _ hrun7 ?_))
   |(at_builtin;(refine wp_append2 rfl _ _ 23 9 rfl _ _ rfl rfl _ _ hrun4 ?_))
   |(go_at_call 77;with_reducible refine (HL2.out _ HB7.out).mono ?_;rintro e w8 ⟨rfl,hb8⟩
     obtain ⟨v9,w9,hrun9,hbuf9,hb9⟩:=By.Buf.append (HBUF7.out.below hb8) 9 (By.str_src (w:=w8) S2) HS.out.2.2 (Nat.le_trans HB7.out.size hb8.size)
     have HB9:=Lib.hid ((Base.below_step HB7.out hb8).trans hb9);have HBUF9:=Lib.hid hbuf9;clear hbuf9 hb8 hb9)
   |(go_at_call 78;with_reducible refine (HCH.out _ _ (lines_one (HRB.out _ HB5.out) _)).mono ?_;rintro e w6 ⟨u6,rfl,hrd6,hb6⟩
     have hb56:=Base.below_step (HB5.out.alloc HB5.out.size _) hb6;obtain ⟨v7,w7,hrun7,hbuf7,hb7⟩:=By.Buf.append (HBUF5.out.below (Base.below_step ((Below.refl _ _).alloc (Nat.le_refl _) _) hb6)) 23 hrd6.src HS.out.2.1 hb56.size
     have HB7:=Lib.hid (hb56.trans hb7);have HBUF7:=Lib.hid hbuf7;obtain ⟨s0,s1,s2,s3,s4,s5,s6⟩:=HQ.out _ HB7.out;clear hbuf7 hb6 hb7 hb56 hrd6)
   |(go_at_call 27;with_reducible refine (HC.out _ HB4.out).mono ?_;rintro e w5 ⟨rfl,hb5⟩
     have HB5:=Lib.hid (Base.below_step HB4.out hb5)
     have HBUF5:=Lib.hid (HBUF4.out.below hb5);obtain ⟨r0,r1,r2,r3,r4,r5,r6⟩:=HQ.out _ HB5.out;clear hb5)
   |(go_at_call 77;with_reducible refine (HL1.out _ _ _ HF3.out).mono ?_;rintro e w3' ⟨rfl,hb3'⟩
     obtain ⟨v4,w4,hrun4,hbuf4,hb4⟩:=By.Buf.append (HBUF3.out.below hb3') 9 (By.str_src (w:=w3') S1) HS.out.1 (Nat.le_trans HB3.out.size hb3'.size)
     have HB4:=Lib.hid ((Base.below_step HB3.out hb3').trans hb4);have HBUF4:=Lib.hid hbuf4;obtain ⟨t0,t1,t2,t3,t4,t5,t6⟩:=HQ.out _ HB4.out;clear hbuf4 hb3' hb4)
   |(go_at_call 25;with_reducible refine (HF.out _ HB2.out).mono ?_;rintro e w3 ⟨a3,c3,rfl,hf3,hb3, -⟩
     have HB3:=Lib.hid (Base.below_step HB2.out hb3)
     have HBUF3:=Lib.hid (HBUF2.out.below hb3);have HF3:=Lib.hid hf3;clear hf3 hb3)
   |(go_at_call 76;with_reducible refine (HRQ.out _).mono ?_;rintro e w1' ⟨rfl,hw1⟩;rw [hw1];clear hw1))
  go_ret;refine ⟨_,rfl,?_,HW.out _ HB9.out⟩;have:=HBUF9.out.mono hle;rw [HP2.out,←List.append_assoc];exact this
 ·rw [decide_eq_false ht] at HC;rw [if_neg ht] at HP2;clear ht
  have HS:Hid (L1.length+S1.data.toList.length≤1000000000∧(L1++S1.data.toList).length+r.body.length≤1000000000):=Lib.hid (by have:=HZ.out;rw [HP2.out] at this;simp only [List.length_append] at this ⊢;omega)
  clear HZ HCH HL2;go_enter Tryz.func22,Tryz.ntmps22;obtain ⟨p0,p1,p2,p3,p4,p5,p6⟩:=HQ.out _ HB2.out
  go_wp2_with (first
   |(at_builtin;(refine wp_append2 rfl _ _ 23 23 rfl _ _ rfl rfl _ _ hrun7 ?_))
   |(at_builtin;(refine wp_append2 rfl _ _ 23 9 rfl _ _ rfl rfl _ _ hrun4 ?_))
   |(go_at_call 27;with_reducible refine (HC.out _ HB4.out).mono ?_;rintro e w5 ⟨rfl,hb5⟩
     have hb45:=Base.below_step HB4.out hb5;obtain ⟨r0,r1,r2,r3,r4,r5,r6⟩:=HQ.out _ hb45;obtain ⟨v7,w7,hrun7,hbuf7,hb7⟩:=By.Buf.append (HBUF4.out.below hb5) 23 (HRB.out _ hb45).src HS.out.2 hb45.size
     have HB7:=Lib.hid (hb45.trans hb7);have HBUF7:=Lib.hid hbuf7;clear hb5 hb45 hbuf7 hb7)
   |(go_at_call 77;with_reducible refine (HL1.out _ _ _ HF3.out).mono ?_;rintro e w3' ⟨rfl,hb3'⟩
     obtain ⟨v4,w4,hrun4,hbuf4,hb4⟩:=By.Buf.append (HBUF3.out.below hb3') 9 (By.str_src (w:=w3') S1) HS.out.1 (Nat.le_trans HB3.out.size hb3'.size)
     have HB4:=Lib.hid ((Base.below_step HB3.out hb3').trans hb4);have HBUF4:=Lib.hid hbuf4;obtain ⟨t0,t1,t2,t3,t4,t5,t6⟩:=HQ.out _ HB4.out;clear hbuf4 hb3' hb4)
   |(go_at_call 25;with_reducible refine (HF.out _ HB2.out).mono ?_;rintro e w3 ⟨a3,c3,rfl,hf3,hb3, -⟩
     have HB3:=Lib.hid (Base.below_step HB2.out hb3)
     have HBUF3:=Lib.hid (HBUF2.out.below hb3);have HF3:=Lib.hid hf3;clear hf3 hb3)
   |(go_at_call 76;with_reducible refine (HRQ.out _).mono ?_;rintro e w1' ⟨rfl,hw1⟩;rw [hw1];clear hw1))
  go_ret;refine ⟨_,rfl,?_,HW.out _ HB7.out⟩;have:=HBUF7.out.mono hle;rw [HP2.out];exact this
end code
end Go.Proofs.YtldhlecknfomjaaGreatDoor.Can
namespace Go.Proofs.YtldhlecknfomjaaGreatDoor.Rec
open Go.RowKit Base Txt
abbrev byteV (c:UInt8):Value:=.int .u8 (c.toNat:Int)
def vals (l:List UInt8):List Value:=l.map byteV
theorem vals_app (a b:List UInt8):vals (a++b)=vals a++vals b:=List.map_append
theorem vals_length (a:List UInt8):(vals a).length=a.length:=List.length_map _
theorem nums_of_own {w:World} {base:Nat} {v:Value} {n:Nat} {bs:List UInt8} {e:TypeId} (h:w.ownsRow base e 1 v n (vals bs)):∃A c,v=.slice A n c∧Nums .u8 w A n (Txt.nums bs):=by
 have hl:bs.length=n:=by simpa [vals_length] using h.1
 rcases h.2 with ⟨rfl,rfl⟩ | ⟨g,cap,cur,rfl,_,hh,_,hc,_,ht⟩
 ·obtain rfl:bs= []:=List.length_eq_zero_iff.1 hl;exact ⟨none,0,rfl,Nums.nil _ _ _⟩
 ·refine ⟨_,_,rfl,⟨by rw [Txt.nums,List.length_map];exact hl,fun _=>⟨g,0,rfl,?_,fun k hk=>?_⟩⟩⟩
  ·rcases Nat.lt_or_ge g w.heap.size with hlt | hge
   ·exact hlt
   ·rw [Array.getElem?_eq_none hge] at hh;cases hh
  ·rw [Nat.zero_add,cell_of_row w g k cur e (0,0) hh,Txt.nums_at bs k (by omega)];have h1:(vals bs)[k]?=some (byteV bs[k]):=by
    rw [vals,List.getElem?_map,List.getElem?_eq_getElem (by omega)];rfl
   rw [←ht,List.getElem?_take_of_lt (by omega)] at h1;simpa using h1
theorem own_slice {w:World} {B:Nat} {e:TypeId} {size:Nat} {v:Value} {n:Nat} {xs:List Value} (hv:w.ownsRow B e size v n xs):∃b cap,v=.slice b n cap:=by
 rcases hv.2 with ⟨rfl,rfl⟩ | ⟨b',cap',cur,rfl,hb,hg,hn,hc,hs,ht⟩
 ·exact ⟨none,0,rfl⟩
 ·exact ⟨_,cap',rfl⟩
theorem own_lt {w:World} {base:Nat} {e:TypeId} {size:Nat} {v:Value} {n:Nat} {xs:List Value} (h:w.ownsRow base e size v n xs) (g:Nat) (hg:v.ownBlock=some g):g<w.heap.size:=by
 rcases h.2 with ⟨rfl,_⟩ | ⟨g',cap,cur,rfl,hb,hh,_⟩
 ·simp [Value.ownBlock] at hg
 ·simp [Value.ownBlock] at hg;subst hg;rcases Nat.lt_or_ge g' w.heap.size with hlt | hge
  ·exact hlt
  ·rw [Array.getElem?_eq_none hge] at hh;cases hh
theorem put7 {w0 w:World} {B g:Nat} {zs:List Value} (hZ:Bk w g zs) (hl:zs.length=7) (hb:Below B w0 w) (hg:B≤g) (v0 v1 v2 v3 v4 v5 v6:Value) :
 ∃W,((((((w.setCell ⟨g,0,none⟩ v0).setCell ⟨g,1,none⟩ v1).setCell ⟨g,2,none⟩ v2).setCell ⟨g,3,none⟩ v3).setCell ⟨g,4,none⟩ v4).setCell ⟨g,5,none⟩ v5).setCell ⟨g,6,none⟩ v6=W∧Bk W g [v0,v1,v2,v3,v4,v5,v6]∧Below B w0 W∧W.heap.size=w.heap.size∧
  (∀(base:Nat) (e:TypeId) (size:Nat) (v:Value) (n:Nat) (xs:List Value),w.ownsRow base e size v n xs→v.ownBlock≠some g→W.ownsRow base e size v n xs)∧∀(g':Nat) (vs:List Value),¬g'=g→Bk w g' vs→Bk W g' vs:=by
 obtain ⟨z0,z1,z2,z3,z4,z5,z6,rfl⟩:∃z0 z1 z2 z3 z4 z5 z6,zs= [z0,z1,z2,z3,z4,z5,z6]:=by
  match zs,hl with
  | [a,b,c,d,e,f,g],_=>exact ⟨a,b,c,d,e,f,g,rfl⟩
 refine ⟨_,rfl,?_,((((((hb.setCell hg _).setCell hg _).setCell hg _).setCell hg _).setCell hg _).setCell hg _).setCell hg _,by simp,?_,?_⟩
 ·exact ((((((hZ.set 0 v0 (by simp)).set 1 v1 (by simp)).set 2 v2 (by simp)).set 3 v3 (by simp)).set 4 v4 (by simp)).set 5 v5 (by simp)).set 6 v6 (by simp)
 ·intro base e size v n xs h hne;exact ownsRow_setCell_other (ownsRow_setCell_other (ownsRow_setCell_other (ownsRow_setCell_other (ownsRow_setCell_other (ownsRow_setCell_other (ownsRow_setCell_other h hne _) hne _) hne _) hne _) hne _) hne _) hne _
 ·intro g' vs hne h;have hne':¬g=g':=fun e=>hne e.symm;exact ((((((h.other g 0 v0 hne').other g 1 v1 hne').other g 2 v2 hne').other g 3 v3 hne').other g 4 v4 hne').other g 5 v5 hne').other g 6 v6 hne'
structure Owns (w:World) (B:Nat) (fa:Option Addr) (fc:Nat) (ba:Option Addr) (bc:Nat) (ta:Option Addr) (tc:Nat) (r:R):Prop where
 f:w.ownsRow B 48 2 (.slice fa r.fs.length fc) r.fs.length (cells r.fs)
 b:w.ownsRow B 5 1 (.slice ba r.body.length bc) r.body.length (vals r.body)
 t:w.ownsRow B 48 2 (.slice ta r.ts.length tc) r.ts.length (cells r.ts)
 fb:∀g,(Value.slice fa r.fs.length fc).ownBlock=some g→(Value.slice ba r.body.length bc).ownBlock≠some g
 ft:∀g,(Value.slice fa r.fs.length fc).ownBlock=some g→(Value.slice ta r.ts.length tc).ownBlock≠some g
 bt:∀g,(Value.slice ba r.body.length bc).ownBlock=some g→(Value.slice ta r.ts.length tc).ownBlock≠some g
section code
set_option maxHeartbeats 1000000
end code
end Go.Proofs.YtldhlecknfomjaaGreatDoor.Rec
namespace Go.Proofs.YtldhlecknfomjaaGreatDoor.Mem
open Go.RowKit Base
def Lone (L:List (Option Nat)):Prop:=∀i j k:Nat,L[i]?=some (some k)→L[j]?=some (some k)→i=j
def In (w:World) (L:List (Option Nat)):Prop:=∀k,some k∈L→k<w.heap.size
def Of (w:World) (L L':List (Option Nat)):Prop:=∀k,some k∈L'→some k∈L∨w.heap.size≤k
structure Keeps (L:List (Option Nat)) (w w':World):Prop where
 os:w'.os=w.os
 tape:w'.tape=w.tape
 output:w'.output=w.output
 size:w.heap.size≤w'.heap.size
 block:∀k,k<w.heap.size→some k∉L→w'.heap[k]?=w.heap[k]?
section
variable {L L' L'':List (Option Nat)} {w w' w'':World} {B:Nat}
theorem Lone.ne (h:Lone L) {i j k:Nat} (hi:L[i]?=some (some k)) (hij:i≠j):L[j]?≠some (some k):=fun hj=>hij (h i j k hi hj)
theorem Lone.set (h:Lone L) (hin:In w L) (i:Nat) (o:Option Nat) (ho:o=none∨L[i]?=some o∨∃k,o=some k∧w.heap.size≤k):Lone (L.set i o):=by
 have key:∀a b k,a≠b→(L.set i o)[a]?=some (some k)→(L.set i o)[b]?=some (some k)→a=i→False:=by
  intro a b k hab ha hb hai;subst hai;rw [List.getElem?_set_ne hab] at hb;have hlt:a<L.length:=by
   rcases Nat.lt_or_ge a L.length with h | h
   ·exact h
   ·rw [List.getElem?_eq_none (by simpa using h)] at ha;cases ha
  rw [List.getElem?_set_self hlt] at ha;obtain rfl:o=some k:=Option.some.inj ha;rcases ho with ho | ho | ⟨k',ho,hk⟩
  ·cases ho
  ·exact hab (h a b k ho hb)
  ·obtain rfl:k=k':=Option.some.inj ho
   have:=hin k (List.mem_of_getElem? hb);omega
 intro a b k ha hb;by_cases hab:a=b
 ·exact hab
 ·by_cases hai:a=i
  ·exact (key a b k hab ha hb hai).elim
  ·by_cases hbi:b=i
   ·exact (key b a k (fun e=>hab e.symm) hb ha hbi).elim
   ·rw [List.getElem?_set_ne (fun e=>hai e.symm)] at ha;rw [List.getElem?_set_ne (fun e=>hbi e.symm)] at hb;exact h a b k ha hb
theorem Of.refl:Of w L L:=fun _ h=>.inl h
theorem Of.trans (h:Of w L L') (h':Of w' L' L'') (hs:w.heap.size≤w'.heap.size):Of w L L'':=fun k hk=>by
 rcases h' k hk with h1 | h1
 ·exact h k h1
 ·exact .inr (by omega)
theorem Of.set (i:Nat) (o:Option Nat) (ho:o=none∨L[i]?=some o∨∃k,o=some k∧w.heap.size≤k):Of w L (L.set i o):=fun k hk=>by
 rcases List.mem_or_eq_of_mem_set hk with h | h
 ·exact .inl h
 ·rcases ho with ho | ho | ⟨k',ho,hk⟩
  ·rw [ho] at h;cases h
  ·exact .inl (by rw [h];exact List.mem_of_getElem? ho)
  ·rw [ho] at h;cases h;exact .inr hk
theorem Keeps.refl:Keeps L w w:=⟨rfl,rfl,rfl,Nat.le_refl _,fun _ _ _=>rfl⟩
theorem Keeps.trans (h:Keeps L w w') (h':Keeps L' w' w'') (ho:Of w L L'):Keeps L w w'':=by
 refine ⟨h'.os.trans h.os,h'.tape.trans h.tape,h'.output.trans h.output,Nat.le_trans h.size h'.size,fun k hk hn=>?_⟩
 refine (h'.block k (Nat.lt_of_lt_of_le hk h.size) fun hm=>?_).trans (h.block k hk hn);rcases ho k hm with h1 | h1
 ·exact hn h1
 ·omega
theorem Keeps.mono (h:Keeps L w w') (hs:∀k,some k∈L→some k∈L'):Keeps L' w w':=⟨h.os,h.tape,h.output,h.size,fun k hk hn=>h.block k hk fun hm=>hn (hs k hm)⟩
theorem Keeps.below (h:Keeps L w w') (hB:B≤w.heap.size) (hL:∀k,some k∈L→B≤k):Below B w w':=
 ⟨h.os,h.tape,h.output,h.size,fun k hk=>h.block k (by omega) fun hm=>by have:=hL k hm;omega⟩
theorem Keeps.of_below (h:Below w.heap.size w w'):Keeps L w w':=⟨h.os,h.tape,h.output,h.size,fun k hk _=>h.block k hk⟩
theorem Keeps.set (g k:Nat) (v:Value) (hg:some g∈L):Keeps L w (w.setCell ⟨g,k,none⟩ v):=
 ⟨rfl,rfl,rfl,by simp,fun j _ hn=>Below.heap_setCell _ _ _ _ (fun e=>hn (by rw [e];exact hg))⟩
theorem Keeps.grown {o:Option Nat} (h:w.grownBy w' o) (ho:∀k,o=some k→some k∈L):Keeps L w w':=
 ⟨h.os,h.tape,h.output,h.size,fun k hk hn=>h.block k hk fun e=>hn (ho k e.symm)⟩
theorem Keeps.of_kept {g:Nat} {o:Option Nat} (h:Ln.Kept g o w w') (hg:some g∈L) (ho:∀k,o=some k→some k∈L):Keeps L w w':=
 ⟨h.os,h.tape,h.output,h.size,fun k hk hn=>h.block k hk (fun e=>hn (by rw [e];exact hg)) fun e=>hn (ho k e.symm)⟩
theorem Keeps.cell (h:Keeps L w w') {p:Addr} (hp:p.block<w.heap.size) (hn:some p.block∉L):w'.cell? p=w.cell? p:=by unfold World.cell?;rw [h.block _ hp hn]
theorem Keeps.row (h:Keeps L w w') {j:Nat} {cs:Array Value} {ty:TypeId} (hr:w.heap[j]?=some (.cells cs ty (0,0))) (hn:some j∉L):w'.heap[j]?=some (.cells cs ty (0,0)):=(h.block j (Ln.row_lt hr) hn).trans hr
theorem Keeps.own (h:Keeps L w w') {e:TypeId} {size:Nat} {v:Value} {n:Nat} {xs:List Value} (hv:w.ownsRow B e size v n xs) (hn:∀k,v.ownBlock=some k→some k∉L):w'.ownsRow B e size v n xs:=by
 refine ⟨hv.1,?_⟩;rcases hv.2 with h0 | ⟨b,cap,cur,rfl,hb,hgg,rest⟩
 ·exact .inl h0
 ·refine .inr ⟨b,cap,cur,rfl,hb,?_,rest⟩;rw [h.block b (Ln.row_lt hgg) (hn b (by simp [Value.ownBlock]))];exact hgg
end
structure Zone where
 b:Nat
 z:List (Option Nat)
instance:CoeOut Zone Nat:=⟨Zone.b⟩
structure Clear (w:World) (Z L:List (Option Nat)):Prop where
 inz:∀k,some k∈Z→k<w.heap.size
 off:∀k,some k∈L→some k∉Z
theorem Clear.of {w w':World} {Z L L':List (Option Nat)} (h:Clear w Z L) (hs:w.heap.size≤w'.heap.size) (ho:Of w L L'):Clear w' Z L':=
 ⟨fun k hk=>Nat.lt_of_lt_of_le (h.inz k hk) hs,fun k hk hz=>by
   rcases ho k hk with e | e
   ·exact h.off k e hz
   ·have:=h.inz k hz;omega⟩
theorem Clear.nil {w:World} {L:List (Option Nat)}:Clear w [] L:=⟨(fun k hk=>by cases hk),(fun k _ hz=>by cases hz)⟩
def slot:Value→Option Nat
 | .slice (some a) _ _=>some a.block
 | _=>none
def blocks:Value→List (Option Nat)
 | .agg cs=>cs.toList.map slot
 | _=> []
structure Far (L Z:List (Option Nat)) (w:World) (V:Value) (r:Rec.R):Prop where
 reads:Rec.Reads w V r
 far:∀k,some k∈blocks V→some k∉L∧k<w.heap.size
 off:∀k,some k∈blocks V→some k∉Z
section
variable {L L' Z:List (Option Nat)} {w w':World} {V:Value} {r:Rec.R}
theorem flds_keeps {a:Option Addr} {n:Nat} {fs:List Txt.Fld} (h:Txt.Flds w a n fs) (hk:Keeps L w w') (hn:∀c,slot (.slice a n c)=none∨∃k,slot (.slice a n c)=some k∧some k∉L):Txt.Flds w' a n fs:=by
 refine ⟨h.1,fun h0=>?_⟩;obtain ⟨b,off,rfl,hlt,hc⟩:=h.2 h0;have hb:some b∉L:=by
  rcases hn 0 with e | ⟨k,e,hk⟩
  ·cases e
  ·cases e;exact hk
 exact ⟨b,off,rfl,Nat.lt_of_lt_of_le hlt hk.size,fun k hkn=>⟨(hk.cell (p:=⟨b,off+k*2,none⟩) hlt hb).trans (hc k hkn).1,(hk.cell (p:=⟨b,off+k*2+1,none⟩) hlt hb).trans (hc k hkn).2⟩⟩
theorem nums_keeps {a:Option Addr} {n:Nat} {kd:IntKind} {zs:List Int} (h:Nums kd w a n zs) (hk:Keeps L w w') (hn:∀c,slot (.slice a n c)=none∨∃k,slot (.slice a n c)=some k∧some k∉L):Nums kd w' a n zs:=by
 refine ⟨h.1,fun h0=>?_⟩;obtain ⟨b,off,rfl,hlt,hc⟩:=h.2 h0;have hb:some b∉L:=by
  rcases hn 0 with e | ⟨k,e,hk⟩
  ·cases e
  ·cases e;exact hk
 exact ⟨b,off,rfl,Nat.lt_of_lt_of_le hlt hk.size,fun k hkn=>(hk.cell (p:=⟨b,off+k,none⟩) hlt hb).trans (hc k hkn)⟩
theorem Far.keeps (h:Far L Z w V r) (hk:Keeps L w w'):Far L Z w' V r:=by
 refine ⟨?_,fun k hb=>⟨(h.far k hb).1,Nat.lt_of_lt_of_le (h.far k hb).2 hk.size⟩,h.off⟩;obtain ⟨fa,fc,ba,bc,ta,tc,rfl,h1,h2,h3⟩:=h.reads;have hf:=h.far;simp only [blocks,List.map_cons,List.map_nil,List.mem_cons,List.not_mem_nil,or_false] at hf;have key:∀(a:Option Addr) (n c:Nat),(∀k,some k=slot (.slice a n c)→some k∉L∧k<w.heap.size)→∀c',slot (.slice a n c')=none∨∃k,slot (.slice a n c')=some k∧some k∉L:=by
  intro a n c h c';cases a with
  | none=>exact .inl rfl
  | some a=>exact .inr ⟨a.block,rfl,(h a.block rfl).1⟩
 refine ⟨fa,fc,ba,bc,ta,tc,rfl,flds_keeps h1 hk (key _ _ fc fun k e=>hf k ?_),nums_keeps h2 hk (key _ _ bc fun k e=>hf k ?_),flds_keeps h3 hk (key _ _ tc fun k e=>hf k ?_)⟩
 ·rw [e];simp
 ·rw [e];simp
 ·rw [e];simp
theorem Far.of (h:Far L Z w V r) (ho:∀k,some k∈L'→some k∈L∨w.heap.size≤k):Far L' Z w V r:=
 ⟨h.reads,fun k hb=>⟨fun hm=>by
   have:=h.far k hb;rcases ho k hm with h1 | h1
   ·exact this.1 h1
   ·omega,(h.far k hb).2⟩,h.off⟩
end
end Go.Proofs.YtldhlecknfomjaaGreatDoor.Mem
namespace Go.Proofs.YtldhlecknfomjaaGreatDoor.Par
open Go.RowKit Base Txt Mem
theorem row_cellL {w:World} {g k:Nat} {l:List Value} {ty:TypeId} (h:w.heap[g]?=some (.cells l.toArray ty (0,0))) {v:Value} (hk:l[k]?=some v):w.cell? ⟨g,k,none⟩=some v:=Ln.row_cell h (by rw [List.getElem?_toArray];exact hk)
theorem row_setL {w:World} {g:Nat} {l:List Value} {ty:TypeId} (h:w.heap[g]?=some (.cells l.toArray ty (0,0))) (k:Nat) (v:Value):(w.setCell ⟨g,k,none⟩ v).heap[g]?=some (.cells (l.set k v).toArray ty (0,0)):=by rw [←List.setIfInBounds_toArray];exact Ln.row_set h k v
abbrev ptr (g:Nat):Value:=.pointer (some ⟨g,0,none⟩)
abbrev pcells (p:Nat) (b:Bd) (s:S) (q:Nat) (f bd t o:Value):List Value:=
 [.int .u32 (p:Int),.int .i64 b.x0,.int .i64 b.x1,.int .i64 b.x2,.int .i64 b.x3,.int .i64 b.x4,.int .i64 b.x5,.int .i64 b.x6,.int .i64 b.x7,.bool b.ch,.bool b.od,.int .i64 (s.st:Int),ptr q,
   .string s.r.m,.string s.r.x,.int .i64 s.r.k,f,.bool s.r.ch,bd,t,.int .i64 (s.lines:Int),.int .i64 (s.head:Int),.int .i64 (s.left:Int),.bool s.fresh,.bool s.clean,.int .i64 (s.e:Int),o]
abbrev blks (g q:Nat) (v f bd t o:Value):List (Option Nat):= [some g,some q,v.ownBlock,f.ownBlock,bd.ownBlock,t.ownBlock,o.ownBlock]
def Outs (L:List (Option Nat)) (B:Zone) (w:World) (o:Value) (out:List Rec.R):Prop:=
 ∃ps:List (Array Value × Rec.R),ps.map (·.2)=out∧(∀x∈ps,x.1.size=7∧Far L B.z w (.agg x.1) x.2)∧w.ownsRow B 25 7 o out.length (ps.flatMap (·.1.toList))
structure Own (w:World) (B:Zone) (g q:Nat) (v f bd t o:Value) (p:Nat) (rd:Ln.R) (fs:List Fld) (body:List UInt8) (ts:List Fld) (out:List Rec.R):Prop where
 R:Ln.Rr w B q v p rd
 F:w.ownsRow B 48 2 f fs.length (cells fs)
 D:w.ownsRow B 5 1 bd body.length (Rec.vals body)
 T:w.ownsRow B 48 2 t ts.length (cells ts)
 O:Outs (blks g q v f bd t o) B w o out
 lone:Lone (blks g q v f bd t o)
 ge:B≤g
 lt:g<w.heap.size
 zone:Clear w B.z (blks g q v f bd t o)
structure PR (w:World) (B:Zone) (g q:Nat) (v f bd t o:Value) (p:Nat) (b:Bd) (s:S):Prop where
 row:w.heap[g]?=some (.cells (pcells p b s q f bd t o).toArray 78 (0,0))
 own:Own w B g q v f bd t o p s.rd s.r.fs s.r.body s.r.ts s.out
section
variable {w w':World} {B:Zone} {g q:Nat} {v f bd t o:Value} {p:Nat} {b:Bd} {s:S} {rd:Ln.R} {fs ts:List Fld} {body:List UInt8} {out:List Rec.R} {L:List (Option Nat)}
theorem Outs.keeps (h:Outs L B w o out) {L2:List (Option Nat)} (hk:Keeps L2 w w') (hs:∀k,some k∈L2→some k∈L) (ho:∀k,o.ownBlock=some k→some k∉L2):Outs L B w' o out:=by obtain ⟨ps,h1,h2,h3⟩:=h;exact ⟨ps,h1,fun x hx=>⟨(h2 x hx).1,(h2 x hx).2.keeps (hk.mono hs)⟩,hk.own h3 ho⟩
theorem slot_own {w:World} {B:Zone} {e:TypeId} {size:Nat} {v:Value} {n:Nat} {xs:List Value} (h:w.ownsRow B e size v n xs):slot v=v.ownBlock:=by rcases h.2 with ⟨rfl,_⟩ | ⟨g,cap,cur,rfl,_⟩<;>rfl
structure Step (L L':List (Option Nat)) (w w':World):Prop where
 keeps:Keeps L w w'
 of:Of w L L'
theorem Step.refl:Step L L w w:=⟨Keeps.refl,Of.refl⟩
theorem Step.trans {L' L'':List (Option Nat)} {w'':World} (h:Step L L' w w') (h':Step L' L'' w' w''):Step L L'' w w'':=⟨h.keeps.trans h'.keeps h.of,h.of.trans h'.of h.keeps.size⟩
theorem Step.set (g k:Nat) (u:Value) (hg:some g∈L):Step L L w (w.setCell ⟨g,k,none⟩ u):=⟨Keeps.set g k u hg,Of.refl⟩
theorem Step.of_below (hb:Below w.heap.size w w'):Step L L w w':=⟨Keeps.of_below hb,Of.refl⟩
theorem Step.line (hb:Below w.heap.size w w') {q1:Nat} (hq:w.heap.size≤q1):Step (blks g q v f bd t o) (blks g q1 (.slice none 0 0) f bd t o) w w':=⟨Keeps.of_below hb,by
 have e:blks g q1 (.slice none 0 0) f bd t o=((blks g q v f bd t o).set 1 (some q1)).set 2 none:=rfl;rw [e]
 exact (Of.set 1 (some q1) (.inr (.inr ⟨q1,rfl,hq⟩))).trans (Of.set 2 none (.inl rfl)) (Nat.le_refl _)⟩
theorem Step.push {o':Value} (hg:w.grownBy w' o.ownBlock) (hor:o'.ownBlock=o.ownBlock∨o'.ownBlock=some w.heap.size):Step (blks g q v f bd t o) (blks g q v (.slice none 0 0) (.slice none 0 0) (.slice none 0 0) o') w w':=⟨Keeps.grown hg fun k e=>by simp [e],fun k hk=>by
 replace hk:some k∈ [some g,some q,v.ownBlock,none,none,none,o'.ownBlock]:=hk
 simp only [List.mem_cons,List.not_mem_nil,or_false,reduceCtorEq,false_or] at hk;rcases hk with hk | hk | hk | hk
 ·exact .inl (by simp [hk])
 ·exact .inl (by simp [hk])
 ·exact .inl (by simp [hk])
 ·rcases hor with e | e
  ·rw [e] at hk;exact .inl (by simp [hk])
  ·rw [e] at hk;cases hk;exact .inr (Nat.le_refl _)⟩
theorem one_own {e:TypeId} {size:Nat} {u:Value} {n:Nat} {xs:List Value} (h:w.ownsRow B e size u n xs):u.oneCell'=true:=by rcases h.2 with ⟨rfl,_⟩ | ⟨g,cap,cur,rfl,_⟩<;>rfl
def Par (w:World) (B:Zone) (g:Nat) (p:Nat) (b:Bd) (s:S) (L:List (Option Nat)):Prop:=∃q v f bd t o,L=blks g q v f bd t o∧PR w B g q v f bd t o p b s
end
end Go.Proofs.YtldhlecknfomjaaGreatDoor.Par
namespace Go.Proofs.YtldhlecknfomjaaGreatDoor.Pg
open Go.RowKit Base Txt Mem Par
abbrev pgcells (p:Nat) (b:Bd) (s:T) (q:Nat) (f bd t o:Value):List Value:=
 [.int .i64 0,.int .i64 (s.hl:Int),f,.string s.r.m,.string s.r.x,.int .i64 s.r.k,.int .i64 (s.size:Int),.bool s.cnt,.int .i64 (s.bl:Int),t,.bool s.r.ch,bd,.int .i64 (s.left:Int),
   .int .u32 (p:Int),.int .i64 b.x0,.int .i64 b.x1,.int .i64 b.x2,.int .i64 b.x3,.int .i64 b.x4,.int .i64 b.x5,.int .i64 b.x6,.int .i64 b.x7,.bool b.ch,.bool b.od,.int .i64 (s.st:Int),ptr q,o]
structure Own (w:World) (B:Zone) (g q:Nat) (v f bd t o:Value) (rd:Ln.M) (fs:List Fld) (body:List UInt8) (ts:List Fld) (out:List Rec.R):Prop where
 R:Ln.Rd w B q v rd
 F:w.ownsRow B 48 2 f fs.length (cells fs)
 D:w.ownsRow B 5 1 bd body.length (Rec.vals body)
 TR:w.ownsRow B 48 2 t ts.length (cells ts)
 O:Outs (blks g q v f bd t o) B w o out
 lone:Lone (blks g q v f bd t o)
 ge:B≤g
 lt:g<w.heap.size
 zone:Clear w B.z (blks g q v f bd t o)
structure PR (w:World) (B:Zone) (g q:Nat) (v f bd t o:Value) (p:Nat) (b:Bd) (s:T):Prop where
 row:w.heap[g]?=some (.cells (pgcells p b s q f bd t o).toArray 75 (0,0))
 own:Own w B g q v f bd t o s.rd s.r.fs s.r.body s.r.ts s.out
section
variable {w w':World} {B:Zone} {g q:Nat} {v f bd t o:Value} {p:Nat} {b:Bd} {s:T} {rd:Ln.M} {fs ts:List Fld} {body:List UInt8} {out:List Rec.R} {L:List (Option Nat)}
theorem Own.in (h:Own w B g q v f bd t o rd fs body ts out):In w (blks g q v f bd t o):=by
 intro k hk;simp only [List.mem_cons,List.not_mem_nil,or_false,Option.some.injEq] at hk;obtain ⟨ps,h1,h2,h3⟩:=h.O;rcases hk with rfl | rfl | hk | hk | hk | hk | hk
 ·exact h.lt
 ·exact Ln.row_lt h.R.row
 ·exact (World.ownsRow.lt h.R.own k hk.symm).2
 ·exact (World.ownsRow.lt h.F k hk.symm).2
 ·exact (World.ownsRow.lt h.D k hk.symm).2
 ·exact (World.ownsRow.lt h.TR k hk.symm).2
 ·exact (World.ownsRow.lt h3 k hk.symm).2
theorem Own.low (h:Own w B g q v f bd t o rd fs body ts out):∀k,some k∈blks g q v f bd t o→B≤k:=by
 intro k hk;simp only [List.mem_cons,List.not_mem_nil,or_false,Option.some.injEq] at hk;obtain ⟨ps,h1,h2,h3⟩:=h.O;rcases hk with rfl | rfl | hk | hk | hk | hk | hk
 ·exact h.ge
 ·exact h.R.ge
 ·exact (World.ownsRow.lt h.R.own k hk.symm).1
 ·exact (World.ownsRow.lt h.F k hk.symm).1
 ·exact (World.ownsRow.lt h.D k hk.symm).1
 ·exact (World.ownsRow.lt h.TR k hk.symm).1
 ·exact (World.ownsRow.lt h3 k hk.symm).1
theorem Own.set (h:Own w B g q v f bd t o rd fs body ts out) (k:Nat) (u:Value):Own (w.setCell ⟨g,k,none⟩ u) B g q v f bd t o rd fs body ts out:=by
 have hk:Keeps [some g] w (w.setCell ⟨g,k,none⟩ u):=Keeps.set g k u (by simp);have hn:∀i j,i≠0→(blks g q v f bd t o)[i]?=some (some j)→some j∉ [some g]:=fun i j hi hj hm=>by
  have e:j=g:=by simpa using hm
  rw [e] at hj
  exact hi (h.lone i 0 g hj rfl)
 exact ⟨⟨hk.row h.R.row (hn 1 q (by decide) rfl),hk.own h.R.own fun j e=>hn 2 j (by decide) (by rw [←e];rfl),h.R.ge,h.R.ne⟩,
  hk.own h.F fun j e=>hn 3 j (by decide) (by rw [←e];rfl),hk.own h.D fun j e=>hn 4 j (by decide) (by rw [←e];rfl),hk.own h.TR fun j e=>hn 5 j (by decide) (by rw [←e];rfl),
  h.O.keeps hk (fun j hj=>by obtain rfl:j=g:=by simpa using hj
                             simp) fun j e=>hn 6 j (by decide) (by rw [←e];rfl),
  h.lone,h.ge,by simpa using h.lt,h.zone.of hk.size Of.refl⟩
theorem Own.below (h:Own w B g q v f bd t o rd fs body ts out) (hb:Below w.heap.size w w'):Own w' B g q v f bd t o rd fs body ts out:=by have hk:Keeps [] w w':=Keeps.of_below hb;refine ⟨⟨hk.row h.R.row (by simp),hk.own h.R.own (by simp),h.R.ge,h.R.ne⟩,hk.own h.F (by simp),hk.own h.D (by simp),hk.own h.TR (by simp),h.O.keeps hk (by simp) (by simp),h.lone,h.ge,Nat.lt_of_lt_of_le h.lt hb.size,h.zone.of hb.size Of.refl⟩
theorem PR.below (h:PR w B g q v f bd t o p b s) (hb:Below w.heap.size w w'):PR w' B g q v f bd t o p b s:=
 ⟨(hb.block g h.own.lt).trans h.row,h.own.below hb⟩
theorem PR.drew (h:PR w B g q v f bd t o p b s) (n:Nat):PR (w.drewN n) B g q v f bd t o p b s:=h.below (Base.below_drewN (Below.refl _ _) n)
theorem PR.put (h:PR w B g q v f bd t o p b s) (k:Nat) (u:Value) (s':T) (hc:(pgcells p b s q f bd t o).set k u=pgcells p b s' q f bd t o) (hd:s'.rd=s.rd) (h1:s'.r.fs=s.r.fs) (h2:s'.r.body=s.r.body) (h3:s'.r.ts=s.r.ts) (h4:s'.out=s.out) :
 PR (w.setCell ⟨g,k,none⟩ u) B g q v f bd t o p b s':=by
 refine ⟨?_,?_⟩
 ·rw [←hc,←List.setIfInBounds_toArray];exact Ln.row_set h.row k u
 ·rw [hd,h1,h2,h3,h4];exact h.own.set k u
theorem Own.zero (h:Own w B g q v f bd t o rd fs body ts out):Own w B g q v (.slice none 0 0) (.slice none 0 0) (.slice none 0 0) o rd [] [] [] out:=by
 have hsub:∀k,some k∈blks g q v (.slice none 0 0) (.slice none 0 0) (.slice none 0 0) o→some k∈blks g q v f bd t o:=by
  intro k hk;simp only [List.mem_cons,List.not_mem_nil,or_false,Value.ownBlock,reduceCtorEq,false_or] at hk ⊢;rcases hk with hk | hk | hk | hk
  ·exact .inl hk
  ·exact .inr (.inl hk)
  ·exact .inr (.inr (.inl hk))
  ·exact .inr (.inr (.inr (.inr (.inr (.inr hk)))))
 obtain ⟨ps,h1,h2,h3⟩:=h.O;refine ⟨h.R,World.ownsRow_nil _ _ _ _,World.ownsRow_nil _ _ _ _,World.ownsRow_nil _ _ _ _,⟨ps,h1,fun x hx=>⟨(h2 x hx).1,(h2 x hx).2.of fun k hk=>.inl (hsub k hk)⟩,h3⟩,?_,h.ge,h.lt,h.zone.of (Nat.le_refl _) fun k hk=>.inl (hsub k hk)⟩;have e:blks g q v (.slice none 0 0) (.slice none 0 0) (.slice none 0 0) o=(((blks g q v f bd t o).set 3 none).set 4 none).set 5 none:=rfl;rw [e]
 exact ((h.lone.set h.in 3 none (.inl rfl)).set (fun k hk=>h.in k (by
  rcases List.mem_or_eq_of_mem_set hk with hk | hk
  ·exact hk
  ·cases hk)) 4 none (.inl rfl)).set (fun k hk=>h.in k (by
  rcases List.mem_or_eq_of_mem_set hk with hk | hk
  ·rcases List.mem_or_eq_of_mem_set hk with hk | hk
   ·exact hk
   ·cases hk
  ·cases hk)) 5 none (.inl rfl)
theorem Own.line (h:Own w B g q v f bd t o rd fs body ts out) (hb:Below w.heap.size w w') {q1:Nat} {rd1:Ln.M} (hr:Ln.Rd w' B q1 (.slice none 0 0) rd1) (hq:w.heap.size≤q1):Own w' B g q1 (.slice none 0 0) f bd t o rd1 fs body ts out:=by
 have e:blks g q1 (.slice none 0 0) f bd t o=((blks g q v f bd t o).set 1 (some q1)).set 2 none:=rfl;have hof:Of w (blks g q v f bd t o) (blks g q1 (.slice none 0 0) f bd t o):=by
  rw [e]
  exact (Of.set 1 (some q1) (.inr (.inr ⟨q1,rfl,hq⟩))).trans (Of.set 2 none (.inl rfl)) (Nat.le_refl _)
 have hw:=h.below hb;obtain ⟨ps,h1,h2,h3⟩:=h.O;have hk:Keeps (blks g q1 (.slice none 0 0) f bd t o) w w':=Keeps.of_below hb;refine ⟨hr,hw.F,hw.D,hw.TR,⟨ps,h1,fun x hx=>⟨(h2 x hx).1,((h2 x hx).2.of hof).keeps hk⟩,by obtain ⟨ps',h1',h2',h3'⟩:=hw.O;exact (Keeps.of_below hb:Keeps [] w w').own h3 (by simp)⟩,?_,h.ge,hw.lt,h.zone.of hb.size hof⟩;rw [e];intro i j k hi hj
 have hL:=h.lone.set h.in 1 (some q1) (.inr (.inr ⟨q1,rfl,hq⟩));have hi':((blks g q v f bd t o).set 1 (some q1))[i]?=some (some k):=by
  by_cases e2:2=i
  ·subst e2;simp at hi
  ·rwa [List.getElem?_set_ne e2] at hi
 have hj':((blks g q v f bd t o).set 1 (some q1))[j]?=some (some k):=by
  by_cases e2:2=j
  ·subst e2;simp at hj
  ·rwa [List.getElem?_set_ne e2] at hj
 exact hL i j k hi' hj'
theorem Own.push {r:Rec.R} (h:Own w B g q v f bd t o rd r.fs r.body r.ts out) (hg:w.grownBy w' o.ownBlock) {o':Value} (ps:List (Array Value × Rec.R)) (hps:ps.map (·.2)=out) (hfar:∀x∈ps,x.1.size=7∧Far (blks g q v f bd t o) B.z w (.agg x.1) x.2)
 (ho:w'.ownsRow B 25 7 o' (out.length+1) (ps.flatMap (·.1.toList) ++ [.string r.m,.string r.x,.int .i64 r.k,f,.bool r.ch,bd,t])) (hor:o'.ownBlock=o.ownBlock∨o'.ownBlock=some w.heap.size) :
 Own w' B g q v (.slice none 0 0) (.slice none 0 0) (.slice none 0 0) o' rd [] [] [] (out ++ [r]):=by
 have hk:Keeps [o.ownBlock] w w':=Keeps.grown hg fun k e=>by simp [e]
 have hn:∀i j,i≠6→(blks g q v f bd t o)[i]?=some (some j)→some j∉ [o.ownBlock]:=fun i j hi hj hm=>by
  have e:some j=o.ownBlock:=by simpa using hm
  exact hi (h.lone i 6 j hj (by rw [e];rfl))
 have hin:=h.in
 have F':=hk.own h.F fun j e=>hn 3 j (by decide) (by rw [←e];rfl)
 have D':=hk.own h.D fun j e=>hn 4 j (by decide) (by rw [←e];rfl)
 have T':=hk.own h.TR fun j e=>hn 5 j (by decide) (by rw [←e];rfl);have hsub:∀k,some k∈blks g q v (.slice none 0 0) (.slice none 0 0) (.slice none 0 0) o'→(some k=some g∨some k=some q∨some k=v.ownBlock∨some k=o.ownBlock)∨w.heap.size≤k:=by
  intro k hk
  replace hk:some k∈ [some g,some q,v.ownBlock,none,none,none,o'.ownBlock]:=hk
  simp only [List.mem_cons,List.not_mem_nil,or_false,reduceCtorEq,false_or] at hk;rcases hk with hk | hk | hk | hk
  ·exact .inl (.inl hk)
  ·exact .inl (.inr (.inl hk))
  ·exact .inl (.inr (.inr (.inl hk)))
  ·rcases hor with e | e
   ·exact .inl (.inr (.inr (.inr (by rw [←e];exact hk))))
   ·rw [e] at hk;cases hk;exact .inr (Nat.le_refl _)
 have hof:∀k,some k∈blks g q v (.slice none 0 0) (.slice none 0 0) (.slice none 0 0) o'→some k∈blks g q v f bd t o∨w.heap.size≤k:=fun k hk=>by
  rcases hsub k hk with (e | e | e | e) | e
  ·exact .inl (by simp [e])
  ·exact .inl (by simp [e])
  ·exact .inl (by simp [e])
  ·exact .inl (by simp [e])
  ·exact .inr e
 have hkL2:Keeps (blks g q v f bd t o) w w':=hk.mono fun k hk=>by
  have e:some k=o.ownBlock:=by simpa using hk
  simp [e]
 refine ⟨⟨hk.row h.R.row (hn 1 q (by decide) rfl),hk.own h.R.own fun j e=>hn 2 j (by decide) (by rw [←e];rfl),h.R.ge,h.R.ne⟩,World.ownsRow_nil _ _ _ _,World.ownsRow_nil _ _ _ _,World.ownsRow_nil _ _ _ _,
  ⟨ps ++ [(#[.string r.m,.string r.x,.int .i64 r.k,f,.bool r.ch,bd,t],r)],by rw [List.map_append,hps];rfl,fun x hx=>?_,by rw [List.length_append,List.flatMap_append];simpa using ho⟩,?_,h.ge,Nat.lt_of_lt_of_le h.lt hk.size,h.zone.of hk.size hof⟩
 ·rcases List.mem_append.1 hx with hx | hx
  ·exact ⟨(hfar x hx).1,by
    have h2:=((hfar x hx).2.keeps hkL2)
    exact ⟨h2.reads,fun k hb=>⟨fun hm=>by
     rcases hof k hm with e | e
     ·exact (h2.far k hb).1 e
     ·exact absurd ((hfar x hx).2.far k hb).2 (by omega),(h2.far k hb).2⟩,h2.off⟩⟩
  ·obtain rfl:x= _:=by simpa using hx
   refine ⟨rfl,?_,fun k hb=>?_,fun k hb=>?_⟩
   ·obtain ⟨A1,c1,e1,h1⟩:=Flds.of_own F';obtain ⟨A2,c2,e2,h2⟩:=Rec.nums_of_own D';obtain ⟨A3,c3,e3,h3⟩:=Flds.of_own T';subst e1 e2 e3;exact ⟨_,_,_,_,_,_,rfl,h1,h2,h3⟩
   ·have e1:=slot_own h.F;have e2:=slot_own h.D;have e3:=slot_own h.TR
    replace hb:some k∈ [none,none,none,slot f,none,slot bd,slot t]:=hb
    simp only [List.mem_cons,List.not_mem_nil,or_false,reduceCtorEq,false_or] at hb;have key:∀i,i≠0→i≠1→i≠2→i≠6→(blks g q v f bd t o)[i]?=some (some k)→some k∉blks g q v (.slice none 0 0) (.slice none 0 0) (.slice none 0 0) o'∧k<w'.heap.size:=by
     intro i i0 i1 i2 i6 hi
     have hlt:=hin k (List.mem_of_getElem? hi);refine ⟨fun hm=>?_,Nat.lt_of_lt_of_le hlt hk.size⟩;rcases hsub k hm with (e | e | e | e) | e
     ·exact i0 (h.lone i 0 k hi (by rw [e];rfl))
     ·exact i1 (h.lone i 1 k hi (by rw [e];rfl))
     ·exact i2 (h.lone i 2 k hi (by rw [e];rfl))
     ·exact i6 (h.lone i 6 k hi (by rw [e];rfl))
     ·omega
    rcases hb with hb | hb | hb
    ·exact key 3 (by decide) (by decide) (by decide) (by decide) (by rw [hb,e1];rfl)
    ·exact key 4 (by decide) (by decide) (by decide) (by decide) (by rw [hb,e2];rfl)
    ·exact key 5 (by decide) (by decide) (by decide) (by decide) (by rw [hb,e3];rfl)
   ·have e1:=slot_own h.F;have e2:=slot_own h.D;have e3:=slot_own h.TR
    replace hb:some k∈ [none,none,none,slot f,none,slot bd,slot t]:=hb
    simp only [List.mem_cons,List.not_mem_nil,or_false,reduceCtorEq,false_or] at hb;rcases hb with hb | hb | hb
    ·exact h.zone.off k (List.mem_of_getElem? (i:=3) (by rw [hb,e1];rfl))
    ·exact h.zone.off k (List.mem_of_getElem? (i:=4) (by rw [hb,e2];rfl))
    ·exact h.zone.off k (List.mem_of_getElem? (i:=5) (by rw [hb,e3];rfl))
 ·have hz:=h.zero;have e:blks g q v (.slice none 0 0) (.slice none 0 0) (.slice none 0 0) o'=(blks g q v (.slice none 0 0) (.slice none 0 0) (.slice none 0 0) o).set 6 o'.ownBlock:=rfl;rw [e];refine hz.lone.set hz.in 6 _ ?_;rcases hor with e | e
  ·exact .inr (.inl (by rw [e];rfl))
  ·exact .inr (.inr ⟨_,e,Nat.le_refl _⟩)
theorem Own.setF (h:Own w B g q v f bd t o rd fs body ts out) {f':Value} {fs':List Fld} (hk:Keeps [f.ownBlock] w w') (hr:w'.ownsRow B 48 2 f' fs'.length (cells fs')) (hor:f'.ownBlock=f.ownBlock∨∃k,f'.ownBlock=some k∧w.heap.size≤k) :
 Own w' B g q v f' bd t o rd fs' body ts out∧Step (blks g q v f bd t o) (blks g q v f' bd t o) w w':=by
 have hn:∀i j,i≠3→(blks g q v f bd t o)[i]?=some (some j)→some j∉ [f.ownBlock]:=fun i j hi hj hm=>by
  have e:some j=f.ownBlock:=by simpa using hm
  exact hi (h.lone i 3 j hj (by rw [e];rfl))
 have e:blks g q v f' bd t o=(blks g q v f bd t o).set 3 f'.ownBlock:=rfl;have ho:f'.ownBlock=none∨(blks g q v f bd t o)[3]?=some f'.ownBlock∨∃k,f'.ownBlock=some k∧w.heap.size≤k:=by
  rcases hor with e | e
  ·exact .inr (.inl (by rw [e];rfl))
  ·exact .inr (.inr e)
 have hof:Of w (blks g q v f bd t o) (blks g q v f' bd t o):=by rw [e];exact Of.set 3 _ ho
 have hkL:Keeps (blks g q v f bd t o) w w':=hk.mono fun k hk=>by
  have e:some k=f.ownBlock:=by simpa using hk
  simp [e]
 obtain ⟨ps,h1,h2,h3⟩:=h.O
 refine ⟨⟨⟨hk.row h.R.row (hn 1 q (by decide) rfl),hk.own h.R.own fun j e=>hn 2 j (by decide) (by rw [←e];rfl),h.R.ge,h.R.ne⟩,hr,hk.own h.D fun j e=>hn 4 j (by decide) (by rw [←e];rfl),hk.own h.TR fun j e=>hn 5 j (by decide) (by rw [←e];rfl),
  ⟨ps,h1,fun x hx=>⟨(h2 x hx).1,by
    have hx2:=(h2 x hx).2.keeps hkL
    exact ⟨hx2.reads,fun k hb=>⟨fun hm=>by
     rcases hof k hm with e | e
     ·exact (hx2.far k hb).1 e
     ·exact absurd ((h2 x hx).2.far k hb).2 (by omega),(hx2.far k hb).2⟩,hx2.off⟩⟩,hk.own h3 fun j e=>hn 6 j (by decide) (by rw [←e];rfl)⟩,?_,h.ge,Nat.lt_of_lt_of_le h.lt hk.size,h.zone.of hk.size hof⟩,hkL,hof⟩
 rw [e];exact h.lone.set h.in 3 _ ho
theorem Own.setD (h:Own w B g q v f bd t o rd fs body ts out) {bd':Value} {body':List UInt8} (hk:Keeps [bd.ownBlock] w w') (hr:w'.ownsRow B 5 1 bd' body'.length (Rec.vals body')) (hor:bd'.ownBlock=bd.ownBlock∨∃k,bd'.ownBlock=some k∧w.heap.size≤k) :
 Own w' B g q v f bd' t o rd fs body' ts out∧Step (blks g q v f bd t o) (blks g q v f bd' t o) w w':=by
 have hn:∀i j,i≠4→(blks g q v f bd t o)[i]?=some (some j)→some j∉ [bd.ownBlock]:=fun i j hi hj hm=>by
  have e:some j=bd.ownBlock:=by simpa using hm
  exact hi (h.lone i 4 j hj (by rw [e];rfl))
 have e:blks g q v f bd' t o=(blks g q v f bd t o).set 4 bd'.ownBlock:=rfl;have ho:bd'.ownBlock=none∨(blks g q v f bd t o)[4]?=some bd'.ownBlock∨∃k,bd'.ownBlock=some k∧w.heap.size≤k:=by
  rcases hor with e | e
  ·exact .inr (.inl (by rw [e];rfl))
  ·exact .inr (.inr e)
 have hof:Of w (blks g q v f bd t o) (blks g q v f bd' t o):=by rw [e];exact Of.set 4 _ ho
 have hkL:Keeps (blks g q v f bd t o) w w':=hk.mono fun k hk=>by
  have e:some k=bd.ownBlock:=by simpa using hk
  simp [e]
 obtain ⟨ps,h1,h2,h3⟩:=h.O
 refine ⟨⟨⟨hk.row h.R.row (hn 1 q (by decide) rfl),hk.own h.R.own fun j e=>hn 2 j (by decide) (by rw [←e];rfl),h.R.ge,h.R.ne⟩,hk.own h.F fun j e=>hn 3 j (by decide) (by rw [←e];rfl),hr,hk.own h.TR fun j e=>hn 5 j (by decide) (by rw [←e];rfl),
  ⟨ps,h1,fun x hx=>⟨(h2 x hx).1,by
    have hx2:=(h2 x hx).2.keeps hkL
    exact ⟨hx2.reads,fun k hb=>⟨fun hm=>by
     rcases hof k hm with e | e
     ·exact (hx2.far k hb).1 e
     ·exact absurd ((h2 x hx).2.far k hb).2 (by omega),(hx2.far k hb).2⟩,hx2.off⟩⟩,hk.own h3 fun j e=>hn 6 j (by decide) (by rw [←e];rfl)⟩,?_,h.ge,Nat.lt_of_lt_of_le h.lt hk.size,h.zone.of hk.size hof⟩,hkL,hof⟩
 rw [e];exact h.lone.set h.in 4 _ ho
theorem Own.setT (h:Own w B g q v f bd t o rd fs body ts out) {t':Value} {ts':List Fld} (hk:Keeps [t.ownBlock] w w') (hr:w'.ownsRow B 48 2 t' ts'.length (cells ts')) (hor:t'.ownBlock=t.ownBlock∨∃k,t'.ownBlock=some k∧w.heap.size≤k) :
 Own w' B g q v f bd t' o rd fs body ts' out∧Step (blks g q v f bd t o) (blks g q v f bd t' o) w w':=by
 have hn:∀i j,i≠5→(blks g q v f bd t o)[i]?=some (some j)→some j∉ [t.ownBlock]:=fun i j hi hj hm=>by
  have e:some j=t.ownBlock:=by simpa using hm
  exact hi (h.lone i 5 j hj (by rw [e];rfl))
 have e:blks g q v f bd t' o=(blks g q v f bd t o).set 5 t'.ownBlock:=rfl;have ho:t'.ownBlock=none∨(blks g q v f bd t o)[5]?=some t'.ownBlock∨∃k,t'.ownBlock=some k∧w.heap.size≤k:=by
  rcases hor with e | e
  ·exact .inr (.inl (by rw [e];rfl))
  ·exact .inr (.inr e)
 have hof:Of w (blks g q v f bd t o) (blks g q v f bd t' o):=by rw [e];exact Of.set 5 _ ho
 have hkL:Keeps (blks g q v f bd t o) w w':=hk.mono fun k hk=>by
  have e:some k=t.ownBlock:=by simpa using hk
  simp [e]
 obtain ⟨ps,h1,h2,h3⟩:=h.O
 refine ⟨⟨⟨hk.row h.R.row (hn 1 q (by decide) rfl),hk.own h.R.own fun j e=>hn 2 j (by decide) (by rw [←e];rfl),h.R.ge,h.R.ne⟩,hk.own h.F fun j e=>hn 3 j (by decide) (by rw [←e];rfl),hk.own h.D fun j e=>hn 4 j (by decide) (by rw [←e];rfl),hr,
  ⟨ps,h1,fun x hx=>⟨(h2 x hx).1,by
    have hx2:=(h2 x hx).2.keeps hkL
    exact ⟨hx2.reads,fun k hb=>⟨fun hm=>by
     rcases hof k hm with e | e
     ·exact (hx2.far k hb).1 e
     ·exact absurd ((h2 x hx).2.far k hb).2 (by omega),(hx2.far k hb).2⟩,hx2.off⟩⟩,hk.own h3 fun j e=>hn 6 j (by decide) (by rw [←e];rfl)⟩,?_,h.ge,Nat.lt_of_lt_of_le h.lt hk.size,h.zone.of hk.size hof⟩,hkL,hof⟩
 rw [e];exact h.lone.set h.in 5 _ ho
theorem PR.bk (h:PR w B g q v f bd t o p b s):Rec.Bk w g (pgcells p b s q f bd t o):=⟨fun _ _ hu=>row_cellL h.row hu,fun k _=>Ln.row_frozen h.row k,h.own.lt⟩
def Par (w:World) (B:Zone) (g:Nat) (p:Nat) (b:Bd) (s:T) (L:List (Option Nat)):Prop:=∃q v f bd t o,L=blks g q v f bd t o∧PR w B g q v f bd t o p b s
end
end Go.Proofs.YtldhlecknfomjaaGreatDoor.Pg
