import Derived.Test.YtldhlecknfomjaaGreatDoorCgb
namespace Go.Proofs.YtldhlecknfomjaaGreatDoor.Txt
open Go.RowKit Base Oct Go.Maps
section
variable {w:World} {base size g n cap:Nat} {e:TypeId} {xs:List Value} {v:Value}
theorem own_cut (h:w.ownsRow base e size (.slice (some ⟨g,0,none⟩) n cap) n xs) (k:Nat) (hk:k≤n):w.ownsRow base e size (.slice (some ⟨g,0,none⟩) k cap) k (xs.take (k*size)):=by
 have hle:k*size≤n*size:=Nat.mul_le_mul_right _ hk;rcases h.2 with ⟨h',_⟩ | ⟨g',cap',cur,h',hb,hg,hnc,hcm,hcs,htake⟩
 ·cases h'
 ·simp only [Value.slice.injEq,Option.some.injEq,Addr.mk.injEq,and_true,true_and] at h';obtain ⟨rfl,rfl⟩:=h';exact ⟨by rw [List.length_take,h.1];omega,.inr ⟨g,cap,cur,rfl,hb,hg,by omega,hcm,hcs,by rw [←htake,List.take_take,Nat.min_eq_left hle]⟩⟩
theorem own_sets:∀(vs:List Value) (o:Nat) (w:World),n*size≤o→w.ownsRow base e size (.slice (some ⟨g,0,none⟩) n cap) n xs→(w.setCells g o vs).ownsRow base e size (.slice (some ⟨g,0,none⟩) n cap) n xs
 | [],_,_,_,h=>h
 | u::r,o,w,ho,h=>by
   have h1:=(h.stored o u).1;rw [List.set_eq_of_length_le (by rw [h.1];exact ho)] at h1;exact own_sets r (o+1) _ (by omega) h1
theorem own_lower (h:w.ownsRow base e size v n xs) {base':Nat} (hb:base'≤base):w.ownsRow base' e size v n xs:=by refine ⟨h.1,h.2.imp_right ?_⟩;rintro ⟨g,cap,cur,e1,h1,h2⟩;exact ⟨g,cap,cur,e1,Nat.le_trans hb h1,h2⟩
end
theorem cells_take (R:List Fld) (k:Nat):(cells R).take (k*2)=cells (R.take k):=by
 rcases Nat.le_total k R.length with h | h
 ·conv=>lhs;rw [←List.take_append_drop k R,cells_append]
  rw [List.take_left' (by rw [cells_length,List.length_take];omega)]
 ·rw [List.take_of_length_le (by rw [cells_length];omega),List.take_of_length_le h]
def Asks (g:Nat) (lb:Array Value) (p:Fld→Bool) (fs:List Fld) (w0:World):Prop:=
 ∀(W:World) (x:Fld),x∈fs→Below w0.heap.size w0 W→Calls Tryz.prog g (#[.agg #[.string x.1,.string x.2]]++lb) W fun e w'=>e=.returned (.bool (p x))∧Below W.heap.size W w'
theorem clear_rows (w:World) (b I n cap:Nat) (hn:0<n) (hc:∀j,j<n*2→(w.cell? ⟨b,I*2+j,none⟩).isSome=true) (hf:∀j,j<n*2→w.frozen? ⟨b,I*2+j,none⟩=false) :
 ∃vs,∀ty,(Builtin.clear_ #[22] ty #[.slice (some ⟨b,I*2,none⟩) n cap]).run Tryz.prog w=.ok (.tuple #[]) (w.setCells b (I*2) vs):=by
 have hz:∀w,(zeroValue 48).run Tryz.prog w=.ok (.agg #[.string ByteArray.empty,.string ByteArray.empty]) w:=fun w=>by kernel_rfl
 have hzc:(Value.agg #[.string ByteArray.empty,.string ByteArray.empty]).cells= #[.string ByteArray.empty,.string ByteArray.empty]:=rfl;refine ⟨(Builtin.zeroCells #[.string ByteArray.empty,.string ByteArray.empty] n).toList,fun ty=>?_⟩;have hl:(Builtin.zeroCells #[.string ByteArray.empty,.string ByteArray.empty] n).toList.length=n*2:=by simp [Builtin.zeroCells]
 have hst:=run_storeCells_cells (P:=Tryz.prog) b (I*2) (Builtin.zeroCells #[.string ByteArray.empty,.string ByteArray.empty] n).toList 0 w (by rw [hl];simpa using hc) (by rw [hl];simpa using hf) (by
  intro v hv;simp only [Builtin.zeroCells,Array.toList_map,List.mem_map] at hv;obtain ⟨i,_,rfl⟩:=hv;have:i%2=0∨i%2=1:=by omega
  rcases this with h | h<;>simp [h,Value.oneCell'])
 simp only [Nat.add_zero] at hst;obtain ⟨m,rfl⟩:∃m,n=m+1:=⟨n-1,by omega⟩;simp [Builtin.clear_,run_underlying Tryz.underlying22,hz,hzc,hst]
theorem cells_set (R:List Fld) (i:Nat) (f:Fld) (h:i<R.length):((cells R).set (i*2) (.string f.1)).set (i*2+1) (.string f.2)=cells (R.set i f):=by
 have e:R=R.take i++R[i]::R.drop (i+1):=by conv=>lhs;rw [←List.take_append_drop i R,List.drop_eq_getElem_cons h]
 have hl:(cells (R.take i)).length=i*2:=by rw [cells_length,List.length_take];omega
 have e1:cells R=cells (R.take i)++(.string R[i].1 :: .string R[i].2::cells (R.drop (i+1))):=by
  conv=>lhs;rw [e,cells_append]
  rfl
 have e2:cells (R.set i f)=cells (R.take i)++(.string f.1 :: .string f.2::cells (R.drop (i+1))):=by rw [List.set_eq_take_append_cons_drop,if_pos h,cells_append];rfl
 rw [e1,e2,List.set_append_right _ _ (by omega),List.set_append_right _ _ (by omega),hl];rw [show i*2-i*2=0 by omega,show i*2+1-i*2=1 by omega];rfl
section code
set_option maxHeartbeats 1000000
theorem indexFunc_any (g:Nat) (lb:Array Value) (eg:∀args w,(callFunc g args).run Tryz.prog w=.ok (.enter g args) w) (p:Fld→Bool) (a:Option Addr) (n cap:Nat) (fs:List Fld) (w0 w:World)
 (hp:Asks g lb p fs w0) (hv:Flds w a n fs) (hn:n≤1000000000) (hb0:Below w0.heap.size w0 w) :
 Calls Tryz.prog 163 #[.slice a n cap,.func (.func g) #[] lb] w fun e w'=>(∃r:Int,e=.returned (.int .i64 r)∧((r= -1∧∀x∈fs,p x=false)∨∃i:Nat,r=i∧i<n∧(∀x∈fs.take i,p x=false)∧p (fs[i]?.getD dflt)=true))∧Below w.heap.size w w':=by
 have HV:=Lib.hid hv;have HL:=Lib.hid hv.1;have HP:=Lib.hid hp;have HB0:=Lib.hid hb0;clear hv hp hb0;go_enter Tryz.func163,Tryz.ntmps163;go_wp2
 go_loopw [8] (fun i wr=>∃k:Nat,k≤n∧i=.int .i64 k∧Hid (∀x∈fs.take k,p x=false)∧Hid (Below w.heap.size w wr)) (fun i _=>n-(intOf i).toNat)
 case atStart=>exact ⟨0,Nat.zero_le _,rfl,Lib.hid (by simp),Lib.hid (Below.refl _ _)⟩
 case round=>
  obtain ⟨k,hk,rfl,hno,hbr⟩:=hrel;rcases Nat.lt_or_ge k n with hlt | hge
  ·obtain ⟨bl,off,rfl,hbl,hc⟩:=(HV.out.below hbr.out).2 (by omega);obtain ⟨hc0,hc1⟩:=hc k hlt;have hkl:k<fs.length:=by rw [HL.out];exact hlt
   have hsn:=Lib.hid (flds_snoc fs k hkl);have hmem:fs[k]?.getD dflt∈fs:=by rw [List.getElem?_eq_getElem hkl];exact List.getElem_mem _
   have HC:=Lib.hid (fun W hW=>HP.out W _ hmem hW);clear hc hkl hmem;generalize hf:fs[k]?.getD dflt=f at *;have HF:=Lib.hid hf;clear hf;obtain ⟨f0,f1⟩:=f;simp only at hc0 hc1
   have hbw:=Lib.hid (Base.below_step HB0.out (hbr.out.mono (Nat.le_refl _)));cases hq:p (f0,f1) with
   | true=>
     rw [hq] at HC;have HQ:=Lib.hid hq;clear hq
     go_wp2_with (go_at_fn g;with_reducible refine (HC.out _ ?_).mono ?_;(repeat (first | exact hbw.out | with_reducible refine Base.below_drewN ?_ _));rintro e w2 ⟨rfl,hb2⟩);go_ret;exact ⟨⟨k,rfl,.inr ⟨k,rfl,hlt,hno.out,by rw [HF.out];exact HQ.out⟩⟩,Base.below_step hbr.out hb2⟩
   | false=>
     rw [hq] at HC;have HQ:=Lib.hid hq;clear hq
     go_wp2_with (go_at_fn g;with_reducible refine (HC.out _ ?_).mono ?_;(repeat (first | exact hbw.out | with_reducible refine Base.below_drewN ?_ _));rintro e w2 ⟨rfl,hb2⟩);go_roundw
     case rel=>
      refine ⟨k+1,by omega,by go_num,Lib.hid ?_,Lib.hid (Base.below_step hbr.out hb2)⟩;rw [hsn.out];intro x hx;rcases List.mem_append.1 hx with hx | hx
      ·exact hno.out x hx
      ·obtain rfl:x=(f0,f1):=by simpa using hx
       exact HQ.out
     case measure=>simp [intOf];omega
  ·obtain rfl:k=n:=by omega
   have hno':=hno.out;rw [List.take_of_length_le (by rw [HL.out];omega)] at hno';have HN:=Lib.hid hno';clear hno';go_wp2;go_ret;exact ⟨⟨-1,rfl,.inl ⟨rfl,HN.out⟩⟩,hbr.out⟩
theorem deleteFunc_nil (g:Nat) (lb:Array Value) (eg:∀args w,(callFunc g args).run Tryz.prog w=.ok (.enter g args) w) (p:Fld→Bool) (w0 w:World) (hp:Asks g lb p [] w0) (hb0:Below w0.heap.size w0 w) :
 Calls Tryz.prog 125 #[.slice none 0 0,.func (.func g) #[] lb] w fun e w'=>e=.returned (.slice none 0 0)∧Below w.heap.size w w':=by
 have HI:=Lib.hid ((indexFunc_any g lb eg p none 0 0 [] w0 w hp (Flds.nil _ _) (by omega) hb0).mono (R':=fun e w'=>e=.returned (.int .i64 (-1))∧Below w.heap.size w w') (by
  rintro e w' ⟨⟨r,rfl,(⟨rfl,_⟩ | ⟨i,_,hi,_⟩)⟩,hb⟩
  ·exact ⟨rfl,hb⟩
  ·omega))
 clear hp hb0 eg;go_enter Tryz.func125,Tryz.ntmps125
 go_wp2_with (go_at_call 163;with_reducible refine HI.out.mono ?_;rintro e w2 ⟨rfl,hb2⟩);go_ret;exact ⟨rfl,hb2⟩
theorem filter_snoc (p:Fld→Bool) (fs:List Fld) (j:Nat) (h:j<fs.length):(fs.take (j+1)).filter (fun f=>!p f)=(fs.take j).filter (fun f=>!p f)++(if p (fs[j]?.getD dflt)=true then [] else [fs[j]?.getD dflt]):=by
 rw [flds_snoc fs j h,List.filter_append]
 congr 1
 generalize fs[j]?.getD dflt=f;by_cases hs:p f=true<;>simp [hs]
set_option maxRecDepth 10000 in
theorem deleteFunc_any (g:Nat) (lb:Array Value) (eg:∀args w,(callFunc g args).run Tryz.prog w=.ok (.enter g args) w) (p:Fld→Bool) (r n cap:Nat) (fs:List Fld) (w0 w:World)
 (hp:Asks g lb p fs w0) (hv:w.ownsRow w0.heap.size 48 2 (.slice (some ⟨r,0,none⟩) n cap) n (cells fs)) (h0:0<n) (hn:n≤1000000000) (hb0:Below w0.heap.size w0 w) :
 Calls Tryz.prog 125 #[.slice (some ⟨r,0,none⟩) n cap,.func (.func g) #[] lb] w fun e w'=>∃m,e=.returned (.slice (some ⟨r,0,none⟩) m cap)∧m=(fs.filter fun f=>!p f).length∧Flds w' (some ⟨r,0,none⟩) m (fs.filter fun f=>!p f)∧Below w0.heap.size w0 w'∧w'.ownsRow w0.heap.size 48 2 (.slice (some ⟨r,0,none⟩) m cap) m (cells (fs.filter fun f=>!p f)):=by
 have hl:fs.length=n:=by have:=hv.1;rw [cells_length] at this;omega
 obtain ⟨hr0,hr1⟩:=hv.lt r rfl;have hcap:n≤cap:=by
  rcases hv.2 with ⟨h,_⟩ | ⟨_,c,_,h,_,_,hh,_⟩
  ·cases h
  ·cases h;exact hh
 have hF:Flds w (some ⟨r,0,none⟩) n fs:=Flds.of_cells hl hr1 fun j hj=>hv.cellAt j hj
 have HI:=Lib.hid (indexFunc_any g lb eg p (some ⟨r,0,none⟩) n cap fs w0 w hp hF hn hb0);have HV:=Lib.hid hv;have HL:=Lib.hid hl;have HP:=Lib.hid hp;have HB0:=Lib.hid hb0;clear hv hl hp hb0 hF;go_enter Tryz.func125,Tryz.ntmps125
 go_wp2_with (go_at_call 163;with_reducible refine HI.out.mono ?_;rintro e w1 ⟨⟨x,rfl,hx⟩,hb1⟩)
 ·have hxe:(x == -1)=true:=by assumption
  rcases hx with ⟨rfl,hall⟩ | ⟨i,rfl,_,_,_⟩
  ·have hff:fs.filter (fun f=>!p f)=fs:=List.filter_eq_self.2 fun f hf=>by rw [hall f hf];rfl
   go_ret;have ho:=own_below HV.out hb1;refine ⟨n,rfl,by rw [hff,HL.out],?_,Base.below_step HB0.out hb1,by rw [hff];exact ho⟩;rw [hff];exact Flds.of_cells HL.out (ho.lt r rfl).2 fun j hj=>ho.cellAt j hj
  ·exact absurd (beq_iff_eq.1 hxe) (by omega)
 ·have hxe:(x == -1)=false:=by assumption
  rcases hx with ⟨rfl,_⟩ | ⟨I0,rfl,hI0,hno,hyes⟩
  ·cases hxe
  have hB1:=Lib.hid (Base.below_step HB0.out hb1)
  have hO1:=Lib.hid (own_below HV.out hb1)
  have hI1:=Lib.hid (show (fs.take (I0+1)).filter (fun f=>!p f)=fs.take I0 from by rw [filter_snoc p fs I0 (by rw [HL.out];exact hI0),if_pos hyes,List.append_nil];exact List.filter_eq_self.2 fun f hf=>by rw [hno f hf];rfl)
  clear hb1 hno hyes hxe HI;have e1:wrap64 ((I0:Int)+1)=(I0:Int)+1:=by unfold wrap64;omega
  have e3:((I0:Int) == -1)=false:=beq_eq_false_iff_ne.2 (by omega);rw [e3];go_wp2;rw [e1];clear e1 e3
  go_loopw [5,6] (fun i j wr=>∃(I J:Nat) (R:List Fld),i=.int .i64 I∧j=.int .i64 J∧J≤n∧I<J∧Hid (R.length=n)∧Hid (R.take I=(fs.take J).filter (fun f=>!p f))∧Hid (R.drop J=fs.drop J)∧
   Hid (wr.ownsRow w0.heap.size 48 2 (.slice (some ⟨r,0,none⟩) n cap) n (cells R))∧Hid (Below w0.heap.size w0 wr)) (fun _ j _=>n-(intOf j).toNat)
  case atStart=>exact ⟨I0,I0+1,fs,rfl,by first | rfl | go_num | simp,by omega,by omega,HL,Lib.hid hI1.out.symm,Lib.hid rfl,hO1,hB1⟩
  case round=>
   obtain ⟨I,J,R,rfl,rfl,hJ,hIJ,hRl,hRI,hRJ,hO,hB⟩:=hrel;rcases Nat.lt_or_ge J n with hlt | hge
   ·have hRJl:J<R.length:=by rw [hRl.out];exact hlt
    have hfl:J<fs.length:=by rw [HL.out];exact hlt
    obtain ⟨q0,q1⟩:=cells_at R J hRJl;have hc0:=(hO.out.cellAt (J*2) (by omega)).trans q0;have hc1:=(hO.out.cellAt (J*2+1) (by omega)).trans q1;have hRf:R[J]?.getD dflt=fs[J]?.getD dflt:=by have:=congrArg (fun l=>l[0]?) hRJ.out;simp only [List.getElem?_drop,Nat.add_zero] at this;rw [this]
    rw [hRf] at hc0 hc1;have hmem:fs[J]?.getD dflt∈fs:=by rw [List.getElem?_eq_getElem hfl];exact List.getElem_mem _
    have HC:=Lib.hid (fun W hW=>HP.out W _ hmem hW)
    have hsn:=Lib.hid (filter_snoc p fs J hfl);have hdr:R.drop (J+1)=fs.drop (J+1):=by rw [←List.drop_drop,←List.drop_drop,hRJ.out]
    have HDR:=Lib.hid hdr;have hj0:(J:Int)<(n:Int):=by omega
    clear q0 q1 hRf hmem hdr hRJl hfl;generalize hf:fs[J]?.getD dflt=f at *;clear hf;obtain ⟨f0,f1⟩:=f;simp only at hc0 hc1
    have e2:IntKind.i64.wrap ((J:Int)+1)=(J:Int)+1:=wrap_in _ (by omega) (by omega);have hrw:r<wr.heap.size:=(hO.out.lt r rfl).2;cases hq:p (f0,f1) with
    | true=>
      rw [hq] at HC hsn;rw [if_pos rfl,List.append_nil] at hsn;clear hq
      go_wp2_with (go_at_fn g;with_reducible refine (HC.out _ ?_).mono ?_;(repeat (first | exact hB.out | with_reducible refine Base.below_drewN ?_ _ | refine Below.alloc ?_ hB.out.size _));rintro e w2 ⟨rfl,hb2⟩);have hb3:Below wr.heap.size wr w2:=Base.below_step ((Below.refl _ _).alloc (Nat.le_refl _) _) hb2
      have H1:=Lib.hid (own_below hO.out hb3)
      have H2:=Lib.hid (Base.below_step hB.out hb3);clear hb2 hb3;go_roundw
      case rel=>
       have H3:Hid (R.take I=(fs.take (J+1)).filter (fun f=>!p f)):=Lib.hid (by rw [hsn.out];exact hRI.out);first
        | exact ⟨I,J+1,R,rfl,by go_num,by omega,by omega,hRl,H3,HDR,H1,H2⟩
        |((repeat apply Exists.intro);refine ⟨?_,by rfl⟩;exact ⟨I,J+1,R,rfl,by go_num,by omega,by omega,hRl,H3,HDR,H1,H2⟩)
      case measure=>simp [intOf];omega
    | false=>
      rw [hq] at HC hsn;rw [if_neg (by decide)] at hsn;clear hq
      go_wp2_with (go_at_fn g;with_reducible refine (HC.out _ ?_).mono ?_;(repeat (first | exact hB.out | with_reducible refine Base.below_drewN ?_ _ | refine Below.alloc ?_ hB.out.size _));rintro e w2 ⟨rfl,hb2⟩
                   have hb3:Below wr.heap.size wr w2:=Base.below_step ((Below.refl _ _).alloc (Nat.le_refl _) _) hb2
                   have H1:=Lib.hid (own_below hO.out hb3)
                   have H2:=Lib.hid (Base.below_step hB.out hb3)
                   have hf0:=(hb2.cell (p:=⟨wr.heap.size,0,none⟩) (by simp)).trans (show _=some (.string f0) by simp)
                   have hf1:=(hb2.cell (p:=⟨wr.heap.size,1,none⟩) (by simp)).trans (show _=some (.string f1) by simp);have hRI':I<R.length:=by rw [hRl.out];omega
                   obtain ⟨q0,q1⟩:=cells_at R I hRI';have hs0:=(H1.out.cellAt (I*2) (by omega)).trans q0;have hs1:=(H1.out.cellAt (I*2+1) (by omega)).trans q1
                   have hz0:=H1.out.frozenAt (I*2)
                   have hz1:=H1.out.frozenAt (I*2+1);have hi0:(I:Int)<(n:Int):=by omega
                   clear q0 q1 hb2 hb3)
      have hst0:=(H1.out.stored (I*2) (.string f0)).1;have hst1:=(hst0.stored (I*2+1) (.string f1)).1;rw [cells_set R I (f0,f1) hRI'] at hst1;have H3:=Lib.hid hst1
      have H4:=Lib.hid ((H2.out.setCell (p:=⟨r,I*2,none⟩) hr0 (.string f0)).setCell (p:=⟨r,I*2+1,none⟩) hr0 (.string f1))
      have H5:Hid ((R.set I (f0,f1)).length=n):=Lib.hid (by rw [List.length_set];exact hRl.out)
      have H6:Hid ((R.set I (f0,f1)).take (I+1)=(fs.take (J+1)).filter (fun f=>!p f)):=Lib.hid (by rw [hsn.out,←hRI.out,List.take_succ_eq_append_getElem (by rw [List.length_set];exact hRI'),List.getElem_set_self,List.take_set_of_le (Nat.le_refl _)])
      have H7:Hid ((R.set I (f0,f1)).drop (J+1)=fs.drop (J+1)):=Lib.hid (by rw [List.drop_set_of_lt (by omega)];exact HDR.out);clear hst0 hst1;go_roundw
      case rel=>
       first
        | exact ⟨I+1,J+1,R.set I (f0,f1),rfl,by go_num,by omega,by omega,H5,H6,H7,H3,H4⟩
        |((repeat apply Exists.intro);refine ⟨?_,by rfl⟩;exact ⟨I+1,J+1,R.set I (f0,f1),by go_num,by go_num,by omega,by omega,H5,H6,H7,H3,H4⟩)
      case measure=>simp [intOf];omega
   ·obtain rfl:J=n:=by omega
    have hIn:I<R.length:=by rw [hRl.out];exact hIJ
    have hlen:(fs.filter fun f=>!p f).length=I:=by have h1:=hRI.out;rw [List.take_of_length_le (l:=fs) (by rw [HL.out];exact Nat.le_refl _)] at h1;rw [←h1,List.length_take];omega
    have hkey:R.take I=fs.filter fun f=>!p f:=by rw [hRI.out,List.take_of_length_le (by rw [HL.out];exact Nat.le_refl _)]
    have hlt':=(hO.out.lt r rfl).2
    obtain ⟨vs,hcl⟩:=clear_rows wr r I (J-I) (cap-I) (by omega)
     (fun j hj=>by rw [hO.out.cellAt (I*2+j) (by omega),List.getElem?_eq_getElem (by rw [cells_length,hRl.out];omega)];rfl) (fun j _=>hO.out.frozenAt _)
    have HF:Hid (Flds (wr.setCells r (I*2) vs) (some ⟨r,0,none⟩) I (fs.filter fun f=>!p f)):=Lib.hid (by
     refine Flds.of_cells hlen (Nat.lt_of_lt_of_le hlt' (Go.below_setCells (Nat.le_refl _) _ _ _ (Below.refl _ _)).size) fun j hj=>?_;rw [World.cell?_setCells_out _ _ _ _ _ (fun _ _=>Or.inl (by show j<I*2;omega)),hO.out.cellAt j (by omega),←hkey]
     conv=>lhs;rw [←List.take_append_drop I R,cells_append]
     rw [List.getElem?_append_left (by rw [cells_length,List.length_take];omega)])
    have HB:Hid (Below w0.heap.size w0 (wr.setCells r (I*2) vs)):=Lib.hid (Go.below_setCells hr0 _ _ _ hB.out)
    have HOW:Hid ((wr.setCells r (I*2) vs).ownsRow w0.heap.size 48 2 (.slice (some ⟨r,0,none⟩) I cap) I (cells (fs.filter fun f=>!p f))):=Lib.hid (by have h1:=own_cut hO.out I (by omega);rw [cells_take,hkey] at h1;exact own_sets vs (I*2) wr (Nat.le_refl _) h1)
    have HLN:=Lib.hid hlen;have i1:(I:Int)≤(J:Int):=by omega
    have i2:(J:Int)≤(cap:Int):=by omega
    have i3:(I:Int)≤(cap:Int):=by omega
    clear hlen hkey hIn;go_wp2;go_ret;exact ⟨I,rfl,HLN.out.symm,HF.out,HB.out,HOW.out⟩
theorem cells_here {w:World} {a:Option Addr} {n:Nat} {fs:List Fld} (h:Flds w a n fs) (hn:0<n):∃b off,a=some ⟨b,off,none⟩∧∀j u,(cells fs)[j]?=some u→w.cell? ⟨b,off+j,none⟩=some u:=by
 obtain ⟨b,off,e,_,hc⟩:=h.2 hn;refine ⟨b,off,e,fun j u hj=>?_⟩;have hlt:j<fs.length*2:=by
  rw [←cells_length];rcases Nat.lt_or_ge j (cells fs).length with h | h
  ·exact h
  ·rw [List.getElem?_eq_none h] at hj;cases hj
 have hk:j/2<n:=by have:=h.1;omega
 obtain ⟨c0,c1⟩:=hc (j/2) hk
 obtain ⟨d0,d1⟩:=cells_at fs (j/2) (by have:=h.1;omega);rcases (by omega:j=j/2*2∨j=j/2*2+1) with e | e
 ·rw [←e] at c0 d0;rw [d0] at hj;rw [c0];exact hj
 ·rw [show off+j/2*2+1=off+j by omega] at c1;rw [←e] at d1;rw [d1] at hj;rw [c1];exact hj
theorem cells_one (fs:List Fld):∀u∈cells fs,u.oneCell'=true:=by intro u hu;simp only [cells,List.mem_flatMap,List.mem_cons,List.not_mem_nil,or_false] at hu;obtain ⟨f,_,rfl | rfl⟩:=hu<;>rfl
theorem without_own (a:Option Addr) (n cap:Nat) (fs:List Fld) (b:Option Addr) (m cap2:Nat) (names:List ByteArray) (w:World) (hv:Flds w a n fs) (hu:Strs w b m names) (hn:n≤1000000000) (hm:m≤1000000000)
 (hs:∀f∈fs,f.1.size≤1000000000) (ht:∀s∈names,s.size≤1000000000) :
 Calls Tryz.prog 82 #[.slice a n cap,.slice b m cap2] w fun e w'=>∃d k c,e=.returned (.slice d k c)∧k=(without fs names).length∧Flds w' d k (without fs names)∧Below w.heap.size w w'∧w'.ownsRow w.heap.size 48 2 (.slice d k c) k (cells (without fs names)):=by
 have eg:∀args w,(callFunc 126 args).run Tryz.prog w=.ok (.enter 126 args) w:=enters_of Tryz.func126 (by kernel_rfl) rfl
 have HN:=Lib.hid (smallNames_any b m cap2 names w hu hm ht);have HV:=Lib.hid hv;have HL:=Lib.hid hv.1;have HS:=Lib.hid hs;clear hv hu hs ht;obtain ⟨i0,hi,hz0,hz1,hz2⟩:=info_parts field_info;have G1:=Lib.hid hi;have G2:=Lib.hid hz0;have G3:=Lib.hid hz1;have G4:=Lib.hid hz2;clear hi hz0 hz1 hz2;have hnl:(cells fs).length=n*2:=by rw [cells_length,HL.out]
 have HNL:=Lib.hid hnl;clear hnl;have key:∀w2:World,Hid (∀G B:Nat,w2.cell? ⟨G,0,none⟩=some (.map (some B))→w2.ownsMap Tryz.prog 9 unitElem B m (gone names)→Asks 126 #[.pointer (some ⟨G,0,none⟩)] (fun f=>one names f.1) fs w2):=by
  intro w2;refine Lib.hid fun G B hc hmap W x hx hb=>?_;have hG:G<w2.heap.size:=by
   rcases Nat.lt_or_ge G w2.heap.size with h | h
   ·exact h
   ·simp [World.cell?,Array.getElem?_eq_none h] at hc
  have:=gone_any x.1 x.2 G B m (gone names) W ((hb.cell (p:=⟨G,0,none⟩) hG).trans hc) (hmap.kept (grown_of_below hb) (by simp)) (HS.out x hx);rw [has_gone] at this;exact this
 go_enter Tryz.func82,Tryz.ntmps82
 go_wp2_with (first
  |(go_at_call 124;with_reducible refine HN.out.mono ?_;rintro e w1 ⟨rfl,hm1,hb1⟩
    have hc2:(w1.alloc (.cells #[.map (some w.heap.size)] 150)).cell? ⟨w1.heap.size,0,none⟩=some (.map (some w.heap.size)):=by simp
    have HA:=Lib.hid ((key (w1.alloc (.cells #[.map (some w.heap.size)] 150))).out w1.heap.size w.heap.size hc2 (hm1.alloc _))
    have HB:=Lib.hid (show Below w.heap.size w (w1.alloc (.cells #[.map (some w.heap.size)] 150)) from hb1.alloc hb1.size _);clear hm1 hb1 hc2)
  |(at_builtin;refine App.wpList_append_list _ rfl _ _ 22 rfl (w1.alloc (.cells #[.map (some w.heap.size)] 150)).heap.size 48 i0 (.agg #[.string ByteArray.empty,.string ByteArray.empty]) 2 32 Tryz.underlying22 G1.out G2.out G3.out G4.out rfl (by decide) _ 0 [] rfl (World.ownsRow_nil _ _ _ _) a n cap (cells fs) rfl HNL.out (cells_here (HV.out.below HB.out)) (cells_one fs) (by unfold maxLen;omega) (by omega) (by simp) ?_))
 intro v' w3 hown hgr hnil _;have hsz:(w1.alloc (.cells #[.map (some w.heap.size)] 150)).heap.size=w1.heap.size+1:=by simp
 have hb3:Below (w1.alloc (.cells #[.map (some w.heap.size)] 150)).heap.size (w1.alloc (.cells #[.map (some w.heap.size)] 150)) w3:=(Below.refl _ _).grown hgr (Nat.le_refl _) (by intro k hk;cases hk);rw [←hsz] at hown
 have hbw:Below w.heap.size w w3:=HB.out.trans (hb3.mono HB.out.size);clear key hgr hsz;rcases Nat.eq_zero_or_pos n with h0 | hp
 ·obtain rfl:=hnil.2 h0
  obtain rfl:fs= []:=List.length_eq_zero_iff.1 (by rw [HL.out];exact h0)
  have HD:=Lib.hid (deleteFunc_nil 126 #[.pointer (some ⟨w1.heap.size,0,none⟩)] eg (fun f=>one names f.1) _ w3 HA.out hb3);have HBW:=Lib.hid hbw;clear eg hnil hown hb3 hbw HA HB
  go_wp2_with (go_at_call 125;with_reducible refine HD.out.mono ?_;rintro e w4 ⟨rfl,hb4⟩);go_ret;exact ⟨none,0,0,rfl,rfl,Flds.nil _ _,Base.below_step HBW.out hb4,World.ownsRow_nil _ _ _ _⟩
 ·obtain ⟨r,c,rfl,_,_⟩:=hown.form hp
  have HD:=Lib.hid ((deleteFunc_any 126 #[.pointer (some ⟨w1.heap.size,0,none⟩)] eg (fun f=>one names f.1) r n c fs _ w3 HA.out hown hp hn hb3).mono
   (R':=fun e w'=>∃d k c,e=.returned (.slice d k c)∧k=(without fs names).length∧Flds w' d k (without fs names)∧Below w.heap.size w w'∧w'.ownsRow w.heap.size 48 2 (.slice d k c) k (cells (without fs names))) (by
     rintro e w' ⟨k,rfl,hk,hF,hb,ho⟩;exact ⟨_,k,_,rfl,hk,hF,HB.out.trans (hb.mono HB.out.size),own_lower ho HB.out.size⟩))
  clear eg hnil hown hb3 hbw HA HB
  go_wp2_with (go_at_call 125;with_reducible refine HD.out.mono ?_;rintro e w4 ⟨d,k,c4,rfl,rfl,hF,hb4,ho4⟩);go_ret;exact ⟨d,_,c4,rfl,rfl,hF,hb4,ho4⟩
end code
end Go.Proofs.YtldhlecknfomjaaGreatDoor.Txt
namespace Go.Proofs.YtldhlecknfomjaaGreatDoor.Num
open Base Oct
def dig (c:UInt8):Int:=hexVal (c.toNat:Int)
def digitOf (base:Int) (c:UInt8):Bool:=isHex (c.toNat:Int)&&decide (dig c<base)
def grow (base most:Int):Int→List UInt8→Option Int
 | n,[]=>some n
 | n,c::r=>if most<dig c∨(most-dig c)/base<n then none else grow base most (n*base+dig c) r
def ofGrow:Option Int→Int × Int
 | some n=>(n,0)
 | none=>(0,23)
def readOf (base most:Int) (l:List UInt8):Int × Int:=
 if (l.isEmpty || !l.all (digitOf base))=true then (0,22) else ofGrow (grow base (max most 0) 0 l)
def value (base:Int):Int→List UInt8→Int
 | n,[]=>n
 | n,c::r=>value base (n*base+dig c) r
def tab:List UInt8:= [48,49,50,51,52,53,54,55,56,57,97,98,99,100,101,102]
def sign (n:Nat):UInt8:=tab[n]?.getD 0
def spell (b n:Nat):List UInt8:=if _h:n<b∨b<2 then [sign n] else spell b (n/b) ++ [sign (n%b)]
 termination_by n
 decreasing_by exact Nat.div_lt_self (by omega) (by omega)
theorem dig_tab:∀k:Fin 256,0≤hexVal (k.val:Int)∧hexVal (k.val:Int)≤15:=by decide +kernel
theorem dig_nonneg (c:UInt8):0≤dig c:=(dig_tab ⟨c.toNat,c.toNat_lt⟩).1
theorem dig_le (c:UInt8):dig c≤15:=(dig_tab ⟨c.toNat,c.toNat_lt⟩).2
theorem dec_tab:∀k:Fin 256,oneOf [4] (k.val:Int)=(isHex (k.val:Int)&&decide (hexVal (k.val:Int)<10)):=by decide +kernel
theorem hex_tab:∀k:Fin 256,oneOf [5] (k.val:Int)=(isHex (k.val:Int)&&decide (hexVal (k.val:Int)<16)):=by decide +kernel
theorem all_dec (l:List UInt8):allOf [4] l=l.all (digitOf 10):=by unfold allOf;congr 1;funext c;exact dec_tab ⟨c.toNat,c.toNat_lt⟩
theorem all_hex (l:List UInt8):allOf [5] l=l.all (digitOf 16):=by unfold allOf;congr 1;funext c;exact hex_tab ⟨c.toNat,c.toNat_lt⟩
theorem dig_nought:dig 48=0:=by decide +kernel
section
variable {base most:Int}
theorem grow_noughts (hb:0<base) (hm:0≤most) (l:List UInt8):grow base most 0 (Lib.trimLeftB l 48)=grow base most 0 l:=by
 unfold Lib.trimLeftB
 induction l with
 | nil=>rfl
 | cons c r ih=>
   simp only [List.dropWhile];by_cases h:c=48
   ·subst h;have h0:¬(most<0∨(most-0)/base<0):=by
     intro h;rcases h with h | h
     ·omega
     ·have:=Int.ediv_nonneg (a:=most-0) (b:=base) (by omega) (by omega);omega
    simp only [grow,dig_nought,if_neg h0,beq_self_eq_true];simpa using ih
   ·have h':(c==48)=false:=by simpa using h
    simp only [h']
theorem room (hb:1≤base) (n d:Int) (hn:0≤n):(most<d∨(most-d)/base<n)↔most<n*base+d:=by
 have hm:0≤n*base:=Int.mul_nonneg hn (by omega);constructor
 ·rintro (h | h)
  ·omega
  ·have:=(Int.ediv_lt_iff_lt_mul (by omega:0<base)).1 h;omega
 ·intro h;by_cases h1:most<d
  ·exact .inl h1
  ·exact .inr ((Int.ediv_lt_iff_lt_mul (by omega:0<base)).2 (by omega))
end
section
variable {b:Nat} (h2:2≤b) (h16:b≤16)
theorem spell_lt {n:Nat} (h:n<b):spell b n= [sign n]:=by rw [spell,dif_pos (.inl h)]
include h2
theorem spell_ge {n:Nat} (h:b≤n):spell b n=spell b (n/b) ++ [sign (n%b)]:=by rw [spell,dif_neg (by omega)]
theorem div_less {n:Nat} (h:b≤n):n/b<n:=Nat.div_lt_self (by omega) (by omega)
theorem spell_len (k:Nat):∀n,n<2^k→1≤k→(spell b n).length≤k:=by
 induction k with
 | zero=>intro n _ h;omega
 | succ k ih=>
   intro n hn _;by_cases h:n<b
   ·rw [spell_lt h];simp
   ·rw [spell_ge h2 (by omega),List.length_append]
    have hq:n/b≤n/2:=Nat.div_le_div_left h2 (by omega);have hk:1≤k:=by
     rcases Nat.eq_zero_or_pos k with rfl | hk
     ·omega
     ·exact hk
    have:=ih (n/b) (by rw [Nat.pow_succ] at hn;omega) hk;simp;omega
include h16
end
end Go.Proofs.YtldhlecknfomjaaGreatDoor.Num
namespace Go.Proofs.YtldhlecknfomjaaGreatDoor.Num
open Go.RowKit Base Oct
def str (l:List UInt8):ByteArray:=⟨l.toArray⟩
theorem str_app (l m:List UInt8):str (l++m)=str l++str m:=by apply ByteArray.ext;rw [ByteArray.data_append];simp [str]
theorem str_size (l:List UInt8):(str l).size=l.length:=by simp [str,ByteArray.size]
theorem signs:∀k:Fin 16,(ByteArray.mk #[48,49,50,51,52,53,54,55,56,57,97,98,99,100,101,102]).extract k.val (k.val+1)=str [sign k.val]:=by decide +kernel
section code
set_option maxHeartbeats 800000
theorem spell_any (b:Nat) (B:Int) (hb:b=10∧B=10∨b=16∧B=16) (k:Nat):∀(n:Int) (w:World),0≤n→n<9223372036854775808→n.toNat<k→Calls Tryz.prog 162 #[.int .i64 n,.int .i64 B] w fun e w'=>e=.returned (.string (str (spell b n.toNat)))∧∃m,w'=w.drewN m:=by
 induction k with
 | zero=>intro n w _ _ h;omega
 | succ k ih=>
   intro n w hn0 hn hk;have h2:2≤b:=by omega
   by_cases h:n<B
   ·have e1:=signs ⟨n.toNat,by omega⟩;have e2:n.toNat+1=(n+1).toNat:=by omega
    simp only [e2] at e1;clear e2;rcases hb with ⟨rfl,rfl⟩ | ⟨rfl,rfl⟩;all_goals
     rw [spell_lt (by omega)];go_enter Tryz.func162,Tryz.ntmps162;go_wp2_with fail;go_ret;exact ⟨rfl,0,rfl⟩
   ·rw [spell_ge h2 (by omega)]
    have l1:=spell_len h2 64 (n.toNat/b) (by have:=div_less h2 (by omega:b≤n.toNat);omega) (by omega)
    have h3:=Lib.hid (ih (n/B))
    have h4:=Lib.hid (ih (n%B));have hi:B≤n:=by omega
    have c1:(n/B).toNat=n.toNat/b:=by rcases hb with ⟨rfl,rfl⟩ | ⟨rfl,rfl⟩<;>omega
    have c2:(n%B).toNat=n.toNat%b:=by rcases hb with ⟨rfl,rfl⟩ | ⟨rfl,rfl⟩<;>omega
    have w1:IntKind.i64.wrap (n/B)=n/B:=wrap_in _ (by rcases hb with ⟨rfl,rfl⟩ | ⟨rfl,rfl⟩<;>omega) (by rcases hb with ⟨rfl,rfl⟩ | ⟨rfl,rfl⟩<;>omega)
    have w2:IntKind.i64.wrap (n%B)=n%B:=wrap_in _ (by rcases hb with ⟨rfl,rfl⟩ | ⟨rfl,rfl⟩<;>omega) (by rcases hb with ⟨rfl,rfl⟩ | ⟨rfl,rfl⟩<;>omega)
    have w3:(n.tdiv B)=n/B:=Int.tdiv_eq_ediv_of_nonneg (by omega)
    have w4:(n.tmod B)=n%B:=Int.tmod_eq_emod_of_nonneg (by omega)
    have hs:spell b (n%B).toNat= [sign (n%B).toNat]:=spell_lt (by rcases hb with ⟨rfl,rfl⟩ | ⟨rfl,rfl⟩<;>omega);rw [←c1,←c2];rw [←c1] at l1;have z1:(str (spell b (n/B).toNat)).size≤64:=by rw [str_size];exact l1
    have z2:(str [sign (n%B).toNat]).size=1:=rfl;have z3:¬9223372036854775807<(str (spell b (n/B).toNat)).size+(str [sign (n%B).toNat]).size:=by omega
    have hj:str (spell b (n/B).toNat ++ [sign (n%B).toNat])=str (spell b (n/B).toNat)++str [sign (n%B).toNat]:=str_app _ _;rw [hj]
    have h3':Hid (∀w,Calls Tryz.prog 162 #[.int .i64 (n/B),.int .i64 B] w fun e w'=>e=.returned (.string (str (spell b (n/B).toNat)))∧∃m,w'=w.drewN m):=Lib.hid (fun w=>h3.out w (by rcases hb with ⟨rfl,rfl⟩ | ⟨rfl,rfl⟩<;>omega) (by rcases hb with ⟨rfl,rfl⟩ | ⟨rfl,rfl⟩<;>omega) (by rcases hb with ⟨rfl,rfl⟩ | ⟨rfl,rfl⟩<;>omega))
    have h4':Hid (∀w,Calls Tryz.prog 162 #[.int .i64 (n%B),.int .i64 B] w fun e w'=>e=.returned (.string (str [sign (n%B).toNat]))∧∃m,w'=w.drewN m):=Lib.hid (fun w=>by rw [←hs];exact h4.out w (by rcases hb with ⟨rfl,rfl⟩ | ⟨rfl,rfl⟩<;>omega) (by rcases hb with ⟨rfl,rfl⟩ | ⟨rfl,rfl⟩<;>omega) (by rcases hb with ⟨rfl,rfl⟩ | ⟨rfl,rfl⟩<;>omega));generalize str (spell b (n/B).toNat)=A at *;generalize str [sign (n%B).toNat]=D at *;clear ih h h2 h3 h4 l1 hs hj c1 c2;rcases hb with ⟨rfl,rfl⟩ | ⟨rfl,rfl⟩;all_goals
     go_enter Tryz.func162,Tryz.ntmps162;go_wp2_with fail
     go_quiet ((first |(go_at_call 162;with_reducible exact Calls.quiet_of (h3'.out _)) |(go_at_call 162;with_reducible exact Calls.quiet_of (h4'.out _))));go_wp2_with fail;go_ret;exact ⟨rfl,_,rfl⟩
theorem rspell_any (b:Nat) (B:Int) (hb:b=10∧B=10∨b=16∧B=16) (k:Nat):∀(n:Int) (w:World), -9223372036854775808≤n→n<9223372036854775808→n.toNat<k→Calls Tryz.prog 89 #[.int .i64 n,.int .i64 B] w fun e w'=>e=.returned (.string (str (spell b n.toNat)))∧∃m,w'=w.drewN m:=by
 induction k with
 | zero=>intro n w _ _ h;omega
 | succ k ih=>
   intro n w hn0 hn hk;have h2:2≤b:=by omega
   by_cases h:n<B
   ·rw [spell_lt (by omega)];by_cases hz:0≤n
    ·have e1:=signs ⟨n.toNat,by omega⟩;have e2:n.toNat+1=(n+1).toNat:=by omega
     have mx:max n 0=n:=by omega
     simp only [e2] at e1;clear e2;rcases hb with ⟨rfl,rfl⟩ | ⟨rfl,rfl⟩;all_goals
      go_enter Tryz.func89,Tryz.ntmps89;go_wp2_with fail;go_ret;exact ⟨rfl,0,rfl⟩
    ·have mx:max n 0=0:=by omega
     have e1:(ByteArray.mk #[48,49,50,51,52,53,54,55,56,57,97,98,99,100,101,102]).extract 0 1=str [sign 0]:=by decide +kernel
     have e3:n.toNat=0:=by omega
     rw [e3];rcases hb with ⟨rfl,rfl⟩ | ⟨rfl,rfl⟩;all_goals
      go_enter Tryz.func89,Tryz.ntmps89;go_wp2_with fail;go_ret;exact ⟨rfl,0,rfl⟩
   ·rw [spell_ge h2 (by omega)]
    have l1:=spell_len h2 64 (n.toNat/b) (by have:=div_less h2 (by omega:b≤n.toNat);omega) (by omega)
    have h3:=Lib.hid (ih (n/B))
    have h4:=Lib.hid (ih (n%B));have hi:B≤n:=by omega
    have c1:(n/B).toNat=n.toNat/b:=by rcases hb with ⟨rfl,rfl⟩ | ⟨rfl,rfl⟩<;>omega
    have c2:(n%B).toNat=n.toNat%b:=by rcases hb with ⟨rfl,rfl⟩ | ⟨rfl,rfl⟩<;>omega
    have w1:IntKind.i64.wrap (n/B)=n/B:=wrap_in _ (by rcases hb with ⟨rfl,rfl⟩ | ⟨rfl,rfl⟩<;>omega) (by rcases hb with ⟨rfl,rfl⟩ | ⟨rfl,rfl⟩<;>omega)
    have w2:IntKind.i64.wrap (n%B)=n%B:=wrap_in _ (by rcases hb with ⟨rfl,rfl⟩ | ⟨rfl,rfl⟩<;>omega) (by rcases hb with ⟨rfl,rfl⟩ | ⟨rfl,rfl⟩<;>omega)
    have w3:(n.tdiv B)=n/B:=Int.tdiv_eq_ediv_of_nonneg (by omega)
    have w4:(n.tmod B)=n%B:=Int.tmod_eq_emod_of_nonneg (by omega)
    have hs:spell b (n%B).toNat= [sign (n%B).toNat]:=spell_lt (by rcases hb with ⟨rfl,rfl⟩ | ⟨rfl,rfl⟩<;>omega);rw [←c1,←c2];rw [←c1] at l1;have z1:(str (spell b (n/B).toNat)).size≤64:=by rw [str_size];exact l1
    have z2:(str [sign (n%B).toNat]).size=1:=rfl;have z3:¬9223372036854775807<(str (spell b (n/B).toNat)).size+(str [sign (n%B).toNat]).size:=by omega
    have hj:str (spell b (n/B).toNat ++ [sign (n%B).toNat])=str (spell b (n/B).toNat)++str [sign (n%B).toNat]:=str_app _ _;rw [hj]
    have h3':Hid (∀w,Calls Tryz.prog 89 #[.int .i64 (n/B),.int .i64 B] w fun e w'=>e=.returned (.string (str (spell b (n/B).toNat)))∧∃m,w'=w.drewN m):=Lib.hid (fun w=>h3.out w (by rcases hb with ⟨rfl,rfl⟩ | ⟨rfl,rfl⟩<;>omega) (by rcases hb with ⟨rfl,rfl⟩ | ⟨rfl,rfl⟩<;>omega) (by rcases hb with ⟨rfl,rfl⟩ | ⟨rfl,rfl⟩<;>omega))
    have h4':Hid (∀w,Calls Tryz.prog 89 #[.int .i64 (n%B),.int .i64 B] w fun e w'=>e=.returned (.string (str [sign (n%B).toNat]))∧∃m,w'=w.drewN m):=Lib.hid (fun w=>by rw [←hs];exact h4.out w (by rcases hb with ⟨rfl,rfl⟩ | ⟨rfl,rfl⟩<;>omega) (by rcases hb with ⟨rfl,rfl⟩ | ⟨rfl,rfl⟩<;>omega) (by rcases hb with ⟨rfl,rfl⟩ | ⟨rfl,rfl⟩<;>omega));generalize str (spell b (n/B).toNat)=A at *;generalize str [sign (n%B).toNat]=D at *;clear ih h h2 h3 h4 l1 hs hj c1 c2;rcases hb with ⟨rfl,rfl⟩ | ⟨rfl,rfl⟩;all_goals
     go_enter Tryz.func89,Tryz.ntmps89;go_wp2_with fail
     go_quiet ((first |(go_at_call 89;with_reducible exact Calls.quiet_of (h3'.out _)) |(go_at_call 89;with_reducible exact Calls.quiet_of (h4'.out _))));go_wp2_with fail;go_ret;exact ⟨rfl,_,rfl⟩
end code
end Go.Proofs.YtldhlecknfomjaaGreatDoor.Num
namespace Go.Proofs.YtldhlecknfomjaaGreatDoor.Num
open Go.RowKit Base Oct
theorem cut_one (s:ByteArray) (h:0<s.size):s.data.toList=s[0]::(s.extract 1 s.size).data.toList:=by
 have e:(s.extract 1 s.size).data.toList=s.data.toList.drop 1:=by rw [ByteArray.data_extract];simp only [Array.toList_extract,List.extract];rw [List.take_of_length_le (by simp)]
 rw [e];cases s with
 | mk a=>cases a with
   | mk l=>cases l with
     | nil=>exact absurd h (by decide)
     | cons c r=>rfl
section code
set_option maxHeartbeats 800000
theorem add_any (B:Int) (hB:B=10∨B=16) (most:Int) (hm:0≤most) (hM:most≤9223372036854775807) (k:Nat):∀(n:Int) (s:ByteArray) (w:World),s.size<k→0≤n→n≤most→
 Calls Tryz.prog 304 #[.int .i64 n,.string s,.int .i64 B,.int .i64 most] w fun e w'=>e=.returned (.tuple #[.int .i64 (ofGrow (grow B most n s.data.toList)).1,.int .i64 (ofGrow (grow B most n s.data.toList)).2])∧w'=w:=by
 induction k with
 | zero=>intro n s w h _ _;omega
 | succ k ih=>
   intro n s w hs hn hle;by_cases h:s.size=0
   ·have e0:s.data.toList= []:=by
     apply List.eq_nil_of_length_eq_zero;simpa using h
    have e1:s.toList= []:=by rw [Go.ByteArray.toList_eq,e0]
    rw [e0];clear ih;go_enter Tryz.func304,Tryz.ntmps304;go_wp2_with fail;go_ret2;exact ⟨rfl,rfl⟩
   ·have hp:0<s.size:=by omega
    have hne:s.toList.isEmpty=false:=by rw [Go.ByteArray.toList_eq,cut_one s hp];rfl
    have b1:=byte_lt s[0];have b0:(0:Int)≤(s[0].toNat:Int):=by omega
    obtain ⟨d,hd⟩:∃d,d=dig s[0]:=⟨_,rfl⟩
    have hx:Hid (∀w,Calls Tryz.prog 319 #[.int .u8 (s[0].toNat:Int)] w fun e w'=>e=.returned (.tuple #[.int .i64 d,.bool (isHex (s[0].toNat:Int))])∧w'=w):=Lib.hid (fun w=>by rw [hd];exact hex_any _ w b0 b1);have d0:0≤d:=by rw [hd];exact dig_nonneg _
    have d1:d≤15:=by rw [hd];exact dig_le _
    have hcut:=cut_one s hp;have hz:(s.extract 1 s.size).size<k:=by rw [ByteArray.size_extract];omega
    rw [hcut];simp only [grow];rw [←hd]
    have IH:=Lib.hid (ih (n*B+d) (s.extract 1 s.size));clear ih hcut hd;by_cases hA:most<d
    ·rw [if_pos (.inl hA)];go_enter Tryz.func304,Tryz.ntmps304
     go_wp2_with (go_at_call 319;with_reducible refine (hx.out _).mono ?_;rintro e w' ⟨rfl,rfl⟩);go_ret2;exact ⟨rfl,rfl⟩
    ·have hA':d≤most:=by omega
     have w1:IntKind.i64.wrap (most-d)=most-d:=wrap_in _ (by omega) (by omega);have w1':wrap64 (most-d)=most-d:=by unfold wrap64;omega
     have w2:(most-d).tdiv B=(most-d)/B:=Int.tdiv_eq_ediv_of_nonneg (by omega)
     have w3:IntKind.i64.wrap ((most-d)/B)=(most-d)/B:=wrap_in _ (by rcases hB with rfl | rfl<;>omega) (by rcases hB with rfl | rfl<;>omega);have w3':wrap64 ((most-d)/B)=(most-d)/B:=by rw [←w3,IntKind.wrap_i64];unfold wrap64;rcases hB with rfl | rfl<;>omega
     have hB0:¬B=0:=by omega
     by_cases hC:(most-d)/B<n
     ·rw [if_pos (.inr hC)];rcases hB with rfl | rfl;all_goals
       go_enter Tryz.func304,Tryz.ntmps304
       go_wp2_with (go_at_call 319;with_reducible refine (hx.out _).mono ?_;rintro e w' ⟨rfl,rfl⟩);go_ret2;exact ⟨rfl,rfl⟩
     ·rw [if_neg (by omega)];have hmul:n*B+d≤most:=by
       have:=room (base:=B) (most:=most) (by omega) n d hn;omega
      have hnb:0≤n*B:=Int.mul_nonneg hn (by omega)
      have IH':=Lib.hid (fun w=>IH.out w hz (by omega) hmul);clear IH;generalize ofGrow (grow B most (n*B+d) (s.extract 1 s.size).data.toList)=R at IH' ⊢;rcases hB with rfl | rfl;all_goals
       go_enter Tryz.func304,Tryz.ntmps304
       go_wp2_with (first
        |(go_at_call 319;with_reducible refine (hx.out _).mono ?_;rintro e w' ⟨rfl,rfl⟩)
        |(go_at_call 304;with_reducible refine (IH'.out _).mono ?_;rintro e w' ⟨rfl,rfl⟩))
       go_ret2;exact ⟨rfl,rfl⟩
theorem read_any (B K:Int) (hB:B=10∧K=4∨B=16∧K=5) (most:Int) (hM:most≤9223372036854775807) (s:ByteArray) (w:World) (hs:s.size≤maxLen) :
 Calls Tryz.prog 281 #[.string s,.int .i64 K,.int .i64 B,.int .i64 most] w fun e w'=>e=.returned (.tuple #[.int .i64 (readOf B most s.data.toList).1,.int .i64 (readOf B most s.data.toList).2])∧Below w.heap.size w w':=by
 have hk:allOf [K] s.data.toList=s.data.toList.all (digitOf B):=by
  rcases hB with ⟨rfl,rfl⟩ | ⟨rfl,rfl⟩
  ·exact all_dec _
  ·exact all_hex _
 have hB':B=10∨B=16:=by omega
 by_cases h:s.data.toList= []
 ·have e1:s.toList= []:=by rw [Go.ByteArray.toList_eq,h]
  rw [h];clear hk;go_enter Tryz.func281,Tryz.ntmps281;go_wp2_with fail;go_ret2;exact ⟨rfl,Below.refl _ _⟩
 ·have hne:s.toList.isEmpty=false:=by rw [Go.ByteArray.toList_eq];simpa using h
  have hne':s.data.toList.isEmpty=false:=by simpa using h
  unfold readOf;rw [hne'];cases ha:s.data.toList.all (digitOf B) with
  | false=>
    rw [ha] at hk;have HK:=Lib.hid hk;clear hk ha hne' h;go_enter Tryz.func281,Tryz.ntmps281
    go_wp2_with (go_at_call 268;(with_reducible refine (all_any _ _ 1 1 [K] _ ?_ ?_ ?_).mono ?_);assumption;(exact Ints.one _ _ (by simp) _ _);decide;rw [HK.out];rintro e w' ⟨rfl,rfl⟩);go_ret2;exact ⟨rfl,(Below.refl _ _).alloc (Nat.le_refl _) _⟩
  | true=>
    rw [ha] at hk;have HK:=Lib.hid hk;have hm0:0≤max most 0:=by omega
    have hg:=grow_noughts (base:=B) (most:=max most 0) (by omega) hm0 s.data.toList
    have hadd:=Lib.hid (add_any B hB' (max most 0) hm0 (by omega) ((str (Lib.trimLeftB s.data.toList 48)).size+1) 0 (str (Lib.trimLeftB s.data.toList 48)));have hd:(str (Lib.trimLeftB s.data.toList 48)).data.toList=Lib.trimLeftB s.data.toList 48:=rfl
    have hadd':Hid (∀w,Calls Tryz.prog 304 #[.int .i64 0,.string (str (Lib.trimLeftB s.data.toList 48)),.int .i64 B,.int .i64 (max most 0)] w fun e w'=>e=.returned (.tuple #[.int .i64 (ofGrow (grow B (max most 0) 0 s.data.toList)).1,.int .i64 (ofGrow (grow B (max most 0) 0 s.data.toList)).2])∧w'=w):=Lib.hid (fun w=>by
     have:=hadd.out w (by omega) (by omega) hm0
     rwa [hd,hg] at this)
    have htr:Hid (∀w,Calls Tryz.prog 305 #[.string s,.string ⟨#[48]⟩] w fun e w'=>e=.returned (.string (str (Lib.trimLeftB s.data.toList 48)))∧w'=w):=Lib.hid (fun w=>Tryz.strings_TrimLeft_one s 48 (by decide) w);clear hadd hd hg hk ha hne' h;simp only [Bool.not_true,Bool.or_false,Bool.false_eq_true,if_false];generalize str (Lib.trimLeftB s.data.toList 48)=T at hadd' htr;generalize ofGrow (grow B (max most 0) 0 s.data.toList)=R at hadd' ⊢;generalize hmx:max most 0=M at *;go_enter Tryz.func281,Tryz.ntmps281
    go_wp2_with (first
     |(go_at_call 268;(with_reducible refine (all_any _ _ 1 1 [K] _ ?_ ?_ ?_).mono ?_);assumption;(exact Ints.one _ _ (by simp) _ _);decide;rw [HK.out];rintro e w' ⟨rfl,rfl⟩)
     |(go_at_call 305;with_reducible refine (htr.out _).mono ?_;rintro e w' ⟨rfl,rfl⟩)
     |(go_at_call 304;with_reducible refine (hadd'.out _).mono ?_;rintro e w' ⟨rfl,rfl⟩))
    go_ret2;exact ⟨rfl,(Below.refl _ _).alloc (Nat.le_refl _) _⟩
theorem dec_any (most:Int) (hM:most≤9223372036854775807) (s:ByteArray) (w:World) (hs:s.size≤maxLen) :
 Calls Tryz.prog 302 #[.string s,.int .i64 most] w fun e w'=>e=.returned (.tuple #[.int .i64 (readOf 10 most s.data.toList).1,.int .i64 (readOf 10 most s.data.toList).2])∧Below w.heap.size w w':=by
 have h:=Lib.hid (fun w=>read_any 10 4 (by omega) most hM s w hs);generalize readOf 10 most s.data.toList=R at h ⊢;go_enter Tryz.func302,Tryz.ntmps302
 go_wp2_with (go_at_call 281;with_reducible refine (h.out _).mono ?_;rintro e w1 ⟨rfl,hb⟩);go_ret2;exact ⟨rfl,hb⟩
theorem hexN_any (most:Int) (hM:most≤9223372036854775807) (s:ByteArray) (w:World) (hs:s.size≤maxLen) :
 Calls Tryz.prog 255 #[.string s,.int .i64 most] w fun e w'=>e=.returned (.tuple #[.int .i64 (readOf 16 most s.data.toList).1,.int .i64 (readOf 16 most s.data.toList).2])∧Below w.heap.size w w':=by
 have h:=Lib.hid (fun w=>read_any 16 5 (by omega) most hM s w hs);generalize readOf 16 most s.data.toList=R at h ⊢;go_enter Tryz.func255,Tryz.ntmps255
 go_wp2_with (go_at_call 281;with_reducible refine (h.out _).mono ?_;rintro e w1 ⟨rfl,hb⟩);go_ret2;exact ⟨rfl,hb⟩
theorem put_any (n:Int) (w:World) (h1:n≤9223372036854775807):Calls Tryz.prog 130 #[.int .i64 n] w fun e w'=>e=.returned (.string (str (spell 10 n.toNat)))∧∃m,w'=w.drewN m:=by
 have h:=Lib.hid (fun w=>spell_any 10 10 (by omega) (n.toNat+1) (max n 0) w (by omega) (by omega) (by omega));have e0:(max n 0).toNat=n.toNat:=by omega
 rw [e0] at h;generalize hm:max n 0=M at h;go_enter Tryz.func130,Tryz.ntmps130
 go_wp2_with (go_at_call 162;with_reducible refine (h.out _).mono ?_;rintro e w1 ⟨rfl,m,rfl⟩);go_ret;exact ⟨rfl,m,rfl⟩
theorem putHex_any (n:Int) (w:World) (h1:n≤9223372036854775807):Calls Tryz.prog 122 #[.int .i64 n] w fun e w'=>e=.returned (.string (str (spell 16 n.toNat)))∧∃m,w'=w.drewN m:=by
 have h:=Lib.hid (fun w=>spell_any 16 16 (by omega) (n.toNat+1) (max n 0) w (by omega) (by omega) (by omega));have e0:(max n 0).toNat=n.toNat:=by omega
 rw [e0] at h;generalize hm:max n 0=M at h;go_enter Tryz.func122,Tryz.ntmps122
 go_wp2_with (go_at_call 162;with_reducible refine (h.out _).mono ?_;rintro e w1 ⟨rfl,m,rfl⟩);go_ret;exact ⟨rfl,m,rfl⟩
theorem rput_any (n:Int) (w:World) (h0: -9223372036854775808≤n) (h1:n≤9223372036854775807):Calls Tryz.prog 33 #[.int .i64 n] w fun e w'=>e=.returned (.string (str (spell 10 n.toNat)))∧∃m,w'=w.drewN m:=by
 have h:=Lib.hid (fun w=>rspell_any 10 10 (by omega) (n.toNat+1) n w h0 (by omega) (by omega));go_enter Tryz.func33,Tryz.ntmps33
 go_wp2_with (go_at_call 89;with_reducible refine (h.out _).mono ?_;rintro e w1 ⟨rfl,m,rfl⟩);go_ret;exact ⟨rfl,m,rfl⟩
end code
end Go.Proofs.YtldhlecknfomjaaGreatDoor.Num
namespace Go.Proofs.YtldhlecknfomjaaGreatDoor.Num
open Go.RowKit Base Oct
def Far (B M:Int) (l:List UInt8) (n:Int) (over:Bool):Prop:=l.all (digitOf B)=true∧0≤n∧n≤M∧grow B M 0 l=if over=true then none else some n
section code
set_option maxHeartbeats 1000000
end code
end Go.Proofs.YtldhlecknfomjaaGreatDoor.Num
namespace Go.Proofs.YtldhlecknfomjaaGreatDoor.Num
open Go.RowKit Base Oct
section code
set_option maxHeartbeats 1000000
end code
end Go.Proofs.YtldhlecknfomjaaGreatDoor.Num
namespace Go.Proofs.YtldhlecknfomjaaGreatDoor.Tgt
open Go.RowKit Base Txt
def cutAt (c:UInt8):List UInt8→List UInt8 × List UInt8 × Bool
 | []=>([],[],false)
 | b::l=>if b=c then ([],l,true) else (b::(cutAt c l).1,(cutAt c l).2.1,(cutAt c l).2.2)
theorem cutAt_none (c:UInt8):∀l:List UInt8,c∉l→cutAt c l=(l,[],false)
 | [],_=>rfl
 | b::l,h=>by
   simp only [List.mem_cons,not_or] at h;rw [cutAt,if_neg (fun e=>h.1 e.symm),cutAt_none c l h.2]
theorem cutAt_app (c:UInt8):∀(a r:List UInt8),c∉a→cutAt c (a++c::r)=(a,r,true)
 | [],r,_=>by rw [List.nil_append,cutAt,if_pos rfl]
 | b::a,r,h=>by
   simp only [List.mem_cons,not_or] at h;rw [List.cons_append,cutAt,if_neg (fun e=>h.1 e.symm),cutAt_app c a r h.2]
theorem cut_cases (c:UInt8):∀l:List UInt8,c∉l∨∃a r,l=a++c::r∧c∉a
 | []=>.inl (by simp)
 | b::l=>by
   by_cases h:b=c
   ·exact .inr ⟨[],l,by rw [h];rfl,by simp⟩
   ·rcases cut_cases c l with h1 | ⟨a,r,h1,h2⟩
    ·exact .inl (by simp only [List.mem_cons,not_or];exact ⟨fun e=>h e.symm,h1⟩)
    ·exact .inr ⟨b::a,r,by rw [h1];rfl,by simp only [List.mem_cons,not_or];exact ⟨fun e=>h e.symm,h2⟩⟩
theorem cutAt_le (c:UInt8) (l:List UInt8):(cutAt c l).1.length≤l.length∧(cutAt c l).2.1.length≤l.length:=by
 rcases cut_cases c l with h | ⟨a,r,rfl,h⟩
 ·rw [cutAt_none c l h];simp
 ·rw [cutAt_app c a r h];simp;omega
theorem idx_cut (c:UInt8) (l:List UInt8):(Lib.indexByte l c= -1∧cutAt c l=(l,[],false))∨∃i:Nat,i<l.length∧Lib.indexByte l c=(i:Int)∧cutAt c l=(l.take i,l.drop (i+1),true):=by
 by_cases h:Lib.indexByte l c= -1
 ·refine .inl ⟨h,cutAt_none c l fun hm=>?_⟩;obtain ⟨k,hk,e⟩:=List.getElem_of_mem hm
  exact Lib.indexByte_none h k (by rw [List.getElem?_eq_getElem hk,e])
 ·have h0:=Lib.indexByte_ge l c;obtain ⟨i,hi⟩:∃i:Nat,Lib.indexByte l c=i:=⟨(Lib.indexByte l c).toNat,by omega⟩;obtain ⟨g1,g2⟩:=Lib.indexByte_some hi;have hlt:i<l.length:=by
   rcases Nat.lt_or_ge i l.length with h | h
   ·exact h
   ·rw [List.getElem?_eq_none h] at g1;cases g1
  have hc:l[i]=c:=by rw [List.getElem?_eq_getElem hlt] at g1;exact Option.some.inj g1
  refine .inr ⟨i,hlt,hi,?_⟩;have e1:l=l.take i++c::l.drop (i+1):=by conv=>lhs;rw [←List.take_append_drop i l,List.drop_eq_getElem_cons hlt,hc]
  have hno:c∉l.take i:=fun hm=>by
   obtain ⟨k,hk,e⟩:=List.getElem_of_mem hm;have hk':k<i:=by simp at hk;omega
   exact g2 k hk' (by rw [List.getElem?_eq_getElem (by omega)];rw [List.getElem_take] at e;rw [e])
  conv=>lhs;rw [e1]
  exact cutAt_app c _ _ hno
section code
set_option maxHeartbeats 8000000
set_option maxRecDepth 1000000
theorem cutLite_any (s:ByteArray) (c:UInt8) (w:World) (hs:s.size≤1000000000) :
 Calls Tryz.prog 303 #[.string s,.string ⟨#[c]⟩] w fun e w'=>e=.returned (.tuple #[.string (ba (cutAt c s.data.toList).1),.string (ba (cutAt c s.data.toList).2.1),.bool (cutAt c s.data.toList).2.2])∧∃n,w'=w.drewN n:=by
 have HI:=Lib.hid (fun w=>Tryz.stringslite_Index_one s c w);rcases idx_cut c s.data.toList with ⟨h1,h2⟩ | ⟨i,h0,h1,h2⟩
 ·rw [h1] at HI;rw [h2];clear h1 h2;go_enter Tryz.func303,Tryz.ntmps303
  go_wp2_with (go_at_call 264;with_reducible refine (HI.out _).mono ?_;rintro e w1 ⟨rfl,hw⟩;rw [hw];clear hw);go_ret3;exact ⟨rfl,0,rfl⟩
 ·rw [h1] at HI;rw [h2];rw [len] at h0;have c0:(0:Int)≤(i:Int):=by omega
  have c1:(i:Int)≤(s.size:Int):=by omega
  have c2:IntKind.i64.wrap ((i:Int)+1)=((i+1:Nat):Int):=by rw [wrap_in _ (by omega) (by omega)];omega
  have c3:((i+1:Nat):Int)≤(s.size:Int):=by omega
  have e1:s.extract 0 i=ba (s.data.toList.take i):=ba_ext (by rw [Lib.extract_data];simp [ba])
  have e2:s.extract (i+1) s.size=ba (s.data.toList.drop (i+1)):=ba_ext (by rw [Lib.extract_data,List.take_of_length_le (by rw [List.length_drop,len];omega)];rfl);simp only;rw [←e1,←e2];clear h1 h2 e1 e2;go_enter Tryz.func303,Tryz.ntmps303
  go_wp2_with (go_at_call 264;with_reducible refine (HI.out _).mono ?_;rintro e w1 ⟨rfl,hw⟩;rw [hw];clear hw)
  go_quiet (fail);rename_i nq;go_wp2;go_ret3;exact ⟨rfl,nq,rfl⟩
theorem cut_any (s:ByteArray) (c:UInt8) (w:World) (hs:s.size≤1000000000) :
 Calls Tryz.prog 276 #[.string s,.string ⟨#[c]⟩] w fun e w'=>e=.returned (.tuple #[.string (ba (cutAt c s.data.toList).1),.string (ba (cutAt c s.data.toList).2.1),.bool (cutAt c s.data.toList).2.2])∧∃n,w'=w.drewN n:=by
 have HI:=Lib.hid (fun w=>cutLite_any s c w hs);generalize cutAt c s.data.toList=r at *;go_enter Tryz.func276,Tryz.ntmps276
 go_wp2_with (go_at_call 303;with_reducible refine (HI.out _).mono ?_;rintro e w1 ⟨rfl,n,hw⟩;rw [hw];clear hw);go_ret3;exact ⟨rfl,n,rfl⟩
end code
end Go.Proofs.YtldhlecknfomjaaGreatDoor.Tgt
