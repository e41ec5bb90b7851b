import Derived.Test.YtimoakmcelocfaaGreatAyh
namespace Go.Proofs.YtimoakmcelocfaaGreat.Txt
open Go.RowKit Base Oct
theorem drop_at (l:List UInt8) (f k:Nat) (hfk:f≤k) (hk:k<l.length):l.drop f=(l.take k).drop f++l[k]::l.drop (k+1):=by conv=>lhs;rw [←List.take_append_drop k l,List.drop_append_of_le_length (by rw [List.length_take];omega),List.drop_eq_getElem_cons hk]
theorem mid_snoc (l:List UInt8) (f k:Nat) (hfk:f≤k) (hk:k<l.length):(l.take (k+1)).drop f=(l.take k).drop f ++ [l[k]]:=by rw [List.take_succ_eq_append_getElem hk,List.drop_append_of_le_length (by rw [List.length_take];omega)]
section code
set_option maxHeartbeats 1000000
set_option maxRecDepth 10000
attribute [local go_sem] Base.some_undef
theorem rsplit_own (s:ByteArray) (c:UInt8) (w:World) (hs:s.size≤1000000000) :
 Calls Tryz.prog 117 #[.string s,.int .u8 c.toNat] w fun e w'=>∃g n k,e=.returned (.slice (some ⟨g,0,none⟩) n k)∧w.heap.size≤g∧n=(parts c s.data.toList).length∧Strs w' (some ⟨g,0,none⟩) n ((parts c s.data.toList).map ba)∧w.heap.size<w'.heap.size∧Below w.heap.size w w':=by
 obtain ⟨i0,hi,hz0,hz1,hz2⟩:=info_parts text_info;have G1:=Lib.hid hi;have G2:=Lib.hid hz0;have G3:=Lib.hid hz1;have G4:=Lib.hid hz2;clear hi hz0 hz1 hz2;have hpl:=parts_le c s.data.toList;rw [len] at hpl;have hp1:0<(parts c s.data.toList).length:=by rw [parts_length];omega
 go_enter Tryz.func117,Tryz.ntmps117;go_wp2
 go_loopw [5,6,7] (fun v f i wr=>∃(k fr:Nat) (done:List (List UInt8)),f=.int .i64 fr∧i=.int .i64 k∧done.length≤k∧Hid (wr.ownsRow w.heap.size 9 1 v done.length ((done.map ba).map Value.string))∧Hid (Below w.heap.size w wr)∧
  ((fr≤k∧k≤s.size∧Hid (done++parts c (s.data.toList.drop fr)=parts c s.data.toList)∧Hid (c∉(s.data.toList.take k).drop fr))∨(k=s.size+1∧Hid (done=parts c s.data.toList)))) (fun _ _ i _=>s.size+1-(intOf i).toNat)
 case atStart=>exact ⟨0,0,[],rfl,rfl,Nat.le_refl _,Lib.hid ⟨rfl,.inl ⟨rfl,rfl⟩⟩,Lib.hid (Below.refl _ _),.inl ⟨Nat.le_refl _,Nat.zero_le _,Lib.hid rfl,Lib.hid (by simp)⟩⟩
 case round=>
  obtain ⟨k,fr,done,rfl,rfl,hdl,hown,hbr,hcase⟩:=hrel;rcases hcase with ⟨hfk,hks,hdone,hno⟩ | ⟨rfl,hdone⟩
  ·have t0:(k:Int)≤(s.size:Int):=by omega
   have t1:(fr:Int)≤(k:Int):=by omega
   have t9:wrap64 ((k:Int)+1)=(k:Int)+1:=by unfold wrap64;omega
   rcases Nat.lt_or_ge k s.size with hlt | hge
   ·have hll:k<s.data.toList.length:=by rw [len];exact hlt
    have t2:(k:Int)<(s.size:Int):=by omega
    have t3:((k:Int)==(s.size:Int))=false:=beq_eq_false_iff_ne.2 (by omega);by_cases hc:s.data.toList[k]=c
    ·have t4:((s[k].toNat:Int)==(c.toNat:Int))=true:=by rw [show s[k]=c from hc];exact beq_self_eq_true _
     have hcut:=parts_cut c ((s.data.toList.take k).drop fr) (s.data.toList.drop (k+1)) hno.out;rw [←hc,←drop_at _ _ _ hfk hll,hc] at hcut
     have hx:(s.extract fr k)=ba ((s.data.toList.take k).drop fr):=ba_ext (by rw [Lib.extract_data];show _=(s.data.toList.take k).drop fr;rw [List.drop_take]);have HX:=Lib.hid hx
     have HD:=Lib.hid (show (done ++ [(s.data.toList.take k).drop fr])++parts c (s.data.toList.drop (k+1))=parts c s.data.toList by rw [←hdone.out,hcut,List.append_assoc];rfl);clear hcut hx hc hno;generalize (s.data.toList.take k).drop fr=p at *
     go_wp2_with (at_builtin;refine wpList_append_own _ rfl _ _ 89 rfl w.heap.size 9 i0 (.string ByteArray.empty) 1 16 Tryz.underlying89 G1.out G2.out G3.out G4.out rfl (by decide) _ _ _ rfl (hown.out.alloc _) ⟨wr.heap.size,0,none⟩ 1 1 [.string (s.extract fr k)] rfl rfl ?c1 ?c2 ?c3 ?c4 ?c5 ?_)
     case c1=>exact news_one wr _ _
     case c2=>intro u hu;obtain rfl:u=.string (s.extract fr k):=by simpa using hu
              rfl
     case c3=>unfold maxLen;omega
     case c4=>omega
     case c5=>have:=hbr.out.size;simp;omega
     intro v' w' hown' hgr _
     have H1:Hid (w'.ownsRow w.heap.size 9 1 v' (done ++ [p]).length (((done ++ [p]).map ba).map Value.string)):=Lib.hid (by rw [HX.out] at hown';simpa using hown')
     have H2:=Lib.hid ((hbr.out.alloc hbr.out.size _).grown hgr (by have:=hbr.out.size;simp;omega) (own_base hown.out));have hdl2:(done ++ [p]).length≤k+1:=by rw [List.length_append];simp;omega
     clear hown' hgr;go_wp2;go_roundw
     case rel=>exact ⟨k+1,k+1,done ++ [p],by go_num,by go_num,hdl2,H1,H2,.inl ⟨Nat.le_refl _,by omega,HD,Lib.hid (by rw [List.drop_eq_nil_of_le (by rw [List.length_take];omega)];simp)⟩⟩
     case measure=>simp [intOf];omega
    ·have t4:((s[k].toNat:Int)==(c.toNat:Int))=false:=beq_eq_false_iff_ne.2 (fun e=>hc (show s[k]=c from UInt8.toNat_inj.1 (by omega)))
     have HN:=Lib.hid (show c∉(s.data.toList.take (k+1)).drop fr by
      rw [mid_snoc _ _ _ hfk hll,List.mem_append]
      rintro (h | h)
      ·exact hno.out h
      ·exact hc (List.mem_singleton.1 h).symm)
     clear hno;go_wp2;go_roundw
     case rel=>exact ⟨k+1,fr,done,rfl,by go_num,by omega,hown,hbr,.inl ⟨by omega,by omega,hdone,HN⟩⟩
     case measure=>simp [intOf];omega
   ·obtain rfl:k=s.size:=by omega
    ·have t3:((s.size:Int)==(s.size:Int))=true:=beq_self_eq_true _;have hno':=hno.out;rw [take_all s _ (Nat.le_refl _)] at hno';have hcut:=parts_none c (s.data.toList.drop fr) hno'
     have hx:(s.extract fr s.size)=ba (s.data.toList.drop fr):=ba_ext (by rw [Lib.extract_data,List.take_of_length_le (by rw [List.length_drop,len];exact Nat.le_refl _)];rfl);have HX:=Lib.hid hx
     have HD:=Lib.hid (show done ++ [s.data.toList.drop fr]=parts c s.data.toList by rw [←hdone.out,hcut]);clear hcut hx hno hno';generalize s.data.toList.drop fr=p at *;generalize hk:s.size=k at *
     go_wp2_with (at_builtin;refine wpList_append_own _ rfl _ _ 89 rfl w.heap.size 9 i0 (.string ByteArray.empty) 1 16 Tryz.underlying89 G1.out G2.out G3.out G4.out rfl (by decide) _ _ _ rfl (hown.out.alloc _) ⟨wr.heap.size,0,none⟩ 1 1 [.string (s.extract fr k)] rfl rfl ?c1 ?c2 ?c3 ?c4 ?c5 ?_)
     case c1=>exact news_one wr _ _
     case c2=>intro u hu;obtain rfl:u=.string (s.extract fr k):=by simpa using hu
              rfl
     case c3=>unfold maxLen;omega
     case c4=>omega
     case c5=>have:=hbr.out.size;simp;omega
     intro v' w' hown' hgr _
     have H1:Hid (w'.ownsRow w.heap.size 9 1 v' (done ++ [p]).length (((done ++ [p]).map ba).map Value.string)):=Lib.hid (by rw [HX.out] at hown';simpa using hown')
     have H2:=Lib.hid ((hbr.out.alloc hbr.out.size _).grown hgr (by have:=hbr.out.size;simp;omega) (own_base hown.out));have hdl2:(done ++ [p]).length≤k+1:=by rw [List.length_append];simp;omega
     clear hown' hgr;go_wp2;go_roundw
     case rel=>exact ⟨k+1,k+1,done ++ [p],by go_num,by go_num,hdl2,H1,H2,.inr ⟨rfl,HD⟩⟩
     case measure=>(simp [intOf]<;>omega)
  ·have t0:¬((s.size:Int)+1≤(s.size:Int)):=by omega
   have hdn:=hdone.out;subst hdn;obtain ⟨g,cap,rfl,hg0,hg1⟩:=hown.out.form hp1
   have HS:=Lib.hid (show Strs wr (some ⟨g,0,none⟩) (parts c s.data.toList).length ((parts c s.data.toList).map ba) by
    obtain ⟨A,cc,e,hS⟩:=Strs.of_own (ss:=(parts c s.data.toList).map ba) hown.out;obtain ⟨rfl,rfl⟩:some ⟨g,0,none⟩=A∧cap=cc:=by simpa using e
    exact hS)
   clear hown hdone;go_wp2;go_ret;exact ⟨g,_,⟨cap,rfl⟩,hg0,rfl,HS.out,by omega,hbr.out⟩
theorem rsplit44 (s:ByteArray) (w:World) (hs:s.size≤1000000000) :
 Calls Tryz.prog 117 #[.string s,.int .u8 44] w fun e w'=>∃g n k,e=.returned (.slice (some ⟨g,0,none⟩) n k)∧w.heap.size≤g∧n=(parts 44 s.data.toList).length∧Strs w' (some ⟨g,0,none⟩) n ((parts 44 s.data.toList).map ba)∧w.heap.size<w'.heap.size∧Below w.heap.size w w':=
 rsplit_own s 44 w hs
theorem rlist_own (a:Option Addr) (n cap:Nat) (vs:List ByteArray) (w:World) (hv:Strs w a n vs) (hr:room vs≤1000000000) :
 Calls Tryz.prog 123 #[.slice a n cap] w fun e w'=>∃v,e=.returned v∧w'.ownsRow w.heap.size 9 1 v (list vs).length ((list vs).map Value.string)∧Below w.heap.size w w':=by
 have hle:=list_le vs;have hnr:=len_room vs;rw [hv.1] at hnr;have HV:=Lib.hid hv;have HL:=Lib.hid hv.1;clear hv;obtain ⟨i0,hi,hz0,hz1,hz2⟩:=info_parts text_info;have G1:=Lib.hid hi;have G2:=Lib.hid hz0;have G3:=Lib.hid hz1;have G4:=Lib.hid hz2;clear hi hz0 hz1 hz2;go_enter Tryz.func123,Tryz.ntmps123;go_wp2
 go_loopw [3,4] (fun v i wr=>∃k:Nat,k≤n∧i=.int .i64 k∧Hid (wr.ownsRow w.heap.size 9 1 v (list (vs.take k)).length ((list (vs.take k)).map Value.string))∧Hid (Below w.heap.size w wr)) (fun _ i _=>n-(intOf i).toNat)
 case atStart=>exact ⟨0,Nat.zero_le _,rfl,Lib.hid ⟨rfl,.inl ⟨rfl,rfl⟩⟩,Lib.hid (Below.refl _ _)⟩
 case round=>
  obtain ⟨k,hk,rfl,hown,hbr⟩:=hrel;rcases Nat.lt_or_ge k n with hlt | hge
  ·obtain ⟨bl,off,rfl,_,hc⟩:=(HV.out.below hbr.out).2 (by omega);have hck:=hc k hlt
   have hsn:=Lib.hid (list_snoc vs k (by rw [HL.out];exact hlt))
   have hle1:=list_take_le vs (k+1);rw [hsn.out,List.length_append] at hle1;have hsz:(vs[k]?.getD ByteArray.empty).size≤1000000000:=by
    have:k<vs.length:=by rw [HL.out];exact hlt
    rw [List.getElem?_eq_getElem this];have h2:(vs[k].size+1)≤room vs:=by exact room_mem vs _ (List.getElem_mem _)
    show vs[k].size≤_;omega
   clear hc;generalize vs[k]?.getD ByteArray.empty=x at *
   have HP:=Lib.hid (rsplit44 x wr hsz)
   have hpm:=Lib.hid (partsOf_map x);have hpl:(partsOf x).length=((parts 44 x.data.toList).map ba).length:=by rw [hpm.out,List.length_map]
   have hp0:((parts 44 x.data.toList).map ba).length=(parts 44 x.data.toList).length:=List.length_map _;rw [←hp0] at HP
   have hps:=Lib.hid (show∀y∈(parts 44 x.data.toList).map ba,y.size<4294967281 from fun y hy=>by obtain ⟨l,hl,rfl⟩:=List.mem_map.1 hy;have:=parts_size 44 _ l hl;rw [len] at this;rw [ba_size];omega)
   generalize (parts 44 x.data.toList).map ba=P at *;clear hp0;generalize list (vs.take k)=L at *
   go_wp2_with (go_at_call 117;with_reducible refine HP.out.mono ?_;rintro e w1 ⟨B,n1,c1,rfl,hgB,hn1,hS,hg1,hb1⟩)
   have hB1:=Lib.hid (Base.below_step hbr.out hb1)
   have hown1:=Lib.hid (own_below hown.out hb1);have hS':=Lib.hid hS
   have hne:=Lib.hid (show∀g,u3.ownBlock=some g→g≠B from fun g hg=>by have:=(hown.out.lt g hg).2;omega);clear hgB;clear hS hb1 HP hown hbr
   go_loopw [3,6] (fun v i wq=>∃j:Nat,j≤n1∧i=.int .i64 j∧w1.heap.size≤wq.heap.size∧Hid (wq.ownsRow w.heap.size 9 1 v (L.length+j) ((L++(P.map trim).take j).map Value.string))∧Hid (Below w.heap.size w wq)∧Hid (∀g,v.ownBlock=some g→g≠B)∧Hid (Strs wq (some ⟨B,0,none⟩) n1 P)) (fun _ i _=>n1-(intOf i).toNat)
   case atStart=>exact ⟨0,Nat.zero_le _,rfl,Nat.le_refl _,by rw [List.take_zero,List.append_nil];exact hown1,hB1,hne,hS'⟩
   case round=>
    obtain ⟨j,hj,rfl,hsz,hown,hbq,hne,hSq⟩:=hrel;rcases Nat.lt_or_ge j n1 with hlj | hgj
    ·obtain ⟨bs,os,e,hbs,hc⟩:=hSq.out.2 (by omega);obtain ⟨rfl,rfl⟩:B=bs∧0=os:=by simpa using e
     have hcj:=hc j hlj;rw [Nat.zero_add] at hcj
     have HS1:=Lib.hid (map_snoc trim ByteArray.empty P j (by omega));clear hc e;have hys:(P[j]?.getD ByteArray.empty).size≤maxLen:=by
      have:j<P.length:=by omega
      rw [List.getElem?_eq_getElem this]
      have:=hps.out _ (List.getElem_mem this);show P[j].size≤_;unfold maxLen;omega
     generalize P[j]?.getD ByteArray.empty=y at *
     have HT:=Lib.hid (fun w=>rtrim_any y w hys);clear hys
     go_wp2_with (first
      |(go_at_call 111;with_reducible refine (HT.out _).mono ?_;rintro e w2 ⟨rfl,hw⟩;rw [hw];clear hw)
      |(at_builtin;(refine wpList_append_own_at _ rfl _ _ 89 rfl w.heap.size 9 i0 (.string ByteArray.empty) 1 16 Tryz.underlying89 G1.out G2.out G3.out G4.out rfl (by decide) _ _ _ rfl (hown.out.alloc _) ⟨wr.heap.size,0,none⟩ 1 1 [.string (trim y)] rfl rfl ?c1 ?c2 ?c3 ?c4 ?c5 ?_)))
     case c1=>exact news_one wr _ _
     case c2=>intro u hu;obtain rfl:u=.string (trim y):=by simpa using hu
              rfl
     case c3=>unfold maxLen;omega
     case c4=>omega
     case c5=>have:=hbq.out.size;simp;omega
     intro v' w' hown' hgr _ hloc;have hown2:w'.ownsRow w.heap.size 9 1 v' (L.length+(j+1)) ((L++(P.map trim).take (j+1)).map Value.string):=by rw [HS1.out];simpa [List.append_assoc,Nat.add_assoc] using hown'
     have H2:=Lib.hid hown2
     have H3:=Lib.hid ((hbq.out.alloc hbq.out.size _).grown hgr (by have:=hbq.out.size;simp;omega) (own_base hown.out))
     have H4:=Lib.hid ((hSq.out.below ((Below.refl _ _).alloc (Nat.le_refl _) _)).grown hgr (fun e=>hne.out _ e rfl))
     have H5:=Lib.hid (show∀g,v'.ownBlock=some g→g≠B from fun g hg=>by
      rcases hloc with h | h
      ·exact hne.out g (h ▸ hg)
      ·rw [h] at hg;cases hg;simp;omega)
     have H6:w1.heap.size≤w'.heap.size:=by have:=hgr.size;simp at this;omega
     clear hown' hgr hown2 hloc;go_wp2;go_roundw
     case rel=>exact ⟨j+1,by omega,by go_num,H6,H2,H3,H5,H4⟩
     case measure=>simp [intOf];omega
    ·obtain rfl:j=n1:=by omega
     have hown2:=hown.out;rw [List.take_of_length_le (by rw [List.length_map];omega),←hpm.out] at hown2
     have H2:Hid (wr.ownsRow w.heap.size 9 1 u3 (L++partsOf x).length ((L++partsOf x).map Value.string)):=Lib.hid (by rw [List.length_append,hpl];rw [hn1] at hown2;exact hown2);rw [←hsn.out] at H2;clear hown hown2;go_wp2;go_roundw
     case rel=>exact ⟨k+1,by omega,by go_num,H2,hbq⟩
     case measure=>simp [intOf];omega
  ·obtain rfl:k=n:=by omega
   have hown1:=hown.out;rw [List.take_of_length_le (by rw [HL.out];omega)] at hown1;have H1:=Lib.hid hown1;clear hown1 hown;go_wp2;go_ret;exact ⟨_,rfl,H1.out,hbr.out⟩
theorem rlist_any (a:Option Addr) (n cap:Nat) (vs:List ByteArray) (w:World) (hv:Strs w a n vs) (hr:room vs≤1000000000) :
 Calls Tryz.prog 123 #[.slice a n cap] w fun e w'=>∃b m c,e=.returned (.slice b m c)∧m=(list vs).length∧Strs w' b m (list vs)∧Below w.heap.size w w':=
 (rlist_own a n cap vs w hv hr).mono (by
   rintro e w' ⟨v,rfl,ho,hb⟩;obtain ⟨A,c,rfl,hA⟩:=Strs.of_own ho;exact ⟨A,_,c,rfl,rfl,hA,hb⟩)
theorem rfind_any (a:Option Addr) (n cap:Nat) (fs:List Fld) (name:ByteArray) (w:World) (hv:Flds w a n fs) (hn:n≤1000000000) (hs:∀f∈fs,f.1.size≤1000000000) (ht:name.size≤1000000000) :
 Calls Tryz.prog 108 #[.slice a n cap,.string name] w fun e w'=>∃b m c,e=.returned (.slice b m c)∧m=(find fs name).length∧Strs w' b m (find fs name)∧Below w.heap.size w w':=by
 have HV:=Lib.hid hv;have HL:=Lib.hid hv.1;have HS:=Lib.hid hs;clear hv hs;obtain ⟨i0,hi,hz0,hz1,hz2⟩:=info_parts text_info;have G1:=Lib.hid hi;have G2:=Lib.hid hz0;have G3:=Lib.hid hz1;have G4:=Lib.hid hz2;clear hi hz0 hz1 hz2;go_enter Tryz.func108,Tryz.ntmps108;go_wp2
 go_loopw [5,6] (fun v i wr=>∃k:Nat,k≤n∧i=.int .i64 k∧Hid (wr.ownsRow w.heap.size 9 1 v (find (fs.take k) name).length ((find (fs.take k) name).map Value.string))∧Hid (Below w.heap.size w wr)) (fun _ i _=>n-(intOf i).toNat)
 case atStart=>exact ⟨0,Nat.zero_le _,rfl,Lib.hid ⟨rfl,.inl ⟨rfl,rfl⟩⟩,Lib.hid (Below.refl _ _)⟩
 case round=>
  obtain ⟨k,hk,rfl,hown,hbr⟩:=hrel;rcases Nat.lt_or_ge k n with hlt | hge
  ·obtain ⟨bl,off,rfl,hbl,hc⟩:=(HV.out.below hbr.out).2 (by omega);obtain ⟨hc0,hc1⟩:=hc k hlt
   have hsn:=Lib.hid (find_snoc fs name k (by rw [HL.out];exact hlt));have hfl:=find_le (fs.take k) name;rw [List.length_take] at hfl;have hsz:(fs[k]?.getD dflt).1.size≤1000000000:=by
    have:k<fs.length:=by rw [HL.out];exact hlt
    rw [List.getElem?_eq_getElem this]
    exact HS.out _ (List.getElem_mem _)
   clear hc;generalize fs[k]?.getD dflt=f at *;generalize hL:find (fs.take k) name=L at *;obtain ⟨f0,f1⟩:=f;simp only at hc0 hc1 hsz hsn
   have HC:=Lib.hid (fun w=>rsame_any f0 name w (by omega) (by omega));clear hsz hL;cases hq:same f0 name with
   | false=>
     rw [hq] at HC hsn;rw [if_neg (by decide),List.append_nil] at hsn;clear hq
     go_wp2_with (go_at_call 104;with_reducible refine (HC.out _).mono ?_;rintro e w2 ⟨rfl,hb2⟩);have hb0:Below wr.heap.size wr w2:=hb2
     have H2:Hid (w2.ownsRow w.heap.size 9 1 u5 (find (fs.take (k+1)) name).length ((find (fs.take (k+1)) name).map Value.string)):=Lib.hid (by rw [hsn.out];exact own_below hown.out hb0)
     have H3:=Lib.hid (Base.below_step hbr.out hb0);clear hown hb2 hb0;go_roundw
     case rel=>exact ⟨k+1,by omega,by go_num,H2,H3⟩
     case measure=>simp [intOf];omega
   | true=>
     rw [hq] at HC hsn;rw [if_pos rfl] at hsn;clear hq
     go_wp2_with (first
      |(go_at_call 104;with_reducible refine (HC.out _).mono ?_;rintro e w2 ⟨rfl,hb2⟩
        have hf1:=(hb2.cell (p:=⟨bl,off+k*2+1,none⟩) hbl).trans hc1
        have hb0:=Lib.hid (show Below wr.heap.size wr w2 from hb2)
        have hown0:=Lib.hid (own_below hown.out hb0.out))
      |(at_builtin;refine wpList_append_own _ rfl _ _ 89 rfl w.heap.size 9 i0 (.string ByteArray.empty) 1 16 Tryz.underlying89 G1.out G2.out G3.out G4.out rfl (by decide) _ _ _ rfl (hown0.out.alloc _) ⟨w2.heap.size,0,none⟩ 1 1 [.string f1] rfl rfl ?c1 ?c2 ?c3 ?c4 ?c5 ?_))
     case c1=>exact news_one w2 _ _
     case c2=>intro u hu;obtain rfl:u=.string f1:=by simpa using hu
              rfl
     case c3=>unfold maxLen;omega
     case c4=>omega
     case c5=>have:=hbr.out.size;have:=hb0.out.size;simp;omega
     intro v' w' hown' hgr _
     have H2:Hid (w'.ownsRow w.heap.size 9 1 v' (find (fs.take (k+1)) name).length ((find (fs.take (k+1)) name).map Value.string)):=Lib.hid (by rw [hsn.out];simpa using hown')
     have H3:=Lib.hid (((Base.below_step hbr.out hb0.out).alloc (by have:=hbr.out.size;have:=hb0.out.size;omega) _).grown hgr (by have:=hbr.out.size;have:=hb0.out.size;simp;omega) (own_base hown.out));clear hown' hgr hown hown0;go_wp2;go_roundw
     case rel=>exact ⟨k+1,by omega,by go_num,H2,H3⟩
     case measure=>simp [intOf];omega
  ·obtain rfl:k=n:=by omega
   have hown1:=hown.out;rw [List.take_of_length_le (by rw [HL.out];omega)] at hown1;obtain ⟨A,c,rfl,hA⟩:=Strs.of_own hown1;have HA:=Lib.hid hA;clear hown1 hA hown;go_wp2;go_ret;exact ⟨A,_,c,rfl,rfl,HA.out,hbr.out⟩
end code
end Go.Proofs.YtimoakmcelocfaaGreat.Txt
namespace Go.Proofs.YtimoakmcelocfaaGreat.Rec
open Go.RowKit Base Txt
section code
set_option maxHeartbeats 1000000
attribute [local go_sem] Base.some_undef
theorem rsame_any (V V':Value) (r r':R) (w:World) (h:Reads w V r) (h':Reads w V' r') (hf:Fit r) (hf':Fit r'):Calls Tryz.prog 38 #[V,V'] w fun e w'=>e=.returned (.bool (same r r'))∧Below w.heap.size w w':=by
 obtain ⟨fa,fc,ba,bc,ta,tc,rfl,h1,h2,h3⟩:=h;obtain ⟨fa',fc',ba',bc',ta',tc',rfl,h1',h2',h3'⟩:=h'
 have HF1:=Lib.hid (fun w2 (hb:Below w.heap.size w w2)=>rfields_any fa _ fc _ fa' _ fc' _ w2 (h1.below hb) (h1'.below hb) (by have:=hf.fs;omega) (by have:=hf'.fs;omega))
 have HF2:=Lib.hid (fun w2 (hb:Below w.heap.size w w2)=>rfields_any ta _ tc _ ta' _ tc' _ w2 (h3.below hb) (h3'.below hb) (by have:=hf.ts;omega) (by have:=hf'.ts;omega));have H2:=Lib.hid h2;have H2':=Lib.hid h2';clear h1 h2 h3 h1' h2' h3' hf hf'
 have HB0:=Lib.hid ((((Below.refl _ _).alloc (Nat.le_refl _) (.cells #[.string r.m,.string r.x,.int .i64 r.k,.slice fa r.fs.length fc,.bool r.ch,.slice ba r.body.length bc,.slice ta r.ts.length tc] 57)).alloc (by simp) (.cells #[.string r'.m,.string r'.x,.int .i64 r'.k,.slice fa' r'.fs.length fc',.bool r'.ch,.slice ba' r'.body.length bc',.slice ta' r'.ts.length tc'] 57)):Below w.heap.size w _)
 have HA:=Lib.hid ((Bk.new w w.heap.size rfl 57 [.string r.m,.string r.x,.int .i64 r.k,.slice fa r.fs.length fc,.bool r.ch,.slice ba r.body.length bc,.slice ta r.ts.length tc]).alloc (.cells #[.string r'.m,.string r'.x,.int .i64 r'.k,.slice fa' r'.fs.length fc',.bool r'.ch,.slice ba' r'.body.length bc',.slice ta' r'.ts.length tc'] 57))
 have HB:=Lib.hid (Bk.new (w.alloc (.cells #[.string r.m,.string r.x,.int .i64 r.k,.slice fa r.fs.length fc,.bool r.ch,.slice ba r.body.length bc,.slice ta r.ts.length tc] 57)) (w.heap.size+1) (by simp) 57 [.string r'.m,.string r'.x,.int .i64 r'.k,.slice fa' r'.fs.length fc',.bool r'.ch,.slice ba' r'.body.length bc',.slice ta' r'.ts.length tc']);by_cases g0:r.m=r'.m
 rotate_left
 ·have e:same r r'=false:=by unfold same;simp [g0]
  rw [e];clear e;have t0:(r.m.toList==r'.m.toList)=false:=by rw [ba_beq];exact decide_eq_false g0
  have s0:¬r.m.toList=r'.m.toList:=fun h=>g0 ((toList_iff _ _).1 h);clear g0;go_enter Tryz.func38,Tryz.ntmps38;go_upto_region 1 with fail
  generalize (w.alloc (.cells #[.string r.m,.string r.x,.int .i64 r.k,.slice fa r.fs.length fc,.bool r.ch,.slice ba r.body.length bc,.slice ta r.ts.length tc] 57)).alloc (.cells #[.string r'.m,.string r'.x,.int .i64 r'.k,.slice fa' r'.fs.length fc',.bool r'.ch,.slice ba' r'.body.length bc',.slice ta' r'.ts.length tc'] 57)=W at *;have hA0:=HA.out;have hB0:=HB.out;have q0:=hA0.c 0 _ rfl;have y0:=hB0.c 0 _ rfl;have q1:=hA0.c 1 _ rfl;have y1:=hB0.c 1 _ rfl;have q2:=hA0.c 2 _ rfl;have y2:=hB0.c 2 _ rfl;have q3:=hA0.c 3 _ rfl;have y3:=hB0.c 3 _ rfl;have q4:=hA0.c 4 _ rfl;have y4:=hB0.c 4 _ rfl;have q5:=hA0.c 5 _ rfl;have y5:=hB0.c 5 _ rfl;have q6:=hA0.c 6 _ rfl;have y6:=hB0.c 6 _ rfl;clear hA0 hB0;go_wp2;go_ret;exact ⟨rfl,HB0.out⟩
 by_cases g1:r.x=r'.x
 rotate_left
 ·have e:same r r'=false:=by unfold same;simp [g0,g1]
  rw [e];clear e;have t0:(r.m.toList==r'.m.toList)=true:=by rw [ba_beq];exact decide_eq_true g0
  have s0:r.m.toList=r'.m.toList:=(toList_iff _ _).2 g0;have t1:(r.x.toList==r'.x.toList)=false:=by rw [ba_beq];exact decide_eq_false g1
  have s1:¬r.x.toList=r'.x.toList:=fun h=>g1 ((toList_iff _ _).1 h);clear g0 g1;go_enter Tryz.func38,Tryz.ntmps38;go_upto_region 1 with fail
  generalize (w.alloc (.cells #[.string r.m,.string r.x,.int .i64 r.k,.slice fa r.fs.length fc,.bool r.ch,.slice ba r.body.length bc,.slice ta r.ts.length tc] 57)).alloc (.cells #[.string r'.m,.string r'.x,.int .i64 r'.k,.slice fa' r'.fs.length fc',.bool r'.ch,.slice ba' r'.body.length bc',.slice ta' r'.ts.length tc'] 57)=W at *;have hA0:=HA.out;have hB0:=HB.out;have q0:=hA0.c 0 _ rfl;have y0:=hB0.c 0 _ rfl;have q1:=hA0.c 1 _ rfl;have y1:=hB0.c 1 _ rfl;have q2:=hA0.c 2 _ rfl;have y2:=hB0.c 2 _ rfl;have q3:=hA0.c 3 _ rfl;have y3:=hB0.c 3 _ rfl;have q4:=hA0.c 4 _ rfl;have y4:=hB0.c 4 _ rfl;have q5:=hA0.c 5 _ rfl;have y5:=hB0.c 5 _ rfl;have q6:=hA0.c 6 _ rfl;have y6:=hB0.c 6 _ rfl;clear hA0 hB0;go_wp2;go_ret;exact ⟨rfl,HB0.out⟩
 by_cases g2:r.k=r'.k
 rotate_left
 ·have e:same r r'=false:=by unfold same;simp [g0,g1,g2]
  rw [e];clear e;have t0:(r.m.toList==r'.m.toList)=true:=by rw [ba_beq];exact decide_eq_true g0
  have s0:r.m.toList=r'.m.toList:=(toList_iff _ _).2 g0;have t1:(r.x.toList==r'.x.toList)=true:=by rw [ba_beq];exact decide_eq_true g1
  have s1:r.x.toList=r'.x.toList:=(toList_iff _ _).2 g1;have t2:(r.k==r'.k)=false:=beq_eq_false_iff_ne.2 g2;clear g0 g1 g2;go_enter Tryz.func38,Tryz.ntmps38;go_upto_region 1 with fail
  generalize (w.alloc (.cells #[.string r.m,.string r.x,.int .i64 r.k,.slice fa r.fs.length fc,.bool r.ch,.slice ba r.body.length bc,.slice ta r.ts.length tc] 57)).alloc (.cells #[.string r'.m,.string r'.x,.int .i64 r'.k,.slice fa' r'.fs.length fc',.bool r'.ch,.slice ba' r'.body.length bc',.slice ta' r'.ts.length tc'] 57)=W at *;have hA0:=HA.out;have hB0:=HB.out;have q0:=hA0.c 0 _ rfl;have y0:=hB0.c 0 _ rfl;have q1:=hA0.c 1 _ rfl;have y1:=hB0.c 1 _ rfl;have q2:=hA0.c 2 _ rfl;have y2:=hB0.c 2 _ rfl;have q3:=hA0.c 3 _ rfl;have y3:=hB0.c 3 _ rfl;have q4:=hA0.c 4 _ rfl;have y4:=hB0.c 4 _ rfl;have q5:=hA0.c 5 _ rfl;have y5:=hB0.c 5 _ rfl;have q6:=hA0.c 6 _ rfl;have y6:=hB0.c 6 _ rfl;clear hA0 hB0;go_wp2;go_ret;exact ⟨rfl,HB0.out⟩
 by_cases g3:r.fs=r'.fs
 rotate_left
 ·have e:same r r'=false:=by unfold same;simp [g0,g1,g2,g3]
  rw [e];clear e;have t0:(r.m.toList==r'.m.toList)=true:=by rw [ba_beq];exact decide_eq_true g0
  have s0:r.m.toList=r'.m.toList:=(toList_iff _ _).2 g0;have t1:(r.x.toList==r'.x.toList)=true:=by rw [ba_beq];exact decide_eq_true g1
  have s1:r.x.toList=r'.x.toList:=(toList_iff _ _).2 g1;have t2:(r.k==r'.k)=true:=beq_iff_eq.2 g2;rw [decide_eq_false g3] at HF1;clear g0 g1 g2 g3;go_enter Tryz.func38,Tryz.ntmps38;go_upto_region 1 with fail
  generalize (w.alloc (.cells #[.string r.m,.string r.x,.int .i64 r.k,.slice fa r.fs.length fc,.bool r.ch,.slice ba r.body.length bc,.slice ta r.ts.length tc] 57)).alloc (.cells #[.string r'.m,.string r'.x,.int .i64 r'.k,.slice fa' r'.fs.length fc',.bool r'.ch,.slice ba' r'.body.length bc',.slice ta' r'.ts.length tc'] 57)=W at *;have hA0:=HA.out;have hB0:=HB.out;have q0:=hA0.c 0 _ rfl;have y0:=hB0.c 0 _ rfl;have q1:=hA0.c 1 _ rfl;have y1:=hB0.c 1 _ rfl;have q2:=hA0.c 2 _ rfl;have y2:=hB0.c 2 _ rfl;have q3:=hA0.c 3 _ rfl;have y3:=hB0.c 3 _ rfl;have q4:=hA0.c 4 _ rfl;have y4:=hB0.c 4 _ rfl;have q5:=hA0.c 5 _ rfl;have y5:=hB0.c 5 _ rfl;have q6:=hA0.c 6 _ rfl;have y6:=hB0.c 6 _ rfl;clear hA0 hB0
  go_wp2_with (go_at_call 58;with_reducible refine (HF1.out _ HB0.out).mono ?_;rintro e w1 ⟨rfl,n1,hw1⟩
               have hb1:Below W.heap.size W w1:=by rw [hw1];exact Base.below_drewN (Below.refl _ _) n1
               have HB1:=Lib.hid (Base.below_step HB0.out hb1);have hA1:=HA.out.below hb1;have hB1:=HB.out.below hb1;have q3:=hA1.c 3 _ rfl;have y3:=hB1.c 3 _ rfl;have q4:=hA1.c 4 _ rfl;have y4:=hB1.c 4 _ rfl;have q5:=hA1.c 5 _ rfl;have y5:=hB1.c 5 _ rfl;have q6:=hA1.c 6 _ rfl;have y6:=hB1.c 6 _ rfl;have cv:=conv_str w1 _ _ bc _ (H2.out.below HB1.out);have cv':=conv_str w1 _ _ bc' _ (H2'.out.below HB1.out);clear hA1 hB1 hb1 hw1)
  go_ret;exact ⟨rfl,HB1.out⟩
 by_cases g4:r.ch=r'.ch
 rotate_left
 ·have e:same r r'=false:=by unfold same;simp [g0,g1,g2,g3,g4]
  rw [e];clear e;have t0:(r.m.toList==r'.m.toList)=true:=by rw [ba_beq];exact decide_eq_true g0
  have s0:r.m.toList=r'.m.toList:=(toList_iff _ _).2 g0;have t1:(r.x.toList==r'.x.toList)=true:=by rw [ba_beq];exact decide_eq_true g1
  have s1:r.x.toList=r'.x.toList:=(toList_iff _ _).2 g1;have t2:(r.k==r'.k)=true:=beq_iff_eq.2 g2;rw [decide_eq_true g3] at HF1;have t4:(r.ch==r'.ch)=false:=beq_eq_false_iff_ne.2 g4;clear g0 g1 g2 g3 g4;go_enter Tryz.func38,Tryz.ntmps38;go_upto_region 1 with fail
  generalize (w.alloc (.cells #[.string r.m,.string r.x,.int .i64 r.k,.slice fa r.fs.length fc,.bool r.ch,.slice ba r.body.length bc,.slice ta r.ts.length tc] 57)).alloc (.cells #[.string r'.m,.string r'.x,.int .i64 r'.k,.slice fa' r'.fs.length fc',.bool r'.ch,.slice ba' r'.body.length bc',.slice ta' r'.ts.length tc'] 57)=W at *;have hA0:=HA.out;have hB0:=HB.out;have q0:=hA0.c 0 _ rfl;have y0:=hB0.c 0 _ rfl;have q1:=hA0.c 1 _ rfl;have y1:=hB0.c 1 _ rfl;have q2:=hA0.c 2 _ rfl;have y2:=hB0.c 2 _ rfl;have q3:=hA0.c 3 _ rfl;have y3:=hB0.c 3 _ rfl;have q4:=hA0.c 4 _ rfl;have y4:=hB0.c 4 _ rfl;have q5:=hA0.c 5 _ rfl;have y5:=hB0.c 5 _ rfl;have q6:=hA0.c 6 _ rfl;have y6:=hB0.c 6 _ rfl;clear hA0 hB0
  go_wp2_with (go_at_call 58;with_reducible refine (HF1.out _ HB0.out).mono ?_;rintro e w1 ⟨rfl,n1,hw1⟩
               have hb1:Below W.heap.size W w1:=by rw [hw1];exact Base.below_drewN (Below.refl _ _) n1
               have HB1:=Lib.hid (Base.below_step HB0.out hb1);have hA1:=HA.out.below hb1;have hB1:=HB.out.below hb1;have q3:=hA1.c 3 _ rfl;have y3:=hB1.c 3 _ rfl;have q4:=hA1.c 4 _ rfl;have y4:=hB1.c 4 _ rfl;have q5:=hA1.c 5 _ rfl;have y5:=hB1.c 5 _ rfl;have q6:=hA1.c 6 _ rfl;have y6:=hB1.c 6 _ rfl;have cv:=conv_str w1 _ _ bc _ (H2.out.below HB1.out);have cv':=conv_str w1 _ _ bc' _ (H2'.out.below HB1.out);clear hA1 hB1 hb1 hw1)
  go_ret;exact ⟨rfl,HB1.out⟩
 by_cases g5:r.body=r'.body
 rotate_left
 ·have e:same r r'=false:=by unfold same;simp [g0,g1,g2,g3,g4,g5]
  rw [e];clear e;have t0:(r.m.toList==r'.m.toList)=true:=by rw [ba_beq];exact decide_eq_true g0
  have s0:r.m.toList=r'.m.toList:=(toList_iff _ _).2 g0;have t1:(r.x.toList==r'.x.toList)=true:=by rw [ba_beq];exact decide_eq_true g1
  have s1:r.x.toList=r'.x.toList:=(toList_iff _ _).2 g1;have t2:(r.k==r'.k)=true:=beq_iff_eq.2 g2;rw [decide_eq_true g3] at HF1;have t4:(r.ch==r'.ch)=true:=beq_iff_eq.2 g4
  have t5:((Txt.ba r.body).toList==(Txt.ba r'.body).toList)=false:=by rw [ba_beq];exact decide_eq_false (fun h=>g5 (ba_list_inj.1 h))
  have s5:¬(Txt.ba r.body).toList=(Txt.ba r'.body).toList:=fun h=>g5 (ba_list_inj.1 ((toList_iff _ _).1 h));clear g0 g1 g2 g3 g4 g5;go_enter Tryz.func38,Tryz.ntmps38;go_upto_region 1 with fail
  generalize (w.alloc (.cells #[.string r.m,.string r.x,.int .i64 r.k,.slice fa r.fs.length fc,.bool r.ch,.slice ba r.body.length bc,.slice ta r.ts.length tc] 57)).alloc (.cells #[.string r'.m,.string r'.x,.int .i64 r'.k,.slice fa' r'.fs.length fc',.bool r'.ch,.slice ba' r'.body.length bc',.slice ta' r'.ts.length tc'] 57)=W at *;have hA0:=HA.out;have hB0:=HB.out;have q0:=hA0.c 0 _ rfl;have y0:=hB0.c 0 _ rfl;have q1:=hA0.c 1 _ rfl;have y1:=hB0.c 1 _ rfl;have q2:=hA0.c 2 _ rfl;have y2:=hB0.c 2 _ rfl;have q3:=hA0.c 3 _ rfl;have y3:=hB0.c 3 _ rfl;have q4:=hA0.c 4 _ rfl;have y4:=hB0.c 4 _ rfl;have q5:=hA0.c 5 _ rfl;have y5:=hB0.c 5 _ rfl;have q6:=hA0.c 6 _ rfl;have y6:=hB0.c 6 _ rfl;clear hA0 hB0
  go_wp2_with (go_at_call 58;with_reducible refine (HF1.out _ HB0.out).mono ?_;rintro e w1 ⟨rfl,n1,hw1⟩
               have hb1:Below W.heap.size W w1:=by rw [hw1];exact Base.below_drewN (Below.refl _ _) n1
               have HB1:=Lib.hid (Base.below_step HB0.out hb1);have hA1:=HA.out.below hb1;have hB1:=HB.out.below hb1;have q3:=hA1.c 3 _ rfl;have y3:=hB1.c 3 _ rfl;have q4:=hA1.c 4 _ rfl;have y4:=hB1.c 4 _ rfl;have q5:=hA1.c 5 _ rfl;have y5:=hB1.c 5 _ rfl;have q6:=hA1.c 6 _ rfl;have y6:=hB1.c 6 _ rfl;have cv:=conv_str w1 _ _ bc _ (H2.out.below HB1.out);have cv':=conv_str w1 _ _ bc' _ (H2'.out.below HB1.out);clear hA1 hB1 hb1 hw1)
  go_ret;exact ⟨rfl,HB1.out⟩
 by_cases g6:r.ts=r'.ts
 rotate_left
 ·have e:same r r'=false:=by unfold same;simp [g0,g1,g2,g3,g4,g5,g6]
  rw [e];clear e;have t0:(r.m.toList==r'.m.toList)=true:=by rw [ba_beq];exact decide_eq_true g0
  have s0:r.m.toList=r'.m.toList:=(toList_iff _ _).2 g0;have t1:(r.x.toList==r'.x.toList)=true:=by rw [ba_beq];exact decide_eq_true g1
  have s1:r.x.toList=r'.x.toList:=(toList_iff _ _).2 g1;have t2:(r.k==r'.k)=true:=beq_iff_eq.2 g2;rw [decide_eq_true g3] at HF1;have t4:(r.ch==r'.ch)=true:=beq_iff_eq.2 g4
  have t5:((Txt.ba r.body).toList==(Txt.ba r'.body).toList)=true:=by rw [ba_beq];exact decide_eq_true (by rw [g5])
  have s5:(Txt.ba r.body).toList=(Txt.ba r'.body).toList:=(toList_iff _ _).2 (by rw [g5]);rw [decide_eq_false g6] at HF2;clear g0 g1 g2 g3 g4 g5 g6;go_enter Tryz.func38,Tryz.ntmps38;go_upto_region 1 with fail
  generalize (w.alloc (.cells #[.string r.m,.string r.x,.int .i64 r.k,.slice fa r.fs.length fc,.bool r.ch,.slice ba r.body.length bc,.slice ta r.ts.length tc] 57)).alloc (.cells #[.string r'.m,.string r'.x,.int .i64 r'.k,.slice fa' r'.fs.length fc',.bool r'.ch,.slice ba' r'.body.length bc',.slice ta' r'.ts.length tc'] 57)=W at *;have hA0:=HA.out;have hB0:=HB.out;have q0:=hA0.c 0 _ rfl;have y0:=hB0.c 0 _ rfl;have q1:=hA0.c 1 _ rfl;have y1:=hB0.c 1 _ rfl;have q2:=hA0.c 2 _ rfl;have y2:=hB0.c 2 _ rfl;have q3:=hA0.c 3 _ rfl;have y3:=hB0.c 3 _ rfl;have q4:=hA0.c 4 _ rfl;have y4:=hB0.c 4 _ rfl;have q5:=hA0.c 5 _ rfl;have y5:=hB0.c 5 _ rfl;have q6:=hA0.c 6 _ rfl;have y6:=hB0.c 6 _ rfl;clear hA0 hB0
  go_wp2_with (first
   |(go_at_call 58;with_reducible refine (HF2.out _ HB1.out).mono ?_;rintro e w2 ⟨rfl,n2,hw2⟩
     have hb2:Below w1.heap.size w1 w2:=by rw [hw2];exact Base.below_drewN (Below.refl _ _) n2
     have HB2:=Lib.hid (Base.below_step HB1.out hb2);clear hb2 hw2)
   |(go_at_call 58;with_reducible refine (HF1.out _ HB0.out).mono ?_;rintro e w1 ⟨rfl,n1,hw1⟩
     have hb1:Below W.heap.size W w1:=by rw [hw1];exact Base.below_drewN (Below.refl _ _) n1
     have HB1:=Lib.hid (Base.below_step HB0.out hb1);have hA1:=HA.out.below hb1;have hB1:=HB.out.below hb1;have q3:=hA1.c 3 _ rfl;have y3:=hB1.c 3 _ rfl;have q4:=hA1.c 4 _ rfl;have y4:=hB1.c 4 _ rfl;have q5:=hA1.c 5 _ rfl;have y5:=hB1.c 5 _ rfl;have q6:=hA1.c 6 _ rfl;have y6:=hB1.c 6 _ rfl;have cv:=conv_str w1 _ _ bc _ (H2.out.below HB1.out);have cv':=conv_str w1 _ _ bc' _ (H2'.out.below HB1.out);clear hA1 hB1 hb1 hw1))
  go_ret;exact ⟨rfl,HB2.out⟩
 have e:same r r'=true:=by unfold same;simp [g0,g1,g2,g3,g4,g5,g6]
 rw [e];clear e;have t0:(r.m.toList==r'.m.toList)=true:=by rw [ba_beq];exact decide_eq_true g0
 have s0:r.m.toList=r'.m.toList:=(toList_iff _ _).2 g0;have t1:(r.x.toList==r'.x.toList)=true:=by rw [ba_beq];exact decide_eq_true g1
 have s1:r.x.toList=r'.x.toList:=(toList_iff _ _).2 g1;have t2:(r.k==r'.k)=true:=beq_iff_eq.2 g2;rw [decide_eq_true g3] at HF1;have t4:(r.ch==r'.ch)=true:=beq_iff_eq.2 g4
 have t5:((Txt.ba r.body).toList==(Txt.ba r'.body).toList)=true:=by rw [ba_beq];exact decide_eq_true (by rw [g5])
 have s5:(Txt.ba r.body).toList=(Txt.ba r'.body).toList:=(toList_iff _ _).2 (by rw [g5]);rw [decide_eq_true g6] at HF2;clear g0 g1 g2 g3 g4 g5 g6;go_enter Tryz.func38,Tryz.ntmps38;go_upto_region 1 with fail
 generalize (w.alloc (.cells #[.string r.m,.string r.x,.int .i64 r.k,.slice fa r.fs.length fc,.bool r.ch,.slice ba r.body.length bc,.slice ta r.ts.length tc] 57)).alloc (.cells #[.string r'.m,.string r'.x,.int .i64 r'.k,.slice fa' r'.fs.length fc',.bool r'.ch,.slice ba' r'.body.length bc',.slice ta' r'.ts.length tc'] 57)=W at *;have hA0:=HA.out;have hB0:=HB.out;have q0:=hA0.c 0 _ rfl;have y0:=hB0.c 0 _ rfl;have q1:=hA0.c 1 _ rfl;have y1:=hB0.c 1 _ rfl;have q2:=hA0.c 2 _ rfl;have y2:=hB0.c 2 _ rfl;have q3:=hA0.c 3 _ rfl;have y3:=hB0.c 3 _ rfl;have q4:=hA0.c 4 _ rfl;have y4:=hB0.c 4 _ rfl;have q5:=hA0.c 5 _ rfl;have y5:=hB0.c 5 _ rfl;have q6:=hA0.c 6 _ rfl;have y6:=hB0.c 6 _ rfl;clear hA0 hB0
 go_wp2_with (first
  |(go_at_call 58;with_reducible refine (HF2.out _ HB1.out).mono ?_;rintro e w2 ⟨rfl,n2,hw2⟩
    have hb2:Below w1.heap.size w1 w2:=by rw [hw2];exact Base.below_drewN (Below.refl _ _) n2
    have HB2:=Lib.hid (Base.below_step HB1.out hb2);clear hb2 hw2)
  |(go_at_call 58;with_reducible refine (HF1.out _ HB0.out).mono ?_;rintro e w1 ⟨rfl,n1,hw1⟩
    have hb1:Below W.heap.size W w1:=by rw [hw1];exact Base.below_drewN (Below.refl _ _) n1
    have HB1:=Lib.hid (Base.below_step HB0.out hb1);have hA1:=HA.out.below hb1;have hB1:=HB.out.below hb1;have q3:=hA1.c 3 _ rfl;have y3:=hB1.c 3 _ rfl;have q4:=hA1.c 4 _ rfl;have y4:=hB1.c 4 _ rfl;have q5:=hA1.c 5 _ rfl;have y5:=hB1.c 5 _ rfl;have q6:=hA1.c 6 _ rfl;have y6:=hB1.c 6 _ rfl;have cv:=conv_str w1 _ _ bc _ (H2.out.below HB1.out);have cv':=conv_str w1 _ _ bc' _ (H2'.out.below HB1.out);clear hA1 hB1 hb1 hw1))
 go_ret;exact ⟨rfl,HB2.out⟩
end code
end Go.Proofs.YtimoakmcelocfaaGreat.Rec
namespace Go.Proofs.YtimoakmcelocfaaGreat.Rec
open Go.RowKit Base Txt
def RecAt (w:World) (b o:Nat) (r:R):Prop:=
 ∃(fa:Option Addr) (fc:Nat) (ba:Option Addr) (bc:Nat) (ta:Option Addr) (tc:Nat),
  (w.cell? ⟨b,o,none⟩=some (.string r.m)∧w.cell? ⟨b,o+1,none⟩=some (.string r.x)∧w.cell? ⟨b,o+2,none⟩=some (.int .i64 r.k)∧w.cell? ⟨b,o+3,none⟩=some (.slice fa r.fs.length fc)∧
   w.cell? ⟨b,o+4,none⟩=some (.bool r.ch)∧w.cell? ⟨b,o+5,none⟩=some (.slice ba r.body.length bc)∧w.cell? ⟨b,o+6,none⟩=some (.slice ta r.ts.length tc))∧
  Reads w (.agg #[.string r.m,.string r.x,.int .i64 r.k,.slice fa r.fs.length fc,.bool r.ch,.slice ba r.body.length bc,.slice ta r.ts.length tc]) r
theorem RecAt.below {w w':World} {b o:Nat} {r:R} (h:RecAt w b o r) (hlt:b<w.heap.size) (hb:Below w.heap.size w w'):RecAt w' b o r:=by
 obtain ⟨fa,fc,ba,bc,ta,tc,⟨c0,c1,c2,c3,c4,c5,c6⟩,hr⟩:=h
 exact ⟨fa,fc,ba,bc,ta,tc,⟨(hb.cell (p:=⟨b,o,none⟩) hlt).trans c0,(hb.cell (p:=⟨b,o+1,none⟩) hlt).trans c1,(hb.cell (p:=⟨b,o+2,none⟩) hlt).trans c2,(hb.cell (p:=⟨b,o+3,none⟩) hlt).trans c3,
  (hb.cell (p:=⟨b,o+4,none⟩) hlt).trans c4,(hb.cell (p:=⟨b,o+5,none⟩) hlt).trans c5,(hb.cell (p:=⟨b,o+6,none⟩) hlt).trans c6⟩,hr.below hb⟩
def r0:R:=⟨ByteArray.empty,ByteArray.empty,0,[],false,[],[]⟩
def Recs (w:World) (a:Option Addr) (n:Nat) (rs:List R):Prop:=
 rs.length=n∧(0<n→∃b off,a=some ⟨b,off,none⟩∧b<w.heap.size∧∀k,k<n→RecAt w b (off+k*7) (rs[k]?.getD r0))
theorem Recs.below {w w':World} {a:Option Addr} {n:Nat} {rs:List R} (h:Recs w a n rs) (hb:Below w.heap.size w w'):Recs w' a n rs:=by refine ⟨h.1,fun hn=>?_⟩;obtain ⟨b,off,e,hlt,hc⟩:=h.2 hn;exact ⟨b,off,e,Nat.lt_of_lt_of_le hlt hb.size,fun k hk=>(hc k hk).below hlt hb⟩
theorem all_iff:∀a b:List R,all a b=true↔a=b
 | [],[]=>by simp [all]
 | [],_ :: _=>by simp [all]
 | _ :: _,[]=>by simp [all]
 | x::a,y::b=>by rw [all,Bool.and_eq_true,same_iff,all_iff a b,List.cons.injEq]
theorem all_len (a b:List R) (h:¬a.length=b.length):all a b=false:=by
 rw [Bool.eq_false_iff]
 exact fun e=>h (by rw [(all_iff a b).1 e])
theorem take_eq (xs ys:List R) (k:Nat) (hx:k<xs.length) (hy:k<ys.length) (h:xs.take k=ys.take k) (e:xs[k]?.getD r0=ys[k]?.getD r0):xs.take (k+1)=ys.take (k+1):=by
 rw [List.take_succ_eq_append_getElem hx,List.take_succ_eq_append_getElem hy,h];rw [List.getElem?_eq_getElem hx,List.getElem?_eq_getElem hy] at e
 congr 2
theorem fit_at {rs:List R} (h:∀r∈rs,Fit r) (k:Nat) (hk:k<rs.length):Fit (rs[k]?.getD r0):=by rw [List.getElem?_eq_getElem hk];exact h _ (List.getElem_mem hk)
section code
set_option maxHeartbeats 2000000
theorem rall_any (a:Option Addr) (n cap:Nat) (rs:List R) (b:Option Addr) (m cap2:Nat) (qs:List R) (w:World) (hv:Recs w a n rs) (hu:Recs w b m qs) (hn:n≤1000000000) (hm:m≤1000000000) (hf:∀r∈rs,Fit r) (hg:∀r∈qs,Fit r) :
 Calls Tryz.prog 22 #[.slice a n cap,.slice b m cap2] w fun e w'=>e=.returned (.bool (all rs qs))∧Below w.heap.size w w':=by
 have HV:=Lib.hid hv;have HU:=Lib.hid hu;have HF:=Lib.hid hf;have HG:=Lib.hid hg;have HL:=Lib.hid hv.1;have HM:=Lib.hid hu.1;by_cases hnm:n=m
 ·subst hnm;clear hv hu hf hg;obtain ⟨B,hB⟩:∃B,all rs qs=B:=⟨_,rfl⟩;rw [hB];have HB:=Lib.hid hB;clear hB;go_enter Tryz.func22,Tryz.ntmps22;go_wp2
  go_loopw [5] (fun i wr=>∃k:Nat,k≤n∧i=.int .i64 k∧Hid (rs.take k=qs.take k)∧Hid (Below w.heap.size w wr)) (fun i _=>n-(intOf i).toNat)
  case atStart=>exact ⟨0,Nat.zero_le _,rfl,Lib.hid rfl,Lib.hid (Below.refl _ _)⟩
  case round=>
   obtain ⟨k,hk,rfl,hpre,hbr⟩:=hrel;rcases Nat.lt_or_ge k n with hlt | hge
   ·obtain ⟨bl,off,rfl,hbl,hc⟩:=(HV.out.below hbr.out).2 (by omega)
    obtain ⟨bl',off',rfl,hbl',hc'⟩:=(HU.out.below hbr.out).2 (by omega);have hkr:k<rs.length:=by rw [HL.out];exact hlt
    have hkq:k<qs.length:=by rw [HM.out];exact hlt
    have h1:=hc k hlt;have h2:=hc' k hlt;have f1:=fit_at HF.out k hkr;have f2:=fit_at HG.out k hkq
    have HN:=Lib.hid (take_eq rs qs k hkr hkq hpre.out)
    have HX:=Lib.hid (show rs=qs→rs[k]?.getD r0=qs[k]?.getD r0 from fun e=>by rw [e]);clear hc hc' hkr hkq;generalize rs[k]?.getD r0=x at *;generalize qs[k]?.getD r0=y at *;obtain ⟨fa,fc,ba,bc,ta,tc,⟨c0,c1,c2,c3,c4,c5,c6⟩,hr1⟩:=h1;obtain ⟨fa',fc',ba',bc',ta',tc',⟨d0,d1,d2,d3,d4,d5,d6⟩,hr2⟩:=h2
    have HC:=Lib.hid (fun w2 (hb:Below wr.heap.size wr w2)=>rsame_any _ _ _ _ w2 (hr1.below hb) (hr2.below hb) f1 f2)
    have HCE:=Lib.hid (show∀w1,Below wr.heap.size wr w1→(w1.cell? ⟨bl,off+k*7,none⟩=some (.string x.m)∧w1.cell? ⟨bl,off+k*7+1,none⟩=some (.string x.x)∧w1.cell? ⟨bl,off+k*7+2,none⟩=some (.int .i64 x.k)∧w1.cell? ⟨bl,off+k*7+3,none⟩=some (.slice fa x.fs.length fc)∧w1.cell? ⟨bl,off+k*7+4,none⟩=some (.bool x.ch)∧w1.cell? ⟨bl,off+k*7+5,none⟩=some (.slice ba x.body.length bc)∧w1.cell? ⟨bl,off+k*7+6,none⟩=some (.slice ta x.ts.length tc)) from
     fun w1 hb=>⟨(hb.cell (p:=⟨bl,off+k*7,none⟩) hbl).trans c0,(hb.cell (p:=⟨bl,off+k*7+1,none⟩) hbl).trans c1,(hb.cell (p:=⟨bl,off+k*7+2,none⟩) hbl).trans c2,(hb.cell (p:=⟨bl,off+k*7+3,none⟩) hbl).trans c3,(hb.cell (p:=⟨bl,off+k*7+4,none⟩) hbl).trans c4,(hb.cell (p:=⟨bl,off+k*7+5,none⟩) hbl).trans c5,(hb.cell (p:=⟨bl,off+k*7+6,none⟩) hbl).trans c6⟩)
    have HCD:=Lib.hid (show∀w1,Below wr.heap.size wr w1→(w1.cell? ⟨bl',off'+k*7,none⟩=some (.string y.m)∧w1.cell? ⟨bl',off'+k*7+1,none⟩=some (.string y.x)∧w1.cell? ⟨bl',off'+k*7+2,none⟩=some (.int .i64 y.k)∧w1.cell? ⟨bl',off'+k*7+3,none⟩=some (.slice fa' y.fs.length fc')∧w1.cell? ⟨bl',off'+k*7+4,none⟩=some (.bool y.ch)∧w1.cell? ⟨bl',off'+k*7+5,none⟩=some (.slice ba' y.body.length bc')∧w1.cell? ⟨bl',off'+k*7+6,none⟩=some (.slice ta' y.ts.length tc')) from
     fun w1 hb=>⟨(hb.cell (p:=⟨bl',off'+k*7,none⟩) hbl').trans d0,(hb.cell (p:=⟨bl',off'+k*7+1,none⟩) hbl').trans d1,(hb.cell (p:=⟨bl',off'+k*7+2,none⟩) hbl').trans d2,(hb.cell (p:=⟨bl',off'+k*7+3,none⟩) hbl').trans d3,(hb.cell (p:=⟨bl',off'+k*7+4,none⟩) hbl').trans d4,(hb.cell (p:=⟨bl',off'+k*7+5,none⟩) hbl').trans d5,(hb.cell (p:=⟨bl',off'+k*7+6,none⟩) hbl').trans d6⟩)
    have i1:(k:Int)<(n:Int):=by omega
    clear hr1 hr2 f1 f2 c0 c1 c2 c3 c4 c5 c6 d0 d1 d2 d3 d4 d5 d6
    have hdr:=Lib.hid (Base.below_drewN (Below.refl wr.heap.size wr) 1);obtain ⟨z,hz⟩:∃z,same x y=z:=⟨_,rfl⟩;rw [hz] at HC;have HZ:=Lib.hid hz;clear hz;go_wp2_with fail;refine Each.region_all 10 [17,18,19,20,21,22,23,24,25,26]
     [Each.is (.slice (some ⟨bl,off,none⟩) n cap),
       Each.is (.int .i64 ((k:Nat):Int)),
       Each.is (.pointer (some ⟨bl,off+k*7,none⟩)),
       Each.is (.agg #[.string x.m,.string x.x,.int .i64 x.k,.slice fa x.fs.length fc,.bool x.ch,.slice ba x.body.length bc,.slice ta x.ts.length tc]),
       Each.is ((.slice (some ⟨bl',off',none⟩) n cap2)),
       Each.is (.int .i64 ((k:Nat):Int)),
       Each.is (.pointer (some ⟨bl',off'+k*7,none⟩)),
       Each.is (.agg #[.string y.m,.string y.x,.int .i64 y.k,.slice fa' y.fs.length fc',.bool y.ch,.slice ba' y.body.length bc',.slice ta' y.ts.length tc']),
       Each.is (.bool z),
       Each.is (.bool (!z))]
      (by kernel_rfl) (by kernel_rfl) (by kernel_rfl) (by kernel_rfl) (fun _ _ d _ _ h=>by cases d<;>exact h) (by rfl) (by rfl)
     (by repeat first | exact trivial | refine ⟨Each.Lasts.eq _,?_⟩) ?_ ?_
    ·refine ⟨?_,?_,?_,?_,?_,?_,?_,?_,?_,?_,trivial⟩
     ·refine Each.fine rfl (fun ev w1 hR hb hh=>?_);clear hh;have e0:=hR.old 0 rfl;simp only [qA,qT,qZ,qO] at e0;refine Each.Goes.same ?_;go_simp;try with_reducible rfl
     ·refine Each.fine rfl (fun ev w1 hR hb hh=>?_);clear hh;have e5:=hR.old 5 rfl;simp only [qA,qT,qS,qZ,qO] at e5;refine Each.Goes.same ?_;go_simp;try with_reducible rfl
     ·refine Each.fine rfl (fun ev w1 hR hb hh=>?_);have e17:(ev (.tmp 17)=.slice (some ⟨bl,off,none⟩) n cap):=hh.at 0;have e18:(ev (.tmp 18)=.int .i64 ((k:Nat):Int)):=hh.at 1;clear hh;refine Each.Goes.same ?_;go_simp;try with_reducible rfl
     ·refine Each.fine rfl (fun ev w1 hR hb hh=>?_);have e19:(ev (.tmp 19)=.pointer (some ⟨bl,off+k*7,none⟩)):=hh.at 0;clear hh
      obtain ⟨q0,q1,q2,q3,q4,q5,q6⟩:=HCE.out w1 (hdr.out.trans (hb.mono (Nat.le_refl _)));refine Each.Goes.same ?_;go_simp;try with_reducible rfl
     ·refine Each.fine rfl (fun ev w1 hR hb hh=>?_);clear hh;have e1:=hR.old 1 rfl;simp only [qA,qT,qS,qZ,qO] at e1;refine Each.Goes.same ?_;go_simp;try with_reducible rfl
     ·refine Each.fine rfl (fun ev w1 hR hb hh=>?_);clear hh;have e5:=hR.old 5 rfl;simp only [qA,qT,qS,qZ,qO] at e5;refine Each.Goes.same ?_;go_simp;try with_reducible rfl
     ·refine Each.fine rfl (fun ev w1 hR hb hh=>?_);have e21:(ev (.tmp 21)=(.slice (some ⟨bl',off',none⟩) n cap2)):=hh.at 0;have e22:(ev (.tmp 22)=.int .i64 ((k:Nat):Int)):=hh.at 1;clear hh;refine Each.Goes.same ?_;go_simp;try with_reducible rfl
     ·refine Each.fine rfl (fun ev w1 hR hb hh=>?_);have e23:(ev (.tmp 23)=.pointer (some ⟨bl',off'+k*7,none⟩)):=hh.at 0;clear hh
      obtain ⟨q0,q1,q2,q3,q4,q5,q6⟩:=HCD.out w1 (hdr.out.trans (hb.mono (Nat.le_refl _)));refine Each.Goes.same ?_;go_simp;try with_reducible rfl
     ·refine Each.fine rfl (fun ev w1 hR hb hh=>?_);have e20:(ev (.tmp 20)=.agg #[.string x.m,.string x.x,.int .i64 x.k,.slice fa x.fs.length fc,.bool x.ch,.slice ba x.body.length bc,.slice ta x.ts.length tc]):=hh.at 0;have e24:(ev (.tmp 24)=.agg #[.string y.m,.string y.x,.int .i64 y.k,.slice fa' y.fs.length fc',.bool y.ch,.slice ba' y.body.length bc',.slice ta' y.ts.length tc']):=hh.at 1;clear hh;have ef:=hR.func
      refine Each.Goes.enter 38 #[.agg #[.string x.m,.string x.x,.int .i64 x.k,.slice fa x.fs.length fc,.bool x.ch,.slice ba x.body.length bc,.slice ta x.ts.length tc],.agg #[.string y.m,.string y.x,.int .i64 y.k,.slice fa' y.fs.length fc',.bool y.ch,.slice ba' y.body.length bc',.slice ta' y.ts.length tc']] (by go_simp) ((HC.out w1 (hdr.out.trans (hb.mono (Nat.le_refl _)))).mono ?_);rintro e w2 ⟨rfl,hb2⟩;exact ⟨_,rfl,hb2,rfl⟩
     ·refine Each.fine rfl (fun ev w1 hR hb hh=>?_);have e25:(ev (.tmp 25)=.bool z):=hh.at 0;clear hh;refine Each.Goes.same ?_;go_simp;try with_reducible rfl
    intro g1 w2 hb hf;have z26:(g1 26=.bool (!z)):=hf.at 9;clear hf;simp only [Each.putg,Act.put,qI,qY,qX];rw [z26]
    have H3:=Lib.hid (Base.below_step hbr.out hb);clear hb;cases z with
    | true=>
      have HE:=Lib.hid (HN.out ((same_iff _ _).1 HZ.out));clear HN HX HZ;go_wp2;go_roundw
      case rel=>exact ⟨k+1,by omega,by go_num,HE,H3⟩
      case measure=>simp [intOf];omega
    | false=>
      have HE:=Lib.hid (show B=false by
       rw [←HB.out,Bool.eq_false_iff];intro e
       have:=(same_iff _ _).2 (HX.out ((all_iff _ _).1 e));rw [HZ.out] at this;cases this)
      clear HN HX HZ;go_wp2;go_ret;exact ⟨by first | rfl |(rw [HE.out];rfl),H3.out⟩
   ·obtain rfl:k=n:=by omega
    have HE:=Lib.hid (show B=true by
     rw [←HB.out,all_iff];have:=hpre.out
     rwa [List.take_of_length_le (by rw [HL.out];omega),List.take_of_length_le (by rw [HM.out];omega)] at this)
    clear hpre;go_wp2;go_ret;exact ⟨by first | rfl |(rw [HE.out];rfl),hbr.out⟩
 ·have e:all rs qs=false:=all_len rs qs (by rw [hv.1,hu.1];exact hnm);have t0:((n:Int)==(m:Int))=false:=by rw [beq_eq_false_iff_ne];omega
  have t1:¬(n:Int)=(m:Int):=by omega
  rw [e];clear hv hu hf hg e hnm;go_enter Tryz.func22,Tryz.ntmps22;go_wp2;go_ret;exact ⟨rfl,Below.refl _ _⟩
end code
end Go.Proofs.YtimoakmcelocfaaGreat.Rec
namespace Go.Proofs.YtimoakmcelocfaaGreat.Flt
open Go.RowKit Base Txt Par Pg
structure F where
 x:Q
 y:Q
 code:Nat
 parted:Bool
def F.judge (f:F) (s l:Nat) (alike:Bool):F:=
 if s≠0 then {f with code:=s,parted:=l==0} else if (!(l==0) || !alike)=true then {f with code:=400,parted:=true} else f
section
variable (p:Nat) (b:Bd)
def F.look (f:F) (c:UInt8):F × List Rec.R:=
 let x:=f.x.byte 0 b c
 let y:=f.y.byte p b c
 (F.judge ⟨x.told,y.told,f.code,f.parted⟩ x.err y.err (Rec.all x.out y.out),if Rec.all x.out y.out=true then x.out else [])
def F.byte (f:F) (c:UInt8):F × List Rec.R:=if f.code=0 then f.look p b c else (f,[])
def F.feed:F→List UInt8→F × List Rec.R
 | f,[]=>(f,[])
 | f,c::l=>((F.feed (f.byte p b c).1 l).1,(f.byte p b c).2++(F.feed (f.byte p b c).1 l).2)
def F.new:F:=⟨Q.new 0 b,Q.new p b,(Q.new p b).err,false⟩
def F.held (f:F):Nat:=max f.x.held f.y.held
theorem F.feed_app (l l':List UInt8):∀f:F,F.feed p b f (l++l')=((F.feed p b (F.feed p b f l).1 l').1,(F.feed p b f l).2++(F.feed p b (F.feed p b f l).1 l').2):=by
 induction l with
 | nil=>intro f;simp [F.feed]
 | cons c l ih=>
   intro f;rw [List.cons_append];simp only [F.feed];rw [ih,List.append_assoc]
theorem F.feed_snoc (l:List UInt8) (c:UInt8) (f:F):F.feed p b f (l ++ [c])=((F.byte p b (F.feed p b f l).1 c).1,(F.feed p b f l).2++(F.byte p b (F.feed p b f l).1 c).2):=by rw [F.feed_app];simp [F.feed]
theorem F.feed_blocked (f:F) (h:f.code≠0):∀l:List UInt8,F.feed p b f l=(f,[])
 | []=>rfl
 | c::l=>by
   have e:f.byte p b c=(f,[]):=if_neg h;simp only [F.feed,e,F.feed_blocked f h l,List.append_nil]
end
section
variable {p:Nat} {b:Bd}
theorem told_out (x:Q):x.told.out= []:=by cases x<;>rfl
def F.Just (p:Nat) (b:Bd) (f:F):Prop:=
 (f.code=0∧f.parted=false∧∃t,f.x=.live t∧t.Strict∧t.out= []∧f.y=.live (t.wide p)∧t.Ok∧b.right=true∧∃s,RR 0 b t s)∨(f.code≠0∧∃o,f.x=.dead f.code o)
theorem just_new (hp:p<1073741824) (hb:b.right=true):(F.new p b).Just p b:=by
 have e:Q.new p b=.live (T.new p b):=if_pos (by rw [hb,decide_eq_true hp];rfl)
 have e0:Q.new 0 b=.live (T.new 0 b):=if_pos (by rw [hb];rfl)
 have hs:=new_sim (p:=0) (b:=b);rw [e0] at hs;refine .inl ⟨?_,rfl,T.new 0 b,e0,(new_wide (p:=p)).2,rfl,?_,⟨Ln.M.new_ok _ _ _ (Ln.mid_le _),rfl,⟨Nat.le_refl _,by show 1≤7;omega⟩,Nat.zero_le _,Nat.zero_le _,Nat.le_refl _,Nat.le_refl _,(by intro y hy;cases hy),(by intro y hy;cases hy),Nat.zero_le _,Nat.zero_le _,Nat.zero_le _,fun h=>(by cases h),fun _=>rfl,Nat.zero_le _⟩,hb,_,hs⟩
 ·show (Q.new p b).err=0;rw [e];rfl
 ·show Q.new p b= _;rw [e,(new_wide (p:=p)).1]
theorem all_self (l:List Rec.R):Rec.all l l=true:=(Rec.all_iff l l).2 rfl
theorem just_byte {f:F} (h:f.Just p b) (c:UInt8):(f.byte p b c).1.Just p b:=by
 rcases h with ⟨h1,h2,t,h3,h4,h5,h6,h7,h8,s,h9⟩ | ⟨h1,o,h2⟩
 ·unfold F.byte;rw [if_pos h1];unfold F.look;rw [h3,h6];have e1:(Q.live t).byte 0 b c=t.take 0 b c:=rfl;have e2:(Q.live (t.wide p)).byte p b c=(t.wide p).take p b c:=rfl;have hs:=take_sim h9 h7 h8 c;simp only [e1,e2];cases ht:t.take 0 b c with
  | live t2=>
    obtain ⟨k1,k2⟩:=take_wide (p:=p) ht h4;rw [ht] at hs;rw [k1];left;have ej:F.judge ⟨(Q.live t2).told,(Q.live (t2.wide p)).told,f.code,f.parted⟩ (Q.live t2).err (Q.live (t2.wide p)).err (Rec.all (Q.live t2).out (Q.live (t2.wide p)).out)=⟨(Q.live t2).told,(Q.live (t2.wide p)).told,f.code,f.parted⟩:=by have e3:Rec.all (Q.live t2).out (Q.live (t2.wide p)).out=true:=all_self _;unfold F.judge;rw [e3];rfl
    rw [ej];have hk:=told_sim (x:=.live t2) hs;exact ⟨h1,h2,{t2 with out:= []},rfl,⟨k2.lf,k2.cr⟩,rfl,rfl,(told_fine (x:=.live t2) (b:=b) ⟨h7.take h8 c ht,h8⟩).1,h8,_,hk⟩
  | dead e o=>
    rw [ht] at hs;obtain ⟨k1,k2,k3,k4⟩:=hs;right;unfold F.judge;simp only [if_pos (show (Q.dead e o).err≠0 from k2)];exact ⟨k2,[],rfl⟩
 ·unfold F.byte;rw [if_neg h1];exact .inr ⟨h1,o,h2⟩
theorem just_feed (l:List UInt8):∀{f:F},f.Just p b→(F.feed p b f l).1.Just p b:=by
 induction l with
 | nil=>intro f h;exact h
 | cons c l ih=>intro f h;exact ih (just_byte h c)
theorem Ok.fit {t:T} (h:t.Ok):Rec.Fit t.r:=
 ⟨by have:=h.m;omega,by have:=h.x;omega,by have:=h.fsl;have:=h.hl;omega,fun y hy=>by have:=h.fss y hy;have:=h.hl;omega,by have:=h.body;omega,by have:=h.tsl;have:=h.bl;omega,fun y hy=>by have:=h.tss y hy;have:=h.bl;omega⟩
theorem line_told (t:T) (s:List UInt8):(t.line p b s).2.out=t.out∨(t.line p b s).2.out=t.out ++ [t.r]:=by
 unfold T.line;split
 ·unfold T.first;split
  ·exact .inl rfl
  ·simp only;split<;>exact .inl rfl
 ·split
  ·unfold T.fields;split
   ·unfold T.endHead;simp only;split
    ·exact .inl rfl
    ·split
     ·exact .inl rfl
     ·split
      ·exact .inr rfl
      ·exact .inl rfl
   ·exact .inl rfl
  ·split
   ·unfold T.chunk;simp only;split
    ·exact .inl rfl
    ·split
     ·exact .inl rfl
     ·split<;>exact .inl rfl
   ·split
    ·unfold T.trail;split
     ·exact .inr rfl
     ·exact .inl rfl
    ·exact .inl rfl
theorem ends_out (x:Nat × T):(ends x).out=x.2.out:=by unfold ends;split<;>rfl
def Fits (o:List Rec.R):Prop:=∀r∈o,Rec.Fit r
theorem inLine_fits {t:T} (h:Fits t.out) (ok:t.Ok) (c:UInt8):Fits (t.inLine p b c).1.out:=by
 unfold T.inLine;simp only;split
 ·exact h
 ·split
  ·exact h
  ·split
   ·split
    ·exact h
    ·exact h
   ·show Fits (ends _).out;rw [ends_out];have hf:Rec.Fit t.r:=Ok.fit ok;rcases line_told (p:=p) (b:=b) {t with rd:=t.rd.byte c} (t.rd.byte c).line with e | e
    ·rw [e];exact h
    ·rw [e];intro r hr;rcases List.mem_append.1 hr with hr | hr
     ·exact h r hr
     ·rw [List.mem_singleton.1 hr];exact hf
theorem look_fits {t:T} (h:Fits t.out) (ok:t.Ok) (hb:b.right=true) (c:UInt8):Fits (t.look p b c).1.out:=by
 unfold T.look;split
 ·rename_i hs;have hk:Rec.Fit (t.keep c).r:=by
   have h1:=Ok.fit ok;have h2:=ok.left hs;exact ⟨h1.m,h1.x,h1.fs,h1.f,by have:=ok.body;show (t.r.body ++ [c]).length≤_;rw [List.length_append,List.length_singleton];omega,h1.ts,h1.t⟩
  show Fits (if t.left=1 then (t.keep c).endData p else t.keep c).out;split
  ·unfold T.endData;split
   ·exact h
   ·intro r hr;rcases List.mem_append.1 hr with hr | hr
    ·exact h r hr
    ·rw [List.mem_singleton.1 hr];exact hk
  ·exact h
 ·split
  ·rename_i hh;split
   ·show Fits t.out;exact h
   ·rename_i hx;exact inLine_fits (by rw [counted_out];exact h) (ok.counted hb hx) c
  ·exact inLine_fits h ok c
theorem byte_fits {x:Q} (h:Fits x.out) (ok:x.Fine b) (c:UInt8):Fits (x.byte p b c).out:=by
 cases x with
 | dead e o=>exact h
 | live t=>
   obtain ⟨h1,h2⟩:=ok;show Fits (t.take p b c).out;unfold T.take;have k1:=look_fits (p:=p) (b:=b) (t:={t with cnt:=false}) h h1.cleared h2 c;rcases hq:T.look p b {t with cnt:=false} c with ⟨q,u⟩;rw [hq] at k1;cases q with
   | dead e o=>cases u<;>exact k1
   | live t1=>
     cases u with
     | true=>exact k1
     | false=>exact look_fits k1 (h1.cleared.look h2 c (by rw [hq])) h2 c
end
end Go.Proofs.YtimoakmcelocfaaGreat.Flt
namespace Go.Proofs.YtimoakmcelocfaaGreat.Each
open Go.RowKit Base Mem Par
structure Thing (A A':World→List (Option Nat)→Prop):Prop where
 keeps:∀{w w':World} {L M:List (Option Nat)},A w L→Keeps M w w'→(∀k,some k∈L→some k∉M)→A w' L
 keeps':∀{w w':World} {L M:List (Option Nat)},A' w L→Keeps M w w'→(∀k,some k∈L→some k∉M)→A' w' L
 inn:∀{w:World} {L:List (Option Nat)},A w L→In w L
 inn':∀{w:World} {L:List (Option Nat)},A' w L→In w L
 uniq:∀{w:World} {L L':List (Option Nat)},(A w L∨A' w L)→(A w L'∨A' w L')→L=L'
theorem Thing.now {A A':World→List (Option Nat)→Prop} (h:Thing A A') {w w':World} {L M:List (Option Nat)} (hA:A w L∨A' w L) (hk:Keeps M w w') (hd:∀k,some k∈L→some k∉M):A w' L∨A' w' L:=
 hA.imp (fun h1=>h.keeps h1 hk hd) (fun h1=>h.keeps' h1 hk hd)
theorem Thing.in {A A':World→List (Option Nat)→Prop} (h:Thing A A') {w:World} {L:List (Option Nat)} (hA:A w L∨A' w L):In w L:=hA.elim h.inn h.inn'
def Dis (L M:List (Option Nat)):Prop:=∀k,some k∈L→some k∉M
theorem Dis.symm {L M:List (Option Nat)} (h:Dis L M):Dis M L:=fun k hM hL=>h k hL hM
theorem Dis.of {W:World} {L M M':List (Option Nat)} (h:Dis L M) (hin:In W L) (ho:Of W M M'):Dis L M':=fun k hL hM=>by
 rcases ho k hM with e | e
 ·exact h k hL e
 ·have:=hin k hL;omega
section
variable {P:Program} {l:List Oper} {Q:Exit→Act→World→Prop} {fs:List Fact} {a0:Act} {ds:List Nat}
variable (A A' C C':World→List (Option Nat)→Prop) (L1 L2:List (Option Nat)) (i1 i2:Nat) (W:World)
structure Two (b:Array Bool) (w:World):Prop where
 keeps:Keeps (L1++L2) W w
 both:∃M1 M2,(A' w M1∧b.getD i1 false=true∨A w M1∧M1=L1)∧(C' w M2∧b.getD i2 false=true∨C w M2∧M2=L2)∧Dis M1 M2∧Of W L1 M1∧Of W L2 M2
def RTwo (k:Nat) (w w':World):Prop:=
 if k=i1 then w'=w∨∃M1,A' w' M1∧Step L1 M1 w w' else if k=i2 then w'=w∨∃M2,C' w' M2∧Step L2 M2 w w' else Below w.heap.size w w'
variable {A A' C C' L1 L2 i1 i2 W}
theorem Two.step (hA:Thing A A') (hC:Thing C C') (h12:i1≠i2) {b:Array Bool} {k:Nat} {w w':World} (hks:k<b.size) (hbk:b.getD k false=false) (h:Two A A' C C' L1 L2 i1 i2 W b w) (hR:RTwo A' C' L1 L2 i1 i2 k w w'):Two A A' C C' L1 L2 i1 i2 W (b.setIfInBounds k true) w':=by
 obtain ⟨hk,M1,M2,h1,h2,h3,h4,h5⟩:=h
 have hin1:In w M1:=h1.elim (fun h=>hA.inn' h.1) (fun h=>hA.inn h.1)
 have hin2:In w M2:=h2.elim (fun h=>hC.inn' h.1) (fun h=>hC.inn h.1);have g1:(b.setIfInBounds k true).getD i1 false=if i1=k then true else b.getD i1 false:=get_set b k i1 hks
 have g2:(b.setIfInBounds k true).getD i2 false=if i2=k then true else b.getD i2 false:=get_set b k i2 hks
 have up1:b.getD i1 false=true→(b.setIfInBounds k true).getD i1 false=true:=fun e=>by rw [g1,e];split<;>rfl
 have up2:b.getD i2 false=true→(b.setIfInBounds k true).getD i2 false=true:=fun e=>by rw [g2,e];split<;>rfl
 unfold RTwo at hR;by_cases e1:k=i1
 ·rw [if_pos e1] at hR;subst e1;have h1':A w M1∧M1=L1:=by
   rcases h1 with ⟨-,h⟩ | h
   ·rw [hbk] at h;cases h
   ·exact h
  rcases hR with rfl | ⟨M1',hA',hs⟩
  ·exact ⟨hk,M1,M2,.inr h1',h2.imp (fun h=>⟨h.1,up2 h.2⟩) id,h3,h4,h5⟩
  ·have e:=h1'.2;subst e;have hd:Dis M2 M1':=h3.symm.of hin2 hs.of
   exact ⟨hk.trans (hs.keeps.mono fun k hk=>List.mem_append_left _ hk) Of.refl,M1',M2,.inl ⟨hA',by rw [g1,if_pos rfl]⟩,
    h2.imp (fun h=>⟨hC.keeps' h.1 hs.keeps h3.symm,up2 h.2⟩) (fun h=>⟨hC.keeps h.1 hs.keeps h3.symm,h.2⟩),hd.symm,h4.trans hs.of hk.size,h5⟩
 ·rw [if_neg e1] at hR;by_cases e2:k=i2
  ·rw [if_pos e2] at hR;subst e2;have h2':C w M2∧M2=L2:=by
    rcases h2 with ⟨-,h⟩ | h
    ·rw [hbk] at h;cases h
    ·exact h
   rcases hR with rfl | ⟨M2',hC',hs⟩
   ·exact ⟨hk,M1,M2,h1.imp (fun h=>⟨h.1,up1 h.2⟩) id,.inr h2',h3,h4,h5⟩
   ·have e:=h2'.2;subst e;have hd:Dis M1 M2':=h3.of hin1 hs.of
    exact ⟨hk.trans (hs.keeps.mono fun k hk=>List.mem_append_right _ hk) Of.refl,M1,M2',h1.imp (fun h=>⟨hA.keeps' h.1 hs.keeps h3,up1 h.2⟩) (fun h=>⟨hA.keeps h.1 hs.keeps h3,h.2⟩),
     .inl ⟨hC',by rw [g2,if_pos rfl]⟩,hd,h4,h5.trans hs.of hk.size⟩
  ·rw [if_neg e2] at hR;have hkb:Keeps [] w w':=Keeps.of_below hR
   exact ⟨hk.trans hkb (fun k hk=>by cases hk),M1,M2,h1.imp (fun h=>⟨hA.keeps' h.1 hkb (by simp),up1 h.2⟩) (fun h=>⟨hA.keeps h.1 hkb (by simp),h.2⟩),
    h2.imp (fun h=>⟨hC.keeps' h.1 hkb (by simp),up2 h.2⟩) (fun h=>⟨hC.keeps h.1 hkb (by simp),h.2⟩),h3,h4,h5⟩
theorem fine_two {k:Nat} {o:Oper} {f:Fact} (h1:k≠i1) (h2:k≠i2) (hg:o.guard=none) (h:∀(ev:Operand→Value) (w:World),Reads a0 ds ev→Keeps (L1++L2) W w→has l fs ev w o.after.toList→Goes P o ev f w) :
 FineR P l fs (RTwo A' C' L1 L2 i1 i2) (Two A A' C C' L1 L2 i1 i2 W) a0 ds k o f:=
 fun ev _ w hr hK _ hh=>⟨fun _=>(h ev w hr hK.keeps hh).gen fun w' hb=>by unfold RTwo;rw [if_neg h1,if_neg h2];exact hb,fun hw=>by simp [Region.wanted,hg] at hw⟩
theorem fine_first {o:Oper} {f:Fact} (hg:o.guard=none) (h:∀(ev:Operand→Value) (w:World) (M2:List (Option Nat)),Reads a0 ds ev→Keeps (L1++L2) W w→A w L1→(C w M2∨C' w M2)→Dis L1 M2→has l fs ev w o.after.toList→
 GoesR P o ev f (fun w w'=>∃M1,A' w' M1∧Step L1 M1 w w') w) :
 FineR P l fs (RTwo A' C' L1 L2 i1 i2) (Two A A' C C' L1 L2 i1 i2 W) a0 ds i1 o f:=by
 intro ev b w hr hK hb hh;refine ⟨fun _=>?_,fun hw=>by simp [Region.wanted,hg] at hw⟩;obtain ⟨hk,M1,M2,h1,h2,h3,h4,h5⟩:=hK;have h1':A w M1∧M1=L1:=by
  rcases h1 with ⟨-,h⟩ | h
  ·rw [hb] at h;cases h
  ·exact h
 have e:=h1'.2;subst e;have hR:RTwo A' C' M1 L2 i1 i2 i1=fun w w'=>w'=w∨∃M1',A' w' M1'∧Step M1 M1' w w':=by funext w w';unfold RTwo;rw [if_pos rfl]
 rw [hR];cases h ev w M2 hr hk h1'.1 (h2.elim (fun h=>.inr h.1) (fun h=>.inl h.1)) h3 hh with
 | value v w' hrun hb hf=>exact .value v w' hrun (.inr hb) hf
 | enter g args hrun hc=>
   refine .enter g args hrun (hc.mono ?_);rintro e w' ⟨v,rfl,hb,hfv⟩;exact ⟨v,rfl,.inr hb,hfv⟩
theorem fine_second {o:Oper} {f:Fact} (h12:i1≠i2) (hg:o.guard=none) (h:∀(ev:Operand→Value) (w:World) (M1:List (Option Nat)),Reads a0 ds ev→Keeps (L1++L2) W w→C w L2→(A w M1∨A' w M1)→Dis L2 M1→has l fs ev w o.after.toList→
 GoesR P o ev f (fun w w'=>∃M2,C' w' M2∧Step L2 M2 w w') w) :
 FineR P l fs (RTwo A' C' L1 L2 i1 i2) (Two A A' C C' L1 L2 i1 i2 W) a0 ds i2 o f:=by
 intro ev b w hr hK hb hh;refine ⟨fun _=>?_,fun hw=>by simp [Region.wanted,hg] at hw⟩;obtain ⟨hk,M1,M2,h1,h2,h3,h4,h5⟩:=hK;have h2':C w M2∧M2=L2:=by
  rcases h2 with ⟨-,h⟩ | h
  ·rw [hb] at h;cases h
  ·exact h
 have e:=h2'.2;subst e;have hR:RTwo A' C' L1 M2 i1 i2 i2=fun w w'=>w'=w∨∃M2',C' w' M2'∧Step M2 M2' w w':=by funext w w';unfold RTwo;rw [if_neg h12.symm,if_pos rfl]
 rw [hR];cases h ev w M1 hr hk h2'.1 (h1.elim (fun h=>.inr h.1) (fun h=>.inl h.1)) h3.symm hh with
 | value v w' hrun hb hf=>exact .value v w' hrun (.inr hb) hf
 | enter g args hrun hc=>
   refine .enter g args hrun (hc.mono ?_);rintro e w' ⟨v,rfl,hb,hfv⟩;exact ⟨v,rfl,.inr hb,hfv⟩
def waits (l:List Oper) (k j:Nat):Bool:=match l[k]? with
 | some o=>o.after.toList.any fun e=>Region.binds .any e&&e.on==j
 | none=>false
def LastsTwo (l:List Oper) (A' C':World→List (Option Nat)→Prop) (L1 L2:List (Option Nat)) (i1 i2 k:Nat) (f:Fact):Prop:=
 (∀v w w',Below w.heap.size w w'→f v w→f v w')∧(k≠i1→waits l k i1=false→∀v w w' M1,A' w' M1→Step L1 M1 w w'→f v w→f v w')∧(k≠i2→waits l k i2=false→∀v w w' M2,C' w' M2→Step L2 M2 w w'→f v w→f v w')
theorem LastsTwo.pure (k:Nat) (p:Value→Prop):LastsTwo l A' C' L1 L2 i1 i2 k (fun v _=>p v):=⟨fun _ _ _ _ h=>h,fun _ _ _ _ _ _ _ _ h=>h,fun _ _ _ _ _ _ _ _ h=>h⟩
theorem LastsTwo.keeps {k:Nat} {f:Fact} (h:∀v w w' M,(∀k,some k∈M→some k∈L1++L2)→Keeps M w w'→f v w→f v w'):LastsTwo l A' C' L1 L2 i1 i2 k f:=
 ⟨fun v w w' hb hf=>h v w w' [] (by intro k hk;cases hk) (Keeps.of_below hb) hf,fun _ _ v w w' _ _ hs hf=>h v w w' L1 (fun _ hk=>List.mem_append_left _ hk) hs.keeps hf,fun _ _ v w w' _ _ hs hf=>h v w w' L2 (fun _ hk=>List.mem_append_right _ hk) hs.keeps hf⟩
def EveryTwo (l:List Oper) (A' C':World→List (Option Nat)→Prop) (L1 L2:List (Option Nat)) (i1 i2:Nat):Nat→List Fact→Prop
 | _,[]=>True
 | k,f::fs=>LastsTwo l A' C' L1 L2 i1 i2 k f∧EveryTwo l A' C' L1 L2 i1 i2 (k+1) fs
theorem everyTwo_at:∀{fs:List Fact} {n:Nat},EveryTwo l A' C' L1 L2 i1 i2 n fs→∀(k:Nat) (f:Fact),fs[k]?=some f→LastsTwo l A' C' L1 L2 i1 i2 (n+k) f
 | [],_,_,k,f,hf=>by simp at hf
 | g::fs,n,h,0,f,hf=>by simp at hf;subst hf;exact h.1
 | g::fs,n,h,k+1,f,hf=>by
   have:=everyTwo_at h.2 k f (by simpa using hf);rw [show n+(k+1)=n+1+k by omega];exact this
def AllTwo (P:Program) (l:List Oper) (fs:List Fact) (R:Nat→World→World→Prop) (K:Array Bool→World→Prop) (a0:Act) (ds:List Nat):Nat→List Oper→List Fact→Prop
 | k,o::os,f::gs=>FineR P l fs R K a0 ds k o f∧AllTwo P l fs R K a0 ds (k+1) os gs
 | _,_,_=>True
theorem allTwo_at {R:Nat→World→World→Prop} {K:Array Bool→World→Prop}:∀{os:List Oper} {gs:List Fact} {n:Nat},AllTwo P l fs R K a0 ds n os gs→∀(k:Nat) (o:Oper) (f:Fact),os[k]?=some o→gs[k]?=some f→FineR P l fs R K a0 ds (n+k) o f
 | [],_,_,_,k,o,f,ho,hf=>by simp at ho
 | _ :: _,[],_,_,k,o,f,ho,hf=>by simp at hf
 | _ :: _,_ :: _,_,h,0,o,f,ho,hf=>by simp at ho hf;subst ho hf;exact h.1
 | _ :: _,_ :: _,n,h,k+1,o,f,ho,hf=>by
   have:=allTwo_at h.2 k o f (by simpa using ho) (by simpa using hf);rw [show n+(k+1)=n+1+k by omega];exact this
theorem region_two (m:Nat) (ds:List Nat) (fs:List Fact) (i1 i2:Nat) {id:Nat} {a0:Act} {w:World} (hA:Thing A A') (hC:Thing C C') (hA0:A w L1) (hC0:C w L2) (hd:Dis L1 L2)
 (hmo:P.follows .mixedOrders=true) (hg:good l m ds [] (l.length-m)=true) (hns:Region.noSelect l.toArray=true)
 (hp:Tree.fits l.toArray .done (l.length-m) (fill l.length m [])=true) (hQ:∀c a d v w,Q (.panic c) (Act.put a d v) w→Q (.panic c) a w)
 (hsz:ds.all (fun d=>decide (d<a0.tmps.size))=true) (hlen:fs.length=m) (hi:(decide (i1<m)&&(decide (i2<m)&&decide (i1≠i2)))=true) (hlast:EveryTwo l A' C' L1 L2 i1 i2 0 fs)
 (hfine:AllTwo P l fs (RTwo A' C' L1 L2 i1 i2) (Two A A' C C' L1 L2 i1 i2 (w.drewN 1)) a0 ds 0 l fs)
 (hrest:∀(g:Nat→Value) (w':World) (M1 M2:List (Option Nat)),(A w' M1∨A' w' M1)→(C w' M2∨C' w' M2)→Dis M1 M2→Of w L1 M1→Of w L2 M2→Keeps (L1++L2) w w'→facts g w' ds fs→Q .normal (putg g ds a0) w'):(Code.region id l.toArray true).wp P Q a0 w:=by
 simp only [Bool.and_eq_true,decide_eq_true_eq] at hi;obtain ⟨hi1,hi2,h12⟩:=hi
 have hbd:Keeps [] w (w.drewN 1):=Keeps.of_below (Base.below_drewN (Below.refl w.heap.size w) 1);have hml:m≤l.length:=by simp only [good,Bool.and_eq_true,decide_eq_true_eq] at hg;exact hg.1
 refine region_gen (K:=fun b w'=>b.size=l.length∧Two A A' C C' L1 L2 i1 i2 (w.drewN 1) b w') (R:=RTwo A' C' L1 L2 i1 i2) m ds fs [] (l.length-m) .done hmo hg hns hp hQ hsz hlen
  ⟨by simp,Keeps.refl,L1,L2,.inr ⟨hA.keeps hA0 hbd (by simp),rfl⟩,.inr ⟨hC.keeps hC0 hbd (by simp),rfl⟩,hd,Of.refl,Of.refl⟩
  (fun b k w1 w2 hk hbk hK hR=>⟨by simp [hK.1],hK.2.step hA hC h12 (by rw [hK.1];omega) hbk hR⟩) (fun k w=>?_) (fun k j f hf hjk hwt v w1 w2 hR hv=>?_) trivial (fun k o f ho hf _ ev b w1 hr hK hb hh=>?_) (fun g w' hK hf=>?_)
 ·unfold RTwo;split
  ·exact .inl rfl
  ·split
   ·exact .inl rfl
   ·exact Below.refl _ _
 ·have:=everyTwo_at hlast k f hf;rw [Nat.zero_add] at this;obtain ⟨l1,l2,l3⟩:=this;have hw0:∀i,j=i→waits l k i=false:=by
   intro i hi;unfold waits;cases ho:l[k]? with
   | none=>rfl
   | some o=>
     rw [Bool.eq_false_iff];intro hh;obtain ⟨e,he,h2⟩:=List.any_eq_true.1 hh;rw [Bool.and_eq_true,beq_iff_eq] at h2
     exact hwt o ho e he h2.1 (h2.2.trans hi.symm)
  unfold RTwo at hR;split at hR
  ·rename_i e;rcases hR with rfl | ⟨M1,h1,h2⟩
   ·exact hv
   ·exact l2 (by omega) (hw0 _ e) v w1 w2 M1 h1 h2 hv
  ·split at hR
   ·rename_i e;rcases hR with rfl | ⟨M2,h1,h2⟩
    ·exact hv
    ·exact l3 (by omega) (hw0 _ e) v w1 w2 M2 h1 h2 hv
   ·exact l1 v w1 w2 hR hv
 ·have:=allTwo_at hfine k o f ho hf;rw [Nat.zero_add] at this;exact this ev b w1 hr hK.2 hb hh
 ·obtain ⟨-,hk,M1,M2,h1,h2,h3,h4,h5⟩:=hK;rw [Tree.grow];have hof:∀{L M:List (Option Nat)},Of (w.drewN 1) L M→Of w L M:=fun h k hk=>h k hk
  exact Tree.done (hrest g w' M1 M2 (h1.elim (fun h=>.inr h.1) (fun h=>.inl h.1)) (h2.elim (fun h=>.inr h.1) (fun h=>.inl h.1)) h3 (hof h4) (hof h5) (Keeps.trans (hbd.mono fun k hk=>by cases hk) hk Of.refl) hf)
end
end Go.Proofs.YtimoakmcelocfaaGreat.Each
namespace Go.Proofs.YtimoakmcelocfaaGreat.Pg
open Go.RowKit Base Txt Mem Par Each
section
variable {w w':World} {B:Zone} {g q:Nat} {v f bd t o:Value} {p:Nat} {b:Bd} {L M:List (Option Nat)} {x:Q} {rd:Ln.M} {fs ts:List Fld} {body:List UInt8}
theorem cells_inj {a c:List Value} {ty:TypeId} {fr:Nat × Nat} (h1:w.heap[g]?=some (.cells a.toArray ty fr)) (h2:w.heap[g]?=some (.cells c.toArray ty fr)):a=c:=by have h3:=h1.symm.trans h2;simp only [Option.some.injEq,Obj.cells.injEq,and_true] at h3;simpa using h3
theorem Told.keeps {out:List Rec.R} (h:Told L B w o out) (hk:Keeps M w w') (hM:∀k,some k∈M→some k∈B.z):Told L B w' o out:=by obtain ⟨ps,h1,h2,h3⟩:=h.outs;refine ⟨⟨ps,h1,fun x hx=>⟨(h2 x hx).1,?_⟩,hk.own h3 fun k e hm=>h.off k e (hM k hm)⟩,fun k e=>⟨(h.far k e).1,Nat.lt_of_lt_of_le (h.far k e).2 hk.size⟩,h.off⟩;have hf:=(h2 x hx).2;have hf2:Far M B.z w (.agg x.1) x.2:=⟨hf.reads,fun k hb=>⟨fun hm=>hf.off k hb (hM k hm),(hf.far k hb).2⟩,hf.off⟩;have:=hf2.keeps hk;exact ⟨this.reads,fun k hb=>⟨(hf.far k hb).1,(this.far k hb).2⟩,hf.off⟩
theorem Told.rezone {out:List Rec.R} (h:Told L B w o out) {Z:List (Option Nat)} (hZ:∀k,some k∈Z→some k∈B.z∨w.heap.size≤k):Told L ⟨B.b,Z⟩ w o out:=by
 obtain ⟨ps,h1,h2,h3⟩:=h.outs;refine ⟨⟨ps,h1,fun x hx=>⟨(h2 x hx).1,(h2 x hx).2.reads,(h2 x hx).2.far,fun k hb hz=>?_⟩,h3⟩,h.far,fun k e hz=>?_⟩
 ·rcases hZ k hz with e | e
  ·exact (h2 x hx).2.off k hb e
  ·have:=((h2 x hx).2.far k hb).2;omega
 ·rcases hZ k hz with e1 | e1
  ·exact h.off k e e1
  ·have:=(h.far k e).2;omega
end
end Go.Proofs.YtimoakmcelocfaaGreat.Pg
namespace Go.Proofs.YtimoakmcelocfaaGreat.Flt
open Go.RowKit Base Txt Mem Par Pg Each
abbrev fcells (g1 g2:Nat) (code:Nat) (pt:Bool):List Value:= [ptr g1,ptr g2,.int .i64 (code:Int),.bool pt]
abbrev fblks (g:Nat) (L1 L2:List (Option Nat)):List (Option Nat):=some g::(L1++L2)
section
variable {w w':World} {B g g1 g2 p:Nat} {b:Bd} {L1 L2 M:List (Option Nat)} {f:F}
structure Fix (M:List (Option Nat)) (w:World) (g:Nat) (cs:List Value):Prop where
 row:∃ty,w.heap[g]?=some (.cells cs.toArray ty (0,0))
 off:some g∉M
theorem Fix.below {cs:List Value} (h:Fix M w g cs) (hk:Keeps M w w'):Fix M w' g cs:=⟨h.row.imp fun _ h1=>hk.row h1 h.off,h.off⟩
theorem Fix.c {cs:List Value} (h:Fix M w g cs) (k:Nat) (v:Value) (hv:cs[k]?=some v):w.cell? ⟨g,k,none⟩=some v:=by obtain ⟨_,h1⟩:=h.row;exact row_cellL h1 hv
def OneBy (M:List (Option Nat)) (a:Option Addr) (c:Nat):Fact:=fun v w=>∃k,v=.slice (some ⟨k,0,none⟩) 1 1∧k<w.heap.size∧some k∉M∧w.cell? ⟨k,0,none⟩=some (.slice a 1 c)
def ToldBy (A' C C':World→List (Option Nat)→Prop) (L2 Z:List (Option Nat)) (B:Nat) (out:List Rec.R):Fact:=fun v w=>∃M1 M2,A' w M1∧(C w M2∨C' w M2)∧Dis M1 L2∧Pg.Told M1 ⟨B,L2++(M2++Z)⟩ w v out
variable {A A' C C':World→List (Option Nat)→Prop} {Z:List (Option Nat)} {out:List Rec.R} {i1 i2 k:Nat} {l:List Oper}
theorem ToldBy.below (hA:Thing A A') (hC:Thing C C') {v:Value} (h:ToldBy A' C C' L2 Z B out v w) (hb:Below w.heap.size w w'):ToldBy A' C C' L2 Z B out v w':=by obtain ⟨M1,M2,h1,h2,h3,h4⟩:=h;have hk:Keeps [] w w':=Keeps.of_below hb;exact ⟨M1,M2,hA.keeps' h1 hk (by simp),hC.now h2 hk (by simp),h3,h4.keeps hk (by simp)⟩
theorem ToldBy.step (hA:Thing A A') {v:Value} (h:ToldBy A' C C' L2 Z B out v w) {M:List (Option Nat)} (hM:C' w' M) (hs:Step L2 M w w'):ToldBy A' C C' L2 Z B out v w':=by
 obtain ⟨M1,M2,h1,h2,h3,h4⟩:=h;have h5:Pg.Told M1 ⟨B,L2++(M++Z)⟩ w v out:=h4.rezone fun k hk=>by
  rw [List.mem_append,List.mem_append] at hk;show some k∈L2++(M2++Z)∨_;rw [List.mem_append,List.mem_append];rcases hk with hk | hk | hk
  ·exact .inl (.inl hk)
  ·exact (hs.of k hk).imp .inl id
  ·exact .inl (.inr (.inr hk))
 exact ⟨M1,M,hA.keeps' h1 hs.keeps h3,.inr hM,h3,h5.keeps hs.keeps fun k hk=>List.mem_append_left _ hk⟩
theorem ToldBy.first (hA:Thing A A') (hC:Thing C C') (hk:k=i1∨waits l k i1=true):LastsTwo l A' C' L1 L2 i1 i2 k (ToldBy A' C C' L2 Z B out):=
 ⟨fun _ _ _ hb h=>h.below hA hC hb,fun h1 h2=>absurd hk (by rw [h2];simpa using h1),fun _ _ _ _ _ _ hM hs h=>h.step hA hM hs⟩
theorem ToldBy.second (hA:Thing A A') (hC:Thing C C') (hk:k=i2∨waits l k i2=true):LastsTwo l A' C' L1 L2 i1 i2 k (ToldBy C' A A' L1 Z B out):=
 ⟨fun _ _ _ hb h=>h.below hC hA hb,fun _ _ _ _ _ _ hM hs h=>h.step hC hM hs,fun h1 h2=>absurd hk (by rw [h2];simpa using h1)⟩
theorem told_widen {B:Zone} {L L':List (Option Nat)} {v:Value} (h:Pg.Told L B w v out) (hL:∀k,some k∈L'→some k∈L∨some k∈B.z):Pg.Told L' B w v out:=by
 obtain ⟨ps,h1,h2,h3⟩:=h.outs;refine ⟨⟨ps,h1,fun x hx=>⟨(h2 x hx).1,(h2 x hx).2.reads,fun k hb=>⟨fun hm=>?_,((h2 x hx).2.far k hb).2⟩,(h2 x hx).2.off⟩,h3⟩,fun k e=>⟨fun hm=>?_,(h.far k e).2⟩,h.off⟩
 ·rcases hL k hm with e | e
  ·exact ((h2 x hx).2.far k hb).1 e
  ·exact (h2 x hx).2.off k hb e
 ·rcases hL k hm with e1 | e1
  ·exact (h.far k e).1 e1
  ·exact h.off k e e1
theorem told_recs {B:Zone} {L:List (Option Nat)} {v:Value} (h:Pg.Told L B w v out):∃a c,v=.slice a out.length c∧Rec.Recs w a out.length out:=by
 obtain ⟨a,c,e,hc⟩:=h.at;refine ⟨a,c,e,rfl,fun h0=>?_⟩;obtain ⟨bk,e1,hlt,h1⟩:=hc h0;refine ⟨bk,0,e1,hlt,fun k hk=>?_⟩;obtain ⟨fa,fc,ba,bc,ta,tc,f1,f2,f3,c0,c1,c2,c3,c4,c5,c6⟩:=h1 k hk;have e2:out[k]?.getD Rec.r0=out[k]:=by rw [List.getElem?_eq_getElem hk];rfl
 rw [e2,Nat.zero_add];exact ⟨fa,fc,ba,bc,ta,tc,⟨c0,c1,c2,c3,c4,c5,c6⟩,fa,fc,ba,bc,ta,tc,rfl,f1,f2,f3⟩
theorem clear_app {Z Z' L:List (Option Nat)} (h:Clear w Z L) (h':Clear w Z' L):Clear w (Z++Z') L:=
 ⟨fun k hk=>(List.mem_append.1 hk).elim (h.inz k) (h'.inz k),fun k hk hz=>(List.mem_append.1 hz).elim (h.off k hk) (h'.off k hk)⟩
theorem clear_cons {Z L:List (Option Nat)} (hg:g<w.heap.size) (hn:some g∉L) (h:Clear w Z L):Clear w (some g::Z) L:=
 ⟨fun k hk=>by
   rcases List.mem_cons.1 hk with e | e
   ·cases e;exact hg
   ·exact h.inz k e,fun k hk hz=>by
   rcases List.mem_cons.1 hz with e | e
   ·cases e;exact hn hk
   ·exact h.off k hk e⟩
theorem clear_dis {Z L:List (Option Nat)} (hin:In w Z) (hd:Dis L Z):Clear w Z L:=⟨hin,hd⟩
theorem clear_sub {Z L L':List (Option Nat)} (h:Clear w Z L) (hs:∀k,some k∈L'→some k∈L):Clear w Z L':=⟨h.inz,fun k hk=>h.off k (hs k hk)⟩
theorem bts_sub {L L':List (Option Nat)} {a:Option Addr} {s:List UInt8} (h:Bts L w a s) (hs:∀k,some k∈L'→some k∈L):Bts L' w a s:=⟨h.nums,fun ad e=>⟨fun hm=>(h.far ad e).1 (hs _ hm),(h.far ad e).2⟩⟩
theorem bts_keeps {L:List (Option Nat)} {a:Option Addr} {s:List UInt8} (h:Bts L w a s) (hk:Keeps L w w'):Bts L w' a s:=h.step ⟨hk,Of.refl⟩
theorem told_nil (L:List (Option Nat)) (B:Zone) (w:World):Pg.Told L B w (.slice none 0 0) []:=⟨⟨[],rfl,(by intro x hx;cases hx),World.ownsRow_nil _ _ _ _⟩,(fun k e=>by cases e),(fun k e=>by cases e)⟩
end
end Go.Proofs.YtimoakmcelocfaaGreat.Flt
namespace Go.Proofs.YtimoakmcelocfaaGreat.Flt
open Go.RowKit Base Txt Mem Par Pg Each
section code
set_option maxHeartbeats 4000000
set_option maxRecDepth 20000
attribute [local go_sem] Base.some_undef
variable {w:World} {B g g1 g2 p:Nat} {b:Bd} {L1 L2:List (Option Nat)} {f:F}
end code
end Go.Proofs.YtimoakmcelocfaaGreat.Flt
