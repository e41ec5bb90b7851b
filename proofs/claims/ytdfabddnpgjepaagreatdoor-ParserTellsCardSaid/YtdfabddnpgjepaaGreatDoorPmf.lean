import Derived.Test.YtdfabddnpgjepaaGreatDoorPme
set_option linter.unusedSimpArgs false
open Array renaming getD_eq_getD_getElem?→Ag
open Bool renaming and_eq_true→Ao,not_eq_true'→Ay
open ByteArray renaming empty→A8,size_append→A9
open Go.Act renaming put→Ab
open Go.Lib renaming extract_data→Bu,hid→Bx
open Go.Proofs.Tryz renaming prog→EW,underlying22→F0,underlying5→F7,underlying9→F8
open Go.Proofs.YtdfabddnpgjepaaGreatDoor.Base renaming below_drewN→Ak,below_step→Al,some_undef→Am
open Go.Proofs.YtdfabddnpgjepaaGreatDoor.Each renaming fine→AP,putg→AU,region_all→AW
open Go.Proofs.YtdfabddnpgjepaaGreatDoor.Each.Goes renaming enter→AG,same→AH
open Go.Proofs.YtdfabddnpgjepaaGreatDoor.Each.Lasts renaming eq→AK
open Go.Proofs.YtdfabddnpgjepaaGreatDoor.Ln renaming own_slice→CT
open Go.Proofs.YtdfabddnpgjepaaGreatDoor.Mem.Keeps renaming of_below→Bo,set→Bp
open Go.Proofs.YtdfabddnpgjepaaGreatDoor.Mem.Of renaming refl→Dq
open Go.Proofs.YtdfabddnpgjepaaGreatDoor.Oct renaming allOf→Dl
open Go.Proofs.YtdfabddnpgjepaaGreatDoor.Par.Step renaming of_below→DP,set→DS
open Go.Proofs.YtdfabddnpgjepaaGreatDoor.Qk renaming has→D0,rhas_any→D4
open Go.Proofs.YtdfabddnpgjepaaGreatDoor.Rec renaming R→D7,wraps→DD
open Go.Proofs.YtdfabddnpgjepaaGreatDoor.Rec.Bk renaming new→D6
open Go.Proofs.YtdfabddnpgjepaaGreatDoor.Tree renaming done→Ed,grow→Ee,put1→Ef
open Go.Proofs.YtdfabddnpgjepaaGreatDoor.Txt renaming blank→FK
open Go.RowKit.Below renaming refl→An
open List renaming append_nil→BH,drop_eq_getElem_cons→BQ,getElem?_cons_succ→BY,getElem?_cons_zero→BZ,getElem?_eq_getElem→Ca,getElem?_toArray→Cg,getElem_mem→Ci,length_append→Cr,length_drop→Cu,length_map→Cw,length_take→C0,mem_append→C3,mem_singleton→CB,setIfInBounds_toArray→CH,set_cons_succ→CJ,set_cons_zero→CK,take_of_length_le→CN,take_succ_eq_append_getElem→CO
open Nat renaming eq_zero_or_pos→CZ,le_refl→Db,le_trans→Dd,lt_of_lt_of_le→Df,lt_or_ge→Dg,zero_add→Di,zero_le→Dj
open Option renaming getD_some→Ds
open UInt8 renaming toNat_inj→FM
open Go.Value renaming int→ZZ,string→ZY,slice→ZX,bool→ZW,pointer→ZV,agg→ZU,tuple→ZT
open Go.IntKind renaming i64→ZS,u8→ZR,u32→ZQ
namespace Go.Proofs.YtdfabddnpgjepaaGreatDoor.Txt
open Go.RowKit Base Oct
theorem drop_at (l:List UInt8) (f k:Nat) (hfk:f<=k) (hk:k<l.length):l.drop f=(l.take k).drop f++l[k]::l.drop (k+1):=by conv=>lhs;rw [←List.take_append_drop k l,List.drop_append_of_le_length (by rw [C0];omega),BQ hk]
theorem mid_snoc (l:List UInt8) (f k:Nat) (hfk:f<=k) (hk:k<l.length):(l.take (k+1)).drop f=(l.take k).drop f ++ [l[k]]:=by rw [CO hk,List.drop_append_of_le_length (by rw [C0];omega)]
section
set_option maxHeartbeats 1000000
set_option maxRecDepth 10000
attribute [local go_sem] Am
theorem rsplit_own (s:ByteArray) (c:UInt8) (w:World) (hs:s.size<=1000000000) :
 Calls EW 166 #[ZY s,ZZ ZR c.toNat] w λe w'=>∃g n k,e=.returned (ZX (some ⟨g,0,none⟩) n k)/\w.heap.size<=g/\n=(parts c s.data.toList).length/\Strs w' (some ⟨g,0,none⟩) n ((parts c s.data.toList).map ba)/\w.heap.size<w'.heap.size/\Below w.heap.size w w':=by
 obtain ⟨i0,hi,hz0,hz1,hz2⟩:=info_parts text_info;have G1:=Bx hi;have G2:=Bx hz0;have G3:=Bx hz1;have G4:=Bx hz2;clear hi hz0 hz1 hz2;have hpl:=parts_le c s.data.toList;rw [len] at hpl;have hp1:0<(parts c s.data.toList).length:=by rw [parts_length];omega
 go_enter Tryz.func166,Tryz.ntmps166;go_wp2
 go_loopw [5,6,7] (λv f i wr=>∃(k fr:Nat) (done:List (List UInt8)),f=ZZ ZS fr/\i=ZZ ZS k/\done.length<=k/\Hid (wr.ownsRow w.heap.size 9 1 v done.length ((done.map ba).map Value.string))/\Hid (Below w.heap.size w wr)/\
  ((fr<=k/\k<=s.size/\Hid (done++parts c (s.data.toList.drop fr)=parts c s.data.toList)/\Hid (c∉(s.data.toList.take k).drop fr))∨(k=s.size+1/\Hid (done=parts c s.data.toList)))) (λ_ _ i _=>s.size+1-(intOf i).toNat)
 case atStart=>exact ⟨0,0,[],rfl,rfl,Db _,Bx ⟨rfl,.inl ⟨rfl,rfl⟩⟩,Bx (An _ _),.inl ⟨Db _,Dj _,Bx rfl,Bx (by simp)⟩⟩
 case round=>
  obtain ⟨k,fr,done,rfl,rfl,hdl,hown,hbr,hcase⟩:=hrel;rcases hcase with ⟨hfk,hks,hdone,hno⟩ | ⟨rfl,hdone⟩
  ·have t0:(k:Int)<=(s.size:Int):=by omega
   have t1:(fr:Int)<=(k:Int):=by omega
   have t9:wrap64 ((k:Int)+1)=(k:Int)+1:=by unfold wrap64;omega
   rcases Dg k s.size with hlt | hge
   ·have hll:k<s.data.toList.length:=by rw [len];exact hlt
    have t2:(k:Int)<(s.size:Int):=by omega
    have t3:((k:Int)==(s.size:Int))=false:=beq_eq_false_iff_ne.2 (by omega);by_cases hc:s.data.toList[k]=c
    ·have t4:((s[k].toNat:Int)==(c.toNat:Int))=true:=by rw [show s[k]=c from hc];exact beq_self_eq_true _
     have hcut:=parts_cut c ((s.data.toList.take k).drop fr) (s.data.toList.drop (k+1)) hno.out;rw [←hc,←drop_at _ _ _ hfk hll,hc] at hcut
     have hx:(s.extract fr k)=ba ((s.data.toList.take k).drop fr):=ba_ext (by rw [Bu];show _=(s.data.toList.take k).drop fr;rw [List.drop_take]);have HX:=Bx hx
     have HD:=Bx (show (done ++ [(s.data.toList.take k).drop fr])++parts c (s.data.toList.drop (k+1))=parts c s.data.toList by rw [←hdone.out,hcut,List.append_assoc];rfl);clear hcut hx hc hno;generalize (s.data.toList.take k).drop fr=p at *
     go_wp2_with (at_builtin;refine wpList_append_own _ rfl _ _ 124 rfl w.heap.size 9 i0 (.string A8) 1 16 Tryz.underlying124 G1.out G2.out G3.out G4.out rfl (by decide) _ _ _ rfl (hown.out.alloc _) ⟨wr.heap.size,0,none⟩ 1 1 [.string (s.extract fr k)] rfl rfl ?c1 ?c2 ?c3 ?c4 ?c5 ?_)
     case c1=>exact news_one wr _ _
     case c2=>intro u hu;obtain rfl:u=ZY (s.extract fr k):=by simpa using hu
              rfl
     case c3=>unfold maxLen;omega
     case c4=>omega
     case c5=>have:=hbr.out.size;simp;omega
     intro v' w' hown' hgr _
     have H1:Hid (w'.ownsRow w.heap.size 9 1 v' (done ++ [p]).length (((done ++ [p]).map ba).map Value.string)):=Bx (by rw [HX.out] at hown';simpa using hown')
     have H2:=Bx ((hbr.out.alloc hbr.out.size _).grown hgr (by have:=hbr.out.size;simp;omega) (own_base hown.out));have hdl2:(done ++ [p]).length<=k+1:=by rw [Cr];simp;omega
     clear hown' hgr;go_wp2;go_roundw
     case rel=>exact ⟨k+1,k+1,done ++ [p],by go_num,by go_num,hdl2,H1,H2,.inl ⟨Db _,by omega,HD,Bx (by rw [List.drop_eq_nil_of_le (by rw [C0];omega)];simp)⟩⟩
     case measure=>simp [intOf];omega
    ·have t4:((s[k].toNat:Int)==(c.toNat:Int))=false:=beq_eq_false_iff_ne.2 (λe=>hc (show s[k]=c from FM.1 (by omega)))
     have HN:=Bx (show c∉(s.data.toList.take (k+1)).drop fr by
      rw [mid_snoc _ _ _ hfk hll,C3]
      rintro (h | h)
      ·exact hno.out h
      ·exact hc (CB.1 h).symm)
     clear hno;go_wp2;go_roundw
     case rel=>exact ⟨k+1,fr,done,rfl,by go_num,by omega,hown,hbr,.inl ⟨by omega,by omega,hdone,HN⟩⟩
     case measure=>simp [intOf];omega
   ·obtain rfl:k=s.size:=by omega
    ·have t3:((s.size:Int)==(s.size:Int))=true:=beq_self_eq_true _;have hno':=hno.out;rw [take_all s _ (Db _)] at hno';have hcut:=parts_none c (s.data.toList.drop fr) hno'
     have hx:(s.extract fr s.size)=ba (s.data.toList.drop fr):=ba_ext (by rw [Bu,CN (by rw [Cu,len];exact Db _)];rfl);have HX:=Bx hx
     have HD:=Bx (show done ++ [s.data.toList.drop fr]=parts c s.data.toList by rw [←hdone.out,hcut]);clear hcut hx hno hno';generalize s.data.toList.drop fr=p at *;generalize hk:s.size=k at *
     go_wp2_with (at_builtin;refine wpList_append_own _ rfl _ _ 124 rfl w.heap.size 9 i0 (.string A8) 1 16 Tryz.underlying124 G1.out G2.out G3.out G4.out rfl (by decide) _ _ _ rfl (hown.out.alloc _) ⟨wr.heap.size,0,none⟩ 1 1 [.string (s.extract fr k)] rfl rfl ?c1 ?c2 ?c3 ?c4 ?c5 ?_)
     case c1=>exact news_one wr _ _
     case c2=>intro u hu;obtain rfl:u=ZY (s.extract fr k):=by simpa using hu
              rfl
     case c3=>unfold maxLen;omega
     case c4=>omega
     case c5=>have:=hbr.out.size;simp;omega
     intro v' w' hown' hgr _
     have H1:Hid (w'.ownsRow w.heap.size 9 1 v' (done ++ [p]).length (((done ++ [p]).map ba).map Value.string)):=Bx (by rw [HX.out] at hown';simpa using hown')
     have H2:=Bx ((hbr.out.alloc hbr.out.size _).grown hgr (by have:=hbr.out.size;simp;omega) (own_base hown.out));have hdl2:(done ++ [p]).length<=k+1:=by rw [Cr];simp;omega
     clear hown' hgr;go_wp2;go_roundw
     case rel=>exact ⟨k+1,k+1,done ++ [p],by go_num,by go_num,hdl2,H1,H2,.inr ⟨rfl,HD⟩⟩
     case measure=>(simp [intOf]<;>omega)
  ·have t0:¬((s.size:Int)+1<=(s.size:Int)):=by omega
   have hdn:=hdone.out;subst hdn;obtain ⟨g,cap,rfl,hg0,hg1⟩:=hown.out.form hp1
   have HS:=Bx (show Strs wr (some ⟨g,0,none⟩) (parts c s.data.toList).length ((parts c s.data.toList).map ba) by
    obtain ⟨A,cc,e,hS⟩:=Strs.of_own (ss:=(parts c s.data.toList).map ba) hown.out;obtain ⟨rfl,rfl⟩:some ⟨g,0,none⟩=A/\cap=cc:=by simpa using e
    exact hS)
   clear hown hdone;go_wp2;go_ret;exact ⟨g,_,⟨cap,rfl⟩,hg0,rfl,HS.out,by omega,hbr.out⟩
theorem rsplit44 (s:ByteArray) (w:World) (hs:s.size<=1000000000) :
 Calls EW 166 #[ZY s,ZZ ZR 44] w λe w'=>∃g n k,e=.returned (ZX (some ⟨g,0,none⟩) n k)/\w.heap.size<=g/\n=(parts 44 s.data.toList).length/\Strs w' (some ⟨g,0,none⟩) n ((parts 44 s.data.toList).map ba)/\w.heap.size<w'.heap.size/\Below w.heap.size w w':=
 rsplit_own s 44 w hs
theorem rlist_own (a:Option Addr) (n cap:Nat) (vs:List ByteArray) (w:World) (hv:Strs w a n vs) (hr:room vs<=1000000000) :
 Calls EW 119 #[.slice a n cap] w λe w'=>∃v,e=.returned v/\w'.ownsRow w.heap.size 9 1 v (list vs).length ((list vs).map Value.string)/\Below w.heap.size w w':=by
 have hle:=list_le vs;have hnr:=len_room vs;rw [hv.1] at hnr;have HV:=Bx hv;have HL:=Bx hv.1;clear hv;obtain ⟨i0,hi,hz0,hz1,hz2⟩:=info_parts text_info;have G1:=Bx hi;have G2:=Bx hz0;have G3:=Bx hz1;have G4:=Bx hz2;clear hi hz0 hz1 hz2;go_enter Tryz.func119,Tryz.ntmps119;go_wp2
 go_loopw [3,4] (λv i wr=>∃k:Nat,k<=n/\i=ZZ ZS k/\Hid (wr.ownsRow w.heap.size 9 1 v (list (vs.take k)).length ((list (vs.take k)).map Value.string))/\Hid (Below w.heap.size w wr)) (λ_ i _=>n-(intOf i).toNat)
 case atStart=>exact ⟨0,Dj _,rfl,Bx ⟨rfl,.inl ⟨rfl,rfl⟩⟩,Bx (An _ _)⟩
 case round=>
  obtain ⟨k,hk,rfl,hown,hbr⟩:=hrel;rcases Dg k n with hlt | hge
  ·obtain ⟨bl,off,rfl,_,hc⟩:=(HV.out.below hbr.out).2 (by omega);have hck:=hc k hlt
   have hsn:=Bx (list_snoc vs k (by rw [HL.out];exact hlt))
   have hle1:=list_take_le vs (k+1);rw [hsn.out,Cr] at hle1;have hsz:(vs[k]?.getD A8).size<=1000000000:=by
    have:k<vs.length:=by rw [HL.out];exact hlt
    rw [Ca this];have h2:(vs[k].size+1)<=room vs:=by exact room_mem vs _ (Ci _)
    show vs[k].size<=_;omega
   clear hc;generalize vs[k]?.getD A8=x at *
   have HP:=Bx (rsplit44 x wr hsz)
   have hpm:=Bx (partsOf_map x);have hpl:(partsOf x).length=((parts 44 x.data.toList).map ba).length:=by rw [hpm.out,Cw]
   have hp0:((parts 44 x.data.toList).map ba).length=(parts 44 x.data.toList).length:=Cw _;rw [←hp0] at HP
   have hps:=Bx (show∀y∈(parts 44 x.data.toList).map ba,y.size<4294967281 from λy hy=>by obtain ⟨l,hl,rfl⟩:=List.mem_map.1 hy;have:=parts_size 44 _ l hl;rw [len] at this;rw [ba_size];omega)
   generalize (parts 44 x.data.toList).map ba=P at *;clear hp0;generalize list (vs.take k)=L at *
   go_wp2_with (go_at_call 166;with_reducible refine HP.out.mono ?_;rintro e w1 ⟨B,n1,c1,rfl,hgB,hn1,hS,hg1,hb1⟩)
   have hB1:=Bx (Al hbr.out hb1)
   have hown1:=Bx (own_below hown.out hb1);have hS':=Bx hS
   have hne:=Bx (show∀g,u3.ownBlock=some g->g≠B from λg hg=>by have:=(hown.out.lt g hg).2;omega);clear hgB;clear hS hb1 HP hown hbr
   go_loopw [3,6] (λv i wq=>∃j:Nat,j<=n1/\i=ZZ ZS j/\w1.heap.size<=wq.heap.size/\Hid (wq.ownsRow w.heap.size 9 1 v (L.length+j) ((L++(P.map trim).take j).map Value.string))/\Hid (Below w.heap.size w wq)/\Hid (∀g,v.ownBlock=some g->g≠B)/\Hid (Strs wq (some ⟨B,0,none⟩) n1 P)) (λ_ i _=>n1-(intOf i).toNat)
   case atStart=>exact ⟨0,Dj _,rfl,Db _,by rw [List.take_zero,BH];exact hown1,hB1,hne,hS'⟩
   case round=>
    obtain ⟨j,hj,rfl,hsz,hown,hbq,hne,hSq⟩:=hrel;rcases Dg j n1 with hlj | hgj
    ·obtain ⟨bs,os,e,hbs,hc⟩:=hSq.out.2 (by omega);obtain ⟨rfl,rfl⟩:B=bs/\0=os:=by simpa using e
     have hcj:=hc j hlj;rw [Di] at hcj
     have HS1:=Bx (map_snoc trim A8 P j (by omega));clear hc e;have hys:(P[j]?.getD A8).size<=maxLen:=by exact XX3G6
     generalize P[j]?.getD A8=y at *
     have HT:=Bx (λw=>rtrim_any y w hys);clear hys
     go_wp2_with (first
      |(go_at_call 135;with_reducible refine Cm (HT.out _) ?_)
      |(at_builtin;(refine wpList_append_own_at _ rfl _ _ 124 rfl w.heap.size 9 i0 (.string A8) 1 16 Tryz.underlying124 G1.out G2.out G3.out G4.out rfl (by decide) _ _ _ rfl (hown.out.alloc _) ⟨wr.heap.size,0,none⟩ 1 1 [.string (trim y)] rfl rfl ?c1 ?c2 ?c3 ?c4 ?c5 ?_)))
     case c1=>exact news_one wr _ _
     case c2=>intro u hu;obtain rfl:u=ZY (trim y):=by simpa using hu
              rfl
     case c3=>unfold maxLen;omega
     case c4=>omega
     case c5=>have:=hbq.out.size;simp;omega
     exact XXOmL
    ·exact XX1YI
  ·exact XXL2M
theorem rlist_any (a:Option Addr) (n cap:Nat) (vs:List ByteArray) (w:World) (hv:Strs w a n vs) (hr:room vs<=1000000000) :
 Calls EW 119 #[.slice a n cap] w λe w'=>∃b m c,e=.returned (.slice b m c)/\m=(list vs).length/\Strs w' b m (list vs)/\Below w.heap.size w w':=
 (rlist_own a n cap vs w hv hr).mono (by
   rintro e w' ⟨v,rfl,ho,hb⟩;obtain ⟨A,c,rfl,hA⟩:=Strs.of_own ho;exact ⟨A,_,c,rfl,rfl,hA,hb⟩)
theorem rfind_any (a:Option Addr) (n cap:Nat) (fs:List Fld) (name:ByteArray) (w:World) (hv:Flds w a n fs) (hn:n<=1000000000) (hs:∀f∈fs,f.1.size<=1000000000) (ht:name.size<=1000000000) :
 Calls EW 102 #[.slice a n cap,ZY name] w λe w'=>∃b m c,e=.returned (.slice b m c)/\m=(find fs name).length/\Strs w' b m (find fs name)/\Below w.heap.size w w':=by
 have HV:=Bx hv;have HL:=Bx hv.1;have HS:=Bx hs;clear hv hs;obtain ⟨i0,hi,hz0,hz1,hz2⟩:=info_parts text_info;have G1:=Bx hi;have G2:=Bx hz0;have G3:=Bx hz1;have G4:=Bx hz2;clear hi hz0 hz1 hz2;go_enter Tryz.func102,Tryz.ntmps102;go_wp2
 go_loopw [5,6] (λv i wr=>∃k:Nat,k<=n/\i=ZZ ZS k/\Hid (wr.ownsRow w.heap.size 9 1 v (find (fs.take k) name).length ((find (fs.take k) name).map Value.string))/\Hid (Below w.heap.size w wr)) (λ_ i _=>n-(intOf i).toNat)
 case atStart=>exact ⟨0,Dj _,rfl,Bx ⟨rfl,.inl ⟨rfl,rfl⟩⟩,Bx (An _ _)⟩
 case round=>
  obtain ⟨k,hk,rfl,hown,hbr⟩:=hrel;rcases Dg k n with hlt | hge
  ·obtain ⟨bl,off,rfl,hbl,hc⟩:=(HV.out.below hbr.out).2 (by omega);obtain ⟨hc0,hc1⟩:=hc k hlt
   have hsn:=Bx (find_snoc fs name k (by rw [HL.out];exact hlt));have hfl:=find_le (fs.take k) name;rw [C0] at hfl;have hsz:(fs[k]?.getD dflt).1.size<=1000000000:=by
    have:k<fs.length:=by rw [HL.out];exact hlt
    rw [Ca this]
    exact HS.out _ (Ci _)
   clear hc;generalize fs[k]?.getD dflt=f at *;generalize hL:find (fs.take k) name=L at *;obtain ⟨f0,f1⟩:=f;simp only at hc0 hc1 hsz hsn
   have HC:=Bx (λw=>rsame_any f0 name w (by omega) (by omega));clear hsz hL;cases hq:same f0 name with
   | false=>
     rw [hq] at HC hsn;rw [if_neg (by decide),BH] at hsn;clear hq
     go_wp2_with (go_at_call 148;with_reducible refine (HC.out _).mono ?_;rintro e w2 ⟨rfl,hb2⟩);have hb0:Below wr.heap.size wr w2:=hb2;exact XXhHQ
   | true=>
     rw [hq] at HC hsn;rw [if_pos rfl] at hsn;clear hq
     go_wp2_with (first
      |(go_at_call 148;with_reducible refine (HC.out _).mono ?_;rintro e w2 ⟨rfl,hb2⟩
        have hf1:=(hb2.cell (p:=⟨bl,off+k*2+1,none⟩) hbl).trans hc1
        have hb0:=Bx (show Below wr.heap.size wr w2 from hb2)
        have hown0:=Bx (own_below hown.out hb0.out))
      |(at_builtin;refine wpList_append_own _ rfl _ _ 124 rfl w.heap.size 9 i0 (.string A8) 1 16 Tryz.underlying124 G1.out G2.out G3.out G4.out rfl (by decide) _ _ _ rfl (hown0.out.alloc _) ⟨w2.heap.size,0,none⟩ 1 1 [.string f1] rfl rfl ?c1 ?c2 ?c3 ?c4 ?c5 ?_))
     case c1=>exact news_one w2 _ _
     case c2=>intro u hu;obtain rfl:u=ZY f1:=by simpa using hu
              rfl
     case c3=>unfold maxLen;omega
     case c4=>omega
     case c5=>have:=hbr.out.size;have:=hb0.out.size;simp;omega
     exact XXLIl
  ·exact XXR68
theorem one_snoc (names:List ByteArray) (s:ByteArray) (k:Nat) (h:k<names.length):one (names.take (k+1)) s=(one (names.take k) s||same (names[k]?.getD A8) s):=by rw [strs_snoc names k h];unfold one;simp
theorem one_hit (names:List ByteArray) (s:ByteArray) (k:Nat) (h:k<names.length) (hq:same (names[k]?.getD A8) s=true):one names s=true:=by unfold one;rw [List.any_eq_true];rw [Ca h] at hq;exact ⟨names[k],Ci h,hq⟩
theorem rone_any (a:Option Addr) (n cap:Nat) (names:List ByteArray) (s:ByteArray) (w:World) (hv:Strs w a n names) (hn:n<=1000000000) (hs:∀x∈names,x.size<=1000000000) (ht:s.size<=1000000000) :
 Calls EW 118 #[.slice a n cap,ZY s] w λe w'=>e=.returned (ZW (one names s))/\Below w.heap.size w w':=by
 have HV:=Bx hv;have HL:=Bx hv.1;have HS:=Bx hs;clear hv hs;go_enter Tryz.func118,Tryz.ntmps118;go_wp2
 go_loopw [5] (λi wr=>∃k:Nat,k<=n/\i=ZZ ZS k/\Hid (one (names.take k) s=false)/\Hid (Below w.heap.size w wr)) (λi _=>n-(intOf i).toNat)
 case atStart=>exact ⟨0,Dj _,rfl,Bx (by simp [one]),Bx (An _ _)⟩
 case round=>
  obtain ⟨k,hk,rfl,hno,hbr⟩:=hrel;rcases Dg k n with hlt | hge
  ·obtain ⟨bl,off,rfl,hbl,hc⟩:=(HV.out.below hbr.out).2 (by omega);have hck:=hc k hlt;have hkl:k<names.length:=by rw [HL.out];exact hlt
   have hsn:=Bx (one_snoc names s k hkl);have hsz:(names[k]?.getD A8).size<=1000000000:=by
    rw [Ca hkl]
    exact HS.out _ (Ci _)
   have hhit:=Bx (one_hit names s k hkl);clear hc hkl;generalize names[k]?.getD A8=x at *
   have HC:=Bx (λw=>rsame_any x s w (by omega) (by omega));cases hq:same x s with
   | true=>
     rw [hq] at HC
     have HH:=Bx (hhit.out hq);clear hhit hq
     go_wp2_with (go_at_call 148;with_reducible refine (HC.out _).mono ?_;rintro e w2 ⟨rfl,hb2⟩);go_ret;exact ⟨by rw [HH.out];rfl,Al hbr.out hb2⟩
   | false=>
     rw [hq] at HC
     have HH:=Bx (show one (names.take (k+1)) s=false by rw [hsn.out,hno.out,hq];rfl);clear hhit hq
     go_wp2_with (go_at_call 148;with_reducible refine (HC.out _).mono ?_;rintro e w2 ⟨rfl,hb2⟩);go_roundw
     case rel=>exact ⟨k+1,by omega,by go_num,HH,Bx (Al hbr.out hb2)⟩
     case measure=>simp [intOf];omega
  ·obtain rfl:k=n:=by omega
   have hno':=hno.out;rw [CN (by rw [HL.out];omega)] at hno';have HN:=Bx hno';clear hno';go_wp2;go_ret;exact ⟨by rw [HN.out];rfl,hbr.out⟩
end
end Go.Proofs.YtdfabddnpgjepaaGreatDoor.Txt
namespace Go.Proofs.YtdfabddnpgjepaaGreatDoor.Rec
open Go.RowKit Base Txt
section
set_option maxHeartbeats 1000000
attribute [local go_sem] Am
theorem XXUKT {P:Prop} (h:P:=by
 go_enter Tryz.func73,Tryz.ntmps73;go_upto_region 1 with fail
 generalize (w.alloc (.cells #[ZY r.m,ZY r.x,ZZ ZS r.k,.slice fa r.fs.length fc,ZW r.ch,.slice ba r.body.length bc,.slice ta r.ts.length tc] 58)).alloc (.cells #[ZY r'.m,ZY r'.x,ZZ ZS r'.k,.slice fa' r'.fs.length fc',ZW r'.ch,.slice ba' r'.body.length bc',.slice ta' r'.ts.length tc'] 58)=W at *;have hA0:=HA.out;have hB0:=HB.out;have q0:=hA0.c 0 _ rfl;have y0:=hB0.c 0 _ rfl;have q1:=hA0.c 1 _ rfl;have y1:=hB0.c 1 _ rfl;have q2:=hA0.c 2 _ rfl;have y2:=hB0.c 2 _ rfl;have q3:=hA0.c 3 _ rfl;have y3:=hB0.c 3 _ rfl;have q4:=hA0.c 4 _ rfl;have y4:=hB0.c 4 _ rfl;have q5:=hA0.c 5 _ rfl;have y5:=hB0.c 5 _ rfl;have q6:=hA0.c 6 _ rfl;have y6:=hB0.c 6 _ rfl;clear hA0 hB0
 go_wp2_with (go_at_call 56;with_reducible refine (HF1.out _ HB0.out).mono ?_;rintro e w1 ⟨rfl,n1,hw1⟩
              have hb1:Below W.heap.size W w1:=by rw [hw1];exact Ak (An _ _) n1
              have HB1:=Bx (Al HB0.out hb1);have hA1:=HA.out.below hb1;have hB1:=HB.out.below hb1;have q3:=hA1.c 3 _ rfl;have y3:=hB1.c 3 _ rfl;have q4:=hA1.c 4 _ rfl;have y4:=hB1.c 4 _ rfl;have q5:=hA1.c 5 _ rfl;have y5:=hB1.c 5 _ rfl;have q6:=hA1.c 6 _ rfl;have y6:=hB1.c 6 _ rfl;have cv:=conv_str w1 _ _ bc _ (H2.out.below HB1.out);have cv':=conv_str w1 _ _ bc' _ (H2'.out.below HB1.out);clear hA1 hB1 hb1 hw1)
 go_ret
 exact ⟨rfl,HB1.out⟩):P:=h
theorem XXxwV {P:Prop} (h:P:=by
 clear g0 g1 g2 g3 g4 g5 g6;go_enter Tryz.func73,Tryz.ntmps73;go_upto_region 1 with fail
 generalize (w.alloc (.cells #[ZY r.m,ZY r.x,ZZ ZS r.k,.slice fa r.fs.length fc,ZW r.ch,.slice ba r.body.length bc,.slice ta r.ts.length tc] 58)).alloc (.cells #[ZY r'.m,ZY r'.x,ZZ ZS r'.k,.slice fa' r'.fs.length fc',ZW r'.ch,.slice ba' r'.body.length bc',.slice ta' r'.ts.length tc'] 58)=W at *;have hA0:=HA.out;have hB0:=HB.out;have q0:=hA0.c 0 _ rfl;have y0:=hB0.c 0 _ rfl;have q1:=hA0.c 1 _ rfl;have y1:=hB0.c 1 _ rfl;have q2:=hA0.c 2 _ rfl;have y2:=hB0.c 2 _ rfl;have q3:=hA0.c 3 _ rfl;have y3:=hB0.c 3 _ rfl;have q4:=hA0.c 4 _ rfl;have y4:=hB0.c 4 _ rfl;have q5:=hA0.c 5 _ rfl;have y5:=hB0.c 5 _ rfl;have q6:=hA0.c 6 _ rfl;have y6:=hB0.c 6 _ rfl;clear hA0 hB0
 go_wp2_with (first
  |(go_at_call 56;with_reducible refine (HF2.out _ HB1.out).mono ?_;rintro e w2 ⟨rfl,n2,hw2⟩
    have hb2:Below w1.heap.size w1 w2:=by rw [hw2];exact Ak (An _ _) n2
    have HB2:=Bx (Al HB1.out hb2);clear hb2 hw2)
  |(go_at_call 56;with_reducible refine (HF1.out _ HB0.out).mono ?_;rintro e w1 ⟨rfl,n1,hw1⟩
    have hb1:Below W.heap.size W w1:=by rw [hw1];exact Ak (An _ _) n1
    have HB1:=Bx (Al HB0.out hb1);have hA1:=HA.out.below hb1;have hB1:=HB.out.below hb1;have q3:=hA1.c 3 _ rfl;have y3:=hB1.c 3 _ rfl;have q4:=hA1.c 4 _ rfl;have y4:=hB1.c 4 _ rfl;have q5:=hA1.c 5 _ rfl;have y5:=hB1.c 5 _ rfl;have q6:=hA1.c 6 _ rfl;have y6:=hB1.c 6 _ rfl;have cv:=conv_str w1 _ _ bc _ (H2.out.below HB1.out);have cv':=conv_str w1 _ _ bc' _ (H2'.out.below HB1.out);clear hA1 hB1 hb1 hw1))
 go_ret
 exact ⟨rfl,HB2.out⟩):P:=h
theorem XXyTa {P:Prop} (h:P:=by
 go_enter Tryz.func73,Tryz.ntmps73;go_upto_region 1 with fail
 generalize (w.alloc (.cells #[ZY r.m,ZY r.x,ZZ ZS r.k,.slice fa r.fs.length fc,ZW r.ch,.slice ba r.body.length bc,.slice ta r.ts.length tc] 58)).alloc (.cells #[ZY r'.m,ZY r'.x,ZZ ZS r'.k,.slice fa' r'.fs.length fc',ZW r'.ch,.slice ba' r'.body.length bc',.slice ta' r'.ts.length tc'] 58)=W at *;have hA0:=HA.out;have hB0:=HB.out;have q0:=hA0.c 0 _ rfl;have y0:=hB0.c 0 _ rfl;have q1:=hA0.c 1 _ rfl;have y1:=hB0.c 1 _ rfl;have q2:=hA0.c 2 _ rfl;have y2:=hB0.c 2 _ rfl;have q3:=hA0.c 3 _ rfl;have y3:=hB0.c 3 _ rfl;have q4:=hA0.c 4 _ rfl;have y4:=hB0.c 4 _ rfl;have q5:=hA0.c 5 _ rfl;have y5:=hB0.c 5 _ rfl;have q6:=hA0.c 6 _ rfl;have y6:=hB0.c 6 _ rfl;clear hA0 hB0;go_wp2;go_ret
 exact ⟨rfl,HB0.out⟩):P:=h
theorem rsame_any (V V':Value) (r r':R) (w:World) (h:Reads w V r) (h':Reads w V' r') (hf:Fit r) (hf':Fit r'):Calls EW 73 #[V,V'] w λe w'=>e=.returned (ZW (same r r'))/\Below w.heap.size w w':=by
 obtain ⟨fa,fc,ba,bc,ta,tc,rfl,h1,h2,h3⟩:=h;obtain ⟨fa',fc',ba',bc',ta',tc',rfl,h1',h2',h3'⟩:=h'
 have HF1:=Bx (λw2 (hb:Below w.heap.size w w2)=>rfields_any fa _ fc _ fa' _ fc' _ w2 (h1.below hb) (h1'.below hb) (by have:=hf.fs;omega) (by have:=hf'.fs;omega))
 have HF2:=Bx (λw2 (hb:Below w.heap.size w w2)=>rfields_any ta _ tc _ ta' _ tc' _ w2 (h3.below hb) (h3'.below hb) (by have:=hf.ts;omega) (by have:=hf'.ts;omega));have H2:=Bx h2;have H2':=Bx h2';clear h1 h2 h3 h1' h2' h3' hf hf'
 have HB0:=Bx ((((An _ _).alloc (Db _) (.cells #[ZY r.m,ZY r.x,ZZ ZS r.k,.slice fa r.fs.length fc,ZW r.ch,.slice ba r.body.length bc,.slice ta r.ts.length tc] 58)).alloc (by simp) (.cells #[ZY r'.m,ZY r'.x,ZZ ZS r'.k,.slice fa' r'.fs.length fc',ZW r'.ch,.slice ba' r'.body.length bc',.slice ta' r'.ts.length tc'] 58)):Below w.heap.size w _)
 have HA:=Bx ((Bk.new w w.heap.size rfl 58 [ZY r.m,ZY r.x,ZZ ZS r.k,.slice fa r.fs.length fc,ZW r.ch,.slice ba r.body.length bc,.slice ta r.ts.length tc]).alloc (.cells #[ZY r'.m,ZY r'.x,ZZ ZS r'.k,.slice fa' r'.fs.length fc',ZW r'.ch,.slice ba' r'.body.length bc',.slice ta' r'.ts.length tc'] 58))
 have HB:=Bx (Bk.new (w.alloc (.cells #[ZY r.m,ZY r.x,ZZ ZS r.k,.slice fa r.fs.length fc,ZW r.ch,.slice ba r.body.length bc,.slice ta r.ts.length tc] 58)) (w.heap.size+1) (by simp) 58 [ZY r'.m,ZY r'.x,ZZ ZS r'.k,.slice fa' r'.fs.length fc',ZW r'.ch,.slice ba' r'.body.length bc',.slice ta' r'.ts.length tc']);by_cases g0:r.m=r'.m
 rotate_left
 ·have e:same r r'=false:=by unfold same;simp [g0]
  rw [e];clear e;have t0:(r.m.toList==r'.m.toList)=false:=by rw [ba_beq];exact decide_eq_false g0
  have s0:¬r.m.toList=r'.m.toList:=λh=>g0 ((toList_iff _ _).1 h);clear g0;exact XXyTa
 by_cases g1:r.x=r'.x
 rotate_left
 ·have e:same r r'=false:=by unfold same;simp [g0,g1]
  rw [e];clear e;have t0:(r.m.toList==r'.m.toList)=true:=by rw [ba_beq];exact decide_eq_true g0
  have s0:r.m.toList=r'.m.toList:=(toList_iff _ _).2 g0;have t1:(r.x.toList==r'.x.toList)=false:=by rw [ba_beq];exact decide_eq_false g1
  have s1:¬r.x.toList=r'.x.toList:=λh=>g1 ((toList_iff _ _).1 h);clear g0 g1;exact XXyTa
 by_cases g2:r.k=r'.k
 rotate_left
 ·have e:same r r'=false:=by unfold same;simp [g0,g1,g2]
  rw [e];clear e;have t0:(r.m.toList==r'.m.toList)=true:=by rw [ba_beq];exact decide_eq_true g0
  have s0:r.m.toList=r'.m.toList:=(toList_iff _ _).2 g0;have t1:(r.x.toList==r'.x.toList)=true:=by rw [ba_beq];exact decide_eq_true g1
  have s1:r.x.toList=r'.x.toList:=(toList_iff _ _).2 g1;have t2:(r.k==r'.k)=false:=beq_eq_false_iff_ne.2 g2;clear g0 g1 g2;exact XXyTa
 by_cases g3:r.fs=r'.fs
 rotate_left
 ·have e:same r r'=false:=by unfold same;simp [g0,g1,g2,g3]
  rw [e];clear e;have t0:(r.m.toList==r'.m.toList)=true:=by rw [ba_beq];exact decide_eq_true g0
  have s0:r.m.toList=r'.m.toList:=(toList_iff _ _).2 g0;have t1:(r.x.toList==r'.x.toList)=true:=by rw [ba_beq];exact decide_eq_true g1
  have s1:r.x.toList=r'.x.toList:=(toList_iff _ _).2 g1;have t2:(r.k==r'.k)=true:=beq_iff_eq.2 g2;rw [decide_eq_false g3] at HF1;clear g0 g1 g2 g3;exact XXUKT
 by_cases g4:r.ch=r'.ch
 rotate_left
 ·have e:same r r'=false:=by unfold same;simp [g0,g1,g2,g3,g4]
  rw [e];clear e;have t0:(r.m.toList==r'.m.toList)=true:=by rw [ba_beq];exact decide_eq_true g0
  have s0:r.m.toList=r'.m.toList:=(toList_iff _ _).2 g0;have t1:(r.x.toList==r'.x.toList)=true:=by rw [ba_beq];exact decide_eq_true g1
  have s1:r.x.toList=r'.x.toList:=(toList_iff _ _).2 g1;have t2:(r.k==r'.k)=true:=beq_iff_eq.2 g2;rw [decide_eq_true g3] at HF1;have t4:(r.ch==r'.ch)=false:=beq_eq_false_iff_ne.2 g4;clear g0 g1 g2 g3 g4;exact XXUKT
 by_cases g5:r.body=r'.body
 rotate_left
 ·have e:same r r'=false:=by unfold same;simp [g0,g1,g2,g3,g4,g5]
  rw [e];clear e;have t0:(r.m.toList==r'.m.toList)=true:=by rw [ba_beq];exact decide_eq_true g0
  have s0:r.m.toList=r'.m.toList:=(toList_iff _ _).2 g0;have t1:(r.x.toList==r'.x.toList)=true:=by rw [ba_beq];exact decide_eq_true g1
  have s1:r.x.toList=r'.x.toList:=(toList_iff _ _).2 g1;have t2:(r.k==r'.k)=true:=beq_iff_eq.2 g2;rw [decide_eq_true g3] at HF1;have t4:(r.ch==r'.ch)=true:=beq_iff_eq.2 g4
  have t5:((Txt.ba r.body).toList==(Txt.ba r'.body).toList)=false:=by rw [ba_beq];exact decide_eq_false (λh=>g5 (ba_list_inj.1 h))
  have s5:¬(Txt.ba r.body).toList=(Txt.ba r'.body).toList:=λh=>g5 (ba_list_inj.1 ((toList_iff _ _).1 h));clear g0 g1 g2 g3 g4 g5;exact XXUKT
 by_cases g6:r.ts=r'.ts
 rotate_left
 ·have e:same r r'=false:=by unfold same;simp [g0,g1,g2,g3,g4,g5,g6]
  rw [e];clear e;have t0:(r.m.toList==r'.m.toList)=true:=by rw [ba_beq];exact decide_eq_true g0
  have s0:r.m.toList=r'.m.toList:=(toList_iff _ _).2 g0;have t1:(r.x.toList==r'.x.toList)=true:=by rw [ba_beq];exact decide_eq_true g1
  have s1:r.x.toList=r'.x.toList:=(toList_iff _ _).2 g1;have t2:(r.k==r'.k)=true:=beq_iff_eq.2 g2;rw [decide_eq_true g3] at HF1;have t4:(r.ch==r'.ch)=true:=beq_iff_eq.2 g4
  have t5:((Txt.ba r.body).toList==(Txt.ba r'.body).toList)=true:=by rw [ba_beq];exact decide_eq_true (by rw [g5])
  have s5:(Txt.ba r.body).toList=(Txt.ba r'.body).toList:=(toList_iff _ _).2 (by rw [g5]);rw [decide_eq_false g6] at HF2;exact XXxwV
 have e:same r r'=true:=by unfold same;simp [g0,g1,g2,g3,g4,g5,g6]
 rw [e];clear e;have t0:(r.m.toList==r'.m.toList)=true:=by rw [ba_beq];exact decide_eq_true g0
 have s0:r.m.toList=r'.m.toList:=(toList_iff _ _).2 g0;have t1:(r.x.toList==r'.x.toList)=true:=by rw [ba_beq];exact decide_eq_true g1
 have s1:r.x.toList=r'.x.toList:=(toList_iff _ _).2 g1;have t2:(r.k==r'.k)=true:=beq_iff_eq.2 g2;rw [decide_eq_true g3] at HF1;have t4:(r.ch==r'.ch)=true:=beq_iff_eq.2 g4
 have t5:((Txt.ba r.body).toList==(Txt.ba r'.body).toList)=true:=by rw [ba_beq];exact decide_eq_true (by rw [g5])
 have s5:(Txt.ba r.body).toList=(Txt.ba r'.body).toList:=(toList_iff _ _).2 (by rw [g5]);rw [decide_eq_true g6] at HF2;exact XXxwV
theorem XXoYj {P:Prop} (h:P:=by refine AP rfl (λev w1 hR hb hh=>?_);have e3:=hR.old 3 rfl;have e0:=hR.old 0 rfl;have e4:=hR.old 4 rfl;simp only [Ag,Cg,BY,BZ,Ds] at e3 e0 e4;have q0:=(hb.cell (p:=⟨bl,off+k*2,none⟩) hbl).trans hc0;have q1:=(hb.cell (p:=⟨bl,off+k*2+1,none⟩) hbl).trans hc1;exact Each.std):P:=h
theorem XXLaE {P:Prop} (h:P:=by
 clear hh;have b1:=Y.out;refine AH ?_;go_simp
 first | done | with_reducible rfl | exact wrap_in _ (by omega) (by omega)):P:=h
theorem rweigh_any (a:Option Addr) (n cap:Nat) (fs:List Fld) (w:World) (hv:Flds w a n fs) (hn:n<=500) (hz:∀f∈fs,f.1.size<=1000000/\f.2.size<=1000000) :
 Calls EW 122 #[.slice a n cap] w λe w'=>e=.returned (ZZ ZS (weigh fs:Nat))/\Below w.heap.size w w':=by
 have HV:=Bx hv;have HL:=Bx hv.1;have HZ:=Bx hz
 have HM:=Bx (weigh_le fs 1000000 hz);clear hv hz;go_enter Tryz.func122,Tryz.ntmps122;go_wp2
 go_loopw [3,4] (λv i wr=>∃k:Nat,k<=n/\i=ZZ ZS k/\v=ZZ ZS ((weigh (fs.take k):Nat):Int)/\Hid (Below w.heap.size w wr)) (λ_ i _=>n-(intOf i).toNat)
 case atStart=>exact ⟨0,Dj _,rfl,rfl,Bx (An _ _)⟩
 case round=>
  obtain ⟨k,hk,rfl,rfl,hbr⟩:=hrel;rcases Dg k n with hlt | hge
  ·obtain ⟨bl,off,rfl,hbl,hc⟩:=(HV.out.below hbr.out).2 (by omega);obtain ⟨hc0,hc1⟩:=hc k hlt;have hkl:k<fs.length:=by rw [HL.out];exact hlt
   have hin:fs[k]?.getD dflt∈fs:=by rw [Ca hkl];exact Ci hkl
   obtain ⟨y0,y1⟩:=HZ.out _ hin;have hsn:=weigh_snoc fs k hkl;have hle:=weigh_take_le fs k;have hm:=HM.out;rw [HL.out] at hm;clear hc hin hkl;generalize fs[k]?.getD dflt=f at *;obtain ⟨f0,f1⟩:=f;simp only at hc0 hc1 y0 y1 hsn;generalize weigh (fs.take k)=S at *;have i1:(k:Int)<(n:Int):=by omega
   have Y:=Bx (show S+(f0.size+f1.size)<=2000000000 by omega)
   have H1:Hid ((((S+(f0.size+f1.size)):Nat):Int)=((weigh (fs.take (k+1)):Nat):Int)):=Bx (by omega);clear hsn hle hm y0 y1;go_wp2_with fail;refine Each.region 15 [11,12,13,14,15,16,17,18,19,20,21,22,23,24,25] [eQ (ZZ ZS ((S:Nat):Int)),eQ (ZX (some ⟨bl,off,none⟩) n cap),eQ (ZZ ZS ((k:Nat):Int)),eP bl (off+k*2),eP bl (off+k*2),eQ (ZY f0),eQ (ZZ ZS ((f0.size:Nat):Int)),eQ (ZX (some ⟨bl,off,none⟩) n cap),eQ (ZZ ZS ((k:Nat):Int)),eP bl (off+k*2),eP bl (off+k*2+1),eQ (ZY f1),eQ (ZZ ZS ((f1.size:Nat):Int)),eQ (ZZ ZS (((f0.size+f1.size):Nat):Int)),eQ (ZZ ZS (((S+(f0.size+f1.size)):Nat):Int))] (.quiet 15 .done) (by kernel_rfl) (by kernel_rfl) (by kernel_rfl) (by kernel_rfl) (λ_ _ d _ _ h=>by cases d<;>exact h) (by rfl) (by rfl) (by repeat first | exact trivial | refine ⟨AK _,?_⟩) ?_ ?_
   ·refine ⟨?_,?_,?_,?_,?_,?_,?_,?_,?_,?_,?_,?_,?_,?_,?_,trivial⟩
    ·exact XXoYj
    ·exact XXoYj
    ·exact XXoYj
    ·exact XXoYj
    ·exact XXoYj
    ·exact XXoYj
    ·exact XXoYj
    ·exact XXoYj
    ·exact XXoYj
    ·exact XXoYj
    ·exact XXoYj
    ·exact XXoYj
    ·exact XXoYj
    ·refine AP rfl (λev w1 hR hb hh=>?_);have e17:ev (.tmp 17)= _:=hh.at 0;have e23:ev (.tmp 23)= _:=hh.at 1;exact XXLaE
    ·refine AP rfl (λev w1 hR hb hh=>?_);have e11:ev (.tmp 11)= _:=hh.at 0;have e24:ev (.tmp 24)= _:=hh.at 1;exact XXLaE
   intro g1 w2 hb hf;have z25:g1 25= _:=hf.at 14;clear hf;simp only [AU,Ab,CH,CK,CJ];rw [z25];simp only [Ee,Ef,BZ,BY];refine Tree.assign _ (by rfl) (by rfl) ?_;simp only [Ab,Act.eval,Ag,Cg,BZ,BY,Ds,CH,CK,CJ];refine Ed ?_
   have H3:=Bx (Al hbr.out hb);clear hb;go_wp2;go_roundw
   case rel=>exact ⟨k+1,by omega,by go_num,by rw [←H1.out],H3⟩
   case measure=>simp [intOf];omega
  ·exact XX5cG
theorem XX7d1 {P:Prop} (h:P:=by refine AP rfl (λev w1 hR hb hh=>?_);have e1:=hR.old 1 rfl;simp only [Ag,Cg,BY,BZ,Ds] at e1;have q0:=(HA.out.below hb).c 0 _ rfl;have q1:=(HA.out.below hb).c 1 _ rfl;have q3:=(HA.out.below hb).c 3 _ rfl;have q6:=(HA.out.below hb).c 6 _ rfl;have q5:=(HA.out.below hb).c 5 _ rfl;exact Each.std):P:=h
theorem rsize_any (V:Value) (r:R) (w:World) (h:Reads w V r) (hf:Fit r):Calls EW 81 #[V] w λe w'=>e=.returned (ZZ ZS (size r:Nat))/\Below w.heap.size w w':=by
 have HF:=Bx hf;obtain ⟨fa,fc,ba,bc,ta,tc,rfl,h1,h2,h3⟩:=h;have H1:=Bx h1;have H3:=Bx h3
 have M1:=Bx (weigh_le r.fs 1000000 hf.f);have M3:=Bx (weigh_le r.ts 1000000 hf.t);clear hf h1 h2 h3;have hsz:size r=(((r.m.size+r.x.size)+weigh r.fs)+weigh r.ts)+r.body.length:=by unfold size;omega
 rw [hsz];clear hsz;go_enter Tryz.func81,Tryz.ntmps81;go_wp2_with fail
 have hbw0:=Bx (((An _ _).alloc (Db _) (.cells #[ZY r.m,ZY r.x,ZZ ZS r.k,.slice fa r.fs.length fc,ZW r.ch,.slice ba r.body.length bc,.slice ta r.ts.length tc] 58)):Below w.heap.size w _)
 have hbw:=Bx (Ak hbw0.out 1)
 have HA:=Bx ((Bk.new w w.heap.size rfl 58 [ZY r.m,ZY r.x,ZZ ZS r.k,.slice fa r.fs.length fc,ZW r.ch,.slice ba r.body.length bc,.slice ta r.ts.length tc]).drew 1)
 replace H1:=Bx (H1.out.below hbw.out);replace H3:=Bx (H3.out.below hbw.out)
 refine AW 20 [3,4,5,6,7,8,9,10,11,12,13,14,15,16,17,18,19,20,21,2] [eQ (ZV (some ⟨w.heap.size,0,none⟩)),eQ (ZY r.m),eQ (ZZ ZS ((r.m.size:Nat):Int)),eQ (ZV (some ⟨w.heap.size,1,none⟩)),eQ (ZY r.x),eQ (ZZ ZS ((r.x.size:Nat):Int)),eQ (ZZ ZS (((r.m.size+r.x.size):Nat):Int)),eQ (ZV (some ⟨w.heap.size,3,none⟩)),eQ (.slice fa r.fs.length fc),eQ (ZZ ZS ((weigh r.fs:Nat):Int)),eQ (ZZ ZS ((((r.m.size+r.x.size)+weigh r.fs):Nat):Int)),eQ (ZV (some ⟨w.heap.size,6,none⟩)),eQ (.slice ta r.ts.length tc),eQ (ZZ ZS ((weigh r.ts:Nat):Int)),eQ (ZZ ZS (((((r.m.size+r.x.size)+weigh r.fs)+weigh r.ts):Nat):Int)),eQ (ZV (some ⟨w.heap.size,5,none⟩)),eQ (.slice ba r.body.length bc),eQ (ZZ ZS ((r.body.length:Nat):Int)),eQ (ZZ ZS ((((((r.m.size+r.x.size)+weigh r.fs)+weigh r.ts)+r.body.length):Nat):Int)),eQ (ZZ ZS ((((((r.m.size+r.x.size)+weigh r.fs)+weigh r.ts)+r.body.length):Nat):Int))] (by kernel_rfl) (by kernel_rfl) (by kernel_rfl) (by kernel_rfl) (λ_ _ d _ _ h=>by cases d<;>exact h) (by rfl) (by rfl) (by repeat first | exact trivial | refine ⟨AK _,?_⟩) ?_ ?_
 ·refine ⟨?_,?_,?_,?_,?_,?_,?_,?_,?_,?_,?_,?_,?_,?_,?_,?_,?_,?_,?_,?_,trivial⟩
  ·exact XX7d1
  ·exact XX7d1
  ·exact XX7d1
  ·exact XX7d1
  ·exact XX7d1
  ·exact XX7d1
  ·refine AP rfl (λev w1 hR hb hh=>?_);have e5:ev (.tmp 5)= _:=hh.at 0;have e8:ev (.tmp 8)= _:=hh.at 1;exact XXOmi
  ·exact XX7d1
  ·exact XX7d1
  ·refine AP rfl (λev w1 hR hb hh=>?_);have e11:ev (.tmp 11)= _:=hh.at 0;clear hh;have ef:=hR.func
   refine AG 122 #[.slice fa r.fs.length fc] (by go_simp) (((rweigh_any fa _ fc _ w1 (H1.out.below hb) HF.out.fs HF.out.f)).mono ?_);exact XXCGs
  ·refine AP rfl (λev w1 hR hb hh=>?_);have e9:ev (.tmp 9)= _:=hh.at 0;have e12:ev (.tmp 12)= _:=hh.at 1;exact XXOmi
  ·exact XX7d1
  ·exact XX7d1
  ·refine AP rfl (λev w1 hR hb hh=>?_);have e15:ev (.tmp 15)= _:=hh.at 0;clear hh;have ef:=hR.func
   refine AG 122 #[.slice ta r.ts.length tc] (by go_simp) (((rweigh_any ta _ tc _ w1 (H3.out.below hb) HF.out.ts HF.out.t)).mono ?_);exact XXCGs
  ·refine AP rfl (λev w1 hR hb hh=>?_);have e13:ev (.tmp 13)= _:=hh.at 0;have e16:ev (.tmp 16)= _:=hh.at 1;exact XXOmi
  ·exact XX7d1
  ·exact XX7d1
  ·exact XX7d1
  ·refine AP rfl (λev w1 hR hb hh=>?_);have e17:ev (.tmp 17)= _:=hh.at 0;have e20:ev (.tmp 20)= _:=hh.at 1;exact XXOmi
  ·exact XX7d1
 exact XXWvA
theorem rexpects_any (V:Value) (r:R) (w:World) (h:Reads w V r) (hf:Fit r):Calls EW 77 #[V] w λe w'=>e=.returned (ZW (expects r))/\Below w.heap.size w w':=by
 obtain ⟨fa,fc,ba,bc,ta,tc,rfl,h1,h2,h3⟩:=h;obtain ⟨l1,l2,l3⟩:=list_fit r.fs expectN hf.fs hf.f
 have HFd:=Bx (λw (hv:Flds w fa r.fs.length r.fs)=>rfind_any fa r.fs.length fc r.fs expectN w hv (Dd hf.fs (by decide)) (λf hh=>Dd (hf.f f hh).1 (by decide)) (by decide));have HV:=Bx h1;unfold expects;clear h1 h2 h3 hf;generalize find r.fs expectN=F at *
 have HLi:=Bx (λw a c (hv:Strs w a F.length F)=>rlist_any a F.length c F w hv l1)
 have HC:=Bx (λw a c (hv:Strs w a (list F).length (list F))=>rone_any a (list F).length c (list F) contW w hv l2 l3 (by decide));clear l1 l2 l3;generalize list F=L at *;generalize one L contW=a1 at *
 have hbw:=Bx (((An _ _).alloc (Db _) (.cells #[ZY r.m,ZY r.x,ZZ ZS r.k,.slice fa r.fs.length fc,ZW r.ch,.slice ba r.body.length bc,.slice ta r.ts.length tc] 58)):Below w.heap.size w _);obtain ⟨t0,ht0⟩:∃t0,decide (r.k=1)=t0:=⟨_,rfl⟩;have ht:(r.k==1)=t0:=ht0;rw [ht0];clear ht0;cases t0;all_goals
  go_enter Tryz.func77,Tryz.ntmps77
  go_wp2_with (first
   |(go_at_call 118;with_reducible refine (HC.out _ _ _ HS2.out).mono ?_;rintro e w3 ⟨rfl,hb3⟩
     have HB3:=Bx (Al HB2.out hb3);clear hb3)
   |(go_at_call 119;with_reducible refine (HLi.out _ _ _ HS1.out).mono ?_;rintro e w2 ⟨b2,m2,c2,rfl,rfl,hS2,hb2⟩
     have HS2:=Bx hS2;have HB2:=Bx (Al HB1.out hb2);clear hS2 hb2)
   |(go_at_call 102;with_reducible refine (HFd.out _ (HV.out.below hbw.out)).mono ?_;rintro e w1 ⟨b1,m1,c1,rfl,rfl,hS1,hb1⟩
     have HS1:=Bx hS1;have HB1:=Bx (Al hbw.out hb1);clear hS1 hb1))
  go_ret;exact ⟨rfl,by first | exact HB3.out | exact hbw.out⟩
end
end Go.Proofs.YtdfabddnpgjepaaGreatDoor.Rec
namespace Go.Proofs.YtdfabddnpgjepaaGreatDoor.Rec
open Go.RowKit Base Txt
def RecAt (w:World) (b o:Nat) (r:R):Prop:=
 ∃(fa:Option Addr) (fc:Nat) (ba:Option Addr) (bc:Nat) (ta:Option Addr) (tc:Nat),
  (w.cell? ⟨b,o,none⟩=some (ZY r.m)/\w.cell? ⟨b,o+1,none⟩=some (ZY r.x)/\w.cell? ⟨b,o+2,none⟩=some (ZZ ZS r.k)/\w.cell? ⟨b,o+3,none⟩=some (.slice fa r.fs.length fc)/\
   w.cell? ⟨b,o+4,none⟩=some (ZW r.ch)/\w.cell? ⟨b,o+5,none⟩=some (.slice ba r.body.length bc)/\w.cell? ⟨b,o+6,none⟩=some (.slice ta r.ts.length tc))/\
  Reads w (ZU #[ZY r.m,ZY r.x,ZZ ZS r.k,.slice fa r.fs.length fc,ZW r.ch,.slice ba r.body.length bc,.slice ta r.ts.length tc]) r
theorem RecAt.below {w w':World} {b o:Nat} {r:R} (h:RecAt w b o r) (hlt:b<w.heap.size) (hb:Below w.heap.size w w'):RecAt w' b o r:=by
 obtain ⟨fa,fc,ba,bc,ta,tc,⟨c0,c1,c2,c3,c4,c5,c6⟩,hr⟩:=h
 exact ⟨fa,fc,ba,bc,ta,tc,⟨(hb.cell (p:=⟨b,o,none⟩) hlt).trans c0,(hb.cell (p:=⟨b,o+1,none⟩) hlt).trans c1,(hb.cell (p:=⟨b,o+2,none⟩) hlt).trans c2,(hb.cell (p:=⟨b,o+3,none⟩) hlt).trans c3,
  (hb.cell (p:=⟨b,o+4,none⟩) hlt).trans c4,(hb.cell (p:=⟨b,o+5,none⟩) hlt).trans c5,(hb.cell (p:=⟨b,o+6,none⟩) hlt).trans c6⟩,hr.below hb⟩
def r0:R:=⟨A8,A8,0,[],false,[],[]⟩
def Recs (w:World) (a:Option Addr) (n:Nat) (rs:List R):Prop:=
 rs.length=n/\(0<n->∃b off,a=some ⟨b,off,none⟩/\b<w.heap.size/\∀k,k<n->RecAt w b (off+k*7) (rs[k]?.getD r0))
theorem Recs.below {w w':World} {a:Option Addr} {n:Nat} {rs:List R} (h:Recs w a n rs) (hb:Below w.heap.size w w'):Recs w' a n rs:=by exact XXsyZ
theorem all_iff:∀a b:List R,all a b=true↔a=b
 | [],[]=>by simp [all]
 | [],_ :: _=>by simp [all]
 | _ :: _,[]=>by simp [all]
 | x::a,y::b=>by rw [all,Ao,same_iff,all_iff a b,List.cons.injEq]
theorem all_len (a b:List R) (h:¬a.length=b.length):all a b=false:=by
 rw [Bool.eq_false_iff]
 exact λe=>h (by rw [(all_iff a b).1 e])
theorem all_self (a:List R):all a a=true:=(all_iff a a).2 rfl
theorem take_eq (xs ys:List R) (k:Nat) (hx:k<xs.length) (hy:k<ys.length) (h:xs.take k=ys.take k) (e:xs[k]?.getD r0=ys[k]?.getD r0):xs.take (k+1)=ys.take (k+1):=by exact XXzUO
theorem fit_at {rs:List R} (h:∀r∈rs,Fit r) (k:Nat) (hk:k<rs.length):Fit (rs[k]?.getD r0):=by rw [Ca hk];exact h _ (Ci hk)
section
set_option maxHeartbeats 2000000
theorem XX1o1 {P:Prop} (h:P:=by refine AP rfl (λev w1 hR hb hh=>?_);have e0:=hR.old 0 rfl;have e5:=hR.old 5 rfl;have e1:=hR.old 1 rfl;simp only [Ag,Cg,BY,BZ,Ds] at e0 e5 e1;exact Each.std):P:=h
theorem rall_any (a:Option Addr) (n cap:Nat) (rs:List R) (b:Option Addr) (m cap2:Nat) (qs:List R) (w:World) (hv:Recs w a n rs) (hu:Recs w b m qs) (hn:n<=1000000000) (hm:m<=1000000000) (hf:∀r∈rs,Fit r) (hg:∀r∈qs,Fit r) :
 Calls EW 19 #[.slice a n cap,.slice b m cap2] w λe w'=>e=.returned (ZW (all rs qs))/\Below w.heap.size w w':=by
 have HV:=Bx hv;have HU:=Bx hu;have HF:=Bx hf;have HG:=Bx hg;have HL:=Bx hv.1;have HM:=Bx hu.1;by_cases hnm:n=m
 ·subst hnm;clear hv hu hf hg;obtain ⟨B,hB⟩:∃B,all rs qs=B:=⟨_,rfl⟩;rw [hB];have HB:=Bx hB;clear hB;go_enter Tryz.func19,Tryz.ntmps19;go_wp2
  go_loopw [5] (λi wr=>∃k:Nat,k<=n/\i=ZZ ZS k/\Hid (rs.take k=qs.take k)/\Hid (Below w.heap.size w wr)) (λi _=>n-(intOf i).toNat)
  case atStart=>exact ⟨0,Dj _,rfl,Bx rfl,Bx (An _ _)⟩
  case round=>
   obtain ⟨k,hk,rfl,hpre,hbr⟩:=hrel;rcases Dg k n with hlt | hge
   ·obtain ⟨bl,off,rfl,hbl,hc⟩:=(HV.out.below hbr.out).2 (by omega)
    obtain ⟨bl',off',rfl,hbl',hc'⟩:=(HU.out.below hbr.out).2 (by omega);have hkr:k<rs.length:=by rw [HL.out];exact hlt
    have hkq:k<qs.length:=by rw [HM.out];exact hlt
    have h1:=hc k hlt;have h2:=hc' k hlt;have f1:=fit_at HF.out k hkr;have f2:=fit_at HG.out k hkq
    have HN:=Bx (take_eq rs qs k hkr hkq hpre.out)
    have HX:=Bx (show rs=qs->rs[k]?.getD r0=qs[k]?.getD r0 from λe=>by rw [e]);clear hc hc' hkr hkq;generalize rs[k]?.getD r0=x at *;generalize qs[k]?.getD r0=y at *;obtain ⟨fa,fc,ba,bc,ta,tc,⟨c0,c1,c2,c3,c4,c5,c6⟩,hr1⟩:=h1;obtain ⟨fa',fc',ba',bc',ta',tc',⟨d0,d1,d2,d3,d4,d5,d6⟩,hr2⟩:=h2
    have HC:=Bx (λw2 (hb:Below wr.heap.size wr w2)=>rsame_any _ _ _ _ w2 (hr1.below hb) (hr2.below hb) f1 f2)
    have HCE:=Bx (show∀w1,Below wr.heap.size wr w1->(w1.cell? ⟨bl,off+k*7,none⟩=some (ZY x.m)/\w1.cell? ⟨bl,off+k*7+1,none⟩=some (ZY x.x)/\w1.cell? ⟨bl,off+k*7+2,none⟩=some (ZZ ZS x.k)/\w1.cell? ⟨bl,off+k*7+3,none⟩=some (.slice fa x.fs.length fc)/\w1.cell? ⟨bl,off+k*7+4,none⟩=some (ZW x.ch)/\w1.cell? ⟨bl,off+k*7+5,none⟩=some (.slice ba x.body.length bc)/\w1.cell? ⟨bl,off+k*7+6,none⟩=some (.slice ta x.ts.length tc)) from
     λw1 hb=>⟨(hb.cell (p:=⟨bl,off+k*7,none⟩) hbl).trans c0,(hb.cell (p:=⟨bl,off+k*7+1,none⟩) hbl).trans c1,(hb.cell (p:=⟨bl,off+k*7+2,none⟩) hbl).trans c2,(hb.cell (p:=⟨bl,off+k*7+3,none⟩) hbl).trans c3,(hb.cell (p:=⟨bl,off+k*7+4,none⟩) hbl).trans c4,(hb.cell (p:=⟨bl,off+k*7+5,none⟩) hbl).trans c5,(hb.cell (p:=⟨bl,off+k*7+6,none⟩) hbl).trans c6⟩)
    have HCD:=Bx (show∀w1,Below wr.heap.size wr w1->(w1.cell? ⟨bl',off'+k*7,none⟩=some (ZY y.m)/\w1.cell? ⟨bl',off'+k*7+1,none⟩=some (ZY y.x)/\w1.cell? ⟨bl',off'+k*7+2,none⟩=some (ZZ ZS y.k)/\w1.cell? ⟨bl',off'+k*7+3,none⟩=some (.slice fa' y.fs.length fc')/\w1.cell? ⟨bl',off'+k*7+4,none⟩=some (ZW y.ch)/\w1.cell? ⟨bl',off'+k*7+5,none⟩=some (.slice ba' y.body.length bc')/\w1.cell? ⟨bl',off'+k*7+6,none⟩=some (.slice ta' y.ts.length tc')) from
     λw1 hb=>⟨(hb.cell (p:=⟨bl',off'+k*7,none⟩) hbl').trans d0,(hb.cell (p:=⟨bl',off'+k*7+1,none⟩) hbl').trans d1,(hb.cell (p:=⟨bl',off'+k*7+2,none⟩) hbl').trans d2,(hb.cell (p:=⟨bl',off'+k*7+3,none⟩) hbl').trans d3,(hb.cell (p:=⟨bl',off'+k*7+4,none⟩) hbl').trans d4,(hb.cell (p:=⟨bl',off'+k*7+5,none⟩) hbl').trans d5,(hb.cell (p:=⟨bl',off'+k*7+6,none⟩) hbl').trans d6⟩)
    have i1:(k:Int)<(n:Int):=by omega
    clear hr1 hr2 f1 f2 c0 c1 c2 c3 c4 c5 c6 d0 d1 d2 d3 d4 d5 d6
    have hdr:=Bx (Ak (An wr.heap.size wr) 1);obtain ⟨z,hz⟩:∃z,same x y=z:=⟨_,rfl⟩;rw [hz] at HC;have HZ:=Bx hz;clear hz;go_wp2_with fail;refine AW 10 [17,18,19,20,21,22,23,24,25,26] [eQ (ZX (some ⟨bl,off,none⟩) n cap),eQ (ZZ ZS ((k:Nat):Int)),eP bl (off+k*7),eQ (ZU #[ZY x.m,ZY x.x,ZZ ZS x.k,.slice fa x.fs.length fc,ZW x.ch,.slice ba x.body.length bc,.slice ta x.ts.length tc]),eQ ((ZX (some ⟨bl',off',none⟩) n cap2)),eQ (ZZ ZS ((k:Nat):Int)),eP bl' (off'+k*7),eQ (ZU #[ZY y.m,ZY y.x,ZZ ZS y.k,.slice fa' y.fs.length fc',ZW y.ch,.slice ba' y.body.length bc',.slice ta' y.ts.length tc']),eQ (ZW z),eQ (ZW (!z))] (by kernel_rfl) (by kernel_rfl) (by kernel_rfl) (by kernel_rfl) (λ_ _ d _ _ h=>by cases d<;>exact h) (by rfl) (by rfl) (by repeat first | exact trivial | refine ⟨AK _,?_⟩) ?_ ?_
    ·refine ⟨?_,?_,?_,?_,?_,?_,?_,?_,?_,?_,trivial⟩
     ·exact XX1o1
     ·exact XX1o1
     ·exact XX1o1
     ·refine AP rfl (λev w1 hR hb hh=>?_);have e19:ev (.tmp 19)= _:=hh.at 0;clear hh
      obtain ⟨q0,q1,q2,q3,q4,q5,q6⟩:=HCE.out w1 (hdr.out.trans (hb.mono (Db _)));exact XXqTe
     ·exact XX1o1
     ·exact XX1o1
     ·exact XX1o1
     ·refine AP rfl (λev w1 hR hb hh=>?_);have e23:ev (.tmp 23)= _:=hh.at 0;clear hh
      obtain ⟨q0,q1,q2,q3,q4,q5,q6⟩:=HCD.out w1 (hdr.out.trans (hb.mono (Db _)));exact XXqTe
     ·refine AP rfl (λev w1 hR hb hh=>?_);have e20:ev (.tmp 20)= _:=hh.at 0;have e24:ev (.tmp 24)= _:=hh.at 1;clear hh;have ef:=hR.func
      refine AG 73 #[ZU #[ZY x.m,ZY x.x,ZZ ZS x.k,.slice fa x.fs.length fc,ZW x.ch,.slice ba x.body.length bc,.slice ta x.ts.length tc],ZU #[ZY y.m,ZY y.x,ZZ ZS y.k,.slice fa' y.fs.length fc',ZW y.ch,.slice ba' y.body.length bc',.slice ta' y.ts.length tc']] (by go_simp) ((HC.out w1 (hdr.out.trans (hb.mono (Db _)))).mono ?_);exact XXCGs
     ·exact XX1o1
    intro g1 w2 hb hf;have z26:g1 26= _:=hf.at 9;clear hf;simp only [AU,Ab,CH,CK,CJ];rw [z26]
    have H3:=Bx (Al hbr.out hb);clear hb;cases z with
    | true=>
      have HE:=Bx (HN.out ((same_iff _ _).1 HZ.out));clear HN HX HZ;go_wp2;go_roundw
      case rel=>exact ⟨k+1,by omega,by go_num,HE,H3⟩
      case measure=>simp [intOf];omega
    | false=>
      have HE:=Bx (show B=false by
       rw [←HB.out,Bool.eq_false_iff];intro e
       have:=(same_iff _ _).2 (HX.out ((all_iff _ _).1 e));rw [HZ.out] at this;cases this)
      clear HN HX HZ;go_wp2;go_ret;exact ⟨by first | rfl |(rw [HE.out];rfl),H3.out⟩
   ·obtain rfl:k=n:=by omega
    have HE:=Bx (show B=true by
     rw [←HB.out,all_iff];have:=hpre.out
     rwa [CN (by rw [HL.out];omega),CN (by rw [HM.out];omega)] at this)
    clear hpre;go_wp2;go_ret;exact ⟨by first | rfl |(rw [HE.out];rfl),hbr.out⟩
 ·have e:all rs qs=false:=all_len rs qs (by rw [hv.1,hu.1];exact hnm);have t0:((n:Int)==(m:Int))=false:=by rw [beq_eq_false_iff_ne];omega
  have t1:¬(n:Int)=(m:Int):=by omega
  rw [e];clear hv hu hf hg e hnm;go_enter Tryz.func19,Tryz.ntmps19;go_wp2;go_ret;exact ⟨rfl,An _ _⟩
end
end Go.Proofs.YtdfabddnpgjepaaGreatDoor.Rec
namespace Go.Proofs.YtdfabddnpgjepaaGreatDoor.Flt
open Go.RowKit Base Txt Par Pg
structure F where
 x:Q
 y:Q
 code:Nat
 parted:Bool
def F.judge (f:F) (s l:Nat) (alike:Bool):F:=
 if s≠0 then {f with code:=s,parted:=l==0} else if (!(l==0) || !alike)=true then {f with code:=400,parted:=true} else f
section
variable (p:Nat) (b:Bd)
def F.look (f:F) (c:UInt8):F × List D7:=
 let x:=f.x.byte 0 b c
 let y:=f.y.byte p b c
 (F.judge ⟨x.told,y.told,f.code,f.parted⟩ x.err y.err (Rec.all x.out y.out),if Rec.all x.out y.out=true then x.out else [])
def F.byte (f:F) (c:UInt8):F × List D7:=if f.code=0 then f.look p b c else (f,[])
def F.feed:F->List UInt8->F × List D7
 | f,[]=>(f,[])
 | f,c::l=>((F.feed (f.byte p b c).1 l).1,(f.byte p b c).2++(F.feed (f.byte p b c).1 l).2)
def F.new:F:=⟨Q.new 0 b,Q.new p b,(Q.new p b).err,false⟩
def F.held (f:F):Nat:=max f.x.held f.y.held
end
section
variable {p:Nat} {b:Bd}
def F.Just (p:Nat) (b:Bd) (f:F):Prop:=
 (f.code=0/\f.parted=false/\∃t,f.x=.live t/\t.Strict/\t.out= []/\f.y=.live (t.wide p)/\t.Ok/\b.right=true/\∃s,RR 0 b t s)∨(f.code≠0/\∃o,f.x=.dead f.code o)
theorem Ok.fit {t:T} (h:t.Ok):Rec.Fit t.r:=
 ⟨by have:=h.m;omega,by have:=h.x;omega,by have:=h.fsl;have:=h.hl;omega,λy hy=>by have:=h.fss y hy;have:=h.hl;omega,by have:=h.body;omega,by have:=h.tsl;have:=h.bl;omega,λy hy=>by have:=h.tss y hy;have:=h.bl;omega⟩
theorem line_told (t:T) (s:List UInt8):(t.line p b s).2.out=t.out∨(t.line p b s).2.out=t.out ++ [t.r]:=by
 unfold T.line;split
 ·unfold T.first;split
  ·exact .inl rfl
  ·simp only;split<;>exact .inl rfl
 ·split
  ·unfold T.fields;split
   ·unfold T.endHead;simp only;split
    ·exact .inl rfl
    ·split
     ·exact .inl rfl
     ·split
      ·exact .inr rfl
      ·exact .inl rfl
   ·exact .inl rfl
  ·split
   ·unfold T.chunk;simp only;split
    ·exact .inl rfl
    ·split
     ·exact .inl rfl
     ·split<;>exact .inl rfl
   ·split
    ·unfold T.trail;split
     ·exact .inr rfl
     ·exact .inl rfl
    ·exact .inl rfl
theorem ends_out (x:Nat × T):(ends x).out=x.2.out:=by unfold ends;split<;>rfl
def Fits (o:List D7):Prop:=∀r∈o,Rec.Fit r
theorem inLine_fits {t:T} (h:Fits t.out) (ok:t.Ok) (c:UInt8):Fits (t.inLine p b c).1.out:=by
 unfold T.inLine;simp only;split
 ·exact h
 ·split
  ·exact h
  ·split
   ·split
    ·exact h
    ·exact h
   ·show Fits (ends _).out;rw [ends_out];have hf:Rec.Fit t.r:=Ok.fit ok;rcases line_told (p:=p) (b:=b) {t with rd:=t.rd.byte c} (t.rd.byte c).line with e | e
    ·rw [e];exact h
    ·rw [e];intro r hr;rcases C3.1 hr with hr | hr
     ·exact h r hr
     ·rw [CB.1 hr];exact hf
theorem look_fits {t:T} (h:Fits t.out) (ok:t.Ok) (hb:b.right=true) (c:UInt8):Fits (t.look p b c).1.out:=by
 unfold T.look;split
 ·rename_i hs;have hk:Rec.Fit (t.keep c).r:=by
   have h1:=Ok.fit ok;have h2:=ok.left hs;exact ⟨h1.m,h1.x,h1.fs,h1.f,by have:=ok.body;show (t.r.body ++ [c]).length<=_;rw [Cr,List.length_singleton];omega,h1.ts,h1.t⟩
  show Fits (if t.left=1 then (t.keep c).endData p else t.keep c).out;split
  ·unfold T.endData;split
   ·exact h
   ·intro r hr;rcases C3.1 hr with hr | hr
    ·exact h r hr
    ·rw [CB.1 hr];exact hk
  ·exact h
 ·split
  ·rename_i hh;split
   ·show Fits t.out;exact h
   ·rename_i hx;exact inLine_fits (by rw [counted_out];exact h) (ok.counted hb hx) c
  ·exact inLine_fits h ok c
theorem byte_fits {x:Q} (h:Fits x.out) (ok:x.Fine b) (c:UInt8):Fits (x.byte p b c).out:=by
 cases x with
 | dead e o=>exact h
 | live t=>
   obtain ⟨h1,h2⟩:=ok;show Fits (t.take p b c).out;unfold T.take;have k1:=look_fits (p:=p) (b:=b) (t:={t with cnt:=false}) h h1.cleared h2 c;rcases hq:T.look p b {t with cnt:=false} c with ⟨q,u⟩;rw [hq] at k1;cases q with
   | dead e o=>cases u<;>exact k1
   | live t1=>
     cases u with
     | true=>exact k1
     | false=>exact look_fits k1 (h1.cleared.look h2 c (by rw [hq])) h2 c
end
end Go.Proofs.YtdfabddnpgjepaaGreatDoor.Flt
namespace Go.Proofs.YtdfabddnpgjepaaGreatDoor.Flt
open Go.RowKit Base Txt Mem Par Pg Each
abbrev fcells (g1 g2:Nat) (code:Nat) (pt:Bool):List Value:= [ptr g1,ptr g2,ZZ ZS (code:Int),ZW pt]
structure FAt (w:World) (B g g1 g2 p:Nat) (b:Bd) (L1 L2:List (Option Nat)) (f:F):Prop where
 row:w.heap[g]?=some (.cells (fcells g1 g2 f.code f.parted).toArray 74 (0,0))
 x:∃Z,At w ⟨B,Z⟩ g1 0 b L1 f.x
 y:∃Z,At w ⟨B,Z⟩ g2 p b L2 f.y
 dis:Dis L1 L2
 n1:some g∉L1
 n2:some g∉L2
 ge:B<=g
 xo:f.x.out= []
 yo:f.y.out= []
 xk:f.x.Ok b
 yk:f.y.Ok b
abbrev fblks (g:Nat) (L1 L2:List (Option Nat)):List (Option Nat):=some g::(L1++L2)
section
variable {w w':World} {B g g1 g2 p:Nat} {b:Bd} {L1 L2 M:List (Option Nat)} {f:F}
structure Fix (M:List (Option Nat)) (w:World) (g:Nat) (cs:List Value):Prop where
 row:∃ty,w.heap[g]?=some (.cells cs.toArray ty (0,0))
 off:some g∉M
def OneBy (M:List (Option Nat)) (a:Option Addr) (c:Nat):Fact:=λv w=>∃k,v=ZX (some ⟨k,0,none⟩) 1 1/\k<w.heap.size/\some k∉M/\w.cell? ⟨k,0,none⟩=some (.slice a 1 c)
def ToldBy (A' C C':World->List (Option Nat)->Prop) (L2 Z:List (Option Nat)) (B:Nat) (out:List D7):Fact:=λv w=>∃M1 M2,A' w M1/\(C w M2∨C' w M2)/\Dis M1 L2/\Pg.Told M1 ⟨B,L2++(M2++Z)⟩ w v out
variable {A A' C C':World->List (Option Nat)->Prop} {Z:List (Option Nat)} {out:List D7} {i1 i2 k:Nat} {l:List Oper}
theorem ToldBy.below (hA:Thing A A') (hC:Thing C C') {v:Value} (h:ToldBy A' C C' L2 Z B out v w) (hb:Below w.heap.size w w'):ToldBy A' C C' L2 Z B out v w':=by obtain ⟨M1,M2,h1,h2,h3,h4⟩:=h;have hk:Keeps [] w w':=Bo hb;exact ⟨M1,M2,hA.keeps' h1 hk (by simp),hC.now h2 hk (by simp),h3,h4.keeps hk (by simp)⟩
theorem ToldBy.step (hA:Thing A A') {v:Value} (h:ToldBy A' C C' L2 Z B out v w) {M:List (Option Nat)} (hM:C' w' M) (hs:Step L2 M w w'):ToldBy A' C C' L2 Z B out v w':=by
 obtain ⟨M1,M2,h1,h2,h3,h4⟩:=h;have h5:Pg.Told M1 ⟨B,L2++(M++Z)⟩ w v out:=h4.rezone λk hk=>by
  rw [C3,C3] at hk;show some k∈L2++(M2++Z)∨_;rw [C3,C3];rcases hk with hk | hk | hk
  ·exact .inl (.inl hk)
  ·exact (hs.of k hk).imp .inl id
  ·exact .inl (.inr (.inr hk))
 exact ⟨M1,M,hA.keeps' h1 hs.keeps h3,.inr hM,h3,h5.keeps hs.keeps λk hk=>List.mem_append_left _ hk⟩
theorem ToldBy.first (hA:Thing A A') (hC:Thing C C') (hk:k=i1∨waits l k i1=true):LastsTwo l A' C' L1 L2 i1 i2 k (ToldBy A' C C' L2 Z B out):=
 ⟨λ_ _ _ hb h=>h.below hA hC hb,λh1 h2=>absurd hk (by rw [h2];simpa using h1),λ_ _ _ _ _ _ hM hs h=>h.step hA hM hs⟩
theorem ToldBy.second (hA:Thing A A') (hC:Thing C C') (hk:k=i2∨waits l k i2=true):LastsTwo l A' C' L1 L2 i1 i2 k (ToldBy C' A A' L1 Z B out):=
 ⟨λ_ _ _ hb h=>h.below hC hA hb,λ_ _ _ _ _ _ hM hs h=>h.step hC hM hs,λh1 h2=>absurd hk (by rw [h2];simpa using h1)⟩
theorem told_recs {B:Zone} {L:List (Option Nat)} {v:Value} (h:Pg.Told L B w v out):∃a c,v=.slice a out.length c/\Rec.Recs w a out.length out:=by
 obtain ⟨a,c,e,hc⟩:=h.at;refine ⟨a,c,e,rfl,λh0=>?_⟩;obtain ⟨bk,e1,hlt,h1⟩:=hc h0;refine ⟨bk,0,e1,hlt,λk hk=>?_⟩;obtain ⟨fa,fc,ba,bc,ta,tc,f1,f2,f3,c0,c1,c2,c3,c4,c5,c6⟩:=h1 k hk;have e2:out[k]?.getD Rec.r0=out[k]:=by rw [Ca hk];rfl
 rw [e2,Di];exact ⟨fa,fc,ba,bc,ta,tc,⟨c0,c1,c2,c3,c4,c5,c6⟩,fa,fc,ba,bc,ta,tc,rfl,f1,f2,f3⟩
theorem clear_app {Z Z' L:List (Option Nat)} (h:Clear w Z L) (h':Clear w Z' L):Clear w (Z++Z') L:=
 ⟨λk hk=>(C3.1 hk).elim (h.inz k) (h'.inz k),λk hk hz=>(C3.1 hz).elim (h.off k hk) (h'.off k hk)⟩
theorem clear_dis {Z L:List (Option Nat)} (hin:In w Z) (hd:Dis L Z):Clear w Z L:=⟨hin,hd⟩
theorem bts_sub {L L':List (Option Nat)} {a:Option Addr} {s:List UInt8} (h:Bts L w a s) (hs:∀k,some k∈L'->some k∈L):Bts L' w a s:=⟨h.nums,λad e=>⟨λhm=>(h.far ad e).1 (hs _ hm),(h.far ad e).2⟩⟩
theorem bts_keeps {L:List (Option Nat)} {a:Option Addr} {s:List UInt8} (h:Bts L w a s) (hk:Keeps L w w'):Bts L w' a s:=h.step ⟨hk,Dq⟩
end
end Go.Proofs.YtdfabddnpgjepaaGreatDoor.Flt
namespace Go.Proofs.YtdfabddnpgjepaaGreatDoor.Flt
open Go.RowKit Base Txt Mem Par Pg Each
section
set_option maxHeartbeats 4000000
set_option maxRecDepth 20000
attribute [local go_sem] Am
variable {w:World} {B g g1 g2 p:Nat} {b:Bd} {L1 L2:List (Option Nat)} {f:F}
abbrev Has (B g p:Nat) (b:Bd) (X:Q):World->List (Option Nat)->Prop:=λw L=>∃Z,At w ⟨B,Z⟩ g p b L X
end
end Go.Proofs.YtdfabddnpgjepaaGreatDoor.Flt
namespace Go.Proofs.YtdfabddnpgjepaaGreatDoor.Flt
open Go.RowKit Base Txt Mem Par Pg Each
section
variable {w w' w0 w1:World} {B g g1 g2 p:Nat} {b:Bd} {L L' L1 L2 N1 N2 M1 M2 Z:List (Option Nat)} {f f':F} {V U:Value} {out out2:List D7}
structure FS (w0:World) (B g g1 g2 p:Nat) (b:Bd) (Z L1 L2:List (Option Nat)) (f:F) (V:Value) (out:List D7) (N1 N2:List (Option Nat)) (w:World):Prop where
 fat:FAt w B g g1 g2 p b N1 N2 f
 outs:Outs (V.ownBlock::fblks g N1 N2) ⟨w0.heap.size,Z⟩ w V out
 far:∀k,V.ownBlock=some k->some k∉fblks g N1 N2
 zone:Clear w Z (V.ownBlock::fblks g N1 N2)
 keeps:Keeps (fblks g L1 L2) w0 w
 of:Of w0 (fblks g L1 L2) (fblks g N1 N2)
end
end Go.Proofs.YtdfabddnpgjepaaGreatDoor.Flt
namespace Go.Proofs.YtdfabddnpgjepaaGreatDoor.Flt
open Go.RowKit Base Txt Mem Par Pg Each
structure PartsC (L:List (Option Nat)) (w:World) (a:Option Addr) (ls:List (List UInt8)):Prop where
 cells:0<ls.length->∃bk off,a=some ⟨bk,off,none⟩/\bk<w.heap.size/\some bk∉L/\∀k (hk:k<ls.length),∃ak ck,w.cell? ⟨bk,off+k,none⟩=some (.slice ak ls[k].length ck)/\ls[k].length<=ck/\(ls[k]≠ []->Bts L w ak ls[k])
section
set_option maxHeartbeats 4000000
set_option maxRecDepth 20000
attribute [local go_sem] Am
variable {w:World} {B g g1 g2 p:Nat} {b:Bd} {L1 L2:List (Option Nat)} {f:F}
end
end Go.Proofs.YtdfabddnpgjepaaGreatDoor.Flt
namespace Go.Proofs.YtdfabddnpgjepaaGreatDoor.Flt
open Go.RowKit Base Txt Mem Par Pg Each
section
set_option maxHeartbeats 8000000
set_option maxRecDepth 20000
attribute [local go_sem] Am
variable {p:Nat} {b:Bd}
abbrev bdL (b:Bd):List Value:= [ZZ ZS b.x0,ZZ ZS b.x1,ZZ ZS b.x2,ZZ ZS b.x3,ZZ ZS b.x4,ZZ ZS b.x5,ZZ ZS b.x6,ZZ ZS b.x7,ZW b.ch,ZW b.od]
structure Pair (w0 w:World) (g1 g2 p:Nat) (b:Bd) (L1 L2:List (Option Nat)):Prop where
 x:At w ⟨w0.heap.size,[]⟩ g1 0 b L1 (Q.new 0 b)
 y:At w ⟨w0.heap.size,[]⟩ g2 p b L2 (Q.new p b)
 dis:Dis L1 L2
 bel:Below w0.heap.size w0 w
end
end Go.Proofs.YtdfabddnpgjepaaGreatDoor.Flt
namespace Go.Proofs.YtdfabddnpgjepaaGreatDoor.Rq
open Go.RowKit Base Txt
theorem strs_at (w:World) (t:TypeId) (ss:List ByteArray) (k:Nat) (hk:k<ss.length):(w.alloc (.cells ((ss.map Value.string).toArray) t)).cell? ⟨w.heap.size,k,none⟩=some (ZY (ss[k]?.getD A8)):=by rw [cell_of_row (w.alloc _) w.heap.size k _ t (0,0) (heap_alloc_new w _)];simp [Ca hk]
theorem val_at (ss:List ByteArray) (k:Nat) (hk:k<ss.length):(ss.map Value.string)[k]'(by rw [Cw];exact hk)=ZY (ss[k]?.getD A8):=by simp [Ca hk]
theorem size_at (ss:List ByteArray) (m:Nat) (h:ss.all (λx=>decide (x.size<=m))=true) (k:Nat) (hk:k<ss.length):(ss[k]?.getD A8).size<=m:=by
 rw [List.all_eq_true] at h;rw [Ca hk,Ds]
 simpa using h _ (Ci hk)
theorem tgts_at (k:Nat) (hk:k<12):∃X:ByteArray,X.size<=17/\(∀w:World,(w.alloc (.cells #[ZY ⟨#[47]⟩,ZY ⟨#[47,97]⟩,ZY ⟨#[47,97,47,98,63,120,61,49]⟩,ZY ⟨#[47,97,47,46,46,47,98]⟩,ZY ⟨#[47,37,52,49,47,99]⟩,ZY ⟨#[42]⟩,ZY ⟨#[104,116,116,112,58,47,47,104,46,111,114,103,47,113,63]⟩,ZY ⟨#[47,118,49,47,105,116,101,109,47,55]⟩,ZY ⟨#[47,120,32,121]⟩,ZY ⟨#[47,113,1]⟩,ZY ⟨#[47,115,116,97,116,105,99,47,99,115,115,47,109,46,99,115,115]⟩,ZY ⟨#[104,116,116,112,58,47,47,97]⟩] 9)).cell? ⟨w.heap.size,k,none⟩=some (ZY X))/\∀hh,([ZY ⟨#[47]⟩,ZY ⟨#[47,97]⟩,ZY ⟨#[47,97,47,98,63,120,61,49]⟩,ZY ⟨#[47,97,47,46,46,47,98]⟩,ZY ⟨#[47,37,52,49,47,99]⟩,ZY ⟨#[42]⟩,ZY ⟨#[104,116,116,112,58,47,47,104,46,111,114,103,47,113,63]⟩,ZY ⟨#[47,118,49,47,105,116,101,109,47,55]⟩,ZY ⟨#[47,120,32,121]⟩,ZY ⟨#[47,113,1]⟩,ZY ⟨#[47,115,116,97,116,105,99,47,99,115,115,47,109,46,99,115,115]⟩,ZY ⟨#[104,116,116,112,58,47,47,97]⟩]:List Value)[k]'hh=ZY X:=
 ⟨_,size_at [⟨#[47]⟩,⟨#[47,97]⟩,⟨#[47,97,47,98,63,120,61,49]⟩,⟨#[47,97,47,46,46,47,98]⟩,⟨#[47,37,52,49,47,99]⟩,⟨#[42]⟩,⟨#[104,116,116,112,58,47,47,104,46,111,114,103,47,113,63]⟩,⟨#[47,118,49,47,105,116,101,109,47,55]⟩,⟨#[47,120,32,121]⟩,⟨#[47,113,1]⟩,⟨#[47,115,116,97,116,105,99,47,99,115,115,47,109,46,99,115,115]⟩,⟨#[104,116,116,112,58,47,47,97]⟩] 17 (by decide) k hk,λw=>strs_at w 9 [⟨#[47]⟩,⟨#[47,97]⟩,⟨#[47,97,47,98,63,120,61,49]⟩,⟨#[47,97,47,46,46,47,98]⟩,⟨#[47,37,52,49,47,99]⟩,⟨#[42]⟩,⟨#[104,116,116,112,58,47,47,104,46,111,114,103,47,113,63]⟩,⟨#[47,118,49,47,105,116,101,109,47,55]⟩,⟨#[47,120,32,121]⟩,⟨#[47,113,1]⟩,⟨#[47,115,116,97,116,105,99,47,99,115,115,47,109,46,99,115,115]⟩,⟨#[104,116,116,112,58,47,47,97]⟩] k hk,λhh=>by
   have h2:=val_at [⟨#[47]⟩,⟨#[47,97]⟩,⟨#[47,97,47,98,63,120,61,49]⟩,⟨#[47,97,47,46,46,47,98]⟩,⟨#[47,37,52,49,47,99]⟩,⟨#[42]⟩,⟨#[104,116,116,112,58,47,47,104,46,111,114,103,47,113,63]⟩,⟨#[47,118,49,47,105,116,101,109,47,55]⟩,⟨#[47,120,32,121]⟩,⟨#[47,113,1]⟩,⟨#[47,115,116,97,116,105,99,47,99,115,115,47,109,46,99,115,115]⟩,⟨#[104,116,116,112,58,47,47,97]⟩] k hk
   exact h2⟩
theorem meths_at (k:Nat) (hk:k<8):∃X:ByteArray,X.size<=7/\(∀w:World,(w.alloc (.cells #[ZY ⟨#[71,69,84]⟩,ZY ⟨#[80,79,83,84]⟩,ZY ⟨#[79,80,84,73,79,78,83]⟩,ZY ⟨#[72,69,65,68]⟩,ZY ⟨#[80,85,84]⟩,ZY ⟨#[68,69,76,69,84,69]⟩,ZY ⟨#[71,40,84]⟩,ZY ⟨#[67,79,78,78,69,67,84]⟩] 9)).cell? ⟨w.heap.size,k,none⟩=some (ZY X))/\∀hh,([ZY ⟨#[71,69,84]⟩,ZY ⟨#[80,79,83,84]⟩,ZY ⟨#[79,80,84,73,79,78,83]⟩,ZY ⟨#[72,69,65,68]⟩,ZY ⟨#[80,85,84]⟩,ZY ⟨#[68,69,76,69,84,69]⟩,ZY ⟨#[71,40,84]⟩,ZY ⟨#[67,79,78,78,69,67,84]⟩]:List Value)[k]'hh=ZY X:=
 ⟨_,size_at [⟨#[71,69,84]⟩,⟨#[80,79,83,84]⟩,⟨#[79,80,84,73,79,78,83]⟩,⟨#[72,69,65,68]⟩,⟨#[80,85,84]⟩,⟨#[68,69,76,69,84,69]⟩,⟨#[71,40,84]⟩,⟨#[67,79,78,78,69,67,84]⟩] 7 (by decide) k hk,λw=>strs_at w 9 [⟨#[71,69,84]⟩,⟨#[80,79,83,84]⟩,⟨#[79,80,84,73,79,78,83]⟩,⟨#[72,69,65,68]⟩,⟨#[80,85,84]⟩,⟨#[68,69,76,69,84,69]⟩,⟨#[71,40,84]⟩,⟨#[67,79,78,78,69,67,84]⟩] k hk,λhh=>by
   have h2:=val_at [⟨#[71,69,84]⟩,⟨#[80,79,83,84]⟩,⟨#[79,80,84,73,79,78,83]⟩,⟨#[72,69,65,68]⟩,⟨#[80,85,84]⟩,⟨#[68,69,76,69,84,69]⟩,⟨#[71,40,84]⟩,⟨#[67,79,78,78,69,67,84]⟩] k hk
   exact h2⟩
theorem gaps_at (k:Nat) (hk:k<4):∃X:ByteArray,X.size<=3/\(∀w:World,(w.alloc (.cells #[ZY ⟨#[32]⟩,ZY ⟨#[32,32]⟩,ZY ⟨#[9]⟩,ZY ⟨#[32,9,32]⟩] 9)).cell? ⟨w.heap.size,k,none⟩=some (ZY X))/\∀hh,([ZY ⟨#[32]⟩,ZY ⟨#[32,32]⟩,ZY ⟨#[9]⟩,ZY ⟨#[32,9,32]⟩]:List Value)[k]'hh=ZY X:=
 ⟨_,size_at [⟨#[32]⟩,⟨#[32,32]⟩,⟨#[9]⟩,⟨#[32,9,32]⟩] 3 (by decide) k hk,λw=>strs_at w 9 [⟨#[32]⟩,⟨#[32,32]⟩,⟨#[9]⟩,⟨#[32,9,32]⟩] k hk,λhh=>by
   have h2:=val_at [⟨#[32]⟩,⟨#[32,32]⟩,⟨#[9]⟩,⟨#[32,9,32]⟩] k hk
   exact h2⟩
theorem vers_at (k:Nat) (hk:k<6):∃X:ByteArray,X.size<=8/\(∀w:World,(w.alloc (.cells #[ZY ⟨#[72,84,84,80,47,49,46,49]⟩,ZY ⟨#[72,84,84,80,47,49,46,48]⟩,ZY ⟨#[72,84,84,80,47,49,46,55]⟩,ZY ⟨#[104,116,116,112,47,49,46,49]⟩,ZY ⟨#[72,84,84,80,47,50,46,48]⟩,ZY ⟨#[72,84,84,80,47,49,46,49]⟩] 9)).cell? ⟨w.heap.size,k,none⟩=some (ZY X))/\∀hh,([ZY ⟨#[72,84,84,80,47,49,46,49]⟩,ZY ⟨#[72,84,84,80,47,49,46,48]⟩,ZY ⟨#[72,84,84,80,47,49,46,55]⟩,ZY ⟨#[104,116,116,112,47,49,46,49]⟩,ZY ⟨#[72,84,84,80,47,50,46,48]⟩,ZY ⟨#[72,84,84,80,47,49,46,49]⟩]:List Value)[k]'hh=ZY X:=
 ⟨_,size_at [⟨#[72,84,84,80,47,49,46,49]⟩,⟨#[72,84,84,80,47,49,46,48]⟩,⟨#[72,84,84,80,47,49,46,55]⟩,⟨#[104,116,116,112,47,49,46,49]⟩,⟨#[72,84,84,80,47,50,46,48]⟩,⟨#[72,84,84,80,47,49,46,49]⟩] 8 (by decide) k hk,λw=>strs_at w 9 [⟨#[72,84,84,80,47,49,46,49]⟩,⟨#[72,84,84,80,47,49,46,48]⟩,⟨#[72,84,84,80,47,49,46,55]⟩,⟨#[104,116,116,112,47,49,46,49]⟩,⟨#[72,84,84,80,47,50,46,48]⟩,⟨#[72,84,84,80,47,49,46,49]⟩] k hk,λhh=>by
   have h2:=val_at [⟨#[72,84,84,80,47,49,46,49]⟩,⟨#[72,84,84,80,47,49,46,48]⟩,⟨#[72,84,84,80,47,49,46,55]⟩,⟨#[104,116,116,112,47,49,46,49]⟩,⟨#[72,84,84,80,47,50,46,48]⟩,⟨#[72,84,84,80,47,49,46,49]⟩] k hk
   exact h2⟩
section
set_option maxHeartbeats 1000000
attribute [local go_sem] Am
set_option maxHeartbeats 16000000 in
set_option maxRecDepth 10000 in
theorem line_any (a b:Nat) (ha:a<256) (hb:b<256) (w:World):Calls EW 107 #[ZZ ZR a,ZZ ZR b] w λe w'=>(∃L:ByteArray,e=.returned (ZY L)/\L.size<=60)/\Below w.heap.size w w':=by
 obtain ⟨u,hu⟩:∃u,b%12=u:=⟨_,rfl⟩;obtain ⟨v,hv⟩:∃v,a%8=v:=⟨_,rfl⟩;obtain ⟨z,hz⟩:∃z,b%4=z:=⟨_,rfl⟩;obtain ⟨y,hy⟩:∃y,a%6=y:=⟨_,rfl⟩;have iu:(b:Int)%12=(u:Int):=by omega
 have iv:(a:Int)%8=(v:Int):=by omega
 have iz:(b:Int)%4=(z:Int):=by omega
 have iy:(a:Int)%6=(y:Int):=by omega
 have lu:u<12:=by omega
 have lv:v<8:=by omega
 have lz:z<4:=by omega
 have ly:y<6:=by omega
 clear hu hv hz hy;obtain ⟨X1,z1,c1,d1⟩:=tgts_at u lu;obtain ⟨X2,z2,c2,d2⟩:=meths_at v lv;obtain ⟨X3,z3,c3,d3⟩:=gaps_at z lz;obtain ⟨X4,z4,c4,d4⟩:=vers_at y ly;have hA:200<=a∨(a<200/\5<v/\7<u/\¬u=10)∨(a<200/\5<v/\u=10)∨(a<200/\5<v/\u<=7)∨(a<200/\v<=5/\7<u/\¬u=10/\¬u=5)∨(a<200/\v<=5/\u=10)∨(a<200/\v<=5/\u=5)∨(a<200/\v<=5/\u<=7/\¬u=5):=by omega
 have hB:200<b∨b=199∨(b<=200/\¬b=199):=by omega
 rcases hA with h | ⟨h,h1,h2,h3⟩ | ⟨h,h1,rfl⟩ | ⟨h,h1,h2⟩ | ⟨h,h1,h2,h3,h4⟩ | ⟨h,h1,rfl⟩ | ⟨h,h1,rfl⟩ | ⟨h,h1,h2,h3⟩;all_goals
  rcases hB with k1 | rfl | ⟨k1,k2⟩
  all_goals try (exfalso;omega)
  all_goals
   go_enter Tryz.func107,Tryz.ntmps107;go_wp2_with fail;all_goals
    go_ret;refine ⟨⟨_,rfl,?_⟩,?_⟩
    ·simp only [A9,len_mk,List.length_cons,List.length_nil];omega
    ·repeat (first | exact An _ _ | with_reducible refine Below.alloc ?_ ?_ _)
     all_goals (simp;try omega)
end
end Go.Proofs.YtdfabddnpgjepaaGreatDoor.Rq
namespace Go.Proofs.YtdfabddnpgjepaaGreatDoor.Rq
open Go.RowKit Base Txt
theorem ends_at (k:Nat) (hk:k<4):∃X:ByteArray,X.size<=3/\(∀w:World,(w.alloc (.cells #[ZY ⟨#[10]⟩,ZY ⟨#[13]⟩,ZY ⟨#[13,13,10]⟩,ZY ⟨#[10,10]⟩] 9)).cell? ⟨w.heap.size,k,none⟩=some (ZY X))/\∀hh,([ZY ⟨#[10]⟩,ZY ⟨#[13]⟩,ZY ⟨#[13,13,10]⟩,ZY ⟨#[10,10]⟩]:List Value)[k]'hh=ZY X:=
 ⟨_,size_at [⟨#[10]⟩,⟨#[13]⟩,⟨#[13,13,10]⟩,⟨#[10,10]⟩] 3 (by decide) k hk,λw=>strs_at w 9 [⟨#[10]⟩,⟨#[13]⟩,⟨#[13,13,10]⟩,⟨#[10,10]⟩] k hk,λhh=>by
   have h2:=val_at [⟨#[10]⟩,⟨#[13]⟩,⟨#[13,13,10]⟩,⟨#[10,10]⟩] k hk
   exact h2⟩
theorem good_at (k:Nat) (hk:k<16):∃X:ByteArray,X.size<=34/\(∀w:World,(w.alloc (.cells #[ZY ⟨#[72,111,115,116,58,32,104,46,111,114,103]⟩,ZY ⟨#[72,111,115,116,58,32,97]⟩,ZY ⟨#[65,58,32,98]⟩,ZY ⟨#[88,45,89,58,32,32,122,32]⟩,ZY ⟨#[65,99,99,101,112,116,58,32,42,47,42]⟩,ZY ⟨#[79,114,105,103,105,110,58,32,104,116,116,112,58,47,47,111,46,111,114,103]⟩,ZY ⟨#[65,117,116,104,111,114,105,122,97,116,105,111,110,58,32,66,97,115,105,99,32,100,84,112,119]⟩,ZY ⟨#[67,111,110,110,101,99,116,105,111,110,58,32,107,101,101,112,45,97,108,105,118,101]⟩,ZY ⟨#[67,111,111,107,105,101,58,32,97,61,49,44,32,98,61,50]⟩,ZY ⟨#[69,120,112,101,99,116,58,32,49,48,48,45,99,111,110,116,105,110,117,101]⟩,ZY ⟨#[85,112,103,114,97,100,101,58,32,120]⟩,ZY ⟨#[88,45,70,111,114,119,97,114,100,101,100,45,70,111,114,58,32,49,46,50,46,51,46,52]⟩,ZY ⟨#[67,111,110,110,101,99,116,105,111,110,58,32,88,45,89]⟩,ZY ⟨#[84,69,58,32,116,114,97,105,108,101,114,115]⟩,ZY ⟨#[86,105,97,58,32,49,46,48,32,113]⟩,ZY ⟨#[65,99,99,101,115,115,45,67,111,110,116,114,111,108,45,82,101,113,117,101,115,116,45,77,101,116,104,111,100,58,32,80,85,84]⟩] 9)).cell? ⟨w.heap.size,k,none⟩=some (ZY X))/\∀hh,([ZY ⟨#[72,111,115,116,58,32,104,46,111,114,103]⟩,ZY ⟨#[72,111,115,116,58,32,97]⟩,ZY ⟨#[65,58,32,98]⟩,ZY ⟨#[88,45,89,58,32,32,122,32]⟩,ZY ⟨#[65,99,99,101,112,116,58,32,42,47,42]⟩,ZY ⟨#[79,114,105,103,105,110,58,32,104,116,116,112,58,47,47,111,46,111,114,103]⟩,ZY ⟨#[65,117,116,104,111,114,105,122,97,116,105,111,110,58,32,66,97,115,105,99,32,100,84,112,119]⟩,ZY ⟨#[67,111,110,110,101,99,116,105,111,110,58,32,107,101,101,112,45,97,108,105,118,101]⟩,ZY ⟨#[67,111,111,107,105,101,58,32,97,61,49,44,32,98,61,50]⟩,ZY ⟨#[69,120,112,101,99,116,58,32,49,48,48,45,99,111,110,116,105,110,117,101]⟩,ZY ⟨#[85,112,103,114,97,100,101,58,32,120]⟩,ZY ⟨#[88,45,70,111,114,119,97,114,100,101,100,45,70,111,114,58,32,49,46,50,46,51,46,52]⟩,ZY ⟨#[67,111,110,110,101,99,116,105,111,110,58,32,88,45,89]⟩,ZY ⟨#[84,69,58,32,116,114,97,105,108,101,114,115]⟩,ZY ⟨#[86,105,97,58,32,49,46,48,32,113]⟩,ZY ⟨#[65,99,99,101,115,115,45,67,111,110,116,114,111,108,45,82,101,113,117,101,115,116,45,77,101,116,104,111,100,58,32,80,85,84]⟩]:List Value)[k]'hh=ZY X:=
 ⟨_,size_at [⟨#[72,111,115,116,58,32,104,46,111,114,103]⟩,⟨#[72,111,115,116,58,32,97]⟩,⟨#[65,58,32,98]⟩,⟨#[88,45,89,58,32,32,122,32]⟩,⟨#[65,99,99,101,112,116,58,32,42,47,42]⟩,⟨#[79,114,105,103,105,110,58,32,104,116,116,112,58,47,47,111,46,111,114,103]⟩,⟨#[65,117,116,104,111,114,105,122,97,116,105,111,110,58,32,66,97,115,105,99,32,100,84,112,119]⟩,⟨#[67,111,110,110,101,99,116,105,111,110,58,32,107,101,101,112,45,97,108,105,118,101]⟩,⟨#[67,111,111,107,105,101,58,32,97,61,49,44,32,98,61,50]⟩,⟨#[69,120,112,101,99,116,58,32,49,48,48,45,99,111,110,116,105,110,117,101]⟩,⟨#[85,112,103,114,97,100,101,58,32,120]⟩,⟨#[88,45,70,111,114,119,97,114,100,101,100,45,70,111,114,58,32,49,46,50,46,51,46,52]⟩,⟨#[67,111,110,110,101,99,116,105,111,110,58,32,88,45,89]⟩,⟨#[84,69,58,32,116,114,97,105,108,101,114,115]⟩,⟨#[86,105,97,58,32,49,46,48,32,113]⟩,⟨#[65,99,99,101,115,115,45,67,111,110,116,114,111,108,45,82,101,113,117,101,115,116,45,77,101,116,104,111,100,58,32,80,85,84]⟩] 34 (by decide) k hk,λw=>strs_at w 9 [⟨#[72,111,115,116,58,32,104,46,111,114,103]⟩,⟨#[72,111,115,116,58,32,97]⟩,⟨#[65,58,32,98]⟩,⟨#[88,45,89,58,32,32,122,32]⟩,⟨#[65,99,99,101,112,116,58,32,42,47,42]⟩,⟨#[79,114,105,103,105,110,58,32,104,116,116,112,58,47,47,111,46,111,114,103]⟩,⟨#[65,117,116,104,111,114,105,122,97,116,105,111,110,58,32,66,97,115,105,99,32,100,84,112,119]⟩,⟨#[67,111,110,110,101,99,116,105,111,110,58,32,107,101,101,112,45,97,108,105,118,101]⟩,⟨#[67,111,111,107,105,101,58,32,97,61,49,44,32,98,61,50]⟩,⟨#[69,120,112,101,99,116,58,32,49,48,48,45,99,111,110,116,105,110,117,101]⟩,⟨#[85,112,103,114,97,100,101,58,32,120]⟩,⟨#[88,45,70,111,114,119,97,114,100,101,100,45,70,111,114,58,32,49,46,50,46,51,46,52]⟩,⟨#[67,111,110,110,101,99,116,105,111,110,58,32,88,45,89]⟩,⟨#[84,69,58,32,116,114,97,105,108,101,114,115]⟩,⟨#[86,105,97,58,32,49,46,48,32,113]⟩,⟨#[65,99,99,101,115,115,45,67,111,110,116,114,111,108,45,82,101,113,117,101,115,116,45,77,101,116,104,111,100,58,32,80,85,84]⟩] k hk,λhh=>by
   have h2:=val_at [⟨#[72,111,115,116,58,32,104,46,111,114,103]⟩,⟨#[72,111,115,116,58,32,97]⟩,⟨#[65,58,32,98]⟩,⟨#[88,45,89,58,32,32,122,32]⟩,⟨#[65,99,99,101,112,116,58,32,42,47,42]⟩,⟨#[79,114,105,103,105,110,58,32,104,116,116,112,58,47,47,111,46,111,114,103]⟩,⟨#[65,117,116,104,111,114,105,122,97,116,105,111,110,58,32,66,97,115,105,99,32,100,84,112,119]⟩,⟨#[67,111,110,110,101,99,116,105,111,110,58,32,107,101,101,112,45,97,108,105,118,101]⟩,⟨#[67,111,111,107,105,101,58,32,97,61,49,44,32,98,61,50]⟩,⟨#[69,120,112,101,99,116,58,32,49,48,48,45,99,111,110,116,105,110,117,101]⟩,⟨#[85,112,103,114,97,100,101,58,32,120]⟩,⟨#[88,45,70,111,114,119,97,114,100,101,100,45,70,111,114,58,32,49,46,50,46,51,46,52]⟩,⟨#[67,111,110,110,101,99,116,105,111,110,58,32,88,45,89]⟩,⟨#[84,69,58,32,116,114,97,105,108,101,114,115]⟩,⟨#[86,105,97,58,32,49,46,48,32,113]⟩,⟨#[65,99,99,101,115,115,45,67,111,110,116,114,111,108,45,82,101,113,117,101,115,116,45,77,101,116,104,111,100,58,32,80,85,84]⟩] k hk
   exact h2⟩
theorem odd_at (k:Nat) (hk:k<22):∃X:ByteArray,X.size<=36/\(∀w:World,(w.alloc (.cells #[ZY ⟨#[72,111,115,116,32,58,32,97]⟩,ZY ⟨#[40,120,58,32,49]⟩,ZY ⟨#[110,111,118,97,108,117,101]⟩,ZY ⟨#[58,32,110,97,109,101,108,101,115,115]⟩,ZY ⟨#[32,102,111,108,100,101,100]⟩,ZY ⟨#[9,102,111,108,100,101,100,58,32,116,111,111]⟩,ZY ⟨#[86,58,32,97,1,98]⟩,ZY ⟨#[84,114,97,110,115,102,101,114,45,69,110,99,111,100,105,110,103,58,32,103,122,105,112]⟩,ZY ⟨#[84,114,97,110,115,102,101,114,45,69,110,99,111,100,105,110,103,58,32,103,122,105,112,44,32,99,104,117,110,107,101,100]⟩,ZY ⟨#[84,114,97,110,115,102,101,114,45,69,110,99,111,100,105,110,103,58,32,11,99,104,117,110,107,101,100]⟩,ZY ⟨#[84,114,97,110,115,102,101,114,45,69,110,99,111,100,105,110,103,58,32,67,104,117,110,107,101,100]⟩,ZY ⟨#[67,111,110,116,101,110,116,45,76,101,110,103,116,104,58,32,43,51]⟩,ZY ⟨#[67,111,110,116,101,110,116,45,76,101,110,103,116,104,58,32,51,44,32,51]⟩,ZY ⟨#[67,111,110,116,101,110,116,45,76,101,110,103,116,104,58,32,51]⟩,ZY ⟨#[67,111,110,116,101,110,116,45,76,101,110,103,116,104,58,32,48]⟩,ZY ⟨#[67,111,110,116,101,110,116,45,76,101,110,103,116,104,58,32,48,51]⟩,ZY ⟨#[72,111,115,116,58,32,98]⟩,ZY ⟨#[72,111,115,116,58,32,97,58,57,57,57,57,57]⟩,ZY ⟨#[67,111,110,110,101,99,116,105,111,110,58,32,99,108,111,115,101]⟩,ZY ⟨#[67,111,110,116,101,110,116,45,76,101,110,103,116,104,58,32,57,57,57,57,57,57,57,57,57,57,57,57,57,57,57,57,57,57,57,57]⟩,ZY ⟨#[86,58,32,255,128]⟩,ZY ⟨#[84,114,97,110,115,102,101,114,45,69,110,99,111,100,105,110,103,58,32,99,104,117,110,107,101,100,44,32,99,104,117,110,107,101,100]⟩] 9)).cell? ⟨w.heap.size,k,none⟩=some (ZY X))/\∀hh,([ZY ⟨#[72,111,115,116,32,58,32,97]⟩,ZY ⟨#[40,120,58,32,49]⟩,ZY ⟨#[110,111,118,97,108,117,101]⟩,ZY ⟨#[58,32,110,97,109,101,108,101,115,115]⟩,ZY ⟨#[32,102,111,108,100,101,100]⟩,ZY ⟨#[9,102,111,108,100,101,100,58,32,116,111,111]⟩,ZY ⟨#[86,58,32,97,1,98]⟩,ZY ⟨#[84,114,97,110,115,102,101,114,45,69,110,99,111,100,105,110,103,58,32,103,122,105,112]⟩,ZY ⟨#[84,114,97,110,115,102,101,114,45,69,110,99,111,100,105,110,103,58,32,103,122,105,112,44,32,99,104,117,110,107,101,100]⟩,ZY ⟨#[84,114,97,110,115,102,101,114,45,69,110,99,111,100,105,110,103,58,32,11,99,104,117,110,107,101,100]⟩,ZY ⟨#[84,114,97,110,115,102,101,114,45,69,110,99,111,100,105,110,103,58,32,67,104,117,110,107,101,100]⟩,ZY ⟨#[67,111,110,116,101,110,116,45,76,101,110,103,116,104,58,32,43,51]⟩,ZY ⟨#[67,111,110,116,101,110,116,45,76,101,110,103,116,104,58,32,51,44,32,51]⟩,ZY ⟨#[67,111,110,116,101,110,116,45,76,101,110,103,116,104,58,32,51]⟩,ZY ⟨#[67,111,110,116,101,110,116,45,76,101,110,103,116,104,58,32,48]⟩,ZY ⟨#[67,111,110,116,101,110,116,45,76,101,110,103,116,104,58,32,48,51]⟩,ZY ⟨#[72,111,115,116,58,32,98]⟩,ZY ⟨#[72,111,115,116,58,32,97,58,57,57,57,57,57]⟩,ZY ⟨#[67,111,110,110,101,99,116,105,111,110,58,32,99,108,111,115,101]⟩,ZY ⟨#[67,111,110,116,101,110,116,45,76,101,110,103,116,104,58,32,57,57,57,57,57,57,57,57,57,57,57,57,57,57,57,57,57,57,57,57]⟩,ZY ⟨#[86,58,32,255,128]⟩,ZY ⟨#[84,114,97,110,115,102,101,114,45,69,110,99,111,100,105,110,103,58,32,99,104,117,110,107,101,100,44,32,99,104,117,110,107,101,100]⟩]:List Value)[k]'hh=ZY X:=
 ⟨_,size_at [⟨#[72,111,115,116,32,58,32,97]⟩,⟨#[40,120,58,32,49]⟩,⟨#[110,111,118,97,108,117,101]⟩,⟨#[58,32,110,97,109,101,108,101,115,115]⟩,⟨#[32,102,111,108,100,101,100]⟩,⟨#[9,102,111,108,100,101,100,58,32,116,111,111]⟩,⟨#[86,58,32,97,1,98]⟩,⟨#[84,114,97,110,115,102,101,114,45,69,110,99,111,100,105,110,103,58,32,103,122,105,112]⟩,⟨#[84,114,97,110,115,102,101,114,45,69,110,99,111,100,105,110,103,58,32,103,122,105,112,44,32,99,104,117,110,107,101,100]⟩,⟨#[84,114,97,110,115,102,101,114,45,69,110,99,111,100,105,110,103,58,32,11,99,104,117,110,107,101,100]⟩,⟨#[84,114,97,110,115,102,101,114,45,69,110,99,111,100,105,110,103,58,32,67,104,117,110,107,101,100]⟩,⟨#[67,111,110,116,101,110,116,45,76,101,110,103,116,104,58,32,43,51]⟩,⟨#[67,111,110,116,101,110,116,45,76,101,110,103,116,104,58,32,51,44,32,51]⟩,⟨#[67,111,110,116,101,110,116,45,76,101,110,103,116,104,58,32,51]⟩,⟨#[67,111,110,116,101,110,116,45,76,101,110,103,116,104,58,32,48]⟩,⟨#[67,111,110,116,101,110,116,45,76,101,110,103,116,104,58,32,48,51]⟩,⟨#[72,111,115,116,58,32,98]⟩,⟨#[72,111,115,116,58,32,97,58,57,57,57,57,57]⟩,⟨#[67,111,110,110,101,99,116,105,111,110,58,32,99,108,111,115,101]⟩,⟨#[67,111,110,116,101,110,116,45,76,101,110,103,116,104,58,32,57,57,57,57,57,57,57,57,57,57,57,57,57,57,57,57,57,57,57,57]⟩,⟨#[86,58,32,255,128]⟩,⟨#[84,114,97,110,115,102,101,114,45,69,110,99,111,100,105,110,103,58,32,99,104,117,110,107,101,100,44,32,99,104,117,110,107,101,100]⟩] 36 (by decide) k hk,λw=>strs_at w 9 [⟨#[72,111,115,116,32,58,32,97]⟩,⟨#[40,120,58,32,49]⟩,⟨#[110,111,118,97,108,117,101]⟩,⟨#[58,32,110,97,109,101,108,101,115,115]⟩,⟨#[32,102,111,108,100,101,100]⟩,⟨#[9,102,111,108,100,101,100,58,32,116,111,111]⟩,⟨#[86,58,32,97,1,98]⟩,⟨#[84,114,97,110,115,102,101,114,45,69,110,99,111,100,105,110,103,58,32,103,122,105,112]⟩,⟨#[84,114,97,110,115,102,101,114,45,69,110,99,111,100,105,110,103,58,32,103,122,105,112,44,32,99,104,117,110,107,101,100]⟩,⟨#[84,114,97,110,115,102,101,114,45,69,110,99,111,100,105,110,103,58,32,11,99,104,117,110,107,101,100]⟩,⟨#[84,114,97,110,115,102,101,114,45,69,110,99,111,100,105,110,103,58,32,67,104,117,110,107,101,100]⟩,⟨#[67,111,110,116,101,110,116,45,76,101,110,103,116,104,58,32,43,51]⟩,⟨#[67,111,110,116,101,110,116,45,76,101,110,103,116,104,58,32,51,44,32,51]⟩,⟨#[67,111,110,116,101,110,116,45,76,101,110,103,116,104,58,32,51]⟩,⟨#[67,111,110,116,101,110,116,45,76,101,110,103,116,104,58,32,48]⟩,⟨#[67,111,110,116,101,110,116,45,76,101,110,103,116,104,58,32,48,51]⟩,⟨#[72,111,115,116,58,32,98]⟩,⟨#[72,111,115,116,58,32,97,58,57,57,57,57,57]⟩,⟨#[67,111,110,110,101,99,116,105,111,110,58,32,99,108,111,115,101]⟩,⟨#[67,111,110,116,101,110,116,45,76,101,110,103,116,104,58,32,57,57,57,57,57,57,57,57,57,57,57,57,57,57,57,57,57,57,57,57]⟩,⟨#[86,58,32,255,128]⟩,⟨#[84,114,97,110,115,102,101,114,45,69,110,99,111,100,105,110,103,58,32,99,104,117,110,107,101,100,44,32,99,104,117,110,107,101,100]⟩] k hk,λhh=>by
   have h2:=val_at [⟨#[72,111,115,116,32,58,32,97]⟩,⟨#[40,120,58,32,49]⟩,⟨#[110,111,118,97,108,117,101]⟩,⟨#[58,32,110,97,109,101,108,101,115,115]⟩,⟨#[32,102,111,108,100,101,100]⟩,⟨#[9,102,111,108,100,101,100,58,32,116,111,111]⟩,⟨#[86,58,32,97,1,98]⟩,⟨#[84,114,97,110,115,102,101,114,45,69,110,99,111,100,105,110,103,58,32,103,122,105,112]⟩,⟨#[84,114,97,110,115,102,101,114,45,69,110,99,111,100,105,110,103,58,32,103,122,105,112,44,32,99,104,117,110,107,101,100]⟩,⟨#[84,114,97,110,115,102,101,114,45,69,110,99,111,100,105,110,103,58,32,11,99,104,117,110,107,101,100]⟩,⟨#[84,114,97,110,115,102,101,114,45,69,110,99,111,100,105,110,103,58,32,67,104,117,110,107,101,100]⟩,⟨#[67,111,110,116,101,110,116,45,76,101,110,103,116,104,58,32,43,51]⟩,⟨#[67,111,110,116,101,110,116,45,76,101,110,103,116,104,58,32,51,44,32,51]⟩,⟨#[67,111,110,116,101,110,116,45,76,101,110,103,116,104,58,32,51]⟩,⟨#[67,111,110,116,101,110,116,45,76,101,110,103,116,104,58,32,48]⟩,⟨#[67,111,110,116,101,110,116,45,76,101,110,103,116,104,58,32,48,51]⟩,⟨#[72,111,115,116,58,32,98]⟩,⟨#[72,111,115,116,58,32,97,58,57,57,57,57,57]⟩,⟨#[67,111,110,110,101,99,116,105,111,110,58,32,99,108,111,115,101]⟩,⟨#[67,111,110,116,101,110,116,45,76,101,110,103,116,104,58,32,57,57,57,57,57,57,57,57,57,57,57,57,57,57,57,57,57,57,57,57]⟩,⟨#[86,58,32,255,128]⟩,⟨#[84,114,97,110,115,102,101,114,45,69,110,99,111,100,105,110,103,58,32,99,104,117,110,107,101,100,44,32,99,104,117,110,107,101,100]⟩] k hk
   exact h2⟩
theorem end3_at (k:Nat) (hk:k<5):∃X:ByteArray,X.size<=2/\(∀w:World,(w.alloc (.cells #[ZY ⟨#[13,10]⟩,ZY ⟨#[13,10]⟩,ZY ⟨#[]⟩,ZY ⟨#[10]⟩,ZY ⟨#[13]⟩] 9)).cell? ⟨w.heap.size,k,none⟩=some (ZY X))/\∀hh,([ZY ⟨#[13,10]⟩,ZY ⟨#[13,10]⟩,ZY ⟨#[]⟩,ZY ⟨#[10]⟩,ZY ⟨#[13]⟩]:List Value)[k]'hh=ZY X:=
 ⟨_,size_at [⟨#[13,10]⟩,⟨#[13,10]⟩,⟨#[]⟩,⟨#[10]⟩,⟨#[13]⟩] 2 (by decide) k hk,λw=>strs_at w 9 [⟨#[13,10]⟩,⟨#[13,10]⟩,⟨#[]⟩,⟨#[10]⟩,⟨#[13]⟩] k hk,λhh=>by
   have h2:=val_at [⟨#[13,10]⟩,⟨#[13,10]⟩,⟨#[]⟩,⟨#[10]⟩,⟨#[13]⟩] k hk
   exact h2⟩
theorem tr_at (k:Nat) (hk:k<4):∃X:ByteArray,X.size<=10/\(∀w:World,(w.alloc (.cells #[ZY ⟨#[]⟩,ZY ⟨#[84,58,32,117,13,10]⟩,ZY ⟨#[98,97,100,13,10]⟩,ZY ⟨#[84,58,32,117,13,10,32,119,13,10]⟩] 9)).cell? ⟨w.heap.size,k,none⟩=some (ZY X))/\∀hh,([ZY ⟨#[]⟩,ZY ⟨#[84,58,32,117,13,10]⟩,ZY ⟨#[98,97,100,13,10]⟩,ZY ⟨#[84,58,32,117,13,10,32,119,13,10]⟩]:List Value)[k]'hh=ZY X:=
 ⟨_,size_at [⟨#[]⟩,⟨#[84,58,32,117,13,10]⟩,⟨#[98,97,100,13,10]⟩,⟨#[84,58,32,117,13,10,32,119,13,10]⟩] 10 (by decide) k hk,λw=>strs_at w 9 [⟨#[]⟩,⟨#[84,58,32,117,13,10]⟩,⟨#[98,97,100,13,10]⟩,⟨#[84,58,32,117,13,10,32,119,13,10]⟩] k hk,λhh=>by
   have h2:=val_at [⟨#[]⟩,⟨#[84,58,32,117,13,10]⟩,⟨#[98,97,100,13,10]⟩,⟨#[84,58,32,117,13,10,32,119,13,10]⟩] k hk
   exact h2⟩
theorem host_at (k:Nat) (hk:k<4):∃X:ByteArray,X.size<=8/\(∀w:World,(w.alloc (.cells #[ZY ⟨#[104,46,111,114,103]⟩,ZY ⟨#[97]⟩,ZY ⟨#[104,46,111,114,103,58,56,48]⟩,ZY ⟨#[120,46,121]⟩] 9)).cell? ⟨w.heap.size,k,none⟩=some (ZY X))/\∀hh,([ZY ⟨#[104,46,111,114,103]⟩,ZY ⟨#[97]⟩,ZY ⟨#[104,46,111,114,103,58,56,48]⟩,ZY ⟨#[120,46,121]⟩]:List Value)[k]'hh=ZY X:=
 ⟨_,size_at [⟨#[104,46,111,114,103]⟩,⟨#[97]⟩,⟨#[104,46,111,114,103,58,56,48]⟩,⟨#[120,46,121]⟩] 8 (by decide) k hk,λw=>strs_at w 9 [⟨#[104,46,111,114,103]⟩,⟨#[97]⟩,⟨#[104,46,111,114,103,58,56,48]⟩,⟨#[120,46,121]⟩] k hk,λhh=>by
   have h2:=val_at [⟨#[104,46,111,114,103]⟩,⟨#[97]⟩,⟨#[104,46,111,114,103,58,56,48]⟩,⟨#[120,46,121]⟩] k hk
   exact h2⟩
section
set_option maxHeartbeats 4000000
set_option maxRecDepth 10000
attribute [local go_sem] Am
theorem end_any (a:Nat) (ha:a<256) (w:World):Calls EW 108 #[ZZ ZR a] w λe w'=>(∃L:ByteArray,e=.returned (ZY L)/\L.size<=3)/\Below w.heap.size w w':=by
 obtain ⟨u,hu⟩:∃u,a%4=u:=⟨_,rfl⟩;have iu:(a:Int)%4=(u:Int):=by omega
 have lu:u<4:=by omega
 clear hu;obtain ⟨X1,z1,c1,d1⟩:=ends_at u lu;rcases Dg a 235 with h | h;all_goals
  go_enter Tryz.func108,Tryz.ntmps108;go_wp2_with fail;all_goals
   go_ret;refine ⟨⟨_,rfl,?_⟩,?_⟩
   ·first | exact z1 | decide
   ·repeat (first | exact An _ _ | with_reducible refine Below.alloc ?_ ?_ _)
    all_goals (simp;try omega)
theorem field_any (a b:Nat) (ha:a<256) (hb:b<256) (w:World):Calls EW 109 #[ZZ ZR a,ZZ ZR b] w λe w'=>(∃L:ByteArray,e=.returned (ZY L)/\L.size<=46)/\Below w.heap.size w w':=by
 obtain ⟨u,hu⟩:∃u,b%16=u:=⟨_,rfl⟩;obtain ⟨v,hv⟩:∃v,b%22=v:=⟨_,rfl⟩;have iu:(b:Int)%16=(u:Int):=by omega
 have iv:(b:Int)%22=(v:Int):=by omega
 have ju:Int.tmod (b:Int) 16=(u:Int):=by rw [Int.tmod_eq_emod_of_nonneg (by omega)];exact iu
 have jv:Int.tmod (b:Int) 22=(v:Int):=by rw [Int.tmod_eq_emod_of_nonneg (by omega)];exact iv
 have lu:u<16:=by omega
 have lv:v<22:=by omega
 clear hu hv;obtain ⟨X1,z1,c1,d1⟩:=good_at u lu;obtain ⟨X2,z2,c2,d2⟩:=odd_at v lv;rcases Dg a 150 with h | h;all_goals
  go_enter Tryz.func109,Tryz.ntmps109;go_wp2_with fail;all_goals
   go_ret;refine ⟨⟨_,rfl,?_⟩,?_⟩
   ·first |(exact Dd z1 (by decide)) |(exact Dd z2 (by decide))
   ·repeat (first | exact An _ _ | with_reducible refine Below.alloc ?_ ?_ _)
    all_goals (simp;try omega)
end
end Go.Proofs.YtdfabddnpgjepaaGreatDoor.Rq
namespace Go.Proofs.YtdfabddnpgjepaaGreatDoor.Rq
open Go.RowKit Base Txt
section
set_option maxHeartbeats 4000000
set_option maxRecDepth 10000
attribute [local go_sem] Am
theorem spell_len:∀k:Fin 20,(Num.str (Num.spell 10 k.val)).size<=2/\(Num.str (Num.spell 16 k.val)).size<=2:=by decide +kernel
theorem below_drew1 {n:Nat} {w w':World} (h:Below n w w'):Below n w w'.drew:=Ak h 1
theorem size9_at (E:ByteArray) (he:E.size<=40) (k:Nat) (hk:k<9):∃X:ByteArray,X.size<=40/\(∀w:World,(w.alloc (.cells #[ZY ⟨#[51]⟩,ZY ⟨#[48,120,51]⟩,ZY ⟨#[32,51]⟩,ZY ⟨#[51,59,97,61,98]⟩,ZY ⟨#[51,32,59,120]⟩,ZY ⟨#[48,51]⟩,ZY ⟨#[51,9]⟩,ZY ⟨#[103]⟩,ZY E] 9)).cell? ⟨w.heap.size,k,none⟩=some (ZY X))/\∀hh,([ZY ⟨#[51]⟩,ZY ⟨#[48,120,51]⟩,ZY ⟨#[32,51]⟩,ZY ⟨#[51,59,97,61,98]⟩,ZY ⟨#[51,32,59,120]⟩,ZY ⟨#[48,51]⟩,ZY ⟨#[51,9]⟩,ZY ⟨#[103]⟩,ZY E]:List Value)[k]'hh=ZY X:=
 ⟨_,size_at [⟨#[51]⟩,⟨#[48,120,51]⟩,⟨#[32,51]⟩,⟨#[51,59,97,61,98]⟩,⟨#[51,32,59,120]⟩,⟨#[48,51]⟩,⟨#[51,9]⟩,⟨#[103]⟩,E] 40 (by simp only [List.all_cons,List.all_nil,Bool.and_true,Ao,decide_eq_true_eq];exact ⟨by decide,by decide,by decide,by decide,by decide,by decide,by decide,by decide,he⟩) k hk,λw=>strs_at w 9 [⟨#[51]⟩,⟨#[48,120,51]⟩,⟨#[32,51]⟩,⟨#[51,59,97,61,98]⟩,⟨#[51,32,59,120]⟩,⟨#[48,51]⟩,⟨#[51,9]⟩,⟨#[103]⟩,E] k hk,λhh=>by
   have h2:=val_at [⟨#[51]⟩,⟨#[48,120,51]⟩,⟨#[32,51]⟩,⟨#[51,59,97,61,98]⟩,⟨#[51,32,59,120]⟩,⟨#[48,51]⟩,⟨#[51,9]⟩,⟨#[103]⟩,E] k hk
   exact h2⟩
theorem body_any (a n c:Nat) (ha:a<256) (hn:n<256) (hc:c<256) (w:World):Calls EW 110 #[ZZ ZR a,ZZ ZR n,ZZ ZR c] w λe w'=>(∃L M:ByteArray,e=.returned (ZT #[ZY L,ZY M])/\L.size<=60/\M.size<=100)/\Below w.heap.size w w':=by
 obtain ⟨v,hv⟩:∃v,n%20=v:=⟨_,rfl⟩;obtain ⟨y,hy⟩:∃y,c%9=y:=⟨_,rfl⟩;obtain ⟨z,hz⟩:∃z,n%5=z:=⟨_,rfl⟩;obtain ⟨x,hx⟩:∃x,n/5%4=x:=⟨_,rfl⟩;have iv:(n:Int)%20=(v:Int):=by omega
 have iy:(c:Int)%9=(y:Int):=by omega
 have iz:(n:Int)%5=(z:Int):=by omega
 have ix:(n:Int)/5%4=(x:Int):=by omega
 have lv:v<20:=by omega
 have ly:y<9:=by omega
 have lz:z<5:=by omega
 have lx:x<4:=by omega
 clear hv hy hz hx;have es:(ByteArray.extract ⟨#[48,49,50,51,52,53,54,55,56,57,97,98,99,100,101,102,103,104,105,106,107,108,109,110,111,112]⟩ 0 v).size=v:=by rw [ByteArray.size_extract];show min v 26-0=v;omega
 obtain ⟨S,hS⟩:∃S,ByteArray.extract ⟨#[48,49,50,51,52,53,54,55,56,57,97,98,99,100,101,102,103,104,105,106,107,108,109,110,111,112]⟩ 0 v=S:=⟨_,rfl⟩;rw [hS] at es
 have HP:=Bx (λw=>Num.rput_any (v:Int) w (by omega) (by omega))
 have HX:=Bx (λw=>Num.rputHex_any (v:Int) w (by omega) (by omega));have l1:=(spell_len ⟨v,lv⟩).1;have l2:=(spell_len ⟨v,lv⟩).2;simp only [Int.toNat_natCast] at HP HX l1 l2;generalize Num.str (Num.spell 10 v)=D1 at *;generalize Num.str (Num.spell 16 v)=D2 at *
 have HE:=Bx (λw=>end_any c hc w);obtain ⟨X1,z1,c1,d1⟩:=size9_at (⟨#[51,59]⟩++S++S) (by rw [A9,A9,es];show 2+v+v<=40;omega) y ly;obtain ⟨X2,z2,c2,d2⟩:=end3_at z lz;obtain ⟨X3,z3,c3,d3⟩:=tr_at x lx;have hb6:a%6=0∨a%6=1∨a%6=2∨a%6=3∨a%6=4∨a%6=5:=by omega
 have c1':=λw:World=>c1 (w.drewN 1);rcases hb6 with h | h | h | h | h | h
 rotate_left 3
 ·have ih:(a:Int)%6=3:=by omega
  clear h;go_enter Tryz.func110,Tryz.ntmps110;go_upto_region 13 with fail
  go_region;all_goals
   go_wp2_with fail;go_ret2;refine ⟨⟨_,_,rfl,?_,?_⟩,?_⟩
   ·decide
   ·simp only [A9,len_mk,List.length_cons,List.length_nil];omega
   ·repeat (first | exact An _ _ | with_reducible refine Below.alloc ?_ ?_ _ | with_reducible refine below_drew1 ?_)
    all_goals (try simp)
    all_goals (try omega)
 all_goals
  have ih:(a:Int)%6=((a%6:Nat):Int):=by omega
  rw [h] at ih;go_enter Tryz.func110,Tryz.ntmps110;clear h
  go_wp2_with (first
   |(go_at_call 108;with_reducible refine (HE.out _).mono ?_;rintro e w2 ⟨⟨E1,rfl,e1⟩,hb2⟩;have HB2:=Bx hb2;clear hb2)
   |(go_at_call 103;with_reducible refine (HP.out _).mono ?_;rintro e w3 ⟨rfl,m3,hw⟩;rw [hw];clear hw)
   |(go_at_call 140;with_reducible refine (HX.out _).mono ?_;rintro e w4 ⟨rfl,m4,hw⟩;rw [hw];clear hw))
  all_goals
   go_ret2;refine ⟨⟨_,_,rfl,?_,?_⟩,?_⟩
   ·first | decide |(simp only [A9,len_mk,List.length_cons,List.length_nil];omega)
   ·first | decide | omega |(simp only [A9,len_mk,List.length_cons,List.length_nil];omega)
   ·first
     | exact An _ _
     | exact HB2.out
     | exact Ak HB2.out _
     | exact Al (Ak (An _ _) _) HB2.out
     | exact Ak (Al (Ak (An _ _) _) HB2.out) _
end
end Go.Proofs.YtdfabddnpgjepaaGreatDoor.Rq
namespace Go.Proofs.YtdfabddnpgjepaaGreatDoor.Rq
open Go.RowKit Base Txt Rec
section
set_option maxHeartbeats 8000000
set_option maxRecDepth 20000
attribute [local go_sem] Am
theorem byte_lt (x:Int):(x%256).toNat<256:=by omega
theorem byte_cast (x:Int):(((x%256).toNat:Nat):Int)=x%256:=by omega
theorem at_any (a:Option Addr) (n cap:Nat) (zs:List Int) (g:Nat) (hn:n<=1000000):∃G:Int->Nat,(∀i,G i<256)/\∀(w:World) (i:Int),w.cell? ⟨g,0,none⟩=some (.slice a n cap)->Nums .u8 w a n zs->0<=i->i<=1000000->
 Calls EW 106 #[ZZ ZS i,ZV (some ⟨g,0,none⟩)] w λe w'=>e=.returned (ZZ ZR (G i:Nat))/\∃q,w'=w.drewN q:=by
 rcases CZ n with hz | hp
 ·refine ⟨λi=>(i%256).toNat,λi=>byte_lt _,λw i hc hv h0 h1=>?_⟩;subst hz;have e:(((i%256).toNat:Nat):Int)=i%256:=byte_cast _;rw [e];go_enter Tryz.func106,Tryz.ntmps106;go_wp2;go_ret;exact ⟨rfl,0,rfl⟩
 ·refine ⟨λi=>((zs[i.toNat%n]?.getD 0+wrap64 (wrap64 (Int.tdiv i n)*37)%256)%256).toNat,λi=>byte_lt _,λw i hc hv h0 h1=>?_⟩;have e:((((zs[i.toNat%n]?.getD 0+wrap64 (wrap64 (Int.tdiv i n)*37)%256)%256).toNat:Nat):Int)=(zs[i.toNat%n]?.getD 0+wrap64 (wrap64 (Int.tdiv i n)*37)%256)%256:=byte_cast _;rw [e];clear e h1;obtain ⟨b,off,rfl,hb,hcs⟩:=hv.2 hp;obtain ⟨j,hj,hjm,_⟩:∃j:Nat,j<n/\Int.tmod i (n:Int)=(j:Int)/\i.toNat%n=j:=by
   refine ⟨i.toNat%n,Nat.mod_lt _ hp,?_,rfl⟩;rw [Int.tmod_eq_emod_of_nonneg h0,Int.natCast_emod,Int.toNat_of_nonneg h0]
  rename_i hjn;rw [hjn];obtain ⟨d,hd⟩:∃d:Int,Int.tdiv i (n:Int)=d:=⟨_,rfl⟩;rw [hd];have hck:=hcs j hj;generalize zs[j]?.getD 0=z at *;have t0:((n:Int)==0)=false:=by rw [beq_eq_false_iff_ne];omega
  have t1:¬(n:Int)=0:=by omega
  clear hcs hv hjn h0;go_enter Tryz.func106,Tryz.ntmps106;go_wp2_with fail
  go_quiet (fail);rename_i nq;go_wp2;go_ret;exact ⟨rfl,nq,rfl⟩
theorem request_any (a:Option Addr) (n cap:Nat) (zs:List Int) (w:World) (hv:Nums .u8 w a n zs) (hn:n<=1000000) :
 Calls EW 65 #[.slice a n cap] w λe w'=>(∃L:ByteArray,e=.returned (ZY L)/\L.size<=500)/\Below w.heap.size w w':=by
 have eg:∀args w,(callFunc 106 args).run EW w=.ok (.enter 106 args) w:=enters_of Tryz.func106 (by kernel_rfl) rfl;obtain ⟨G,hG,hat⟩:=at_any a n cap zs w.heap.size hn;have HAT:Hid (∀(w1:World) (i:Int),Below w.heap.size w w1/\Bk w1 w.heap.size [.slice a n cap]->0<=i->i<=1000000->Calls EW 106 #[ZZ ZS i,ZV (some ⟨w.heap.size,0,none⟩)] w1 λe w'=>e=.returned (ZZ ZR (G i:Nat))/\∃q,w'=w1.drewN q):=
  Bx (λw1 i hb h0 h1=>hat w1 i (hb.2.c 0 _ rfl) (hv.below hb.1) h0 h1)
 have HG:=Bx hG;have hb0:Below w.heap.size w (w.alloc (.cells #[.slice a n cap] 22)):=(An _ _).alloc (Db _) _
 have HC:=Bx (show Below w.heap.size w (w.alloc (.cells #[.slice a n cap] 22))/\Bk (w.alloc (.cells #[.slice a n cap] 22)) w.heap.size [.slice a n cap] from ⟨hb0,Bk.new w _ rfl 22 [.slice a n cap]⟩);clear hv hat hb0 hG;obtain ⟨u,hu⟩:∃u,G 4%4=u:=⟨_,rfl⟩;have iu:((G 4:Nat):Int)%4=(u:Int):=by omega
 have lu:u<4:=by omega
 clear hu;obtain ⟨X1,z1,c1,d1⟩:=host_at u lu;obtain ⟨t,ht⟩:∃t,G 5%4=t:=⟨_,rfl⟩;have it:((G 5:Nat):Int)%4=(t:Int):=by omega
 have lt:t<4:=by omega
 clear ht;have h0:250<G 0∨G 0<=250:=by omega
 have h4:G 4<235∨235<=G 4:=by omega
 go_enter Tryz.func65,Tryz.ntmps65;go_upto_if 11 with
  (go_at_fn 106;with_reducible refine (HAT.out _ _ HC.out (by first | decide | omega) (by first | decide | omega)).mono ?_;rintro e wn ⟨rfl,qn,hwn⟩
   replace HC:=Bx (show Below w.heap.size w wn/\Bk wn w.heap.size [.slice a n cap] by rw [hwn];exact ⟨Ak HC.out.1 qn,HC.out.2.below (Ak (An _ _) qn)⟩)
   clear hwn)
 go_cut [4] from 12 to 13 (λv wx=>∃S:ByteArray,v=ZY S/\S.size<=2/\Hid (Below w.heap.size w wx/\Bk wx w.heap.size [.slice a n cap]))
 case first=>
  rcases h0 with h0 | h0;all_goals
   go_wp2_with fail;go_meet
   case rel=>exact ⟨_,rfl,by decide,HC⟩
 case rest=>
  obtain ⟨S0,rfl,hS0,HC2⟩:=hcut
  replace HC:=HC2
  clear HC2 h0
  go_upto_if 25 with (first
   |(go_at_fn 106;with_reducible refine (HAT.out _ _ HC.out (by first | decide | omega) (by first | decide | omega)).mono ?_;rintro e wn ⟨rfl,qn,hwn⟩
     replace HC:=Bx (show Below w.heap.size w wn/\Bk wn w.heap.size [.slice a n cap] by rw [hwn];exact ⟨Ak HC.out.1 qn,HC.out.2.below (Ak (An _ _) qn)⟩)
     clear hwn)
   |(go_at_call 107;with_reducible refine (line_any _ _ (HG.out _) (HG.out _) _).mono ?_;rintro e wn ⟨⟨Tn,rfl,tn⟩,hbn⟩
     replace HC:=Bx (show Below w.heap.size w wn/\Bk wn w.heap.size [.slice a n cap] from ⟨Al HC.out.1 hbn,HC.out.2.below hbn⟩)
     clear hbn)
   |(go_at_call 108;with_reducible refine (end_any _ (HG.out _) _).mono ?_;rintro e wn ⟨⟨En,rfl,en⟩,hbn⟩
     replace HC:=Bx (show Below w.heap.size w wn/\Bk wn w.heap.size [.slice a n cap] from ⟨Al HC.out.1 hbn,HC.out.2.below hbn⟩)
     clear hbn))
  obtain ⟨S1,hS1⟩:∃S,S0++Tn++En=S:=⟨_,rfl⟩;have hz1:S1.size<=65:=by rw [←hS1,A9,A9];omega
  rw [hS1];clear hS1 tn en hS0;obtain ⟨WX,hWX⟩:∃x,x=wn:=⟨_,rfl⟩;subst hWX
  go_cut [4] from 25 to 36 (λv wx=>∃S:ByteArray,v=ZY S/\S.size<=100/\Hid (Below w.heap.size w wx/\Bk wx w.heap.size [.slice a n cap]))
  case first=>
   rcases h4 with h4 | h4
   ·have hb9:Below w.heap.size w (WX.alloc (.cells #[ZY ⟨#[104,46,111,114,103]⟩,ZY ⟨#[97]⟩,ZY ⟨#[104,46,111,114,103,58,56,48]⟩,ZY ⟨#[120,46,121]⟩] 9)):=HC.out.1.alloc HC.out.1.size _
    have hk9:Bk (WX.alloc (.cells #[ZY ⟨#[104,46,111,114,103]⟩,ZY ⟨#[97]⟩,ZY ⟨#[104,46,111,114,103,58,56,48]⟩,ZY ⟨#[120,46,121]⟩] 9)) w.heap.size [.slice a n cap]:=HC.out.2.below ((An _ _).alloc (Db _) _)
    have HAL:=Bx (HAT.out _ 4 ⟨hb9,hk9⟩ (by decide) (by decide));have HB9:=Bx hb9;have HK9:=Bx hk9;have c1w:=c1 WX;clear hb9 hk9 c1;go_wp2_with
     (go_at_fn 106;with_reducible refine HAL.out.mono ?_;rintro e wm ⟨rfl,qn,hwn⟩
      have c1':wm.cell? ⟨WX.heap.size,u,none⟩=some (ZY X1):=by rw [hwn];exact c1w
      replace HC:=Bx (show Below w.heap.size w wm/\Bk wm w.heap.size [.slice a n cap] by rw [hwn];exact ⟨Ak HB9.out qn,HK9.out.below (Ak (An _ _) qn)⟩)
      clear hwn)
    go_meet
    case rel=>exact ⟨_,rfl,(by simp only [A9,len_mk,List.length_cons,List.length_nil];omega),HC⟩
   ·go_wp2_with fail;go_meet
    case rel=>exact ⟨_,rfl,by omega,HC⟩
  case rest=>
   obtain ⟨S2,rfl,hS2,HC2⟩:=hcut
   replace HC:=HC2
   clear HC2 h4 hz1 c1 d1 z1 iu lu;go_upto_region 9 with fail
   go_loopw [4,5] (λv i wr=>∃(k:Nat) (S:ByteArray),k<=t/\i=ZZ ZS k/\v=ZY S/\S.size<=100+60*k/\Hid (Below w.heap.size w wr/\Bk wr w.heap.size [.slice a n cap])) (λ_ i _=>t-(intOf i).toNat)
   case atStart=>exact ⟨0,_,Dj _,rfl,rfl,by omega,HC⟩
   case round=>
    obtain ⟨k,S,hk,rfl,rfl,hS,hR⟩:=hrel
    replace HC:=hR
    clear hR hS2;rcases Dg k t with hlt | hge
    ·have hk4:k<4:=by omega
     have HS:=Bx hS;have HLT:=Bx hlt;have hs9:S.size<=400:=by omega
     have tlt:(k:Int)<(t:Int):=by omega
     clear hS hlt lt hk
     go_wp2_with (first
      |(go_at_fn 106;with_reducible refine (HAT.out _ _ HC.out (by first | decide | omega) (by first | decide | omega)).mono ?_;rintro e wn ⟨rfl,qn,hwn⟩
        replace HC:=Bx (show Below w.heap.size w wn/\Bk wn w.heap.size [.slice a n cap] by rw [hwn];exact ⟨Ak HC.out.1 qn,HC.out.2.below (Ak (An _ _) qn)⟩)
        clear hwn)
      |(go_at_call 109;with_reducible refine (field_any _ _ (HG.out _) (HG.out _) _).mono ?_;rintro e wn ⟨⟨Fq,rfl,fq⟩,hbn⟩
        replace HC:=Bx (show Below w.heap.size w wn/\Bk wn w.heap.size [.slice a n cap] from ⟨Al HC.out.1 hbn,HC.out.2.below hbn⟩)
        clear hbn)
      |(go_at_call 108;with_reducible refine (end_any _ (HG.out _) _).mono ?_;rintro e wn ⟨⟨En,rfl,en⟩,hbn⟩
        replace HC:=Bx (show Below w.heap.size w wn/\Bk wn w.heap.size [.slice a n cap] from ⟨Al HC.out.1 hbn,HC.out.2.below hbn⟩)
        clear hbn))
     go_roundw
     case rel=>exact ⟨k+1,_,(by have:=HLT.out;omega),by go_num,rfl,(by have:=HS.out;simp only [A9];omega),HC⟩
     case measure=>have:=HLT.out;simp [intOf];omega
    ·obtain rfl:k=t:=by omega
     have tlt:¬(k:Int)<(k:Int):=by omega
     have hs9:S.size<=300:=by omega
     clear hS lt hk hge
     go_wp2_with (first
      |(go_at_fn 106;with_reducible refine (HAT.out _ _ HC.out (by first | decide | omega) (by first | decide | omega)).mono ?_;rintro e wn ⟨rfl,qn,hwn⟩
        replace HC:=Bx (show Below w.heap.size w wn/\Bk wn w.heap.size [.slice a n cap] by rw [hwn];exact ⟨Ak HC.out.1 qn,HC.out.2.below (Ak (An _ _) qn)⟩)
        clear hwn)
      |(go_at_call 108;with_reducible refine (end_any _ (HG.out _) _).mono ?_;rintro e wn ⟨⟨En,rfl,en⟩,hbn⟩
        replace HC:=Bx (show Below w.heap.size w wn/\Bk wn w.heap.size [.slice a n cap] from ⟨Al HC.out.1 hbn,HC.out.2.below hbn⟩)
        clear hbn)
      |(go_at_call 110;with_reducible refine (body_any _ _ _ (HG.out _) (HG.out _) (HG.out _) _).mono ?_;rintro e wn ⟨⟨Ln,Mn,rfl,ln,mn⟩,hbn⟩
        replace HC:=Bx (show Below w.heap.size w wn/\Bk wn w.heap.size [.slice a n cap] from ⟨Al HC.out.1 hbn,HC.out.2.below hbn⟩)
        clear hbn))
     go_ret;refine ⟨⟨_,rfl,?_⟩,HC.out.1⟩;simp only [A9];omega
end
end Go.Proofs.YtdfabddnpgjepaaGreatDoor.Rq
namespace Go.Proofs.YtdfabddnpgjepaaGreatDoor.Rq
open Go.RowKit Base Txt
section
set_option maxHeartbeats 4000000
set_option maxRecDepth 20000
attribute [local go_sem] Am
theorem conv_cap (s:ByteArray) (w:World):∃W cap,(convert 9 22 (.string s)).run EW w=.ok (.slice (some ⟨w.heap.size,0,none⟩) s.size cap) W/\s.size<=cap/\By.Bytes W w.heap.size s.data.toList/\w.heap.size<W.heap.size/\Below w.heap.size w W:=by have hcv:=run_bytes_of_string (P:=EW) w 9 22 5 s F8 F0 F7;obtain ⟨W,cap,h1,h2,h3,h4⟩:=By.conv_bytes s w;have e:=h1.symm.trans hcv;simp only [Result.ok.injEq,Value.slice.injEq,true_and] at e;exact ⟨W,cap,h1,by rw [e.1];exact grownCap_ge _ _ _ _,h2,h3,h4⟩
theorem nums_cut {w:World} {b off n:Nat} {zs:List Int} (h:Nums .u8 w (some ⟨b,off,none⟩) n zs) (i m:Nat) (hm:i+m<=n):Nums .u8 w (some ⟨b,off+i,none⟩) m ((zs.drop i).take m):=by
 refine ⟨by rw [C0,Cu,h.1];omega,λh0=>?_⟩
 obtain ⟨b0,o0,e,hlt,hc⟩:=h.2 (by omega);cases e;refine ⟨b,off+i,rfl,hlt,λk hk=>?_⟩
 have:=hc (i+k) (by omega);rw [show off+i+k=off+(i+k) by omega,this];simp [List.getElem?_drop,hk]
theorem stream_any (a:Option Addr) (n cap:Nat) (zs:List Int) (w:World) (hv:Nums .u8 w a n zs) (hn:n<=40) (hc:n<=cap) :
 Calls EW 13 #[.slice a n cap] w λe w'=>∃(g:Nat) (s:List UInt8) (c:Nat),e=.returned (ZX (some ⟨g,0,none⟩) s.length c)/\s.length<=c/\s.length<=2500/\w.heap.size<=g/\g<w'.heap.size/\By.Bytes w' g s/\Below w.heap.size w w':=by
 have HV:=Bx hv;clear hv;go_enter Tryz.func13,Tryz.ntmps13;go_upto_region 3 with fail
 go_loopw [3,4] (λv i wr=>∃(j:Nat) (S:ByteArray),j<=4/\i=ZZ ZS ((10*j:Nat):Int)/\v=ZY S/\S.size<=500*j/\Hid (Below w.heap.size w wr)) (λ_ i _=>50-(intOf i).toNat)
 case atStart=>exact ⟨0,⟨#[]⟩,by omega,rfl,rfl,by decide,Bx (An _ _)⟩
 case round=>
  obtain ⟨j,S,hj,rfl,rfl,hS,hR⟩:=hrel;obtain ⟨q,hq⟩:∃q,10*j=q:=⟨_,rfl⟩;rw [hq]
  have HS:=Bx hS;have HJ:=Bx (And.intro hj hq);have hs9:S.size<=2000:=by omega
  have hq4:q<=40:=by omega
  by_cases hlt:q<n
  ·have hq40:q<40:=by omega
   have t1:(q:Int)<(n:Int):=by omega
   have t2:(q:Int)<40:=by omega
   obtain ⟨m,hm⟩:∃m,min (q+10) n=m:=⟨_,rfl⟩;have hm1:q<=m/\m<=n/\m<=q+10:=by omega
   have im:min ((q:Int)+10) (n:Int)=(m:Int):=by omega
   obtain ⟨b,off,rfl,hb, -⟩:=HV.out.2 (by omega)
   have hcu:=nums_cut HV.out q (m-q) (by omega)
   have HRQ:=Bx (request_any (some ⟨b,off+q,none⟩) (m-q) (cap-q) _ wr (hcu.below hR.out) (by omega));have c2:q<=m:=hm1.1;have c3:m<=cap:=by omega
   clear hm hcu hS hj hq hb hm1
   go_wp2_with (go_at_call 65;with_reducible refine HRQ.out.mono ?_;rintro e w2 ⟨⟨L,rfl,hl⟩,hb2⟩);go_roundw
   case rel=>obtain ⟨hj,hq⟩:=HJ.out;exact ⟨j+1,_,by omega,by subst hq;go_num,rfl,(by have:=HS.out;simp only [A9];omega),Bx (Al hR.out hb2)⟩
   case measure=>simp [intOf];omega
  ·have t1:¬(q:Int)<(n:Int):=by omega
   obtain ⟨W5,cap5,hcv,hcap5,hby,hlt5,hb5⟩:=conv_cap S wr
   have HF:=Bx (And.intro hcap5 (And.intro hby (And.intro hlt5 (Al hR.out hb5))));clear hcap5 hby hlt5 hb5 hS hj hq;go_wp2_with fail;go_ret;obtain ⟨f1,f2,f3,f4⟩:=HF.out;exact ⟨wr.heap.size,S.data.toList,cap5,(by rw [Txt.len];rfl),by rw [Txt.len];exact f1,by rw [Txt.len];omega,hR.out.size,f3,f2,f4⟩
end
end Go.Proofs.YtdfabddnpgjepaaGreatDoor.Rq
namespace Go.Proofs.YtdfabddnpgjepaaGreatDoor.Flt
open Go.RowKit Base Txt Mem Par Pg Each
theorem seat_bd (k:Nat):∃b:Bd,Seat.seatB k=bdV b/\b.right=true:=by
 refine ⟨⟨if k%6=1 then 64 else if k%6=3 then 80 else 1024,if k%6=1 then 4 else 32,if k%6=1 then 256 else 8192,if k%6=2 then 16 else if k%6=3 then 40 else 65536,if k%6=2 then 0 else 32,if k%6=2 then 0 else 8,((k/32%4:Nat)+1:Int),20,!decide (k%8=7),!decide (12<k%16)⟩,rfl,?_⟩
 have h:k/32%4<4:=Nat.mod_lt _ (by decide);generalize k/32%4=z at *;unfold Bd.right Bnd.right Bnd.inside;simp only [Ao,decide_eq_true_eq];by_cases h1:k%6=1
 ·simp only [h1];simp;omega
 ·by_cases h2:k%6=2
  ·simp only [h2];simp;omega
  ·by_cases h3:k%6=3
   ·simp only [h3];simp;omega
   ·simp only [if_neg h1,if_neg h2,if_neg h3];omega
structure EX (w0 w:World) (B g1 g2 p:Nat) (b:Bd) (t:T) (L1 L2:List (Option Nat)):Prop where
 x:Has B g1 0 b (.live t) w L1
 y:Has B g2 p b (.live (t.wide p)) w L2
 dis:Dis L1 L2
 strict:t.Strict
 ok:t.Ok
 out:t.out= []
 bel:Below B w0 w
section
set_option maxHeartbeats 8000000
set_option maxRecDepth 20000
attribute [local go_sem] Am
end
end Go.Proofs.YtdfabddnpgjepaaGreatDoor.Flt
namespace Go.Proofs.YtdfabddnpgjepaaGreatDoor.Bld
open Go.RowKit
abbrev T:TypeId:=180
abbrev E:TypeId:=5
section
set_option maxHeartbeats 2000000
set_option maxRecDepth 100000
end
end Go.Proofs.YtdfabddnpgjepaaGreatDoor.Bld
namespace Go.Proofs.YtdfabddnpgjepaaGreatDoor.Fd
open Go.RowKit Base Txt Tgt
abbrev lineB (f:Fld):ByteArray:=((f.1 ++⟨#[58,32]⟩)++f.2) ++⟨#[13,10]⟩
section
set_option maxHeartbeats 4000000
set_option maxRecDepth 100000
attribute [local go_sem] Am
end
end Go.Proofs.YtdfabddnpgjepaaGreatDoor.Fd
namespace Go.Proofs.YtdfabddnpgjepaaGreatDoor.Fd
open Go.RowKit Base Txt Tgt
theorem rjoined_eq (v s:ByteArray):(v ++⟨#[32]⟩)++trim s=ba (joined v.data.toList s.data.toList):=ba_ext (by simp only [joined,ByteArray.data_append,Array.toList_append,List.append_assoc];rfl)
section
set_option maxHeartbeats 4000000
set_option maxRecDepth 100000
attribute [local go_sem] Am
theorem rgoes_any (s:ByteArray) (p:Nat) (hp:p<4294967296) (w:World):Calls EW 212 #[ZY s,ZZ ZQ (p:Nat)] w λe w'=>e=.returned (ZW (goes p s.data.toList))/\w'=w:=by
 have HH:=Bx (λw=>D4 p hp 13 w);unfold goes;generalize D0 p 13=b at *;rcases CZ s.size with h0 | h0
 ·obtain rfl:s=E0:=ba_ext (List.length_eq_zero_iff.1 (by rw [len];exact h0));cases b;all_goals
   go_enter Tryz.func212,Tryz.ntmps212
   go_wp2_with (go_at_call 44;with_reducible refine Cm (HH.out _) ?_);go_ret;exact ⟨by rfl,rfl⟩
 ·have t0:=first_no s h0
  have HB:=Bx (λw=>Oct.rblank_any (s[0].toNat:Int) w);rw [blank_is] at HB;have e1:(!s.data.toList.isEmpty&&FK (s.data.toList.headD 0))=FK s[0]:=by exact XXpKR
  rw [e1];clear e1;cases b;all_goals
   go_enter Tryz.func212,Tryz.ntmps212
   go_wp2_with (first
    |(go_at_call 44;with_reducible refine Cm (HH.out _) ?_)
    |(go_at_call 136;with_reducible refine Cm (HB.out _) ?_))
   go_ret;exact ⟨by rfl,rfl⟩
theorem rjoin_any (n v s:ByteArray) (w:World) (hs:s.size<=1000000000) (hv:v.size<=1000000000):Calls EW 213 #[fv n v,ZY s] w λe w'=>e=.returned (fv n (ba (joined v.data.toList s.data.toList)))/\Below w.heap.size w w':=by
 have HT:=Bx (λw=>rtrim_any s w (by unfold maxLen;omega));have hT:(trim s).size<=s.size:=trim_size _ _;rw [←rjoined_eq];generalize trim s=T at *;have v1:¬9223372036854775807<v.size+1:=by omega
 have v2:¬9223372036854775807<v.size+1+T.size:=by omega
 go_enter Tryz.func213,Tryz.ntmps213;go_wp2_with fail
 go_region_with (go_at_call 135;with_reducible refine Cm (HT.out _) ?_);all_goals
  go_wp2;exact bodyPost_ret (v:=fv n ((v ++⟨#[32]⟩)++T)) (by simp [results,Tryz.results213,go_sem]) rfl ⟨rfl,Ak (((An _ _).alloc (Db _) _).alloc (by simp) _) 1⟩
end
end Go.Proofs.YtdfabddnpgjepaaGreatDoor.Fd
namespace Go.Proofs.YtdfabddnpgjepaaGreatDoor.Fd
open Go.RowKit Base Txt Tgt
section
set_option maxHeartbeats 4000000
set_option maxRecDepth 100000
attribute [local go_sem] Am
end
end Go.Proofs.YtdfabddnpgjepaaGreatDoor.Fd
namespace Go.Proofs.YtdfabddnpgjepaaGreatDoor.Fd
open Go.RowKit Base Txt Tgt
theorem colon_cases (l:List UInt8):((58:UInt8)∉l/\(cutAt 58 l).2.2=false)∨∃j,∃h:j<l.length,l[j]=58/\(58:UInt8)∉l.take j/\(cutAt 58 l).1=l.take j/\(cutAt 58 l).2.1=l.drop (j+1)/\(cutAt 58 l).2.2=true:=by
 rcases cut_cases 58 l with h | ⟨a,r,rfl,h⟩
 ·exact .inl ⟨h,by rw [cutAt_none 58 l h]⟩
 ·refine .inr ⟨a.length,by simp,by simp,by simpa using h,?_,?_,?_⟩
  ·rw [cutAt_app 58 a r h];simp
  ·rw [cutAt_app 58 a r h];simp
  ·rw [cutAt_app 58 a r h]
def nameAt (t:Nat) (w:World):Nat:=match w.cell? ⟨t,0,none⟩ with
 | some (.string b)=>b.size
 | _=>0
theorem nameAt_of {t:Nat} {w:World} {b:ByteArray} (h:w.cell? ⟨t,0,none⟩=some (ZY b)):nameAt t w=b.size:=by unfold nameAt;rw [h]
theorem Two.set0 {w0 w:World} {n v N V:ByteArray} {t:Nat} (h:Two w0 n v t N V w) (N':ByteArray):Two w0 n v t N' V (w.setCell ⟨t,0,none⟩ (ZY N')):=by
 have h1:=h.k.f.other t 0 (ZY N') h.ne
 have hb:=h.k.b.setCell (p:=⟨t,0,none⟩) h.ge (ZY N');obtain ⟨c0,c1,z0,z1⟩:=h.f;exact ⟨⟨h1,by simpa using h.k.g,hb⟩,⟨by go_simp,by go_simp,by go_simp,by go_simp⟩,h.ne,by simpa using h.lt,h.ge⟩
theorem not_colon (s:ByteArray) (k:Nat) (h:k<s.size) (j:Nat) (hj:k<j) (hn:(58:UInt8)∉s.data.toList.take j):((s[k].toNat:Int)==58)=false:=by
 refine beq_eq_false_iff_ne.2 λe=>hn ?_;have hl:k<s.data.toList.length:=by rw [len];exact h
 have e1:s.data.toList[k]=58:=FM.1 (by show s[k].toNat=58;omega);rw [←e1];rw [List.mem_take_iff_getElem];exact ⟨k,by omega,rfl⟩
theorem last_of (n0:List UInt8) (m:Nat) (h:m<n0.length):∃Nn:ByteArray,ba (n0.take (m+1))=Nn/\Nn.size=m+1/\(∃h2:m<Nn.size,Nn[m]=n0[m])/\Nn.extract 0 m=ba (n0.take m):=by
 have hl:(n0.take (m+1)).length=m+1:=by rw [C0];omega
 refine ⟨_,rfl,by rw [Txt.ba_size];exact hl,⟨by rw [Txt.ba_size];omega,?_⟩,?_⟩
 ·show (n0.take (m+1))[m]'(by omega)=n0[m];rw [List.getElem_take]
 ·exact ba_ext (by
   rw [Bu];show ((n0.take (m+1)).drop 0).take (m-0)=n0.take m;rw [List.drop_zero,List.take_take]
   congr 1;omega)
section
set_option maxHeartbeats 4000000
set_option maxRecDepth 100000
attribute [local go_sem] Am
theorem rparse_none (s:ByteArray) (p:Nat) (hp:p<4294967296) (w:World) (hs:s.size<=1000000000) (hno:(58:UInt8)∉s.data.toList) :
 Calls EW 91 #[ZY s,ZZ ZQ (p:Nat)] w λe w'=>e=.returned (rv (out (D0 p 11)))/\Below w.heap.size w w':=by
 have HH:=Bx (λw=>D4 p hp 11 w);have HNO:=Bx hno;clear hno;obtain ⟨b,hb⟩:∃b,D0 p 11=b:=⟨_,rfl⟩;rw [hb] at HH ⊢;clear hb
 have hW:=Bx (show Below w.heap.size w (w.alloc (.cells #[ZY E0,ZY E0] 126)) from (An _ _).alloc (Db _) _);go_enter Tryz.func91,Tryz.ntmps91;go_wp2
 go_loop [7,8] (λc i=>∃k:Nat,k<=s.size/\c=ZZ ZS (-1)/\i=ZZ ZS k) (λ_ i=>s.size-(intOf i).toNat)
 case atStart=>exact ⟨0,Dj _,rfl,rfl⟩
 case round=>
  obtain ⟨k,hk,rfl,rfl⟩:=hrel;rcases Dg k s.size with hlt | hge
  ·have t1:=not_colon s k hlt (k+1) (by omega) (λh=>HNO.out (List.mem_of_mem_take h));go_wp2;go_round
   case rel=>exact ⟨k+1,by omega,rfl,by go_num⟩
   case measure=>simp [intOf];omega
  ·cases b
   ·go_wp2_with (go_at_call 44;with_reducible refine Cm (HH.out _) ?_);exact bodyPost_ret (v:=ZT #[fv E0 E0,ZW false,ZZ ZS 400]) (by simp [results,Tryz.results91,go_sem]) rfl ⟨rfl,hW.out⟩
   ·go_wp2_with (go_at_call 44;with_reducible refine Cm (HH.out _) ?_);exact bodyPost_ret (v:=ZT #[fv E0 E0,ZW false,ZZ ZS 0]) (by simp [results,Tryz.results91,go_sem]) rfl ⟨rfl,hW.out⟩
theorem XXfct {P:Prop} (h:P:=by exact bodyPost_ret (v:=ZT #[fv E0 E0,ZW false,ZZ ZS 400]) (by simp [results,Tryz.results91,go_sem,r0,r1]) rfl ⟨by first | rfl |(rw [hRv];rfl),hbW⟩):P:=h
theorem XXFaQ {P:Prop} (h:P:=by
 go_wp2_with (go_at_call 44;with_reducible refine Cm (H9.out _) ?_);go_meet
 case rel=>exact HZ):P:=h
theorem rparse_some (s:ByteArray) (p:Nat) (hp:p<4294967296) (w:World) (hs:s.size<=1000000000) (j:Nat) (hj:j<s.size) (hc:s[j]=58) (hno:(58:UInt8)∉s.data.toList.take j) :
 Calls EW 91 #[ZY s,ZZ ZQ (p:Nat)] w λe w'=>e=.returned (rv (read (clOf p) (nameL (clOf p) (s.data.toList.take j)) (trimL FK (s.data.toList.drop (j+1)))))/\Below w.heap.size w w':=by
 have H9:=Bx (λw=>D4 p hp 9 w)
 have H10:=Bx (λw=>D4 p hp 10 w)
 have H12:=Bx (λw=>D4 p hp 12 w)
 have H14:=Bx (λw=>D4 p hp 14 w)
 have e1:s.extract 0 j=ba (s.data.toList.take j):=ba_ext (by rw [Bu];simp [ba])
 have e2:s.extract (j+1) s.size=ba (s.data.toList.drop (j+1)):=ba_ext (by rw [Bu,CN (by rw [Cu,len];omega)];rfl)
 have HT:=Bx (λw=>rtrim_any (s.extract (j+1) s.size) w (by unfold maxLen;rw [ByteArray.size_extract];omega));have hT:trim (s.extract (j+1) s.size)=ba (trimL FK (s.data.toList.drop (j+1))):=by rw [e2];rfl
 rw [hT] at HT
 have hvl:(trimL FK (s.data.toList.drop (j+1))).length<=s.size:=Dd (trimL_length _ _) (by rw [Cu,len];omega);have hnl:(s.data.toList.take j).length=j:=by rw [C0,len];omega
 have E1:=Bx e1;have t0:((s[j].toNat:Int)==58)=true:=by rw [hc];rfl
 have HNC:=Bx (λk (h:k<s.size) (hk:k<j)=>not_colon s k h j hk hno);clear e1 e2 hT hno hc;generalize s.data.toList.take j=n0 at *;generalize trimL FK (s.data.toList.drop (j+1))=v1 at *
 have hW:=Bx (show Below w.heap.size w (w.alloc (.cells #[ZY E0,ZY E0] 126)) from (An _ _).alloc (Db _) _);obtain ⟨R,hR⟩:∃R,rv (read (clOf p) (nameL (clOf p) n0) v1)=R:=⟨_,rfl⟩;rw [hR];have HR0:=Bx hR;clear hR;go_enter Tryz.func91,Tryz.ntmps91;go_upto_block 0 with fail
 go_cut [7,8] from 10 (λc i wx=>c=ZZ ZS (j:Nat)/\wx=w.alloc (.cells #[ZY E0,ZY E0] 126))
 case first=>
  go_wp2_with fail
  go_loop [7,8] (λc i=>(∃k:Nat,k<=j/\c=ZZ ZS (-1)/\i=ZZ ZS k)∨(c=ZZ ZS (j:Nat)/\i=ZZ ZS ((j+1:Nat):Int))) (λ_ i=>s.size-(intOf i).toNat)
  case atStart=>exact .inl ⟨0,Dj _,rfl,rfl⟩
  case round=>
   rcases hrel with ⟨k,hk,rfl,rfl⟩ | ⟨rfl,rfl⟩
   ·have hlt:k<s.size:=by omega
    rcases Dg k j with hkj | hkj
    ·have t1:=HNC.out k hlt hkj;clear t0;go_wp2;go_round
     case rel=>exact .inl ⟨k+1,by omega,rfl,by go_num⟩
     case measure=>simp [intOf];omega
    ·obtain rfl:k=j:=by omega
     go_wp2;go_round
     case rel=>exact .inr ⟨rfl,by go_num⟩
     case measure=>simp [intOf];omega
   ·have q0:¬(j:Int)<0:=by omega
    go_wp2;all_goals
     go_meet
     case rel=>exact ⟨rfl,rfl⟩
 case rest=>
  obtain ⟨rfl,hw0⟩:=hcut;rw [hw0];clear hw0;have q0:¬(j:Int)<0:=by omega
  have q1:(0:Int)<=(j:Int):=by omega
  have q2:(j:Int)<=(s.size:Int):=by omega
  have q3:IntKind.i64.wrap ((j:Int)+1)=((j+1:Nat):Int):=by rw [wrap_in _ (by omega) (by omega)];omega
  have q4:((j+1:Nat):Int)<=(s.size:Int):=by omega
  have q5:(0:Int)<=((j+1:Nat):Int):=by omega
  go_upto_region 11 with fail
  go_cut [9] from 31 (λf wx=>f=ZV (some ⟨w.heap.size+1,0,none⟩)/\wx=((w.alloc (.cells #[ZY E0,ZY E0] 126)).alloc (.cells #[ZY (s.extract 0 j),ZY (ba v1)] 126)).drew)
  case first=>
   go_region_with (go_at_call 135;with_reducible refine Cm (HT.out _) ?_);all_goals
    go_wp2_with fail;go_meet
    case rel=>exact ⟨rfl,rfl⟩
  case rest=>
   obtain ⟨rfl,hw0⟩:=hcut;have hts:(w.alloc (.cells #[ZY E0,ZY E0] 126)).heap.size=w.heap.size+1:=by simp
   have HX:=(Two.new (Keep.new w 126 E0 E0) 126 (s.extract 0 j) (ba v1)).drew 1;rw [hts,E1.out] at HX;rw [E1.out] at hw0
   replace HX:=Bx (show Two w E0 E0 (w.heap.size+1) (ba n0) (ba v1) wc by rw [hw0];exact HX)
   clear hw0 hts hW HT E1 HNC t0 q0 q1 q2 q3 q4 q5;have htz:w.heap.size+1=w.heap.size+1:=rfl;generalize w.heap.size+1=t at *;clear htz;have hnf:∀x,nameL (clOf p) x=if D0 p 9=true then trimEnd x else x:=λ_=>rfl
   obtain ⟨sp,hsp⟩:∃sp,D0 p 9=sp:=⟨_,rfl⟩;rw [hsp] at H9 hnf;clear hsp;have HNF:=Bx hnf;clear hnf;have hn1l:=nameL_le (clOf p) n0;rw [hnl] at hn1l;go_upto_block 2 with fail
   go_cut [] from 40 (λwx=>Hid (Two w E0 E0 t (ba (nameL (clOf p) n0)) (ba v1) wx))
   case first=>
    go_wp2_with fail
    go_loopw [] (λwr=>∃m:Nat,m<=j/\Hid (Two w E0 E0 t (ba (n0.take m)) (ba v1) wr)/\Hid (nameL (clOf p) (n0.take m)=nameL (clOf p) n0)) (λwr=>nameAt t wr)
    case atStart=>exact ⟨j,Db _,Bx (by rw [CN (by omega)];exact HX.out),Bx (by rw [CN (by omega)])⟩
    case round=>
     obtain ⟨m,hm,HY,HR⟩:=hrel;obtain ⟨⟨⟨c0,c1,z0,z1⟩,hg,hbk⟩,⟨d0,d1,y0,y1⟩,hne,hlt,hge⟩:=HY.out;have hna:=nameAt_of d0;clear c0 c1 z0 z1 hg hbk hlt hge;cases sp with
     | false=>
       have HZ:=Bx (show Two w E0 E0 t (ba (nameL (clOf p) n0)) (ba v1) wr by rw [←HR.out,HNF.out,if_neg (by decide)];exact HY.out)
       exact XXFaQ
     | true=>
       rcases m with _ | m
       ·have HZ:=Bx (show Two w E0 E0 t (ba (nameL (clOf p) n0)) (ba v1) wr by
         rw [←HR.out,HNF.out,if_pos rfl];exact HY.out)
        rw [show ba (n0.take 0)=E0 from rfl] at d0;exact XXFaQ
       ·have hml:m<n0.length:=by omega
        have htk:=CO hml;obtain ⟨Nn,hNn,hsz,⟨z2,hat⟩,hex⟩:=last_of n0 m hml;rw [hNn] at d0 hna
        have hno:=first_no Nn (by omega);have HB:Hid (∀w,Calls EW 136 #[ZZ ZR (Nn[m].toNat:Int)] w λe w'=>e=.returned (ZW (FK n0[m]))/\w'=w):=Bx λw=>by
         have:=Oct.rblank_any (Nn[m].toNat:Int) w;rw [blank_is] at this
         rwa [show FK Nn[m]=FK n0[m] from congrArg _ hat] at this
        have z1:IntKind.i64.wrap ((Nn.size:Int)-1)=(m:Int):=by rw [wrap_in _ (by omega) (by omega)];omega
        have z3:(m:Int)<(Nn.size:Int):=by omega
        have z4:(m:Int)<=(Nn.size:Int):=by omega
        have z5:(0:Int)<=(m:Int):=by omega
        cases hb:FK n0[m] with
        | false=>
          rw [hb] at HB
          have HZ:=Bx (show Two w E0 E0 t (ba (nameL (clOf p) n0)) (ba v1) wr by rw [←HR.out,HNF.out,if_pos rfl,htk,trimEnd_stop _ _ hb,←htk];exact HY.out)
          clear hb htk HY HR hex hat hNn
          go_wp2_with (first
           |(go_at_call 44;with_reducible refine Cm (H9.out _) ?_)
           |(go_at_call 136;with_reducible refine Cm (HB.out _) ?_))
          go_meet
          case rel=>exact HZ
        | true=>
          rw [hb] at HB
          have HY2:=Bx (HY.out.set0 (Nn.extract 0 m))
          have HR2:=Bx (show nameL (clOf p) (n0.take m)=nameL (clOf p) n0 by rw [←HR.out,HNF.out,HNF.out,if_pos rfl,if_pos rfl,htk,trimEnd_snoc _ _ hb])
          have HE:=Bx hex;clear hb htk HY HR hex hat hNn
          go_wp2_with (first
           |(go_at_call 44;with_reducible refine Cm (H9.out _) ?_)
           |(go_at_call 136;with_reducible refine Cm (HB.out _) ?_))
          have hd:=HY2.out.f.c0;have hs2:(Nn.extract 0 m).size=m:=by rw [ByteArray.size_extract];omega
          rw [HE.out] at HY2;go_roundw
          case rel=>exact ⟨m,by omega,by first | exact HY2 |(rw [HE.out];exact HY2),HR2⟩
          case measure=>rw [nameAt_of hd,hna];omega
   case rest=>
    clear HX;have HX:=hcut;clear hcut H9 HNF;generalize nameL (clOf p) n0=n1 at *;by_cases hn:n1= []
    ·subst hn;have hRv:R=rv (out (D0 p 12)):=by rw [←HR0.out];rfl
     clear HR0;generalize D0 p 12=nn at *;obtain ⟨⟨⟨c0,c1,z0,z1⟩,hg,hbk⟩,⟨d0,d1,y0,y1⟩,hne,hlt,hge⟩:=HX.out;obtain ⟨W9,hW9,⟨r0,r1,_,_⟩,hbW⟩:=Fb.put HX.out.k.f HX.out.k.b (Db _) E0 E0;rw [show ba []=E0 from rfl] at d0;clear hg hbk hlt hge;cases nn
     ·go_wp2_with (go_at_call 44;with_reducible refine Cm (H12.out _) ?_);try rw [hW9]
      exact XXfct
     ·go_wp2_with (go_at_call 44;with_reducible refine Cm (H12.out _) ?_);try rw [hW9]
      exact bodyPost_ret (v:=ZT #[fv E0 E0,ZW false,ZZ ZS 0]) (by simp [results,Tryz.results91,go_sem,r0,r1]) rfl ⟨by first | rfl |(rw [hRv];rfl),hbW⟩
    ·have t0:=first_no (ba n1) (ba_pos hn)
     have HN:=Bx (λw a (hk:Ints w a 1 [1])=>Oct.rall_any (ba n1) a 1 1 [1] w (by rw [Txt.ba_size];unfold maxLen;omega) hk (by decide))
     have HV:=Bx (λw a (hk:Ints w a 1 [6])=>Oct.rall_any (ba v1) a 1 1 [6] w (by rw [Txt.ba_size];unfold maxLen;omega) hk (by decide));rw [show (ba n1).data.toList=n1 from rfl] at HN;rw [show (ba v1).data.toList=v1 from rfl] at HV;obtain ⟨G,hG⟩:∃G,(!(goodN (clOf p) n1&&goodV (clOf p) v1))=G:=⟨_,rfl⟩
     have HG:=Bx (show G= !((D0 p 10||Dl [1] n1)&&(D0 p 14||Dl [6] v1)) from hG.symm)
     have HRv:=Bx (show R=if G=true then rv none else rv (some (some (n1,v1))) by rw [←HR0.out,←hG];unfold read;rw [if_neg hn];cases (goodN (clOf p) n1&&goodV (clOf p) v1)<;>rfl)
     have HF:Hid (rv (some (some (n1,v1)))=ZT #[fv (ba n1) (ba v1),ZW true,ZZ ZS 0]):=Bx rfl;clear hG HR0 hn hnl hvl hn1l H12;generalize ba n1=N1 at *;generalize ba v1=V1 at *;obtain ⟨⟨⟨c0,c1,z0,z1⟩,hg,hbk⟩,⟨d0,d1,y0,y1⟩,hne,hlt,hge⟩:=HX.out;clear hg hbk hlt hge c0 c1 z0 z1;go_upto_region 18 with fail
     go_cut [93] from 72 (λv wx=>v=ZW G/\Hid (Two w E0 E0 t N1 V1 wx))
     case first=>
      clear HRv HF t0;generalize D0 p 10=nb at *;generalize D0 p 14=vb at *;generalize Dl [1] n1=tn at *;generalize Dl [6] v1=tv at *;have hGG:=HG.out;clear HG;cases nb<;>cases tn<;>cases vb<;>cases tv;all_goals
       obtain rfl:=hGG
       go_wp2_with (first
        |(go_at_call 44;with_reducible refine Cm (H10.out _) ?_)
        |(go_at_call 44;with_reducible refine Cm (H14.out _) ?_)
        |(go_at_call 137;(with_reducible refine (HV.out _ _ (Ints.one _ _ rfl _ _)).mono ?_);rintro e w1 ⟨rfl,m,hw⟩
          replace HX:=Bx ((HX.out.step ((An _ _).alloc (Db _) (.cells #[ZZ ZS 6] 3))).drew m)
          rw [←hw] at HX;clear hw)
        |(go_at_call 137;(with_reducible refine (HN.out _ _ (Ints.one _ _ rfl _ _)).mono ?_);rintro e w1 ⟨rfl,m,hw⟩
          replace HX:=Bx ((HX.out.step ((An _ _).alloc (Db _) (.cells #[ZZ ZS 1] 3))).drew m)
          rw [←hw] at HX;clear hw d0 d1 y0 y1;obtain ⟨d0,d1,y0,y1⟩:=HX.out.f))
       go_meet
       case rel=>exact ⟨by rfl,HX⟩
     case rest=>
      obtain ⟨rfl,HY⟩:=hcut;clear HX HG d0 d1 y0 y1 t0 HN HV H10 H14;obtain ⟨⟨⟨c0,c1,z0,z1⟩,hg,hbk⟩,⟨d0,d1,y0,y1⟩,hne,hlt,hge⟩:=HY.out;clear hg hbk hlt hge;cases G with
      | true=>
        have hRv:=HRv.out;rw [if_pos rfl] at hRv;obtain ⟨W9,hW9,⟨r0,r1,_,_⟩,hbW⟩:=Fb.put HY.out.k.f HY.out.k.b (Db _) E0 E0;go_wp2_with fail;try rw [hW9]
        exact XXfct
      | false=>
        have hRv:=HRv.out;rw [if_neg (by decide),HF.out] at hRv;obtain ⟨W9,hW9,⟨r0,r1,_,_⟩,hbW⟩:=Fb.put HY.out.k.f HY.out.k.b (Db _) N1 V1;go_wp2_with fail;try rw [hW9]
        exact bodyPost_ret (v:=ZT #[fv N1 V1,ZW true,ZZ ZS 0]) (by simp [results,Tryz.results91,go_sem,r0,r1]) rfl ⟨by first | rfl | rw [hRv],hbW⟩
theorem rparse_any (s:ByteArray) (p:Nat) (hp:p<4294967296) (w:World) (hs:s.size<=1000000000):Calls EW 91 #[ZY s,ZZ ZQ (p:Nat)] w λe w'=>e=.returned (rv (parse (clOf p) s.data.toList))/\Below w.heap.size w w':=by
 rcases colon_cases s.data.toList with ⟨h1,h2⟩ | ⟨j,hj,h1,h2,h3,h4,h5⟩
 ·have:=rparse_none s p hp w hs h1;unfold parse;rw [if_neg (by rw [h2];decide)];exact this
 ·have:=rparse_some s p hp w hs j (by rw [←len];exact hj) h1 h2;unfold parse;rw [if_pos h5,h3,h4];exact this
end
end Go.Proofs.YtdfabddnpgjepaaGreatDoor.Fd
namespace Go.Proofs.YtdfabddnpgjepaaGreatDoor.Par
open Go.RowKit Base Txt Mem
section
set_option maxHeartbeats 4000000
set_option maxRecDepth 20000
attribute [local go_sem] Am
variable {w:World} {B:Zone} {g q:Nat} {v f bd t o:Value} {p:Nat} {b:Bd} {s:S}
theorem fail_at (h:PR w B g q v f bd t o p b s) (e:Nat) (x:Int) (hx:x=(e:Int)):Calls EW 115 #[ptr g,ZZ ZS x] w λr w'=>
 r=.returned (ZT #[])/\PR w' B g q v nil nil nil o p b (s.fail e)/\Step (blks g q v f bd t o) (blks g q v nil nil nil o) w w':=by
 subst hx;exact fail_any h e
theorem cells_last (ini:List Fld) (a:Fld):(cells (ini ++ [a]))[ini.length*2]?=some (ZY a.1)/\(cells (ini ++ [a]))[ini.length*2+1]?=some (ZY a.2):=by exact XXWvg
theorem cells_put (ini:List Fld) (a c:Fld):((cells (ini ++ [a])).set (ini.length*2) (ZY c.1)).set (ini.length*2+1) (ZY c.2)=cells (ini ++ [c]):=by exact XXysj
theorem XXvrY {P:Prop} (h:P:=by
 rw [hg] at hgo;have HGo:=Bx hgo;clear hgo hg;go_enter Tryz.func189,Tryz.ntmps189;go_upto_region 5 with fail
 generalize w.setCell ⟨g,20,none⟩ (ZZ ZS ((s.lines:Int)+1))=W1 at *;clear c20 z20 a1 a2 t0;have c0:=H1.out.cs.c0
 go_wp2_with (first
  |(at_builtin;refine App.wpList_append_list _ rfl _ _ 46 rfl B 126 iF (.agg #[.string A8,.string A8]) 2 32 Tryz.underlying46 I1.out I2.out I3.out I4.out rfl (by decide) (.slice bo s.r.fs.length co) s.r.fs.length (cells s.r.fs) rfl ((H1.out.below (HB3.out.alloc HB3.out.size (.cells #[.string (ba n),.string (ba vv)] 126))).own.F.alloc (.cells #[.string (ba n),.string (ba vv)] 126)) (some ⟨w3.heap.size+1,0,none⟩) 1 1 [.string (ba n),.string (ba vv)] rfl rfl (λ_=>⟨w3.heap.size+1,0,rfl,λj u hu=>by rw [Di];exact (D6 (w3.alloc (.cells #[.string (ba n),.string (ba vv)] 126)) (w3.heap.size+1) (by simp) 126 [.string (ba n),.string (ba vv)]).c j u hu⟩) (by intro u hu;rcases (by simpa using hu:u=.string (ba n)∨u=.string (ba vv)) with rfl | rfl<;>rfl) (by have:=HLEN.out;unfold maxLen;omega) (by have:=HLEN.out;omega) (by have:=(H1.out.below (HB3.out.alloc HB3.out.size (.cells #[.string (ba n),.string (ba vv)] 126))).own.lt;have:=H1.out.own.ge;simp at *;omega) ?_;intro v2 w5 hO5 hgr5 _ hor5;have HO5:=Bx hO5;have HG5:=Bx hgr5;have HR5:=Bx hor5;clear hO5 hgr5 hor5)
  |(go_at_call 91;with_reducible refine (HP.out _).mono ?_;rintro r w3 ⟨rfl,hb3⟩
    have HB3:=Bx hb3;clear hb3)
  |(go_at_call 212;with_reducible refine Cm (HGo.out _) ?_))
 go_ret
 have hb4:=(HB3.out.alloc HB3.out.size (.cells #[ZY (ba n),ZY (ba vv)] 126))
 have hb5:=hb4.alloc hb4.size (.cells #[ZY (ba n),ZY (ba vv)] 126);have h4:=H1.out.below hb5;have hl:(s.r.fs ++ [(ba n,ba vv)]).length=s.r.fs.length+1:=by simp
 have hk5:Keeps [(Value.slice bo s.r.fs.length co).ownBlock] ((w3.alloc (.cells #[ZY (ba n),ZY (ba vv)] 126)).alloc (.cells #[ZY (ba n),ZY (ba vv)] 126)) w5:=Keeps.grown HG5.out λk e=>by rw [e];exact CB.2 rfl
 obtain ⟨ho5,hs5⟩:=h4.own.setF (f':=v2) (fs':=s.r.fs ++ [(ba n,ba vv)]) hk5 (by rw [hl,cells_append];exact HO5.out) (by
  rcases HR5.out with e | e
  ·exact .inl e
  ·exact .inr ⟨_,e,Db _⟩)
 have hrow:w5.heap[g]?= _:=hk5.row h4.row (λhm=>by
  have e:some g=(Value.slice bo s.r.fs.length co).ownBlock:=by simpa using hm
  exact h4.own.lone.ne (i:=0) (j:=3) rfl (by decide) (by rw [e];rfl))
 exact ⟨_,rfl,hrow,ho5,HS1.out.trans ((DP hb5).trans hs5)⟩):P:=h
theorem XX2XV {P:Prop} (h:P:=by
 rw [hg] at hgo;have HGo:=Bx hgo;clear hgo hg;go_enter Tryz.func189,Tryz.ntmps189;go_upto_region 5 with fail
 generalize w.setCell ⟨g,20,none⟩ (ZZ ZS ((s.lines:Int)+1))=W1 at *;clear c20 z20 a1 a2 t0;have c0:=H1.out.cs.c0
 go_wp2_with (first
  |(go_at_call 115;with_reducible refine (HFA.out _ (HB3.out.alloc HB3.out.size (.cells #[.string ⟨#[]⟩,.string ⟨#[]⟩] 126))).mono ?_;rintro r w4 ⟨rfl,hP,hS⟩)
  |(go_at_call 91;with_reducible refine (HP.out _).mono ?_;rintro r w3 ⟨rfl,hb3⟩
    have HB3:=Bx hb3;clear hb3)
  |(go_at_call 212;with_reducible refine Cm (HGo.out _) ?_))
 go_ret
 exact ⟨rfl,hP,HS1.out.trans ((DP (HB3.out.alloc HB3.out.size (.cells #[ZY ⟨#[]⟩,ZY ⟨#[]⟩] 126))).trans hS)⟩):P:=h
theorem XXPyZ {P:Prop} (h:P:=by
 rw [e];have t0:most<(s.lines:Int)+1:=by omega
 have HFA:=Bx (fail_at H1.out 431 431 rfl);clear e hm;go_enter Tryz.func189,Tryz.ntmps189
 go_wp2_with (go_at_call 115;with_reducible refine HFA.out.mono ?_;rintro r w2 ⟨rfl,hP,hS⟩);go_ret
 exact ⟨rfl,hP,HS1.out.trans hS⟩):P:=h
theorem fieldF_any (hp:p<4294967296) (x:ByteArray) (hx:x.size<=5000) (most:Int) (h:PR w B g q v f bd t o p b s) (hl:s.lines<=1000) (hsz:∀y∈s.r.fs,y.1.size<=1000000/\y.2.size<=1000000) (hlen:s.r.fs.length<=500) :
 Calls EW 189 #[ptr g,f,ZY x,ZZ ZS most] w λr w'=>
  match fieldV p s.lines s.r.fs x.data.toList most with
  | .inl e=>r=.returned nil/\PR w' B g q v nil nil nil o p b (S.fail {s with lines:=s.lines+1} e)/\Step (blks g q v f bd t o) (blks g q v nil nil nil o) w w'
  | .inr l=>∃f',r=.returned f'/\w'.heap[g]?=some (.cells (pcells p b {s with lines:=s.lines+1} q f bd t o).toArray 60 (0,0))/\Own w' B g q v f' bd t o p s.rd l s.r.body s.r.ts s.out/\Step (blks g q v f bd t o) (blks g q v f' bd t o) w w':=by
 obtain ⟨a1,a2⟩:=DD ((s.lines:Int)+1) ⟨by omega,by omega⟩
 have H1:=Bx (h.put 20 (ZZ ZS ((s.lines:Int)+1)) {s with lines:=s.lines+1} rfl rfl rfl rfl rfl rfl)
 have HS1:=Bx (DS (w:=w) (L:=blks g q v f bd t o) g 20 (ZZ ZS ((s.lines:Int)+1)) (by simp));have c20:=h.cs.c20;have z20:=h.marks 20;have HSZ:=Bx hsz;have HLEN:=Bx hlen;clear hsz hlen
 by_cases hm:most<((s.lines+1:Nat):Int)
 ·have e:fieldV p s.lines s.r.fs x.data.toList most=.inl 431:=by unfold fieldV;rw [if_pos hm]
  exact XXPyZ
 ·have t0:¬most<(s.lines:Int)+1:=by omega
  obtain ⟨bo,co,eo, -⟩:=CT h.own.F;have hgo:=λw=>Fd.rgoes_any x p hp w
  have HP:=Bx (λw=>Fd.rparse_any x p hp w (by omega));have HSZx:=Bx hx;have hnn:(s.r.fs.length:Int)<=500:=by have:=HLEN.out;omega
  subst eo;clear h hl hx;by_cases hj:(Fd.goes p x.data.toList && !s.r.fs.isEmpty)=true
  ·simp only [Ao,Ay,List.isEmpty_eq_false_iff] at hj;obtain ⟨hg,hne⟩:=hj;rw [hg] at hgo;have HGo:=Bx hgo;obtain ⟨ini,last,el⟩:∃ini last,s.r.fs=ini ++ [last]:=⟨_,_,(List.dropLast_concat_getLast hne).symm⟩;have hn1:s.r.fs.length=ini.length+1:=by rw [el];simp
   have e:fieldV p s.lines s.r.fs x.data.toList most=.inr (ini ++ [joinF last x.data.toList]):=by exact XX098
   rw [e]
   obtain ⟨gf,cf,hform,hgl,hgf⟩:=H1.out.own.F.form (by show 0<s.r.fs.length;omega);simp only [Value.slice.injEq,true_and] at hform;obtain ⟨rfl,rfl⟩:=hform
   have hq0:=(H1.out.own.F.cellAt (ini.length*2) (by show ini.length*2<s.r.fs.length*2;omega)).trans (show (cells s.r.fs)[ini.length*2]?=some (ZY last.1) by rw [el];exact (cells_last ini last).1)
   have hq1:=(H1.out.own.F.cellAt (ini.length*2+1) (by show ini.length*2+1<s.r.fs.length*2;omega)).trans (show (cells s.r.fs)[ini.length*2+1]?=some (ZY last.2) by rw [el];exact (cells_last ini last).2)
   have hz0:=H1.out.own.F.frozenAt (ini.length*2);have hz1:=H1.out.own.F.frozenAt (ini.length*2+1)
   have HJ:=Bx (show∀w,Calls EW 213 #[ZU #[ZY last.1,ZY last.2],ZY x] w λe w'=>e=.returned (ZU #[ZY last.1,ZY (ba (Fd.joined last.2.data.toList x.data.toList))])/\Below w.heap.size w w' from
    λw=>Fd.rjoin_any last.1 last.2 x w (by have:=HSZx.out;omega) (by have:=(HSZ.out last (by rw [el];simp)).2;omega))
   obtain ⟨k,hk⟩:∃k,ini.length=k:=⟨_,rfl⟩;have HK:=Bx hk;rw [hk] at hn1 hq0 hq1 hz0 hz1;have t1:(0:Int)<(s.r.fs.length:Int):=by omega
   have i1:(k:Int)<(s.r.fs.length:Int):=by omega
   obtain ⟨b1,b2⟩:=DD ((s.r.fs.length:Int)-1) ⟨by omega,by omega⟩;have b3:(s.r.fs.length:Int)-1=(k:Int):=by omega
   rw [b3] at b1 b2;have HEL:=Bx el;have HN1:=Bx hn1;have HGL:=Bx hgl;have HQ0:=Bx hq0;have HQ1:=Bx hq1;have HGF:=Bx hgf;have HZ0:=Bx hz0;have HZ1:=Bx hz1;clear hne e hk hnn el hn1 hg hgo hm hgl;go_enter Tryz.func189,Tryz.ntmps189;go_upto_region 5 with fail
   generalize w.setCell ⟨g,20,none⟩ (ZZ ZS ((s.lines:Int)+1))=W1 at *;clear c20 z20 a1 a2 t0;have c0:=H1.out.cs.c0
   go_wp2_with (first
    |(go_at_call 213;with_reducible refine (HJ.out _).mono ?_;rintro r w3 ⟨rfl,hb3⟩
      have HB3:=Bx hb3;have y0:=(hb3.cell (p:=⟨gf,k*2,none⟩) HGF.out).trans HQ0.out;have y1:=(hb3.cell (p:=⟨gf,k*2+1,none⟩) HGF.out).trans HQ1.out;have x0:=(hb3.frozen (p:=⟨gf,k*2,none⟩) HGF.out).trans HZ0.out;have x1:=(hb3.frozen (p:=⟨gf,k*2+1,none⟩) HGF.out).trans HZ1.out;clear hb3)
    |(go_at_call 212;with_reducible refine Cm (HGo.out _) ?_))
   go_ret;have h3:=H1.out.below HB3.out;exact XXaNX
  ·have hgt:Fd.goes p x.data.toList=false∨Fd.goes p x.data.toList=true/\¬(0:Int)<(s.r.fs.length:Int):=by
    cases hg:Fd.goes p x.data.toList with
    | false=>exact .inl rfl
    | true=>
      refine .inr ⟨rfl,?_⟩;rw [hg] at hj;have:s.r.fs= []:=by simpa using hj
      rw [this];simp
   have hp:=λw=>Fd.rparse_any x p hp w (by have:=HSZx.out;omega)
   have HFA:=Bx (λw2 (hb:Below (w.setCell ⟨g,20,none⟩ (ZZ ZS ((s.lines:Int)+1))).heap.size (w.setCell ⟨g,20,none⟩ (ZZ ZS ((s.lines:Int)+1))) w2)=>fail_at (H1.out.below hb) 400 400 rfl);obtain ⟨iF,hi,hz0,hz1,hz2⟩:=info_parts field_info;have I1:=Bx hi;have I2:=Bx hz0;have I3:=Bx hz1;have I4:=Bx hz2;clear hi hz0 hz1 hz2 HP;rcases hpar:Fd.parse (Fd.clOf p) x.data.toList with _ | _ | ⟨n,vv⟩
   ·have e:fieldV p s.lines s.r.fs x.data.toList most=.inl 400:=by unfold fieldV;rw [if_neg hm,if_neg hj,hpar]
    rw [e];rw [hpar] at hp;simp only [Fd.rv,Fd.fv] at hp;have HP:=Bx hp;clear e hpar hp hm hj hnn;rcases hgt with hg | ⟨hg,t1⟩
    ·exact XX2XV
    ·exact XX2XV
   ·have e:fieldV p s.lines s.r.fs x.data.toList most=.inr s.r.fs:=by unfold fieldV;rw [if_neg hm,if_neg hj,hpar]
    rw [e];rw [hpar] at hp;simp only [Fd.rv,Fd.fv] at hp;have HP:=Bx hp;clear e hpar hp hm hj hnn;rcases hgt with hg | ⟨hg,t1⟩
    ·rw [hg] at hgo;have HGo:=Bx hgo;clear hgo hg;go_enter Tryz.func189,Tryz.ntmps189;go_upto_region 5 with fail
     generalize w.setCell ⟨g,20,none⟩ (ZZ ZS ((s.lines:Int)+1))=W1 at *;clear c20 z20 a1 a2 t0;have c0:=H1.out.cs.c0
     go_wp2_with (first
      |(go_at_call 91;with_reducible refine (HP.out _).mono ?_;rintro r w3 ⟨rfl,hb3⟩
        have HB3:=Bx hb3;clear hb3)
      |(go_at_call 212;with_reducible refine Cm (HGo.out _) ?_))
     exact XXvfE
    ·rw [hg] at hgo;have HGo:=Bx hgo;clear hgo hg;go_enter Tryz.func189,Tryz.ntmps189;go_upto_region 5 with fail
     generalize w.setCell ⟨g,20,none⟩ (ZZ ZS ((s.lines:Int)+1))=W1 at *;clear c20 z20 a1 a2 t0;have c0:=H1.out.cs.c0
     go_wp2_with (first
      |(go_at_call 91;with_reducible refine (HP.out _).mono ?_;rintro r w3 ⟨rfl,hb3⟩
        have HB3:=Bx hb3;clear hb3)
      |(go_at_call 212;with_reducible refine Cm (HGo.out _) ?_))
     exact XXvfE
   ·have e:fieldV p s.lines s.r.fs x.data.toList most=.inr (s.r.fs ++ [(ba n,ba vv)]):=by unfold fieldV;rw [if_neg hm,if_neg hj,hpar]
    rw [e];rw [hpar] at hp;simp only [Fd.rv,Fd.fv] at hp;have HP:=Bx hp;clear e hpar hp hm hj hnn;rcases hgt with hg | ⟨hg,t1⟩
    ·exact XXvrY
    ·exact XXvrY
theorem XX5JS {P:Prop} (h:P:=by
 rw [hg] at hgo;have HGo:=Bx hgo;clear hgo hg;go_enter Tryz.func189,Tryz.ntmps189;go_upto_region 5 with fail
 generalize w.setCell ⟨g,20,none⟩ (ZZ ZS ((s.lines:Int)+1))=W1 at *;clear c20 z20 a1 a2 t0;have c0:=H1.out.cs.c0
 go_wp2_with (first
  |(at_builtin;refine App.wpList_append_list _ rfl _ _ 46 rfl B 126 iF (.agg #[.string A8,.string A8]) 2 32 Tryz.underlying46 I1.out I2.out I3.out I4.out rfl (by decide) (.slice bo s.r.ts.length co) s.r.ts.length (cells s.r.ts) rfl ((H1.out.below (HB3.out.alloc HB3.out.size (.cells #[.string (ba n),.string (ba vv)] 126))).own.T.alloc (.cells #[.string (ba n),.string (ba vv)] 126)) (some ⟨w3.heap.size+1,0,none⟩) 1 1 [.string (ba n),.string (ba vv)] rfl rfl (λ_=>⟨w3.heap.size+1,0,rfl,λj u hu=>by rw [Di];exact (D6 (w3.alloc (.cells #[.string (ba n),.string (ba vv)] 126)) (w3.heap.size+1) (by simp) 126 [.string (ba n),.string (ba vv)]).c j u hu⟩) (by intro u hu;rcases (by simpa using hu:u=.string (ba n)∨u=.string (ba vv)) with rfl | rfl<;>rfl) (by have:=HLEN.out;unfold maxLen;omega) (by have:=HLEN.out;omega) (by have:=(H1.out.below (HB3.out.alloc HB3.out.size (.cells #[.string (ba n),.string (ba vv)] 126))).own.lt;have:=H1.out.own.ge;simp at *;omega) ?_;intro v2 w5 hO5 hgr5 _ hor5;have HO5:=Bx hO5;have HG5:=Bx hgr5;have HR5:=Bx hor5;clear hO5 hgr5 hor5)
  |(go_at_call 91;with_reducible refine (HP.out _).mono ?_;rintro r w3 ⟨rfl,hb3⟩
    have HB3:=Bx hb3;clear hb3)
  |(go_at_call 212;with_reducible refine Cm (HGo.out _) ?_))
 go_ret
 have hb4:=(HB3.out.alloc HB3.out.size (.cells #[ZY (ba n),ZY (ba vv)] 126))
 have hb5:=hb4.alloc hb4.size (.cells #[ZY (ba n),ZY (ba vv)] 126);have h4:=H1.out.below hb5;have hl:(s.r.ts ++ [(ba n,ba vv)]).length=s.r.ts.length+1:=by simp
 have hk5:Keeps [(Value.slice bo s.r.ts.length co).ownBlock] ((w3.alloc (.cells #[ZY (ba n),ZY (ba vv)] 126)).alloc (.cells #[ZY (ba n),ZY (ba vv)] 126)) w5:=Keeps.grown HG5.out λk e=>by rw [e];exact CB.2 rfl
 obtain ⟨ho5,hs5⟩:=h4.own.setT (t':=v2) (ts':=s.r.ts ++ [(ba n,ba vv)]) hk5 (by rw [hl,cells_append];exact HO5.out) (by
  rcases HR5.out with e | e
  ·exact .inl e
  ·exact .inr ⟨_,e,Db _⟩)
 have hrow:w5.heap[g]?= _:=hk5.row h4.row (λhm=>by
  have e:some g=(Value.slice bo s.r.ts.length co).ownBlock:=by simpa using hm
  exact h4.own.lone.ne (i:=0) (j:=5) rfl (by decide) (by rw [e];rfl))
 exact ⟨_,rfl,hrow,ho5,HS1.out.trans ((DP hb5).trans hs5)⟩):P:=h
theorem fieldT_any (hp:p<4294967296) (x:ByteArray) (hx:x.size<=5000) (most:Int) (h:PR w B g q v f bd t o p b s) (hl:s.lines<=1000) (hsz:∀y∈s.r.ts,y.1.size<=1000000/\y.2.size<=1000000) (hlen:s.r.ts.length<=500) :
 Calls EW 189 #[ptr g,t,ZY x,ZZ ZS most] w λr w'=>
  match fieldV p s.lines s.r.ts x.data.toList most with
  | .inl e=>r=.returned nil/\PR w' B g q v nil nil nil o p b (S.fail {s with lines:=s.lines+1} e)/\Step (blks g q v f bd t o) (blks g q v nil nil nil o) w w'
  | .inr l=>∃t',r=.returned t'/\w'.heap[g]?=some (.cells (pcells p b {s with lines:=s.lines+1} q f bd t o).toArray 60 (0,0))/\Own w' B g q v f bd t' o p s.rd s.r.fs s.r.body l s.out/\Step (blks g q v f bd t o) (blks g q v f bd t' o) w w':=by
 obtain ⟨a1,a2⟩:=DD ((s.lines:Int)+1) ⟨by omega,by omega⟩
 have H1:=Bx (h.put 20 (ZZ ZS ((s.lines:Int)+1)) {s with lines:=s.lines+1} rfl rfl rfl rfl rfl rfl)
 have HS1:=Bx (DS (w:=w) (L:=blks g q v f bd t o) g 20 (ZZ ZS ((s.lines:Int)+1)) (by simp));have c20:=h.cs.c20;have z20:=h.marks 20;have HSZ:=Bx hsz;have HLEN:=Bx hlen;clear hsz hlen
 by_cases hm:most<((s.lines+1:Nat):Int)
 ·have e:fieldV p s.lines s.r.ts x.data.toList most=.inl 431:=by unfold fieldV;rw [if_pos hm]
  exact XXPyZ
 ·have t0:¬most<(s.lines:Int)+1:=by omega
  obtain ⟨bo,co,eo, -⟩:=CT h.own.T;have hgo:=λw=>Fd.rgoes_any x p hp w
  have HP:=Bx (λw=>Fd.rparse_any x p hp w (by omega));have HSZx:=Bx hx;have hnn:(s.r.ts.length:Int)<=500:=by have:=HLEN.out;omega
  subst eo;clear h hl hx;by_cases hj:(Fd.goes p x.data.toList && !s.r.ts.isEmpty)=true
  ·simp only [Ao,Ay,List.isEmpty_eq_false_iff] at hj;obtain ⟨hg,hne⟩:=hj;rw [hg] at hgo;have HGo:=Bx hgo;obtain ⟨ini,last,el⟩:∃ini last,s.r.ts=ini ++ [last]:=⟨_,_,(List.dropLast_concat_getLast hne).symm⟩;have hn1:s.r.ts.length=ini.length+1:=by rw [el];simp
   have e:fieldV p s.lines s.r.ts x.data.toList most=.inr (ini ++ [joinF last x.data.toList]):=by exact XXTMq
   rw [e]
   obtain ⟨gf,cf,hform,hgl,hgf⟩:=H1.out.own.T.form (by show 0<s.r.ts.length;omega);simp only [Value.slice.injEq,true_and] at hform;obtain ⟨rfl,rfl⟩:=hform
   have hq0:=(H1.out.own.T.cellAt (ini.length*2) (by show ini.length*2<s.r.ts.length*2;omega)).trans (show (cells s.r.ts)[ini.length*2]?=some (ZY last.1) by rw [el];exact (cells_last ini last).1)
   have hq1:=(H1.out.own.T.cellAt (ini.length*2+1) (by show ini.length*2+1<s.r.ts.length*2;omega)).trans (show (cells s.r.ts)[ini.length*2+1]?=some (ZY last.2) by rw [el];exact (cells_last ini last).2)
   have hz0:=H1.out.own.T.frozenAt (ini.length*2);have hz1:=H1.out.own.T.frozenAt (ini.length*2+1)
   have HJ:=Bx (show∀w,Calls EW 213 #[ZU #[ZY last.1,ZY last.2],ZY x] w λe w'=>e=.returned (ZU #[ZY last.1,ZY (ba (Fd.joined last.2.data.toList x.data.toList))])/\Below w.heap.size w w' from
    λw=>Fd.rjoin_any last.1 last.2 x w (by have:=HSZx.out;omega) (by have:=(HSZ.out last (by rw [el];simp)).2;omega))
   obtain ⟨k,hk⟩:∃k,ini.length=k:=⟨_,rfl⟩;have HK:=Bx hk;rw [hk] at hn1 hq0 hq1 hz0 hz1;have t1:(0:Int)<(s.r.ts.length:Int):=by omega
   have i1:(k:Int)<(s.r.ts.length:Int):=by omega
   obtain ⟨b1,b2⟩:=DD ((s.r.ts.length:Int)-1) ⟨by omega,by omega⟩;have b3:(s.r.ts.length:Int)-1=(k:Int):=by omega
   rw [b3] at b1 b2;have HEL:=Bx el;have HN1:=Bx hn1;have HGL:=Bx hgl;have HQ0:=Bx hq0;have HQ1:=Bx hq1;have HGF:=Bx hgf;have HZ0:=Bx hz0;have HZ1:=Bx hz1;clear hne e hk hnn el hn1 hg hgo hm hgl;go_enter Tryz.func189,Tryz.ntmps189;go_upto_region 5 with fail
   generalize w.setCell ⟨g,20,none⟩ (ZZ ZS ((s.lines:Int)+1))=W1 at *;clear c20 z20 a1 a2 t0;have c0:=H1.out.cs.c0
   go_wp2_with (first
    |(go_at_call 213;with_reducible refine (HJ.out _).mono ?_;rintro r w3 ⟨rfl,hb3⟩
      have HB3:=Bx hb3;have y0:=(hb3.cell (p:=⟨gf,k*2,none⟩) HGF.out).trans HQ0.out;have y1:=(hb3.cell (p:=⟨gf,k*2+1,none⟩) HGF.out).trans HQ1.out;have x0:=(hb3.frozen (p:=⟨gf,k*2,none⟩) HGF.out).trans HZ0.out;have x1:=(hb3.frozen (p:=⟨gf,k*2+1,none⟩) HGF.out).trans HZ1.out;clear hb3)
    |(go_at_call 212;with_reducible refine Cm (HGo.out _) ?_))
   go_ret;have h3:=H1.out.below HB3.out;have ho:(Value.slice (some ⟨gf,0,none⟩) s.r.ts.length co).ownBlock=some gf:=by simp [Value.ownBlock]
   have hk3:Keeps [(Value.slice (some ⟨gf,0,none⟩) s.r.ts.length co).ownBlock] w3 ((w3.setCell ⟨gf,k*2,none⟩ (ZY last.1)).setCell ⟨gf,k*2+1,none⟩ (ZY (ba (Fd.joined last.2.data.toList x.data.toList)))):=
    (Bp gf (k*2) _ (by rw [ho];simp)).trans (Bp gf (k*2+1) _ (by rw [ho];simp)) Dq
   have hl3:(ini ++ [joinF last x.data.toList]).length=s.r.ts.length:=by rw [HEL.out];simp
   have hr3:=((h3.own.T.stored (k*2) (ZY last.1)).1.stored (k*2+1) (ZY (ba (Fd.joined last.2.data.toList x.data.toList)))).1;exact XXKim
  ·have hgt:Fd.goes p x.data.toList=false∨Fd.goes p x.data.toList=true/\¬(0:Int)<(s.r.ts.length:Int):=by
    cases hg:Fd.goes p x.data.toList with
    | false=>exact .inl rfl
    | true=>
      refine .inr ⟨rfl,?_⟩;rw [hg] at hj;have:s.r.ts= []:=by simpa using hj
      rw [this];simp
   have hp:=λw=>Fd.rparse_any x p hp w (by have:=HSZx.out;omega)
   have HFA:=Bx (λw2 (hb:Below (w.setCell ⟨g,20,none⟩ (ZZ ZS ((s.lines:Int)+1))).heap.size (w.setCell ⟨g,20,none⟩ (ZZ ZS ((s.lines:Int)+1))) w2)=>fail_at (H1.out.below hb) 400 400 rfl);obtain ⟨iF,hi,hz0,hz1,hz2⟩:=info_parts field_info;have I1:=Bx hi;have I2:=Bx hz0;have I3:=Bx hz1;have I4:=Bx hz2;clear hi hz0 hz1 hz2 HP;rcases hpar:Fd.parse (Fd.clOf p) x.data.toList with _ | _ | ⟨n,vv⟩
   ·have e:fieldV p s.lines s.r.ts x.data.toList most=.inl 400:=by unfold fieldV;rw [if_neg hm,if_neg hj,hpar]
    rw [e];rw [hpar] at hp;simp only [Fd.rv,Fd.fv] at hp;have HP:=Bx hp;clear e hpar hp hm hj hnn;rcases hgt with hg | ⟨hg,t1⟩
    ·exact XX2XV
    ·exact XX2XV
   ·have e:fieldV p s.lines s.r.ts x.data.toList most=.inr s.r.ts:=by unfold fieldV;rw [if_neg hm,if_neg hj,hpar]
    rw [e];rw [hpar] at hp;simp only [Fd.rv,Fd.fv] at hp;have HP:=Bx hp;clear e hpar hp hm hj hnn;rcases hgt with hg | ⟨hg,t1⟩
    ·rw [hg] at hgo;have HGo:=Bx hgo;clear hgo hg;go_enter Tryz.func189,Tryz.ntmps189;go_upto_region 5 with fail
     generalize w.setCell ⟨g,20,none⟩ (ZZ ZS ((s.lines:Int)+1))=W1 at *;clear c20 z20 a1 a2 t0;have c0:=H1.out.cs.c0
     go_wp2_with (first
      |(go_at_call 91;with_reducible refine (HP.out _).mono ?_;rintro r w3 ⟨rfl,hb3⟩
        have HB3:=Bx hb3;clear hb3)
      |(go_at_call 212;with_reducible refine Cm (HGo.out _) ?_))
     exact XXvfE
    ·rw [hg] at hgo;have HGo:=Bx hgo;clear hgo hg;go_enter Tryz.func189,Tryz.ntmps189;go_upto_region 5 with fail
     generalize w.setCell ⟨g,20,none⟩ (ZZ ZS ((s.lines:Int)+1))=W1 at *;clear c20 z20 a1 a2 t0;have c0:=H1.out.cs.c0
     go_wp2_with (first
      |(go_at_call 91;with_reducible refine (HP.out _).mono ?_;rintro r w3 ⟨rfl,hb3⟩
        have HB3:=Bx hb3;clear hb3)
      |(go_at_call 212;with_reducible refine Cm (HGo.out _) ?_))
     exact XXvfE
   ·have e:fieldV p s.lines s.r.ts x.data.toList most=.inr (s.r.ts ++ [(ba n,ba vv)]):=by unfold fieldV;rw [if_neg hm,if_neg hj,hpar]
    rw [e];rw [hpar] at hp;simp only [Fd.rv,Fd.fv] at hp;have HP:=Bx hp;clear e hpar hp hm hj hnn;rcases hgt with hg | ⟨hg,t1⟩
    ·exact XX5JS
    ·exact XX5JS
end
end Go.Proofs.YtdfabddnpgjepaaGreatDoor.Par
