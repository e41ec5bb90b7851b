import Derived.Test.YtnabkcglnbdfeaaGreatDoorVre
set_option linter.unusedSimpArgs false
open Array renaming getD_eq_getD_getElem?→Af
open Bool renaming and_eq_true→An,false_and→As,not_eq_true'→Aw,or_eq_true→Ax,true_and→Az
open ByteArray renaming empty→A6,size_append→A7
open Go.Act renaming put→Ab
open Go.Lib renaming extract_data→Bl,hid→Bo
open Go.Proofs.Tryz renaming prog→EL,underlying22→Fm,underlying5→Fx,underlying9→Fz
open Go.Proofs.YtnabkcglnbdfeaaGreatDoor.Base renaming below_drewN→Aj,below_step→Ak,some_undef→Al
open Go.Proofs.YtnabkcglnbdfeaaGreatDoor.Each renaming Goes→AD,fine→AJ,putg→AM,region_all→AO
open Go.Proofs.YtnabkcglnbdfeaaGreatDoor.Each.Goes renaming enter→AE
open Go.Proofs.YtnabkcglnbdfeaaGreatDoor.Each.Lasts renaming eq→AI
open Go.Proofs.YtnabkcglnbdfeaaGreatDoor.Ln renaming own_slice→CJ
open Go.Proofs.YtnabkcglnbdfeaaGreatDoor.Mem.Keeps renaming grown→Bc,set→Bf
open Go.Proofs.YtnabkcglnbdfeaaGreatDoor.Mem.Of renaming refl→Dg
open Go.Proofs.YtnabkcglnbdfeaaGreatDoor.Oct renaming allOf→Db
open Go.Proofs.YtnabkcglnbdfeaaGreatDoor.Par.Step renaming of_below→DD,set→DF
open Go.Proofs.YtnabkcglnbdfeaaGreatDoor.Qk renaming has→Ds,rhas_any→Du
open Go.Proofs.YtnabkcglnbdfeaaGreatDoor.Rec renaming R→Dx,wraps→Dz
open Go.Proofs.YtnabkcglnbdfeaaGreatDoor.Rec.Bk renaming new→Dw
open Go.Proofs.YtnabkcglnbdfeaaGreatDoor.Txt renaming blank→FB
open Go.RowKit.Below renaming refl→Am
open List renaming append_nil→B7,drop_eq_getElem_cons→BH,getElem?_cons_succ→BQ,getElem?_cons_zero→BR,getElem?_eq_getElem→BS,getElem?_toArray→BY,getElem_mem→Ca,length_append→Ch,length_drop→Cj,length_map→Cn,length_take→Cr,mem_cons→Cw,mem_singleton→C1,setIfInBounds_toArray→C7,set_cons_succ→C9,set_cons_zero→CA,take_of_length_le→CD,take_succ_eq_append_getElem→CE
open Nat renaming eq_zero_or_pos→CO,le_of_lt→CP,le_refl→CQ,le_succ→CS,le_trans→CT,lt_of_lt_of_le→CV,lt_or_ge→CW,zero_add→CX,zero_le→CY
open Option renaming getD_some→Di,some→Dk
open UInt8 renaming toNat_inj→FD
namespace Go.Proofs.YtnabkcglnbdfeaaGreatDoor.Txt
open Go.RowKit Base Oct
theorem drop_at (l:List UInt8) (f k:Nat) (hfk:f≤k) (hk:k<l.length):l.drop f=(l.take k).drop f++l[k]::l.drop (k+1):=by conv=>lhs;rw [←List.take_append_drop k l,List.drop_append_of_le_length (by rw [Cr];omega),BH hk]
theorem mid_snoc (l:List UInt8) (f k:Nat) (hfk:f≤k) (hk:k<l.length):(l.take (k+1)).drop f=(l.take k).drop f ++ [l[k]]:=by rw [CE hk,List.drop_append_of_le_length (by rw [Cr];omega)]
section code
set_option maxHeartbeats 1000000
set_option maxRecDepth 10000
attribute [local go_sem] Al
theorem rsplit_own (s:ByteArray) (c:UInt8) (w:World) (hs:s.size≤1000000000) :
 Calls EL 169 #[.string s,.int .u8 c.toNat] w fun e w'=>∃g n k,e=.returned (.slice (some ⟨g,0,none⟩) n k)∧w.heap.size≤g∧n=(parts c s.data.toList).length∧Strs w' (some ⟨g,0,none⟩) n ((parts c s.data.toList).map ba)∧w.heap.size<w'.heap.size∧Below w.heap.size w w':=by
 obtain ⟨i0,hi,hz0,hz1,hz2⟩:=info_parts text_info;have G1:=Bo hi;have G2:=Bo hz0;have G3:=Bo hz1;have G4:=Bo hz2;clear hi hz0 hz1 hz2;have hpl:=parts_le c s.data.toList;rw [len] at hpl;have hp1:0<(parts c s.data.toList).length:=by rw [parts_length];omega
 go_enter Tryz.func169,Tryz.ntmps169;go_wp2
 go_loopw [5,6,7] (fun v f i wr=>∃(k fr:Nat) (done:List (List UInt8)),f=.int .i64 fr∧i=.int .i64 k∧done.length≤k∧Hid (wr.ownsRow w.heap.size 9 1 v done.length ((done.map ba).map Value.string))∧Hid (Below w.heap.size w wr)∧
  ((fr≤k∧k≤s.size∧Hid (done++parts c (s.data.toList.drop fr)=parts c s.data.toList)∧Hid (c∉(s.data.toList.take k).drop fr))∨(k=s.size+1∧Hid (done=parts c s.data.toList)))) (fun _ _ i _=>s.size+1-(intOf i).toNat)
 case atStart=>exact ⟨0,0,[],rfl,rfl,CQ _,Bo ⟨rfl,.inl ⟨rfl,rfl⟩⟩,Bo (Am _ _),.inl ⟨CQ _,CY _,Bo rfl,Bo (by simp)⟩⟩
 case round=>
  obtain ⟨k,fr,done,rfl,rfl,hdl,hown,hbr,hcase⟩:=hrel;rcases hcase with ⟨hfk,hks,hdone,hno⟩ | ⟨rfl,hdone⟩
  ·have t0:(k:Int)≤(s.size:Int):=by omega
   have t1:(fr:Int)≤(k:Int):=by omega
   have t9:wrap64 ((k:Int)+1)=(k:Int)+1:=by unfold wrap64;omega
   rcases CW k s.size with hlt | hge
   ·have hll:k<s.data.toList.length:=by rw [len];exact hlt
    have t2:(k:Int)<(s.size:Int):=by omega
    have t3:((k:Int)==(s.size:Int))=false:=beq_eq_false_iff_ne.2 (by omega);by_cases hc:s.data.toList[k]=c
    ·have t4:((s[k].toNat:Int)==(c.toNat:Int))=true:=by rw [show s[k]=c from hc];exact beq_self_eq_true _
     have hcut:=parts_cut c ((s.data.toList.take k).drop fr) (s.data.toList.drop (k+1)) hno.out;rw [←hc,←drop_at _ _ _ hfk hll,hc] at hcut
     have hx:(s.extract fr k)=ba ((s.data.toList.take k).drop fr):=ba_ext (by rw [Bl];show _=(s.data.toList.take k).drop fr;rw [List.drop_take]);have HX:=Bo hx
     have HD:=Bo (show (done ++ [(s.data.toList.take k).drop fr])++parts c (s.data.toList.drop (k+1))=parts c s.data.toList by rw [←hdone.out,hcut,List.append_assoc];rfl);clear hcut hx hc hno;generalize (s.data.toList.take k).drop fr=p at *
     go_wp2_with (at_builtin;refine wpList_append_own _ rfl _ _ 87 rfl w.heap.size 9 i0 (.string A6) 1 16 Tryz.underlying87 G1.out G2.out G3.out G4.out rfl (by decide) _ _ _ rfl (hown.out.alloc _) ⟨wr.heap.size,0,none⟩ 1 1 [.string (s.extract fr k)] rfl rfl ?c1 ?c2 ?c3 ?c4 ?c5 ?_)
     case c1=>exact news_one wr _ _
     case c2=>intro u hu;obtain rfl:u=.string (s.extract fr k):=by simpa using hu
              rfl
     case c3=>unfold maxLen;omega
     case c4=>omega
     case c5=>have:=hbr.out.size;simp;omega
     intro v' w' hown' hgr _
     have H1:Hid (w'.ownsRow w.heap.size 9 1 v' (done ++ [p]).length (((done ++ [p]).map ba).map Value.string)):=Bo (by rw [HX.out] at hown';simpa using hown')
     have H2:=Bo ((hbr.out.alloc hbr.out.size _).grown hgr (by have:=hbr.out.size;simp;omega) (own_base hown.out));have hdl2:(done ++ [p]).length≤k+1:=by rw [Ch];simp;omega
     clear hown' hgr;go_wp2;go_roundw
     case rel=>exact ⟨k+1,k+1,done ++ [p],by go_num,by go_num,hdl2,H1,H2,.inl ⟨CQ _,by omega,HD,Bo (by rw [List.drop_eq_nil_of_le (by rw [Cr];omega)];simp)⟩⟩
     case measure=>simp [intOf];omega
    ·have t4:((s[k].toNat:Int)==(c.toNat:Int))=false:=beq_eq_false_iff_ne.2 (fun e=>hc (show s[k]=c from FD.1 (by omega)))
     have HN:=Bo (show c∉(s.data.toList.take (k+1)).drop fr by
      rw [mid_snoc _ _ _ hfk hll,List.mem_append]
      rintro (h | h)
      ·exact hno.out h
      ·exact hc (C1.1 h).symm)
     clear hno;go_wp2;go_roundw
     case rel=>exact ⟨k+1,fr,done,rfl,by go_num,by omega,hown,hbr,.inl ⟨by omega,by omega,hdone,HN⟩⟩
     case measure=>simp [intOf];omega
   ·obtain rfl:k=s.size:=by omega
    ·have t3:((s.size:Int)==(s.size:Int))=true:=beq_self_eq_true _;have hno':=hno.out;rw [take_all s _ (CQ _)] at hno';have hcut:=parts_none c (s.data.toList.drop fr) hno'
     have hx:(s.extract fr s.size)=ba (s.data.toList.drop fr):=ba_ext (by rw [Bl,CD (by rw [Cj,len];exact CQ _)];rfl);have HX:=Bo hx
     have HD:=Bo (show done ++ [s.data.toList.drop fr]=parts c s.data.toList by rw [←hdone.out,hcut]);clear hcut hx hno hno';generalize s.data.toList.drop fr=p at *;generalize hk:s.size=k at *
     go_wp2_with (at_builtin;refine wpList_append_own _ rfl _ _ 87 rfl w.heap.size 9 i0 (.string A6) 1 16 Tryz.underlying87 G1.out G2.out G3.out G4.out rfl (by decide) _ _ _ rfl (hown.out.alloc _) ⟨wr.heap.size,0,none⟩ 1 1 [.string (s.extract fr k)] rfl rfl ?c1 ?c2 ?c3 ?c4 ?c5 ?_)
     case c1=>exact news_one wr _ _
     case c2=>intro u hu;obtain rfl:u=.string (s.extract fr k):=by simpa using hu
              rfl
     case c3=>unfold maxLen;omega
     case c4=>omega
     case c5=>have:=hbr.out.size;simp;omega
     intro v' w' hown' hgr _
     have H1:Hid (w'.ownsRow w.heap.size 9 1 v' (done ++ [p]).length (((done ++ [p]).map ba).map Value.string)):=Bo (by rw [HX.out] at hown';simpa using hown')
     have H2:=Bo ((hbr.out.alloc hbr.out.size _).grown hgr (by have:=hbr.out.size;simp;omega) (own_base hown.out));have hdl2:(done ++ [p]).length≤k+1:=by rw [Ch];simp;omega
     clear hown' hgr;go_wp2;go_roundw
     case rel=>exact ⟨k+1,k+1,done ++ [p],by go_num,by go_num,hdl2,H1,H2,.inr ⟨rfl,HD⟩⟩
     case measure=>(simp [intOf]<;>omega)
  ·have t0:¬((s.size:Int)+1≤(s.size:Int)):=by omega
   have hdn:=hdone.out;subst hdn;obtain ⟨g,cap,rfl,hg0,hg1⟩:=hown.out.form hp1
   have HS:=Bo (show Strs wr (some ⟨g,0,none⟩) (parts c s.data.toList).length ((parts c s.data.toList).map ba) by
    obtain ⟨A,cc,e,hS⟩:=Strs.of_own (ss:=(parts c s.data.toList).map ba) hown.out;obtain ⟨rfl,rfl⟩:some ⟨g,0,none⟩=A∧cap=cc:=by simpa using e
    exact hS)
   clear hown hdone;go_wp2;go_ret;exact ⟨g,_,⟨cap,rfl⟩,hg0,rfl,HS.out,by omega,hbr.out⟩
theorem rsplit44 (s:ByteArray) (w:World) (hs:s.size≤1000000000) :
 Calls EL 169 #[.string s,.int .u8 44] w fun e w'=>∃g n k,e=.returned (.slice (some ⟨g,0,none⟩) n k)∧w.heap.size≤g∧n=(parts 44 s.data.toList).length∧Strs w' (some ⟨g,0,none⟩) n ((parts 44 s.data.toList).map ba)∧w.heap.size<w'.heap.size∧Below w.heap.size w w':=
 rsplit_own s 44 w hs
theorem rlist_own (a:Option Addr) (n cap:Nat) (vs:List ByteArray) (w:World) (hv:Strs w a n vs) (hr:room vs≤1000000000) :
 Calls EL 122 #[.slice a n cap] w fun e w'=>∃v,e=.returned v∧w'.ownsRow w.heap.size 9 1 v (list vs).length ((list vs).map Value.string)∧Below w.heap.size w w':=by
 have hle:=list_le vs;have hnr:=len_room vs;rw [hv.1] at hnr;have HV:=Bo hv;have HL:=Bo hv.1;clear hv;obtain ⟨i0,hi,hz0,hz1,hz2⟩:=info_parts text_info;have G1:=Bo hi;have G2:=Bo hz0;have G3:=Bo hz1;have G4:=Bo hz2;clear hi hz0 hz1 hz2;go_enter Tryz.func122,Tryz.ntmps122;go_wp2
 go_loopw [3,4] (fun v i wr=>∃k:Nat,k≤n∧i=.int .i64 k∧Hid (wr.ownsRow w.heap.size 9 1 v (list (vs.take k)).length ((list (vs.take k)).map Value.string))∧Hid (Below w.heap.size w wr)) (fun _ i _=>n-(intOf i).toNat)
 case atStart=>exact ⟨0,CY _,rfl,Bo ⟨rfl,.inl ⟨rfl,rfl⟩⟩,Bo (Am _ _)⟩
 case round=>
  obtain ⟨k,hk,rfl,hown,hbr⟩:=hrel;rcases CW k n with hlt | hge
  ·obtain ⟨bl,off,rfl,_,hc⟩:=(HV.out.below hbr.out).2 (by omega);have hck:=hc k hlt
   have hsn:=Bo (list_snoc vs k (by rw [HL.out];exact hlt))
   have hle1:=list_take_le vs (k+1);rw [hsn.out,Ch] at hle1;have hsz:(vs[k]?.getD A6).size≤1000000000:=by
    have:k<vs.length:=by rw [HL.out];exact hlt
    rw [BS this];have h2:(vs[k].size+1)≤room vs:=by exact room_mem vs _ (Ca _)
    show vs[k].size≤_;omega
   clear hc;generalize vs[k]?.getD A6=x at *
   have HP:=Bo (rsplit44 x wr hsz)
   have hpm:=Bo (partsOf_map x);have hpl:(partsOf x).length=((parts 44 x.data.toList).map ba).length:=by rw [hpm.out,Cn]
   have hp0:((parts 44 x.data.toList).map ba).length=(parts 44 x.data.toList).length:=Cn _;rw [←hp0] at HP
   have hps:=Bo (show∀y∈(parts 44 x.data.toList).map ba,y.size<4294967281 from fun y hy=>by obtain ⟨l,hl,rfl⟩:=List.mem_map.1 hy;have:=parts_size 44 _ l hl;rw [len] at this;rw [ba_size];omega)
   generalize (parts 44 x.data.toList).map ba=P at *;clear hp0;generalize list (vs.take k)=L at *
   go_wp2_with (go_at_call 169;with_reducible refine HP.out.mono ?_;rintro e w1 ⟨B,n1,c1,rfl,hgB,hn1,hS,hg1,hb1⟩)
   have hB1:=Bo (Ak hbr.out hb1)
   have hown1:=Bo (own_below hown.out hb1);have hS':=Bo hS
   have hne:=Bo (show∀g,u3.ownBlock=some g→g≠B from fun g hg=>by have:=(hown.out.lt g hg).2;omega);clear hgB;clear hS hb1 HP hown hbr
   go_loopw [3,6] (fun v i wq=>∃j:Nat,j≤n1∧i=.int .i64 j∧w1.heap.size≤wq.heap.size∧Hid (wq.ownsRow w.heap.size 9 1 v (L.length+j) ((L++(P.map trim).take j).map Value.string))∧Hid (Below w.heap.size w wq)∧Hid (∀g,v.ownBlock=some g→g≠B)∧Hid (Strs wq (some ⟨B,0,none⟩) n1 P)) (fun _ i _=>n1-(intOf i).toNat)
   case atStart=>exact ⟨0,CY _,rfl,CQ _,by rw [List.take_zero,B7];exact hown1,hB1,hne,hS'⟩
   case round=>
    obtain ⟨j,hj,rfl,hsz,hown,hbq,hne,hSq⟩:=hrel;rcases CW j n1 with hlj | hgj
    ·obtain ⟨bs,os,e,hbs,hc⟩:=hSq.out.2 (by omega);obtain ⟨rfl,rfl⟩:B=bs∧0=os:=by simpa using e
     have hcj:=hc j hlj;rw [CX] at hcj
     have HS1:=Bo (map_snoc trim A6 P j (by omega));clear hc e;have hys:(P[j]?.getD A6).size≤maxLen:=by exact XX3G6
     generalize P[j]?.getD A6=y at *
     have HT:=Bo (fun w=>rtrim_any y w hys);clear hys
     go_wp2_with (first
      |(go_at_call 129;with_reducible refine Cm (HT.out _) ?_)
      |(at_builtin;(refine wpList_append_own_at _ rfl _ _ 87 rfl w.heap.size 9 i0 (.string A6) 1 16 Tryz.underlying87 G1.out G2.out G3.out G4.out rfl (by decide) _ _ _ rfl (hown.out.alloc _) ⟨wr.heap.size,0,none⟩ 1 1 [.string (trim y)] rfl rfl ?c1 ?c2 ?c3 ?c4 ?c5 ?_)))
     case c1=>exact news_one wr _ _
     case c2=>intro u hu;obtain rfl:u=.string (trim y):=by simpa using hu
              rfl
     case c3=>unfold maxLen;omega
     case c4=>omega
     case c5=>have:=hbq.out.size;simp;omega
     exact XXOmL
    ·exact XX1YI
  ·exact XXL2M
theorem rlist_any (a:Option Addr) (n cap:Nat) (vs:List ByteArray) (w:World) (hv:Strs w a n vs) (hr:room vs≤1000000000) :
 Calls EL 122 #[.slice a n cap] w fun e w'=>∃b m c,e=.returned (.slice b m c)∧m=(list vs).length∧Strs w' b m (list vs)∧Below w.heap.size w w':=
 (rlist_own a n cap vs w hv hr).mono (by
   rintro e w' ⟨v,rfl,ho,hb⟩;obtain ⟨A,c,rfl,hA⟩:=Strs.of_own ho;exact ⟨A,_,c,rfl,rfl,hA,hb⟩)
theorem rfind_any (a:Option Addr) (n cap:Nat) (fs:List Fld) (name:ByteArray) (w:World) (hv:Flds w a n fs) (hn:n≤1000000000) (hs:∀f∈fs,f.1.size≤1000000000) (ht:name.size≤1000000000) :
 Calls EL 105 #[.slice a n cap,.string name] w fun e w'=>∃b m c,e=.returned (.slice b m c)∧m=(find fs name).length∧Strs w' b m (find fs name)∧Below w.heap.size w w':=by
 have HV:=Bo hv;have HL:=Bo hv.1;have HS:=Bo hs;clear hv hs;obtain ⟨i0,hi,hz0,hz1,hz2⟩:=info_parts text_info;have G1:=Bo hi;have G2:=Bo hz0;have G3:=Bo hz1;have G4:=Bo hz2;clear hi hz0 hz1 hz2;go_enter Tryz.func105,Tryz.ntmps105;go_wp2
 go_loopw [5,6] (fun v i wr=>∃k:Nat,k≤n∧i=.int .i64 k∧Hid (wr.ownsRow w.heap.size 9 1 v (find (fs.take k) name).length ((find (fs.take k) name).map Value.string))∧Hid (Below w.heap.size w wr)) (fun _ i _=>n-(intOf i).toNat)
 case atStart=>exact ⟨0,CY _,rfl,Bo ⟨rfl,.inl ⟨rfl,rfl⟩⟩,Bo (Am _ _)⟩
 case round=>
  obtain ⟨k,hk,rfl,hown,hbr⟩:=hrel;rcases CW k n with hlt | hge
  ·obtain ⟨bl,off,rfl,hbl,hc⟩:=(HV.out.below hbr.out).2 (by omega);obtain ⟨hc0,hc1⟩:=hc k hlt
   have hsn:=Bo (find_snoc fs name k (by rw [HL.out];exact hlt));have hfl:=find_le (fs.take k) name;rw [Cr] at hfl;have hsz:(fs[k]?.getD dflt).1.size≤1000000000:=by
    have:k<fs.length:=by rw [HL.out];exact hlt
    rw [BS this]
    exact HS.out _ (Ca _)
   clear hc;generalize fs[k]?.getD dflt=f at *;generalize hL:find (fs.take k) name=L at *;obtain ⟨f0,f1⟩:=f;simp only at hc0 hc1 hsz hsn
   have HC:=Bo (fun w=>rsame_any f0 name w (by omega) (by omega));clear hsz hL;cases hq:same f0 name with
   | false=>
     rw [hq] at HC hsn;rw [if_neg (by decide),B7] at hsn;clear hq
     go_wp2_with (go_at_call 151;with_reducible refine (HC.out _).mono ?_;rintro e w2 ⟨rfl,hb2⟩);have hb0:Below wr.heap.size wr w2:=hb2;exact XXhHQ
   | true=>
     rw [hq] at HC hsn;rw [if_pos rfl] at hsn;clear hq
     go_wp2_with (first
      |(go_at_call 151;with_reducible refine (HC.out _).mono ?_;rintro e w2 ⟨rfl,hb2⟩
        have hf1:=(hb2.cell (p:=⟨bl,off+k*2+1,none⟩) hbl).trans hc1
        have hb0:=Bo (show Below wr.heap.size wr w2 from hb2)
        have hown0:=Bo (own_below hown.out hb0.out))
      |(at_builtin;refine wpList_append_own _ rfl _ _ 87 rfl w.heap.size 9 i0 (.string A6) 1 16 Tryz.underlying87 G1.out G2.out G3.out G4.out rfl (by decide) _ _ _ rfl (hown0.out.alloc _) ⟨w2.heap.size,0,none⟩ 1 1 [.string f1] rfl rfl ?c1 ?c2 ?c3 ?c4 ?c5 ?_))
     case c1=>exact news_one w2 _ _
     case c2=>intro u hu;obtain rfl:u=.string f1:=by simpa using hu
              rfl
     case c3=>unfold maxLen;omega
     case c4=>omega
     case c5=>have:=hbr.out.size;have:=hb0.out.size;simp;omega
     exact XXLIl
  ·exact XXR68
end code
end Go.Proofs.YtnabkcglnbdfeaaGreatDoor.Txt
namespace Go.Proofs.YtnabkcglnbdfeaaGreatDoor.Rec
open Go.RowKit Base Txt
section code
set_option maxHeartbeats 1000000
attribute [local go_sem] Al
theorem XXPZS {P:Prop} (h:P:=by
 go_enter Tryz.func48,Tryz.ntmps48;go_upto_region 1 with fail
 generalize (w.alloc (.cells #[.string r.m,.string r.x,.int .i64 r.k,.slice fa r.fs.length fc,.bool r.ch,.slice ba r.body.length bc,.slice ta r.ts.length tc] 58)).alloc (.cells #[.string r'.m,.string r'.x,.int .i64 r'.k,.slice fa' r'.fs.length fc',.bool r'.ch,.slice ba' r'.body.length bc',.slice ta' r'.ts.length tc'] 58)=W at *;have hA0:=HA.out;have hB0:=HB.out;have q0:=hA0.c 0 _ rfl;have y0:=hB0.c 0 _ rfl;have q1:=hA0.c 1 _ rfl;have y1:=hB0.c 1 _ rfl;have q2:=hA0.c 2 _ rfl;have y2:=hB0.c 2 _ rfl;have q3:=hA0.c 3 _ rfl;have y3:=hB0.c 3 _ rfl;have q4:=hA0.c 4 _ rfl;have y4:=hB0.c 4 _ rfl;have q5:=hA0.c 5 _ rfl;have y5:=hB0.c 5 _ rfl;have q6:=hA0.c 6 _ rfl;have y6:=hB0.c 6 _ rfl;clear hA0 hB0
 go_wp2_with (go_at_call 61;with_reducible refine (HF1.out _ HB0.out).mono ?_;rintro e w1 ⟨rfl,n1,hw1⟩
              have hb1:Below W.heap.size W w1:=by rw [hw1];exact Aj (Am _ _) n1
              have HB1:=Bo (Ak HB0.out hb1);have hA1:=HA.out.below hb1;have hB1:=HB.out.below hb1;have q3:=hA1.c 3 _ rfl;have y3:=hB1.c 3 _ rfl;have q4:=hA1.c 4 _ rfl;have y4:=hB1.c 4 _ rfl;have q5:=hA1.c 5 _ rfl;have y5:=hB1.c 5 _ rfl;have q6:=hA1.c 6 _ rfl;have y6:=hB1.c 6 _ rfl;have cv:=conv_str w1 _ _ bc _ (H2.out.below HB1.out);have cv':=conv_str w1 _ _ bc' _ (H2'.out.below HB1.out);clear hA1 hB1 hb1 hw1)
 go_ret
 exact ⟨rfl,HB1.out⟩):P:=h
theorem XXi6S {P:Prop} (h:P:=by
 clear g0 g1 g2 g3 g4 g5 g6;go_enter Tryz.func48,Tryz.ntmps48;go_upto_region 1 with fail
 generalize (w.alloc (.cells #[.string r.m,.string r.x,.int .i64 r.k,.slice fa r.fs.length fc,.bool r.ch,.slice ba r.body.length bc,.slice ta r.ts.length tc] 58)).alloc (.cells #[.string r'.m,.string r'.x,.int .i64 r'.k,.slice fa' r'.fs.length fc',.bool r'.ch,.slice ba' r'.body.length bc',.slice ta' r'.ts.length tc'] 58)=W at *;have hA0:=HA.out;have hB0:=HB.out;have q0:=hA0.c 0 _ rfl;have y0:=hB0.c 0 _ rfl;have q1:=hA0.c 1 _ rfl;have y1:=hB0.c 1 _ rfl;have q2:=hA0.c 2 _ rfl;have y2:=hB0.c 2 _ rfl;have q3:=hA0.c 3 _ rfl;have y3:=hB0.c 3 _ rfl;have q4:=hA0.c 4 _ rfl;have y4:=hB0.c 4 _ rfl;have q5:=hA0.c 5 _ rfl;have y5:=hB0.c 5 _ rfl;have q6:=hA0.c 6 _ rfl;have y6:=hB0.c 6 _ rfl;clear hA0 hB0
 go_wp2_with (first
  |(go_at_call 61;with_reducible refine (HF2.out _ HB1.out).mono ?_;rintro e w2 ⟨rfl,n2,hw2⟩
    have hb2:Below w1.heap.size w1 w2:=by rw [hw2];exact Aj (Am _ _) n2
    have HB2:=Bo (Ak HB1.out hb2);clear hb2 hw2)
  |(go_at_call 61;with_reducible refine (HF1.out _ HB0.out).mono ?_;rintro e w1 ⟨rfl,n1,hw1⟩
    have hb1:Below W.heap.size W w1:=by rw [hw1];exact Aj (Am _ _) n1
    have HB1:=Bo (Ak HB0.out hb1);have hA1:=HA.out.below hb1;have hB1:=HB.out.below hb1;have q3:=hA1.c 3 _ rfl;have y3:=hB1.c 3 _ rfl;have q4:=hA1.c 4 _ rfl;have y4:=hB1.c 4 _ rfl;have q5:=hA1.c 5 _ rfl;have y5:=hB1.c 5 _ rfl;have q6:=hA1.c 6 _ rfl;have y6:=hB1.c 6 _ rfl;have cv:=conv_str w1 _ _ bc _ (H2.out.below HB1.out);have cv':=conv_str w1 _ _ bc' _ (H2'.out.below HB1.out);clear hA1 hB1 hb1 hw1))
 go_ret
 exact ⟨rfl,HB2.out⟩):P:=h
theorem XXiCT {P:Prop} (h:P:=by
 go_enter Tryz.func48,Tryz.ntmps48;go_upto_region 1 with fail
 generalize (w.alloc (.cells #[.string r.m,.string r.x,.int .i64 r.k,.slice fa r.fs.length fc,.bool r.ch,.slice ba r.body.length bc,.slice ta r.ts.length tc] 58)).alloc (.cells #[.string r'.m,.string r'.x,.int .i64 r'.k,.slice fa' r'.fs.length fc',.bool r'.ch,.slice ba' r'.body.length bc',.slice ta' r'.ts.length tc'] 58)=W at *;have hA0:=HA.out;have hB0:=HB.out;have q0:=hA0.c 0 _ rfl;have y0:=hB0.c 0 _ rfl;have q1:=hA0.c 1 _ rfl;have y1:=hB0.c 1 _ rfl;have q2:=hA0.c 2 _ rfl;have y2:=hB0.c 2 _ rfl;have q3:=hA0.c 3 _ rfl;have y3:=hB0.c 3 _ rfl;have q4:=hA0.c 4 _ rfl;have y4:=hB0.c 4 _ rfl;have q5:=hA0.c 5 _ rfl;have y5:=hB0.c 5 _ rfl;have q6:=hA0.c 6 _ rfl;have y6:=hB0.c 6 _ rfl;clear hA0 hB0;go_wp2;go_ret
 exact ⟨rfl,HB0.out⟩):P:=h
theorem rsame_any (V V':Value) (r r':R) (w:World) (h:Reads w V r) (h':Reads w V' r') (hf:Fit r) (hf':Fit r'):Calls EL 48 #[V,V'] w fun e w'=>e=.returned (.bool (same r r'))∧Below w.heap.size w w':=by
 obtain ⟨fa,fc,ba,bc,ta,tc,rfl,h1,h2,h3⟩:=h;obtain ⟨fa',fc',ba',bc',ta',tc',rfl,h1',h2',h3'⟩:=h'
 have HF1:=Bo (fun w2 (hb:Below w.heap.size w w2)=>rfields_any fa _ fc _ fa' _ fc' _ w2 (h1.below hb) (h1'.below hb) (by have:=hf.fs;omega) (by have:=hf'.fs;omega))
 have HF2:=Bo (fun w2 (hb:Below w.heap.size w w2)=>rfields_any ta _ tc _ ta' _ tc' _ w2 (h3.below hb) (h3'.below hb) (by have:=hf.ts;omega) (by have:=hf'.ts;omega));have H2:=Bo h2;have H2':=Bo h2';clear h1 h2 h3 h1' h2' h3' hf hf'
 have HB0:=Bo ((((Am _ _).alloc (CQ _) (.cells #[.string r.m,.string r.x,.int .i64 r.k,.slice fa r.fs.length fc,.bool r.ch,.slice ba r.body.length bc,.slice ta r.ts.length tc] 58)).alloc (by simp) (.cells #[.string r'.m,.string r'.x,.int .i64 r'.k,.slice fa' r'.fs.length fc',.bool r'.ch,.slice ba' r'.body.length bc',.slice ta' r'.ts.length tc'] 58)):Below w.heap.size w _)
 have HA:=Bo ((Bk.new w w.heap.size rfl 58 [.string r.m,.string r.x,.int .i64 r.k,.slice fa r.fs.length fc,.bool r.ch,.slice ba r.body.length bc,.slice ta r.ts.length tc]).alloc (.cells #[.string r'.m,.string r'.x,.int .i64 r'.k,.slice fa' r'.fs.length fc',.bool r'.ch,.slice ba' r'.body.length bc',.slice ta' r'.ts.length tc'] 58))
 have HB:=Bo (Bk.new (w.alloc (.cells #[.string r.m,.string r.x,.int .i64 r.k,.slice fa r.fs.length fc,.bool r.ch,.slice ba r.body.length bc,.slice ta r.ts.length tc] 58)) (w.heap.size+1) (by simp) 58 [.string r'.m,.string r'.x,.int .i64 r'.k,.slice fa' r'.fs.length fc',.bool r'.ch,.slice ba' r'.body.length bc',.slice ta' r'.ts.length tc']);by_cases g0:r.m=r'.m
 rotate_left
 ·have e:same r r'=false:=by unfold same;simp [g0]
  rw [e];clear e;have t0:(r.m.toList==r'.m.toList)=false:=by rw [ba_beq];exact decide_eq_false g0
  have s0:¬r.m.toList=r'.m.toList:=fun h=>g0 ((toList_iff _ _).1 h);clear g0;exact XXiCT
 by_cases g1:r.x=r'.x
 rotate_left
 ·have e:same r r'=false:=by unfold same;simp [g0,g1]
  rw [e];clear e;have t0:(r.m.toList==r'.m.toList)=true:=by rw [ba_beq];exact decide_eq_true g0
  have s0:r.m.toList=r'.m.toList:=(toList_iff _ _).2 g0;have t1:(r.x.toList==r'.x.toList)=false:=by rw [ba_beq];exact decide_eq_false g1
  have s1:¬r.x.toList=r'.x.toList:=fun h=>g1 ((toList_iff _ _).1 h);clear g0 g1;exact XXiCT
 by_cases g2:r.k=r'.k
 rotate_left
 ·have e:same r r'=false:=by unfold same;simp [g0,g1,g2]
  rw [e];clear e;have t0:(r.m.toList==r'.m.toList)=true:=by rw [ba_beq];exact decide_eq_true g0
  have s0:r.m.toList=r'.m.toList:=(toList_iff _ _).2 g0;have t1:(r.x.toList==r'.x.toList)=true:=by rw [ba_beq];exact decide_eq_true g1
  have s1:r.x.toList=r'.x.toList:=(toList_iff _ _).2 g1;have t2:(r.k==r'.k)=false:=beq_eq_false_iff_ne.2 g2;clear g0 g1 g2;exact XXiCT
 by_cases g3:r.fs=r'.fs
 rotate_left
 ·have e:same r r'=false:=by unfold same;simp [g0,g1,g2,g3]
  rw [e];clear e;have t0:(r.m.toList==r'.m.toList)=true:=by rw [ba_beq];exact decide_eq_true g0
  have s0:r.m.toList=r'.m.toList:=(toList_iff _ _).2 g0;have t1:(r.x.toList==r'.x.toList)=true:=by rw [ba_beq];exact decide_eq_true g1
  have s1:r.x.toList=r'.x.toList:=(toList_iff _ _).2 g1;have t2:(r.k==r'.k)=true:=beq_iff_eq.2 g2;rw [decide_eq_false g3] at HF1;clear g0 g1 g2 g3;exact XXPZS
 by_cases g4:r.ch=r'.ch
 rotate_left
 ·have e:same r r'=false:=by unfold same;simp [g0,g1,g2,g3,g4]
  rw [e];clear e;have t0:(r.m.toList==r'.m.toList)=true:=by rw [ba_beq];exact decide_eq_true g0
  have s0:r.m.toList=r'.m.toList:=(toList_iff _ _).2 g0;have t1:(r.x.toList==r'.x.toList)=true:=by rw [ba_beq];exact decide_eq_true g1
  have s1:r.x.toList=r'.x.toList:=(toList_iff _ _).2 g1;have t2:(r.k==r'.k)=true:=beq_iff_eq.2 g2;rw [decide_eq_true g3] at HF1;have t4:(r.ch==r'.ch)=false:=beq_eq_false_iff_ne.2 g4;clear g0 g1 g2 g3 g4;exact XXPZS
 by_cases g5:r.body=r'.body
 rotate_left
 ·have e:same r r'=false:=by unfold same;simp [g0,g1,g2,g3,g4,g5]
  rw [e];clear e;have t0:(r.m.toList==r'.m.toList)=true:=by rw [ba_beq];exact decide_eq_true g0
  have s0:r.m.toList=r'.m.toList:=(toList_iff _ _).2 g0;have t1:(r.x.toList==r'.x.toList)=true:=by rw [ba_beq];exact decide_eq_true g1
  have s1:r.x.toList=r'.x.toList:=(toList_iff _ _).2 g1;have t2:(r.k==r'.k)=true:=beq_iff_eq.2 g2;rw [decide_eq_true g3] at HF1;have t4:(r.ch==r'.ch)=true:=beq_iff_eq.2 g4
  have t5:((Txt.ba r.body).toList==(Txt.ba r'.body).toList)=false:=by rw [ba_beq];exact decide_eq_false (fun h=>g5 (ba_list_inj.1 h))
  have s5:¬(Txt.ba r.body).toList=(Txt.ba r'.body).toList:=fun h=>g5 (ba_list_inj.1 ((toList_iff _ _).1 h));clear g0 g1 g2 g3 g4 g5;exact XXPZS
 by_cases g6:r.ts=r'.ts
 rotate_left
 ·have e:same r r'=false:=by unfold same;simp [g0,g1,g2,g3,g4,g5,g6]
  rw [e];clear e;have t0:(r.m.toList==r'.m.toList)=true:=by rw [ba_beq];exact decide_eq_true g0
  have s0:r.m.toList=r'.m.toList:=(toList_iff _ _).2 g0;have t1:(r.x.toList==r'.x.toList)=true:=by rw [ba_beq];exact decide_eq_true g1
  have s1:r.x.toList=r'.x.toList:=(toList_iff _ _).2 g1;have t2:(r.k==r'.k)=true:=beq_iff_eq.2 g2;rw [decide_eq_true g3] at HF1;have t4:(r.ch==r'.ch)=true:=beq_iff_eq.2 g4
  have t5:((Txt.ba r.body).toList==(Txt.ba r'.body).toList)=true:=by rw [ba_beq];exact decide_eq_true (by rw [g5])
  have s5:(Txt.ba r.body).toList=(Txt.ba r'.body).toList:=(toList_iff _ _).2 (by rw [g5]);rw [decide_eq_false g6] at HF2;exact XXi6S
 have e:same r r'=true:=by unfold same;simp [g0,g1,g2,g3,g4,g5,g6]
 rw [e];clear e;have t0:(r.m.toList==r'.m.toList)=true:=by rw [ba_beq];exact decide_eq_true g0
 have s0:r.m.toList=r'.m.toList:=(toList_iff _ _).2 g0;have t1:(r.x.toList==r'.x.toList)=true:=by rw [ba_beq];exact decide_eq_true g1
 have s1:r.x.toList=r'.x.toList:=(toList_iff _ _).2 g1;have t2:(r.k==r'.k)=true:=beq_iff_eq.2 g2;rw [decide_eq_true g3] at HF1;have t4:(r.ch==r'.ch)=true:=beq_iff_eq.2 g4
 have t5:((Txt.ba r.body).toList==(Txt.ba r'.body).toList)=true:=by rw [ba_beq];exact decide_eq_true (by rw [g5])
 have s5:(Txt.ba r.body).toList=(Txt.ba r'.body).toList:=(toList_iff _ _).2 (by rw [g5]);rw [decide_eq_true g6] at HF2;exact XXi6S
end code
end Go.Proofs.YtnabkcglnbdfeaaGreatDoor.Rec
namespace Go.Proofs.YtnabkcglnbdfeaaGreatDoor.Rec
open Go.RowKit Base Txt
def RecAt (w:World) (b o:Nat) (r:R):Prop:=
 ∃(fa:Option Addr) (fc:Nat) (ba:Option Addr) (bc:Nat) (ta:Option Addr) (tc:Nat),
  (w.cell? ⟨b,o,none⟩=some (.string r.m)∧w.cell? ⟨b,o+1,none⟩=some (.string r.x)∧w.cell? ⟨b,o+2,none⟩=some (.int .i64 r.k)∧w.cell? ⟨b,o+3,none⟩=some (.slice fa r.fs.length fc)∧
   w.cell? ⟨b,o+4,none⟩=some (.bool r.ch)∧w.cell? ⟨b,o+5,none⟩=some (.slice ba r.body.length bc)∧w.cell? ⟨b,o+6,none⟩=some (.slice ta r.ts.length tc))∧
  Reads w (.agg #[.string r.m,.string r.x,.int .i64 r.k,.slice fa r.fs.length fc,.bool r.ch,.slice ba r.body.length bc,.slice ta r.ts.length tc]) r
theorem RecAt.below {w w':World} {b o:Nat} {r:R} (h:RecAt w b o r) (hlt:b<w.heap.size) (hb:Below w.heap.size w w'):RecAt w' b o r:=by
 obtain ⟨fa,fc,ba,bc,ta,tc,⟨c0,c1,c2,c3,c4,c5,c6⟩,hr⟩:=h
 exact ⟨fa,fc,ba,bc,ta,tc,⟨(hb.cell (p:=⟨b,o,none⟩) hlt).trans c0,(hb.cell (p:=⟨b,o+1,none⟩) hlt).trans c1,(hb.cell (p:=⟨b,o+2,none⟩) hlt).trans c2,(hb.cell (p:=⟨b,o+3,none⟩) hlt).trans c3,
  (hb.cell (p:=⟨b,o+4,none⟩) hlt).trans c4,(hb.cell (p:=⟨b,o+5,none⟩) hlt).trans c5,(hb.cell (p:=⟨b,o+6,none⟩) hlt).trans c6⟩,hr.below hb⟩
def r0:R:=⟨A6,A6,0,[],false,[],[]⟩
def Recs (w:World) (a:Option Addr) (n:Nat) (rs:List R):Prop:=
 rs.length=n∧(0<n→∃b off,a=some ⟨b,off,none⟩∧b<w.heap.size∧∀k,k<n→RecAt w b (off+k*7) (rs[k]?.getD r0))
theorem Recs.below {w w':World} {a:Option Addr} {n:Nat} {rs:List R} (h:Recs w a n rs) (hb:Below w.heap.size w w'):Recs w' a n rs:=by exact XXsyZ
theorem all_iff:∀a b:List R,all a b=true↔a=b
 | [],[]=>by simp [all]
 | [],_ :: _=>by simp [all]
 | _ :: _,[]=>by simp [all]
 | x::a,y::b=>by rw [all,An,same_iff,all_iff a b,List.cons.injEq]
theorem all_len (a b:List R) (h:¬a.length=b.length):all a b=false:=by
 rw [Bool.eq_false_iff]
 exact fun e=>h (by rw [(all_iff a b).1 e])
theorem all_self (a:List R):all a a=true:=(all_iff a a).2 rfl
theorem take_eq (xs ys:List R) (k:Nat) (hx:k<xs.length) (hy:k<ys.length) (h:xs.take k=ys.take k) (e:xs[k]?.getD r0=ys[k]?.getD r0):xs.take (k+1)=ys.take (k+1):=by exact XXzUO
theorem fit_at {rs:List R} (h:∀r∈rs,Fit r) (k:Nat) (hk:k<rs.length):Fit (rs[k]?.getD r0):=by rw [BS hk];exact h _ (Ca hk)
section code
set_option maxHeartbeats 2000000
theorem XX1o1 {P:Prop} (h:P:=by refine AJ rfl (fun ev w1 hR hb hh=>?_);have e0:=hR.old 0 rfl;have e5:=hR.old 5 rfl;have e1:=hR.old 1 rfl;simp only [Af,BY,BQ,BR,Di] at e0 e5 e1;exact Each.std):P:=h
theorem rall_any (a:Option Addr) (n cap:Nat) (rs:List R) (b:Option Addr) (m cap2:Nat) (qs:List R) (w:World) (hv:Recs w a n rs) (hu:Recs w b m qs) (hn:n≤1000000000) (hm:m≤1000000000) (hf:∀r∈rs,Fit r) (hg:∀r∈qs,Fit r) :
 Calls EL 22 #[.slice a n cap,.slice b m cap2] w fun e w'=>e=.returned (.bool (all rs qs))∧Below w.heap.size w w':=by
 have HV:=Bo hv;have HU:=Bo hu;have HF:=Bo hf;have HG:=Bo hg;have HL:=Bo hv.1;have HM:=Bo hu.1;by_cases hnm:n=m
 ·subst hnm;clear hv hu hf hg;obtain ⟨B,hB⟩:∃B,all rs qs=B:=⟨_,rfl⟩;rw [hB];have HB:=Bo hB;clear hB;go_enter Tryz.func22,Tryz.ntmps22;go_wp2
  go_loopw [5] (fun i wr=>∃k:Nat,k≤n∧i=.int .i64 k∧Hid (rs.take k=qs.take k)∧Hid (Below w.heap.size w wr)) (fun i _=>n-(intOf i).toNat)
  case atStart=>exact ⟨0,CY _,rfl,Bo rfl,Bo (Am _ _)⟩
  case round=>
   obtain ⟨k,hk,rfl,hpre,hbr⟩:=hrel;rcases CW k n with hlt | hge
   ·obtain ⟨bl,off,rfl,hbl,hc⟩:=(HV.out.below hbr.out).2 (by omega)
    obtain ⟨bl',off',rfl,hbl',hc'⟩:=(HU.out.below hbr.out).2 (by omega);have hkr:k<rs.length:=by rw [HL.out];exact hlt
    have hkq:k<qs.length:=by rw [HM.out];exact hlt
    have h1:=hc k hlt;have h2:=hc' k hlt;have f1:=fit_at HF.out k hkr;have f2:=fit_at HG.out k hkq
    have HN:=Bo (take_eq rs qs k hkr hkq hpre.out)
    have HX:=Bo (show rs=qs→rs[k]?.getD r0=qs[k]?.getD r0 from fun e=>by rw [e]);clear hc hc' hkr hkq;generalize rs[k]?.getD r0=x at *;generalize qs[k]?.getD r0=y at *;obtain ⟨fa,fc,ba,bc,ta,tc,⟨c0,c1,c2,c3,c4,c5,c6⟩,hr1⟩:=h1;obtain ⟨fa',fc',ba',bc',ta',tc',⟨d0,d1,d2,d3,d4,d5,d6⟩,hr2⟩:=h2
    have HC:=Bo (fun w2 (hb:Below wr.heap.size wr w2)=>rsame_any _ _ _ _ w2 (hr1.below hb) (hr2.below hb) f1 f2)
    have HCE:=Bo (show∀w1,Below wr.heap.size wr w1→(w1.cell? ⟨bl,off+k*7,none⟩=some (.string x.m)∧w1.cell? ⟨bl,off+k*7+1,none⟩=some (.string x.x)∧w1.cell? ⟨bl,off+k*7+2,none⟩=some (.int .i64 x.k)∧w1.cell? ⟨bl,off+k*7+3,none⟩=some (.slice fa x.fs.length fc)∧w1.cell? ⟨bl,off+k*7+4,none⟩=some (.bool x.ch)∧w1.cell? ⟨bl,off+k*7+5,none⟩=some (.slice ba x.body.length bc)∧w1.cell? ⟨bl,off+k*7+6,none⟩=some (.slice ta x.ts.length tc)) from
     fun w1 hb=>⟨(hb.cell (p:=⟨bl,off+k*7,none⟩) hbl).trans c0,(hb.cell (p:=⟨bl,off+k*7+1,none⟩) hbl).trans c1,(hb.cell (p:=⟨bl,off+k*7+2,none⟩) hbl).trans c2,(hb.cell (p:=⟨bl,off+k*7+3,none⟩) hbl).trans c3,(hb.cell (p:=⟨bl,off+k*7+4,none⟩) hbl).trans c4,(hb.cell (p:=⟨bl,off+k*7+5,none⟩) hbl).trans c5,(hb.cell (p:=⟨bl,off+k*7+6,none⟩) hbl).trans c6⟩)
    have HCD:=Bo (show∀w1,Below wr.heap.size wr w1→(w1.cell? ⟨bl',off'+k*7,none⟩=some (.string y.m)∧w1.cell? ⟨bl',off'+k*7+1,none⟩=some (.string y.x)∧w1.cell? ⟨bl',off'+k*7+2,none⟩=some (.int .i64 y.k)∧w1.cell? ⟨bl',off'+k*7+3,none⟩=some (.slice fa' y.fs.length fc')∧w1.cell? ⟨bl',off'+k*7+4,none⟩=some (.bool y.ch)∧w1.cell? ⟨bl',off'+k*7+5,none⟩=some (.slice ba' y.body.length bc')∧w1.cell? ⟨bl',off'+k*7+6,none⟩=some (.slice ta' y.ts.length tc')) from
     fun w1 hb=>⟨(hb.cell (p:=⟨bl',off'+k*7,none⟩) hbl').trans d0,(hb.cell (p:=⟨bl',off'+k*7+1,none⟩) hbl').trans d1,(hb.cell (p:=⟨bl',off'+k*7+2,none⟩) hbl').trans d2,(hb.cell (p:=⟨bl',off'+k*7+3,none⟩) hbl').trans d3,(hb.cell (p:=⟨bl',off'+k*7+4,none⟩) hbl').trans d4,(hb.cell (p:=⟨bl',off'+k*7+5,none⟩) hbl').trans d5,(hb.cell (p:=⟨bl',off'+k*7+6,none⟩) hbl').trans d6⟩)
    have i1:(k:Int)<(n:Int):=by omega
    clear hr1 hr2 f1 f2 c0 c1 c2 c3 c4 c5 c6 d0 d1 d2 d3 d4 d5 d6
    have hdr:=Bo (Aj (Am wr.heap.size wr) 1);obtain ⟨z,hz⟩:∃z,same x y=z:=⟨_,rfl⟩;rw [hz] at HC;have HZ:=Bo hz;clear hz;go_wp2_with fail;refine AO 10 [17,18,19,20,21,22,23,24,25,26] [eQ (.slice (some ⟨bl,off,none⟩) n cap),eQ (.int .i64 ((k:Nat):Int)),eP bl (off+k*7),eQ (.agg #[.string x.m,.string x.x,.int .i64 x.k,.slice fa x.fs.length fc,.bool x.ch,.slice ba x.body.length bc,.slice ta x.ts.length tc]),eQ ((.slice (some ⟨bl',off',none⟩) n cap2)),eQ (.int .i64 ((k:Nat):Int)),eP bl' (off'+k*7),eQ (.agg #[.string y.m,.string y.x,.int .i64 y.k,.slice fa' y.fs.length fc',.bool y.ch,.slice ba' y.body.length bc',.slice ta' y.ts.length tc']),eQ (.bool z),eQ (.bool (!z))] (by kernel_rfl) (by kernel_rfl) (by kernel_rfl) (by kernel_rfl) (fun _ _ d _ _ h=>by cases d<;>exact h) (by rfl) (by rfl) (by repeat first | exact trivial | refine ⟨AI _,?_⟩) ?_ ?_
    ·refine ⟨?_,?_,?_,?_,?_,?_,?_,?_,?_,?_,trivial⟩
     ·exact XX1o1
     ·exact XX1o1
     ·exact XX1o1
     ·refine AJ rfl (fun ev w1 hR hb hh=>?_);have e19:ev (.tmp 19)= _:=hh.at 0;clear hh
      obtain ⟨q0,q1,q2,q3,q4,q5,q6⟩:=HCE.out w1 (hdr.out.trans (hb.mono (CQ _)));exact XXqTe
     ·exact XX1o1
     ·exact XX1o1
     ·exact XX1o1
     ·refine AJ rfl (fun ev w1 hR hb hh=>?_);have e23:ev (.tmp 23)= _:=hh.at 0;clear hh
      obtain ⟨q0,q1,q2,q3,q4,q5,q6⟩:=HCD.out w1 (hdr.out.trans (hb.mono (CQ _)));exact XXqTe
     ·refine AJ rfl (fun ev w1 hR hb hh=>?_);have e20:ev (.tmp 20)= _:=hh.at 0;have e24:ev (.tmp 24)= _:=hh.at 1;clear hh;have ef:=hR.func
      refine AE 48 #[.agg #[.string x.m,.string x.x,.int .i64 x.k,.slice fa x.fs.length fc,.bool x.ch,.slice ba x.body.length bc,.slice ta x.ts.length tc],.agg #[.string y.m,.string y.x,.int .i64 y.k,.slice fa' y.fs.length fc',.bool y.ch,.slice ba' y.body.length bc',.slice ta' y.ts.length tc']] (by go_simp) ((HC.out w1 (hdr.out.trans (hb.mono (CQ _)))).mono ?_);rintro e w2 ⟨rfl,hb2⟩;exact ⟨_,rfl,hb2,rfl⟩
     ·exact XX1o1
    intro g1 w2 hb hf;have z26:g1 26= _:=hf.at 9;clear hf;simp only [AM,Ab,C7,CA,C9];rw [z26]
    have H3:=Bo (Ak hbr.out hb);clear hb;cases z with
    | true=>
      have HE:=Bo (HN.out ((same_iff _ _).1 HZ.out));clear HN HX HZ;go_wp2;go_roundw
      case rel=>exact ⟨k+1,by omega,by go_num,HE,H3⟩
      case measure=>simp [intOf];omega
    | false=>
      have HE:=Bo (show B=false by
       rw [←HB.out,Bool.eq_false_iff];intro e
       have:=(same_iff _ _).2 (HX.out ((all_iff _ _).1 e));rw [HZ.out] at this;cases this)
      clear HN HX HZ;go_wp2;go_ret;exact ⟨by first | rfl |(rw [HE.out];rfl),H3.out⟩
   ·obtain rfl:k=n:=by omega
    have HE:=Bo (show B=true by
     rw [←HB.out,all_iff];have:=hpre.out
     rwa [CD (by rw [HL.out];omega),CD (by rw [HM.out];omega)] at this)
    clear hpre;go_wp2;go_ret;exact ⟨by first | rfl |(rw [HE.out];rfl),hbr.out⟩
 ·have e:all rs qs=false:=all_len rs qs (by rw [hv.1,hu.1];exact hnm);have t0:((n:Int)==(m:Int))=false:=by rw [beq_eq_false_iff_ne];omega
  have t1:¬(n:Int)=(m:Int):=by omega
  rw [e];clear hv hu hf hg e hnm;go_enter Tryz.func22,Tryz.ntmps22;go_wp2;go_ret;exact ⟨rfl,Am _ _⟩
end code
end Go.Proofs.YtnabkcglnbdfeaaGreatDoor.Rec
namespace Go.Proofs.YtnabkcglnbdfeaaGreatDoor.Flt
open Go.RowKit Base Txt Par Pg
structure F where
 x:Q
 y:Q
 code:Nat
 parted:Bool
def F.judge (f:F) (s l:Nat) (alike:Bool):F:=
 if s≠0 then {f with code:=s,parted:=l==0} else if (!(l==0) || !alike)=true then {f with code:=400,parted:=true} else f
section
variable (p:Nat) (b:Bd)
def F.look (f:F) (c:UInt8):F × List Dx:=
 let x:=f.x.byte 0 b c
 let y:=f.y.byte p b c
 (F.judge ⟨x.told,y.told,f.code,f.parted⟩ x.err y.err (Rec.all x.out y.out),if Rec.all x.out y.out=true then x.out else [])
def F.byte (f:F) (c:UInt8):F × List Dx:=if f.code=0 then f.look p b c else (f,[])
def F.feed:F→List UInt8→F × List Dx
 | f,[]=>(f,[])
 | f,c::l=>((F.feed (f.byte p b c).1 l).1,(f.byte p b c).2++(F.feed (f.byte p b c).1 l).2)
def F.new:F:=⟨Q.new 0 b,Q.new p b,(Q.new p b).err,false⟩
def F.held (f:F):Nat:=max f.x.held f.y.held
end
section
variable {p:Nat} {b:Bd}
theorem told_out (x:Q):x.told.out= []:=by cases x<;>rfl
def F.Just (p:Nat) (b:Bd) (f:F):Prop:=
 (f.code=0∧f.parted=false∧∃t,f.x=.live t∧t.Strict∧t.out= []∧f.y=.live (t.wide p)∧t.Ok∧b.right=true∧∃s,RR 0 b t s)∨(f.code≠0∧∃o,f.x=.dead f.code o)
theorem Ok.fit {t:T} (h:t.Ok):Rec.Fit t.r:=
 ⟨by have:=h.m;omega,by have:=h.x;omega,by have:=h.fsl;have:=h.hl;omega,fun y hy=>by have:=h.fss y hy;have:=h.hl;omega,by have:=h.body;omega,by have:=h.tsl;have:=h.bl;omega,fun y hy=>by have:=h.tss y hy;have:=h.bl;omega⟩
theorem line_told (t:T) (s:List UInt8):(t.line p b s).2.out=t.out∨(t.line p b s).2.out=t.out ++ [t.r]:=by
 unfold T.line;split
 ·unfold T.first;split
  ·exact .inl rfl
  ·simp only;split<;>exact .inl rfl
 ·split
  ·unfold T.fields;split
   ·unfold T.endHead;simp only;split
    ·exact .inl rfl
    ·split
     ·exact .inl rfl
     ·split
      ·exact .inr rfl
      ·exact .inl rfl
   ·exact .inl rfl
  ·split
   ·unfold T.chunk;simp only;split
    ·exact .inl rfl
    ·split
     ·exact .inl rfl
     ·split<;>exact .inl rfl
   ·split
    ·unfold T.trail;split
     ·exact .inr rfl
     ·exact .inl rfl
    ·exact .inl rfl
theorem ends_out (x:Nat × T):(ends x).out=x.2.out:=by unfold ends;split<;>rfl
def Fits (o:List Dx):Prop:=∀r∈o,Rec.Fit r
theorem inLine_fits {t:T} (h:Fits t.out) (ok:t.Ok) (c:UInt8):Fits (t.inLine p b c).1.out:=by
 unfold T.inLine;simp only;split
 ·exact h
 ·split
  ·exact h
  ·split
   ·split
    ·exact h
    ·exact h
   ·show Fits (ends _).out;rw [ends_out];have hf:Rec.Fit t.r:=Ok.fit ok;rcases line_told (p:=p) (b:=b) {t with rd:=t.rd.byte c} (t.rd.byte c).line with e | e
    ·rw [e];exact h
    ·rw [e];intro r hr;rcases List.mem_append.1 hr with hr | hr
     ·exact h r hr
     ·rw [C1.1 hr];exact hf
theorem look_fits {t:T} (h:Fits t.out) (ok:t.Ok) (hb:b.right=true) (c:UInt8):Fits (t.look p b c).1.out:=by
 unfold T.look;split
 ·rename_i hs;have hk:Rec.Fit (t.keep c).r:=by
   have h1:=Ok.fit ok;have h2:=ok.left hs;exact ⟨h1.m,h1.x,h1.fs,h1.f,by have:=ok.body;show (t.r.body ++ [c]).length≤_;rw [Ch,List.length_singleton];omega,h1.ts,h1.t⟩
  show Fits (if t.left=1 then (t.keep c).endData p else t.keep c).out;split
  ·unfold T.endData;split
   ·exact h
   ·intro r hr;rcases List.mem_append.1 hr with hr | hr
    ·exact h r hr
    ·rw [C1.1 hr];exact hk
  ·exact h
 ·split
  ·rename_i hh;split
   ·show Fits t.out;exact h
   ·rename_i hx;exact inLine_fits (by rw [counted_out];exact h) (ok.counted hb hx) c
  ·exact inLine_fits h ok c
theorem byte_fits {x:Q} (h:Fits x.out) (ok:x.Fine b) (c:UInt8):Fits (x.byte p b c).out:=by
 cases x with
 | dead e o=>exact h
 | live t=>
   obtain ⟨h1,h2⟩:=ok;show Fits (t.take p b c).out;unfold T.take;have k1:=look_fits (p:=p) (b:=b) (t:={t with cnt:=false}) h h1.cleared h2 c;rcases hq:T.look p b {t with cnt:=false} c with ⟨q,u⟩;rw [hq] at k1;cases q with
   | dead e o=>cases u<;>exact k1
   | live t1=>
     cases u with
     | true=>exact k1
     | false=>exact look_fits k1 (h1.cleared.look h2 c (by rw [hq])) h2 c
end
end Go.Proofs.YtnabkcglnbdfeaaGreatDoor.Flt
namespace Go.Proofs.YtnabkcglnbdfeaaGreatDoor.Flt
open Go.RowKit Base Txt Mem Par Pg Each
abbrev fcells (g1 g2:Nat) (code:Nat) (pt:Bool):List Value:= [ptr g1,ptr g2,.int .i64 (code:Int),.bool pt]
structure FAt (w:World) (B g g1 g2 p:Nat) (b:Bd) (L1 L2:List (Option Nat)) (f:F):Prop where
 row:w.heap[g]?=some (.cells (fcells g1 g2 f.code f.parted).toArray 80 (0,0))
 x:∃Z,At w ⟨B,Z⟩ g1 0 b L1 f.x
 y:∃Z,At w ⟨B,Z⟩ g2 p b L2 f.y
 dis:Dis L1 L2
 n1:some g∉L1
 n2:some g∉L2
 ge:B≤g
 xo:f.x.out= []
 yo:f.y.out= []
 xk:f.x.Ok b
 yk:f.y.Ok b
abbrev fblks (g:Nat) (L1 L2:List (Option Nat)):List (Option Nat):=some g::(L1++L2)
section
variable {w w':World} {B g g1 g2 p:Nat} {b:Bd} {L1 L2 M:List (Option Nat)} {f:F}
structure Fix (M:List (Option Nat)) (w:World) (g:Nat) (cs:List Value):Prop where
 row:∃ty,w.heap[g]?=some (.cells cs.toArray ty (0,0))
 off:some g∉M
def OneBy (M:List (Option Nat)) (a:Option Addr) (c:Nat):Fact:=fun v w=>∃k,v=.slice (some ⟨k,0,none⟩) 1 1∧k<w.heap.size∧some k∉M∧w.cell? ⟨k,0,none⟩=some (.slice a 1 c)
def ToldBy (A' C C':World→List (Option Nat)→Prop) (L2 Z:List (Option Nat)) (B:Nat) (out:List Dx):Fact:=fun v w=>∃M1 M2,A' w M1∧(C w M2∨C' w M2)∧Dis M1 L2∧Pg.Told M1 ⟨B,L2++(M2++Z)⟩ w v out
variable {A A' C C':World→List (Option Nat)→Prop} {Z:List (Option Nat)} {out:List Dx} {i1 i2 k:Nat} {l:List Oper}
end
end Go.Proofs.YtnabkcglnbdfeaaGreatDoor.Flt
namespace Go.Proofs.YtnabkcglnbdfeaaGreatDoor.Flt
open Go.RowKit Base Txt Mem Par Pg Each
section code
set_option maxHeartbeats 4000000
set_option maxRecDepth 20000
attribute [local go_sem] Al
variable {w:World} {B g g1 g2 p:Nat} {b:Bd} {L1 L2:List (Option Nat)} {f:F}
abbrev Has (B g p:Nat) (b:Bd) (X:Q):World→List (Option Nat)→Prop:=fun w L=>∃Z,At w ⟨B,Z⟩ g p b L X
end code
end Go.Proofs.YtnabkcglnbdfeaaGreatDoor.Flt
namespace Go.Proofs.YtnabkcglnbdfeaaGreatDoor.Flt
open Go.RowKit Base Txt Mem Par Pg Each
section
variable {w w' w0 w1:World} {B g g1 g2 p:Nat} {b:Bd} {L L' L1 L2 N1 N2 M1 M2 Z:List (Option Nat)} {f f':F} {V U:Value} {out out2:List Dx}
structure FS (w0:World) (B g g1 g2 p:Nat) (b:Bd) (Z L1 L2:List (Option Nat)) (f:F) (V:Value) (out:List Dx) (N1 N2:List (Option Nat)) (w:World):Prop where
 fat:FAt w B g g1 g2 p b N1 N2 f
 outs:Outs (V.ownBlock::fblks g N1 N2) ⟨w0.heap.size,Z⟩ w V out
 far:∀k,V.ownBlock=some k→some k∉fblks g N1 N2
 zone:Clear w Z (V.ownBlock::fblks g N1 N2)
 keeps:Keeps (fblks g L1 L2) w0 w
 of:Of w0 (fblks g L1 L2) (fblks g N1 N2)
end
end Go.Proofs.YtnabkcglnbdfeaaGreatDoor.Flt
namespace Go.Proofs.YtnabkcglnbdfeaaGreatDoor.Flt
open Go.RowKit Base Txt Mem Par Pg Each
structure PartsC (L:List (Option Nat)) (w:World) (a:Option Addr) (ls:List (List UInt8)):Prop where
 cells:0<ls.length→∃bk off,a=some ⟨bk,off,none⟩∧bk<w.heap.size∧some bk∉L∧∀k (hk:k<ls.length),∃ak ck,w.cell? ⟨bk,off+k,none⟩=some (.slice ak ls[k].length ck)∧ls[k].length≤ck∧(ls[k]≠ []→Bts L w ak ls[k])
section code
set_option maxHeartbeats 4000000
set_option maxRecDepth 20000
attribute [local go_sem] Al
variable {w:World} {B g g1 g2 p:Nat} {b:Bd} {L1 L2:List (Option Nat)} {f:F}
end code
end Go.Proofs.YtnabkcglnbdfeaaGreatDoor.Flt
namespace Go.Proofs.YtnabkcglnbdfeaaGreatDoor.Flt
open Go.RowKit Base Txt Mem Par Pg Each
section code
set_option maxHeartbeats 8000000
set_option maxRecDepth 20000
attribute [local go_sem] Al
variable {p:Nat} {b:Bd}
abbrev bdL (b:Bd):List Value:= [.int .i64 b.x0,.int .i64 b.x1,.int .i64 b.x2,.int .i64 b.x3,.int .i64 b.x4,.int .i64 b.x5,.int .i64 b.x6,.int .i64 b.x7,.bool b.ch,.bool b.od]
structure Pair (w0 w:World) (g1 g2 p:Nat) (b:Bd) (L1 L2:List (Option Nat)):Prop where
 x:At w ⟨w0.heap.size,[]⟩ g1 0 b L1 (Q.new 0 b)
 y:At w ⟨w0.heap.size,[]⟩ g2 p b L2 (Q.new p b)
 dis:Dis L1 L2
 bel:Below w0.heap.size w0 w
theorem new_out:(Q.new p b).out= []:=by unfold Q.new;split<;>rfl
end code
end Go.Proofs.YtnabkcglnbdfeaaGreatDoor.Flt
namespace Go.Proofs.YtnabkcglnbdfeaaGreatDoor.Rq
open Go.RowKit Base Txt
theorem strs_at (w:World) (t:TypeId) (ss:List ByteArray) (k:Nat) (hk:k<ss.length):(w.alloc (.cells ((ss.map Value.string).toArray) t)).cell? ⟨w.heap.size,k,none⟩=some (.string (ss[k]?.getD A6)):=by rw [cell_of_row (w.alloc _) w.heap.size k _ t (0,0) (heap_alloc_new w _)];simp [BS hk]
theorem val_at (ss:List ByteArray) (k:Nat) (hk:k<ss.length):(ss.map Value.string)[k]'(by rw [Cn];exact hk)=.string (ss[k]?.getD A6):=by simp [BS hk]
theorem size_at (ss:List ByteArray) (m:Nat) (h:ss.all (fun x=>decide (x.size≤m))=true) (k:Nat) (hk:k<ss.length):(ss[k]?.getD A6).size≤m:=by
 rw [List.all_eq_true] at h;rw [BS hk,Di]
 simpa using h _ (Ca hk)
theorem tgts_at (k:Nat) (hk:k<12):∃X:ByteArray,X.size≤17∧(∀w:World,(w.alloc (.cells #[.string ⟨#[47]⟩,.string ⟨#[47,97]⟩,.string ⟨#[47,97,47,98,63,120,61,49]⟩,.string ⟨#[47,97,47,46,46,47,98]⟩,.string ⟨#[47,37,52,49,47,99]⟩,.string ⟨#[42]⟩,.string ⟨#[104,116,116,112,58,47,47,104,46,111,114,103,47,113,63]⟩,.string ⟨#[47,118,49,47,105,116,101,109,47,55]⟩,.string ⟨#[47,120,32,121]⟩,.string ⟨#[47,113,1]⟩,.string ⟨#[47,115,116,97,116,105,99,47,99,115,115,47,109,46,99,115,115]⟩,.string ⟨#[104,116,116,112,58,47,47,97]⟩] 9)).cell? ⟨w.heap.size,k,none⟩=some (.string X))∧∀hh,([.string ⟨#[47]⟩,.string ⟨#[47,97]⟩,.string ⟨#[47,97,47,98,63,120,61,49]⟩,.string ⟨#[47,97,47,46,46,47,98]⟩,.string ⟨#[47,37,52,49,47,99]⟩,.string ⟨#[42]⟩,.string ⟨#[104,116,116,112,58,47,47,104,46,111,114,103,47,113,63]⟩,.string ⟨#[47,118,49,47,105,116,101,109,47,55]⟩,.string ⟨#[47,120,32,121]⟩,.string ⟨#[47,113,1]⟩,.string ⟨#[47,115,116,97,116,105,99,47,99,115,115,47,109,46,99,115,115]⟩,.string ⟨#[104,116,116,112,58,47,47,97]⟩]:List Value)[k]'hh=.string X:=
 ⟨_,size_at [⟨#[47]⟩,⟨#[47,97]⟩,⟨#[47,97,47,98,63,120,61,49]⟩,⟨#[47,97,47,46,46,47,98]⟩,⟨#[47,37,52,49,47,99]⟩,⟨#[42]⟩,⟨#[104,116,116,112,58,47,47,104,46,111,114,103,47,113,63]⟩,⟨#[47,118,49,47,105,116,101,109,47,55]⟩,⟨#[47,120,32,121]⟩,⟨#[47,113,1]⟩,⟨#[47,115,116,97,116,105,99,47,99,115,115,47,109,46,99,115,115]⟩,⟨#[104,116,116,112,58,47,47,97]⟩] 17 (by decide) k hk,fun w=>strs_at w 9 [⟨#[47]⟩,⟨#[47,97]⟩,⟨#[47,97,47,98,63,120,61,49]⟩,⟨#[47,97,47,46,46,47,98]⟩,⟨#[47,37,52,49,47,99]⟩,⟨#[42]⟩,⟨#[104,116,116,112,58,47,47,104,46,111,114,103,47,113,63]⟩,⟨#[47,118,49,47,105,116,101,109,47,55]⟩,⟨#[47,120,32,121]⟩,⟨#[47,113,1]⟩,⟨#[47,115,116,97,116,105,99,47,99,115,115,47,109,46,99,115,115]⟩,⟨#[104,116,116,112,58,47,47,97]⟩] k hk,fun hh=>by
   have h2:=val_at [⟨#[47]⟩,⟨#[47,97]⟩,⟨#[47,97,47,98,63,120,61,49]⟩,⟨#[47,97,47,46,46,47,98]⟩,⟨#[47,37,52,49,47,99]⟩,⟨#[42]⟩,⟨#[104,116,116,112,58,47,47,104,46,111,114,103,47,113,63]⟩,⟨#[47,118,49,47,105,116,101,109,47,55]⟩,⟨#[47,120,32,121]⟩,⟨#[47,113,1]⟩,⟨#[47,115,116,97,116,105,99,47,99,115,115,47,109,46,99,115,115]⟩,⟨#[104,116,116,112,58,47,47,97]⟩] k hk
   exact h2⟩
theorem meths_at (k:Nat) (hk:k<8):∃X:ByteArray,X.size≤7∧(∀w:World,(w.alloc (.cells #[.string ⟨#[71,69,84]⟩,.string ⟨#[80,79,83,84]⟩,.string ⟨#[79,80,84,73,79,78,83]⟩,.string ⟨#[72,69,65,68]⟩,.string ⟨#[80,85,84]⟩,.string ⟨#[68,69,76,69,84,69]⟩,.string ⟨#[71,40,84]⟩,.string ⟨#[67,79,78,78,69,67,84]⟩] 9)).cell? ⟨w.heap.size,k,none⟩=some (.string X))∧∀hh,([.string ⟨#[71,69,84]⟩,.string ⟨#[80,79,83,84]⟩,.string ⟨#[79,80,84,73,79,78,83]⟩,.string ⟨#[72,69,65,68]⟩,.string ⟨#[80,85,84]⟩,.string ⟨#[68,69,76,69,84,69]⟩,.string ⟨#[71,40,84]⟩,.string ⟨#[67,79,78,78,69,67,84]⟩]:List Value)[k]'hh=.string X:=
 ⟨_,size_at [⟨#[71,69,84]⟩,⟨#[80,79,83,84]⟩,⟨#[79,80,84,73,79,78,83]⟩,⟨#[72,69,65,68]⟩,⟨#[80,85,84]⟩,⟨#[68,69,76,69,84,69]⟩,⟨#[71,40,84]⟩,⟨#[67,79,78,78,69,67,84]⟩] 7 (by decide) k hk,fun w=>strs_at w 9 [⟨#[71,69,84]⟩,⟨#[80,79,83,84]⟩,⟨#[79,80,84,73,79,78,83]⟩,⟨#[72,69,65,68]⟩,⟨#[80,85,84]⟩,⟨#[68,69,76,69,84,69]⟩,⟨#[71,40,84]⟩,⟨#[67,79,78,78,69,67,84]⟩] k hk,fun hh=>by
   have h2:=val_at [⟨#[71,69,84]⟩,⟨#[80,79,83,84]⟩,⟨#[79,80,84,73,79,78,83]⟩,⟨#[72,69,65,68]⟩,⟨#[80,85,84]⟩,⟨#[68,69,76,69,84,69]⟩,⟨#[71,40,84]⟩,⟨#[67,79,78,78,69,67,84]⟩] k hk
   exact h2⟩
theorem gaps_at (k:Nat) (hk:k<4):∃X:ByteArray,X.size≤3∧(∀w:World,(w.alloc (.cells #[.string ⟨#[32]⟩,.string ⟨#[32,32]⟩,.string ⟨#[9]⟩,.string ⟨#[32,9,32]⟩] 9)).cell? ⟨w.heap.size,k,none⟩=some (.string X))∧∀hh,([.string ⟨#[32]⟩,.string ⟨#[32,32]⟩,.string ⟨#[9]⟩,.string ⟨#[32,9,32]⟩]:List Value)[k]'hh=.string X:=
 ⟨_,size_at [⟨#[32]⟩,⟨#[32,32]⟩,⟨#[9]⟩,⟨#[32,9,32]⟩] 3 (by decide) k hk,fun w=>strs_at w 9 [⟨#[32]⟩,⟨#[32,32]⟩,⟨#[9]⟩,⟨#[32,9,32]⟩] k hk,fun hh=>by
   have h2:=val_at [⟨#[32]⟩,⟨#[32,32]⟩,⟨#[9]⟩,⟨#[32,9,32]⟩] k hk
   exact h2⟩
theorem vers_at (k:Nat) (hk:k<6):∃X:ByteArray,X.size≤8∧(∀w:World,(w.alloc (.cells #[.string ⟨#[72,84,84,80,47,49,46,49]⟩,.string ⟨#[72,84,84,80,47,49,46,48]⟩,.string ⟨#[72,84,84,80,47,49,46,55]⟩,.string ⟨#[104,116,116,112,47,49,46,49]⟩,.string ⟨#[72,84,84,80,47,50,46,48]⟩,.string ⟨#[72,84,84,80,47,49,46,49]⟩] 9)).cell? ⟨w.heap.size,k,none⟩=some (.string X))∧∀hh,([.string ⟨#[72,84,84,80,47,49,46,49]⟩,.string ⟨#[72,84,84,80,47,49,46,48]⟩,.string ⟨#[72,84,84,80,47,49,46,55]⟩,.string ⟨#[104,116,116,112,47,49,46,49]⟩,.string ⟨#[72,84,84,80,47,50,46,48]⟩,.string ⟨#[72,84,84,80,47,49,46,49]⟩]:List Value)[k]'hh=.string X:=
 ⟨_,size_at [⟨#[72,84,84,80,47,49,46,49]⟩,⟨#[72,84,84,80,47,49,46,48]⟩,⟨#[72,84,84,80,47,49,46,55]⟩,⟨#[104,116,116,112,47,49,46,49]⟩,⟨#[72,84,84,80,47,50,46,48]⟩,⟨#[72,84,84,80,47,49,46,49]⟩] 8 (by decide) k hk,fun w=>strs_at w 9 [⟨#[72,84,84,80,47,49,46,49]⟩,⟨#[72,84,84,80,47,49,46,48]⟩,⟨#[72,84,84,80,47,49,46,55]⟩,⟨#[104,116,116,112,47,49,46,49]⟩,⟨#[72,84,84,80,47,50,46,48]⟩,⟨#[72,84,84,80,47,49,46,49]⟩] k hk,fun hh=>by
   have h2:=val_at [⟨#[72,84,84,80,47,49,46,49]⟩,⟨#[72,84,84,80,47,49,46,48]⟩,⟨#[72,84,84,80,47,49,46,55]⟩,⟨#[104,116,116,112,47,49,46,49]⟩,⟨#[72,84,84,80,47,50,46,48]⟩,⟨#[72,84,84,80,47,49,46,49]⟩] k hk
   exact h2⟩
section code
set_option maxHeartbeats 1000000
attribute [local go_sem] Al
set_option maxHeartbeats 16000000 in
set_option maxRecDepth 10000 in
theorem line_any (a b:Nat) (ha:a<256) (hb:b<256) (w:World):Calls EL 110 #[.int .u8 a,.int .u8 b] w fun e w'=>(∃L:ByteArray,e=.returned (.string L)∧L.size≤60)∧Below w.heap.size w w':=by
 obtain ⟨u,hu⟩:∃u,b%12=u:=⟨_,rfl⟩;obtain ⟨v,hv⟩:∃v,a%8=v:=⟨_,rfl⟩;obtain ⟨z,hz⟩:∃z,b%4=z:=⟨_,rfl⟩;obtain ⟨y,hy⟩:∃y,a%6=y:=⟨_,rfl⟩;have iu:(b:Int)%12=(u:Int):=by omega
 have iv:(a:Int)%8=(v:Int):=by omega
 have iz:(b:Int)%4=(z:Int):=by omega
 have iy:(a:Int)%6=(y:Int):=by omega
 have lu:u<12:=by omega
 have lv:v<8:=by omega
 have lz:z<4:=by omega
 have ly:y<6:=by omega
 clear hu hv hz hy;obtain ⟨X1,z1,c1,d1⟩:=tgts_at u lu;obtain ⟨X2,z2,c2,d2⟩:=meths_at v lv;obtain ⟨X3,z3,c3,d3⟩:=gaps_at z lz;obtain ⟨X4,z4,c4,d4⟩:=vers_at y ly;have hA:200≤a∨(a<200∧5<v∧7<u∧¬u=10)∨(a<200∧5<v∧u=10)∨(a<200∧5<v∧u≤7)∨(a<200∧v≤5∧7<u∧¬u=10∧¬u=5)∨(a<200∧v≤5∧u=10)∨(a<200∧v≤5∧u=5)∨(a<200∧v≤5∧u≤7∧¬u=5):=by omega
 have hB:200<b∨b=199∨(b≤200∧¬b=199):=by omega
 rcases hA with h | ⟨h,h1,h2,h3⟩ | ⟨h,h1,rfl⟩ | ⟨h,h1,h2⟩ | ⟨h,h1,h2,h3,h4⟩ | ⟨h,h1,rfl⟩ | ⟨h,h1,rfl⟩ | ⟨h,h1,h2,h3⟩;all_goals
  rcases hB with k1 | rfl | ⟨k1,k2⟩
  all_goals try (exfalso;omega)
  all_goals
   go_enter Tryz.func110,Tryz.ntmps110;go_wp2_with fail;all_goals
    go_ret;refine ⟨⟨_,rfl,?_⟩,?_⟩
    ·simp only [A7,len_mk,List.length_cons,List.length_nil];omega
    ·repeat (first | exact Am _ _ | with_reducible refine Below.alloc ?_ ?_ _)
     all_goals (simp;try omega)
end code
end Go.Proofs.YtnabkcglnbdfeaaGreatDoor.Rq
namespace Go.Proofs.YtnabkcglnbdfeaaGreatDoor.Rq
open Go.RowKit Base Txt
theorem ends_at (k:Nat) (hk:k<4):∃X:ByteArray,X.size≤3∧(∀w:World,(w.alloc (.cells #[.string ⟨#[10]⟩,.string ⟨#[13]⟩,.string ⟨#[13,13,10]⟩,.string ⟨#[10,10]⟩] 9)).cell? ⟨w.heap.size,k,none⟩=some (.string X))∧∀hh,([.string ⟨#[10]⟩,.string ⟨#[13]⟩,.string ⟨#[13,13,10]⟩,.string ⟨#[10,10]⟩]:List Value)[k]'hh=.string X:=
 ⟨_,size_at [⟨#[10]⟩,⟨#[13]⟩,⟨#[13,13,10]⟩,⟨#[10,10]⟩] 3 (by decide) k hk,fun w=>strs_at w 9 [⟨#[10]⟩,⟨#[13]⟩,⟨#[13,13,10]⟩,⟨#[10,10]⟩] k hk,fun hh=>by
   have h2:=val_at [⟨#[10]⟩,⟨#[13]⟩,⟨#[13,13,10]⟩,⟨#[10,10]⟩] k hk
   exact h2⟩
theorem good_at (k:Nat) (hk:k<16):∃X:ByteArray,X.size≤34∧(∀w:World,(w.alloc (.cells #[.string ⟨#[72,111,115,116,58,32,104,46,111,114,103]⟩,.string ⟨#[72,111,115,116,58,32,97]⟩,.string ⟨#[65,58,32,98]⟩,.string ⟨#[88,45,89,58,32,32,122,32]⟩,.string ⟨#[65,99,99,101,112,116,58,32,42,47,42]⟩,.string ⟨#[79,114,105,103,105,110,58,32,104,116,116,112,58,47,47,111,46,111,114,103]⟩,.string ⟨#[65,117,116,104,111,114,105,122,97,116,105,111,110,58,32,66,97,115,105,99,32,100,84,112,119]⟩,.string ⟨#[67,111,110,110,101,99,116,105,111,110,58,32,107,101,101,112,45,97,108,105,118,101]⟩,.string ⟨#[67,111,111,107,105,101,58,32,97,61,49,44,32,98,61,50]⟩,.string ⟨#[69,120,112,101,99,116,58,32,49,48,48,45,99,111,110,116,105,110,117,101]⟩,.string ⟨#[85,112,103,114,97,100,101,58,32,120]⟩,.string ⟨#[88,45,70,111,114,119,97,114,100,101,100,45,70,111,114,58,32,49,46,50,46,51,46,52]⟩,.string ⟨#[67,111,110,110,101,99,116,105,111,110,58,32,88,45,89]⟩,.string ⟨#[84,69,58,32,116,114,97,105,108,101,114,115]⟩,.string ⟨#[86,105,97,58,32,49,46,48,32,113]⟩,.string ⟨#[65,99,99,101,115,115,45,67,111,110,116,114,111,108,45,82,101,113,117,101,115,116,45,77,101,116,104,111,100,58,32,80,85,84]⟩] 9)).cell? ⟨w.heap.size,k,none⟩=some (.string X))∧∀hh,([.string ⟨#[72,111,115,116,58,32,104,46,111,114,103]⟩,.string ⟨#[72,111,115,116,58,32,97]⟩,.string ⟨#[65,58,32,98]⟩,.string ⟨#[88,45,89,58,32,32,122,32]⟩,.string ⟨#[65,99,99,101,112,116,58,32,42,47,42]⟩,.string ⟨#[79,114,105,103,105,110,58,32,104,116,116,112,58,47,47,111,46,111,114,103]⟩,.string ⟨#[65,117,116,104,111,114,105,122,97,116,105,111,110,58,32,66,97,115,105,99,32,100,84,112,119]⟩,.string ⟨#[67,111,110,110,101,99,116,105,111,110,58,32,107,101,101,112,45,97,108,105,118,101]⟩,.string ⟨#[67,111,111,107,105,101,58,32,97,61,49,44,32,98,61,50]⟩,.string ⟨#[69,120,112,101,99,116,58,32,49,48,48,45,99,111,110,116,105,110,117,101]⟩,.string ⟨#[85,112,103,114,97,100,101,58,32,120]⟩,.string ⟨#[88,45,70,111,114,119,97,114,100,101,100,45,70,111,114,58,32,49,46,50,46,51,46,52]⟩,.string ⟨#[67,111,110,110,101,99,116,105,111,110,58,32,88,45,89]⟩,.string ⟨#[84,69,58,32,116,114,97,105,108,101,114,115]⟩,.string ⟨#[86,105,97,58,32,49,46,48,32,113]⟩,.string ⟨#[65,99,99,101,115,115,45,67,111,110,116,114,111,108,45,82,101,113,117,101,115,116,45,77,101,116,104,111,100,58,32,80,85,84]⟩]:List Value)[k]'hh=.string X:=
 ⟨_,size_at [⟨#[72,111,115,116,58,32,104,46,111,114,103]⟩,⟨#[72,111,115,116,58,32,97]⟩,⟨#[65,58,32,98]⟩,⟨#[88,45,89,58,32,32,122,32]⟩,⟨#[65,99,99,101,112,116,58,32,42,47,42]⟩,⟨#[79,114,105,103,105,110,58,32,104,116,116,112,58,47,47,111,46,111,114,103]⟩,⟨#[65,117,116,104,111,114,105,122,97,116,105,111,110,58,32,66,97,115,105,99,32,100,84,112,119]⟩,⟨#[67,111,110,110,101,99,116,105,111,110,58,32,107,101,101,112,45,97,108,105,118,101]⟩,⟨#[67,111,111,107,105,101,58,32,97,61,49,44,32,98,61,50]⟩,⟨#[69,120,112,101,99,116,58,32,49,48,48,45,99,111,110,116,105,110,117,101]⟩,⟨#[85,112,103,114,97,100,101,58,32,120]⟩,⟨#[88,45,70,111,114,119,97,114,100,101,100,45,70,111,114,58,32,49,46,50,46,51,46,52]⟩,⟨#[67,111,110,110,101,99,116,105,111,110,58,32,88,45,89]⟩,⟨#[84,69,58,32,116,114,97,105,108,101,114,115]⟩,⟨#[86,105,97,58,32,49,46,48,32,113]⟩,⟨#[65,99,99,101,115,115,45,67,111,110,116,114,111,108,45,82,101,113,117,101,115,116,45,77,101,116,104,111,100,58,32,80,85,84]⟩] 34 (by decide) k hk,fun w=>strs_at w 9 [⟨#[72,111,115,116,58,32,104,46,111,114,103]⟩,⟨#[72,111,115,116,58,32,97]⟩,⟨#[65,58,32,98]⟩,⟨#[88,45,89,58,32,32,122,32]⟩,⟨#[65,99,99,101,112,116,58,32,42,47,42]⟩,⟨#[79,114,105,103,105,110,58,32,104,116,116,112,58,47,47,111,46,111,114,103]⟩,⟨#[65,117,116,104,111,114,105,122,97,116,105,111,110,58,32,66,97,115,105,99,32,100,84,112,119]⟩,⟨#[67,111,110,110,101,99,116,105,111,110,58,32,107,101,101,112,45,97,108,105,118,101]⟩,⟨#[67,111,111,107,105,101,58,32,97,61,49,44,32,98,61,50]⟩,⟨#[69,120,112,101,99,116,58,32,49,48,48,45,99,111,110,116,105,110,117,101]⟩,⟨#[85,112,103,114,97,100,101,58,32,120]⟩,⟨#[88,45,70,111,114,119,97,114,100,101,100,45,70,111,114,58,32,49,46,50,46,51,46,52]⟩,⟨#[67,111,110,110,101,99,116,105,111,110,58,32,88,45,89]⟩,⟨#[84,69,58,32,116,114,97,105,108,101,114,115]⟩,⟨#[86,105,97,58,32,49,46,48,32,113]⟩,⟨#[65,99,99,101,115,115,45,67,111,110,116,114,111,108,45,82,101,113,117,101,115,116,45,77,101,116,104,111,100,58,32,80,85,84]⟩] k hk,fun hh=>by
   have h2:=val_at [⟨#[72,111,115,116,58,32,104,46,111,114,103]⟩,⟨#[72,111,115,116,58,32,97]⟩,⟨#[65,58,32,98]⟩,⟨#[88,45,89,58,32,32,122,32]⟩,⟨#[65,99,99,101,112,116,58,32,42,47,42]⟩,⟨#[79,114,105,103,105,110,58,32,104,116,116,112,58,47,47,111,46,111,114,103]⟩,⟨#[65,117,116,104,111,114,105,122,97,116,105,111,110,58,32,66,97,115,105,99,32,100,84,112,119]⟩,⟨#[67,111,110,110,101,99,116,105,111,110,58,32,107,101,101,112,45,97,108,105,118,101]⟩,⟨#[67,111,111,107,105,101,58,32,97,61,49,44,32,98,61,50]⟩,⟨#[69,120,112,101,99,116,58,32,49,48,48,45,99,111,110,116,105,110,117,101]⟩,⟨#[85,112,103,114,97,100,101,58,32,120]⟩,⟨#[88,45,70,111,114,119,97,114,100,101,100,45,70,111,114,58,32,49,46,50,46,51,46,52]⟩,⟨#[67,111,110,110,101,99,116,105,111,110,58,32,88,45,89]⟩,⟨#[84,69,58,32,116,114,97,105,108,101,114,115]⟩,⟨#[86,105,97,58,32,49,46,48,32,113]⟩,⟨#[65,99,99,101,115,115,45,67,111,110,116,114,111,108,45,82,101,113,117,101,115,116,45,77,101,116,104,111,100,58,32,80,85,84]⟩] k hk
   exact h2⟩
theorem odd_at (k:Nat) (hk:k<22):∃X:ByteArray,X.size≤36∧(∀w:World,(w.alloc (.cells #[.string ⟨#[72,111,115,116,32,58,32,97]⟩,.string ⟨#[40,120,58,32,49]⟩,.string ⟨#[110,111,118,97,108,117,101]⟩,.string ⟨#[58,32,110,97,109,101,108,101,115,115]⟩,.string ⟨#[32,102,111,108,100,101,100]⟩,.string ⟨#[9,102,111,108,100,101,100,58,32,116,111,111]⟩,.string ⟨#[86,58,32,97,1,98]⟩,.string ⟨#[84,114,97,110,115,102,101,114,45,69,110,99,111,100,105,110,103,58,32,103,122,105,112]⟩,.string ⟨#[84,114,97,110,115,102,101,114,45,69,110,99,111,100,105,110,103,58,32,103,122,105,112,44,32,99,104,117,110,107,101,100]⟩,.string ⟨#[84,114,97,110,115,102,101,114,45,69,110,99,111,100,105,110,103,58,32,11,99,104,117,110,107,101,100]⟩,.string ⟨#[84,114,97,110,115,102,101,114,45,69,110,99,111,100,105,110,103,58,32,67,104,117,110,107,101,100]⟩,.string ⟨#[67,111,110,116,101,110,116,45,76,101,110,103,116,104,58,32,43,51]⟩,.string ⟨#[67,111,110,116,101,110,116,45,76,101,110,103,116,104,58,32,51,44,32,51]⟩,.string ⟨#[67,111,110,116,101,110,116,45,76,101,110,103,116,104,58,32,51]⟩,.string ⟨#[67,111,110,116,101,110,116,45,76,101,110,103,116,104,58,32,48]⟩,.string ⟨#[67,111,110,116,101,110,116,45,76,101,110,103,116,104,58,32,48,51]⟩,.string ⟨#[72,111,115,116,58,32,98]⟩,.string ⟨#[72,111,115,116,58,32,97,58,57,57,57,57,57]⟩,.string ⟨#[67,111,110,110,101,99,116,105,111,110,58,32,99,108,111,115,101]⟩,.string ⟨#[67,111,110,116,101,110,116,45,76,101,110,103,116,104,58,32,57,57,57,57,57,57,57,57,57,57,57,57,57,57,57,57,57,57,57,57]⟩,.string ⟨#[86,58,32,255,128]⟩,.string ⟨#[84,114,97,110,115,102,101,114,45,69,110,99,111,100,105,110,103,58,32,99,104,117,110,107,101,100,44,32,99,104,117,110,107,101,100]⟩] 9)).cell? ⟨w.heap.size,k,none⟩=some (.string X))∧∀hh,([.string ⟨#[72,111,115,116,32,58,32,97]⟩,.string ⟨#[40,120,58,32,49]⟩,.string ⟨#[110,111,118,97,108,117,101]⟩,.string ⟨#[58,32,110,97,109,101,108,101,115,115]⟩,.string ⟨#[32,102,111,108,100,101,100]⟩,.string ⟨#[9,102,111,108,100,101,100,58,32,116,111,111]⟩,.string ⟨#[86,58,32,97,1,98]⟩,.string ⟨#[84,114,97,110,115,102,101,114,45,69,110,99,111,100,105,110,103,58,32,103,122,105,112]⟩,.string ⟨#[84,114,97,110,115,102,101,114,45,69,110,99,111,100,105,110,103,58,32,103,122,105,112,44,32,99,104,117,110,107,101,100]⟩,.string ⟨#[84,114,97,110,115,102,101,114,45,69,110,99,111,100,105,110,103,58,32,11,99,104,117,110,107,101,100]⟩,.string ⟨#[84,114,97,110,115,102,101,114,45,69,110,99,111,100,105,110,103,58,32,67,104,117,110,107,101,100]⟩,.string ⟨#[67,111,110,116,101,110,116,45,76,101,110,103,116,104,58,32,43,51]⟩,.string ⟨#[67,111,110,116,101,110,116,45,76,101,110,103,116,104,58,32,51,44,32,51]⟩,.string ⟨#[67,111,110,116,101,110,116,45,76,101,110,103,116,104,58,32,51]⟩,.string ⟨#[67,111,110,116,101,110,116,45,76,101,110,103,116,104,58,32,48]⟩,.string ⟨#[67,111,110,116,101,110,116,45,76,101,110,103,116,104,58,32,48,51]⟩,.string ⟨#[72,111,115,116,58,32,98]⟩,.string ⟨#[72,111,115,116,58,32,97,58,57,57,57,57,57]⟩,.string ⟨#[67,111,110,110,101,99,116,105,111,110,58,32,99,108,111,115,101]⟩,.string ⟨#[67,111,110,116,101,110,116,45,76,101,110,103,116,104,58,32,57,57,57,57,57,57,57,57,57,57,57,57,57,57,57,57,57,57,57,57]⟩,.string ⟨#[86,58,32,255,128]⟩,.string ⟨#[84,114,97,110,115,102,101,114,45,69,110,99,111,100,105,110,103,58,32,99,104,117,110,107,101,100,44,32,99,104,117,110,107,101,100]⟩]:List Value)[k]'hh=.string X:=
 ⟨_,size_at [⟨#[72,111,115,116,32,58,32,97]⟩,⟨#[40,120,58,32,49]⟩,⟨#[110,111,118,97,108,117,101]⟩,⟨#[58,32,110,97,109,101,108,101,115,115]⟩,⟨#[32,102,111,108,100,101,100]⟩,⟨#[9,102,111,108,100,101,100,58,32,116,111,111]⟩,⟨#[86,58,32,97,1,98]⟩,⟨#[84,114,97,110,115,102,101,114,45,69,110,99,111,100,105,110,103,58,32,103,122,105,112]⟩,⟨#[84,114,97,110,115,102,101,114,45,69,110,99,111,100,105,110,103,58,32,103,122,105,112,44,32,99,104,117,110,107,101,100]⟩,⟨#[84,114,97,110,115,102,101,114,45,69,110,99,111,100,105,110,103,58,32,11,99,104,117,110,107,101,100]⟩,⟨#[84,114,97,110,115,102,101,114,45,69,110,99,111,100,105,110,103,58,32,67,104,117,110,107,101,100]⟩,⟨#[67,111,110,116,101,110,116,45,76,101,110,103,116,104,58,32,43,51]⟩,⟨#[67,111,110,116,101,110,116,45,76,101,110,103,116,104,58,32,51,44,32,51]⟩,⟨#[67,111,110,116,101,110,116,45,76,101,110,103,116,104,58,32,51]⟩,⟨#[67,111,110,116,101,110,116,45,76,101,110,103,116,104,58,32,48]⟩,⟨#[67,111,110,116,101,110,116,45,76,101,110,103,116,104,58,32,48,51]⟩,⟨#[72,111,115,116,58,32,98]⟩,⟨#[72,111,115,116,58,32,97,58,57,57,57,57,57]⟩,⟨#[67,111,110,110,101,99,116,105,111,110,58,32,99,108,111,115,101]⟩,⟨#[67,111,110,116,101,110,116,45,76,101,110,103,116,104,58,32,57,57,57,57,57,57,57,57,57,57,57,57,57,57,57,57,57,57,57,57]⟩,⟨#[86,58,32,255,128]⟩,⟨#[84,114,97,110,115,102,101,114,45,69,110,99,111,100,105,110,103,58,32,99,104,117,110,107,101,100,44,32,99,104,117,110,107,101,100]⟩] 36 (by decide) k hk,fun w=>strs_at w 9 [⟨#[72,111,115,116,32,58,32,97]⟩,⟨#[40,120,58,32,49]⟩,⟨#[110,111,118,97,108,117,101]⟩,⟨#[58,32,110,97,109,101,108,101,115,115]⟩,⟨#[32,102,111,108,100,101,100]⟩,⟨#[9,102,111,108,100,101,100,58,32,116,111,111]⟩,⟨#[86,58,32,97,1,98]⟩,⟨#[84,114,97,110,115,102,101,114,45,69,110,99,111,100,105,110,103,58,32,103,122,105,112]⟩,⟨#[84,114,97,110,115,102,101,114,45,69,110,99,111,100,105,110,103,58,32,103,122,105,112,44,32,99,104,117,110,107,101,100]⟩,⟨#[84,114,97,110,115,102,101,114,45,69,110,99,111,100,105,110,103,58,32,11,99,104,117,110,107,101,100]⟩,⟨#[84,114,97,110,115,102,101,114,45,69,110,99,111,100,105,110,103,58,32,67,104,117,110,107,101,100]⟩,⟨#[67,111,110,116,101,110,116,45,76,101,110,103,116,104,58,32,43,51]⟩,⟨#[67,111,110,116,101,110,116,45,76,101,110,103,116,104,58,32,51,44,32,51]⟩,⟨#[67,111,110,116,101,110,116,45,76,101,110,103,116,104,58,32,51]⟩,⟨#[67,111,110,116,101,110,116,45,76,101,110,103,116,104,58,32,48]⟩,⟨#[67,111,110,116,101,110,116,45,76,101,110,103,116,104,58,32,48,51]⟩,⟨#[72,111,115,116,58,32,98]⟩,⟨#[72,111,115,116,58,32,97,58,57,57,57,57,57]⟩,⟨#[67,111,110,110,101,99,116,105,111,110,58,32,99,108,111,115,101]⟩,⟨#[67,111,110,116,101,110,116,45,76,101,110,103,116,104,58,32,57,57,57,57,57,57,57,57,57,57,57,57,57,57,57,57,57,57,57,57]⟩,⟨#[86,58,32,255,128]⟩,⟨#[84,114,97,110,115,102,101,114,45,69,110,99,111,100,105,110,103,58,32,99,104,117,110,107,101,100,44,32,99,104,117,110,107,101,100]⟩] k hk,fun hh=>by
   have h2:=val_at [⟨#[72,111,115,116,32,58,32,97]⟩,⟨#[40,120,58,32,49]⟩,⟨#[110,111,118,97,108,117,101]⟩,⟨#[58,32,110,97,109,101,108,101,115,115]⟩,⟨#[32,102,111,108,100,101,100]⟩,⟨#[9,102,111,108,100,101,100,58,32,116,111,111]⟩,⟨#[86,58,32,97,1,98]⟩,⟨#[84,114,97,110,115,102,101,114,45,69,110,99,111,100,105,110,103,58,32,103,122,105,112]⟩,⟨#[84,114,97,110,115,102,101,114,45,69,110,99,111,100,105,110,103,58,32,103,122,105,112,44,32,99,104,117,110,107,101,100]⟩,⟨#[84,114,97,110,115,102,101,114,45,69,110,99,111,100,105,110,103,58,32,11,99,104,117,110,107,101,100]⟩,⟨#[84,114,97,110,115,102,101,114,45,69,110,99,111,100,105,110,103,58,32,67,104,117,110,107,101,100]⟩,⟨#[67,111,110,116,101,110,116,45,76,101,110,103,116,104,58,32,43,51]⟩,⟨#[67,111,110,116,101,110,116,45,76,101,110,103,116,104,58,32,51,44,32,51]⟩,⟨#[67,111,110,116,101,110,116,45,76,101,110,103,116,104,58,32,51]⟩,⟨#[67,111,110,116,101,110,116,45,76,101,110,103,116,104,58,32,48]⟩,⟨#[67,111,110,116,101,110,116,45,76,101,110,103,116,104,58,32,48,51]⟩,⟨#[72,111,115,116,58,32,98]⟩,⟨#[72,111,115,116,58,32,97,58,57,57,57,57,57]⟩,⟨#[67,111,110,110,101,99,116,105,111,110,58,32,99,108,111,115,101]⟩,⟨#[67,111,110,116,101,110,116,45,76,101,110,103,116,104,58,32,57,57,57,57,57,57,57,57,57,57,57,57,57,57,57,57,57,57,57,57]⟩,⟨#[86,58,32,255,128]⟩,⟨#[84,114,97,110,115,102,101,114,45,69,110,99,111,100,105,110,103,58,32,99,104,117,110,107,101,100,44,32,99,104,117,110,107,101,100]⟩] k hk
   exact h2⟩
theorem end3_at (k:Nat) (hk:k<5):∃X:ByteArray,X.size≤2∧(∀w:World,(w.alloc (.cells #[.string ⟨#[13,10]⟩,.string ⟨#[13,10]⟩,.string ⟨#[]⟩,.string ⟨#[10]⟩,.string ⟨#[13]⟩] 9)).cell? ⟨w.heap.size,k,none⟩=some (.string X))∧∀hh,([.string ⟨#[13,10]⟩,.string ⟨#[13,10]⟩,.string ⟨#[]⟩,.string ⟨#[10]⟩,.string ⟨#[13]⟩]:List Value)[k]'hh=.string X:=
 ⟨_,size_at [⟨#[13,10]⟩,⟨#[13,10]⟩,⟨#[]⟩,⟨#[10]⟩,⟨#[13]⟩] 2 (by decide) k hk,fun w=>strs_at w 9 [⟨#[13,10]⟩,⟨#[13,10]⟩,⟨#[]⟩,⟨#[10]⟩,⟨#[13]⟩] k hk,fun hh=>by
   have h2:=val_at [⟨#[13,10]⟩,⟨#[13,10]⟩,⟨#[]⟩,⟨#[10]⟩,⟨#[13]⟩] k hk
   exact h2⟩
theorem tr_at (k:Nat) (hk:k<4):∃X:ByteArray,X.size≤10∧(∀w:World,(w.alloc (.cells #[.string ⟨#[]⟩,.string ⟨#[84,58,32,117,13,10]⟩,.string ⟨#[98,97,100,13,10]⟩,.string ⟨#[84,58,32,117,13,10,32,119,13,10]⟩] 9)).cell? ⟨w.heap.size,k,none⟩=some (.string X))∧∀hh,([.string ⟨#[]⟩,.string ⟨#[84,58,32,117,13,10]⟩,.string ⟨#[98,97,100,13,10]⟩,.string ⟨#[84,58,32,117,13,10,32,119,13,10]⟩]:List Value)[k]'hh=.string X:=
 ⟨_,size_at [⟨#[]⟩,⟨#[84,58,32,117,13,10]⟩,⟨#[98,97,100,13,10]⟩,⟨#[84,58,32,117,13,10,32,119,13,10]⟩] 10 (by decide) k hk,fun w=>strs_at w 9 [⟨#[]⟩,⟨#[84,58,32,117,13,10]⟩,⟨#[98,97,100,13,10]⟩,⟨#[84,58,32,117,13,10,32,119,13,10]⟩] k hk,fun hh=>by
   have h2:=val_at [⟨#[]⟩,⟨#[84,58,32,117,13,10]⟩,⟨#[98,97,100,13,10]⟩,⟨#[84,58,32,117,13,10,32,119,13,10]⟩] k hk
   exact h2⟩
theorem host_at (k:Nat) (hk:k<4):∃X:ByteArray,X.size≤8∧(∀w:World,(w.alloc (.cells #[.string ⟨#[104,46,111,114,103]⟩,.string ⟨#[97]⟩,.string ⟨#[104,46,111,114,103,58,56,48]⟩,.string ⟨#[120,46,121]⟩] 9)).cell? ⟨w.heap.size,k,none⟩=some (.string X))∧∀hh,([.string ⟨#[104,46,111,114,103]⟩,.string ⟨#[97]⟩,.string ⟨#[104,46,111,114,103,58,56,48]⟩,.string ⟨#[120,46,121]⟩]:List Value)[k]'hh=.string X:=
 ⟨_,size_at [⟨#[104,46,111,114,103]⟩,⟨#[97]⟩,⟨#[104,46,111,114,103,58,56,48]⟩,⟨#[120,46,121]⟩] 8 (by decide) k hk,fun w=>strs_at w 9 [⟨#[104,46,111,114,103]⟩,⟨#[97]⟩,⟨#[104,46,111,114,103,58,56,48]⟩,⟨#[120,46,121]⟩] k hk,fun hh=>by
   have h2:=val_at [⟨#[104,46,111,114,103]⟩,⟨#[97]⟩,⟨#[104,46,111,114,103,58,56,48]⟩,⟨#[120,46,121]⟩] k hk
   exact h2⟩
section code
set_option maxHeartbeats 4000000
set_option maxRecDepth 10000
attribute [local go_sem] Al
theorem end_any (a:Nat) (ha:a<256) (w:World):Calls EL 111 #[.int .u8 a] w fun e w'=>(∃L:ByteArray,e=.returned (.string L)∧L.size≤3)∧Below w.heap.size w w':=by
 obtain ⟨u,hu⟩:∃u,a%4=u:=⟨_,rfl⟩;have iu:(a:Int)%4=(u:Int):=by omega
 have lu:u<4:=by omega
 clear hu;obtain ⟨X1,z1,c1,d1⟩:=ends_at u lu;rcases CW a 235 with h | h;all_goals
  go_enter Tryz.func111,Tryz.ntmps111;go_wp2_with fail;all_goals
   go_ret;refine ⟨⟨_,rfl,?_⟩,?_⟩
   ·first | exact z1 | decide
   ·repeat (first | exact Am _ _ | with_reducible refine Below.alloc ?_ ?_ _)
    all_goals (simp;try omega)
theorem field_any (a b:Nat) (ha:a<256) (hb:b<256) (w:World):Calls EL 112 #[.int .u8 a,.int .u8 b] w fun e w'=>(∃L:ByteArray,e=.returned (.string L)∧L.size≤46)∧Below w.heap.size w w':=by
 obtain ⟨u,hu⟩:∃u,b%16=u:=⟨_,rfl⟩;obtain ⟨v,hv⟩:∃v,b%22=v:=⟨_,rfl⟩;have iu:(b:Int)%16=(u:Int):=by omega
 have iv:(b:Int)%22=(v:Int):=by omega
 have ju:Int.tmod (b:Int) 16=(u:Int):=by rw [Int.tmod_eq_emod_of_nonneg (by omega)];exact iu
 have jv:Int.tmod (b:Int) 22=(v:Int):=by rw [Int.tmod_eq_emod_of_nonneg (by omega)];exact iv
 have lu:u<16:=by omega
 have lv:v<22:=by omega
 clear hu hv;obtain ⟨X1,z1,c1,d1⟩:=good_at u lu;obtain ⟨X2,z2,c2,d2⟩:=odd_at v lv;rcases CW a 150 with h | h;all_goals
  go_enter Tryz.func112,Tryz.ntmps112;go_wp2_with fail;all_goals
   go_ret;refine ⟨⟨_,rfl,?_⟩,?_⟩
   ·first |(exact CT z1 (by decide)) |(exact CT z2 (by decide))
   ·repeat (first | exact Am _ _ | with_reducible refine Below.alloc ?_ ?_ _)
    all_goals (simp;try omega)
end code
end Go.Proofs.YtnabkcglnbdfeaaGreatDoor.Rq
namespace Go.Proofs.YtnabkcglnbdfeaaGreatDoor.Rq
open Go.RowKit Base Txt
section code
set_option maxHeartbeats 4000000
set_option maxRecDepth 10000
attribute [local go_sem] Al
theorem spell_len:∀k:Fin 20,(Num.str (Num.spell 10 k.val)).size≤2∧(Num.str (Num.spell 16 k.val)).size≤2:=by decide +kernel
theorem below_drew1 {n:Nat} {w w':World} (h:Below n w w'):Below n w w'.drew:=Aj h 1
theorem size9_at (E:ByteArray) (he:E.size≤40) (k:Nat) (hk:k<9):∃X:ByteArray,X.size≤40∧(∀w:World,(w.alloc (.cells #[.string ⟨#[51]⟩,.string ⟨#[48,120,51]⟩,.string ⟨#[32,51]⟩,.string ⟨#[51,59,97,61,98]⟩,.string ⟨#[51,32,59,120]⟩,.string ⟨#[48,51]⟩,.string ⟨#[51,9]⟩,.string ⟨#[103]⟩,.string E] 9)).cell? ⟨w.heap.size,k,none⟩=some (.string X))∧∀hh,([.string ⟨#[51]⟩,.string ⟨#[48,120,51]⟩,.string ⟨#[32,51]⟩,.string ⟨#[51,59,97,61,98]⟩,.string ⟨#[51,32,59,120]⟩,.string ⟨#[48,51]⟩,.string ⟨#[51,9]⟩,.string ⟨#[103]⟩,.string E]:List Value)[k]'hh=.string X:=
 ⟨_,size_at [⟨#[51]⟩,⟨#[48,120,51]⟩,⟨#[32,51]⟩,⟨#[51,59,97,61,98]⟩,⟨#[51,32,59,120]⟩,⟨#[48,51]⟩,⟨#[51,9]⟩,⟨#[103]⟩,E] 40 (by simp only [List.all_cons,List.all_nil,Bool.and_true,An,decide_eq_true_eq];exact ⟨by decide,by decide,by decide,by decide,by decide,by decide,by decide,by decide,he⟩) k hk,fun w=>strs_at w 9 [⟨#[51]⟩,⟨#[48,120,51]⟩,⟨#[32,51]⟩,⟨#[51,59,97,61,98]⟩,⟨#[51,32,59,120]⟩,⟨#[48,51]⟩,⟨#[51,9]⟩,⟨#[103]⟩,E] k hk,fun hh=>by
   have h2:=val_at [⟨#[51]⟩,⟨#[48,120,51]⟩,⟨#[32,51]⟩,⟨#[51,59,97,61,98]⟩,⟨#[51,32,59,120]⟩,⟨#[48,51]⟩,⟨#[51,9]⟩,⟨#[103]⟩,E] k hk
   exact h2⟩
theorem body_any (a n c:Nat) (ha:a<256) (hn:n<256) (hc:c<256) (w:World):Calls EL 113 #[.int .u8 a,.int .u8 n,.int .u8 c] w fun e w'=>(∃L M:ByteArray,e=.returned (.tuple #[.string L,.string M])∧L.size≤60∧M.size≤100)∧Below w.heap.size w w':=by
 obtain ⟨v,hv⟩:∃v,n%20=v:=⟨_,rfl⟩;obtain ⟨y,hy⟩:∃y,c%9=y:=⟨_,rfl⟩;obtain ⟨z,hz⟩:∃z,n%5=z:=⟨_,rfl⟩;obtain ⟨x,hx⟩:∃x,n/5%4=x:=⟨_,rfl⟩;have iv:(n:Int)%20=(v:Int):=by omega
 have iy:(c:Int)%9=(y:Int):=by omega
 have iz:(n:Int)%5=(z:Int):=by omega
 have ix:(n:Int)/5%4=(x:Int):=by omega
 have lv:v<20:=by omega
 have ly:y<9:=by omega
 have lz:z<5:=by omega
 have lx:x<4:=by omega
 clear hv hy hz hx;have es:(ByteArray.extract ⟨#[48,49,50,51,52,53,54,55,56,57,97,98,99,100,101,102,103,104,105,106,107,108,109,110,111,112]⟩ 0 v).size=v:=by rw [ByteArray.size_extract];show min v 26-0=v;omega
 obtain ⟨S,hS⟩:∃S,ByteArray.extract ⟨#[48,49,50,51,52,53,54,55,56,57,97,98,99,100,101,102,103,104,105,106,107,108,109,110,111,112]⟩ 0 v=S:=⟨_,rfl⟩;rw [hS] at es
 have HP:=Bo (fun w=>Num.rput_any (v:Int) w (by omega) (by omega))
 have HX:=Bo (fun w=>Num.rputHex_any (v:Int) w (by omega) (by omega));have l1:=(spell_len ⟨v,lv⟩).1;have l2:=(spell_len ⟨v,lv⟩).2;simp only [Int.toNat_natCast] at HP HX l1 l2;generalize Num.str (Num.spell 10 v)=D1 at *;generalize Num.str (Num.spell 16 v)=D2 at *
 have HE:=Bo (fun w=>end_any c hc w);obtain ⟨X1,z1,c1,d1⟩:=size9_at (⟨#[51,59]⟩++S++S) (by rw [A7,A7,es];show 2+v+v≤40;omega) y ly;obtain ⟨X2,z2,c2,d2⟩:=end3_at z lz;obtain ⟨X3,z3,c3,d3⟩:=tr_at x lx;have hb6:a%6=0∨a%6=1∨a%6=2∨a%6=3∨a%6=4∨a%6=5:=by omega
 have c1':=fun w:World=>c1 (w.drewN 1);rcases hb6 with h | h | h | h | h | h
 rotate_left 3
 ·have ih:(a:Int)%6=3:=by omega
  clear h;go_enter Tryz.func113,Tryz.ntmps113;go_upto_region 13 with fail
  go_region;all_goals
   go_wp2_with fail;go_ret2;refine ⟨⟨_,_,rfl,?_,?_⟩,?_⟩
   ·decide
   ·simp only [A7,len_mk,List.length_cons,List.length_nil];omega
   ·repeat (first | exact Am _ _ | with_reducible refine Below.alloc ?_ ?_ _ | with_reducible refine below_drew1 ?_)
    all_goals (try simp)
    all_goals (try omega)
 all_goals
  have ih:(a:Int)%6=((a%6:Nat):Int):=by omega
  rw [h] at ih;go_enter Tryz.func113,Tryz.ntmps113;clear h
  go_wp2_with (first
   |(go_at_call 111;with_reducible refine (HE.out _).mono ?_;rintro e w2 ⟨⟨E1,rfl,e1⟩,hb2⟩;have HB2:=Bo hb2;clear hb2)
   |(go_at_call 106;with_reducible refine (HP.out _).mono ?_;rintro e w3 ⟨rfl,m3,hw⟩;rw [hw];clear hw)
   |(go_at_call 128;with_reducible refine (HX.out _).mono ?_;rintro e w4 ⟨rfl,m4,hw⟩;rw [hw];clear hw))
  all_goals
   go_ret2;refine ⟨⟨_,_,rfl,?_,?_⟩,?_⟩
   ·first | decide |(simp only [A7,len_mk,List.length_cons,List.length_nil];omega)
   ·first | decide | omega |(simp only [A7,len_mk,List.length_cons,List.length_nil];omega)
   ·first
     | exact Am _ _
     | exact HB2.out
     | exact Aj HB2.out _
     | exact Ak (Aj (Am _ _) _) HB2.out
     | exact Aj (Ak (Aj (Am _ _) _) HB2.out) _
end code
end Go.Proofs.YtnabkcglnbdfeaaGreatDoor.Rq
namespace Go.Proofs.YtnabkcglnbdfeaaGreatDoor.Rq
open Go.RowKit Base Txt Rec
section code
set_option maxHeartbeats 8000000
set_option maxRecDepth 20000
attribute [local go_sem] Al
theorem byte_lt (x:Int):(x%256).toNat<256:=by omega
theorem byte_cast (x:Int):(((x%256).toNat:Nat):Int)=x%256:=by omega
theorem at_any (a:Option Addr) (n cap:Nat) (zs:List Int) (g:Nat) (hn:n≤1000000):∃G:Int→Nat,(∀i,G i<256)∧∀(w:World) (i:Int),w.cell? ⟨g,0,none⟩=some (.slice a n cap)→Nums .u8 w a n zs→0≤i→i≤1000000→
 Calls EL 109 #[.int .i64 i,.pointer (some ⟨g,0,none⟩)] w fun e w'=>e=.returned (.int .u8 (G i:Nat))∧∃q,w'=w.drewN q:=by
 rcases CO n with hz | hp
 ·refine ⟨fun i=>(i%256).toNat,fun i=>byte_lt _,fun w i hc hv h0 h1=>?_⟩;subst hz;have e:(((i%256).toNat:Nat):Int)=i%256:=byte_cast _;rw [e];go_enter Tryz.func109,Tryz.ntmps109;go_wp2;go_ret;exact ⟨rfl,0,rfl⟩
 ·refine ⟨fun i=>((zs[i.toNat%n]?.getD 0+wrap64 (wrap64 (Int.tdiv i n)*37)%256)%256).toNat,fun i=>byte_lt _,fun w i hc hv h0 h1=>?_⟩;have e:((((zs[i.toNat%n]?.getD 0+wrap64 (wrap64 (Int.tdiv i n)*37)%256)%256).toNat:Nat):Int)=(zs[i.toNat%n]?.getD 0+wrap64 (wrap64 (Int.tdiv i n)*37)%256)%256:=byte_cast _;rw [e];clear e h1;obtain ⟨b,off,rfl,hb,hcs⟩:=hv.2 hp;obtain ⟨j,hj,hjm,_⟩:∃j:Nat,j<n∧Int.tmod i (n:Int)=(j:Int)∧i.toNat%n=j:=by
   refine ⟨i.toNat%n,Nat.mod_lt _ hp,?_,rfl⟩;rw [Int.tmod_eq_emod_of_nonneg h0,Int.natCast_emod,Int.toNat_of_nonneg h0]
  rename_i hjn;rw [hjn];obtain ⟨d,hd⟩:∃d:Int,Int.tdiv i (n:Int)=d:=⟨_,rfl⟩;rw [hd];have hck:=hcs j hj;generalize zs[j]?.getD 0=z at *;have t0:((n:Int)==0)=false:=by rw [beq_eq_false_iff_ne];omega
  have t1:¬(n:Int)=0:=by omega
  clear hcs hv hjn h0;go_enter Tryz.func109,Tryz.ntmps109;go_wp2_with fail
  go_quiet (fail);rename_i nq;go_wp2;go_ret;exact ⟨rfl,nq,rfl⟩
theorem request_any (a:Option Addr) (n cap:Nat) (zs:List Int) (w:World) (hv:Nums .u8 w a n zs) (hn:n≤1000000) :
 Calls EL 69 #[.slice a n cap] w fun e w'=>(∃L:ByteArray,e=.returned (.string L)∧L.size≤500)∧Below w.heap.size w w':=by
 have eg:∀args w,(callFunc 109 args).run EL w=.ok (.enter 109 args) w:=enters_of Tryz.func109 (by kernel_rfl) rfl;obtain ⟨G,hG,hat⟩:=at_any a n cap zs w.heap.size hn;have HAT:Hid (∀(w1:World) (i:Int),Below w.heap.size w w1∧Bk w1 w.heap.size [.slice a n cap]→0≤i→i≤1000000→Calls EL 109 #[.int .i64 i,.pointer (some ⟨w.heap.size,0,none⟩)] w1 fun e w'=>e=.returned (.int .u8 (G i:Nat))∧∃q,w'=w1.drewN q):=
  Bo (fun w1 i hb h0 h1=>hat w1 i (hb.2.c 0 _ rfl) (hv.below hb.1) h0 h1)
 have HG:=Bo hG;have hb0:Below w.heap.size w (w.alloc (.cells #[.slice a n cap] 22)):=(Am _ _).alloc (CQ _) _
 have HC:=Bo (show Below w.heap.size w (w.alloc (.cells #[.slice a n cap] 22))∧Bk (w.alloc (.cells #[.slice a n cap] 22)) w.heap.size [.slice a n cap] from ⟨hb0,Bk.new w _ rfl 22 [.slice a n cap]⟩);clear hv hat hb0 hG;obtain ⟨u,hu⟩:∃u,G 4%4=u:=⟨_,rfl⟩;have iu:((G 4:Nat):Int)%4=(u:Int):=by omega
 have lu:u<4:=by omega
 clear hu;obtain ⟨X1,z1,c1,d1⟩:=host_at u lu;obtain ⟨t,ht⟩:∃t,G 5%4=t:=⟨_,rfl⟩;have it:((G 5:Nat):Int)%4=(t:Int):=by omega
 have lt:t<4:=by omega
 clear ht;have h0:250<G 0∨G 0≤250:=by omega
 have h4:G 4<235∨235≤G 4:=by omega
 go_enter Tryz.func69,Tryz.ntmps69;go_upto_if 11 with
  (go_at_fn 109;with_reducible refine (HAT.out _ _ HC.out (by first | decide | omega) (by first | decide | omega)).mono ?_;rintro e wn ⟨rfl,qn,hwn⟩
   replace HC:=Bo (show Below w.heap.size w wn∧Bk wn w.heap.size [.slice a n cap] by rw [hwn];exact ⟨Aj HC.out.1 qn,HC.out.2.below (Aj (Am _ _) qn)⟩)
   clear hwn)
 go_cut [4] from 12 to 13 (fun v wx=>∃S:ByteArray,v=.string S∧S.size≤2∧Hid (Below w.heap.size w wx∧Bk wx w.heap.size [.slice a n cap]))
 case first=>
  rcases h0 with h0 | h0;all_goals
   go_wp2_with fail;go_meet
   case rel=>exact ⟨_,rfl,by decide,HC⟩
 case rest=>
  obtain ⟨S0,rfl,hS0,HC2⟩:=hcut
  replace HC:=HC2
  clear HC2 h0
  go_upto_if 25 with (first
   |(go_at_fn 109;with_reducible refine (HAT.out _ _ HC.out (by first | decide | omega) (by first | decide | omega)).mono ?_;rintro e wn ⟨rfl,qn,hwn⟩
     replace HC:=Bo (show Below w.heap.size w wn∧Bk wn w.heap.size [.slice a n cap] by rw [hwn];exact ⟨Aj HC.out.1 qn,HC.out.2.below (Aj (Am _ _) qn)⟩)
     clear hwn)
   |(go_at_call 110;with_reducible refine (line_any _ _ (HG.out _) (HG.out _) _).mono ?_;rintro e wn ⟨⟨Tn,rfl,tn⟩,hbn⟩
     replace HC:=Bo (show Below w.heap.size w wn∧Bk wn w.heap.size [.slice a n cap] from ⟨Ak HC.out.1 hbn,HC.out.2.below hbn⟩)
     clear hbn)
   |(go_at_call 111;with_reducible refine (end_any _ (HG.out _) _).mono ?_;rintro e wn ⟨⟨En,rfl,en⟩,hbn⟩
     replace HC:=Bo (show Below w.heap.size w wn∧Bk wn w.heap.size [.slice a n cap] from ⟨Ak HC.out.1 hbn,HC.out.2.below hbn⟩)
     clear hbn))
  obtain ⟨S1,hS1⟩:∃S,S0++Tn++En=S:=⟨_,rfl⟩;have hz1:S1.size≤65:=by rw [←hS1,A7,A7];omega
  rw [hS1];clear hS1 tn en hS0;obtain ⟨WX,hWX⟩:∃x,x=wn:=⟨_,rfl⟩;subst hWX
  go_cut [4] from 25 to 36 (fun v wx=>∃S:ByteArray,v=.string S∧S.size≤100∧Hid (Below w.heap.size w wx∧Bk wx w.heap.size [.slice a n cap]))
  case first=>
   rcases h4 with h4 | h4
   ·have hb9:Below w.heap.size w (WX.alloc (.cells #[.string ⟨#[104,46,111,114,103]⟩,.string ⟨#[97]⟩,.string ⟨#[104,46,111,114,103,58,56,48]⟩,.string ⟨#[120,46,121]⟩] 9)):=HC.out.1.alloc HC.out.1.size _
    have hk9:Bk (WX.alloc (.cells #[.string ⟨#[104,46,111,114,103]⟩,.string ⟨#[97]⟩,.string ⟨#[104,46,111,114,103,58,56,48]⟩,.string ⟨#[120,46,121]⟩] 9)) w.heap.size [.slice a n cap]:=HC.out.2.below ((Am _ _).alloc (CQ _) _)
    have HAL:=Bo (HAT.out _ 4 ⟨hb9,hk9⟩ (by decide) (by decide));have HB9:=Bo hb9;have HK9:=Bo hk9;have c1w:=c1 WX;clear hb9 hk9 c1;go_wp2_with
     (go_at_fn 109;with_reducible refine HAL.out.mono ?_;rintro e wm ⟨rfl,qn,hwn⟩
      have c1':wm.cell? ⟨WX.heap.size,u,none⟩=some (.string X1):=by rw [hwn];exact c1w
      replace HC:=Bo (show Below w.heap.size w wm∧Bk wm w.heap.size [.slice a n cap] by rw [hwn];exact ⟨Aj HB9.out qn,HK9.out.below (Aj (Am _ _) qn)⟩)
      clear hwn)
    go_meet
    case rel=>exact ⟨_,rfl,(by simp only [A7,len_mk,List.length_cons,List.length_nil];omega),HC⟩
   ·go_wp2_with fail;go_meet
    case rel=>exact ⟨_,rfl,by omega,HC⟩
  case rest=>
   obtain ⟨S2,rfl,hS2,HC2⟩:=hcut
   replace HC:=HC2
   clear HC2 h4 hz1 c1 d1 z1 iu lu;go_upto_region 9 with fail
   go_loopw [4,5] (fun v i wr=>∃(k:Nat) (S:ByteArray),k≤t∧i=.int .i64 k∧v=.string S∧S.size≤100+60*k∧Hid (Below w.heap.size w wr∧Bk wr w.heap.size [.slice a n cap])) (fun _ i _=>t-(intOf i).toNat)
   case atStart=>exact ⟨0,_,CY _,rfl,rfl,by omega,HC⟩
   case round=>
    obtain ⟨k,S,hk,rfl,rfl,hS,hR⟩:=hrel
    replace HC:=hR
    clear hR hS2;rcases CW k t with hlt | hge
    ·have hk4:k<4:=by omega
     have HS:=Bo hS;have HLT:=Bo hlt;have hs9:S.size≤400:=by omega
     have tlt:(k:Int)<(t:Int):=by omega
     clear hS hlt lt hk
     go_wp2_with (first
      |(go_at_fn 109;with_reducible refine (HAT.out _ _ HC.out (by first | decide | omega) (by first | decide | omega)).mono ?_;rintro e wn ⟨rfl,qn,hwn⟩
        replace HC:=Bo (show Below w.heap.size w wn∧Bk wn w.heap.size [.slice a n cap] by rw [hwn];exact ⟨Aj HC.out.1 qn,HC.out.2.below (Aj (Am _ _) qn)⟩)
        clear hwn)
      |(go_at_call 112;with_reducible refine (field_any _ _ (HG.out _) (HG.out _) _).mono ?_;rintro e wn ⟨⟨Fq,rfl,fq⟩,hbn⟩
        replace HC:=Bo (show Below w.heap.size w wn∧Bk wn w.heap.size [.slice a n cap] from ⟨Ak HC.out.1 hbn,HC.out.2.below hbn⟩)
        clear hbn)
      |(go_at_call 111;with_reducible refine (end_any _ (HG.out _) _).mono ?_;rintro e wn ⟨⟨En,rfl,en⟩,hbn⟩
        replace HC:=Bo (show Below w.heap.size w wn∧Bk wn w.heap.size [.slice a n cap] from ⟨Ak HC.out.1 hbn,HC.out.2.below hbn⟩)
        clear hbn))
     go_roundw
     case rel=>exact ⟨k+1,_,(by have:=HLT.out;omega),by go_num,rfl,(by have:=HS.out;simp only [A7];omega),HC⟩
     case measure=>have:=HLT.out;simp [intOf];omega
    ·obtain rfl:k=t:=by omega
     have tlt:¬(k:Int)<(k:Int):=by omega
     have hs9:S.size≤300:=by omega
     clear hS lt hk hge
     go_wp2_with (first
      |(go_at_fn 109;with_reducible refine (HAT.out _ _ HC.out (by first | decide | omega) (by first | decide | omega)).mono ?_;rintro e wn ⟨rfl,qn,hwn⟩
        replace HC:=Bo (show Below w.heap.size w wn∧Bk wn w.heap.size [.slice a n cap] by rw [hwn];exact ⟨Aj HC.out.1 qn,HC.out.2.below (Aj (Am _ _) qn)⟩)
        clear hwn)
      |(go_at_call 111;with_reducible refine (end_any _ (HG.out _) _).mono ?_;rintro e wn ⟨⟨En,rfl,en⟩,hbn⟩
        replace HC:=Bo (show Below w.heap.size w wn∧Bk wn w.heap.size [.slice a n cap] from ⟨Ak HC.out.1 hbn,HC.out.2.below hbn⟩)
        clear hbn)
      |(go_at_call 113;with_reducible refine (body_any _ _ _ (HG.out _) (HG.out _) (HG.out _) _).mono ?_;rintro e wn ⟨⟨Ln,Mn,rfl,ln,mn⟩,hbn⟩
        replace HC:=Bo (show Below w.heap.size w wn∧Bk wn w.heap.size [.slice a n cap] from ⟨Ak HC.out.1 hbn,HC.out.2.below hbn⟩)
        clear hbn))
     go_ret;refine ⟨⟨_,rfl,?_⟩,HC.out.1⟩;simp only [A7];omega
end code
end Go.Proofs.YtnabkcglnbdfeaaGreatDoor.Rq
namespace Go.Proofs.YtnabkcglnbdfeaaGreatDoor.Rq
open Go.RowKit Base Txt
section code
set_option maxHeartbeats 4000000
set_option maxRecDepth 20000
attribute [local go_sem] Al
theorem conv_cap (s:ByteArray) (w:World):∃W cap,(convert 9 22 (.string s)).run EL w=.ok (.slice (some ⟨w.heap.size,0,none⟩) s.size cap) W∧s.size≤cap∧By.Bytes W w.heap.size s.data.toList∧w.heap.size<W.heap.size∧Below w.heap.size w W:=by have hcv:=run_bytes_of_string (P:=EL) w 9 22 5 s Fz Fm Fx;obtain ⟨W,cap,h1,h2,h3,h4⟩:=By.conv_bytes s w;have e:=h1.symm.trans hcv;simp only [Result.ok.injEq,Value.slice.injEq,true_and] at e;exact ⟨W,cap,h1,by rw [e.1];exact grownCap_ge _ _ _ _,h2,h3,h4⟩
theorem nums_cut {w:World} {b off n:Nat} {zs:List Int} (h:Nums .u8 w (some ⟨b,off,none⟩) n zs) (i m:Nat) (hm:i+m≤n):Nums .u8 w (some ⟨b,off+i,none⟩) m ((zs.drop i).take m):=by
 refine ⟨by rw [Cr,Cj,h.1];omega,fun h0=>?_⟩
 obtain ⟨b0,o0,e,hlt,hc⟩:=h.2 (by omega);cases e;refine ⟨b,off+i,rfl,hlt,fun k hk=>?_⟩
 have:=hc (i+k) (by omega);rw [show off+i+k=off+(i+k) by omega,this];simp [List.getElem?_drop,hk]
theorem stream_any (a:Option Addr) (n cap:Nat) (zs:List Int) (w:World) (hv:Nums .u8 w a n zs) (hn:n≤40) (hc:n≤cap) :
 Calls EL 16 #[.slice a n cap] w fun e w'=>∃(g:Nat) (s:List UInt8) (c:Nat),e=.returned (.slice (some ⟨g,0,none⟩) s.length c)∧s.length≤c∧s.length≤2500∧w.heap.size≤g∧g<w'.heap.size∧By.Bytes w' g s∧Below w.heap.size w w':=by
 have HV:=Bo hv;clear hv;go_enter Tryz.func16,Tryz.ntmps16;go_upto_region 3 with fail
 go_loopw [3,4] (fun v i wr=>∃(j:Nat) (S:ByteArray),j≤4∧i=.int .i64 ((10*j:Nat):Int)∧v=.string S∧S.size≤500*j∧Hid (Below w.heap.size w wr)) (fun _ i _=>50-(intOf i).toNat)
 case atStart=>exact ⟨0,⟨#[]⟩,by omega,rfl,rfl,by decide,Bo (Am _ _)⟩
 case round=>
  obtain ⟨j,S,hj,rfl,rfl,hS,hR⟩:=hrel;obtain ⟨q,hq⟩:∃q,10*j=q:=⟨_,rfl⟩;rw [hq]
  have HS:=Bo hS;have HJ:=Bo (And.intro hj hq);have hs9:S.size≤2000:=by omega
  have hq4:q≤40:=by omega
  by_cases hlt:q<n
  ·have hq40:q<40:=by omega
   have t1:(q:Int)<(n:Int):=by omega
   have t2:(q:Int)<40:=by omega
   obtain ⟨m,hm⟩:∃m,min (q+10) n=m:=⟨_,rfl⟩;have hm1:q≤m∧m≤n∧m≤q+10:=by omega
   have im:min ((q:Int)+10) (n:Int)=(m:Int):=by omega
   obtain ⟨b,off,rfl,hb, -⟩:=HV.out.2 (by omega)
   have hcu:=nums_cut HV.out q (m-q) (by omega)
   have HRQ:=Bo (request_any (some ⟨b,off+q,none⟩) (m-q) (cap-q) _ wr (hcu.below hR.out) (by omega));have c2:q≤m:=hm1.1;have c3:m≤cap:=by omega
   clear hm hcu hS hj hq hb hm1
   go_wp2_with (go_at_call 69;with_reducible refine HRQ.out.mono ?_;rintro e w2 ⟨⟨L,rfl,hl⟩,hb2⟩);go_roundw
   case rel=>obtain ⟨hj,hq⟩:=HJ.out;exact ⟨j+1,_,by omega,by subst hq;go_num,rfl,(by have:=HS.out;simp only [A7];omega),Bo (Ak hR.out hb2)⟩
   case measure=>simp [intOf];omega
  ·have t1:¬(q:Int)<(n:Int):=by omega
   obtain ⟨W5,cap5,hcv,hcap5,hby,hlt5,hb5⟩:=conv_cap S wr
   have HF:=Bo (And.intro hcap5 (And.intro hby (And.intro hlt5 (Ak hR.out hb5))));clear hcap5 hby hlt5 hb5 hS hj hq;go_wp2_with fail;go_ret;obtain ⟨f1,f2,f3,f4⟩:=HF.out;exact ⟨wr.heap.size,S.data.toList,cap5,(by rw [Txt.len];rfl),by rw [Txt.len];exact f1,by rw [Txt.len];omega,hR.out.size,f3,f2,f4⟩
end code
end Go.Proofs.YtnabkcglnbdfeaaGreatDoor.Rq
namespace Go.Proofs.YtnabkcglnbdfeaaGreatDoor.Flt
open Go.RowKit Base Txt Mem Par Pg Each
theorem seat_bd (k:Nat):∃b:Bd,Seat.seatB k=bdV b∧b.right=true:=by
 refine ⟨⟨if k%6=1 then 64 else if k%6=3 then 80 else 1024,if k%6=1 then 4 else 32,if k%6=1 then 256 else 8192,if k%6=2 then 16 else if k%6=3 then 40 else 65536,if k%6=2 then 0 else 32,if k%6=2 then 0 else 8,((k/32%4:Nat)+1:Int),20,!decide (k%8=7),!decide (12<k%16)⟩,rfl,?_⟩
 have h:k/32%4<4:=Nat.mod_lt _ (by decide);generalize k/32%4=z at *;unfold Bd.right Bnd.right Bnd.inside;simp only [An,decide_eq_true_eq];by_cases h1:k%6=1
 ·simp only [h1];simp;omega
 ·by_cases h2:k%6=2
  ·simp only [h2];simp;omega
  ·by_cases h3:k%6=3
   ·simp only [h3];simp;omega
   ·simp only [if_neg h1,if_neg h2,if_neg h3];omega
structure EX (w0 w:World) (B g1 g2 p:Nat) (b:Bd) (t:T) (L1 L2:List (Option Nat)):Prop where
 x:Has B g1 0 b (.live t) w L1
 y:Has B g2 p b (.live (t.wide p)) w L2
 dis:Dis L1 L2
 strict:t.Strict
 ok:t.Ok
 out:t.out= []
 bel:Below B w0 w
section code
set_option maxHeartbeats 8000000
set_option maxRecDepth 20000
attribute [local go_sem] Al
end code
end Go.Proofs.YtnabkcglnbdfeaaGreatDoor.Flt
namespace Go.Proofs.YtnabkcglnbdfeaaGreatDoor.Bld
open Go.RowKit
abbrev T:TypeId:=183
abbrev E:TypeId:=5
section code
set_option maxHeartbeats 2000000
set_option maxRecDepth 100000
end code
end Go.Proofs.YtnabkcglnbdfeaaGreatDoor.Bld
namespace Go.Proofs.YtnabkcglnbdfeaaGreatDoor.Fd
open Go.RowKit Base Txt Tgt
abbrev lineB (f:Fld):ByteArray:=((f.1 ++⟨#[58,32]⟩)++f.2) ++⟨#[13,10]⟩
section code
set_option maxHeartbeats 4000000
set_option maxRecDepth 100000
attribute [local go_sem] Al
end code
end Go.Proofs.YtnabkcglnbdfeaaGreatDoor.Fd
namespace Go.Proofs.YtnabkcglnbdfeaaGreatDoor.Fd
open Go.RowKit Base Txt Tgt
theorem rjoined_eq (v s:ByteArray):(v ++⟨#[32]⟩)++trim s=ba (joined v.data.toList s.data.toList):=ba_ext (by simp only [joined,ByteArray.data_append,Array.toList_append,List.append_assoc];rfl)
section code
set_option maxHeartbeats 4000000
set_option maxRecDepth 100000
attribute [local go_sem] Al
theorem rgoes_any (s:ByteArray) (p:Nat) (hp:p<4294967296) (w:World):Calls EL 215 #[.string s,.int .u32 (p:Nat)] w fun e w'=>e=.returned (.bool (goes p s.data.toList))∧w'=w:=by
 have HH:=Bo (fun w=>Du p hp 13 w);unfold goes;generalize Ds p 13=b at *;rcases CO s.size with h0 | h0
 ·obtain rfl:s=E0:=ba_ext (List.length_eq_zero_iff.1 (by rw [len];exact h0));cases b;all_goals
   go_enter Tryz.func215,Tryz.ntmps215
   go_wp2_with (go_at_call 53;with_reducible refine Cm (HH.out _) ?_);go_ret;exact ⟨by rfl,rfl⟩
 ·have t0:=first_no s h0
  have HB:=Bo (fun w=>Oct.rblank_any (s[0].toNat:Int) w);rw [blank_is] at HB;have e1:(!s.data.toList.isEmpty&&FB (s.data.toList.headD 0))=FB s[0]:=by exact XXpKR
  rw [e1];clear e1;cases b;all_goals
   go_enter Tryz.func215,Tryz.ntmps215
   go_wp2_with (first
    |(go_at_call 53;with_reducible refine Cm (HH.out _) ?_)
    |(go_at_call 130;with_reducible refine Cm (HB.out _) ?_))
   go_ret;exact ⟨by rfl,rfl⟩
theorem rjoin_any (n v s:ByteArray) (w:World) (hs:s.size≤1000000000) (hv:v.size≤1000000000):Calls EL 216 #[fv n v,.string s] w fun e w'=>e=.returned (fv n (ba (joined v.data.toList s.data.toList)))∧Below w.heap.size w w':=by
 have HT:=Bo (fun w=>rtrim_any s w (by unfold maxLen;omega));have hT:(trim s).size≤s.size:=trim_size _ _;rw [←rjoined_eq];generalize trim s=T at *;have v1:¬9223372036854775807<v.size+1:=by omega
 have v2:¬9223372036854775807<v.size+1+T.size:=by omega
 go_enter Tryz.func216,Tryz.ntmps216;go_wp2_with fail
 go_region_with (go_at_call 129;with_reducible refine Cm (HT.out _) ?_);all_goals
  go_wp2;exact bodyPost_ret (v:=fv n ((v ++⟨#[32]⟩)++T)) (by simp [results,Tryz.results216,go_sem]) rfl ⟨rfl,Aj (((Am _ _).alloc (CQ _) _).alloc (by simp) _) 1⟩
end code
end Go.Proofs.YtnabkcglnbdfeaaGreatDoor.Fd
namespace Go.Proofs.YtnabkcglnbdfeaaGreatDoor.Fd
open Go.RowKit Base Txt Tgt
section code
set_option maxHeartbeats 4000000
set_option maxRecDepth 100000
attribute [local go_sem] Al
end code
end Go.Proofs.YtnabkcglnbdfeaaGreatDoor.Fd
namespace Go.Proofs.YtnabkcglnbdfeaaGreatDoor.Fd
open Go.RowKit Base Txt Tgt
theorem colon_cases (l:List UInt8):((58:UInt8)∉l∧(cutAt 58 l).2.2=false)∨∃j,∃h:j<l.length,l[j]=58∧(58:UInt8)∉l.take j∧(cutAt 58 l).1=l.take j∧(cutAt 58 l).2.1=l.drop (j+1)∧(cutAt 58 l).2.2=true:=by
 rcases cut_cases 58 l with h | ⟨a,r,rfl,h⟩
 ·exact .inl ⟨h,by rw [cutAt_none 58 l h]⟩
 ·refine .inr ⟨a.length,by simp,by simp,by simpa using h,?_,?_,?_⟩
  ·rw [cutAt_app 58 a r h];simp
  ·rw [cutAt_app 58 a r h];simp
  ·rw [cutAt_app 58 a r h]
def nameAt (t:Nat) (w:World):Nat:=match w.cell? ⟨t,0,none⟩ with
 | some (.string b)=>b.size
 | _=>0
theorem nameAt_of {t:Nat} {w:World} {b:ByteArray} (h:w.cell? ⟨t,0,none⟩=some (.string b)):nameAt t w=b.size:=by unfold nameAt;rw [h]
theorem Two.set0 {w0 w:World} {n v N V:ByteArray} {t:Nat} (h:Two w0 n v t N V w) (N':ByteArray):Two w0 n v t N' V (w.setCell ⟨t,0,none⟩ (.string N')):=by
 have h1:=h.k.f.other t 0 (.string N') h.ne
 have hb:=h.k.b.setCell (p:=⟨t,0,none⟩) h.ge (.string N');obtain ⟨c0,c1,z0,z1⟩:=h.f;exact ⟨⟨h1,by simpa using h.k.g,hb⟩,⟨by go_simp,by go_simp,by go_simp,by go_simp⟩,h.ne,by simpa using h.lt,h.ge⟩
theorem not_colon (s:ByteArray) (k:Nat) (h:k<s.size) (j:Nat) (hj:k<j) (hn:(58:UInt8)∉s.data.toList.take j):((s[k].toNat:Int)==58)=false:=by
 refine beq_eq_false_iff_ne.2 fun e=>hn ?_;have hl:k<s.data.toList.length:=by rw [len];exact h
 have e1:s.data.toList[k]=58:=FD.1 (by show s[k].toNat=58;omega);rw [←e1];rw [List.mem_take_iff_getElem];exact ⟨k,by omega,rfl⟩
theorem last_of (n0:List UInt8) (m:Nat) (h:m<n0.length):∃Nn:ByteArray,ba (n0.take (m+1))=Nn∧Nn.size=m+1∧(∃h2:m<Nn.size,Nn[m]=n0[m])∧Nn.extract 0 m=ba (n0.take m):=by
 have hl:(n0.take (m+1)).length=m+1:=by rw [Cr];omega
 refine ⟨_,rfl,by rw [Txt.ba_size];exact hl,⟨by rw [Txt.ba_size];omega,?_⟩,?_⟩
 ·show (n0.take (m+1))[m]'(by omega)=n0[m];rw [List.getElem_take]
 ·exact ba_ext (by
   rw [Bl];show ((n0.take (m+1)).drop 0).take (m-0)=n0.take m;rw [List.drop_zero,List.take_take]
   congr 1;omega)
section code
set_option maxHeartbeats 4000000
set_option maxRecDepth 100000
attribute [local go_sem] Al
theorem rparse_none (s:ByteArray) (p:Nat) (hp:p<4294967296) (w:World) (hs:s.size≤1000000000) (hno:(58:UInt8)∉s.data.toList) :
 Calls EL 91 #[.string s,.int .u32 (p:Nat)] w fun e w'=>e=.returned (rv (out (Ds p 11)))∧Below w.heap.size w w':=by
 have HH:=Bo (fun w=>Du p hp 11 w);have HNO:=Bo hno;clear hno;obtain ⟨b,hb⟩:∃b,Ds p 11=b:=⟨_,rfl⟩;rw [hb] at HH ⊢;clear hb
 have hW:=Bo (show Below w.heap.size w (w.alloc (.cells #[.string E0,.string E0] 126)) from (Am _ _).alloc (CQ _) _);go_enter Tryz.func91,Tryz.ntmps91;go_wp2
 go_loop [7,8] (fun c i=>∃k:Nat,k≤s.size∧c=.int .i64 (-1)∧i=.int .i64 k) (fun _ i=>s.size-(intOf i).toNat)
 case atStart=>exact ⟨0,CY _,rfl,rfl⟩
 case round=>
  obtain ⟨k,hk,rfl,rfl⟩:=hrel;rcases CW k s.size with hlt | hge
  ·have t1:=not_colon s k hlt (k+1) (by omega) (fun h=>HNO.out (List.mem_of_mem_take h));go_wp2;go_round
   case rel=>exact ⟨k+1,by omega,rfl,by go_num⟩
   case measure=>simp [intOf];omega
  ·cases b
   ·go_wp2_with (go_at_call 53;with_reducible refine Cm (HH.out _) ?_);exact bodyPost_ret (v:=.tuple #[fv E0 E0,.bool false,.int .i64 400]) (by simp [results,Tryz.results91,go_sem]) rfl ⟨rfl,hW.out⟩
   ·go_wp2_with (go_at_call 53;with_reducible refine Cm (HH.out _) ?_);exact bodyPost_ret (v:=.tuple #[fv E0 E0,.bool false,.int .i64 0]) (by simp [results,Tryz.results91,go_sem]) rfl ⟨rfl,hW.out⟩
theorem XXfct {P:Prop} (h:P:=by exact bodyPost_ret (v:=.tuple #[fv E0 E0,.bool false,.int .i64 400]) (by simp [results,Tryz.results91,go_sem,r0,r1]) rfl ⟨by first | rfl |(rw [hRv];rfl),hbW⟩):P:=h
theorem XXqMN {P:Prop} (h:P:=by
 go_wp2_with (go_at_call 53;with_reducible refine Cm (H9.out _) ?_);go_meet
 case rel=>exact HZ):P:=h
theorem rparse_some (s:ByteArray) (p:Nat) (hp:p<4294967296) (w:World) (hs:s.size≤1000000000) (j:Nat) (hj:j<s.size) (hc:s[j]=58) (hno:(58:UInt8)∉s.data.toList.take j) :
 Calls EL 91 #[.string s,.int .u32 (p:Nat)] w fun e w'=>e=.returned (rv (read (clOf p) (nameL (clOf p) (s.data.toList.take j)) (trimL FB (s.data.toList.drop (j+1)))))∧Below w.heap.size w w':=by
 have H9:=Bo (fun w=>Du p hp 9 w)
 have H10:=Bo (fun w=>Du p hp 10 w)
 have H12:=Bo (fun w=>Du p hp 12 w)
 have H14:=Bo (fun w=>Du p hp 14 w)
 have e1:s.extract 0 j=ba (s.data.toList.take j):=ba_ext (by rw [Bl];simp [ba])
 have e2:s.extract (j+1) s.size=ba (s.data.toList.drop (j+1)):=ba_ext (by rw [Bl,CD (by rw [Cj,len];omega)];rfl)
 have HT:=Bo (fun w=>rtrim_any (s.extract (j+1) s.size) w (by unfold maxLen;rw [ByteArray.size_extract];omega));have hT:trim (s.extract (j+1) s.size)=ba (trimL FB (s.data.toList.drop (j+1))):=by rw [e2];rfl
 rw [hT] at HT
 have hvl:(trimL FB (s.data.toList.drop (j+1))).length≤s.size:=CT (trimL_length _ _) (by rw [Cj,len];omega);have hnl:(s.data.toList.take j).length=j:=by rw [Cr,len];omega
 have E1:=Bo e1;have t0:((s[j].toNat:Int)==58)=true:=by rw [hc];rfl
 have HNC:=Bo (fun k (h:k<s.size) (hk:k<j)=>not_colon s k h j hk hno);clear e1 e2 hT hno hc;generalize s.data.toList.take j=n0 at *;generalize trimL FB (s.data.toList.drop (j+1))=v1 at *
 have hW:=Bo (show Below w.heap.size w (w.alloc (.cells #[.string E0,.string E0] 126)) from (Am _ _).alloc (CQ _) _);obtain ⟨R,hR⟩:∃R,rv (read (clOf p) (nameL (clOf p) n0) v1)=R:=⟨_,rfl⟩;rw [hR];have HR0:=Bo hR;clear hR;go_enter Tryz.func91,Tryz.ntmps91;go_upto_block 0 with fail
 go_cut [7,8] from 10 (fun c i wx=>c=.int .i64 (j:Nat)∧wx=w.alloc (.cells #[.string E0,.string E0] 126))
 case first=>
  go_wp2_with fail
  go_loop [7,8] (fun c i=>(∃k:Nat,k≤j∧c=.int .i64 (-1)∧i=.int .i64 k)∨(c=.int .i64 (j:Nat)∧i=.int .i64 ((j+1:Nat):Int))) (fun _ i=>s.size-(intOf i).toNat)
  case atStart=>exact .inl ⟨0,CY _,rfl,rfl⟩
  case round=>
   rcases hrel with ⟨k,hk,rfl,rfl⟩ | ⟨rfl,rfl⟩
   ·have hlt:k<s.size:=by omega
    rcases CW k j with hkj | hkj
    ·have t1:=HNC.out k hlt hkj;clear t0;go_wp2;go_round
     case rel=>exact .inl ⟨k+1,by omega,rfl,by go_num⟩
     case measure=>simp [intOf];omega
    ·obtain rfl:k=j:=by omega
     go_wp2;go_round
     case rel=>exact .inr ⟨rfl,by go_num⟩
     case measure=>simp [intOf];omega
   ·have q0:¬(j:Int)<0:=by omega
    go_wp2;all_goals
     go_meet
     case rel=>exact ⟨rfl,rfl⟩
 case rest=>
  obtain ⟨rfl,hw0⟩:=hcut;rw [hw0];clear hw0;have q0:¬(j:Int)<0:=by omega
  have q1:(0:Int)≤(j:Int):=by omega
  have q2:(j:Int)≤(s.size:Int):=by omega
  have q3:IntKind.i64.wrap ((j:Int)+1)=((j+1:Nat):Int):=by rw [wrap_in _ (by omega) (by omega)];omega
  have q4:((j+1:Nat):Int)≤(s.size:Int):=by omega
  have q5:(0:Int)≤((j+1:Nat):Int):=by omega
  go_upto_region 11 with fail
  go_cut [9] from 31 (fun f wx=>f=.pointer (some ⟨w.heap.size+1,0,none⟩)∧wx=((w.alloc (.cells #[.string E0,.string E0] 126)).alloc (.cells #[.string (s.extract 0 j),.string (ba v1)] 126)).drew)
  case first=>
   go_region_with (go_at_call 129;with_reducible refine Cm (HT.out _) ?_);all_goals
    go_wp2_with fail;go_meet
    case rel=>exact ⟨rfl,rfl⟩
  case rest=>
   obtain ⟨rfl,hw0⟩:=hcut;have hts:(w.alloc (.cells #[.string E0,.string E0] 126)).heap.size=w.heap.size+1:=by simp
   have HX:=(Two.new (Keep.new w 126 E0 E0) 126 (s.extract 0 j) (ba v1)).drew 1;rw [hts,E1.out] at HX;rw [E1.out] at hw0
   replace HX:=Bo (show Two w E0 E0 (w.heap.size+1) (ba n0) (ba v1) wc by rw [hw0];exact HX)
   clear hw0 hts hW HT E1 HNC t0 q0 q1 q2 q3 q4 q5;have htz:w.heap.size+1=w.heap.size+1:=rfl;generalize w.heap.size+1=t at *;clear htz;have hnf:∀x,nameL (clOf p) x=if Ds p 9=true then trimEnd x else x:=fun _=>rfl
   obtain ⟨sp,hsp⟩:∃sp,Ds p 9=sp:=⟨_,rfl⟩;rw [hsp] at H9 hnf;clear hsp;have HNF:=Bo hnf;clear hnf;have hn1l:=nameL_le (clOf p) n0;rw [hnl] at hn1l;go_upto_block 2 with fail
   go_cut [] from 40 (fun wx=>Hid (Two w E0 E0 t (ba (nameL (clOf p) n0)) (ba v1) wx))
   case first=>
    go_wp2_with fail
    go_loopw [] (fun wr=>∃m:Nat,m≤j∧Hid (Two w E0 E0 t (ba (n0.take m)) (ba v1) wr)∧Hid (nameL (clOf p) (n0.take m)=nameL (clOf p) n0)) (fun wr=>nameAt t wr)
    case atStart=>exact ⟨j,CQ _,Bo (by rw [CD (by omega)];exact HX.out),Bo (by rw [CD (by omega)])⟩
    case round=>
     obtain ⟨m,hm,HY,HR⟩:=hrel;obtain ⟨⟨⟨c0,c1,z0,z1⟩,hg,hbk⟩,⟨d0,d1,y0,y1⟩,hne,hlt,hge⟩:=HY.out;have hna:=nameAt_of d0;clear c0 c1 z0 z1 hg hbk hlt hge;cases sp with
     | false=>
       have HZ:=Bo (show Two w E0 E0 t (ba (nameL (clOf p) n0)) (ba v1) wr by rw [←HR.out,HNF.out,if_neg (by decide)];exact HY.out)
       exact XXqMN
     | true=>
       rcases m with _ | m
       ·have HZ:=Bo (show Two w E0 E0 t (ba (nameL (clOf p) n0)) (ba v1) wr by
         rw [←HR.out,HNF.out,if_pos rfl];exact HY.out)
        rw [show ba (n0.take 0)=E0 from rfl] at d0;exact XXqMN
       ·have hml:m<n0.length:=by omega
        have htk:=CE hml;obtain ⟨Nn,hNn,hsz,⟨z2,hat⟩,hex⟩:=last_of n0 m hml;rw [hNn] at d0 hna
        have hno:=first_no Nn (by omega);have HB:Hid (∀w,Calls EL 130 #[.int .u8 (Nn[m].toNat:Int)] w fun e w'=>e=.returned (.bool (FB n0[m]))∧w'=w):=Bo fun w=>by
         have:=Oct.rblank_any (Nn[m].toNat:Int) w;rw [blank_is] at this
         rwa [show FB Nn[m]=FB n0[m] from congrArg _ hat] at this
        have z1:IntKind.i64.wrap ((Nn.size:Int)-1)=(m:Int):=by rw [wrap_in _ (by omega) (by omega)];omega
        have z3:(m:Int)<(Nn.size:Int):=by omega
        have z4:(m:Int)≤(Nn.size:Int):=by omega
        have z5:(0:Int)≤(m:Int):=by omega
        cases hb:FB n0[m] with
        | false=>
          rw [hb] at HB
          have HZ:=Bo (show Two w E0 E0 t (ba (nameL (clOf p) n0)) (ba v1) wr by rw [←HR.out,HNF.out,if_pos rfl,htk,trimEnd_stop _ _ hb,←htk];exact HY.out)
          clear hb htk HY HR hex hat hNn
          go_wp2_with (first
           |(go_at_call 53;with_reducible refine Cm (H9.out _) ?_)
           |(go_at_call 130;with_reducible refine Cm (HB.out _) ?_))
          go_meet
          case rel=>exact HZ
        | true=>
          rw [hb] at HB
          have HY2:=Bo (HY.out.set0 (Nn.extract 0 m))
          have HR2:=Bo (show nameL (clOf p) (n0.take m)=nameL (clOf p) n0 by rw [←HR.out,HNF.out,HNF.out,if_pos rfl,if_pos rfl,htk,trimEnd_snoc _ _ hb])
          have HE:=Bo hex;clear hb htk HY HR hex hat hNn
          go_wp2_with (first
           |(go_at_call 53;with_reducible refine Cm (H9.out _) ?_)
           |(go_at_call 130;with_reducible refine Cm (HB.out _) ?_))
          have hd:=HY2.out.f.c0;have hs2:(Nn.extract 0 m).size=m:=by rw [ByteArray.size_extract];omega
          rw [HE.out] at HY2;go_roundw
          case rel=>exact ⟨m,by omega,by first | exact HY2 |(rw [HE.out];exact HY2),HR2⟩
          case measure=>rw [nameAt_of hd,hna];omega
   case rest=>
    clear HX;have HX:=hcut;clear hcut H9 HNF;generalize nameL (clOf p) n0=n1 at *;by_cases hn:n1= []
    ·subst hn;have hRv:R=rv (out (Ds p 12)):=by rw [←HR0.out];rfl
     clear HR0;generalize Ds p 12=nn at *;obtain ⟨⟨⟨c0,c1,z0,z1⟩,hg,hbk⟩,⟨d0,d1,y0,y1⟩,hne,hlt,hge⟩:=HX.out;obtain ⟨W9,hW9,⟨r0,r1,_,_⟩,hbW⟩:=Fb.put HX.out.k.f HX.out.k.b (CQ _) E0 E0;rw [show ba []=E0 from rfl] at d0;clear hg hbk hlt hge;cases nn
     ·go_wp2_with (go_at_call 53;with_reducible refine Cm (H12.out _) ?_);try rw [hW9]
      exact XXfct
     ·go_wp2_with (go_at_call 53;with_reducible refine Cm (H12.out _) ?_);try rw [hW9]
      exact bodyPost_ret (v:=.tuple #[fv E0 E0,.bool false,.int .i64 0]) (by simp [results,Tryz.results91,go_sem,r0,r1]) rfl ⟨by first | rfl |(rw [hRv];rfl),hbW⟩
    ·have t0:=first_no (ba n1) (ba_pos hn)
     have HN:=Bo (fun w a (hk:Ints w a 1 [1])=>Oct.rall_any (ba n1) a 1 1 [1] w (by rw [Txt.ba_size];unfold maxLen;omega) hk (by decide))
     have HV:=Bo (fun w a (hk:Ints w a 1 [6])=>Oct.rall_any (ba v1) a 1 1 [6] w (by rw [Txt.ba_size];unfold maxLen;omega) hk (by decide));rw [show (ba n1).data.toList=n1 from rfl] at HN;rw [show (ba v1).data.toList=v1 from rfl] at HV;obtain ⟨G,hG⟩:∃G,(!(goodN (clOf p) n1&&goodV (clOf p) v1))=G:=⟨_,rfl⟩
     have HG:=Bo (show G= !((Ds p 10||Db [1] n1)&&(Ds p 14||Db [6] v1)) from hG.symm)
     have HRv:=Bo (show R=if G=true then rv none else rv (some (some (n1,v1))) by rw [←HR0.out,←hG];unfold read;rw [if_neg hn];cases (goodN (clOf p) n1&&goodV (clOf p) v1)<;>rfl)
     have HF:Hid (rv (some (some (n1,v1)))=.tuple #[fv (ba n1) (ba v1),.bool true,.int .i64 0]):=Bo rfl;clear hG HR0 hn hnl hvl hn1l H12;generalize ba n1=N1 at *;generalize ba v1=V1 at *;obtain ⟨⟨⟨c0,c1,z0,z1⟩,hg,hbk⟩,⟨d0,d1,y0,y1⟩,hne,hlt,hge⟩:=HX.out;clear hg hbk hlt hge c0 c1 z0 z1;go_upto_region 18 with fail
     go_cut [93] from 72 (fun v wx=>v=.bool G∧Hid (Two w E0 E0 t N1 V1 wx))
     case first=>
      clear HRv HF t0;generalize Ds p 10=nb at *;generalize Ds p 14=vb at *;generalize Db [1] n1=tn at *;generalize Db [6] v1=tv at *;have hGG:=HG.out;clear HG;cases nb<;>cases tn<;>cases vb<;>cases tv;all_goals
       obtain rfl:=hGG
       go_wp2_with (first
        |(go_at_call 53;with_reducible refine Cm (H10.out _) ?_)
        |(go_at_call 53;with_reducible refine Cm (H14.out _) ?_)
        |(go_at_call 131;(with_reducible refine (HV.out _ _ (Ints.one _ _ rfl _ _)).mono ?_);rintro e w1 ⟨rfl,m,hw⟩
          replace HX:=Bo ((HX.out.step ((Am _ _).alloc (CQ _) (.cells #[.int .i64 6] 3))).drew m)
          rw [←hw] at HX;clear hw)
        |(go_at_call 131;(with_reducible refine (HN.out _ _ (Ints.one _ _ rfl _ _)).mono ?_);rintro e w1 ⟨rfl,m,hw⟩
          replace HX:=Bo ((HX.out.step ((Am _ _).alloc (CQ _) (.cells #[.int .i64 1] 3))).drew m)
          rw [←hw] at HX;clear hw d0 d1 y0 y1;obtain ⟨d0,d1,y0,y1⟩:=HX.out.f))
       go_meet
       case rel=>exact ⟨by rfl,HX⟩
     case rest=>
      obtain ⟨rfl,HY⟩:=hcut;clear HX HG d0 d1 y0 y1 t0 HN HV H10 H14;obtain ⟨⟨⟨c0,c1,z0,z1⟩,hg,hbk⟩,⟨d0,d1,y0,y1⟩,hne,hlt,hge⟩:=HY.out;clear hg hbk hlt hge;cases G with
      | true=>
        have hRv:=HRv.out;rw [if_pos rfl] at hRv;obtain ⟨W9,hW9,⟨r0,r1,_,_⟩,hbW⟩:=Fb.put HY.out.k.f HY.out.k.b (CQ _) E0 E0;go_wp2_with fail;try rw [hW9]
        exact XXfct
      | false=>
        have hRv:=HRv.out;rw [if_neg (by decide),HF.out] at hRv;obtain ⟨W9,hW9,⟨r0,r1,_,_⟩,hbW⟩:=Fb.put HY.out.k.f HY.out.k.b (CQ _) N1 V1;go_wp2_with fail;try rw [hW9]
        exact bodyPost_ret (v:=.tuple #[fv N1 V1,.bool true,.int .i64 0]) (by simp [results,Tryz.results91,go_sem,r0,r1]) rfl ⟨by first | rfl | rw [hRv],hbW⟩
theorem rparse_any (s:ByteArray) (p:Nat) (hp:p<4294967296) (w:World) (hs:s.size≤1000000000):Calls EL 91 #[.string s,.int .u32 (p:Nat)] w fun e w'=>e=.returned (rv (parse (clOf p) s.data.toList))∧Below w.heap.size w w':=by
 rcases colon_cases s.data.toList with ⟨h1,h2⟩ | ⟨j,hj,h1,h2,h3,h4,h5⟩
 ·have:=rparse_none s p hp w hs h1;unfold parse;rw [if_neg (by rw [h2];decide)];exact this
 ·have:=rparse_some s p hp w hs j (by rw [←len];exact hj) h1 h2;unfold parse;rw [if_pos h5,h3,h4];exact this
end code
end Go.Proofs.YtnabkcglnbdfeaaGreatDoor.Fd
namespace Go.Proofs.YtnabkcglnbdfeaaGreatDoor.Par
open Go.RowKit Base Txt Mem
section code
set_option maxHeartbeats 4000000
set_option maxRecDepth 20000
attribute [local go_sem] Al
variable {w:World} {B:Zone} {g q:Nat} {v f bd t o:Value} {p:Nat} {b:Bd} {s:S}
theorem fail_at (h:PR w B g q v f bd t o p b s) (e:Nat) (x:Int) (hx:x=(e:Int)):Calls EL 118 #[ptr g,.int .i64 x] w fun r w'=>
 r=.returned (.tuple #[])∧PR w' B g q v nil nil nil o p b (s.fail e)∧Step (blks g q v f bd t o) (blks g q v nil nil nil o) w w':=by
 subst hx;exact fail_any h e
theorem cells_last (ini:List Fld) (a:Fld):(cells (ini ++ [a]))[ini.length*2]?=some (.string a.1)∧(cells (ini ++ [a]))[ini.length*2+1]?=some (.string a.2):=by exact XXWvg
theorem cells_put (ini:List Fld) (a c:Fld):((cells (ini ++ [a])).set (ini.length*2) (.string c.1)).set (ini.length*2+1) (.string c.2)=cells (ini ++ [c]):=by exact XXysj
theorem XXmNg {P:Prop} (h:P:=by
 rw [hg] at hgo;have HGo:=Bo hgo;clear hgo hg;go_enter Tryz.func192,Tryz.ntmps192;go_upto_region 5 with fail
 generalize w.setCell ⟨g,20,none⟩ (.int .i64 ((s.lines:Int)+1))=W1 at *;clear c20 z20 a1 a2 t0;have c0:=H1.out.cs.c0
 go_wp2_with (first
  |(at_builtin;refine App.wpList_append_list _ rfl _ _ 46 rfl B 126 iF (.agg #[.string A6,.string A6]) 2 32 Tryz.underlying46 I1.out I2.out I3.out I4.out rfl (by decide) (.slice bo s.r.fs.length co) s.r.fs.length (cells s.r.fs) rfl ((H1.out.below (HB3.out.alloc HB3.out.size (.cells #[.string (ba n),.string (ba vv)] 126))).own.F.alloc (.cells #[.string (ba n),.string (ba vv)] 126)) (some ⟨w3.heap.size+1,0,none⟩) 1 1 [.string (ba n),.string (ba vv)] rfl rfl (fun _=>⟨w3.heap.size+1,0,rfl,fun j u hu=>by rw [CX];exact (Dw (w3.alloc (.cells #[.string (ba n),.string (ba vv)] 126)) (w3.heap.size+1) (by simp) 126 [.string (ba n),.string (ba vv)]).c j u hu⟩) (by intro u hu;rcases (by simpa using hu:u=.string (ba n)∨u=.string (ba vv)) with rfl | rfl<;>rfl) (by have:=HLEN.out;unfold maxLen;omega) (by have:=HLEN.out;omega) (by have:=(H1.out.below (HB3.out.alloc HB3.out.size (.cells #[.string (ba n),.string (ba vv)] 126))).own.lt;have:=H1.out.own.ge;simp at *;omega) ?_;intro v2 w5 hO5 hgr5 _ hor5;have HO5:=Bo hO5;have HG5:=Bo hgr5;have HR5:=Bo hor5;clear hO5 hgr5 hor5)
  |(go_at_call 91;with_reducible refine (HP.out _).mono ?_;rintro r w3 ⟨rfl,hb3⟩
    have HB3:=Bo hb3;clear hb3)
  |(go_at_call 215;with_reducible refine Cm (HGo.out _) ?_))
 go_ret
 have hb4:=(HB3.out.alloc HB3.out.size (.cells #[.string (ba n),.string (ba vv)] 126))
 have hb5:=hb4.alloc hb4.size (.cells #[.string (ba n),.string (ba vv)] 126);have h4:=H1.out.below hb5;have hl:(s.r.fs ++ [(ba n,ba vv)]).length=s.r.fs.length+1:=by simp
 have hk5:Keeps [(Value.slice bo s.r.fs.length co).ownBlock] ((w3.alloc (.cells #[.string (ba n),.string (ba vv)] 126)).alloc (.cells #[.string (ba n),.string (ba vv)] 126)) w5:=Bc HG5.out fun k e=>by rw [e];exact C1.2 rfl
 obtain ⟨ho5,hs5⟩:=h4.own.setF (f':=v2) (fs':=s.r.fs ++ [(ba n,ba vv)]) hk5 (by rw [hl,cells_append];exact HO5.out) (by
  rcases HR5.out with e | e
  ·exact .inl e
  ·exact .inr ⟨_,e,CQ _⟩)
 have hrow:w5.heap[g]?= _:=hk5.row h4.row (fun hm=>by
  have e:some g=(Value.slice bo s.r.fs.length co).ownBlock:=by simpa using hm
  exact h4.own.lone.ne (i:=0) (j:=3) rfl (by decide) (by rw [e];rfl))
 exact ⟨_,rfl,hrow,ho5,HS1.out.trans ((DD hb5).trans hs5)⟩):P:=h
theorem XXv0S {P:Prop} (h:P:=by
 rw [hg] at hgo;have HGo:=Bo hgo;clear hgo hg;go_enter Tryz.func192,Tryz.ntmps192;go_upto_region 5 with fail
 generalize w.setCell ⟨g,20,none⟩ (.int .i64 ((s.lines:Int)+1))=W1 at *;clear c20 z20 a1 a2 t0;have c0:=H1.out.cs.c0
 go_wp2_with (first
  |(go_at_call 118;with_reducible refine (HFA.out _ (HB3.out.alloc HB3.out.size (.cells #[.string ⟨#[]⟩,.string ⟨#[]⟩] 126))).mono ?_;rintro r w4 ⟨rfl,hP,hS⟩)
  |(go_at_call 91;with_reducible refine (HP.out _).mono ?_;rintro r w3 ⟨rfl,hb3⟩
    have HB3:=Bo hb3;clear hb3)
  |(go_at_call 215;with_reducible refine Cm (HGo.out _) ?_))
 go_ret
 exact ⟨rfl,hP,HS1.out.trans ((DD (HB3.out.alloc HB3.out.size (.cells #[.string ⟨#[]⟩,.string ⟨#[]⟩] 126))).trans hS)⟩):P:=h
theorem XXDlw {P:Prop} (h:P:=by
 rw [e];have t0:most<(s.lines:Int)+1:=by omega
 have HFA:=Bo (fail_at H1.out 431 431 rfl);clear e hm;go_enter Tryz.func192,Tryz.ntmps192
 go_wp2_with (go_at_call 118;with_reducible refine HFA.out.mono ?_;rintro r w2 ⟨rfl,hP,hS⟩);go_ret
 exact ⟨rfl,hP,HS1.out.trans hS⟩):P:=h
theorem fieldF_any (hp:p<4294967296) (x:ByteArray) (hx:x.size≤5000) (most:Int) (h:PR w B g q v f bd t o p b s) (hl:s.lines≤1000) (hsz:∀y∈s.r.fs,y.1.size≤1000000∧y.2.size≤1000000) (hlen:s.r.fs.length≤500) :
 Calls EL 192 #[ptr g,f,.string x,.int .i64 most] w fun r w'=>
  match fieldV p s.lines s.r.fs x.data.toList most with
  | .inl e=>r=.returned nil∧PR w' B g q v nil nil nil o p b (S.fail {s with lines:=s.lines+1} e)∧Step (blks g q v f bd t o) (blks g q v nil nil nil o) w w'
  | .inr l=>∃f',r=.returned f'∧w'.heap[g]?=some (.cells (pcells p b {s with lines:=s.lines+1} q f bd t o).toArray 60 (0,0))∧Own w' B g q v f' bd t o p s.rd l s.r.body s.r.ts s.out∧Step (blks g q v f bd t o) (blks g q v f' bd t o) w w':=by
 obtain ⟨a1,a2⟩:=Dz ((s.lines:Int)+1) ⟨by omega,by omega⟩
 have H1:=Bo (h.put 20 (.int .i64 ((s.lines:Int)+1)) {s with lines:=s.lines+1} rfl rfl rfl rfl rfl rfl)
 have HS1:=Bo (DF (w:=w) (L:=blks g q v f bd t o) g 20 (.int .i64 ((s.lines:Int)+1)) (by simp));have c20:=h.cs.c20;have z20:=h.marks 20;have HSZ:=Bo hsz;have HLEN:=Bo hlen;clear hsz hlen
 by_cases hm:most<((s.lines+1:Nat):Int)
 ·have e:fieldV p s.lines s.r.fs x.data.toList most=.inl 431:=by unfold fieldV;rw [if_pos hm]
  exact XXDlw
 ·have t0:¬most<(s.lines:Int)+1:=by omega
  obtain ⟨bo,co,eo, -⟩:=CJ h.own.F;have hgo:=fun w=>Fd.rgoes_any x p hp w
  have HP:=Bo (fun w=>Fd.rparse_any x p hp w (by omega));have HSZx:=Bo hx;have hnn:(s.r.fs.length:Int)≤500:=by have:=HLEN.out;omega
  subst eo;clear h hl hx;by_cases hj:(Fd.goes p x.data.toList && !s.r.fs.isEmpty)=true
  ·simp only [An,Aw,List.isEmpty_eq_false_iff] at hj;obtain ⟨hg,hne⟩:=hj;rw [hg] at hgo;have HGo:=Bo hgo;obtain ⟨ini,last,el⟩:∃ini last,s.r.fs=ini ++ [last]:=⟨_,_,(List.dropLast_concat_getLast hne).symm⟩;have hn1:s.r.fs.length=ini.length+1:=by rw [el];simp
   have e:fieldV p s.lines s.r.fs x.data.toList most=.inr (ini ++ [joinF last x.data.toList]):=by exact XX098
   rw [e]
   obtain ⟨gf,cf,hform,hgl,hgf⟩:=H1.out.own.F.form (by show 0<s.r.fs.length;omega);simp only [Value.slice.injEq,true_and] at hform;obtain ⟨rfl,rfl⟩:=hform
   have hq0:=(H1.out.own.F.cellAt (ini.length*2) (by show ini.length*2<s.r.fs.length*2;omega)).trans (show (cells s.r.fs)[ini.length*2]?=some (.string last.1) by rw [el];exact (cells_last ini last).1)
   have hq1:=(H1.out.own.F.cellAt (ini.length*2+1) (by show ini.length*2+1<s.r.fs.length*2;omega)).trans (show (cells s.r.fs)[ini.length*2+1]?=some (.string last.2) by rw [el];exact (cells_last ini last).2)
   have hz0:=H1.out.own.F.frozenAt (ini.length*2);have hz1:=H1.out.own.F.frozenAt (ini.length*2+1)
   have HJ:=Bo (show∀w,Calls EL 216 #[.agg #[.string last.1,.string last.2],.string x] w fun e w'=>e=.returned (.agg #[.string last.1,.string (ba (Fd.joined last.2.data.toList x.data.toList))])∧Below w.heap.size w w' from
    fun w=>Fd.rjoin_any last.1 last.2 x w (by have:=HSZx.out;omega) (by have:=(HSZ.out last (by rw [el];simp)).2;omega))
   obtain ⟨k,hk⟩:∃k,ini.length=k:=⟨_,rfl⟩;have HK:=Bo hk;rw [hk] at hn1 hq0 hq1 hz0 hz1;have t1:(0:Int)<(s.r.fs.length:Int):=by omega
   have i1:(k:Int)<(s.r.fs.length:Int):=by omega
   obtain ⟨b1,b2⟩:=Dz ((s.r.fs.length:Int)-1) ⟨by omega,by omega⟩;have b3:(s.r.fs.length:Int)-1=(k:Int):=by omega
   rw [b3] at b1 b2;have HEL:=Bo el;have HN1:=Bo hn1;have HGL:=Bo hgl;have HQ0:=Bo hq0;have HQ1:=Bo hq1;have HGF:=Bo hgf;have HZ0:=Bo hz0;have HZ1:=Bo hz1;clear hne e hk hnn el hn1 hg hgo hm hgl;go_enter Tryz.func192,Tryz.ntmps192;go_upto_region 5 with fail
   generalize w.setCell ⟨g,20,none⟩ (.int .i64 ((s.lines:Int)+1))=W1 at *;clear c20 z20 a1 a2 t0;have c0:=H1.out.cs.c0
   go_wp2_with (first
    |(go_at_call 216;with_reducible refine (HJ.out _).mono ?_;rintro r w3 ⟨rfl,hb3⟩
      have HB3:=Bo hb3;have y0:=(hb3.cell (p:=⟨gf,k*2,none⟩) HGF.out).trans HQ0.out;have y1:=(hb3.cell (p:=⟨gf,k*2+1,none⟩) HGF.out).trans HQ1.out;have x0:=(hb3.frozen (p:=⟨gf,k*2,none⟩) HGF.out).trans HZ0.out;have x1:=(hb3.frozen (p:=⟨gf,k*2+1,none⟩) HGF.out).trans HZ1.out;clear hb3)
    |(go_at_call 215;with_reducible refine Cm (HGo.out _) ?_))
   go_ret;have h3:=H1.out.below HB3.out;exact XXaNX
  ·have hgt:Fd.goes p x.data.toList=false∨Fd.goes p x.data.toList=true∧¬(0:Int)<(s.r.fs.length:Int):=by
    cases hg:Fd.goes p x.data.toList with
    | false=>exact .inl rfl
    | true=>
      refine .inr ⟨rfl,?_⟩;rw [hg] at hj;have:s.r.fs= []:=by simpa using hj
      rw [this];simp
   have hp:=fun w=>Fd.rparse_any x p hp w (by have:=HSZx.out;omega)
   have HFA:=Bo (fun w2 (hb:Below (w.setCell ⟨g,20,none⟩ (.int .i64 ((s.lines:Int)+1))).heap.size (w.setCell ⟨g,20,none⟩ (.int .i64 ((s.lines:Int)+1))) w2)=>fail_at (H1.out.below hb) 400 400 rfl);obtain ⟨iF,hi,hz0,hz1,hz2⟩:=info_parts field_info;have I1:=Bo hi;have I2:=Bo hz0;have I3:=Bo hz1;have I4:=Bo hz2;clear hi hz0 hz1 hz2 HP;rcases hpar:Fd.parse (Fd.clOf p) x.data.toList with _ | _ | ⟨n,vv⟩
   ·have e:fieldV p s.lines s.r.fs x.data.toList most=.inl 400:=by unfold fieldV;rw [if_neg hm,if_neg hj,hpar]
    rw [e];rw [hpar] at hp;simp only [Fd.rv,Fd.fv] at hp;have HP:=Bo hp;clear e hpar hp hm hj hnn;rcases hgt with hg | ⟨hg,t1⟩
    ·exact XXv0S
    ·exact XXv0S
   ·have e:fieldV p s.lines s.r.fs x.data.toList most=.inr s.r.fs:=by unfold fieldV;rw [if_neg hm,if_neg hj,hpar]
    rw [e];rw [hpar] at hp;simp only [Fd.rv,Fd.fv] at hp;have HP:=Bo hp;clear e hpar hp hm hj hnn;rcases hgt with hg | ⟨hg,t1⟩
    ·rw [hg] at hgo;have HGo:=Bo hgo;clear hgo hg;go_enter Tryz.func192,Tryz.ntmps192;go_upto_region 5 with fail
     generalize w.setCell ⟨g,20,none⟩ (.int .i64 ((s.lines:Int)+1))=W1 at *;clear c20 z20 a1 a2 t0;have c0:=H1.out.cs.c0
     go_wp2_with (first
      |(go_at_call 91;with_reducible refine (HP.out _).mono ?_;rintro r w3 ⟨rfl,hb3⟩
        have HB3:=Bo hb3;clear hb3)
      |(go_at_call 215;with_reducible refine Cm (HGo.out _) ?_))
     exact XXvfE
    ·rw [hg] at hgo;have HGo:=Bo hgo;clear hgo hg;go_enter Tryz.func192,Tryz.ntmps192;go_upto_region 5 with fail
     generalize w.setCell ⟨g,20,none⟩ (.int .i64 ((s.lines:Int)+1))=W1 at *;clear c20 z20 a1 a2 t0;have c0:=H1.out.cs.c0
     go_wp2_with (first
      |(go_at_call 91;with_reducible refine (HP.out _).mono ?_;rintro r w3 ⟨rfl,hb3⟩
        have HB3:=Bo hb3;clear hb3)
      |(go_at_call 215;with_reducible refine Cm (HGo.out _) ?_))
     exact XXvfE
   ·have e:fieldV p s.lines s.r.fs x.data.toList most=.inr (s.r.fs ++ [(ba n,ba vv)]):=by unfold fieldV;rw [if_neg hm,if_neg hj,hpar]
    rw [e];rw [hpar] at hp;simp only [Fd.rv,Fd.fv] at hp;have HP:=Bo hp;clear e hpar hp hm hj hnn;rcases hgt with hg | ⟨hg,t1⟩
    ·exact XXmNg
    ·exact XXmNg
theorem XXkL9 {P:Prop} (h:P:=by
 rw [hg] at hgo;have HGo:=Bo hgo;clear hgo hg;go_enter Tryz.func192,Tryz.ntmps192;go_upto_region 5 with fail
 generalize w.setCell ⟨g,20,none⟩ (.int .i64 ((s.lines:Int)+1))=W1 at *;clear c20 z20 a1 a2 t0;have c0:=H1.out.cs.c0
 go_wp2_with (first
  |(at_builtin;refine App.wpList_append_list _ rfl _ _ 46 rfl B 126 iF (.agg #[.string A6,.string A6]) 2 32 Tryz.underlying46 I1.out I2.out I3.out I4.out rfl (by decide) (.slice bo s.r.ts.length co) s.r.ts.length (cells s.r.ts) rfl ((H1.out.below (HB3.out.alloc HB3.out.size (.cells #[.string (ba n),.string (ba vv)] 126))).own.T.alloc (.cells #[.string (ba n),.string (ba vv)] 126)) (some ⟨w3.heap.size+1,0,none⟩) 1 1 [.string (ba n),.string (ba vv)] rfl rfl (fun _=>⟨w3.heap.size+1,0,rfl,fun j u hu=>by rw [CX];exact (Dw (w3.alloc (.cells #[.string (ba n),.string (ba vv)] 126)) (w3.heap.size+1) (by simp) 126 [.string (ba n),.string (ba vv)]).c j u hu⟩) (by intro u hu;rcases (by simpa using hu:u=.string (ba n)∨u=.string (ba vv)) with rfl | rfl<;>rfl) (by have:=HLEN.out;unfold maxLen;omega) (by have:=HLEN.out;omega) (by have:=(H1.out.below (HB3.out.alloc HB3.out.size (.cells #[.string (ba n),.string (ba vv)] 126))).own.lt;have:=H1.out.own.ge;simp at *;omega) ?_;intro v2 w5 hO5 hgr5 _ hor5;have HO5:=Bo hO5;have HG5:=Bo hgr5;have HR5:=Bo hor5;clear hO5 hgr5 hor5)
  |(go_at_call 91;with_reducible refine (HP.out _).mono ?_;rintro r w3 ⟨rfl,hb3⟩
    have HB3:=Bo hb3;clear hb3)
  |(go_at_call 215;with_reducible refine Cm (HGo.out _) ?_))
 go_ret
 have hb4:=(HB3.out.alloc HB3.out.size (.cells #[.string (ba n),.string (ba vv)] 126))
 have hb5:=hb4.alloc hb4.size (.cells #[.string (ba n),.string (ba vv)] 126);have h4:=H1.out.below hb5;have hl:(s.r.ts ++ [(ba n,ba vv)]).length=s.r.ts.length+1:=by simp
 have hk5:Keeps [(Value.slice bo s.r.ts.length co).ownBlock] ((w3.alloc (.cells #[.string (ba n),.string (ba vv)] 126)).alloc (.cells #[.string (ba n),.string (ba vv)] 126)) w5:=Bc HG5.out fun k e=>by rw [e];exact C1.2 rfl
 obtain ⟨ho5,hs5⟩:=h4.own.setT (t':=v2) (ts':=s.r.ts ++ [(ba n,ba vv)]) hk5 (by rw [hl,cells_append];exact HO5.out) (by
  rcases HR5.out with e | e
  ·exact .inl e
  ·exact .inr ⟨_,e,CQ _⟩)
 have hrow:w5.heap[g]?= _:=hk5.row h4.row (fun hm=>by
  have e:some g=(Value.slice bo s.r.ts.length co).ownBlock:=by simpa using hm
  exact h4.own.lone.ne (i:=0) (j:=5) rfl (by decide) (by rw [e];rfl))
 exact ⟨_,rfl,hrow,ho5,HS1.out.trans ((DD hb5).trans hs5)⟩):P:=h
theorem fieldT_any (hp:p<4294967296) (x:ByteArray) (hx:x.size≤5000) (most:Int) (h:PR w B g q v f bd t o p b s) (hl:s.lines≤1000) (hsz:∀y∈s.r.ts,y.1.size≤1000000∧y.2.size≤1000000) (hlen:s.r.ts.length≤500) :
 Calls EL 192 #[ptr g,t,.string x,.int .i64 most] w fun r w'=>
  match fieldV p s.lines s.r.ts x.data.toList most with
  | .inl e=>r=.returned nil∧PR w' B g q v nil nil nil o p b (S.fail {s with lines:=s.lines+1} e)∧Step (blks g q v f bd t o) (blks g q v nil nil nil o) w w'
  | .inr l=>∃t',r=.returned t'∧w'.heap[g]?=some (.cells (pcells p b {s with lines:=s.lines+1} q f bd t o).toArray 60 (0,0))∧Own w' B g q v f bd t' o p s.rd s.r.fs s.r.body l s.out∧Step (blks g q v f bd t o) (blks g q v f bd t' o) w w':=by
 obtain ⟨a1,a2⟩:=Dz ((s.lines:Int)+1) ⟨by omega,by omega⟩
 have H1:=Bo (h.put 20 (.int .i64 ((s.lines:Int)+1)) {s with lines:=s.lines+1} rfl rfl rfl rfl rfl rfl)
 have HS1:=Bo (DF (w:=w) (L:=blks g q v f bd t o) g 20 (.int .i64 ((s.lines:Int)+1)) (by simp));have c20:=h.cs.c20;have z20:=h.marks 20;have HSZ:=Bo hsz;have HLEN:=Bo hlen;clear hsz hlen
 by_cases hm:most<((s.lines+1:Nat):Int)
 ·have e:fieldV p s.lines s.r.ts x.data.toList most=.inl 431:=by unfold fieldV;rw [if_pos hm]
  exact XXDlw
 ·have t0:¬most<(s.lines:Int)+1:=by omega
  obtain ⟨bo,co,eo, -⟩:=CJ h.own.T;have hgo:=fun w=>Fd.rgoes_any x p hp w
  have HP:=Bo (fun w=>Fd.rparse_any x p hp w (by omega));have HSZx:=Bo hx;have hnn:(s.r.ts.length:Int)≤500:=by have:=HLEN.out;omega
  subst eo;clear h hl hx;by_cases hj:(Fd.goes p x.data.toList && !s.r.ts.isEmpty)=true
  ·simp only [An,Aw,List.isEmpty_eq_false_iff] at hj;obtain ⟨hg,hne⟩:=hj;rw [hg] at hgo;have HGo:=Bo hgo;obtain ⟨ini,last,el⟩:∃ini last,s.r.ts=ini ++ [last]:=⟨_,_,(List.dropLast_concat_getLast hne).symm⟩;have hn1:s.r.ts.length=ini.length+1:=by rw [el];simp
   have e:fieldV p s.lines s.r.ts x.data.toList most=.inr (ini ++ [joinF last x.data.toList]):=by exact XXTMq
   rw [e]
   obtain ⟨gf,cf,hform,hgl,hgf⟩:=H1.out.own.T.form (by show 0<s.r.ts.length;omega);simp only [Value.slice.injEq,true_and] at hform;obtain ⟨rfl,rfl⟩:=hform
   have hq0:=(H1.out.own.T.cellAt (ini.length*2) (by show ini.length*2<s.r.ts.length*2;omega)).trans (show (cells s.r.ts)[ini.length*2]?=some (.string last.1) by rw [el];exact (cells_last ini last).1)
   have hq1:=(H1.out.own.T.cellAt (ini.length*2+1) (by show ini.length*2+1<s.r.ts.length*2;omega)).trans (show (cells s.r.ts)[ini.length*2+1]?=some (.string last.2) by rw [el];exact (cells_last ini last).2)
   have hz0:=H1.out.own.T.frozenAt (ini.length*2);have hz1:=H1.out.own.T.frozenAt (ini.length*2+1)
   have HJ:=Bo (show∀w,Calls EL 216 #[.agg #[.string last.1,.string last.2],.string x] w fun e w'=>e=.returned (.agg #[.string last.1,.string (ba (Fd.joined last.2.data.toList x.data.toList))])∧Below w.heap.size w w' from
    fun w=>Fd.rjoin_any last.1 last.2 x w (by have:=HSZx.out;omega) (by have:=(HSZ.out last (by rw [el];simp)).2;omega))
   obtain ⟨k,hk⟩:∃k,ini.length=k:=⟨_,rfl⟩;have HK:=Bo hk;rw [hk] at hn1 hq0 hq1 hz0 hz1;have t1:(0:Int)<(s.r.ts.length:Int):=by omega
   have i1:(k:Int)<(s.r.ts.length:Int):=by omega
   obtain ⟨b1,b2⟩:=Dz ((s.r.ts.length:Int)-1) ⟨by omega,by omega⟩;have b3:(s.r.ts.length:Int)-1=(k:Int):=by omega
   rw [b3] at b1 b2;have HEL:=Bo el;have HN1:=Bo hn1;have HGL:=Bo hgl;have HQ0:=Bo hq0;have HQ1:=Bo hq1;have HGF:=Bo hgf;have HZ0:=Bo hz0;have HZ1:=Bo hz1;clear hne e hk hnn el hn1 hg hgo hm hgl;go_enter Tryz.func192,Tryz.ntmps192;go_upto_region 5 with fail
   generalize w.setCell ⟨g,20,none⟩ (.int .i64 ((s.lines:Int)+1))=W1 at *;clear c20 z20 a1 a2 t0;have c0:=H1.out.cs.c0
   go_wp2_with (first
    |(go_at_call 216;with_reducible refine (HJ.out _).mono ?_;rintro r w3 ⟨rfl,hb3⟩
      have HB3:=Bo hb3;have y0:=(hb3.cell (p:=⟨gf,k*2,none⟩) HGF.out).trans HQ0.out;have y1:=(hb3.cell (p:=⟨gf,k*2+1,none⟩) HGF.out).trans HQ1.out;have x0:=(hb3.frozen (p:=⟨gf,k*2,none⟩) HGF.out).trans HZ0.out;have x1:=(hb3.frozen (p:=⟨gf,k*2+1,none⟩) HGF.out).trans HZ1.out;clear hb3)
    |(go_at_call 215;with_reducible refine Cm (HGo.out _) ?_))
   go_ret;have h3:=H1.out.below HB3.out;have ho:(Value.slice (some ⟨gf,0,none⟩) s.r.ts.length co).ownBlock=some gf:=by simp [Value.ownBlock]
   have hk3:Keeps [(Value.slice (some ⟨gf,0,none⟩) s.r.ts.length co).ownBlock] w3 ((w3.setCell ⟨gf,k*2,none⟩ (.string last.1)).setCell ⟨gf,k*2+1,none⟩ (.string (ba (Fd.joined last.2.data.toList x.data.toList)))):=
    (Bf gf (k*2) _ (by rw [ho];simp)).trans (Bf gf (k*2+1) _ (by rw [ho];simp)) Dg
   have hl3:(ini ++ [joinF last x.data.toList]).length=s.r.ts.length:=by rw [HEL.out];simp
   have hr3:=((h3.own.T.stored (k*2) (.string last.1)).1.stored (k*2+1) (.string (ba (Fd.joined last.2.data.toList x.data.toList)))).1;exact XXKim
  ·have hgt:Fd.goes p x.data.toList=false∨Fd.goes p x.data.toList=true∧¬(0:Int)<(s.r.ts.length:Int):=by
    cases hg:Fd.goes p x.data.toList with
    | false=>exact .inl rfl
    | true=>
      refine .inr ⟨rfl,?_⟩;rw [hg] at hj;have:s.r.ts= []:=by simpa using hj
      rw [this];simp
   have hp:=fun w=>Fd.rparse_any x p hp w (by have:=HSZx.out;omega)
   have HFA:=Bo (fun w2 (hb:Below (w.setCell ⟨g,20,none⟩ (.int .i64 ((s.lines:Int)+1))).heap.size (w.setCell ⟨g,20,none⟩ (.int .i64 ((s.lines:Int)+1))) w2)=>fail_at (H1.out.below hb) 400 400 rfl);obtain ⟨iF,hi,hz0,hz1,hz2⟩:=info_parts field_info;have I1:=Bo hi;have I2:=Bo hz0;have I3:=Bo hz1;have I4:=Bo hz2;clear hi hz0 hz1 hz2 HP;rcases hpar:Fd.parse (Fd.clOf p) x.data.toList with _ | _ | ⟨n,vv⟩
   ·have e:fieldV p s.lines s.r.ts x.data.toList most=.inl 400:=by unfold fieldV;rw [if_neg hm,if_neg hj,hpar]
    rw [e];rw [hpar] at hp;simp only [Fd.rv,Fd.fv] at hp;have HP:=Bo hp;clear e hpar hp hm hj hnn;rcases hgt with hg | ⟨hg,t1⟩
    ·exact XXv0S
    ·exact XXv0S
   ·have e:fieldV p s.lines s.r.ts x.data.toList most=.inr s.r.ts:=by unfold fieldV;rw [if_neg hm,if_neg hj,hpar]
    rw [e];rw [hpar] at hp;simp only [Fd.rv,Fd.fv] at hp;have HP:=Bo hp;clear e hpar hp hm hj hnn;rcases hgt with hg | ⟨hg,t1⟩
    ·rw [hg] at hgo;have HGo:=Bo hgo;clear hgo hg;go_enter Tryz.func192,Tryz.ntmps192;go_upto_region 5 with fail
     generalize w.setCell ⟨g,20,none⟩ (.int .i64 ((s.lines:Int)+1))=W1 at *;clear c20 z20 a1 a2 t0;have c0:=H1.out.cs.c0
     go_wp2_with (first
      |(go_at_call 91;with_reducible refine (HP.out _).mono ?_;rintro r w3 ⟨rfl,hb3⟩
        have HB3:=Bo hb3;clear hb3)
      |(go_at_call 215;with_reducible refine Cm (HGo.out _) ?_))
     exact XXvfE
    ·rw [hg] at hgo;have HGo:=Bo hgo;clear hgo hg;go_enter Tryz.func192,Tryz.ntmps192;go_upto_region 5 with fail
     generalize w.setCell ⟨g,20,none⟩ (.int .i64 ((s.lines:Int)+1))=W1 at *;clear c20 z20 a1 a2 t0;have c0:=H1.out.cs.c0
     go_wp2_with (first
      |(go_at_call 91;with_reducible refine (HP.out _).mono ?_;rintro r w3 ⟨rfl,hb3⟩
        have HB3:=Bo hb3;clear hb3)
      |(go_at_call 215;with_reducible refine Cm (HGo.out _) ?_))
     exact XXvfE
   ·have e:fieldV p s.lines s.r.ts x.data.toList most=.inr (s.r.ts ++ [(ba n,ba vv)]):=by unfold fieldV;rw [if_neg hm,if_neg hj,hpar]
    rw [e];rw [hpar] at hp;simp only [Fd.rv,Fd.fv] at hp;have HP:=Bo hp;clear e hpar hp hm hj hnn;rcases hgt with hg | ⟨hg,t1⟩
    ·exact XXkL9
    ·exact XXkL9
end code
end Go.Proofs.YtnabkcglnbdfeaaGreatDoor.Par
namespace Go.Proofs.YtnabkcglnbdfeaaGreatDoor.Tgt
open Go.RowKit Base Oct Num Txt
theorem host_parts (l:List UInt8):hostB l=match parts 58 l with
 | [n]=>nameOk n
 | [n,p]=>nameOk n&&portOk p
 | _=>false:=by
 unfold hostB;rcases cut_cases 58 l with h | ⟨a,r,rfl,h⟩
 ·rw [cutAt_none 58 l h,parts_none 58 l h];simp
 ·rw [cutAt_app 58 a r h,parts_cut 58 a r h];simp only [Bool.not_true,Bool.false_or];rcases cut_cases 58 r with h2 | ⟨b,r2,rfl,h2⟩
  ·rw [parts_none 58 r h2]
  ·rw [parts_cut 58 b r2 h2];have:portOk (b++58::r2)=false:=by
    cases hp:portOk (b++58::r2) with
    | false=>rfl
    | true=>exact absurd (by simp) (port_no_colon hp)
   rw [this,Bool.and_false];cases hq:parts 58 r2 with
   | nil=>
     have:=parts_length 58 r2;rw [hq] at this;simp at this
   | cons x xs=>rfl
theorem parts_form (c:UInt8) (l:List UInt8):(∃n,parts c l= [n])∨(∃n p,parts c l= [n,p])∨∃n p x xs,parts c l=n::p::x::xs:=by
 cases h:parts c l with
 | nil=>
   have:=parts_length c l;rw [h] at this;simp at this
 | cons n t=>
   match t with
   | []=>exact .inl ⟨n,rfl⟩
   | [p]=>exact .inr (.inl ⟨n,p,rfl⟩)
   | p::x::xs=>exact .inr (.inr ⟨n,p,x,xs,rfl⟩)
theorem parts_bound (c:UInt8):∀(l:List UInt8),∀p∈parts c l,p.length≤l.length
 | [],p,h=>by simp [parts] at h;subst h;simp
 | b::l,p,h=>by
   rw [parts] at h;have ih:=parts_bound c l;split at h
   ·rcases Cw.1 h with rfl | h
    ·simp
    ·have:=ih p h;simp;omega
   ·cases hq:parts c l with
    | nil=>rw [hq] at h;simp at h;subst h;simp
    | cons y ys=>
      rw [hq] at h ih;rcases Cw.1 h with rfl | h
      ·have:=ih y (by simp);simp;omega
      ·have:=ih p (by simp [h]);simp;omega
theorem name_ways (x:UInt8):(plainB nameMarks x=true∧(Oct.letter (x.toNat:Int)=true∨(Oct.letter (x.toNat:Int)=false∧Oct.digit (x.toNat:Int)=true)∨(Oct.letter (x.toNat:Int)=false∧Oct.digit (x.toNat:Int)=false∧((x.toNat:Int)=45∨(x.toNat:Int)=46∨(x.toNat:Int)=95∨(x.toNat:Int)=126))))∨
 (plainB nameMarks x=false∧Oct.letter (x.toNat:Int)=false∧Oct.digit (x.toNat:Int)=false∧¬(x.toNat:Int)=45∧¬(x.toNat:Int)=46∧¬(x.toNat:Int)=95∧¬(x.toNat:Int)=126):=by
 have hc:nameMarks.contains x=true↔((x.toNat:Int)=45∨(x.toNat:Int)=46∨(x.toNat:Int)=95∨(x.toNat:Int)=126):=by have e:∀k:UInt8,x=k↔(x.toNat:Int)=(k.toNat:Int):=fun k=>⟨fun h=>by rw [h],fun h=>FD.1 (by omega)⟩;simp only [nameMarks,List.contains_cons,List.contains_nil,Bool.or_false,Ax,beq_iff_eq];rw [e 45,e 46,e 95,e 126];rfl
 unfold plainB;cases hl:Oct.letter (x.toNat:Int) with
 | true=>exact .inl ⟨rfl,.inl rfl⟩
 | false=>
   cases hd:Oct.digit (x.toNat:Int) with
   | true=>exact .inl ⟨rfl,.inr (.inl ⟨rfl,rfl⟩)⟩
   | false=>
     cases hm:nameMarks.contains x with
     | true=>exact .inl ⟨rfl,.inr (.inr ⟨rfl,rfl,hc.1 hm⟩)⟩
     | false=>
       refine .inr ⟨rfl,rfl,rfl,?_,?_,?_,?_⟩<;> (intro h;have:=hc.2 (by simp [h]);rw [hm] at this;cases this)
section code
set_option maxHeartbeats 1000000
attribute [local go_sem] Al
theorem XXQxd {P:Prop} (h:P:=by
 subst hRf;generalize ba n=N at *;go_enter Tryz.func233,Tryz.ntmps233
 go_wp2_with (go_at_call 169;with_reducible refine (HS.out _).mono ?_;rintro e w1 ⟨bl,off,m,cp,rfl,hbl,hb,hc0,hm⟩
              have t1:¬(2:Int)<(m:Int):=by rcases hm with ⟨rfl,_⟩ | ⟨rfl,_⟩<;>omega
              have t2:(0:Int)<(m:Int):=by rcases hm with ⟨rfl,_⟩ | ⟨rfl,_⟩<;>omega
              clear hm)
 go_ret
 exact ⟨rfl,hb⟩):P:=h
theorem XXskK {P:Prop} (h:P:=by
 go_wp2_with (first
  |(go_at_call 221;with_reducible refine Cm (HL.out _) ?_)
  |(go_at_call 201;with_reducible refine Cm (HD.out _) ?_))
 go_round
 case rel=>exact ⟨k+1,by omega,by go_num,HNX⟩
 case measure=>simp [intOf];omega):P:=h
theorem rhost_core (s:ByteArray) (n:List UInt8) (T:Bool) (w:World) (hn:n.length≤1000000000)
 (hS:∀w,Calls EL 169 #[.string s,.int .u8 58] w fun e w'=>∃bl off m cp,e=.returned (.slice (some ⟨bl,off,none⟩) m cp)∧bl<w'.heap.size∧Below w.heap.size w w'∧w'.cell? ⟨bl,off,none⟩=some (.string (ba n))∧
   ((m=1∧T=true)∨(m=2∧∃p,w'.cell? ⟨bl,off+1,none⟩=some (.string (ba p))∧p.length≤1000000000∧portOk p=T))) :
 Calls EL 233 #[.string s] w fun e w'=>e=.returned (.bool (nameOk n&&T))∧Below w.heap.size w w':=by
 have HS:=Bo hS;clear hS;obtain ⟨R,hR⟩:∃R,(nameOk n&&T)=R:=⟨_,rfl⟩;rw [hR];have hsz:=ba_size n;have HR:=Bo hR;clear hR;rcases CO n.length with h0 | hpos
 ·have hRf:false=R:=by
   rw [←HR.out];obtain rfl:n= []:=List.length_eq_zero_iff.1 h0;rfl
  have hz:((ba n).size:Int)<1:=by omega
  clear HR hsz h0;exact XXQxd
 have hz:¬((ba n).size:Int)<1:=by omega
 rcases CW 255 n.length with hbig | hsm
 ·have hRf:false=R:=by
   rw [←HR.out];unfold nameOk;rw [decide_eq_false (by omega:¬n.length≤255),As,Bool.and_false];rfl
  have hz2:(255:Int)<((ba n).size:Int):=by omega
  clear HR hsz hpos hbig;exact XXQxd
 have hz2:¬(255:Int)<((ba n).size:Int):=by omega
 have HR2:Hid ((n.all (plainB nameMarks)&&T)=R):=Bo (by
  rw [←HR.out];unfold nameOk;have:n.isEmpty=false:=by cases n with
   | nil=>simp at hpos
   | cons _ _=>rfl
  rw [decide_eq_true hsm,this];rfl)
 have e0:∀k (h:k<(ba n).size) (hk2:k<n.length),(ba n)[k]'h=n[k]:=fun _ _ _=>rfl;have E0:=Bo e0;have HZ:=Bo hsz;have hHM:∀k (h:k<n.length),n[k]∈n:=fun k h=>Ca h;have HM:=Bo hHM;have hTS:∀k (h:k<n.length),n.take (k+1)=n.take k ++ [n[k]]:=fun k h=>CE h;have HTS:=Bo hTS;clear HR e0 hsz hpos hHM hTS;generalize ba n=N at *;go_enter Tryz.func233,Tryz.ntmps233
 go_wp2_with (go_at_call 169;with_reducible refine (HS.out _).mono ?_;rintro e w1 ⟨bl,off,m,cp,rfl,hbl,hb,hc0,hm⟩
              have t1:¬(2:Int)<(m:Int):=by rcases hm with ⟨rfl,_⟩ | ⟨rfl,_⟩<;>omega
              have t2:(0:Int)<(m:Int):=by rcases hm with ⟨rfl,_⟩ | ⟨rfl,_⟩<;>omega
              have HMM:=Bo hm;have HBB:=Bo hb;clear hm hb)
 go_loop [4] (fun i=>∃k:Nat,k≤N.size∧i=.int .i64 k∧Hid ((n.take k).all (plainB nameMarks)=true)) (fun i=>N.size-(intOf i).toNat)
 case atStart=>exact ⟨0,CY _,rfl,Bo rfl⟩
 case round=>
  obtain ⟨k,hk,rfl,hall⟩:=hrel;rcases CW k N.size with hlt | hge
  ·have i1:(k:Int)<(N.size:Int):=by omega
   have hkn:k<n.length:=by have:=HZ.out;omega
   obtain ⟨x,hxx⟩:∃x,n[k]=x:=⟨_,rfl⟩;have hx:∀h,N[k]'h=x:=fun h=>(E0.out k h hkn).trans hxx
   have hts:=Bo (HTS.out k hkn)
   have hmm:=Bo (HM.out k hkn);rw [hxx] at hts hmm;clear hxx hkn
   have HL:=Bo (fun w=>Oct.rletter_any (x.toNat:Int) w)
   have HD:=Bo (fun w=>Oct.rdigit_any (x.toNat:Int) w);rcases name_ways x with ⟨hq,hway⟩ | ⟨hq,hl,hd,n45,n46,n95,n126⟩
   ·have HNX:Hid ((n.take (k+1)).all (plainB nameMarks)=true):=Bo (by rw [hts.out,List.all_append,hall.out];simp [hq]);clear hq hmm hts hall;rcases hway with hl | ⟨hl,hd⟩ | ⟨hl,hd,hc⟩
    ·rw [hl] at HL;clear hl;exact XXskK
    ·rw [hl] at HL;rw [hd] at HD;clear hl hd;exact XXskK
    ·rw [hl] at HL;rw [hd] at HD;clear hl hd;rcases hc with hc | hc | hc | hc;all_goals
      have d1:=fun (z:Int)=>congrArg (fun y:Int=>y != z) hc;have d2:=d1 45;have d3:=d1 46;have d4:=d1 95;have d5:=d1 126;simp only [show ((45:Int) != 45)=false from rfl,show ((46:Int) != 45)=true from rfl,show ((46:Int) != 46)=false from rfl,show ((95:Int) != 45)=true from rfl,show ((95:Int) != 46)=true from rfl,show ((95:Int) != 95)=false from rfl,show ((126:Int) != 45)=true from rfl,show ((126:Int) != 46)=true from rfl,show ((126:Int) != 95)=true from rfl,show ((126:Int) != 126)=false from rfl] at d2 d3 d4 d5;clear d1 hc
      go_wp2_with (first
       |(go_at_call 221;with_reducible refine Cm (HL.out _) ?_)
       |(go_at_call 201;with_reducible refine Cm (HD.out _) ?_))
      go_round
      case rel=>exact ⟨k+1,by omega,by go_num,HNX⟩
      case measure=>simp [intOf];omega
   ·have hRf:false=R:=by
     rw [←HR2.out,List.all_eq_false.2 ⟨x,hmm.out,by rw [hq];decide⟩];rfl
    have HRF:=Bo hRf;rw [hl] at HL;rw [hd] at HD;have d45:((x.toNat:Int) != 45)=true:=bne_iff_ne.2 n45;have d46:((x.toNat:Int) != 46)=true:=bne_iff_ne.2 n46;have d95:((x.toNat:Int) != 95)=true:=bne_iff_ne.2 n95;have d126:((x.toNat:Int) != 126)=true:=bne_iff_ne.2 n126;clear hl hd n45 n46 n95 n126 hq hRf hmm hts hall
    go_wp2_with (first
     |(go_at_call 221;with_reducible refine Cm (HL.out _) ?_)
     |(go_at_call 201;with_reducible refine Cm (HD.out _) ?_))
    go_ret;exact ⟨by rw [←HRF.out];rfl,HBB.out⟩
  ·obtain rfl:k=N.size:=by omega
   have hTR:T=R:=by rw [←HR2.out];have:=hall.out;rw [CD (by rw [HZ.out];exact CQ _)] at this;rw [this,Az]
   have HTR:=Bo hTR;clear hTR hall;rcases HMM.out with ⟨rfl,hT⟩ | ⟨rfl,p,hc1,hpl,hT⟩
   ·have HT:=Bo (hT.symm.trans HTR.out);clear hT HMM;go_wp2;go_ret;exact ⟨by rw [←HT.out];rfl,HBB.out⟩
   ·have hps:=ba_size p
    have HDc:=Bo (fun w=>Num.rdec_any 65535 (by decide) (ba p) w (by unfold maxLen;omega));rw [ba_list] at HDc;have hP:portOk p=(decide ((ba p).size≤5)&&decide ((readOf 10 65535 p).2=0)):=by unfold portOk;rw [hps]
    rw [hP] at hT;generalize (readOf 10 65535 p).2=en at *;generalize (readOf 10 65535 p).1=vn at *;generalize ba p=PP at *;clear hP hps HMM;by_cases he:en=0
    ·subst he;rw [decide_eq_true rfl,Bool.and_true] at hT
     have HT:=Bo (hT.trans HTR.out);clear hT
     go_wp2_with (go_at_call 255;with_reducible refine Cm (HDc.out _) ?_);go_ret;exact ⟨by rw [←HT.out];first | rfl |(simp;omega),HBB.out⟩
    ·rw [decide_eq_false he,Bool.and_false] at hT
     have HT:=Bo (hT.trans HTR.out);have he2:(en==0)=false:=beq_eq_false_iff_ne.2 he;clear hT he
     go_wp2_with (go_at_call 255;with_reducible refine Cm (HDc.out _) ?_);go_ret;exact ⟨by rw [←HT.out];rfl,HBB.out⟩
theorem rhost_any (s:ByteArray) (w:World) (hs:s.size≤1000000000):Calls EL 233 #[.string s] w fun e w'=>e=.returned (.bool (hostB s.data.toList))∧Below w.heap.size w w':=by
 have HS:=Bo (fun w=>Txt.rsplit_any s 58 w hs);have hbd:=parts_bound 58 s.data.toList;rw [len] at hbd;rw [host_parts];rcases parts_form 58 s.data.toList with ⟨n,hp⟩ | ⟨n,p,hp⟩ | ⟨n,p,x,xs,hp⟩
 ·rw [hp] at HS hbd;rw [hp]
  have hnl:=hbd n (by simp);have key:=rhost_core s n true w (by omega) fun w=>(HS.out w).mono fun e w' h=>by
   obtain ⟨b,m,cp,rfl,hm,hst,hb⟩:=h;obtain rfl:m=1:=hm
   obtain ⟨bl,off,rfl,hbl,hc⟩:=hst.2 (by omega);exact ⟨bl,off,1,cp,rfl,hbl,hb,hc 0 (by omega),.inl ⟨rfl,rfl⟩⟩
  rw [Bool.and_true] at key;exact key
 ·rw [hp] at HS hbd;rw [hp]
  have hnl:=hbd n (by simp)
  have hpl:=hbd p (by simp);exact rhost_core s n (portOk p) w (by omega) fun w=>(HS.out w).mono fun e w' h=>by
   obtain ⟨b,m,cp,rfl,hm,hst,hb⟩:=h;obtain rfl:m=2:=hm
   obtain ⟨bl,off,rfl,hbl,hc⟩:=hst.2 (by omega);exact ⟨bl,off,2,cp,rfl,hbl,hb,hc 0 (by omega),.inr ⟨rfl,p,hc 1 (by omega),by omega,rfl⟩⟩
 ·rw [hp] at HS;rw [hp];clear hp hbd;have HS2:Hid (∀w,Calls EL 169 #[.string s,.int .u8 58] w fun e w'=>∃b m cp,e=.returned (.slice b m cp)∧m=(n::p::x::xs).length∧Strs w' b m ((n::p::x::xs).map ba)∧Below w.heap.size w w'):=HS;clear HS;go_enter Tryz.func233,Tryz.ntmps233
  go_wp2_with (go_at_call 169;with_reducible refine (HS2.out _).mono ?_;rintro e w1 ⟨b,m,cp,rfl,hm,hst,hb⟩
               have t1:(2:Int)<(m:Int):=by rw [hm];simp;omega)
  go_ret;exact ⟨rfl,hb⟩
end code
end Go.Proofs.YtnabkcglnbdfeaaGreatDoor.Tgt
namespace Go.Proofs.YtnabkcglnbdfeaaGreatDoor.Tgt
open Go.RowKit Base Oct Num Txt
theorem written_drop (ms l:List UInt8) (k:Nat) (h:k<l.length):written ms (l.drop k)=(okAt ms l[k] (l.drop (k+1))&&written ms (l.drop (k+1))):=by rw [BH h,written]
theorem okAt_short (ms:List UInt8) (c:UInt8) (r:List UInt8) (h:r.length<2):okAt ms c r=plainB ms c:=by
 match r,h with
 | [],_=>rfl
 | [a],_=>rfl
theorem okAt_pct (ms l:List UInt8) (k:Nat) (h:k+2<l.length):okAt ms 37 (l.drop (k+1))=(hexB l[k+1]&&hexB l[k+2]):=by rw [BH (by omega:k+1<l.length),BH (by omega:k+1+1<l.length),okAt,if_pos rfl]
theorem contains_snoc (l:List UInt8) (k:Nat) (h:k<l.length) (c:UInt8):(l.take (k+1)).contains c=((l.take k).contains c|| (c==l[k])):=by
 rw [CE h];generalize l[k]=x;generalize l.take k=m
 induction m with
 | nil=>rw [List.nil_append,List.contains_cons,List.contains_nil,Bool.or_false,Bool.false_or]
 | cons y m ih=>rw [List.cons_append,List.contains_cons,List.contains_cons,ih,Bool.or_assoc]
section code
set_option maxHeartbeats 1000000
attribute [local go_sem] Al
theorem XXVQd {P:Prop} (h:P:=by
 obtain ⟨q,hq,rfl,rfl⟩:=hrel;rcases CW q ms.size with hlq | hgq
 ·have j1:(q:Int)<(ms.size:Int):=by omega
  have hsn:=Bo (contains_snoc ms.data.toList q (by rw [len];exact hlq) c);obtain ⟨y,hy⟩:∃y,ms.data.toList[q]'(by rw [len];exact hlq)=y:=⟨_,rfl⟩;have hym:∀h,ms[q]'h=y:=fun _=>hy;rw [hy] at hsn;clear hy;obtain ⟨z,hz⟩:∃z,(ms.data.toList.take (q+1)).contains c=z:=⟨_,rfl⟩;rw [hz] at hsn;have HZQ:=Bo hz;clear hz;generalize (ms.data.toList.take q).contains c=v at *;cases hv:(b0||v) with
  | true=>
    have HZ:Hid ((b0||z)=true):=Bo (by rw [hsn.out,←Bool.or_assoc,hv,Bool.true_or]);clear hv hsn;go_wp2;go_round
    case rel=>exact ⟨q+1,by omega,by go_num,by rw [HZQ.out,HZ.out]⟩
    case measure=>simp [intOf];omega
  | false=>
    have HZ:Hid ((b0||z)=(c==y)):=Bo (by rw [hsn.out,←Bool.or_assoc,hv,Bool.false_or]);clear hv hsn;cases hcy:(c==y) with
    | true=>
      rw [hcy] at HZ;have t1:((c.toNat:Int)==(y.toNat:Int))=true:=by rw [beq_iff_eq.1 hcy];exact beq_self_eq_true _
      clear hcy;go_wp2;go_round
      case rel=>exact ⟨q+1,by omega,by go_num,by rw [HZQ.out,HZ.out]⟩
      case measure=>simp [intOf];omega
    | false=>
      rw [hcy] at HZ
      have t1:((c.toNat:Int)==(y.toNat:Int))=false:=beq_eq_false_iff_ne.2 fun e=>(beq_eq_false_iff_ne.1 hcy) (FD.1 (by omega));clear hcy;go_wp2;go_round
      case rel=>exact ⟨q+1,by omega,by go_num,by rw [HZQ.out,HZ.out]⟩
      case measure=>simp [intOf];omega
 ·obtain rfl:q=ms.size:=by omega
  have j1:¬(ms.size:Int)<(ms.size:Int):=by omega
  rw [CD (by rw [len];exact CQ _),←HPL.out];by_cases hlong:c=37∧k+2<s.size
  ·obtain ⟨hc37,hlg⟩:=hlong;have t37:((c.toNat:Int)==37)=true:=by rw [hc37];rfl
   have m1:IntKind.i64.wrap ((s.size:Int)-(k:Int))=((s.size-k:Nat):Int):=by rw [wrap_in _ (by omega) (by omega)];omega
   have m2:(2:Int)<((s.size-k:Nat):Int):=by omega
   have m3:IntKind.i64.wrap ((k:Int)+1)=((k+1:Nat):Int):=by rw [wrap_in _ (by omega) (by omega)];omega
   have m4:IntKind.i64.wrap ((k:Int)+2)=((k+2:Nat):Int):=by rw [wrap_in _ (by omega) (by omega)];omega
   have i2:((k+1:Nat):Int)<(s.size:Int):=by omega
   have i3:((k+2:Nat):Int)<(s.size:Int):=by omega
   have hw2:=HW.out;rw [hc37,okAt_pct _ _ k (by rw [len];exact hlg)] at hw2;obtain ⟨a,ha⟩:∃a,s.data.toList[k+1]'(by rw [len];omega)=a:=⟨_,rfl⟩;obtain ⟨b,hb⟩:∃b,s.data.toList[k+2]'(by rw [len];omega)=b:=⟨_,rfl⟩;rw [ha,hb] at hw2;have ya:∀h,s[k+1]'h=a:=fun _=>ha;have yb:∀h,s[k+2]'h=b:=fun _=>hb
   have HXA:=Bo (fun w=>Oct.rhex_any (a.toNat:Int) w (by omega) (Base.byte_lt a))
   have HXB:=Bo (fun w=>Oct.rhex_any (b.toNat:Int) w (by omega) (Base.byte_lt b));have ea:Oct.isHex (a.toNat:Int)=hexB a:=rfl;have eb:Oct.isHex (b.toNat:Int)=hexB b:=rfl;rw [ea] at HXA;rw [eb] at HXB;have HW2:=Bo hw2;clear hw2 ha hb ea eb hc37 hlg HW HPL hc;generalize Oct.hexVal (a.toNat:Int)=va at *;generalize Oct.hexVal (b.toNat:Int)=vb at *;generalize hexB a=ha at *;generalize hexB b=hb at *;rcases (show (ha=true∧hb=true)∨(ha&&hb)=false by cases ha<;>cases hb<;>simp) with ⟨rfl,rfl⟩ | hf
   ·have HW3:Hid (written ms.data.toList (s.data.toList.drop (k+1))=A):=HW2;clear HW2
    go_wp2_with (first
     |(go_at_call 198;with_reducible refine Cm (HXA.out _) ?_)
     |(go_at_call 198;with_reducible refine Cm (HXB.out _) ?_))
    go_round
    case rel=>exact ⟨k+1,by omega,by go_num,HW3⟩
    case measure=>simp [intOf];omega
   ·rw [hf] at HW2;have HF:Hid (false=A):=HW2;clear HW2;cases ha;all_goals cases hb
    all_goals try (exact absurd hf (by decide))
    all_goals
     clear hf
     go_wp2_with (first
      |(go_at_call 198;with_reducible refine Cm (HXA.out _) ?_)
      |(go_at_call 198;with_reducible refine Cm (HXB.out _) ?_))
     go_ret;exact ⟨by rw [←HF.out];rfl,rfl⟩
  ·have hok:okAt ms.data.toList c (s.data.toList.drop (k+1))=plainB ms.data.toList c:=by
    by_cases hc37:c=37
    ·exact okAt_short _ _ _ (by have:¬k+2<s.size:=fun h=>hlong ⟨hc37,h⟩;rw [Cj,len];omega)
    ·exact okAt_plain _ _ _ hc37
   have HW2:=Bo (by have:=HW.out;rwa [hok] at this);clear hok HW HPL;generalize plainB ms.data.toList c=pb at *;by_cases hc37:c=37
   ·have t37:((c.toNat:Int)==37)=true:=by rw [hc37];rfl
    have m1:IntKind.i64.wrap ((s.size:Int)-(k:Int))=((s.size-k:Nat):Int):=by rw [wrap_in _ (by omega) (by omega)];omega
    have m2:¬(2:Int)<((s.size-k:Nat):Int):=by have:¬k+2<s.size:=fun h=>hlong ⟨hc37,h⟩;omega
    clear hlong hc37 hc;cases pb with
    | true=>
      go_wp2;go_round
      case rel=>exact ⟨k+1,by omega,by go_num,Bo (by have:=HW2.out;rwa [Az] at this)⟩
      case measure=>simp [intOf];omega
    | false=>
      have hf:=HW2.out;rw [As] at hf;have HF:=Bo hf;clear hf HW2;go_wp2;go_ret;exact ⟨by rw [←HF.out];rfl,rfl⟩
   ·have t37:((c.toNat:Int)==37)=false:=beq_eq_false_iff_ne.2 fun e=>hc37 (FD.1 (by show c.toNat=37;omega));clear hlong hc37 hc;cases pb with
    | true=>
      go_wp2;go_round
      case rel=>exact ⟨k+1,by omega,by go_num,Bo (by have:=HW2.out;rwa [Az] at this)⟩
      case measure=>simp [intOf];omega
    | false=>
      have hf:=HW2.out;rw [As] at hf;have HF:=Bo hf;clear hf HW2;go_wp2;go_ret
      exact ⟨by rw [←HF.out];rfl,rfl⟩):P:=h
set_option maxRecDepth 10000 in
theorem rof_any (s ms:ByteArray) (w:World) (hs:s.size≤1000000000) (hms:ms.size≤1000000000) :
 Calls EL 280 #[.string s,.string ms] w fun e w'=>e=.returned (.bool (written ms.data.toList s.data.toList))∧w'=w:=by
 obtain ⟨A,hA⟩:∃A,written ms.data.toList s.data.toList=A:=⟨_,rfl⟩;rw [hA];have HA:=Bo hA;clear hA;go_enter Tryz.func280,Tryz.ntmps280;go_wp2
 go_loop [5] (fun i=>∃k:Nat,k≤s.size∧i=.int .i64 k∧Hid (written ms.data.toList (s.data.toList.drop k)=A)) (fun i=>s.size-(intOf i).toNat)
 case atStart=>exact ⟨0,CY _,rfl,HA⟩
 case round=>
  obtain ⟨k,hk,rfl,hw⟩:=hrel;rcases CW k s.size with hlt | hge
  ·have i1:(k:Int)<(s.size:Int):=by omega
   have hkl:k<s.data.toList.length:=by rw [len];exact hlt
   obtain ⟨c,hc⟩:∃c,s.data.toList[k]=c:=⟨_,rfl⟩;have hx:∀h,s[k]'h=c:=fun _=>hc;have hwd:=hw.out;rw [written_drop _ _ k hkl,hc] at hwd;have HW:=Bo hwd;clear hwd hw
   have HL:=Bo (fun w=>Oct.rletter_any (c.toNat:Int) w)
   have HD:=Bo (fun w=>Oct.rdigit_any (c.toNat:Int) w);have hpl:plainB ms.data.toList c=((Oct.letter (c.toNat:Int)||Oct.digit (c.toNat:Int))||ms.data.toList.contains c):=rfl;have HPL:=Bo hpl;clear hpl;have hbase:∃b0,(Oct.letter (c.toNat:Int)||Oct.digit (c.toNat:Int))=b0:=⟨_,rfl⟩;obtain ⟨b0,hb0⟩:=hbase;rw [hb0] at HPL;have hbb:(Oct.letter (c.toNat:Int)=true∧b0=true)∨(Oct.letter (c.toNat:Int)=false∧Oct.digit (c.toNat:Int)=b0):=by
    cases hl:Oct.letter (c.toNat:Int) with
    | true=>rw [hl,Bool.true_or] at hb0;exact .inl ⟨rfl,hb0.symm⟩
    | false=>rw [hl,Bool.false_or] at hb0;exact .inr ⟨rfl,hb0⟩
   clear hb0;rcases hbb with ⟨hl,hb0⟩ | ⟨hl,hd⟩
   rotate_left 1
   ·rw [hd] at HD;rw [hl] at HL;clear hl hd
    go_wp2_with (first
     |(go_at_call 221;with_reducible refine Cm (HL.out _) ?_)
     |(go_at_call 201;with_reducible refine Cm (HD.out _) ?_))
    clear HL HD
    go_loop [7,8] (fun ok j=>∃q:Nat,q≤ms.size∧j=.int .i64 q∧ok=.bool (b0|| (ms.data.toList.take q).contains c)) (fun _ j=>ms.size-(intOf j).toNat)
    case atStart=>exact ⟨0,CY _,rfl,by simp⟩
    case round=>exact XXVQd
   ·rw [hl] at HL;clear hl
    go_wp2_with (go_at_call 221;with_reducible refine Cm (HL.out _) ?_);clear HL HD
    go_loop [7,8] (fun ok j=>∃q:Nat,q≤ms.size∧j=.int .i64 q∧ok=.bool (b0|| (ms.data.toList.take q).contains c)) (fun _ j=>ms.size-(intOf j).toNat)
    case atStart=>exact ⟨0,CY _,rfl,by simp [hb0]⟩
    case round=>exact XXVQd
  ·obtain rfl:k=s.size:=by omega
   have hw1:=hw.out;rw [List.drop_eq_nil_of_le (by rw [len];exact CQ _)] at hw1
   have HT:=Bo (show true=A from hw1);clear hw hw1;go_wp2;go_ret;exact ⟨by rw [←HT.out];rfl,rfl⟩
end code
end Go.Proofs.YtnabkcglnbdfeaaGreatDoor.Tgt
namespace Go.Proofs.YtnabkcglnbdfeaaGreatDoor.Tgt
open Go.RowKit Base Oct Num Txt
section code
set_option maxHeartbeats 1000000
attribute [local go_sem] Al
theorem XX7dK {P:Prop} (h:P:=by
 go_wp2_with (go_at_call 280;with_reducible refine Cm (HW.out _) ?_);go_ret
 exact ⟨rfl,rfl⟩):P:=h
theorem rquery_any (s:ByteArray) (w:World) (hs:s.size≤1000000000):Calls EL 257 #[.string s] w fun e w'=>e=.returned (.bool (queryB s.data.toList))∧w'=w:=by have HW:=Bo (fun w=>rof_any s ⟨#[45,46,95,126,33,36,38,39,40,41,42,43,44,59,61,58,64,47,63]⟩ w hs (by decide));rw [show (ByteArray.mk #[45,46,95,126,33,36,38,39,40,41,42,43,44,59,61,58,64,47,63]).data.toList=queryMarks from rfl] at HW;unfold queryB;generalize written queryMarks s.data.toList=q at *;go_enter Tryz.func257,Tryz.ntmps257;exact XX7dK
theorem rpath_any (s:ByteArray) (w:World) (hs:s.size≤1000000000):Calls EL 256 #[.string s] w fun e w'=>e=.returned (.bool (pathB s.data.toList))∧w'=w:=by
 have HW:=Bo (fun w=>rof_any s ⟨#[45,46,95,126,33,36,38,39,40,41,42,43,44,59,61,58,64,47]⟩ w hs (by decide));rw [show (ByteArray.mk #[45,46,95,126,33,36,38,39,40,41,42,43,44,59,61,58,64,47]).data.toList=pathMarks from rfl] at HW;unfold pathB;cases hl:s.data.toList with
 | nil=>
   have he:=empty_of hl;clear hl HW;go_enter Tryz.func256,Tryz.ntmps256;go_wp2;go_ret;exact ⟨rfl,rfl⟩
 | cons c r=>
   have he:=full_of hl;have hz:=size_cons hl;have h0:(0:Int)<(s.size:Int):=by omega
   have e0:∀h,s[0]'h=c:=fun h=>at_zero hl h;rw [hl] at HW;clear hl hz;generalize written pathMarks (c::r)=q at *;rw [List.head?_cons];by_cases hc:c=47
   ·have t1:((c.toNat:Int)==47)=true:=by rw [hc];rfl
    rw [decide_eq_true (by rw [hc]),Az];clear hc;go_enter Tryz.func256,Tryz.ntmps256;exact XX7dK
   ·have t1:((c.toNat:Int)==47)=false:=beq_eq_false_iff_ne.2 fun e=>hc (FD.1 (by show c.toNat=47;omega));rw [decide_eq_false (fun e=>hc (Dk.inj e)),As];clear hc;go_enter Tryz.func256,Tryz.ntmps256;go_wp2;go_ret;exact ⟨rfl,rfl⟩
theorem rport_any (s:ByteArray) (w:World) (hs:s.size≤1000000000):Calls EL 234 #[.string s] w fun e w'=>e=.returned (.bool (s.data.toList.contains 58))∧w'=w:=by
 obtain ⟨A,hA⟩:∃A,s.data.toList.contains 58=A:=⟨_,rfl⟩;rw [hA];have HA:=Bo hA;clear hA;go_enter Tryz.func234,Tryz.ntmps234;go_wp2
 go_loop [3] (fun i=>∃k:Nat,k≤s.size∧i=.int .i64 k∧Hid ((s.data.toList.take k).contains 58=false)) (fun i=>s.size-(intOf i).toNat)
 case atStart=>exact ⟨0,CY _,rfl,Bo rfl⟩
 case round=>
  obtain ⟨k,hk,rfl,hno⟩:=hrel;rcases CW k s.size with hlt | hge
  ·have i1:(k:Int)<(s.size:Int):=by omega
   have hkl:k<s.data.toList.length:=by rw [len];exact hlt
   have hsn:=Bo (contains_snoc s.data.toList k hkl 58);obtain ⟨c,hc⟩:∃c,s.data.toList[k]=c:=⟨_,rfl⟩;have hx:∀h,s[k]'h=c:=fun _=>hc
   have hmem:=Bo (Ca hkl);rw [hc] at hsn hmem;clear hc hkl;by_cases h58:c=58
   ·have t1:((c.toNat:Int)==58)=true:=by rw [h58];rfl
    have HT:Hid (true=A):=Bo (by rw [←HA.out,List.contains_iff_mem.2 (by rw [←h58];exact hmem.out)]);clear h58;go_wp2;go_ret;exact ⟨by rw [←HT.out];rfl,rfl⟩
   ·have t1:((c.toNat:Int)==58)=false:=beq_eq_false_iff_ne.2 fun e=>h58 (FD.1 (by show c.toNat=58;omega))
    have HN:Hid ((s.data.toList.take (k+1)).contains 58=false):=Bo (by rw [hsn.out,hno.out,Bool.false_or];exact beq_eq_false_iff_ne.2 fun e=>h58 e.symm);clear h58;go_wp2;go_round
    case rel=>exact ⟨k+1,by omega,by go_num,HN⟩
    case measure=>simp [intOf];omega
  ·obtain rfl:k=s.size:=by omega
   have h1:=hno.out;rw [take_all s _ (CQ _),HA.out] at h1;have HT:=Bo h1;clear hno h1;go_wp2;go_ret;exact ⟨by rw [HT.out];rfl,rfl⟩
end code
end Go.Proofs.YtnabkcglnbdfeaaGreatDoor.Tgt
namespace Go.Proofs.YtnabkcglnbdfeaaGreatDoor.Tgt
open Go.RowKit Base Oct Num Txt
theorem cut_hit (c:UInt8) (l:List UInt8) (k:Nat) (hk:k<l.length) (hc:l[k]=c) (hno:c∉l.take k):cutAt c l=(l.take k,l.drop (k+1),true):=by
 have e:l=l.take k++c::l.drop (k+1):=by conv=>lhs;rw [←List.take_append_drop k l,BH hk,hc]
 conv=>lhs;rw [e]
 exact cutAt_app c _ _ hno
section code
set_option maxHeartbeats 1000000
attribute [local go_sem] Al
theorem XX34J {P:Prop} (h:P:=by
 go_simp;refine hK _ _ ?_ ?_
 ·rw [←hW9];exact ((((HW7.out.other w.heap.size 0 _ hn24).other w.heap.size 1 _ hn24).other w.heap.size 2 _ hn24).other w.heap.size 3 _ hn24).other w.heap.size 4 _ hn24
 clear hK K;refine Sched.assign _ (by rfl) (by rfl) ?_;simp only [Ab,Act.eval,Af,BY,BR,BQ,Di,C7,CA,C9];refine Sched.done ?_;go_wp2;first
  |exact bodyPost_ret (v:=.tuple #[tv 0 E0 PP QQ true,.bool false]) (by (simp [results,Tryz.results235,go_sem,d0,d1,d2,d3,d4]);first|done|fail) rfl ⟨rfl,hbW⟩
  |exact bodyPost_ret (v:=.tuple #[tv 0 E0 PP QQ true,.bool qk]) (by (simp [results,Tryz.results235,go_sem,d0,d1,d2,d3,d4]);first|done|fail) rfl ⟨rfl,hbW⟩
  |exact bodyPost_ret (v:=.tuple #[tv 0 E0 s E0 false,.bool false]) (by (simp [results,Tryz.results235,go_sem,d0,d1,d2,d3,d4]);first|done|fail) rfl ⟨rfl,hbW⟩
  |exact bodyPost_ret (v:=.tuple #[tv 0 E0 s E0 false,.bool qk]) (by (simp [results,Tryz.results235,go_sem,d0,d1,d2,d3,d4]);first|done|fail) rfl ⟨rfl,hbW⟩):P:=h
theorem XXWdt {P:Prop} (h:P:=by
 intro w' hS;obtain ⟨c0,c1,c2,c3,c4,_,_,_,_,_⟩:=hS;go_simp
 with_reducible rfl):P:=h
set_option maxRecDepth 10000 in
theorem rorigin_any (s:ByteArray) (w:World) (hs:s.size≤1000000000) :
 Calls EL 235 #[.string s] w fun e w'=>e=.returned (.tuple #[tv 0 E0 (ba (cutAt 63 s.data.toList).1) (ba (cutAt 63 s.data.toList).2.1) (cutAt 63 s.data.toList).2.2,.bool (pathB (cutAt 63 s.data.toList).1&&queryB (cutAt 63 s.data.toList).2.1)])∧Below w.heap.size w w':=by
 obtain ⟨R,hR⟩:∃R,cutAt 63 s.data.toList=R:=⟨_,rfl⟩;rw [hR];have HR:=Bo hR
 have HRL:=Bo (cutAt_le 63 s.data.toList);rw [hR,len] at HRL;clear hR;obtain ⟨p,q,bb⟩:=R;simp only at HRL;simp only
 have HP:=Bo (fun w=>rpath_any (ba p) w (by rw [ba_size];have:=HRL.out.1;omega))
 have HQ:=Bo (fun w=>rquery_any (ba q) w (by rw [ba_size];have:=HRL.out.2;omega));rw [ba_list] at HP HQ;generalize pathB p=pk at *;generalize queryB q=qk at *;have HPP:Hid (∀k (hk:k<s.data.toList.length),s.data.toList[k]=63→(63:UInt8)∉s.data.toList.take k→s.extract 0 k=ba p∧s.extract (k+1) s.size=ba q∧true=bb):=Bo fun k hk hc hno=>by have h1:=HR.out;rw [cut_hit 63 _ k hk hc hno] at h1;simp only [Prod.mk.injEq] at h1;exact ⟨ba_ext (by rw [Bl,←h1.1];simp [ba]),ba_ext (by rw [drop_ext,←h1.2.1];rfl),h1.2.2⟩
 have HEE:Hid ((63:UInt8)∉s.data.toList→s=ba p∧E0=ba q∧false=bb):=Bo fun hno=>by have h1:=HR.out;rw [cutAt_none 63 _ hno] at h1;simp only [Prod.mk.injEq] at h1;exact ⟨by rw [←h1.1];rfl,by rw [←h1.2.1];rfl,h1.2.2⟩
 clear HR HRL;generalize ba p=PP at *;generalize ba q=QQ at *;have hc2:=Tgb.new w 212 0 E0 E0 E0 false;have hg2':w.heap.size<(w.alloc (.cells #[.int .i64 0,.string E0,.string E0,.string E0,.bool false] 212)).heap.size:=by simp
 have hsz2:(w.alloc (.cells #[.int .i64 0,.string E0,.string E0,.string E0,.bool false] 212)).heap.size=w.heap.size+1:=by simp
 have hb2:Below w.heap.size w (w.alloc (.cells #[.int .i64 0,.string E0,.string E0,.string E0,.bool false] 212)):=(Am _ _).alloc (CQ _) _;have hn24:¬w.heap.size=w.heap.size+1:=by omega
 go_enter Tryz.func235,Tryz.ntmps235;go_upto_region 2 with fail
 generalize w.alloc (.cells #[.int .i64 0,.string E0,.string E0,.string E0,.bool false] 212)=W2 at *;have hc4:=Tgb.new W2 212 0 E0 s E0 false;have hb4:Below W2.heap.size W2 (W2.alloc (.cells #[.int .i64 0,.string E0,.string s,.string E0,.bool false] 212)):=(Am _ _).alloc (CQ _) _;have hg4:W2.heap.size<(W2.alloc (.cells #[.int .i64 0,.string E0,.string s,.string E0,.bool false] 212)).heap.size:=by simp
 generalize W2.alloc (.cells #[.int .i64 0,.string E0,.string s,.string E0,.bool false] 212)=W at *
 have H2w:=Bo (hc2.below hg2' hb4)
 have HBw:=Bo (hb2.trans (hb4.mono (CP hg2')))
 have HG2w:=Bo (Nat.lt_trans hg2' hg4);rw [hsz2] at hc4 hg4;have H4w:=Bo hc4;have HG4w:=Bo hg4;clear hc2 hg2' hsz2 hb2 hc4 hb4 hg4;go_wp2_with fail
 go_loopw [5] (fun i wr=>∃k:Nat,k≤s.size∧i=.int .i64 k∧wr=W∧Hid ((63:UInt8)∉s.data.toList.take k)) (fun i _=>s.size-(intOf i).toNat)
 case atStart=>exact ⟨0,CY _,rfl,rfl,Bo (by simp)⟩
 case round=>
  obtain ⟨k,hk,rfl,rfl,hno⟩:=hrel;rcases CW k s.size with hlt | hge
  ·have i1:(k:Int)<(s.size:Int):=by omega
   have hkl:k<s.data.toList.length:=by rw [len];exact hlt
   obtain ⟨c,hc⟩:∃c,s.data.toList[k]=c:=⟨_,rfl⟩;have hx:∀h,s[k]'h=c:=fun _=>hc;by_cases h63:c=63
   ·have t1:((c.toNat:Int)==63)=true:=by rw [h63];rfl
    obtain ⟨e1,e2,e3⟩:=HPP.out k hkl (hc.trans h63) hno.out;have j0:(0:Int)≤(k:Int):=by omega
    have j1:(k:Int)≤(s.size:Int):=by omega
    have m1:IntKind.i64.wrap ((k:Int)+1)=((k+1:Nat):Int):=by rw [wrap_in _ (by omega) (by omega)];omega
    have j2:(k:Int)+1≤(s.size:Int):=by omega
    have j3:(0:Int)≤(k:Int)+1:=by omega
    clear h63 hc hkl hno;subst e3;go_wp2_with fail;refine Sched.region [(0,false),(1,false),(2,false),(3,false),(4,false),(5,false),(6,false),(7,false),(8,true),(9,false),(10,true),(11,false),(12,true)] (fun _=>True) (by kernel_rfl) (by kernel_rfl) (fun _ _ d _ _ h=>by cases d<;>exact h) trivial ?_
    have HY4:=Bo (H4w.out.below HG4w.out (Aj (Am _ _) 1))
    have HY2:=Bo (H2w.out.below HG2w.out (Aj (Am _ _) 1))
    have HYB:=Bo (Aj HBw.out 1);have HYG:Hid (w.heap.size+1<(World.drewN wr 1).heap.size):=HG4w;generalize World.drewN wr 1=W6 at *;simp only [Sched.picked,List.filterMap_cons,List.filterMap_nil,BR,BQ,Option.map_some]
    iterate 8
     refine Sched.quiet (by rfl) ?_ ?_ ?_
     rotate_left 1
     ·intro w' hS;clear hS;go_simp;with_reducible rfl
     simp only [Ab,C7,CA,C9]
    obtain ⟨c0,c1,c2,c3,c4,z0,z1,z2,z3,z4⟩:=HY4.out
    refine Sched.change (by rfl) (fun K hK=>?_);go_simp;refine hK _ _ trivial ?_;clear hK K;refine Sched.quiet (by rfl) ?_ ?_ ?_
    rotate_left 1
    ·intro w' hS;clear hS;go_simp;with_reducible rfl
    simp only [Ab,C7,CA,C9]
    refine Sched.change (by rfl) (fun K hK=>?_);go_simp;refine hK _ _ trivial ?_;clear hK K;refine Sched.quiet (by rfl) ?_ ?_ ?_
    rotate_left 1
    ·intro w' hS;clear hS;go_simp;with_reducible rfl
    simp only [Ab,C7,CA,C9]
    refine Sched.change (by rfl) (fun K hK=>?_);go_simp;refine hK _ _ trivial ?_;clear hK K;refine Sched.done ?_
    have H4:Hid (Tgb (((W6.setCell ⟨w.heap.size+1,2,none⟩ (.string PP)).setCell ⟨w.heap.size+1,3,none⟩ (.string QQ)).setCell ⟨w.heap.size+1,4,none⟩ (.bool true)) (w.heap.size+1) 0 E0 PP QQ true):=Bo (by refine ⟨?_,?_,?_,?_,?_,?_,?_,?_,?_,?_⟩;all_goals go_simp)
    have hn42:¬w.heap.size+1=w.heap.size:=by omega
    have H2:=Bo (((HY2.out.other (w.heap.size+1) 2 (.string PP) hn42).other (w.heap.size+1) 3 (.string QQ) hn42).other (w.heap.size+1) 4 (.bool true) hn42);have hle:w.heap.size≤w.heap.size+1:=CS _
    have HB:=Bo (((HYB.out.setCell (p:=⟨w.heap.size+1,2,none⟩) hle (.string PP)).setCell (p:=⟨w.heap.size+1,3,none⟩) hle (.string QQ)).setCell (p:=⟨w.heap.size+1,4,none⟩) hle (.bool true))
    have HG4:Hid (w.heap.size+1<(((W6.setCell ⟨w.heap.size+1,2,none⟩ (.string PP)).setCell ⟨w.heap.size+1,3,none⟩ (.string QQ)).setCell ⟨w.heap.size+1,4,none⟩ (.bool true)).heap.size):=Bo (by simpa using HYG.out)
    have HG2:=Bo (Nat.lt_of_le_of_lt hle HG4.out);clear HY4 HY2 HYB HYG c0 c1 c2 c3 c4 z0 z1 z2 z3 z4 H4w H2w HBw HG4w HG2w;generalize ((W6.setCell ⟨w.heap.size+1,2,none⟩ (.string PP)).setCell ⟨w.heap.size+1,3,none⟩ (.string QQ)).setCell ⟨w.heap.size+1,4,none⟩ (.bool true)=W7 at *;go_wp2_with fail
    have HW7:=Bo (H4.out.below HG4.out (Aj (Am _ _) 1))
    have HX7:=Bo (H2.out.below HG2.out (Aj (Am _ _) 1))
    have HB7:=Bo (Aj HB.out 1);refine Sched.region [(0,false),(1,false),(2,false),(3,true),(4,false),(5,false),(6,false),(7,true),(8,false),(9,true),(10,false)] (fun w'=>Tgb w' (w.heap.size+1) 0 E0 PP QQ true) (by kernel_rfl) (by kernel_rfl) (fun _ _ d _ _ h=>by cases d<;>exact h) HW7.out ?_;generalize World.drewN W7 1=W8 at *;simp only [Sched.picked,List.filterMap_cons,List.filterMap_nil,BR,BQ,Option.map_some]
    iterate 3
     refine Sched.quiet (by rfl) ?_ ?_ ?_
     rotate_left 1
     ·exact XXWdt
     simp only [Ab,C7,CA,C9]
    refine Sched.change (by rfl) (fun K hK=>?_);go_simp;with_reducible refine (HP.out _).mono ?_
    rintro e w1 ⟨rfl,hw⟩;rw [hw];clear hw;dsimp only;refine hK _ _ HW7.out ?_;clear hK K;refine Sched.move _ (by rfl) (by rfl) ?_;simp only [Ab,Act.eval,Af,BY,BR,BQ,Di,C7,CA,C9];cases pk with
    | false=>
      iterate 3
       refine Sched.skip (by rfl) ?_;simp only [Ab,C7,CA,C9]
      refine Sched.quiet (by rfl) (.bool false) ?_ ?_
      ·intro w' hS;clear hS;go_simp
      simp only [Ab,C7,CA,C9]
      refine Sched.change (by rfl) (fun K hK=>?_);obtain ⟨c0,c1,c2,c3,c4,z0,z1,z2,z3,z4⟩:=HX7.out;obtain ⟨W9,hW9,⟨d0,d1,d2,d3,d4,_,_,_,_,_⟩,hbW⟩:=Tgb.put ⟨c0,c1,c2,c3,c4,z0,z1,z2,z3,z4⟩ HB7.out (CQ _) 0 E0 PP QQ true;exact XX34J
    | true=>
      iterate 2
       refine Sched.quiet (by rfl) ?_ ?_ ?_
       rotate_left 1
       ·exact XXWdt
       simp only [Ab,C7,CA,C9]
      refine Sched.change (by rfl) (fun K hK=>?_);go_simp;with_reducible refine (HQ.out _).mono ?_
      rintro e w1 ⟨rfl,hw⟩;rw [hw];clear hw;dsimp only;refine hK _ _ HW7.out ?_;clear hK K;refine Sched.quiet (by rfl) (.bool qk) ?_ ?_
      ·intro w' hS;clear hS;go_simp
      simp only [Ab,C7,CA,C9]
      refine Sched.change (by rfl) (fun K hK=>?_);obtain ⟨c0,c1,c2,c3,c4,z0,z1,z2,z3,z4⟩:=HX7.out;obtain ⟨W9,hW9,⟨d0,d1,d2,d3,d4,_,_,_,_,_⟩,hbW⟩:=Tgb.put ⟨c0,c1,c2,c3,c4,z0,z1,z2,z3,z4⟩ HB7.out (CQ _) 0 E0 PP QQ true;exact XX34J
   ·have t1:((c.toNat:Int)==63)=false:=beq_eq_false_iff_ne.2 fun e=>h63 (FD.1 (by show c.toNat=63;omega))
    have HN:Hid ((63:UInt8)∉s.data.toList.take (k+1)):=Bo (by rw [CE hkl,hc,List.mem_append,not_or];exact ⟨hno.out,by rw [C1];exact fun e=>h63 e.symm⟩)
    clear h63 hc hkl hno;go_wp2_with fail;go_roundw
    case rel=>first | exact ⟨k+1,by omega,by go_num,rfl,HN⟩ | exact ⟨k+1,by omega,by go_num,trivial,HN⟩
    case measure=>simp [intOf];omega
  ·obtain rfl:k=s.size:=by omega
   have h1:=hno.out;rw [take_all s _ (CQ _)] at h1;obtain ⟨e1,e2,e3⟩:=HEE.out h1;clear hno h1;subst e1 e2 e3;go_wp2_with fail;have H4:=H4w;have H2:=H2w;have HB:=HBw;have HG4:=HG4w;have HG2:=HG2w;clear H4w H2w HBw HG4w HG2w;generalize wr=W7 at *
   have HW7:=Bo (H4.out.below HG4.out (Aj (Am _ _) 1))
   have HX7:=Bo (H2.out.below HG2.out (Aj (Am _ _) 1))
   have HB7:=Bo (Aj HB.out 1);refine Sched.region [(0,false),(1,false),(2,false),(3,true),(4,false),(5,false),(6,false),(7,true),(8,false),(9,true),(10,false)] (fun w'=>Tgb w' (w.heap.size+1) 0 E0 s E0 false) (by kernel_rfl) (by kernel_rfl) (fun _ _ d _ _ h=>by cases d<;>exact h) HW7.out ?_;generalize World.drewN W7 1=W8 at *;simp only [Sched.picked,List.filterMap_cons,List.filterMap_nil,BR,BQ,Option.map_some]
   iterate 3
    refine Sched.quiet (by rfl) ?_ ?_ ?_
    rotate_left 1
    ·exact XXWdt
    simp only [Ab,C7,CA,C9]
   refine Sched.change (by rfl) (fun K hK=>?_);go_simp;with_reducible refine (HP.out _).mono ?_
   rintro e w1 ⟨rfl,hw⟩;rw [hw];clear hw;dsimp only;refine hK _ _ HW7.out ?_;clear hK K;refine Sched.move _ (by rfl) (by rfl) ?_;simp only [Ab,Act.eval,Af,BY,BR,BQ,Di,C7,CA,C9];cases pk with
   | false=>
     iterate 3
      refine Sched.skip (by rfl) ?_;simp only [Ab,C7,CA,C9]
     refine Sched.quiet (by rfl) (.bool false) ?_ ?_
     ·intro w' hS;clear hS;go_simp
     simp only [Ab,C7,CA,C9]
     refine Sched.change (by rfl) (fun K hK=>?_);obtain ⟨c0,c1,c2,c3,c4,z0,z1,z2,z3,z4⟩:=HX7.out;obtain ⟨W9,hW9,⟨d0,d1,d2,d3,d4,_,_,_,_,_⟩,hbW⟩:=Tgb.put ⟨c0,c1,c2,c3,c4,z0,z1,z2,z3,z4⟩ HB7.out (CQ _) 0 E0 s E0 false;exact XX34J
   | true=>
     iterate 2
      refine Sched.quiet (by rfl) ?_ ?_ ?_
      rotate_left 1
      ·exact XXWdt
      simp only [Ab,C7,CA,C9]
     refine Sched.change (by rfl) (fun K hK=>?_);go_simp;with_reducible refine (HQ.out _).mono ?_
     rintro e w1 ⟨rfl,hw⟩;rw [hw];clear hw;dsimp only;refine hK _ _ HW7.out ?_;clear hK K;refine Sched.quiet (by rfl) (.bool qk) ?_ ?_
     ·intro w' hS;clear hS;go_simp
     simp only [Ab,C7,CA,C9]
     refine Sched.change (by rfl) (fun K hK=>?_);obtain ⟨c0,c1,c2,c3,c4,z0,z1,z2,z3,z4⟩:=HX7.out;obtain ⟨W9,hW9,⟨d0,d1,d2,d3,d4,_,_,_,_,_⟩,hbW⟩:=Tgb.put ⟨c0,c1,c2,c3,c4,z0,z1,z2,z3,z4⟩ HB7.out (CQ _) 0 E0 s E0 false;exact XX34J
end code
end Go.Proofs.YtnabkcglnbdfeaaGreatDoor.Tgt
namespace Go.Proofs.YtnabkcglnbdfeaaGreatDoor.Tgt
open Go.RowKit Base Oct Num Txt
theorem cutAt_head (c d:UInt8) (l:List UInt8) (h:(cutAt c l).1.head?=some d):l.head?=some d:=by
 cases l with
 | nil=>simp [cutAt] at h
 | cons b r=>
   rw [cutAt] at h;split at h
   ·simp at h
   ·simpa using h
theorem origin_head {l:List UInt8} (h:l.head?≠some 47):origin l=none:=by
 unfold origin;have:pathB (cutAt 63 l).1=false:=by unfold pathB;rw [decide_eq_false (fun e=>h (cutAt_head _ _ _ e)),As]
 rw [this,As];rfl
theorem schemed_head {l:List UInt8} (h:l.head?=some 47):schemed l=false:=by
 cases l with
 | nil=>simp at h
 | cons c r=>
   obtain rfl:c=47:=by simpa using h
   unfold schemed;have:(low (((47:UInt8)::r).take 7)==low http)=false:=by rw [beq_eq_false_iff_ne];intro e;have e2:=congrArg (fun x=>x.head?) e;revert e2;show some (lowB 47)=some (lowB 104)→False;decide
   rw [this,Bool.and_false]
theorem parse_alt {m l:List UInt8} (hm:¬m=connect) (ho:¬(m=options∧l= [42])):parse m l=if schemed l=true then absolute (l.drop 7) else origin l:=by
 rw [parse,if_neg hm,if_neg ho];by_cases hd:l.head?=some 47
 ·rw [if_pos hd,schemed_head hd];rfl
 ·rw [if_neg hd,origin_head hd]
def relabel (F:Nat) (ho:List UInt8) (o:Option Tg):Option Tg:=o.map fun t=>⟨F,ho,t.path,t.query,t.asked⟩
theorem origin_relabel (l:List UInt8):origin l=relabel 1 [] (origin l):=by
 unfold relabel;cases h:origin l with
 | none=>rfl
 | some t=>
   obtain ⟨_,h1,h2⟩:=putPath_origin h;obtain ⟨f,ho,p,q,a⟩:=t;simp only at h1 h2;subst h1 h2;rfl
theorem absolute_relabel (l:List UInt8) (h:hostB (hostOf l)=true):absolute l=relabel 2 (hostOf l) (origin (slashed (restOf l))):=by
 unfold absolute relabel;cases origin (slashed (restOf l)) with
 | none=>rfl
 | some t=>simp only [h,if_true];rfl
theorem absolute_none (l:List UInt8) (h:hostB (hostOf l)=false):absolute l=none:=by
 unfold absolute;cases origin (slashed (restOf l)) with
 | none=>rfl
 | some t=>simp only [h];rfl
theorem host_all:∀l:List UInt8,(∀x∈l,ended x=false)→hostOf l=l∧restOf l= []
 | [],_=>⟨rfl,rfl⟩
 | c::r,h=>by
   have hc:=h c (by simp)
   have ih:=host_all r fun x hx=>h x (by simp [hx]);unfold hostOf restOf at *;simp only [List.takeWhile_cons,List.dropWhile_cons,hc,Bool.not_false,if_true];exact ⟨by rw [ih.1],ih.2⟩
theorem host_stop (l:List UInt8) (k:Nat) (h1:∀x∈l.take k,ended x=false) (h2:l.length≤k∨∃h:k<l.length,ended l[k]=true):hostOf l=l.take k∧restOf l=l.drop k:=by
 rcases h2 with h2 | ⟨h2,h3⟩
 ·rw [CD h2] at h1;rw [CD h2,List.drop_eq_nil_of_le h2];exact host_all l h1
 ·have e:=host_cut (fun c=>!ended c) (l.take k) (l.drop (k+1)) l[k] (fun x hx=>by simp [h1 x hx]) (by simp [h3]);have e2:l.take k++l[k]::l.drop (k+1)=l:=by rw [←BH h2,List.take_append_drop]
  rw [e2] at e;exact ⟨e.1,by rw [BH h2];exact e.2⟩
section code
set_option maxHeartbeats 1000000
attribute [local go_sem] Al
theorem rtarget_connect (m s:ByteArray) (w:World) (hs:s.size≤900000000) (hm:m.data.toList=connect) :
 Calls EL 212 #[.string m,.string s] w fun e w'=>e=.returned (ans (parse m.data.toList s.data.toList))∧Below w.heap.size w w':=by
 have HCC:=Bo (Tgb.new w 212 0 E0 E0 E0 false)
 have HWW:=Bo (show Below w.heap.size w (w.alloc (.cells #[.int .i64 0,.string E0,.string E0,.string E0,.bool false] 212)) from (Am _ _).alloc (CQ _) _)
 have HG:=Bo (show w.heap.size<(w.alloc (.cells #[.int .i64 0,.string E0,.string E0,.string E0,.bool false] 212)).heap.size by simp)
 have HC:=Bo (fun w=>rport_any s w (by omega))
 have HH:=Bo (fun w=>rhost_any s w (by omega));have hba:ba s.data.toList=s:=rfl;rw [parse,if_pos hm]
 obtain ⟨t1,t2⟩:=eq_facts m [67,79,78,78,69,67,84] true (decide_eq_true hm);clear hm;obtain ⟨R,hR⟩:∃R,authority s.data.toList=R:=⟨_,rfl⟩;rw [hR];unfold authority at hR;generalize s.data.toList.contains 58=b at *;generalize hostB s.data.toList=h at *;cases h with
 | false=>
   rw [Bool.and_false] at hR;obtain rfl:none=R:=hR;rw [ans];clear hba;go_enter Tryz.func212,Tryz.ntmps212
   go_wp2_with (go_at_call 233;with_reducible refine (HH.out _).mono ?_;rintro e w2 ⟨rfl,hb⟩
                obtain ⟨c0,c1,c2,c3,c4,z0,z1,z2,z3,z4⟩:=HCC.out.below HG.out hb
                have HB:=Bo (Ak HWW.out hb);clear hb)
   exact XXoUb
 | true=>
   cases b with
   | false=>
     obtain rfl:none=R:=hR;rw [ans];clear hba;go_enter Tryz.func212,Tryz.ntmps212
     go_wp2_with (first
      |(go_at_call 234;with_reducible refine Cm (HC.out _) ?_)
      |(go_at_call 233;with_reducible refine (HH.out _).mono ?_;rintro e w2 ⟨rfl,hb⟩
        obtain ⟨c0,c1,c2,c3,c4,z0,z1,z2,z3,z4⟩:=HCC.out.below HG.out hb
        have HB:=Bo (Ak HWW.out hb);clear hb))
     exact XXoUb
   | true=>
     obtain rfl:some ⟨3,s.data.toList,[],[],false⟩=R:=hR;rw [ans,hba,show ba []=E0 from rfl];clear hba;go_enter Tryz.func212,Tryz.ntmps212
     go_wp2_with (first
      |(go_at_call 234;with_reducible refine Cm (HC.out _) ?_)
      |(go_at_call 233;with_reducible refine (HH.out _).mono ?_;rintro e w2 ⟨rfl,hb⟩
        obtain ⟨c0,c1,c2,c3,c4,z0,z1,z2,z3,z4⟩:=HCC.out.below HG.out hb
        have HB:=Bo (Ak HWW.out hb);clear hb))
     exact XXTgp
theorem XXuJ6 {P:Prop} (h:P:=by
 rw [hh] at HHo
 have HN:Hid (none=R):=Bo (by rw [←HR.out,absolute_none _ hh]);clear hh HR;go_wp2_with fail
 go_quiet (fail);rename_i nq;generalize s.extract k s.size=X at *;generalize s.extract 7 k=Y at *
 have HH2:Hid (∀w,Calls EL 233 #[.string Y] w fun e w'=>e=.returned (.bool false)∧Below w.heap.size w w'):=Bo (by rw [HX.out];exact HHo.out)
 have hbq:=Bo (Aj (Am wc.heap.size wc) nq);generalize wc.drewN nq=wq at *
 go_wp2_with (go_at_call 233;with_reducible refine (HH2.out _).mono ?_;rintro e w2 ⟨rfl,hb⟩
              have hb':=Ak hbq.out hb;obtain ⟨c0,c1,c2,c3,c4,z0,z1,z2,z3,z4⟩:=H1.out.below HG1.out hb'
              have HB:=Bo (Ak HB1.out hb');clear hb hb')
 obtain ⟨W9,hW,⟨d0,d1,d2,d3,d4,_,_,_,_,_⟩,hbW⟩:=Tgb.put ⟨c0,c1,c2,c3,c4,z0,z1,z2,z3,z4⟩ HB.out (CQ _) 0 E0 E0 E0 false;rw [hW]
 exact bodyPost_ret (v:=.tuple #[tv 0 E0 E0 E0 false,.int .i64 400]) (by simp [results,Tryz.results212,go_sem,d0,d1,d2,d3,d4]) rfl ⟨by rw [←HN.out];rfl,hbW⟩):P:=h
theorem XXCSr {P:Prop} (h:P:=by
 rw [hh] at HHo
 have HRR:Hid (relabel 2 (hostOf (s.data.toList.drop 7)) (origin (slashed (restOf (s.data.toList.drop 7))))=R):=Bo (by rw [←HR.out,absolute_relabel _ hh]);clear hh HR;go_wp2_with fail
 go_quiet (fail);rename_i nq;generalize s.extract k s.size=X at *;generalize s.extract 7 k=Y at *
 have HH2:Hid (∀w,Calls EL 233 #[.string Y] w fun e w'=>e=.returned (.bool true)∧Below w.heap.size w w'):=Bo (by rw [HX.out];exact HHo.out)
 have hbq:=Bo (Aj (Am wc.heap.size wc) nq);generalize wc.drewN nq=wq at *
 go_wp2_with (go_at_call 233;with_reducible refine (HH2.out _).mono ?_;rintro e w2 ⟨rfl,hb⟩
              have HBH:=Bo (Ak hbq.out hb);clear hb)
 go_meet
 case rel=>exact ⟨2,hostOf (s.data.toList.drop 7),slashed (restOf (s.data.toList.drop 7)),by rw [HSL.out],rfl,by rw [HX.out],HLEN.out,HRR,HBH⟩):P:=h
set_option maxRecDepth 10000 in
theorem rtarget_any (m s:ByteArray) (w:World) (hs:s.size≤900000000) :
 Calls EL 212 #[.string m,.string s] w fun e w'=>e=.returned (ans (parse m.data.toList s.data.toList))∧Below w.heap.size w w':=by
 by_cases hm:m.data.toList=connect
 ·exact rtarget_connect m s w hs hm
 obtain ⟨t1,t2⟩:=eq_facts m [67,79,78,78,69,67,84] false (decide_eq_false hm);by_cases ho:m.data.toList=options∧s.data.toList= [42]
 ·obtain ⟨t3,t4⟩:=eq_facts m [79,80,84,73,79,78,83] true (decide_eq_true ho.1)
  obtain ⟨t5,t6⟩:=eq_facts s [42] true (decide_eq_true ho.2);rw [parse,if_neg hm,if_pos ho];clear ho hm;go_enter Tryz.func212,Tryz.ntmps212;go_wp2_with fail;exact bodyPost_ret (v:=.tuple #[tv 4 E0 E0 E0 false,.int .i64 0]) (by simp [results,Tryz.results212,go_sem]) rfl ⟨rfl,(Am _ _).alloc (CQ _) _⟩
 obtain ⟨R,hR⟩:∃R,parse m.data.toList s.data.toList=R:=⟨_,rfl⟩;rw [hR];rw [parse_alt hm ho] at hR;have HR:=Bo hR;have hno:((m.toList == [79,80,84,73,79,78,83])=false∧(m.toList==(ByteArray.mk #[79,80,84,73,79,78,83]).toList)=false)∨((m.toList == [79,80,84,73,79,78,83])=true∧(m.toList==(ByteArray.mk #[79,80,84,73,79,78,83]).toList)=true∧(s.toList == [42])=false∧(s.toList==(ByteArray.mk #[42]).toList)=false):=by exact XXkkv
 have HNO:=Bo hno;clear ho hm hR hno;have hcc:=Tgb.new w 212 0 E0 E0 E0 false;have hww:Below w.heap.size w (w.alloc (.cells #[.int .i64 0,.string E0,.string E0,.string E0,.bool false] 212)):=(Am _ _).alloc (CQ _) _;have hgg:w.heap.size<(w.alloc (.cells #[.int .i64 0,.string E0,.string E0,.string E0,.bool false] 212)).heap.size:=by simp
 go_enter Tryz.func212,Tryz.ntmps212;go_upto_region 5 with fail
 generalize w.alloc (.cells #[.int .i64 0,.string E0,.string E0,.string E0,.bool false] 212)=W at *;have HCC:=Bo hcc;have HWW:=Bo hww;have HG:=Bo hgg;clear hcc hww hgg
 go_cut [29] from 24 (fun v wx=>v=.bool false∧wx=W)
 case first=>
  rcases HNO.out with ⟨t3,t4⟩ | ⟨t3,t4,t5,t6⟩;all_goals
   go_wp2_with fail;go_meet
   case rel=>exact ⟨rfl,rfl⟩
 case rest=>
  obtain ⟨rfl,hw0⟩:=hcut;rw [hw0];clear hw0 HNO;go_upto_region 8 with fail
  go_cut [38] from 31 (fun v wx=>v=.bool (schemed s.data.toList)∧Hid (Below W.heap.size W wx))
  case first=>
   by_cases h7:7≤s.size
   ·have q7:(7:Int)≤(s.size:Int):=by omega
    have x1:(s.extract 0 7).data.toList=s.data.toList.take 7:=by rw [Bl];simp
    have hx1:(s.extract 0 7).size≤1000:=by rw [←len,x1,Cr];omega
    have HM:=Bo (fun w=>Txt.rsame_any (s.extract 0 7) ⟨#[104,116,116,112,58,47,47]⟩ w (by omega) (by decide));have hsm:same (s.extract 0 7) ⟨#[104,116,116,112,58,47,47]⟩=schemed s.data.toList:=by unfold same schemed;rw [x1,len,decide_eq_true h7];rfl
    rw [hsm] at HM;clear x1 hx1 hsm h7 HR;generalize schemed s.data.toList=sc at *
    go_wp2_with (go_at_call 151;with_reducible refine (HM.out _).mono ?_;rintro e w2 ⟨rfl,hb⟩);go_meet
    case rel=>exact ⟨rfl,Bo hb⟩
   ·have q7:¬(7:Int)≤(s.size:Int):=by omega
    have hsc:schemed s.data.toList=false:=by unfold schemed;rw [len,decide_eq_false h7,As]
    have HSC:=Bo hsc;clear hsc h7;go_wp2_with fail;go_meet
    case rel=>exact ⟨by rw [HSC.out],Bo (Am _ _)⟩
  case rest=>
   obtain ⟨rfl,hbc⟩:=hcut
   have H1:=Bo (HCC.out.below HG.out hbc.out)
   have HB1:=Bo (Ak HWW.out hbc.out)
   have HG1:=Bo (CV HG.out hbc.out.size);clear HCC HWW HG hbc;go_upto_if 38 with fail
   go_cut [1,6,7] from 8 (fun v1 v6 v7 wx=>∃(F:Nat) (HO SS:List UInt8),v1=.string (ba SS)∧v6=.int .i64 F∧v7=.string (ba HO)∧SS.length≤1000000000∧Hid (relabel F HO (origin SS)=R)∧Hid (Below wc.heap.size wc wx))
   case first=>
    cases hsc:schemed s.data.toList with
    | false=>
      rw [hsc,if_neg (by decide),origin_relabel] at HR;clear hsc;go_wp2_with fail;go_meet
      case rel=>exact ⟨1,[],s.data.toList,rfl,rfl,rfl,by rw [len];omega,HR,Bo (Am _ _)⟩
    | true=>
      rw [hsc,if_pos rfl] at HR;have hs7:7≤s.size:=by unfold schemed at hsc;rw [An,decide_eq_true_eq,len] at hsc;exact hsc.1
      clear hsc;go_wp2_with fail
      go_loop [8] (fun i=>∃k:Nat,7≤k∧k≤s.size∧i=.int .i64 k∧Hid (∀x∈(s.data.toList.drop 7).take (k-7),ended x=false)) (fun i=>s.size-(intOf i).toNat)
      case atStart=>exact ⟨7,CQ _,hs7,rfl,Bo (by simp)⟩
      case round=>
       obtain ⟨k,hlk,hle,rfl,hall⟩:=hrel;rcases CW k s.size with hlt | hge
       ·have i1:(k:Int)<(s.size:Int):=by omega
        have hkl:k<s.data.toList.length:=by rw [len];exact hlt
        obtain ⟨c,hck⟩:∃c,s.data.toList[k]=c:=⟨_,rfl⟩;have hxk:∀h,s[k]'h=c:=fun _=>hck;have hdl:k-7<(s.data.toList.drop 7).length:=by rw [Cj,len];omega
        have hdk:(s.data.toList.drop 7)[k-7]=c:=by
         rw [List.getElem_drop,←hck]
         congr 1
         omega
        by_cases h47:c=47
        ·have t47:((c.toNat:Int) != 47)=false:=by rw [h47];rfl
         have hstop:(s.data.toList.drop 7).length≤k-7∨∃h:k-7<(s.data.toList.drop 7).length,ended (s.data.toList.drop 7)[k-7]=true:=.inr ⟨hdl,by rw [hdk,h47];rfl⟩;clear hdl hdk;have j7:(7:Int)≤(k:Int):=by omega
         have jk:(k:Int)≤(s.size:Int):=by omega
         obtain ⟨g1,g2⟩:=host_stop (s.data.toList.drop 7) (k-7) hall.out hstop;rw [List.drop_drop,show 7+(k-7)=k by omega] at g2
         have hx:s.extract 7 k=ba (hostOf (s.data.toList.drop 7)):=ba_ext (by rw [Bl,g1];rfl)
         have hy:s.extract k s.size=ba (restOf (s.data.toList.drop 7)):=ba_ext (by rw [drop_ext,g2];rfl)
         have HHo:=Bo (fun w=>rhost_any (s.extract 7 k) w (by rw [hx,ba_size];have:=hostOf_le (s.data.toList.drop 7);rw [Cj,len] at this;omega));rw [hx,ba_list] at HHo
         have hlen:=slashed_le (restOf (s.data.toList.drop 7))
         have hrl:=restOf_le (s.data.toList.drop 7);rw [Cj,len] at hrl
         have HLEN:=Bo (show (slashed (restOf (s.data.toList.drop 7))).length≤1000000000 by omega);have hre:restOf (s.data.toList.drop 7)=47::s.data.toList.drop (k+1):=by rw [g2,BH hkl,hck,h47]
         have hemp:(s.extract k s.size).toList.isEmpty=false:=by rw [hy];exact full_of hre
         have hpos:(0:Int)<((s.extract k s.size).size:Int):=by rw [hy,ba_size,hre,List.length_cons];omega
         have hat:∀h,(s.extract k s.size)[0]'h=47:=fun h=>at_zero (by rw [hy];exact hre) h;have hsl:s.extract k s.size=ba (slashed (restOf (s.data.toList.drop 7))):=by rw [hy,hre];rfl
         have HX:=Bo hx;have HSL:=Bo hsl;clear hx hy hsl hre g1 g2 hlen hrl hstop hall hck hkl h47;cases hh:hostB (hostOf (s.data.toList.drop 7)) with
         | false=>
           exact XXuJ6
         | true=>
           exact XXCSr
        ·have t47:((c.toNat:Int) != 47)=true:=bne_iff_ne.2 fun e=>h47 (FD.1 (by show c.toNat=47;omega));by_cases h63:c=63
         ·have t63:((c.toNat:Int) != 63)=false:=by rw [h63];rfl
          have hstop:(s.data.toList.drop 7).length≤k-7∨∃h:k-7<(s.data.toList.drop 7).length,ended (s.data.toList.drop 7)[k-7]=true:=.inr ⟨hdl,by rw [hdk,h63];rfl⟩;clear hdl hdk;have j7:(7:Int)≤(k:Int):=by omega
          have jk:(k:Int)≤(s.size:Int):=by omega
          obtain ⟨g1,g2⟩:=host_stop (s.data.toList.drop 7) (k-7) hall.out hstop;rw [List.drop_drop,show 7+(k-7)=k by omega] at g2
          have hx:s.extract 7 k=ba (hostOf (s.data.toList.drop 7)):=ba_ext (by rw [Bl,g1];rfl)
          have hy:s.extract k s.size=ba (restOf (s.data.toList.drop 7)):=ba_ext (by rw [drop_ext,g2];rfl)
          have HHo:=Bo (fun w=>rhost_any (s.extract 7 k) w (by rw [hx,ba_size];have:=hostOf_le (s.data.toList.drop 7);rw [Cj,len] at this;omega));rw [hx,ba_list] at HHo
          have hlen:=slashed_le (restOf (s.data.toList.drop 7))
          have hrl:=restOf_le (s.data.toList.drop 7);rw [Cj,len] at hrl
          have HLEN:=Bo (show (slashed (restOf (s.data.toList.drop 7))).length≤1000000000 by omega);have hre:restOf (s.data.toList.drop 7)=63::s.data.toList.drop (k+1):=by rw [g2,BH hkl,hck,h63]
          have hemp:(s.extract k s.size).toList.isEmpty=false:=by rw [hy];exact full_of hre
          have hpos:(0:Int)<((s.extract k s.size).size:Int):=by rw [hy,ba_size,hre,List.length_cons];omega
          have hat:∀h,(s.extract k s.size)[0]'h=63:=fun h=>at_zero (by rw [hy];exact hre) h
          have hsl:(⟨#[47]⟩:ByteArray)++s.extract k s.size=ba (slashed (restOf (s.data.toList.drop 7))):=by rw [hy,hre];exact ba_ext (by simp [ba,slashed])
          have hv:¬9223372036854775807<1+(s.extract k s.size).size:=by rw [hy,ba_size];omega
          have HX:=Bo hx;have HSL:=Bo hsl;clear hx hy hsl hre g1 g2 hlen hrl hstop hall hck hkl h63 h47;cases hh:hostB (hostOf (s.data.toList.drop 7)) with
          | false=>
            exact XXuJ6
          | true=>
            exact XXCSr
         ·have t63:((c.toNat:Int) != 63)=true:=bne_iff_ne.2 fun e=>h63 (FD.1 (by show c.toNat=63;omega))
          have HN:Hid (∀x∈(s.data.toList.drop 7).take (k+1-7),ended x=false):=Bo (by
           rw [show k+1-7=(k-7)+1 by omega,CE hdl,hdk];intro x hx;rcases List.mem_append.1 hx with hx | hx
           ·exact hall.out x hx
           ·obtain rfl:x=c:=by simpa using hx
            simp [ended,h47,h63])
          clear h47 h63 hdl hdk hck hkl hall;go_wp2_with fail;go_round
          case rel=>exact ⟨k+1,by omega,by omega,by go_num,HN⟩
          case measure=>simp [intOf];omega
       ·have i1:¬(k:Int)<(s.size:Int):=by omega
        have hstop:(s.data.toList.drop 7).length≤k-7∨∃h:k-7<(s.data.toList.drop 7).length,ended (s.data.toList.drop 7)[k-7]=true:=.inl (by rw [Cj,len];omega);have j7:(7:Int)≤(k:Int):=by omega
        have jk:(k:Int)≤(s.size:Int):=by omega
        obtain ⟨g1,g2⟩:=host_stop (s.data.toList.drop 7) (k-7) hall.out hstop;rw [List.drop_drop,show 7+(k-7)=k by omega] at g2
        have hx:s.extract 7 k=ba (hostOf (s.data.toList.drop 7)):=ba_ext (by rw [Bl,g1];rfl)
        have hy:s.extract k s.size=ba (restOf (s.data.toList.drop 7)):=ba_ext (by rw [drop_ext,g2];rfl)
        have HHo:=Bo (fun w=>rhost_any (s.extract 7 k) w (by rw [hx,ba_size];have:=hostOf_le (s.data.toList.drop 7);rw [Cj,len] at this;omega));rw [hx,ba_list] at HHo
        have hlen:=slashed_le (restOf (s.data.toList.drop 7))
        have hrl:=restOf_le (s.data.toList.drop 7);rw [Cj,len] at hrl
        have HLEN:=Bo (show (slashed (restOf (s.data.toList.drop 7))).length≤1000000000 by omega)
        have hre:restOf (s.data.toList.drop 7)= []:=by rw [g2];exact List.drop_eq_nil_of_le (by rw [len];omega)
        have hemp:(s.extract k s.size).toList.isEmpty=true:=by rw [hy,hre];exact empty_of rfl
        have hsl:(⟨#[47]⟩:ByteArray)++s.extract k s.size=ba (slashed (restOf (s.data.toList.drop 7))):=by rw [hy,hre];exact ba_ext (by simp [ba,slashed])
        have hv:¬9223372036854775807<1+(s.extract k s.size).size:=by rw [hy,ba_size];omega
        have HX:=Bo hx;have HSL:=Bo hsl;clear hx hy hsl hre g1 g2 hlen hrl hstop hall;cases hh:hostB (hostOf (s.data.toList.drop 7)) with
        | false=>
          exact XXuJ6
        | true=>
          exact XXCSr
   case rest=>
    obtain ⟨F,HO,SS,rfl,rfl,rfl,hSS,hRR,hbc⟩:=hcut
    have H2:=Bo (H1.out.below HG1.out hbc.out)
    have HB2:=Bo (Ak HB1.out hbc.out)
    have HG2:=Bo (CV HG1.out hbc.out.size);clear H1 HB1 HG1 hbc HR
    have HOR:=Bo (fun w=>rorigin_any (ba SS) w (by rw [ba_size];omega));rw [ba_list] at HOR;have hor:origin SS=if (pathB (cutAt 63 SS).1&&queryB (cutAt 63 SS).2.1)=true then some ⟨1,[],(cutAt 63 SS).1,(cutAt 63 SS).2.1,(cutAt 63 SS).2.2⟩ else none:=rfl
    rw [hor] at hRR;clear hor;generalize (cutAt 63 SS).1=p at *;generalize (cutAt 63 SS).2.1=q at *;generalize (cutAt 63 SS).2.2=bb at *;cases hk:(pathB p&&queryB q) with
    | false=>
      rw [hk] at HOR hRR;have HN:Hid (none=R):=hRR;clear hk hRR
      go_upto_if 82 with (go_at_call 235;with_reducible refine (HOR.out _).mono ?_;rintro e w2 ⟨rfl,hb⟩)
      have hb3:Below wc.heap.size wc (w2.alloc (.cells #[.int .i64 0,.string E0,.string (ba p),.string (ba q),.bool bb] 212)):=hb.alloc hb.size _;generalize w2.alloc (.cells #[.int .i64 0,.string E0,.string (ba p),.string (ba q),.bool bb] 212)=W3 at *;obtain ⟨c0,c1,c2,c3,c4,z0,z1,z2,z3,z4⟩:=H2.out.below HG2.out hb3
      have HB:=Bo (Ak HB2.out hb3);clear hb hb3 H2 HB2 HG2;go_wp2_with fail;obtain ⟨W9,hW,⟨d0,d1,d2,d3,d4,_,_,_,_,_⟩,hbW⟩:=Tgb.put ⟨c0,c1,c2,c3,c4,z0,z1,z2,z3,z4⟩ HB.out (CQ _) 0 E0 E0 E0 false;rw [hW];exact bodyPost_ret (v:=.tuple #[tv 0 E0 E0 E0 false,.int .i64 400]) (by simp [results,Tryz.results212,go_sem,d0,d1,d2,d3,d4]) rfl ⟨by rw [←HN.out];rfl,hbW⟩
    | true=>
      rw [hk] at HOR hRR;have HN:Hid (some ⟨F,HO,p,q,bb⟩=R):=hRR;clear hk hRR
      go_upto_if 82 with (go_at_call 235;with_reducible refine (HOR.out _).mono ?_;rintro e w2 ⟨rfl,hb⟩)
      have HT5:=Bo (Tgb.new w2 212 0 E0 (ba p) (ba q) bb);have hb3:Below wc.heap.size wc (w2.alloc (.cells #[.int .i64 0,.string E0,.string (ba p),.string (ba q),.bool bb] 212)):=hb.alloc hb.size _;have hne:w.heap.size<w2.heap.size:=CV HG2.out hb.size;generalize w2.alloc (.cells #[.int .i64 0,.string E0,.string (ba p),.string (ba q),.bool bb] 212)=W3 at *;obtain ⟨c0,c1,c2,c3,c4,z0,z1,z2,z3,z4⟩:=H2.out.below HG2.out hb3;obtain ⟨a0,a1,a2,a3,a4,y0,y1,y2,y3,y4⟩:=HT5.out
      have HB:=Bo (Ak HB2.out hb3);clear hb hb3 H2 HB2 HG2 HT5;have n1:¬w.heap.size=w2.heap.size:=by omega
      have n2:¬w2.heap.size=w.heap.size:=by omega
      generalize w2.heap.size=g7 at *;go_wp2_with fail
      have hB5:=(HB.out.setCell (p:=⟨g7,0,none⟩) (CP hne) (.int .i64 F)).setCell (p:=⟨g7,1,none⟩) (CP hne) (.string (ba HO));obtain ⟨W9,hW,⟨d0,d1,d2,d3,d4,_,_,_,_,_⟩,hbW⟩:=Tgb.put (((Tgb.mk c0 c1 c2 c3 c4 z0 z1 z2 z3 z4).other g7 0 (.int .i64 F) n2).other g7 1 (.string (ba HO)) n2) hB5 (CQ _) F (ba HO) (ba p) (ba q) bb;rw [hW];exact bodyPost_ret (v:=.tuple #[tv F (ba HO) (ba p) (ba q) bb,.int .i64 0]) (by simp [results,Tryz.results212,go_sem,d0,d1,d2,d3,d4]) rfl ⟨by rw [←HN.out];rfl,hbW⟩
end code
end Go.Proofs.YtnabkcglnbdfeaaGreatDoor.Tgt
