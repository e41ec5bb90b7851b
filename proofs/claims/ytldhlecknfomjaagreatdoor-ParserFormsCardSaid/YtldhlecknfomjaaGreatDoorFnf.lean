import Derived.Test.YtldhlecknfomjaaGreatDoorFne
set_option linter.unusedSimpArgs false
open Array renaming getD_eq_getD_getElem?→Af
open Bool renaming and_eq_true→An,false_and→As,not_eq_true'→Aw,or_eq_true→Ax,true_and→Az
open ByteArray renaming empty→A6
open Go.Act renaming put→Ab
open Go.Lib renaming extract_data→Bl,hid→Bo,toList_data→Bv
open Go.Proofs.Tryz renaming prog→EG
open Go.Proofs.YtldhlecknfomjaaGreatDoor.Base renaming below_drewN→Aj,below_step→Ak,some_undef→Al
open Go.Proofs.YtldhlecknfomjaaGreatDoor.Ln renaming own_slice→CJ
open Go.Proofs.YtldhlecknfomjaaGreatDoor.Mem.Keeps renaming set→Bf
open Go.Proofs.YtldhlecknfomjaaGreatDoor.Mem.Of renaming refl→De
open Go.Proofs.YtldhlecknfomjaaGreatDoor.Oct renaming allOf→CZ
open Go.Proofs.YtldhlecknfomjaaGreatDoor.Par.Step renaming of_below→D9,set→DB
open Go.Proofs.YtldhlecknfomjaaGreatDoor.Qk renaming has→Do,rhas_any→Dq
open Go.Proofs.YtldhlecknfomjaaGreatDoor.Rec renaming wraps→Dv
open Go.Proofs.YtldhlecknfomjaaGreatDoor.Rec.Bk renaming new→Ds
open Go.Proofs.YtldhlecknfomjaaGreatDoor.Txt renaming blank→F4
open Go.RowKit.Below renaming refl→Am
open List renaming append_nil→B9,drop_eq_getElem_cons→BJ,eq_nil_of_length_eq_zero→BM,getElem?_cons_succ→BR,getElem?_cons_zero→BS,getElem?_eq_getElem→BT,getElem?_map→BW,getElem?_toArray→BZ,getElem_mem→Cb,length_append→Ci,length_drop→Ck,length_map→Co,length_take→Ct,mem_cons→Cx,mem_singleton→C2,setIfInBounds_toArray→C8,set_cons_succ→CA,set_cons_zero→CB,take_of_length_le→CE,take_succ_eq_append_getElem→CF
open Nat renaming eq_zero_or_pos→CO,le_of_lt→CP,le_refl→CQ,le_succ→CS,le_trans→CT,lt_of_lt_of_le→CU,lt_or_ge→CV,zero_add→CW,zero_le→CX
open Option renaming getD_some→Dg,some→Di
open UInt8 renaming toNat_inj→F6
namespace Go.Proofs.YtldhlecknfomjaaGreatDoor.Fd
open Go.RowKit Base Txt Tgt
theorem rjoined_eq (v s:ByteArray):(v ++⟨#[32]⟩)++trim s=ba (joined v.data.toList s.data.toList):=ba_ext (by simp only [joined,ByteArray.data_append,Array.toList_append,List.append_assoc];rfl)
section code
set_option maxHeartbeats 4000000
set_option maxRecDepth 100000
attribute [local go_sem] Al
theorem rgoes_any (s:ByteArray) (p:Nat) (hp:p<4294967296) (w:World):Calls EG 219 #[.string s,.int .u32 (p:Nat)] w fun e w'=>e=.returned (.bool (goes p s.data.toList))∧w'=w:=by
 have HH:=Bo (fun w=>Dq p hp 13 w);unfold goes;generalize Do p 13=b at *;rcases CO s.size with h0 | h0
 ·obtain rfl:s=E0:=ba_ext (List.length_eq_zero_iff.1 (by rw [len];exact h0));cases b;all_goals
   go_enter Tryz.func219,Tryz.ntmps219
   go_wp2_with (go_at_call 67;with_reducible refine Cm (HH.out _) ?_);go_ret;exact ⟨by rfl,rfl⟩
 ·have t0:=first_no s h0
  have HB:=Bo (fun w=>Oct.rblank_any (s[0].toNat:Int) w);rw [blank_is] at HB;have e1:(!s.data.toList.isEmpty&&F4 (s.data.toList.headD 0))=F4 s[0]:=by exact XXpKR
  rw [e1];clear e1;cases b;all_goals
   go_enter Tryz.func219,Tryz.ntmps219
   go_wp2_with (first
    |(go_at_call 67;with_reducible refine Cm (HH.out _) ?_)
    |(go_at_call 114;with_reducible refine Cm (HB.out _) ?_))
   go_ret;exact ⟨by rfl,rfl⟩
theorem rjoin_any (n v s:ByteArray) (w:World) (hs:s.size≤1000000000) (hv:v.size≤1000000000):Calls EG 220 #[fv n v,.string s] w fun e w'=>e=.returned (fv n (ba (joined v.data.toList s.data.toList)))∧Below w.heap.size w w':=by
 have HT:=Bo (fun w=>rtrim_any s w (by unfold maxLen;omega));have hT:(trim s).size≤s.size:=trim_size _ _;rw [←rjoined_eq];generalize trim s=T at *;have v1:¬9223372036854775807<v.size+1:=by omega
 have v2:¬9223372036854775807<v.size+1+T.size:=by omega
 go_enter Tryz.func220,Tryz.ntmps220;go_wp2_with fail
 go_region_with (go_at_call 113;with_reducible refine Cm (HT.out _) ?_);all_goals
  go_wp2;exact bodyPost_ret (v:=fv n ((v ++⟨#[32]⟩)++T)) (by simp [results,Tryz.results220,go_sem]) rfl ⟨rfl,Aj (((Am _ _).alloc (CQ _) _).alloc (by simp) _) 1⟩
end code
end Go.Proofs.YtldhlecknfomjaaGreatDoor.Fd
namespace Go.Proofs.YtldhlecknfomjaaGreatDoor.Fd
open Go.RowKit Base Txt Tgt
section code
set_option maxHeartbeats 4000000
set_option maxRecDepth 100000
attribute [local go_sem] Al
end code
end Go.Proofs.YtldhlecknfomjaaGreatDoor.Fd
namespace Go.Proofs.YtldhlecknfomjaaGreatDoor.Fd
open Go.RowKit Base Txt Tgt
theorem colon_cases (l:List UInt8):((58:UInt8)∉l∧(cutAt 58 l).2.2=false)∨∃j,∃h:j<l.length,l[j]=58∧(58:UInt8)∉l.take j∧(cutAt 58 l).1=l.take j∧(cutAt 58 l).2.1=l.drop (j+1)∧(cutAt 58 l).2.2=true:=by
 rcases cut_cases 58 l with h | ⟨a,r,rfl,h⟩
 ·exact .inl ⟨h,by rw [cutAt_none 58 l h]⟩
 ·refine .inr ⟨a.length,by simp,by simp,by simpa using h,?_,?_,?_⟩
  ·rw [cutAt_app 58 a r h];simp
  ·rw [cutAt_app 58 a r h];simp
  ·rw [cutAt_app 58 a r h]
def nameAt (t:Nat) (w:World):Nat:=match w.cell? ⟨t,0,none⟩ with
 | some (.string b)=>b.size
 | _=>0
theorem nameAt_of {t:Nat} {w:World} {b:ByteArray} (h:w.cell? ⟨t,0,none⟩=some (.string b)):nameAt t w=b.size:=by unfold nameAt;rw [h]
theorem Two.set0 {w0 w:World} {n v N V:ByteArray} {t:Nat} (h:Two w0 n v t N V w) (N':ByteArray):Two w0 n v t N' V (w.setCell ⟨t,0,none⟩ (.string N')):=by
 have h1:=h.k.f.other t 0 (.string N') h.ne
 have hb:=h.k.b.setCell (p:=⟨t,0,none⟩) h.ge (.string N');obtain ⟨c0,c1,z0,z1⟩:=h.f;exact ⟨⟨h1,by simpa using h.k.g,hb⟩,⟨by go_simp,by go_simp,by go_simp,by go_simp⟩,h.ne,by simpa using h.lt,h.ge⟩
theorem not_colon (s:ByteArray) (k:Nat) (h:k<s.size) (j:Nat) (hj:k<j) (hn:(58:UInt8)∉s.data.toList.take j):((s[k].toNat:Int)==58)=false:=by
 refine beq_eq_false_iff_ne.2 fun e=>hn ?_;have hl:k<s.data.toList.length:=by rw [len];exact h
 have e1:s.data.toList[k]=58:=F6.1 (by show s[k].toNat=58;omega);rw [←e1];rw [List.mem_take_iff_getElem];exact ⟨k,by omega,rfl⟩
theorem last_of (n0:List UInt8) (m:Nat) (h:m<n0.length):∃Nn:ByteArray,ba (n0.take (m+1))=Nn∧Nn.size=m+1∧(∃h2:m<Nn.size,Nn[m]=n0[m])∧Nn.extract 0 m=ba (n0.take m):=by
 have hl:(n0.take (m+1)).length=m+1:=by rw [Ct];omega
 refine ⟨_,rfl,by rw [Txt.ba_size];exact hl,⟨by rw [Txt.ba_size];omega,?_⟩,?_⟩
 ·show (n0.take (m+1))[m]'(by omega)=n0[m];rw [List.getElem_take]
 ·exact ba_ext (by
   rw [Bl];show ((n0.take (m+1)).drop 0).take (m-0)=n0.take m;rw [List.drop_zero,List.take_take]
   congr 1;omega)
section code
set_option maxHeartbeats 4000000
set_option maxRecDepth 100000
attribute [local go_sem] Al
theorem rparse_none (s:ByteArray) (p:Nat) (hp:p<4294967296) (w:World) (hs:s.size≤1000000000) (hno:(58:UInt8)∉s.data.toList) :
 Calls EG 74 #[.string s,.int .u32 (p:Nat)] w fun e w'=>e=.returned (rv (out (Do p 11)))∧Below w.heap.size w w':=by
 have HH:=Bo (fun w=>Dq p hp 11 w);have HNO:=Bo hno;clear hno;obtain ⟨b,hb⟩:∃b,Do p 11=b:=⟨_,rfl⟩;rw [hb] at HH ⊢;clear hb
 have hW:=Bo (show Below w.heap.size w (w.alloc (.cells #[.string E0,.string E0] 48)) from (Am _ _).alloc (CQ _) _);go_enter Tryz.func74,Tryz.ntmps74;go_wp2
 go_loop [7,8] (fun c i=>∃k:Nat,k≤s.size∧c=.int .i64 (-1)∧i=.int .i64 k) (fun _ i=>s.size-(intOf i).toNat)
 case atStart=>exact ⟨0,CX _,rfl,rfl⟩
 case round=>
  obtain ⟨k,hk,rfl,rfl⟩:=hrel;rcases CV k s.size with hlt | hge
  ·have t1:=not_colon s k hlt (k+1) (by omega) (fun h=>HNO.out (List.mem_of_mem_take h));go_wp2;go_round
   case rel=>exact ⟨k+1,by omega,rfl,by go_num⟩
   case measure=>simp [intOf];omega
  ·cases b
   ·go_wp2_with (go_at_call 67;with_reducible refine Cm (HH.out _) ?_);exact bodyPost_ret (v:=.tuple #[fv E0 E0,.bool false,.int .i64 400]) (by simp [results,Tryz.results74,go_sem]) rfl ⟨rfl,hW.out⟩
   ·go_wp2_with (go_at_call 67;with_reducible refine Cm (HH.out _) ?_);exact bodyPost_ret (v:=.tuple #[fv E0 E0,.bool false,.int .i64 0]) (by simp [results,Tryz.results74,go_sem]) rfl ⟨rfl,hW.out⟩
theorem XXS1m {P:Prop} (h:P:=by exact bodyPost_ret (v:=.tuple #[fv E0 E0,.bool false,.int .i64 400]) (by simp [results,Tryz.results74,go_sem,r0,r1]) rfl ⟨by first | rfl |(rw [hRv];rfl),hbW⟩):P:=h
theorem XXDOY {P:Prop} (h:P:=by
 go_wp2_with (go_at_call 67;with_reducible refine Cm (H9.out _) ?_);go_meet
 case rel=>exact HZ):P:=h
theorem rparse_some (s:ByteArray) (p:Nat) (hp:p<4294967296) (w:World) (hs:s.size≤1000000000) (j:Nat) (hj:j<s.size) (hc:s[j]=58) (hno:(58:UInt8)∉s.data.toList.take j) :
 Calls EG 74 #[.string s,.int .u32 (p:Nat)] w fun e w'=>e=.returned (rv (read (clOf p) (nameL (clOf p) (s.data.toList.take j)) (trimL F4 (s.data.toList.drop (j+1)))))∧Below w.heap.size w w':=by
 have H9:=Bo (fun w=>Dq p hp 9 w)
 have H10:=Bo (fun w=>Dq p hp 10 w)
 have H12:=Bo (fun w=>Dq p hp 12 w)
 have H14:=Bo (fun w=>Dq p hp 14 w)
 have e1:s.extract 0 j=ba (s.data.toList.take j):=ba_ext (by rw [Bl];simp [ba])
 have e2:s.extract (j+1) s.size=ba (s.data.toList.drop (j+1)):=ba_ext (by rw [Bl,CE (by rw [Ck,len];omega)];rfl)
 have HT:=Bo (fun w=>rtrim_any (s.extract (j+1) s.size) w (by unfold maxLen;rw [ByteArray.size_extract];omega));have hT:trim (s.extract (j+1) s.size)=ba (trimL F4 (s.data.toList.drop (j+1))):=by rw [e2];rfl
 rw [hT] at HT
 have hvl:(trimL F4 (s.data.toList.drop (j+1))).length≤s.size:=CT (trimL_length _ _) (by rw [Ck,len];omega);have hnl:(s.data.toList.take j).length=j:=by rw [Ct,len];omega
 have E1:=Bo e1;have t0:((s[j].toNat:Int)==58)=true:=by rw [hc];rfl
 have HNC:=Bo (fun k (h:k<s.size) (hk:k<j)=>not_colon s k h j hk hno);clear e1 e2 hT hno hc;generalize s.data.toList.take j=n0 at *;generalize trimL F4 (s.data.toList.drop (j+1))=v1 at *
 have hW:=Bo (show Below w.heap.size w (w.alloc (.cells #[.string E0,.string E0] 48)) from (Am _ _).alloc (CQ _) _);obtain ⟨R,hR⟩:∃R,rv (read (clOf p) (nameL (clOf p) n0) v1)=R:=⟨_,rfl⟩;rw [hR];have HR0:=Bo hR;clear hR;go_enter Tryz.func74,Tryz.ntmps74;go_upto_block 0 with fail
 go_cut [7,8] from 10 (fun c i wx=>c=.int .i64 (j:Nat)∧wx=w.alloc (.cells #[.string E0,.string E0] 48))
 case first=>
  go_wp2_with fail
  go_loop [7,8] (fun c i=>(∃k:Nat,k≤j∧c=.int .i64 (-1)∧i=.int .i64 k)∨(c=.int .i64 (j:Nat)∧i=.int .i64 ((j+1:Nat):Int))) (fun _ i=>s.size-(intOf i).toNat)
  case atStart=>exact .inl ⟨0,CX _,rfl,rfl⟩
  case round=>
   rcases hrel with ⟨k,hk,rfl,rfl⟩ | ⟨rfl,rfl⟩
   ·have hlt:k<s.size:=by omega
    rcases CV k j with hkj | hkj
    ·have t1:=HNC.out k hlt hkj;clear t0;go_wp2;go_round
     case rel=>exact .inl ⟨k+1,by omega,rfl,by go_num⟩
     case measure=>simp [intOf];omega
    ·obtain rfl:k=j:=by omega
     go_wp2;go_round
     case rel=>exact .inr ⟨rfl,by go_num⟩
     case measure=>simp [intOf];omega
   ·have q0:¬(j:Int)<0:=by omega
    go_wp2;all_goals
     go_meet
     case rel=>exact ⟨rfl,rfl⟩
 case rest=>
  obtain ⟨rfl,hw0⟩:=hcut;rw [hw0];clear hw0;have q0:¬(j:Int)<0:=by omega
  have q1:(0:Int)≤(j:Int):=by omega
  have q2:(j:Int)≤(s.size:Int):=by omega
  have q3:IntKind.i64.wrap ((j:Int)+1)=((j+1:Nat):Int):=by rw [wrap_in _ (by omega) (by omega)];omega
  have q4:((j+1:Nat):Int)≤(s.size:Int):=by omega
  have q5:(0:Int)≤((j+1:Nat):Int):=by omega
  go_upto_region 11 with fail
  go_cut [9] from 31 (fun f wx=>f=.pointer (some ⟨w.heap.size+1,0,none⟩)∧wx=((w.alloc (.cells #[.string E0,.string E0] 48)).alloc (.cells #[.string (s.extract 0 j),.string (ba v1)] 48)).drew)
  case first=>
   go_region_with (go_at_call 113;with_reducible refine Cm (HT.out _) ?_);all_goals
    go_wp2_with fail;go_meet
    case rel=>exact ⟨rfl,rfl⟩
  case rest=>
   obtain ⟨rfl,hw0⟩:=hcut;have hts:(w.alloc (.cells #[.string E0,.string E0] 48)).heap.size=w.heap.size+1:=by simp
   have HX:=(Two.new (Keep.new w 48 E0 E0) 48 (s.extract 0 j) (ba v1)).drew 1;rw [hts,E1.out] at HX;rw [E1.out] at hw0
   replace HX:=Bo (show Two w E0 E0 (w.heap.size+1) (ba n0) (ba v1) wc by rw [hw0];exact HX)
   clear hw0 hts hW HT E1 HNC t0 q0 q1 q2 q3 q4 q5;have htz:w.heap.size+1=w.heap.size+1:=rfl;generalize w.heap.size+1=t at *;clear htz;have hnf:∀x,nameL (clOf p) x=if Do p 9=true then trimEnd x else x:=fun _=>rfl
   obtain ⟨sp,hsp⟩:∃sp,Do p 9=sp:=⟨_,rfl⟩;rw [hsp] at H9 hnf;clear hsp;have HNF:=Bo hnf;clear hnf;have hn1l:=nameL_le (clOf p) n0;rw [hnl] at hn1l;go_upto_block 2 with fail
   go_cut [] from 40 (fun wx=>Hid (Two w E0 E0 t (ba (nameL (clOf p) n0)) (ba v1) wx))
   case first=>
    go_wp2_with fail
    go_loopw [] (fun wr=>∃m:Nat,m≤j∧Hid (Two w E0 E0 t (ba (n0.take m)) (ba v1) wr)∧Hid (nameL (clOf p) (n0.take m)=nameL (clOf p) n0)) (fun wr=>nameAt t wr)
    case atStart=>exact ⟨j,CQ _,Bo (by rw [CE (by omega)];exact HX.out),Bo (by rw [CE (by omega)])⟩
    case round=>
     obtain ⟨m,hm,HY,HR⟩:=hrel;obtain ⟨⟨⟨c0,c1,z0,z1⟩,hg,hbk⟩,⟨d0,d1,y0,y1⟩,hne,hlt,hge⟩:=HY.out;have hna:=nameAt_of d0;clear c0 c1 z0 z1 hg hbk hlt hge;cases sp with
     | false=>
       have HZ:=Bo (show Two w E0 E0 t (ba (nameL (clOf p) n0)) (ba v1) wr by rw [←HR.out,HNF.out,if_neg (by decide)];exact HY.out)
       exact XXDOY
     | true=>
       rcases m with _ | m
       ·have HZ:=Bo (show Two w E0 E0 t (ba (nameL (clOf p) n0)) (ba v1) wr by
         rw [←HR.out,HNF.out,if_pos rfl];exact HY.out)
        rw [show ba (n0.take 0)=E0 from rfl] at d0;exact XXDOY
       ·have hml:m<n0.length:=by omega
        have htk:=CF hml;obtain ⟨Nn,hNn,hsz,⟨z2,hat⟩,hex⟩:=last_of n0 m hml;rw [hNn] at d0 hna
        have hno:=first_no Nn (by omega);have HB:Hid (∀w,Calls EG 114 #[.int .u8 (Nn[m].toNat:Int)] w fun e w'=>e=.returned (.bool (F4 n0[m]))∧w'=w):=Bo fun w=>by
         have:=Oct.rblank_any (Nn[m].toNat:Int) w;rw [blank_is] at this
         rwa [show F4 Nn[m]=F4 n0[m] from congrArg _ hat] at this
        have z1:IntKind.i64.wrap ((Nn.size:Int)-1)=(m:Int):=by rw [wrap_in _ (by omega) (by omega)];omega
        have z3:(m:Int)<(Nn.size:Int):=by omega
        have z4:(m:Int)≤(Nn.size:Int):=by omega
        have z5:(0:Int)≤(m:Int):=by omega
        cases hb:F4 n0[m] with
        | false=>
          rw [hb] at HB
          have HZ:=Bo (show Two w E0 E0 t (ba (nameL (clOf p) n0)) (ba v1) wr by rw [←HR.out,HNF.out,if_pos rfl,htk,trimEnd_stop _ _ hb,←htk];exact HY.out)
          clear hb htk HY HR hex hat hNn
          go_wp2_with (first
           |(go_at_call 67;with_reducible refine Cm (H9.out _) ?_)
           |(go_at_call 114;with_reducible refine Cm (HB.out _) ?_))
          go_meet
          case rel=>exact HZ
        | true=>
          rw [hb] at HB
          have HY2:=Bo (HY.out.set0 (Nn.extract 0 m))
          have HR2:=Bo (show nameL (clOf p) (n0.take m)=nameL (clOf p) n0 by rw [←HR.out,HNF.out,HNF.out,if_pos rfl,if_pos rfl,htk,trimEnd_snoc _ _ hb])
          have HE:=Bo hex;clear hb htk HY HR hex hat hNn
          go_wp2_with (first
           |(go_at_call 67;with_reducible refine Cm (H9.out _) ?_)
           |(go_at_call 114;with_reducible refine Cm (HB.out _) ?_))
          have hd:=HY2.out.f.c0;have hs2:(Nn.extract 0 m).size=m:=by rw [ByteArray.size_extract];omega
          rw [HE.out] at HY2;go_roundw
          case rel=>exact ⟨m,by omega,by first | exact HY2 |(rw [HE.out];exact HY2),HR2⟩
          case measure=>rw [nameAt_of hd,hna];omega
   case rest=>
    clear HX;have HX:=hcut;clear hcut H9 HNF;generalize nameL (clOf p) n0=n1 at *;by_cases hn:n1= []
    ·subst hn;have hRv:R=rv (out (Do p 12)):=by rw [←HR0.out];rfl
     clear HR0;generalize Do p 12=nn at *;obtain ⟨⟨⟨c0,c1,z0,z1⟩,hg,hbk⟩,⟨d0,d1,y0,y1⟩,hne,hlt,hge⟩:=HX.out;obtain ⟨W9,hW9,⟨r0,r1,_,_⟩,hbW⟩:=Fb.put HX.out.k.f HX.out.k.b (CQ _) E0 E0;rw [show ba []=E0 from rfl] at d0;clear hg hbk hlt hge;cases nn
     ·go_wp2_with (go_at_call 67;with_reducible refine Cm (H12.out _) ?_);try rw [hW9]
      exact XXS1m
     ·go_wp2_with (go_at_call 67;with_reducible refine Cm (H12.out _) ?_);try rw [hW9]
      exact bodyPost_ret (v:=.tuple #[fv E0 E0,.bool false,.int .i64 0]) (by simp [results,Tryz.results74,go_sem,r0,r1]) rfl ⟨by first | rfl |(rw [hRv];rfl),hbW⟩
    ·have t0:=first_no (ba n1) (ba_pos hn)
     have HN:=Bo (fun w a (hk:Ints w a 1 [1])=>Oct.rall_any (ba n1) a 1 1 [1] w (by rw [Txt.ba_size];unfold maxLen;omega) hk (by decide))
     have HV:=Bo (fun w a (hk:Ints w a 1 [6])=>Oct.rall_any (ba v1) a 1 1 [6] w (by rw [Txt.ba_size];unfold maxLen;omega) hk (by decide));rw [show (ba n1).data.toList=n1 from rfl] at HN;rw [show (ba v1).data.toList=v1 from rfl] at HV;obtain ⟨G,hG⟩:∃G,(!(goodN (clOf p) n1&&goodV (clOf p) v1))=G:=⟨_,rfl⟩
     have HG:=Bo (show G= !((Do p 10||CZ [1] n1)&&(Do p 14||CZ [6] v1)) from hG.symm)
     have HRv:=Bo (show R=if G=true then rv none else rv (some (some (n1,v1))) by rw [←HR0.out,←hG];unfold read;rw [if_neg hn];cases (goodN (clOf p) n1&&goodV (clOf p) v1)<;>rfl)
     have HF:Hid (rv (some (some (n1,v1)))=.tuple #[fv (ba n1) (ba v1),.bool true,.int .i64 0]):=Bo rfl;clear hG HR0 hn hnl hvl hn1l H12;generalize ba n1=N1 at *;generalize ba v1=V1 at *;obtain ⟨⟨⟨c0,c1,z0,z1⟩,hg,hbk⟩,⟨d0,d1,y0,y1⟩,hne,hlt,hge⟩:=HX.out;clear hg hbk hlt hge c0 c1 z0 z1;go_upto_region 18 with fail
     go_cut [93] from 72 (fun v wx=>v=.bool G∧Hid (Two w E0 E0 t N1 V1 wx))
     case first=>
      clear HRv HF t0;generalize Do p 10=nb at *;generalize Do p 14=vb at *;generalize CZ [1] n1=tn at *;generalize CZ [6] v1=tv at *;have hGG:=HG.out;clear HG;cases nb<;>cases tn<;>cases vb<;>cases tv;all_goals
       obtain rfl:=hGG
       go_wp2_with (first
        |(go_at_call 67;with_reducible refine Cm (H10.out _) ?_)
        |(go_at_call 67;with_reducible refine Cm (H14.out _) ?_)
        |(go_at_call 115;(with_reducible refine (HV.out _ _ (Ints.one _ _ rfl _ _)).mono ?_);rintro e w1 ⟨rfl,m,hw⟩
          replace HX:=Bo ((HX.out.step ((Am _ _).alloc (CQ _) (.cells #[.int .i64 6] 3))).drew m)
          rw [←hw] at HX;clear hw)
        |(go_at_call 115;(with_reducible refine (HN.out _ _ (Ints.one _ _ rfl _ _)).mono ?_);rintro e w1 ⟨rfl,m,hw⟩
          replace HX:=Bo ((HX.out.step ((Am _ _).alloc (CQ _) (.cells #[.int .i64 1] 3))).drew m)
          rw [←hw] at HX;clear hw d0 d1 y0 y1;obtain ⟨d0,d1,y0,y1⟩:=HX.out.f))
       go_meet
       case rel=>exact ⟨by rfl,HX⟩
     case rest=>
      obtain ⟨rfl,HY⟩:=hcut;clear HX HG d0 d1 y0 y1 t0 HN HV H10 H14;obtain ⟨⟨⟨c0,c1,z0,z1⟩,hg,hbk⟩,⟨d0,d1,y0,y1⟩,hne,hlt,hge⟩:=HY.out;clear hg hbk hlt hge;cases G with
      | true=>
        have hRv:=HRv.out;rw [if_pos rfl] at hRv;obtain ⟨W9,hW9,⟨r0,r1,_,_⟩,hbW⟩:=Fb.put HY.out.k.f HY.out.k.b (CQ _) E0 E0;go_wp2_with fail;try rw [hW9]
        exact XXS1m
      | false=>
        have hRv:=HRv.out;rw [if_neg (by decide),HF.out] at hRv;obtain ⟨W9,hW9,⟨r0,r1,_,_⟩,hbW⟩:=Fb.put HY.out.k.f HY.out.k.b (CQ _) N1 V1;go_wp2_with fail;try rw [hW9]
        exact bodyPost_ret (v:=.tuple #[fv N1 V1,.bool true,.int .i64 0]) (by simp [results,Tryz.results74,go_sem,r0,r1]) rfl ⟨by first | rfl | rw [hRv],hbW⟩
theorem rparse_any (s:ByteArray) (p:Nat) (hp:p<4294967296) (w:World) (hs:s.size≤1000000000):Calls EG 74 #[.string s,.int .u32 (p:Nat)] w fun e w'=>e=.returned (rv (parse (clOf p) s.data.toList))∧Below w.heap.size w w':=by
 rcases colon_cases s.data.toList with ⟨h1,h2⟩ | ⟨j,hj,h1,h2,h3,h4,h5⟩
 ·have:=rparse_none s p hp w hs h1;unfold parse;rw [if_neg (by rw [h2];decide)];exact this
 ·have:=rparse_some s p hp w hs j (by rw [←len];exact hj) h1 h2;unfold parse;rw [if_pos h5,h3,h4];exact this
end code
end Go.Proofs.YtldhlecknfomjaaGreatDoor.Fd
namespace Go.Proofs.YtldhlecknfomjaaGreatDoor.Par
open Go.RowKit Base Txt Mem
section code
set_option maxHeartbeats 4000000
set_option maxRecDepth 20000
attribute [local go_sem] Al
variable {w:World} {B:Zone} {g q:Nat} {v f bd t o:Value} {p:Nat} {b:Bd} {s:S}
theorem fail_at (h:PR w B g q v f bd t o p b s) (e:Nat) (x:Int) (hx:x=(e:Int)):Calls EG 139 #[ptr g,.int .i64 x] w fun r w'=>
 r=.returned (.tuple #[])∧PR w' B g q v nil nil nil o p b (s.fail e)∧Step (blks g q v f bd t o) (blks g q v nil nil nil o) w w':=by
 subst hx;exact fail_any h e
theorem cells_last (ini:List Fld) (a:Fld):(cells (ini ++ [a]))[ini.length*2]?=some (.string a.1)∧(cells (ini ++ [a]))[ini.length*2+1]?=some (.string a.2):=by exact XXWvg
theorem cells_put (ini:List Fld) (a c:Fld):((cells (ini ++ [a])).set (ini.length*2) (.string c.1)).set (ini.length*2+1) (.string c.2)=cells (ini ++ [c]):=by exact XXysj
theorem XXWgl {P:Prop} (h:P:=by
 rw [hg] at hgo;have HGo:=Bo hgo;clear hgo hg;go_enter Tryz.func202,Tryz.ntmps202;go_upto_region 5 with fail
 generalize w.setCell ⟨g,20,none⟩ (.int .i64 ((s.lines:Int)+1))=W1 at *;clear c20 z20 a1 a2 t0;have c0:=H1.out.cs.c0
 go_wp2_with (first
  |(at_builtin;refine App.wpList_append_list _ rfl _ _ 22 rfl B 48 iF (.agg #[.string A6,.string A6]) 2 32 Tryz.underlying22 I1.out I2.out I3.out I4.out rfl (by decide) (.slice bo s.r.fs.length co) s.r.fs.length (cells s.r.fs) rfl ((H1.out.below (HB3.out.alloc HB3.out.size (.cells #[.string (ba n),.string (ba vv)] 48))).own.F.alloc (.cells #[.string (ba n),.string (ba vv)] 48)) (some ⟨w3.heap.size+1,0,none⟩) 1 1 [.string (ba n),.string (ba vv)] rfl rfl (fun _=>⟨w3.heap.size+1,0,rfl,fun j u hu=>by rw [CW];exact (Ds (w3.alloc (.cells #[.string (ba n),.string (ba vv)] 48)) (w3.heap.size+1) (by simp) 48 [.string (ba n),.string (ba vv)]).c j u hu⟩) (by intro u hu;rcases (by simpa using hu:u=.string (ba n)∨u=.string (ba vv)) with rfl | rfl<;>rfl) (by have:=HLEN.out;unfold maxLen;omega) (by have:=HLEN.out;omega) (by have:=(H1.out.below (HB3.out.alloc HB3.out.size (.cells #[.string (ba n),.string (ba vv)] 48))).own.lt;have:=H1.out.own.ge;simp at *;omega) ?_;intro v2 w5 hO5 hgr5 _ hor5;have HO5:=Bo hO5;have HG5:=Bo hgr5;have HR5:=Bo hor5;clear hO5 hgr5 hor5)
  |(go_at_call 74;with_reducible refine (HP.out _).mono ?_;rintro r w3 ⟨rfl,hb3⟩
    have HB3:=Bo hb3;clear hb3)
  |(go_at_call 219;with_reducible refine Cm (HGo.out _) ?_))
 go_ret
 have hb4:=(HB3.out.alloc HB3.out.size (.cells #[.string (ba n),.string (ba vv)] 48))
 have hb5:=hb4.alloc hb4.size (.cells #[.string (ba n),.string (ba vv)] 48);have h4:=H1.out.below hb5;have hl:(s.r.fs ++ [(ba n,ba vv)]).length=s.r.fs.length+1:=by simp
 have hk5:Keeps [(Value.slice bo s.r.fs.length co).ownBlock] ((w3.alloc (.cells #[.string (ba n),.string (ba vv)] 48)).alloc (.cells #[.string (ba n),.string (ba vv)] 48)) w5:=Keeps.grown HG5.out fun k e=>by rw [e];exact C2.2 rfl
 obtain ⟨ho5,hs5⟩:=h4.own.setF (f':=v2) (fs':=s.r.fs ++ [(ba n,ba vv)]) hk5 (by rw [hl,cells_append];exact HO5.out) (by
  rcases HR5.out with e | e
  ·exact .inl e
  ·exact .inr ⟨_,e,CQ _⟩)
 have hrow:w5.heap[g]?= _:=hk5.row h4.row (fun hm=>by
  have e:some g=(Value.slice bo s.r.fs.length co).ownBlock:=by simpa using hm
  exact h4.own.lone.ne (i:=0) (j:=3) rfl (by decide) (by rw [e];rfl))
 exact ⟨_,rfl,hrow,ho5,HS1.out.trans ((D9 hb5).trans hs5)⟩):P:=h
theorem XXM5g {P:Prop} (h:P:=by
 rw [hg] at hgo;have HGo:=Bo hgo;clear hgo hg;go_enter Tryz.func202,Tryz.ntmps202;go_upto_region 5 with fail
 generalize w.setCell ⟨g,20,none⟩ (.int .i64 ((s.lines:Int)+1))=W1 at *;clear c20 z20 a1 a2 t0;have c0:=H1.out.cs.c0
 go_wp2_with (first
  |(go_at_call 139;with_reducible refine (HFA.out _ (HB3.out.alloc HB3.out.size (.cells #[.string ⟨#[]⟩,.string ⟨#[]⟩] 48))).mono ?_;rintro r w4 ⟨rfl,hP,hS⟩)
  |(go_at_call 74;with_reducible refine (HP.out _).mono ?_;rintro r w3 ⟨rfl,hb3⟩
    have HB3:=Bo hb3;clear hb3)
  |(go_at_call 219;with_reducible refine Cm (HGo.out _) ?_))
 go_ret
 exact ⟨rfl,hP,HS1.out.trans ((D9 (HB3.out.alloc HB3.out.size (.cells #[.string ⟨#[]⟩,.string ⟨#[]⟩] 48))).trans hS)⟩):P:=h
theorem XXIEj {P:Prop} (h:P:=by
 rw [e];have t0:most<(s.lines:Int)+1:=by omega
 have HFA:=Bo (fail_at H1.out 431 431 rfl);clear e hm;go_enter Tryz.func202,Tryz.ntmps202
 go_wp2_with (go_at_call 139;with_reducible refine HFA.out.mono ?_;rintro r w2 ⟨rfl,hP,hS⟩);go_ret
 exact ⟨rfl,hP,HS1.out.trans hS⟩):P:=h
theorem fieldF_any (hp:p<4294967296) (x:ByteArray) (hx:x.size≤5000) (most:Int) (h:PR w B g q v f bd t o p b s) (hl:s.lines≤1000) (hsz:∀y∈s.r.fs,y.1.size≤1000000∧y.2.size≤1000000) (hlen:s.r.fs.length≤500) :
 Calls EG 202 #[ptr g,f,.string x,.int .i64 most] w fun r w'=>
  match fieldV p s.lines s.r.fs x.data.toList most with
  | .inl e=>r=.returned nil∧PR w' B g q v nil nil nil o p b (S.fail {s with lines:=s.lines+1} e)∧Step (blks g q v f bd t o) (blks g q v nil nil nil o) w w'
  | .inr l=>∃f',r=.returned f'∧w'.heap[g]?=some (.cells (pcells p b {s with lines:=s.lines+1} q f bd t o).toArray 78 (0,0))∧Own w' B g q v f' bd t o p s.rd l s.r.body s.r.ts s.out∧Step (blks g q v f bd t o) (blks g q v f' bd t o) w w':=by
 obtain ⟨a1,a2⟩:=Dv ((s.lines:Int)+1) ⟨by omega,by omega⟩
 have H1:=Bo (h.put 20 (.int .i64 ((s.lines:Int)+1)) {s with lines:=s.lines+1} rfl rfl rfl rfl rfl rfl)
 have HS1:=Bo (DB (w:=w) (L:=blks g q v f bd t o) g 20 (.int .i64 ((s.lines:Int)+1)) (by simp));have c20:=h.cs.c20;have z20:=h.marks 20;have HSZ:=Bo hsz;have HLEN:=Bo hlen;clear hsz hlen
 by_cases hm:most<((s.lines+1:Nat):Int)
 ·have e:fieldV p s.lines s.r.fs x.data.toList most=.inl 431:=by unfold fieldV;rw [if_pos hm]
  exact XXIEj
 ·have t0:¬most<(s.lines:Int)+1:=by omega
  obtain ⟨bo,co,eo, -⟩:=CJ h.own.F;have hgo:=fun w=>Fd.rgoes_any x p hp w
  have HP:=Bo (fun w=>Fd.rparse_any x p hp w (by omega));have HSZx:=Bo hx;have hnn:(s.r.fs.length:Int)≤500:=by have:=HLEN.out;omega
  subst eo;clear h hl hx;by_cases hj:(Fd.goes p x.data.toList && !s.r.fs.isEmpty)=true
  ·simp only [An,Aw,List.isEmpty_eq_false_iff] at hj;obtain ⟨hg,hne⟩:=hj;rw [hg] at hgo;have HGo:=Bo hgo;obtain ⟨ini,last,el⟩:∃ini last,s.r.fs=ini ++ [last]:=⟨_,_,(List.dropLast_concat_getLast hne).symm⟩;have hn1:s.r.fs.length=ini.length+1:=by rw [el];simp
   have e:fieldV p s.lines s.r.fs x.data.toList most=.inr (ini ++ [joinF last x.data.toList]):=by exact XX098
   rw [e]
   obtain ⟨gf,cf,hform,hgl,hgf⟩:=H1.out.own.F.form (by show 0<s.r.fs.length;omega);simp only [Value.slice.injEq,true_and] at hform;obtain ⟨rfl,rfl⟩:=hform
   have hq0:=(H1.out.own.F.cellAt (ini.length*2) (by show ini.length*2<s.r.fs.length*2;omega)).trans (show (cells s.r.fs)[ini.length*2]?=some (.string last.1) by rw [el];exact (cells_last ini last).1)
   have hq1:=(H1.out.own.F.cellAt (ini.length*2+1) (by show ini.length*2+1<s.r.fs.length*2;omega)).trans (show (cells s.r.fs)[ini.length*2+1]?=some (.string last.2) by rw [el];exact (cells_last ini last).2)
   have hz0:=H1.out.own.F.frozenAt (ini.length*2);have hz1:=H1.out.own.F.frozenAt (ini.length*2+1)
   have HJ:=Bo (show∀w,Calls EG 220 #[.agg #[.string last.1,.string last.2],.string x] w fun e w'=>e=.returned (.agg #[.string last.1,.string (ba (Fd.joined last.2.data.toList x.data.toList))])∧Below w.heap.size w w' from
    fun w=>Fd.rjoin_any last.1 last.2 x w (by have:=HSZx.out;omega) (by have:=(HSZ.out last (by rw [el];simp)).2;omega))
   obtain ⟨k,hk⟩:∃k,ini.length=k:=⟨_,rfl⟩;have HK:=Bo hk;rw [hk] at hn1 hq0 hq1 hz0 hz1;have t1:(0:Int)<(s.r.fs.length:Int):=by omega
   have i1:(k:Int)<(s.r.fs.length:Int):=by omega
   obtain ⟨b1,b2⟩:=Dv ((s.r.fs.length:Int)-1) ⟨by omega,by omega⟩;have b3:(s.r.fs.length:Int)-1=(k:Int):=by omega
   rw [b3] at b1 b2;have HEL:=Bo el;have HN1:=Bo hn1;have HGL:=Bo hgl;have HQ0:=Bo hq0;have HQ1:=Bo hq1;have HGF:=Bo hgf;have HZ0:=Bo hz0;have HZ1:=Bo hz1;clear hne e hk hnn el hn1 hg hgo hm hgl;go_enter Tryz.func202,Tryz.ntmps202;go_upto_region 5 with fail
   generalize w.setCell ⟨g,20,none⟩ (.int .i64 ((s.lines:Int)+1))=W1 at *;clear c20 z20 a1 a2 t0;have c0:=H1.out.cs.c0
   go_wp2_with (first
    |(go_at_call 220;with_reducible refine (HJ.out _).mono ?_;rintro r w3 ⟨rfl,hb3⟩
      have HB3:=Bo hb3;have y0:=(hb3.cell (p:=⟨gf,k*2,none⟩) HGF.out).trans HQ0.out;have y1:=(hb3.cell (p:=⟨gf,k*2+1,none⟩) HGF.out).trans HQ1.out;have x0:=(hb3.frozen (p:=⟨gf,k*2,none⟩) HGF.out).trans HZ0.out;have x1:=(hb3.frozen (p:=⟨gf,k*2+1,none⟩) HGF.out).trans HZ1.out;clear hb3)
    |(go_at_call 219;with_reducible refine Cm (HGo.out _) ?_))
   go_ret;have h3:=H1.out.below HB3.out;exact XXaNX
  ·have hgt:Fd.goes p x.data.toList=false∨Fd.goes p x.data.toList=true∧¬(0:Int)<(s.r.fs.length:Int):=by
    cases hg:Fd.goes p x.data.toList with
    | false=>exact .inl rfl
    | true=>
      refine .inr ⟨rfl,?_⟩;rw [hg] at hj;have:s.r.fs= []:=by simpa using hj
      rw [this];simp
   have hp:=fun w=>Fd.rparse_any x p hp w (by have:=HSZx.out;omega)
   have HFA:=Bo (fun w2 (hb:Below (w.setCell ⟨g,20,none⟩ (.int .i64 ((s.lines:Int)+1))).heap.size (w.setCell ⟨g,20,none⟩ (.int .i64 ((s.lines:Int)+1))) w2)=>fail_at (H1.out.below hb) 400 400 rfl);obtain ⟨iF,hi,hz0,hz1,hz2⟩:=info_parts field_info;have I1:=Bo hi;have I2:=Bo hz0;have I3:=Bo hz1;have I4:=Bo hz2;clear hi hz0 hz1 hz2 HP;rcases hpar:Fd.parse (Fd.clOf p) x.data.toList with _ | _ | ⟨n,vv⟩
   ·have e:fieldV p s.lines s.r.fs x.data.toList most=.inl 400:=by unfold fieldV;rw [if_neg hm,if_neg hj,hpar]
    rw [e];rw [hpar] at hp;simp only [Fd.rv,Fd.fv] at hp;have HP:=Bo hp;clear e hpar hp hm hj hnn;rcases hgt with hg | ⟨hg,t1⟩
    ·exact XXM5g
    ·exact XXM5g
   ·have e:fieldV p s.lines s.r.fs x.data.toList most=.inr s.r.fs:=by unfold fieldV;rw [if_neg hm,if_neg hj,hpar]
    rw [e];rw [hpar] at hp;simp only [Fd.rv,Fd.fv] at hp;have HP:=Bo hp;clear e hpar hp hm hj hnn;rcases hgt with hg | ⟨hg,t1⟩
    ·rw [hg] at hgo;have HGo:=Bo hgo;clear hgo hg;go_enter Tryz.func202,Tryz.ntmps202;go_upto_region 5 with fail
     generalize w.setCell ⟨g,20,none⟩ (.int .i64 ((s.lines:Int)+1))=W1 at *;clear c20 z20 a1 a2 t0;have c0:=H1.out.cs.c0
     go_wp2_with (first
      |(go_at_call 74;with_reducible refine (HP.out _).mono ?_;rintro r w3 ⟨rfl,hb3⟩
        have HB3:=Bo hb3;clear hb3)
      |(go_at_call 219;with_reducible refine Cm (HGo.out _) ?_))
     exact XXHRs
    ·rw [hg] at hgo;have HGo:=Bo hgo;clear hgo hg;go_enter Tryz.func202,Tryz.ntmps202;go_upto_region 5 with fail
     generalize w.setCell ⟨g,20,none⟩ (.int .i64 ((s.lines:Int)+1))=W1 at *;clear c20 z20 a1 a2 t0;have c0:=H1.out.cs.c0
     go_wp2_with (first
      |(go_at_call 74;with_reducible refine (HP.out _).mono ?_;rintro r w3 ⟨rfl,hb3⟩
        have HB3:=Bo hb3;clear hb3)
      |(go_at_call 219;with_reducible refine Cm (HGo.out _) ?_))
     exact XXHRs
   ·have e:fieldV p s.lines s.r.fs x.data.toList most=.inr (s.r.fs ++ [(ba n,ba vv)]):=by unfold fieldV;rw [if_neg hm,if_neg hj,hpar]
    rw [e];rw [hpar] at hp;simp only [Fd.rv,Fd.fv] at hp;have HP:=Bo hp;clear e hpar hp hm hj hnn;rcases hgt with hg | ⟨hg,t1⟩
    ·exact XXWgl
    ·exact XXWgl
theorem XXpvT {P:Prop} (h:P:=by
 rw [hg] at hgo;have HGo:=Bo hgo;clear hgo hg;go_enter Tryz.func202,Tryz.ntmps202;go_upto_region 5 with fail
 generalize w.setCell ⟨g,20,none⟩ (.int .i64 ((s.lines:Int)+1))=W1 at *;clear c20 z20 a1 a2 t0;have c0:=H1.out.cs.c0
 go_wp2_with (first
  |(at_builtin;refine App.wpList_append_list _ rfl _ _ 22 rfl B 48 iF (.agg #[.string A6,.string A6]) 2 32 Tryz.underlying22 I1.out I2.out I3.out I4.out rfl (by decide) (.slice bo s.r.ts.length co) s.r.ts.length (cells s.r.ts) rfl ((H1.out.below (HB3.out.alloc HB3.out.size (.cells #[.string (ba n),.string (ba vv)] 48))).own.T.alloc (.cells #[.string (ba n),.string (ba vv)] 48)) (some ⟨w3.heap.size+1,0,none⟩) 1 1 [.string (ba n),.string (ba vv)] rfl rfl (fun _=>⟨w3.heap.size+1,0,rfl,fun j u hu=>by rw [CW];exact (Ds (w3.alloc (.cells #[.string (ba n),.string (ba vv)] 48)) (w3.heap.size+1) (by simp) 48 [.string (ba n),.string (ba vv)]).c j u hu⟩) (by intro u hu;rcases (by simpa using hu:u=.string (ba n)∨u=.string (ba vv)) with rfl | rfl<;>rfl) (by have:=HLEN.out;unfold maxLen;omega) (by have:=HLEN.out;omega) (by have:=(H1.out.below (HB3.out.alloc HB3.out.size (.cells #[.string (ba n),.string (ba vv)] 48))).own.lt;have:=H1.out.own.ge;simp at *;omega) ?_;intro v2 w5 hO5 hgr5 _ hor5;have HO5:=Bo hO5;have HG5:=Bo hgr5;have HR5:=Bo hor5;clear hO5 hgr5 hor5)
  |(go_at_call 74;with_reducible refine (HP.out _).mono ?_;rintro r w3 ⟨rfl,hb3⟩
    have HB3:=Bo hb3;clear hb3)
  |(go_at_call 219;with_reducible refine Cm (HGo.out _) ?_))
 go_ret
 have hb4:=(HB3.out.alloc HB3.out.size (.cells #[.string (ba n),.string (ba vv)] 48))
 have hb5:=hb4.alloc hb4.size (.cells #[.string (ba n),.string (ba vv)] 48);have h4:=H1.out.below hb5;have hl:(s.r.ts ++ [(ba n,ba vv)]).length=s.r.ts.length+1:=by simp
 have hk5:Keeps [(Value.slice bo s.r.ts.length co).ownBlock] ((w3.alloc (.cells #[.string (ba n),.string (ba vv)] 48)).alloc (.cells #[.string (ba n),.string (ba vv)] 48)) w5:=Keeps.grown HG5.out fun k e=>by rw [e];exact C2.2 rfl
 obtain ⟨ho5,hs5⟩:=h4.own.setT (t':=v2) (ts':=s.r.ts ++ [(ba n,ba vv)]) hk5 (by rw [hl,cells_append];exact HO5.out) (by
  rcases HR5.out with e | e
  ·exact .inl e
  ·exact .inr ⟨_,e,CQ _⟩)
 have hrow:w5.heap[g]?= _:=hk5.row h4.row (fun hm=>by
  have e:some g=(Value.slice bo s.r.ts.length co).ownBlock:=by simpa using hm
  exact h4.own.lone.ne (i:=0) (j:=5) rfl (by decide) (by rw [e];rfl))
 exact ⟨_,rfl,hrow,ho5,HS1.out.trans ((D9 hb5).trans hs5)⟩):P:=h
theorem fieldT_any (hp:p<4294967296) (x:ByteArray) (hx:x.size≤5000) (most:Int) (h:PR w B g q v f bd t o p b s) (hl:s.lines≤1000) (hsz:∀y∈s.r.ts,y.1.size≤1000000∧y.2.size≤1000000) (hlen:s.r.ts.length≤500) :
 Calls EG 202 #[ptr g,t,.string x,.int .i64 most] w fun r w'=>
  match fieldV p s.lines s.r.ts x.data.toList most with
  | .inl e=>r=.returned nil∧PR w' B g q v nil nil nil o p b (S.fail {s with lines:=s.lines+1} e)∧Step (blks g q v f bd t o) (blks g q v nil nil nil o) w w'
  | .inr l=>∃t',r=.returned t'∧w'.heap[g]?=some (.cells (pcells p b {s with lines:=s.lines+1} q f bd t o).toArray 78 (0,0))∧Own w' B g q v f bd t' o p s.rd s.r.fs s.r.body l s.out∧Step (blks g q v f bd t o) (blks g q v f bd t' o) w w':=by
 obtain ⟨a1,a2⟩:=Dv ((s.lines:Int)+1) ⟨by omega,by omega⟩
 have H1:=Bo (h.put 20 (.int .i64 ((s.lines:Int)+1)) {s with lines:=s.lines+1} rfl rfl rfl rfl rfl rfl)
 have HS1:=Bo (DB (w:=w) (L:=blks g q v f bd t o) g 20 (.int .i64 ((s.lines:Int)+1)) (by simp));have c20:=h.cs.c20;have z20:=h.marks 20;have HSZ:=Bo hsz;have HLEN:=Bo hlen;clear hsz hlen
 by_cases hm:most<((s.lines+1:Nat):Int)
 ·have e:fieldV p s.lines s.r.ts x.data.toList most=.inl 431:=by unfold fieldV;rw [if_pos hm]
  exact XXIEj
 ·have t0:¬most<(s.lines:Int)+1:=by omega
  obtain ⟨bo,co,eo, -⟩:=CJ h.own.T;have hgo:=fun w=>Fd.rgoes_any x p hp w
  have HP:=Bo (fun w=>Fd.rparse_any x p hp w (by omega));have HSZx:=Bo hx;have hnn:(s.r.ts.length:Int)≤500:=by have:=HLEN.out;omega
  subst eo;clear h hl hx;by_cases hj:(Fd.goes p x.data.toList && !s.r.ts.isEmpty)=true
  ·simp only [An,Aw,List.isEmpty_eq_false_iff] at hj;obtain ⟨hg,hne⟩:=hj;rw [hg] at hgo;have HGo:=Bo hgo;obtain ⟨ini,last,el⟩:∃ini last,s.r.ts=ini ++ [last]:=⟨_,_,(List.dropLast_concat_getLast hne).symm⟩;have hn1:s.r.ts.length=ini.length+1:=by rw [el];simp
   have e:fieldV p s.lines s.r.ts x.data.toList most=.inr (ini ++ [joinF last x.data.toList]):=by exact XXTMq
   rw [e]
   obtain ⟨gf,cf,hform,hgl,hgf⟩:=H1.out.own.T.form (by show 0<s.r.ts.length;omega);simp only [Value.slice.injEq,true_and] at hform;obtain ⟨rfl,rfl⟩:=hform
   have hq0:=(H1.out.own.T.cellAt (ini.length*2) (by show ini.length*2<s.r.ts.length*2;omega)).trans (show (cells s.r.ts)[ini.length*2]?=some (.string last.1) by rw [el];exact (cells_last ini last).1)
   have hq1:=(H1.out.own.T.cellAt (ini.length*2+1) (by show ini.length*2+1<s.r.ts.length*2;omega)).trans (show (cells s.r.ts)[ini.length*2+1]?=some (.string last.2) by rw [el];exact (cells_last ini last).2)
   have hz0:=H1.out.own.T.frozenAt (ini.length*2);have hz1:=H1.out.own.T.frozenAt (ini.length*2+1)
   have HJ:=Bo (show∀w,Calls EG 220 #[.agg #[.string last.1,.string last.2],.string x] w fun e w'=>e=.returned (.agg #[.string last.1,.string (ba (Fd.joined last.2.data.toList x.data.toList))])∧Below w.heap.size w w' from
    fun w=>Fd.rjoin_any last.1 last.2 x w (by have:=HSZx.out;omega) (by have:=(HSZ.out last (by rw [el];simp)).2;omega))
   obtain ⟨k,hk⟩:∃k,ini.length=k:=⟨_,rfl⟩;have HK:=Bo hk;rw [hk] at hn1 hq0 hq1 hz0 hz1;have t1:(0:Int)<(s.r.ts.length:Int):=by omega
   have i1:(k:Int)<(s.r.ts.length:Int):=by omega
   obtain ⟨b1,b2⟩:=Dv ((s.r.ts.length:Int)-1) ⟨by omega,by omega⟩;have b3:(s.r.ts.length:Int)-1=(k:Int):=by omega
   rw [b3] at b1 b2;have HEL:=Bo el;have HN1:=Bo hn1;have HGL:=Bo hgl;have HQ0:=Bo hq0;have HQ1:=Bo hq1;have HGF:=Bo hgf;have HZ0:=Bo hz0;have HZ1:=Bo hz1;clear hne e hk hnn el hn1 hg hgo hm hgl;go_enter Tryz.func202,Tryz.ntmps202;go_upto_region 5 with fail
   generalize w.setCell ⟨g,20,none⟩ (.int .i64 ((s.lines:Int)+1))=W1 at *;clear c20 z20 a1 a2 t0;have c0:=H1.out.cs.c0
   go_wp2_with (first
    |(go_at_call 220;with_reducible refine (HJ.out _).mono ?_;rintro r w3 ⟨rfl,hb3⟩
      have HB3:=Bo hb3;have y0:=(hb3.cell (p:=⟨gf,k*2,none⟩) HGF.out).trans HQ0.out;have y1:=(hb3.cell (p:=⟨gf,k*2+1,none⟩) HGF.out).trans HQ1.out;have x0:=(hb3.frozen (p:=⟨gf,k*2,none⟩) HGF.out).trans HZ0.out;have x1:=(hb3.frozen (p:=⟨gf,k*2+1,none⟩) HGF.out).trans HZ1.out;clear hb3)
    |(go_at_call 219;with_reducible refine Cm (HGo.out _) ?_))
   go_ret;have h3:=H1.out.below HB3.out;have ho:(Value.slice (some ⟨gf,0,none⟩) s.r.ts.length co).ownBlock=some gf:=by simp [Value.ownBlock]
   have hk3:Keeps [(Value.slice (some ⟨gf,0,none⟩) s.r.ts.length co).ownBlock] w3 ((w3.setCell ⟨gf,k*2,none⟩ (.string last.1)).setCell ⟨gf,k*2+1,none⟩ (.string (ba (Fd.joined last.2.data.toList x.data.toList)))):=
    (Bf gf (k*2) _ (by rw [ho];simp)).trans (Bf gf (k*2+1) _ (by rw [ho];simp)) De
   have hl3:(ini ++ [joinF last x.data.toList]).length=s.r.ts.length:=by rw [HEL.out];simp
   have hr3:=((h3.own.T.stored (k*2) (.string last.1)).1.stored (k*2+1) (.string (ba (Fd.joined last.2.data.toList x.data.toList)))).1;exact XXKim
  ·have hgt:Fd.goes p x.data.toList=false∨Fd.goes p x.data.toList=true∧¬(0:Int)<(s.r.ts.length:Int):=by
    cases hg:Fd.goes p x.data.toList with
    | false=>exact .inl rfl
    | true=>
      refine .inr ⟨rfl,?_⟩;rw [hg] at hj;have:s.r.ts= []:=by simpa using hj
      rw [this];simp
   have hp:=fun w=>Fd.rparse_any x p hp w (by have:=HSZx.out;omega)
   have HFA:=Bo (fun w2 (hb:Below (w.setCell ⟨g,20,none⟩ (.int .i64 ((s.lines:Int)+1))).heap.size (w.setCell ⟨g,20,none⟩ (.int .i64 ((s.lines:Int)+1))) w2)=>fail_at (H1.out.below hb) 400 400 rfl);obtain ⟨iF,hi,hz0,hz1,hz2⟩:=info_parts field_info;have I1:=Bo hi;have I2:=Bo hz0;have I3:=Bo hz1;have I4:=Bo hz2;clear hi hz0 hz1 hz2 HP;rcases hpar:Fd.parse (Fd.clOf p) x.data.toList with _ | _ | ⟨n,vv⟩
   ·have e:fieldV p s.lines s.r.ts x.data.toList most=.inl 400:=by unfold fieldV;rw [if_neg hm,if_neg hj,hpar]
    rw [e];rw [hpar] at hp;simp only [Fd.rv,Fd.fv] at hp;have HP:=Bo hp;clear e hpar hp hm hj hnn;rcases hgt with hg | ⟨hg,t1⟩
    ·exact XXM5g
    ·exact XXM5g
   ·have e:fieldV p s.lines s.r.ts x.data.toList most=.inr s.r.ts:=by unfold fieldV;rw [if_neg hm,if_neg hj,hpar]
    rw [e];rw [hpar] at hp;simp only [Fd.rv,Fd.fv] at hp;have HP:=Bo hp;clear e hpar hp hm hj hnn;rcases hgt with hg | ⟨hg,t1⟩
    ·rw [hg] at hgo;have HGo:=Bo hgo;clear hgo hg;go_enter Tryz.func202,Tryz.ntmps202;go_upto_region 5 with fail
     generalize w.setCell ⟨g,20,none⟩ (.int .i64 ((s.lines:Int)+1))=W1 at *;clear c20 z20 a1 a2 t0;have c0:=H1.out.cs.c0
     go_wp2_with (first
      |(go_at_call 74;with_reducible refine (HP.out _).mono ?_;rintro r w3 ⟨rfl,hb3⟩
        have HB3:=Bo hb3;clear hb3)
      |(go_at_call 219;with_reducible refine Cm (HGo.out _) ?_))
     exact XXHRs
    ·rw [hg] at hgo;have HGo:=Bo hgo;clear hgo hg;go_enter Tryz.func202,Tryz.ntmps202;go_upto_region 5 with fail
     generalize w.setCell ⟨g,20,none⟩ (.int .i64 ((s.lines:Int)+1))=W1 at *;clear c20 z20 a1 a2 t0;have c0:=H1.out.cs.c0
     go_wp2_with (first
      |(go_at_call 74;with_reducible refine (HP.out _).mono ?_;rintro r w3 ⟨rfl,hb3⟩
        have HB3:=Bo hb3;clear hb3)
      |(go_at_call 219;with_reducible refine Cm (HGo.out _) ?_))
     exact XXHRs
   ·have e:fieldV p s.lines s.r.ts x.data.toList most=.inr (s.r.ts ++ [(ba n,ba vv)]):=by unfold fieldV;rw [if_neg hm,if_neg hj,hpar]
    rw [e];rw [hpar] at hp;simp only [Fd.rv,Fd.fv] at hp;have HP:=Bo hp;clear e hpar hp hm hj hnn;rcases hgt with hg | ⟨hg,t1⟩
    ·exact XXpvT
    ·exact XXpvT
end code
end Go.Proofs.YtldhlecknfomjaaGreatDoor.Par
namespace Go.Proofs.YtldhlecknfomjaaGreatDoor.Txt
open Go.RowKit Base Oct
theorem drop_at (l:List UInt8) (f k:Nat) (hfk:f≤k) (hk:k<l.length):l.drop f=(l.take k).drop f++l[k]::l.drop (k+1):=by conv=>lhs;rw [←List.take_append_drop k l,List.drop_append_of_le_length (by rw [Ct];omega),BJ hk]
theorem mid_snoc (l:List UInt8) (f k:Nat) (hfk:f≤k) (hk:k<l.length):(l.take (k+1)).drop f=(l.take k).drop f ++ [l[k]]:=by rw [CF hk,List.drop_append_of_le_length (by rw [Ct];omega)]
section code
set_option maxHeartbeats 1000000
set_option maxRecDepth 10000
attribute [local go_sem] Al
theorem rsplit_own (s:ByteArray) (c:UInt8) (w:World) (hs:s.size≤1000000000) :
 Calls EG 182 #[.string s,.int .u8 c.toNat] w fun e w'=>∃g n k,e=.returned (.slice (some ⟨g,0,none⟩) n k)∧w.heap.size≤g∧n=(parts c s.data.toList).length∧Strs w' (some ⟨g,0,none⟩) n ((parts c s.data.toList).map ba)∧w.heap.size<w'.heap.size∧Below w.heap.size w w':=by
 obtain ⟨i0,hi,hz0,hz1,hz2⟩:=info_parts text_info;have G1:=Bo hi;have G2:=Bo hz0;have G3:=Bo hz1;have G4:=Bo hz2;clear hi hz0 hz1 hz2;have hpl:=parts_le c s.data.toList;rw [len] at hpl;have hp1:0<(parts c s.data.toList).length:=by rw [parts_length];omega
 go_enter Tryz.func182,Tryz.ntmps182;go_wp2
 go_loopw [5,6,7] (fun v f i wr=>∃(k fr:Nat) (done:List (List UInt8)),f=.int .i64 fr∧i=.int .i64 k∧done.length≤k∧Hid (wr.ownsRow w.heap.size 9 1 v done.length ((done.map ba).map Value.string))∧Hid (Below w.heap.size w wr)∧
  ((fr≤k∧k≤s.size∧Hid (done++parts c (s.data.toList.drop fr)=parts c s.data.toList)∧Hid (c∉(s.data.toList.take k).drop fr))∨(k=s.size+1∧Hid (done=parts c s.data.toList)))) (fun _ _ i _=>s.size+1-(intOf i).toNat)
 case atStart=>exact ⟨0,0,[],rfl,rfl,CQ _,Bo ⟨rfl,.inl ⟨rfl,rfl⟩⟩,Bo (Am _ _),.inl ⟨CQ _,CX _,Bo rfl,Bo (by simp)⟩⟩
 case round=>
  obtain ⟨k,fr,done,rfl,rfl,hdl,hown,hbr,hcase⟩:=hrel;rcases hcase with ⟨hfk,hks,hdone,hno⟩ | ⟨rfl,hdone⟩
  ·have t0:(k:Int)≤(s.size:Int):=by omega
   have t1:(fr:Int)≤(k:Int):=by omega
   have t9:wrap64 ((k:Int)+1)=(k:Int)+1:=by unfold wrap64;omega
   rcases CV k s.size with hlt | hge
   ·have hll:k<s.data.toList.length:=by rw [len];exact hlt
    have t2:(k:Int)<(s.size:Int):=by omega
    have t3:((k:Int)==(s.size:Int))=false:=beq_eq_false_iff_ne.2 (by omega);by_cases hc:s.data.toList[k]=c
    ·have t4:((s[k].toNat:Int)==(c.toNat:Int))=true:=by rw [show s[k]=c from hc];exact beq_self_eq_true _
     have hcut:=parts_cut c ((s.data.toList.take k).drop fr) (s.data.toList.drop (k+1)) hno.out;rw [←hc,←drop_at _ _ _ hfk hll,hc] at hcut
     have hx:(s.extract fr k)=ba ((s.data.toList.take k).drop fr):=ba_ext (by rw [Bl];show _=(s.data.toList.take k).drop fr;rw [List.drop_take]);have HX:=Bo hx
     have HD:=Bo (show (done ++ [(s.data.toList.take k).drop fr])++parts c (s.data.toList.drop (k+1))=parts c s.data.toList by rw [←hdone.out,hcut,List.append_assoc];rfl);clear hcut hx hc hno;generalize (s.data.toList.take k).drop fr=p at *
     go_wp2_with (at_builtin;refine wpList_append_own _ rfl _ _ 46 rfl w.heap.size 9 i0 (.string A6) 1 16 Tryz.underlying46 G1.out G2.out G3.out G4.out rfl (by decide) _ _ _ rfl (hown.out.alloc _) ⟨wr.heap.size,0,none⟩ 1 1 [.string (s.extract fr k)] rfl rfl ?c1 ?c2 ?c3 ?c4 ?c5 ?_)
     case c1=>exact news_one wr _ _
     case c2=>intro u hu;obtain rfl:u=.string (s.extract fr k):=by simpa using hu
              rfl
     case c3=>unfold maxLen;omega
     case c4=>omega
     case c5=>have:=hbr.out.size;simp;omega
     intro v' w' hown' hgr _
     have H1:Hid (w'.ownsRow w.heap.size 9 1 v' (done ++ [p]).length (((done ++ [p]).map ba).map Value.string)):=Bo (by rw [HX.out] at hown';simpa using hown')
     have H2:=Bo ((hbr.out.alloc hbr.out.size _).grown hgr (by have:=hbr.out.size;simp;omega) (own_base hown.out));have hdl2:(done ++ [p]).length≤k+1:=by rw [Ci];simp;omega
     clear hown' hgr;go_wp2;go_roundw
     case rel=>exact ⟨k+1,k+1,done ++ [p],by go_num,by go_num,hdl2,H1,H2,.inl ⟨CQ _,by omega,HD,Bo (by rw [List.drop_eq_nil_of_le (by rw [Ct];omega)];simp)⟩⟩
     case measure=>simp [intOf];omega
    ·have t4:((s[k].toNat:Int)==(c.toNat:Int))=false:=beq_eq_false_iff_ne.2 (fun e=>hc (show s[k]=c from F6.1 (by omega)))
     have HN:=Bo (show c∉(s.data.toList.take (k+1)).drop fr by
      rw [mid_snoc _ _ _ hfk hll,List.mem_append]
      rintro (h | h)
      ·exact hno.out h
      ·exact hc (C2.1 h).symm)
     clear hno;go_wp2;go_roundw
     case rel=>exact ⟨k+1,fr,done,rfl,by go_num,by omega,hown,hbr,.inl ⟨by omega,by omega,hdone,HN⟩⟩
     case measure=>simp [intOf];omega
   ·obtain rfl:k=s.size:=by omega
    ·have t3:((s.size:Int)==(s.size:Int))=true:=beq_self_eq_true _;have hno':=hno.out;rw [take_all s _ (CQ _)] at hno';have hcut:=parts_none c (s.data.toList.drop fr) hno'
     have hx:(s.extract fr s.size)=ba (s.data.toList.drop fr):=ba_ext (by rw [Bl,CE (by rw [Ck,len];exact CQ _)];rfl);have HX:=Bo hx
     have HD:=Bo (show done ++ [s.data.toList.drop fr]=parts c s.data.toList by rw [←hdone.out,hcut]);clear hcut hx hno hno';generalize s.data.toList.drop fr=p at *;generalize hk:s.size=k at *
     go_wp2_with (at_builtin;refine wpList_append_own _ rfl _ _ 46 rfl w.heap.size 9 i0 (.string A6) 1 16 Tryz.underlying46 G1.out G2.out G3.out G4.out rfl (by decide) _ _ _ rfl (hown.out.alloc _) ⟨wr.heap.size,0,none⟩ 1 1 [.string (s.extract fr k)] rfl rfl ?c1 ?c2 ?c3 ?c4 ?c5 ?_)
     case c1=>exact news_one wr _ _
     case c2=>intro u hu;obtain rfl:u=.string (s.extract fr k):=by simpa using hu
              rfl
     case c3=>unfold maxLen;omega
     case c4=>omega
     case c5=>have:=hbr.out.size;simp;omega
     intro v' w' hown' hgr _
     have H1:Hid (w'.ownsRow w.heap.size 9 1 v' (done ++ [p]).length (((done ++ [p]).map ba).map Value.string)):=Bo (by rw [HX.out] at hown';simpa using hown')
     have H2:=Bo ((hbr.out.alloc hbr.out.size _).grown hgr (by have:=hbr.out.size;simp;omega) (own_base hown.out));have hdl2:(done ++ [p]).length≤k+1:=by rw [Ci];simp;omega
     clear hown' hgr;go_wp2;go_roundw
     case rel=>exact ⟨k+1,k+1,done ++ [p],by go_num,by go_num,hdl2,H1,H2,.inr ⟨rfl,HD⟩⟩
     case measure=>(simp [intOf]<;>omega)
  ·have t0:¬((s.size:Int)+1≤(s.size:Int)):=by omega
   have hdn:=hdone.out;subst hdn;obtain ⟨g,cap,rfl,hg0,hg1⟩:=hown.out.form hp1
   have HS:=Bo (show Strs wr (some ⟨g,0,none⟩) (parts c s.data.toList).length ((parts c s.data.toList).map ba) by
    obtain ⟨A,cc,e,hS⟩:=Strs.of_own (ss:=(parts c s.data.toList).map ba) hown.out;obtain ⟨rfl,rfl⟩:some ⟨g,0,none⟩=A∧cap=cc:=by simpa using e
    exact hS)
   clear hown hdone;go_wp2;go_ret;exact ⟨g,_,⟨cap,rfl⟩,hg0,rfl,HS.out,by omega,hbr.out⟩
theorem rsplit44 (s:ByteArray) (w:World) (hs:s.size≤1000000000) :
 Calls EG 182 #[.string s,.int .u8 44] w fun e w'=>∃g n k,e=.returned (.slice (some ⟨g,0,none⟩) n k)∧w.heap.size≤g∧n=(parts 44 s.data.toList).length∧Strs w' (some ⟨g,0,none⟩) n ((parts 44 s.data.toList).map ba)∧w.heap.size<w'.heap.size∧Below w.heap.size w w':=
 rsplit_own s 44 w hs
theorem rlist_own (a:Option Addr) (n cap:Nat) (vs:List ByteArray) (w:World) (hv:Strs w a n vs) (hr:room vs≤1000000000) :
 Calls EG 142 #[.slice a n cap] w fun e w'=>∃v,e=.returned v∧w'.ownsRow w.heap.size 9 1 v (list vs).length ((list vs).map Value.string)∧Below w.heap.size w w':=by
 have hle:=list_le vs;have hnr:=len_room vs;rw [hv.1] at hnr;have HV:=Bo hv;have HL:=Bo hv.1;clear hv;obtain ⟨i0,hi,hz0,hz1,hz2⟩:=info_parts text_info;have G1:=Bo hi;have G2:=Bo hz0;have G3:=Bo hz1;have G4:=Bo hz2;clear hi hz0 hz1 hz2;go_enter Tryz.func142,Tryz.ntmps142;go_wp2
 go_loopw [3,4] (fun v i wr=>∃k:Nat,k≤n∧i=.int .i64 k∧Hid (wr.ownsRow w.heap.size 9 1 v (list (vs.take k)).length ((list (vs.take k)).map Value.string))∧Hid (Below w.heap.size w wr)) (fun _ i _=>n-(intOf i).toNat)
 case atStart=>exact ⟨0,CX _,rfl,Bo ⟨rfl,.inl ⟨rfl,rfl⟩⟩,Bo (Am _ _)⟩
 case round=>
  obtain ⟨k,hk,rfl,hown,hbr⟩:=hrel;rcases CV k n with hlt | hge
  ·obtain ⟨bl,off,rfl,_,hc⟩:=(HV.out.below hbr.out).2 (by omega);have hck:=hc k hlt
   have hsn:=Bo (list_snoc vs k (by rw [HL.out];exact hlt))
   have hle1:=list_take_le vs (k+1);rw [hsn.out,Ci] at hle1;have hsz:(vs[k]?.getD A6).size≤1000000000:=by
    have:k<vs.length:=by rw [HL.out];exact hlt
    rw [BT this];have h2:(vs[k].size+1)≤room vs:=by exact room_mem vs _ (Cb _)
    show vs[k].size≤_;omega
   clear hc;generalize vs[k]?.getD A6=x at *
   have HP:=Bo (rsplit44 x wr hsz)
   have hpm:=Bo (partsOf_map x);have hpl:(partsOf x).length=((parts 44 x.data.toList).map ba).length:=by rw [hpm.out,Co]
   have hp0:((parts 44 x.data.toList).map ba).length=(parts 44 x.data.toList).length:=Co _;rw [←hp0] at HP
   have hps:=Bo (show∀y∈(parts 44 x.data.toList).map ba,y.size<4294967281 from fun y hy=>by obtain ⟨l,hl,rfl⟩:=List.mem_map.1 hy;have:=parts_size 44 _ l hl;rw [len] at this;rw [ba_size];omega)
   generalize (parts 44 x.data.toList).map ba=P at *;clear hp0;generalize list (vs.take k)=L at *
   go_wp2_with (go_at_call 182;with_reducible refine HP.out.mono ?_;rintro e w1 ⟨B,n1,c1,rfl,hgB,hn1,hS,hg1,hb1⟩)
   have hB1:=Bo (Ak hbr.out hb1)
   have hown1:=Bo (own_below hown.out hb1);have hS':=Bo hS
   have hne:=Bo (show∀g,u3.ownBlock=some g→g≠B from fun g hg=>by have:=(hown.out.lt g hg).2;omega);clear hgB;clear hS hb1 HP hown hbr
   go_loopw [3,6] (fun v i wq=>∃j:Nat,j≤n1∧i=.int .i64 j∧w1.heap.size≤wq.heap.size∧Hid (wq.ownsRow w.heap.size 9 1 v (L.length+j) ((L++(P.map trim).take j).map Value.string))∧Hid (Below w.heap.size w wq)∧Hid (∀g,v.ownBlock=some g→g≠B)∧Hid (Strs wq (some ⟨B,0,none⟩) n1 P)) (fun _ i _=>n1-(intOf i).toNat)
   case atStart=>exact ⟨0,CX _,rfl,CQ _,by rw [List.take_zero,B9];exact hown1,hB1,hne,hS'⟩
   case round=>
    obtain ⟨j,hj,rfl,hsz,hown,hbq,hne,hSq⟩:=hrel;rcases CV j n1 with hlj | hgj
    ·obtain ⟨bs,os,e,hbs,hc⟩:=hSq.out.2 (by omega);obtain ⟨rfl,rfl⟩:B=bs∧0=os:=by simpa using e
     have hcj:=hc j hlj;rw [CW] at hcj
     have HS1:=Bo (map_snoc trim A6 P j (by omega));clear hc e;have hys:(P[j]?.getD A6).size≤maxLen:=by exact XX3G6
     generalize P[j]?.getD A6=y at *
     have HT:=Bo (fun w=>rtrim_any y w hys);clear hys
     go_wp2_with (first
      |(go_at_call 113;with_reducible refine Cm (HT.out _) ?_)
      |(at_builtin;(refine wpList_append_own_at _ rfl _ _ 46 rfl w.heap.size 9 i0 (.string A6) 1 16 Tryz.underlying46 G1.out G2.out G3.out G4.out rfl (by decide) _ _ _ rfl (hown.out.alloc _) ⟨wr.heap.size,0,none⟩ 1 1 [.string (trim y)] rfl rfl ?c1 ?c2 ?c3 ?c4 ?c5 ?_)))
     case c1=>exact news_one wr _ _
     case c2=>intro u hu;obtain rfl:u=.string (trim y):=by simpa using hu
              rfl
     case c3=>unfold maxLen;omega
     case c4=>omega
     case c5=>have:=hbq.out.size;simp;omega
     exact XXOmL
    ·exact XX1YI
  ·obtain rfl:k=n:=by omega
   have hown1:=hown.out;rw [CE (by rw [HL.out];omega)] at hown1;have H1:=Bo hown1;clear hown1 hown;go_wp2;go_ret;exact ⟨_,rfl,H1.out,hbr.out⟩
theorem rlist_any (a:Option Addr) (n cap:Nat) (vs:List ByteArray) (w:World) (hv:Strs w a n vs) (hr:room vs≤1000000000) :
 Calls EG 142 #[.slice a n cap] w fun e w'=>∃b m c,e=.returned (.slice b m c)∧m=(list vs).length∧Strs w' b m (list vs)∧Below w.heap.size w w':=
 (rlist_own a n cap vs w hv hr).mono (by
   rintro e w' ⟨v,rfl,ho,hb⟩;obtain ⟨A,c,rfl,hA⟩:=Strs.of_own ho;exact ⟨A,_,c,rfl,rfl,hA,hb⟩)
theorem rfind_any (a:Option Addr) (n cap:Nat) (fs:List Fld) (name:ByteArray) (w:World) (hv:Flds w a n fs) (hn:n≤1000000000) (hs:∀f∈fs,f.1.size≤1000000000) (ht:name.size≤1000000000) :
 Calls EG 32 #[.slice a n cap,.string name] w fun e w'=>∃b m c,e=.returned (.slice b m c)∧m=(find fs name).length∧Strs w' b m (find fs name)∧Below w.heap.size w w':=by
 have HV:=Bo hv;have HL:=Bo hv.1;have HS:=Bo hs;clear hv hs;obtain ⟨i0,hi,hz0,hz1,hz2⟩:=info_parts text_info;have G1:=Bo hi;have G2:=Bo hz0;have G3:=Bo hz1;have G4:=Bo hz2;clear hi hz0 hz1 hz2;go_enter Tryz.func32,Tryz.ntmps32;go_wp2
 go_loopw [5,6] (fun v i wr=>∃k:Nat,k≤n∧i=.int .i64 k∧Hid (wr.ownsRow w.heap.size 9 1 v (find (fs.take k) name).length ((find (fs.take k) name).map Value.string))∧Hid (Below w.heap.size w wr)) (fun _ i _=>n-(intOf i).toNat)
 case atStart=>exact ⟨0,CX _,rfl,Bo ⟨rfl,.inl ⟨rfl,rfl⟩⟩,Bo (Am _ _)⟩
 case round=>
  obtain ⟨k,hk,rfl,hown,hbr⟩:=hrel;rcases CV k n with hlt | hge
  ·obtain ⟨bl,off,rfl,hbl,hc⟩:=(HV.out.below hbr.out).2 (by omega);obtain ⟨hc0,hc1⟩:=hc k hlt
   have hsn:=Bo (find_snoc fs name k (by rw [HL.out];exact hlt));have hfl:=find_le (fs.take k) name;rw [Ct] at hfl;have hsz:(fs[k]?.getD dflt).1.size≤1000000000:=by
    have:k<fs.length:=by rw [HL.out];exact hlt
    rw [BT this]
    exact HS.out _ (Cb _)
   clear hc;generalize fs[k]?.getD dflt=f at *;generalize hL:find (fs.take k) name=L at *;obtain ⟨f0,f1⟩:=f;simp only at hc0 hc1 hsz hsn
   have HC:=Bo (fun w=>rsame_any f0 name w (by omega) (by omega));clear hsz hL;cases hq:same f0 name with
   | false=>
     rw [hq] at HC hsn;rw [if_neg (by decide),B9] at hsn;clear hq
     go_wp2_with (go_at_call 88;with_reducible refine (HC.out _).mono ?_;rintro e w2 ⟨rfl,hb2⟩);have hb0:Below wr.heap.size wr w2:=hb2;exact XXhHQ
   | true=>
     rw [hq] at HC hsn;rw [if_pos rfl] at hsn;clear hq
     go_wp2_with (first
      |(go_at_call 88;with_reducible refine (HC.out _).mono ?_;rintro e w2 ⟨rfl,hb2⟩
        have hf1:=(hb2.cell (p:=⟨bl,off+k*2+1,none⟩) hbl).trans hc1
        have hb0:=Bo (show Below wr.heap.size wr w2 from hb2)
        have hown0:=Bo (own_below hown.out hb0.out))
      |(at_builtin;refine wpList_append_own _ rfl _ _ 46 rfl w.heap.size 9 i0 (.string A6) 1 16 Tryz.underlying46 G1.out G2.out G3.out G4.out rfl (by decide) _ _ _ rfl (hown0.out.alloc _) ⟨w2.heap.size,0,none⟩ 1 1 [.string f1] rfl rfl ?c1 ?c2 ?c3 ?c4 ?c5 ?_))
     case c1=>exact news_one w2 _ _
     case c2=>intro u hu;obtain rfl:u=.string f1:=by simpa using hu
              rfl
     case c3=>unfold maxLen;omega
     case c4=>omega
     case c5=>have:=hbr.out.size;have:=hb0.out.size;simp;omega
     exact XXLIl
  ·exact XXR68
end code
end Go.Proofs.YtldhlecknfomjaaGreatDoor.Txt
namespace Go.Proofs.YtldhlecknfomjaaGreatDoor.Tgt
open Go.RowKit Base Oct Num Txt
theorem host_parts (l:List UInt8):hostB l=match parts 58 l with
 | [n]=>nameOk n
 | [n,p]=>nameOk n&&portOk p
 | _=>false:=by
 unfold hostB;rcases cut_cases 58 l with h | ⟨a,r,rfl,h⟩
 ·rw [cutAt_none 58 l h,parts_none 58 l h];simp
 ·rw [cutAt_app 58 a r h,parts_cut 58 a r h];simp only [Bool.not_true,Bool.false_or];rcases cut_cases 58 r with h2 | ⟨b,r2,rfl,h2⟩
  ·rw [parts_none 58 r h2]
  ·rw [parts_cut 58 b r2 h2];have:portOk (b++58::r2)=false:=by
    cases hp:portOk (b++58::r2) with
    | false=>rfl
    | true=>exact absurd (by simp) (port_no_colon hp)
   rw [this,Bool.and_false];cases hq:parts 58 r2 with
   | nil=>
     have:=parts_length 58 r2;rw [hq] at this;simp at this
   | cons x xs=>rfl
theorem parts_form (c:UInt8) (l:List UInt8):(∃n,parts c l= [n])∨(∃n p,parts c l= [n,p])∨∃n p x xs,parts c l=n::p::x::xs:=by
 cases h:parts c l with
 | nil=>
   have:=parts_length c l;rw [h] at this;simp at this
 | cons n t=>
   match t with
   | []=>exact .inl ⟨n,rfl⟩
   | [p]=>exact .inr (.inl ⟨n,p,rfl⟩)
   | p::x::xs=>exact .inr (.inr ⟨n,p,x,xs,rfl⟩)
theorem parts_bound (c:UInt8):∀(l:List UInt8),∀p∈parts c l,p.length≤l.length
 | [],p,h=>by simp [parts] at h;subst h;simp
 | b::l,p,h=>by
   rw [parts] at h;have ih:=parts_bound c l;split at h
   ·rcases Cx.1 h with rfl | h
    ·simp
    ·have:=ih p h;simp;omega
   ·cases hq:parts c l with
    | nil=>rw [hq] at h;simp at h;subst h;simp
    | cons y ys=>
      rw [hq] at h ih;rcases Cx.1 h with rfl | h
      ·have:=ih y (by simp);simp;omega
      ·have:=ih p (by simp [h]);simp;omega
theorem name_ways (x:UInt8):(plainB nameMarks x=true∧(Oct.letter (x.toNat:Int)=true∨(Oct.letter (x.toNat:Int)=false∧Oct.digit (x.toNat:Int)=true)∨(Oct.letter (x.toNat:Int)=false∧Oct.digit (x.toNat:Int)=false∧((x.toNat:Int)=45∨(x.toNat:Int)=46∨(x.toNat:Int)=95∨(x.toNat:Int)=126))))∨
 (plainB nameMarks x=false∧Oct.letter (x.toNat:Int)=false∧Oct.digit (x.toNat:Int)=false∧¬(x.toNat:Int)=45∧¬(x.toNat:Int)=46∧¬(x.toNat:Int)=95∧¬(x.toNat:Int)=126):=by
 have hc:nameMarks.contains x=true↔((x.toNat:Int)=45∨(x.toNat:Int)=46∨(x.toNat:Int)=95∨(x.toNat:Int)=126):=by have e:∀k:UInt8,x=k↔(x.toNat:Int)=(k.toNat:Int):=fun k=>⟨fun h=>by rw [h],fun h=>F6.1 (by omega)⟩;simp only [nameMarks,List.contains_cons,List.contains_nil,Bool.or_false,Ax,beq_iff_eq];rw [e 45,e 46,e 95,e 126];rfl
 unfold plainB;cases hl:Oct.letter (x.toNat:Int) with
 | true=>exact .inl ⟨rfl,.inl rfl⟩
 | false=>
   cases hd:Oct.digit (x.toNat:Int) with
   | true=>exact .inl ⟨rfl,.inr (.inl ⟨rfl,rfl⟩)⟩
   | false=>
     cases hm:nameMarks.contains x with
     | true=>exact .inl ⟨rfl,.inr (.inr ⟨rfl,rfl,hc.1 hm⟩)⟩
     | false=>
       refine .inr ⟨rfl,rfl,rfl,?_,?_,?_,?_⟩<;> (intro h;have:=hc.2 (by simp [h]);rw [hm] at this;cases this)
section code
set_option maxHeartbeats 1000000
attribute [local go_sem] Al
theorem XXEu4 {P:Prop} (h:P:=by
 subst hRf;generalize ba n=N at *;go_enter Tryz.func235,Tryz.ntmps235
 go_wp2_with (go_at_call 182;with_reducible refine (HS.out _).mono ?_;rintro e w1 ⟨bl,off,m,cp,rfl,hbl,hb,hc0,hm⟩
              have t1:¬(2:Int)<(m:Int):=by rcases hm with ⟨rfl,_⟩ | ⟨rfl,_⟩<;>omega
              have t2:(0:Int)<(m:Int):=by rcases hm with ⟨rfl,_⟩ | ⟨rfl,_⟩<;>omega
              clear hm)
 go_ret
 exact ⟨rfl,hb⟩):P:=h
theorem XXc3w {P:Prop} (h:P:=by
 go_wp2_with (first
  |(go_at_call 207;with_reducible refine Cm (HL.out _) ?_)
  |(go_at_call 189;with_reducible refine Cm (HD.out _) ?_))
 go_round
 case rel=>exact ⟨k+1,by omega,by go_num,HNX⟩
 case measure=>simp [intOf];omega):P:=h
theorem rhost_core (s:ByteArray) (n:List UInt8) (T:Bool) (w:World) (hn:n.length≤1000000000)
 (hS:∀w,Calls EG 182 #[.string s,.int .u8 58] w fun e w'=>∃bl off m cp,e=.returned (.slice (some ⟨bl,off,none⟩) m cp)∧bl<w'.heap.size∧Below w.heap.size w w'∧w'.cell? ⟨bl,off,none⟩=some (.string (ba n))∧
   ((m=1∧T=true)∨(m=2∧∃p,w'.cell? ⟨bl,off+1,none⟩=some (.string (ba p))∧p.length≤1000000000∧portOk p=T))) :
 Calls EG 235 #[.string s] w fun e w'=>e=.returned (.bool (nameOk n&&T))∧Below w.heap.size w w':=by
 have HS:=Bo hS;clear hS;obtain ⟨R,hR⟩:∃R,(nameOk n&&T)=R:=⟨_,rfl⟩;rw [hR];have hsz:=ba_size n;have HR:=Bo hR;clear hR;rcases CO n.length with h0 | hpos
 ·have hRf:false=R:=by
   rw [←HR.out];obtain rfl:n= []:=List.length_eq_zero_iff.1 h0;rfl
  have hz:((ba n).size:Int)<1:=by omega
  clear HR hsz h0;exact XXEu4
 have hz:¬((ba n).size:Int)<1:=by omega
 rcases CV 255 n.length with hbig | hsm
 ·have hRf:false=R:=by
   rw [←HR.out];unfold nameOk;rw [decide_eq_false (by omega:¬n.length≤255),As,Bool.and_false];rfl
  have hz2:(255:Int)<((ba n).size:Int):=by omega
  clear HR hsz hpos hbig;exact XXEu4
 have hz2:¬(255:Int)<((ba n).size:Int):=by omega
 have HR2:Hid ((n.all (plainB nameMarks)&&T)=R):=Bo (by
  rw [←HR.out];unfold nameOk;have:n.isEmpty=false:=by cases n with
   | nil=>simp at hpos
   | cons _ _=>rfl
  rw [decide_eq_true hsm,this];rfl)
 have e0:∀k (h:k<(ba n).size) (hk2:k<n.length),(ba n)[k]'h=n[k]:=fun _ _ _=>rfl;have E0:=Bo e0;have HZ:=Bo hsz;have hHM:∀k (h:k<n.length),n[k]∈n:=fun k h=>Cb h;have HM:=Bo hHM;have hTS:∀k (h:k<n.length),n.take (k+1)=n.take k ++ [n[k]]:=fun k h=>CF h;have HTS:=Bo hTS;clear HR e0 hsz hpos hHM hTS;generalize ba n=N at *;go_enter Tryz.func235,Tryz.ntmps235
 go_wp2_with (go_at_call 182;with_reducible refine (HS.out _).mono ?_;rintro e w1 ⟨bl,off,m,cp,rfl,hbl,hb,hc0,hm⟩
              have t1:¬(2:Int)<(m:Int):=by rcases hm with ⟨rfl,_⟩ | ⟨rfl,_⟩<;>omega
              have t2:(0:Int)<(m:Int):=by rcases hm with ⟨rfl,_⟩ | ⟨rfl,_⟩<;>omega
              have HMM:=Bo hm;have HBB:=Bo hb;clear hm hb)
 go_loop [4] (fun i=>∃k:Nat,k≤N.size∧i=.int .i64 k∧Hid ((n.take k).all (plainB nameMarks)=true)) (fun i=>N.size-(intOf i).toNat)
 case atStart=>exact ⟨0,CX _,rfl,Bo rfl⟩
 case round=>
  obtain ⟨k,hk,rfl,hall⟩:=hrel;rcases CV k N.size with hlt | hge
  ·have i1:(k:Int)<(N.size:Int):=by omega
   have hkn:k<n.length:=by have:=HZ.out;omega
   obtain ⟨x,hxx⟩:∃x,n[k]=x:=⟨_,rfl⟩;have hx:∀h,N[k]'h=x:=fun h=>(E0.out k h hkn).trans hxx
   have hts:=Bo (HTS.out k hkn)
   have hmm:=Bo (HM.out k hkn);rw [hxx] at hts hmm;clear hxx hkn
   have HL:=Bo (fun w=>Oct.rletter_any (x.toNat:Int) w)
   have HD:=Bo (fun w=>Oct.rdigit_any (x.toNat:Int) w);rcases name_ways x with ⟨hq,hway⟩ | ⟨hq,hl,hd,n45,n46,n95,n126⟩
   ·have HNX:Hid ((n.take (k+1)).all (plainB nameMarks)=true):=Bo (by rw [hts.out,List.all_append,hall.out];simp [hq]);clear hq hmm hts hall;rcases hway with hl | ⟨hl,hd⟩ | ⟨hl,hd,hc⟩
    ·rw [hl] at HL;clear hl;exact XXc3w
    ·rw [hl] at HL;rw [hd] at HD;clear hl hd;exact XXc3w
    ·rw [hl] at HL;rw [hd] at HD;clear hl hd;rcases hc with hc | hc | hc | hc;all_goals
      have d1:=fun (z:Int)=>congrArg (fun y:Int=>y != z) hc;have d2:=d1 45;have d3:=d1 46;have d4:=d1 95;have d5:=d1 126;simp only [show ((45:Int) != 45)=false from rfl,show ((46:Int) != 45)=true from rfl,show ((46:Int) != 46)=false from rfl,show ((95:Int) != 45)=true from rfl,show ((95:Int) != 46)=true from rfl,show ((95:Int) != 95)=false from rfl,show ((126:Int) != 45)=true from rfl,show ((126:Int) != 46)=true from rfl,show ((126:Int) != 95)=true from rfl,show ((126:Int) != 126)=false from rfl] at d2 d3 d4 d5;clear d1 hc
      go_wp2_with (first
       |(go_at_call 207;with_reducible refine Cm (HL.out _) ?_)
       |(go_at_call 189;with_reducible refine Cm (HD.out _) ?_))
      go_round
      case rel=>exact ⟨k+1,by omega,by go_num,HNX⟩
      case measure=>simp [intOf];omega
   ·have hRf:false=R:=by
     rw [←HR2.out,List.all_eq_false.2 ⟨x,hmm.out,by rw [hq];decide⟩];rfl
    have HRF:=Bo hRf;rw [hl] at HL;rw [hd] at HD;have d45:((x.toNat:Int) != 45)=true:=bne_iff_ne.2 n45;have d46:((x.toNat:Int) != 46)=true:=bne_iff_ne.2 n46;have d95:((x.toNat:Int) != 95)=true:=bne_iff_ne.2 n95;have d126:((x.toNat:Int) != 126)=true:=bne_iff_ne.2 n126;clear hl hd n45 n46 n95 n126 hq hRf hmm hts hall
    go_wp2_with (first
     |(go_at_call 207;with_reducible refine Cm (HL.out _) ?_)
     |(go_at_call 189;with_reducible refine Cm (HD.out _) ?_))
    go_ret;exact ⟨by rw [←HRF.out];rfl,HBB.out⟩
  ·obtain rfl:k=N.size:=by omega
   have hTR:T=R:=by rw [←HR2.out];have:=hall.out;rw [CE (by rw [HZ.out];exact CQ _)] at this;rw [this,Az]
   have HTR:=Bo hTR;clear hTR hall;rcases HMM.out with ⟨rfl,hT⟩ | ⟨rfl,p,hc1,hpl,hT⟩
   ·have HT:=Bo (hT.symm.trans HTR.out);clear hT HMM;go_wp2;go_ret;exact ⟨by rw [←HT.out];rfl,HBB.out⟩
   ·have hps:=ba_size p
    have HDc:=Bo (fun w=>Num.rdec_any 65535 (by decide) (ba p) w (by unfold maxLen;omega));rw [ba_list] at HDc;have hP:portOk p=(decide ((ba p).size≤5)&&decide ((readOf 10 65535 p).2=0)):=by unfold portOk;rw [hps]
    rw [hP] at hT;generalize (readOf 10 65535 p).2=en at *;generalize (readOf 10 65535 p).1=vn at *;generalize ba p=PP at *;clear hP hps HMM;by_cases he:en=0
    ·subst he;rw [decide_eq_true rfl,Bool.and_true] at hT
     have HT:=Bo (hT.trans HTR.out);clear hT
     go_wp2_with (go_at_call 257;with_reducible refine Cm (HDc.out _) ?_);go_ret;exact ⟨by rw [←HT.out];first | rfl |(simp;omega),HBB.out⟩
    ·rw [decide_eq_false he,Bool.and_false] at hT
     have HT:=Bo (hT.trans HTR.out);have he2:(en==0)=false:=beq_eq_false_iff_ne.2 he;clear hT he
     go_wp2_with (go_at_call 257;with_reducible refine Cm (HDc.out _) ?_);go_ret;exact ⟨by rw [←HT.out];rfl,HBB.out⟩
theorem rhost_any (s:ByteArray) (w:World) (hs:s.size≤1000000000):Calls EG 235 #[.string s] w fun e w'=>e=.returned (.bool (hostB s.data.toList))∧Below w.heap.size w w':=by
 have HS:=Bo (fun w=>Txt.rsplit_any s 58 w hs);have hbd:=parts_bound 58 s.data.toList;rw [len] at hbd;rw [host_parts];rcases parts_form 58 s.data.toList with ⟨n,hp⟩ | ⟨n,p,hp⟩ | ⟨n,p,x,xs,hp⟩
 ·rw [hp] at HS hbd;rw [hp]
  have hnl:=hbd n (by simp);have key:=rhost_core s n true w (by omega) fun w=>(HS.out w).mono fun e w' h=>by
   obtain ⟨b,m,cp,rfl,hm,hst,hb⟩:=h;obtain rfl:m=1:=hm
   obtain ⟨bl,off,rfl,hbl,hc⟩:=hst.2 (by omega);exact ⟨bl,off,1,cp,rfl,hbl,hb,hc 0 (by omega),.inl ⟨rfl,rfl⟩⟩
  rw [Bool.and_true] at key;exact key
 ·rw [hp] at HS hbd;rw [hp]
  have hnl:=hbd n (by simp)
  have hpl:=hbd p (by simp);exact rhost_core s n (portOk p) w (by omega) fun w=>(HS.out w).mono fun e w' h=>by
   obtain ⟨b,m,cp,rfl,hm,hst,hb⟩:=h;obtain rfl:m=2:=hm
   obtain ⟨bl,off,rfl,hbl,hc⟩:=hst.2 (by omega);exact ⟨bl,off,2,cp,rfl,hbl,hb,hc 0 (by omega),.inr ⟨rfl,p,hc 1 (by omega),by omega,rfl⟩⟩
 ·rw [hp] at HS;rw [hp];clear hp hbd;have HS2:Hid (∀w,Calls EG 182 #[.string s,.int .u8 58] w fun e w'=>∃b m cp,e=.returned (.slice b m cp)∧m=(n::p::x::xs).length∧Strs w' b m ((n::p::x::xs).map ba)∧Below w.heap.size w w'):=HS;clear HS;go_enter Tryz.func235,Tryz.ntmps235
  go_wp2_with (go_at_call 182;with_reducible refine (HS2.out _).mono ?_;rintro e w1 ⟨b,m,cp,rfl,hm,hst,hb⟩
               have t1:(2:Int)<(m:Int):=by rw [hm];simp;omega)
  go_ret;exact ⟨rfl,hb⟩
end code
end Go.Proofs.YtldhlecknfomjaaGreatDoor.Tgt
namespace Go.Proofs.YtldhlecknfomjaaGreatDoor.Tgt
open Go.RowKit Base Oct Num Txt
theorem written_drop (ms l:List UInt8) (k:Nat) (h:k<l.length):written ms (l.drop k)=(okAt ms l[k] (l.drop (k+1))&&written ms (l.drop (k+1))):=by rw [BJ h,written]
theorem okAt_short (ms:List UInt8) (c:UInt8) (r:List UInt8) (h:r.length<2):okAt ms c r=plainB ms c:=by
 match r,h with
 | [],_=>rfl
 | [a],_=>rfl
theorem okAt_pct (ms l:List UInt8) (k:Nat) (h:k+2<l.length):okAt ms 37 (l.drop (k+1))=(hexB l[k+1]&&hexB l[k+2]):=by rw [BJ (by omega:k+1<l.length),BJ (by omega:k+1+1<l.length),okAt,if_pos rfl]
theorem contains_snoc (l:List UInt8) (k:Nat) (h:k<l.length) (c:UInt8):(l.take (k+1)).contains c=((l.take k).contains c|| (c==l[k])):=by
 rw [CF h];generalize l[k]=x;generalize l.take k=m
 induction m with
 | nil=>rw [List.nil_append,List.contains_cons,List.contains_nil,Bool.or_false,Bool.false_or]
 | cons y m ih=>rw [List.cons_append,List.contains_cons,List.contains_cons,ih,Bool.or_assoc]
section code
set_option maxHeartbeats 1000000
attribute [local go_sem] Al
theorem XX6Xt {P:Prop} (h:P:=by
 obtain ⟨q,hq,rfl,rfl⟩:=hrel;rcases CV q ms.size with hlq | hgq
 ·have j1:(q:Int)<(ms.size:Int):=by omega
  have hsn:=Bo (contains_snoc ms.data.toList q (by rw [len];exact hlq) c);obtain ⟨y,hy⟩:∃y,ms.data.toList[q]'(by rw [len];exact hlq)=y:=⟨_,rfl⟩;have hym:∀h,ms[q]'h=y:=fun _=>hy;rw [hy] at hsn;clear hy;obtain ⟨z,hz⟩:∃z,(ms.data.toList.take (q+1)).contains c=z:=⟨_,rfl⟩;rw [hz] at hsn;have HZQ:=Bo hz;clear hz;generalize (ms.data.toList.take q).contains c=v at *;cases hv:(b0||v) with
  | true=>
    have HZ:Hid ((b0||z)=true):=Bo (by rw [hsn.out,←Bool.or_assoc,hv,Bool.true_or]);clear hv hsn;go_wp2;go_round
    case rel=>exact ⟨q+1,by omega,by go_num,by rw [HZQ.out,HZ.out]⟩
    case measure=>simp [intOf];omega
  | false=>
    have HZ:Hid ((b0||z)=(c==y)):=Bo (by rw [hsn.out,←Bool.or_assoc,hv,Bool.false_or]);clear hv hsn;cases hcy:(c==y) with
    | true=>
      rw [hcy] at HZ;have t1:((c.toNat:Int)==(y.toNat:Int))=true:=by rw [beq_iff_eq.1 hcy];exact beq_self_eq_true _
      clear hcy;go_wp2;go_round
      case rel=>exact ⟨q+1,by omega,by go_num,by rw [HZQ.out,HZ.out]⟩
      case measure=>simp [intOf];omega
    | false=>
      rw [hcy] at HZ
      have t1:((c.toNat:Int)==(y.toNat:Int))=false:=beq_eq_false_iff_ne.2 fun e=>(beq_eq_false_iff_ne.1 hcy) (F6.1 (by omega));clear hcy;go_wp2;go_round
      case rel=>exact ⟨q+1,by omega,by go_num,by rw [HZQ.out,HZ.out]⟩
      case measure=>simp [intOf];omega
 ·obtain rfl:q=ms.size:=by omega
  have j1:¬(ms.size:Int)<(ms.size:Int):=by omega
  rw [CE (by rw [len];exact CQ _),←HPL.out];by_cases hlong:c=37∧k+2<s.size
  ·obtain ⟨hc37,hlg⟩:=hlong;have t37:((c.toNat:Int)==37)=true:=by rw [hc37];rfl
   have m1:IntKind.i64.wrap ((s.size:Int)-(k:Int))=((s.size-k:Nat):Int):=by rw [wrap_in _ (by omega) (by omega)];omega
   have m2:(2:Int)<((s.size-k:Nat):Int):=by omega
   have m3:IntKind.i64.wrap ((k:Int)+1)=((k+1:Nat):Int):=by rw [wrap_in _ (by omega) (by omega)];omega
   have m4:IntKind.i64.wrap ((k:Int)+2)=((k+2:Nat):Int):=by rw [wrap_in _ (by omega) (by omega)];omega
   have i2:((k+1:Nat):Int)<(s.size:Int):=by omega
   have i3:((k+2:Nat):Int)<(s.size:Int):=by omega
   have hw2:=HW.out;rw [hc37,okAt_pct _ _ k (by rw [len];exact hlg)] at hw2;obtain ⟨a,ha⟩:∃a,s.data.toList[k+1]'(by rw [len];omega)=a:=⟨_,rfl⟩;obtain ⟨b,hb⟩:∃b,s.data.toList[k+2]'(by rw [len];omega)=b:=⟨_,rfl⟩;rw [ha,hb] at hw2;have ya:∀h,s[k+1]'h=a:=fun _=>ha;have yb:∀h,s[k+2]'h=b:=fun _=>hb
   have HXA:=Bo (fun w=>Oct.rhex_any (a.toNat:Int) w (by omega) (Base.byte_lt a))
   have HXB:=Bo (fun w=>Oct.rhex_any (b.toNat:Int) w (by omega) (Base.byte_lt b));have ea:Oct.isHex (a.toNat:Int)=hexB a:=rfl;have eb:Oct.isHex (b.toNat:Int)=hexB b:=rfl;rw [ea] at HXA;rw [eb] at HXB;have HW2:=Bo hw2;clear hw2 ha hb ea eb hc37 hlg HW HPL hc;generalize Oct.hexVal (a.toNat:Int)=va at *;generalize Oct.hexVal (b.toNat:Int)=vb at *;generalize hexB a=ha at *;generalize hexB b=hb at *;rcases (show (ha=true∧hb=true)∨(ha&&hb)=false by cases ha<;>cases hb<;>simp) with ⟨rfl,rfl⟩ | hf
   ·have HW3:Hid (written ms.data.toList (s.data.toList.drop (k+1))=A):=HW2;clear HW2
    go_wp2_with (first
     |(go_at_call 186;with_reducible refine Cm (HXA.out _) ?_)
     |(go_at_call 186;with_reducible refine Cm (HXB.out _) ?_))
    go_round
    case rel=>exact ⟨k+1,by omega,by go_num,HW3⟩
    case measure=>simp [intOf];omega
   ·rw [hf] at HW2;have HF:Hid (false=A):=HW2;clear HW2;cases ha;all_goals cases hb
    all_goals try (exact absurd hf (by decide))
    all_goals
     clear hf
     go_wp2_with (first
      |(go_at_call 186;with_reducible refine Cm (HXA.out _) ?_)
      |(go_at_call 186;with_reducible refine Cm (HXB.out _) ?_))
     go_ret;exact ⟨by rw [←HF.out];rfl,rfl⟩
  ·have hok:okAt ms.data.toList c (s.data.toList.drop (k+1))=plainB ms.data.toList c:=by
    by_cases hc37:c=37
    ·exact okAt_short _ _ _ (by have:¬k+2<s.size:=fun h=>hlong ⟨hc37,h⟩;rw [Ck,len];omega)
    ·exact okAt_plain _ _ _ hc37
   have HW2:=Bo (by have:=HW.out;rwa [hok] at this);clear hok HW HPL;generalize plainB ms.data.toList c=pb at *;by_cases hc37:c=37
   ·have t37:((c.toNat:Int)==37)=true:=by rw [hc37];rfl
    have m1:IntKind.i64.wrap ((s.size:Int)-(k:Int))=((s.size-k:Nat):Int):=by rw [wrap_in _ (by omega) (by omega)];omega
    have m2:¬(2:Int)<((s.size-k:Nat):Int):=by have:¬k+2<s.size:=fun h=>hlong ⟨hc37,h⟩;omega
    clear hlong hc37 hc;cases pb with
    | true=>
      go_wp2;go_round
      case rel=>exact ⟨k+1,by omega,by go_num,Bo (by have:=HW2.out;rwa [Az] at this)⟩
      case measure=>simp [intOf];omega
    | false=>
      have hf:=HW2.out;rw [As] at hf;have HF:=Bo hf;clear hf HW2;go_wp2;go_ret;exact ⟨by rw [←HF.out];rfl,rfl⟩
   ·have t37:((c.toNat:Int)==37)=false:=beq_eq_false_iff_ne.2 fun e=>hc37 (F6.1 (by show c.toNat=37;omega));clear hlong hc37 hc;cases pb with
    | true=>
      go_wp2;go_round
      case rel=>exact ⟨k+1,by omega,by go_num,Bo (by have:=HW2.out;rwa [Az] at this)⟩
      case measure=>simp [intOf];omega
    | false=>
      have hf:=HW2.out;rw [As] at hf;have HF:=Bo hf;clear hf HW2;go_wp2;go_ret
      exact ⟨by rw [←HF.out];rfl,rfl⟩):P:=h
set_option maxRecDepth 10000 in
theorem rof_any (s ms:ByteArray) (w:World) (hs:s.size≤1000000000) (hms:ms.size≤1000000000) :
 Calls EG 282 #[.string s,.string ms] w fun e w'=>e=.returned (.bool (written ms.data.toList s.data.toList))∧w'=w:=by
 obtain ⟨A,hA⟩:∃A,written ms.data.toList s.data.toList=A:=⟨_,rfl⟩;rw [hA];have HA:=Bo hA;clear hA;go_enter Tryz.func282,Tryz.ntmps282;go_wp2
 go_loop [5] (fun i=>∃k:Nat,k≤s.size∧i=.int .i64 k∧Hid (written ms.data.toList (s.data.toList.drop k)=A)) (fun i=>s.size-(intOf i).toNat)
 case atStart=>exact ⟨0,CX _,rfl,HA⟩
 case round=>
  obtain ⟨k,hk,rfl,hw⟩:=hrel;rcases CV k s.size with hlt | hge
  ·have i1:(k:Int)<(s.size:Int):=by omega
   have hkl:k<s.data.toList.length:=by rw [len];exact hlt
   obtain ⟨c,hc⟩:∃c,s.data.toList[k]=c:=⟨_,rfl⟩;have hx:∀h,s[k]'h=c:=fun _=>hc;have hwd:=hw.out;rw [written_drop _ _ k hkl,hc] at hwd;have HW:=Bo hwd;clear hwd hw
   have HL:=Bo (fun w=>Oct.rletter_any (c.toNat:Int) w)
   have HD:=Bo (fun w=>Oct.rdigit_any (c.toNat:Int) w);have hpl:plainB ms.data.toList c=((Oct.letter (c.toNat:Int)||Oct.digit (c.toNat:Int))||ms.data.toList.contains c):=rfl;have HPL:=Bo hpl;clear hpl;have hbase:∃b0,(Oct.letter (c.toNat:Int)||Oct.digit (c.toNat:Int))=b0:=⟨_,rfl⟩;obtain ⟨b0,hb0⟩:=hbase;rw [hb0] at HPL;have hbb:(Oct.letter (c.toNat:Int)=true∧b0=true)∨(Oct.letter (c.toNat:Int)=false∧Oct.digit (c.toNat:Int)=b0):=by
    cases hl:Oct.letter (c.toNat:Int) with
    | true=>rw [hl,Bool.true_or] at hb0;exact .inl ⟨rfl,hb0.symm⟩
    | false=>rw [hl,Bool.false_or] at hb0;exact .inr ⟨rfl,hb0⟩
   clear hb0;rcases hbb with ⟨hl,hb0⟩ | ⟨hl,hd⟩
   rotate_left 1
   ·rw [hd] at HD;rw [hl] at HL;clear hl hd
    go_wp2_with (first
     |(go_at_call 207;with_reducible refine Cm (HL.out _) ?_)
     |(go_at_call 189;with_reducible refine Cm (HD.out _) ?_))
    clear HL HD
    go_loop [7,8] (fun ok j=>∃q:Nat,q≤ms.size∧j=.int .i64 q∧ok=.bool (b0|| (ms.data.toList.take q).contains c)) (fun _ j=>ms.size-(intOf j).toNat)
    case atStart=>exact ⟨0,CX _,rfl,by simp⟩
    case round=>exact XX6Xt
   ·rw [hl] at HL;clear hl
    go_wp2_with (go_at_call 207;with_reducible refine Cm (HL.out _) ?_);clear HL HD
    go_loop [7,8] (fun ok j=>∃q:Nat,q≤ms.size∧j=.int .i64 q∧ok=.bool (b0|| (ms.data.toList.take q).contains c)) (fun _ j=>ms.size-(intOf j).toNat)
    case atStart=>exact ⟨0,CX _,rfl,by simp [hb0]⟩
    case round=>exact XX6Xt
  ·obtain rfl:k=s.size:=by omega
   have hw1:=hw.out;rw [List.drop_eq_nil_of_le (by rw [len];exact CQ _)] at hw1
   have HT:=Bo (show true=A from hw1);clear hw hw1;go_wp2;go_ret;exact ⟨by rw [←HT.out];rfl,rfl⟩
end code
end Go.Proofs.YtldhlecknfomjaaGreatDoor.Tgt
namespace Go.Proofs.YtldhlecknfomjaaGreatDoor.Tgt
open Go.RowKit Base Oct Num Txt
section code
set_option maxHeartbeats 1000000
attribute [local go_sem] Al
theorem XXgan {P:Prop} (h:P:=by
 go_wp2_with (go_at_call 282;with_reducible refine Cm (HW.out _) ?_);go_ret
 exact ⟨rfl,rfl⟩):P:=h
theorem rquery_any (s:ByteArray) (w:World) (hs:s.size≤1000000000):Calls EG 259 #[.string s] w fun e w'=>e=.returned (.bool (queryB s.data.toList))∧w'=w:=by have HW:=Bo (fun w=>rof_any s ⟨#[45,46,95,126,33,36,38,39,40,41,42,43,44,59,61,58,64,47,63]⟩ w hs (by decide));rw [show (ByteArray.mk #[45,46,95,126,33,36,38,39,40,41,42,43,44,59,61,58,64,47,63]).data.toList=queryMarks from rfl] at HW;unfold queryB;generalize written queryMarks s.data.toList=q at *;go_enter Tryz.func259,Tryz.ntmps259;exact XXgan
theorem rpath_any (s:ByteArray) (w:World) (hs:s.size≤1000000000):Calls EG 258 #[.string s] w fun e w'=>e=.returned (.bool (pathB s.data.toList))∧w'=w:=by
 have HW:=Bo (fun w=>rof_any s ⟨#[45,46,95,126,33,36,38,39,40,41,42,43,44,59,61,58,64,47]⟩ w hs (by decide));rw [show (ByteArray.mk #[45,46,95,126,33,36,38,39,40,41,42,43,44,59,61,58,64,47]).data.toList=pathMarks from rfl] at HW;unfold pathB;cases hl:s.data.toList with
 | nil=>
   have he:=empty_of hl;clear hl HW;go_enter Tryz.func258,Tryz.ntmps258;go_wp2;go_ret;exact ⟨rfl,rfl⟩
 | cons c r=>
   have he:=full_of hl;have hz:=size_cons hl;have h0:(0:Int)<(s.size:Int):=by omega
   have e0:∀h,s[0]'h=c:=fun h=>at_zero hl h;rw [hl] at HW;clear hl hz;generalize written pathMarks (c::r)=q at *;rw [List.head?_cons];by_cases hc:c=47
   ·have t1:((c.toNat:Int)==47)=true:=by rw [hc];rfl
    rw [decide_eq_true (by rw [hc]),Az];clear hc;go_enter Tryz.func258,Tryz.ntmps258;exact XXgan
   ·have t1:((c.toNat:Int)==47)=false:=beq_eq_false_iff_ne.2 fun e=>hc (F6.1 (by show c.toNat=47;omega));rw [decide_eq_false (fun e=>hc (Di.inj e)),As];clear hc;go_enter Tryz.func258,Tryz.ntmps258;go_wp2;go_ret;exact ⟨rfl,rfl⟩
theorem rport_any (s:ByteArray) (w:World) (hs:s.size≤1000000000):Calls EG 236 #[.string s] w fun e w'=>e=.returned (.bool (s.data.toList.contains 58))∧w'=w:=by
 obtain ⟨A,hA⟩:∃A,s.data.toList.contains 58=A:=⟨_,rfl⟩;rw [hA];have HA:=Bo hA;clear hA;go_enter Tryz.func236,Tryz.ntmps236;go_wp2
 go_loop [3] (fun i=>∃k:Nat,k≤s.size∧i=.int .i64 k∧Hid ((s.data.toList.take k).contains 58=false)) (fun i=>s.size-(intOf i).toNat)
 case atStart=>exact ⟨0,CX _,rfl,Bo rfl⟩
 case round=>
  obtain ⟨k,hk,rfl,hno⟩:=hrel;rcases CV k s.size with hlt | hge
  ·have i1:(k:Int)<(s.size:Int):=by omega
   have hkl:k<s.data.toList.length:=by rw [len];exact hlt
   have hsn:=Bo (contains_snoc s.data.toList k hkl 58);obtain ⟨c,hc⟩:∃c,s.data.toList[k]=c:=⟨_,rfl⟩;have hx:∀h,s[k]'h=c:=fun _=>hc
   have hmem:=Bo (Cb hkl);rw [hc] at hsn hmem;clear hc hkl;by_cases h58:c=58
   ·have t1:((c.toNat:Int)==58)=true:=by rw [h58];rfl
    have HT:Hid (true=A):=Bo (by rw [←HA.out,List.contains_iff_mem.2 (by rw [←h58];exact hmem.out)]);clear h58;go_wp2;go_ret;exact ⟨by rw [←HT.out];rfl,rfl⟩
   ·have t1:((c.toNat:Int)==58)=false:=beq_eq_false_iff_ne.2 fun e=>h58 (F6.1 (by show c.toNat=58;omega))
    have HN:Hid ((s.data.toList.take (k+1)).contains 58=false):=Bo (by rw [hsn.out,hno.out,Bool.false_or];exact beq_eq_false_iff_ne.2 fun e=>h58 e.symm);clear h58;go_wp2;go_round
    case rel=>exact ⟨k+1,by omega,by go_num,HN⟩
    case measure=>simp [intOf];omega
  ·obtain rfl:k=s.size:=by omega
   have h1:=hno.out;rw [take_all s _ (CQ _),HA.out] at h1;have HT:=Bo h1;clear hno h1;go_wp2;go_ret;exact ⟨by rw [HT.out];rfl,rfl⟩
end code
end Go.Proofs.YtldhlecknfomjaaGreatDoor.Tgt
namespace Go.Proofs.YtldhlecknfomjaaGreatDoor.Tgt
open Go.RowKit Base Oct Num Txt
theorem cut_hit (c:UInt8) (l:List UInt8) (k:Nat) (hk:k<l.length) (hc:l[k]=c) (hno:c∉l.take k):cutAt c l=(l.take k,l.drop (k+1),true):=by
 have e:l=l.take k++c::l.drop (k+1):=by conv=>lhs;rw [←List.take_append_drop k l,BJ hk,hc]
 conv=>lhs;rw [e]
 exact cutAt_app c _ _ hno
section code
set_option maxHeartbeats 1000000
attribute [local go_sem] Al
theorem XX34J {P:Prop} (h:P:=by
 go_simp;refine hK _ _ ?_ ?_
 ·rw [←hW9];exact ((((HW7.out.other w.heap.size 0 _ hn24).other w.heap.size 1 _ hn24).other w.heap.size 2 _ hn24).other w.heap.size 3 _ hn24).other w.heap.size 4 _ hn24
 clear hK K;refine Sched.assign _ (by rfl) (by rfl) ?_;simp only [Ab,Act.eval,Af,BZ,BS,BR,Dg,C8,CB,CA];refine Sched.done ?_;go_wp2;first
  |exact bodyPost_ret (v:=.tuple #[tv 0 E0 PP QQ true,.bool false]) (by (simp [results,Tryz.results237,go_sem,d0,d1,d2,d3,d4]);first|done|fail) rfl ⟨rfl,hbW⟩
  |exact bodyPost_ret (v:=.tuple #[tv 0 E0 PP QQ true,.bool qk]) (by (simp [results,Tryz.results237,go_sem,d0,d1,d2,d3,d4]);first|done|fail) rfl ⟨rfl,hbW⟩
  |exact bodyPost_ret (v:=.tuple #[tv 0 E0 s E0 false,.bool false]) (by (simp [results,Tryz.results237,go_sem,d0,d1,d2,d3,d4]);first|done|fail) rfl ⟨rfl,hbW⟩
  |exact bodyPost_ret (v:=.tuple #[tv 0 E0 s E0 false,.bool qk]) (by (simp [results,Tryz.results237,go_sem,d0,d1,d2,d3,d4]);first|done|fail) rfl ⟨rfl,hbW⟩):P:=h
theorem XXWdt {P:Prop} (h:P:=by
 intro w' hS;obtain ⟨c0,c1,c2,c3,c4,_,_,_,_,_⟩:=hS;go_simp
 with_reducible rfl):P:=h
set_option maxRecDepth 10000 in
theorem rorigin_any (s:ByteArray) (w:World) (hs:s.size≤1000000000) :
 Calls EG 237 #[.string s] w fun e w'=>e=.returned (.tuple #[tv 0 E0 (ba (cutAt 63 s.data.toList).1) (ba (cutAt 63 s.data.toList).2.1) (cutAt 63 s.data.toList).2.2,.bool (pathB (cutAt 63 s.data.toList).1&&queryB (cutAt 63 s.data.toList).2.1)])∧Below w.heap.size w w':=by
 obtain ⟨R,hR⟩:∃R,cutAt 63 s.data.toList=R:=⟨_,rfl⟩;rw [hR];have HR:=Bo hR
 have HRL:=Bo (cutAt_le 63 s.data.toList);rw [hR,len] at HRL;clear hR;obtain ⟨p,q,bb⟩:=R;simp only at HRL;simp only
 have HP:=Bo (fun w=>rpath_any (ba p) w (by rw [ba_size];have:=HRL.out.1;omega))
 have HQ:=Bo (fun w=>rquery_any (ba q) w (by rw [ba_size];have:=HRL.out.2;omega));rw [ba_list] at HP HQ;generalize pathB p=pk at *;generalize queryB q=qk at *;have HPP:Hid (∀k (hk:k<s.data.toList.length),s.data.toList[k]=63→(63:UInt8)∉s.data.toList.take k→s.extract 0 k=ba p∧s.extract (k+1) s.size=ba q∧true=bb):=Bo fun k hk hc hno=>by have h1:=HR.out;rw [cut_hit 63 _ k hk hc hno] at h1;simp only [Prod.mk.injEq] at h1;exact ⟨ba_ext (by rw [Bl,←h1.1];simp [ba]),ba_ext (by rw [drop_ext,←h1.2.1];rfl),h1.2.2⟩
 have HEE:Hid ((63:UInt8)∉s.data.toList→s=ba p∧E0=ba q∧false=bb):=Bo fun hno=>by have h1:=HR.out;rw [cutAt_none 63 _ hno] at h1;simp only [Prod.mk.injEq] at h1;exact ⟨by rw [←h1.1];rfl,by rw [←h1.2.1];rfl,h1.2.2⟩
 clear HR HRL;generalize ba p=PP at *;generalize ba q=QQ at *;have hc2:=Tgb.new w 216 0 E0 E0 E0 false;have hg2':w.heap.size<(w.alloc (.cells #[.int .i64 0,.string E0,.string E0,.string E0,.bool false] 216)).heap.size:=by simp
 have hsz2:(w.alloc (.cells #[.int .i64 0,.string E0,.string E0,.string E0,.bool false] 216)).heap.size=w.heap.size+1:=by simp
 have hb2:Below w.heap.size w (w.alloc (.cells #[.int .i64 0,.string E0,.string E0,.string E0,.bool false] 216)):=(Am _ _).alloc (CQ _) _;have hn24:¬w.heap.size=w.heap.size+1:=by omega
 go_enter Tryz.func237,Tryz.ntmps237;go_upto_region 2 with fail
 generalize w.alloc (.cells #[.int .i64 0,.string E0,.string E0,.string E0,.bool false] 216)=W2 at *;have hc4:=Tgb.new W2 216 0 E0 s E0 false;have hb4:Below W2.heap.size W2 (W2.alloc (.cells #[.int .i64 0,.string E0,.string s,.string E0,.bool false] 216)):=(Am _ _).alloc (CQ _) _;have hg4:W2.heap.size<(W2.alloc (.cells #[.int .i64 0,.string E0,.string s,.string E0,.bool false] 216)).heap.size:=by simp
 generalize W2.alloc (.cells #[.int .i64 0,.string E0,.string s,.string E0,.bool false] 216)=W at *
 have H2w:=Bo (hc2.below hg2' hb4)
 have HBw:=Bo (hb2.trans (hb4.mono (CP hg2')))
 have HG2w:=Bo (Nat.lt_trans hg2' hg4);rw [hsz2] at hc4 hg4;have H4w:=Bo hc4;have HG4w:=Bo hg4;clear hc2 hg2' hsz2 hb2 hc4 hb4 hg4;go_wp2_with fail
 go_loopw [5] (fun i wr=>∃k:Nat,k≤s.size∧i=.int .i64 k∧wr=W∧Hid ((63:UInt8)∉s.data.toList.take k)) (fun i _=>s.size-(intOf i).toNat)
 case atStart=>exact ⟨0,CX _,rfl,rfl,Bo (by simp)⟩
 case round=>
  obtain ⟨k,hk,rfl,rfl,hno⟩:=hrel;rcases CV k s.size with hlt | hge
  ·have i1:(k:Int)<(s.size:Int):=by omega
   have hkl:k<s.data.toList.length:=by rw [len];exact hlt
   obtain ⟨c,hc⟩:∃c,s.data.toList[k]=c:=⟨_,rfl⟩;have hx:∀h,s[k]'h=c:=fun _=>hc;by_cases h63:c=63
   ·have t1:((c.toNat:Int)==63)=true:=by rw [h63];rfl
    obtain ⟨e1,e2,e3⟩:=HPP.out k hkl (hc.trans h63) hno.out;have j0:(0:Int)≤(k:Int):=by omega
    have j1:(k:Int)≤(s.size:Int):=by omega
    have m1:IntKind.i64.wrap ((k:Int)+1)=((k+1:Nat):Int):=by rw [wrap_in _ (by omega) (by omega)];omega
    have j2:(k:Int)+1≤(s.size:Int):=by omega
    have j3:(0:Int)≤(k:Int)+1:=by omega
    clear h63 hc hkl hno;subst e3;go_wp2_with fail;refine Sched.region [(0,false),(1,false),(2,false),(3,false),(4,false),(5,false),(6,false),(7,false),(8,true),(9,false),(10,true),(11,false),(12,true)] (fun _=>True) (by kernel_rfl) (by kernel_rfl) (fun _ _ d _ _ h=>by cases d<;>exact h) trivial ?_
    have HY4:=Bo (H4w.out.below HG4w.out (Aj (Am _ _) 1))
    have HY2:=Bo (H2w.out.below HG2w.out (Aj (Am _ _) 1))
    have HYB:=Bo (Aj HBw.out 1);have HYG:Hid (w.heap.size+1<(World.drewN wr 1).heap.size):=HG4w;generalize World.drewN wr 1=W6 at *;simp only [Sched.picked,List.filterMap_cons,List.filterMap_nil,BS,BR,Option.map_some]
    iterate 8
     refine Sched.quiet (by rfl) ?_ ?_ ?_
     rotate_left 1
     ·intro w' hS;clear hS;go_simp;with_reducible rfl
     simp only [Ab,C8,CB,CA]
    obtain ⟨c0,c1,c2,c3,c4,z0,z1,z2,z3,z4⟩:=HY4.out
    refine Sched.change (by rfl) (fun K hK=>?_);go_simp;refine hK _ _ trivial ?_;clear hK K;refine Sched.quiet (by rfl) ?_ ?_ ?_
    rotate_left 1
    ·intro w' hS;clear hS;go_simp;with_reducible rfl
    simp only [Ab,C8,CB,CA]
    refine Sched.change (by rfl) (fun K hK=>?_);go_simp;refine hK _ _ trivial ?_;clear hK K;refine Sched.quiet (by rfl) ?_ ?_ ?_
    rotate_left 1
    ·intro w' hS;clear hS;go_simp;with_reducible rfl
    simp only [Ab,C8,CB,CA]
    refine Sched.change (by rfl) (fun K hK=>?_);go_simp;refine hK _ _ trivial ?_;clear hK K;refine Sched.done ?_
    have H4:Hid (Tgb (((W6.setCell ⟨w.heap.size+1,2,none⟩ (.string PP)).setCell ⟨w.heap.size+1,3,none⟩ (.string QQ)).setCell ⟨w.heap.size+1,4,none⟩ (.bool true)) (w.heap.size+1) 0 E0 PP QQ true):=Bo (by refine ⟨?_,?_,?_,?_,?_,?_,?_,?_,?_,?_⟩;all_goals go_simp)
    have hn42:¬w.heap.size+1=w.heap.size:=by omega
    have H2:=Bo (((HY2.out.other (w.heap.size+1) 2 (.string PP) hn42).other (w.heap.size+1) 3 (.string QQ) hn42).other (w.heap.size+1) 4 (.bool true) hn42);have hle:w.heap.size≤w.heap.size+1:=CS _
    have HB:=Bo (((HYB.out.setCell (p:=⟨w.heap.size+1,2,none⟩) hle (.string PP)).setCell (p:=⟨w.heap.size+1,3,none⟩) hle (.string QQ)).setCell (p:=⟨w.heap.size+1,4,none⟩) hle (.bool true))
    have HG4:Hid (w.heap.size+1<(((W6.setCell ⟨w.heap.size+1,2,none⟩ (.string PP)).setCell ⟨w.heap.size+1,3,none⟩ (.string QQ)).setCell ⟨w.heap.size+1,4,none⟩ (.bool true)).heap.size):=Bo (by simpa using HYG.out)
    have HG2:=Bo (Nat.lt_of_le_of_lt hle HG4.out);clear HY4 HY2 HYB HYG c0 c1 c2 c3 c4 z0 z1 z2 z3 z4 H4w H2w HBw HG4w HG2w;generalize ((W6.setCell ⟨w.heap.size+1,2,none⟩ (.string PP)).setCell ⟨w.heap.size+1,3,none⟩ (.string QQ)).setCell ⟨w.heap.size+1,4,none⟩ (.bool true)=W7 at *;go_wp2_with fail
    have HW7:=Bo (H4.out.below HG4.out (Aj (Am _ _) 1))
    have HX7:=Bo (H2.out.below HG2.out (Aj (Am _ _) 1))
    have HB7:=Bo (Aj HB.out 1);refine Sched.region [(0,false),(1,false),(2,false),(3,true),(4,false),(5,false),(6,false),(7,true),(8,false),(9,true),(10,false)] (fun w'=>Tgb w' (w.heap.size+1) 0 E0 PP QQ true) (by kernel_rfl) (by kernel_rfl) (fun _ _ d _ _ h=>by cases d<;>exact h) HW7.out ?_;generalize World.drewN W7 1=W8 at *;simp only [Sched.picked,List.filterMap_cons,List.filterMap_nil,BS,BR,Option.map_some]
    iterate 3
     refine Sched.quiet (by rfl) ?_ ?_ ?_
     rotate_left 1
     ·exact XXWdt
     simp only [Ab,C8,CB,CA]
    refine Sched.change (by rfl) (fun K hK=>?_);go_simp;with_reducible refine (HP.out _).mono ?_
    rintro e w1 ⟨rfl,hw⟩;rw [hw];clear hw;dsimp only;refine hK _ _ HW7.out ?_;clear hK K;refine Sched.move _ (by rfl) (by rfl) ?_;simp only [Ab,Act.eval,Af,BZ,BS,BR,Dg,C8,CB,CA];cases pk with
    | false=>
      iterate 3
       refine Sched.skip (by rfl) ?_;simp only [Ab,C8,CB,CA]
      refine Sched.quiet (by rfl) (.bool false) ?_ ?_
      ·intro w' hS;clear hS;go_simp
      simp only [Ab,C8,CB,CA]
      refine Sched.change (by rfl) (fun K hK=>?_);obtain ⟨c0,c1,c2,c3,c4,z0,z1,z2,z3,z4⟩:=HX7.out;obtain ⟨W9,hW9,⟨d0,d1,d2,d3,d4,_,_,_,_,_⟩,hbW⟩:=Tgb.put ⟨c0,c1,c2,c3,c4,z0,z1,z2,z3,z4⟩ HB7.out (CQ _) 0 E0 PP QQ true;exact XX34J
    | true=>
      iterate 2
       refine Sched.quiet (by rfl) ?_ ?_ ?_
       rotate_left 1
       ·exact XXWdt
       simp only [Ab,C8,CB,CA]
      refine Sched.change (by rfl) (fun K hK=>?_);go_simp;with_reducible refine (HQ.out _).mono ?_
      rintro e w1 ⟨rfl,hw⟩;rw [hw];clear hw;dsimp only;refine hK _ _ HW7.out ?_;clear hK K;refine Sched.quiet (by rfl) (.bool qk) ?_ ?_
      ·intro w' hS;clear hS;go_simp
      simp only [Ab,C8,CB,CA]
      refine Sched.change (by rfl) (fun K hK=>?_);obtain ⟨c0,c1,c2,c3,c4,z0,z1,z2,z3,z4⟩:=HX7.out;obtain ⟨W9,hW9,⟨d0,d1,d2,d3,d4,_,_,_,_,_⟩,hbW⟩:=Tgb.put ⟨c0,c1,c2,c3,c4,z0,z1,z2,z3,z4⟩ HB7.out (CQ _) 0 E0 PP QQ true;exact XX34J
   ·have t1:((c.toNat:Int)==63)=false:=beq_eq_false_iff_ne.2 fun e=>h63 (F6.1 (by show c.toNat=63;omega))
    have HN:Hid ((63:UInt8)∉s.data.toList.take (k+1)):=Bo (by rw [CF hkl,hc,List.mem_append,not_or];exact ⟨hno.out,by rw [C2];exact fun e=>h63 e.symm⟩)
    clear h63 hc hkl hno;go_wp2_with fail;go_roundw
    case rel=>first | exact ⟨k+1,by omega,by go_num,rfl,HN⟩ | exact ⟨k+1,by omega,by go_num,trivial,HN⟩
    case measure=>simp [intOf];omega
  ·obtain rfl:k=s.size:=by omega
   have h1:=hno.out;rw [take_all s _ (CQ _)] at h1;obtain ⟨e1,e2,e3⟩:=HEE.out h1;clear hno h1;subst e1 e2 e3;go_wp2_with fail;have H4:=H4w;have H2:=H2w;have HB:=HBw;have HG4:=HG4w;have HG2:=HG2w;clear H4w H2w HBw HG4w HG2w;generalize wr=W7 at *
   have HW7:=Bo (H4.out.below HG4.out (Aj (Am _ _) 1))
   have HX7:=Bo (H2.out.below HG2.out (Aj (Am _ _) 1))
   have HB7:=Bo (Aj HB.out 1);refine Sched.region [(0,false),(1,false),(2,false),(3,true),(4,false),(5,false),(6,false),(7,true),(8,false),(9,true),(10,false)] (fun w'=>Tgb w' (w.heap.size+1) 0 E0 s E0 false) (by kernel_rfl) (by kernel_rfl) (fun _ _ d _ _ h=>by cases d<;>exact h) HW7.out ?_;generalize World.drewN W7 1=W8 at *;simp only [Sched.picked,List.filterMap_cons,List.filterMap_nil,BS,BR,Option.map_some]
   iterate 3
    refine Sched.quiet (by rfl) ?_ ?_ ?_
    rotate_left 1
    ·exact XXWdt
    simp only [Ab,C8,CB,CA]
   refine Sched.change (by rfl) (fun K hK=>?_);go_simp;with_reducible refine (HP.out _).mono ?_
   rintro e w1 ⟨rfl,hw⟩;rw [hw];clear hw;dsimp only;refine hK _ _ HW7.out ?_;clear hK K;refine Sched.move _ (by rfl) (by rfl) ?_;simp only [Ab,Act.eval,Af,BZ,BS,BR,Dg,C8,CB,CA];cases pk with
   | false=>
     iterate 3
      refine Sched.skip (by rfl) ?_;simp only [Ab,C8,CB,CA]
     refine Sched.quiet (by rfl) (.bool false) ?_ ?_
     ·intro w' hS;clear hS;go_simp
     simp only [Ab,C8,CB,CA]
     refine Sched.change (by rfl) (fun K hK=>?_);obtain ⟨c0,c1,c2,c3,c4,z0,z1,z2,z3,z4⟩:=HX7.out;obtain ⟨W9,hW9,⟨d0,d1,d2,d3,d4,_,_,_,_,_⟩,hbW⟩:=Tgb.put ⟨c0,c1,c2,c3,c4,z0,z1,z2,z3,z4⟩ HB7.out (CQ _) 0 E0 s E0 false;exact XX34J
   | true=>
     iterate 2
      refine Sched.quiet (by rfl) ?_ ?_ ?_
      rotate_left 1
      ·exact XXWdt
      simp only [Ab,C8,CB,CA]
     refine Sched.change (by rfl) (fun K hK=>?_);go_simp;with_reducible refine (HQ.out _).mono ?_
     rintro e w1 ⟨rfl,hw⟩;rw [hw];clear hw;dsimp only;refine hK _ _ HW7.out ?_;clear hK K;refine Sched.quiet (by rfl) (.bool qk) ?_ ?_
     ·intro w' hS;clear hS;go_simp
     simp only [Ab,C8,CB,CA]
     refine Sched.change (by rfl) (fun K hK=>?_);obtain ⟨c0,c1,c2,c3,c4,z0,z1,z2,z3,z4⟩:=HX7.out;obtain ⟨W9,hW9,⟨d0,d1,d2,d3,d4,_,_,_,_,_⟩,hbW⟩:=Tgb.put ⟨c0,c1,c2,c3,c4,z0,z1,z2,z3,z4⟩ HB7.out (CQ _) 0 E0 s E0 false;exact XX34J
end code
end Go.Proofs.YtldhlecknfomjaaGreatDoor.Tgt
namespace Go.Proofs.YtldhlecknfomjaaGreatDoor.Tgt
open Go.RowKit Base Oct Num Txt
theorem cutAt_head (c d:UInt8) (l:List UInt8) (h:(cutAt c l).1.head?=some d):l.head?=some d:=by
 cases l with
 | nil=>simp [cutAt] at h
 | cons b r=>
   rw [cutAt] at h;split at h
   ·simp at h
   ·simpa using h
theorem origin_head {l:List UInt8} (h:l.head?≠some 47):origin l=none:=by
 unfold origin;have:pathB (cutAt 63 l).1=false:=by unfold pathB;rw [decide_eq_false (fun e=>h (cutAt_head _ _ _ e)),As]
 rw [this,As];rfl
theorem schemed_head {l:List UInt8} (h:l.head?=some 47):schemed l=false:=by
 cases l with
 | nil=>simp at h
 | cons c r=>
   obtain rfl:c=47:=by simpa using h
   unfold schemed;have:(low (((47:UInt8)::r).take 7)==low http)=false:=by rw [beq_eq_false_iff_ne];intro e;have e2:=congrArg (fun x=>x.head?) e;revert e2;show some (lowB 47)=some (lowB 104)→False;decide
   rw [this,Bool.and_false]
theorem parse_alt {m l:List UInt8} (hm:¬m=connect) (ho:¬(m=options∧l= [42])):parse m l=if schemed l=true then absolute (l.drop 7) else origin l:=by
 rw [parse,if_neg hm,if_neg ho];by_cases hd:l.head?=some 47
 ·rw [if_pos hd,schemed_head hd];rfl
 ·rw [if_neg hd,origin_head hd]
def relabel (F:Nat) (ho:List UInt8) (o:Option Tg):Option Tg:=o.map fun t=>⟨F,ho,t.path,t.query,t.asked⟩
theorem origin_relabel (l:List UInt8):origin l=relabel 1 [] (origin l):=by
 unfold relabel;cases h:origin l with
 | none=>rfl
 | some t=>
   obtain ⟨_,h1,h2⟩:=putPath_origin h;obtain ⟨f,ho,p,q,a⟩:=t;simp only at h1 h2;subst h1 h2;rfl
theorem absolute_relabel (l:List UInt8) (h:hostB (hostOf l)=true):absolute l=relabel 2 (hostOf l) (origin (slashed (restOf l))):=by
 unfold absolute relabel;cases origin (slashed (restOf l)) with
 | none=>rfl
 | some t=>simp only [h,if_true];rfl
theorem absolute_none (l:List UInt8) (h:hostB (hostOf l)=false):absolute l=none:=by
 unfold absolute;cases origin (slashed (restOf l)) with
 | none=>rfl
 | some t=>simp only [h];rfl
theorem host_all:∀l:List UInt8,(∀x∈l,ended x=false)→hostOf l=l∧restOf l= []
 | [],_=>⟨rfl,rfl⟩
 | c::r,h=>by
   have hc:=h c (by simp)
   have ih:=host_all r fun x hx=>h x (by simp [hx]);unfold hostOf restOf at *;simp only [List.takeWhile_cons,List.dropWhile_cons,hc,Bool.not_false,if_true];exact ⟨by rw [ih.1],ih.2⟩
theorem host_stop (l:List UInt8) (k:Nat) (h1:∀x∈l.take k,ended x=false) (h2:l.length≤k∨∃h:k<l.length,ended l[k]=true):hostOf l=l.take k∧restOf l=l.drop k:=by
 rcases h2 with h2 | ⟨h2,h3⟩
 ·rw [CE h2] at h1;rw [CE h2,List.drop_eq_nil_of_le h2];exact host_all l h1
 ·have e:=host_cut (fun c=>!ended c) (l.take k) (l.drop (k+1)) l[k] (fun x hx=>by simp [h1 x hx]) (by simp [h3]);have e2:l.take k++l[k]::l.drop (k+1)=l:=by rw [←BJ h2,List.take_append_drop]
  rw [e2] at e;exact ⟨e.1,by rw [BJ h2];exact e.2⟩
section code
set_option maxHeartbeats 1000000
attribute [local go_sem] Al
theorem rtarget_connect (m s:ByteArray) (w:World) (hs:s.size≤900000000) (hm:m.data.toList=connect) :
 Calls EG 216 #[.string m,.string s] w fun e w'=>e=.returned (ans (parse m.data.toList s.data.toList))∧Below w.heap.size w w':=by
 have HCC:=Bo (Tgb.new w 216 0 E0 E0 E0 false)
 have HWW:=Bo (show Below w.heap.size w (w.alloc (.cells #[.int .i64 0,.string E0,.string E0,.string E0,.bool false] 216)) from (Am _ _).alloc (CQ _) _)
 have HG:=Bo (show w.heap.size<(w.alloc (.cells #[.int .i64 0,.string E0,.string E0,.string E0,.bool false] 216)).heap.size by simp)
 have HC:=Bo (fun w=>rport_any s w (by omega))
 have HH:=Bo (fun w=>rhost_any s w (by omega));have hba:ba s.data.toList=s:=rfl;rw [parse,if_pos hm]
 obtain ⟨t1,t2⟩:=eq_facts m [67,79,78,78,69,67,84] true (decide_eq_true hm);clear hm;obtain ⟨R,hR⟩:∃R,authority s.data.toList=R:=⟨_,rfl⟩;rw [hR];unfold authority at hR;generalize s.data.toList.contains 58=b at *;generalize hostB s.data.toList=h at *;cases h with
 | false=>
   rw [Bool.and_false] at hR;obtain rfl:none=R:=hR;rw [ans];clear hba;go_enter Tryz.func216,Tryz.ntmps216
   go_wp2_with (go_at_call 235;with_reducible refine (HH.out _).mono ?_;rintro e w2 ⟨rfl,hb⟩
                obtain ⟨c0,c1,c2,c3,c4,z0,z1,z2,z3,z4⟩:=HCC.out.below HG.out hb
                have HB:=Bo (Ak HWW.out hb);clear hb)
   exact XXoUb
 | true=>
   cases b with
   | false=>
     obtain rfl:none=R:=hR;rw [ans];clear hba;go_enter Tryz.func216,Tryz.ntmps216
     go_wp2_with (first
      |(go_at_call 236;with_reducible refine Cm (HC.out _) ?_)
      |(go_at_call 235;with_reducible refine (HH.out _).mono ?_;rintro e w2 ⟨rfl,hb⟩
        obtain ⟨c0,c1,c2,c3,c4,z0,z1,z2,z3,z4⟩:=HCC.out.below HG.out hb
        have HB:=Bo (Ak HWW.out hb);clear hb))
     exact XXoUb
   | true=>
     obtain rfl:some ⟨3,s.data.toList,[],[],false⟩=R:=hR;rw [ans,hba,show ba []=E0 from rfl];clear hba;go_enter Tryz.func216,Tryz.ntmps216
     go_wp2_with (first
      |(go_at_call 236;with_reducible refine Cm (HC.out _) ?_)
      |(go_at_call 235;with_reducible refine (HH.out _).mono ?_;rintro e w2 ⟨rfl,hb⟩
        obtain ⟨c0,c1,c2,c3,c4,z0,z1,z2,z3,z4⟩:=HCC.out.below HG.out hb
        have HB:=Bo (Ak HWW.out hb);clear hb))
     exact XXTgp
theorem XXdjq {P:Prop} (h:P:=by
 rw [hh] at HHo
 have HN:Hid (none=R):=Bo (by rw [←HR.out,absolute_none _ hh]);clear hh HR;go_wp2_with fail
 go_quiet (fail);rename_i nq;generalize s.extract k s.size=X at *;generalize s.extract 7 k=Y at *
 have HH2:Hid (∀w,Calls EG 235 #[.string Y] w fun e w'=>e=.returned (.bool false)∧Below w.heap.size w w'):=Bo (by rw [HX.out];exact HHo.out)
 have hbq:=Bo (Aj (Am wc.heap.size wc) nq);generalize wc.drewN nq=wq at *
 go_wp2_with (go_at_call 235;with_reducible refine (HH2.out _).mono ?_;rintro e w2 ⟨rfl,hb⟩
              have hb':=Ak hbq.out hb;obtain ⟨c0,c1,c2,c3,c4,z0,z1,z2,z3,z4⟩:=H1.out.below HG1.out hb'
              have HB:=Bo (Ak HB1.out hb');clear hb hb')
 obtain ⟨W9,hW,⟨d0,d1,d2,d3,d4,_,_,_,_,_⟩,hbW⟩:=Tgb.put ⟨c0,c1,c2,c3,c4,z0,z1,z2,z3,z4⟩ HB.out (CQ _) 0 E0 E0 E0 false;rw [hW]
 exact bodyPost_ret (v:=.tuple #[tv 0 E0 E0 E0 false,.int .i64 400]) (by simp [results,Tryz.results216,go_sem,d0,d1,d2,d3,d4]) rfl ⟨by rw [←HN.out];rfl,hbW⟩):P:=h
theorem XXyYj {P:Prop} (h:P:=by
 rw [hh] at HHo
 have HRR:Hid (relabel 2 (hostOf (s.data.toList.drop 7)) (origin (slashed (restOf (s.data.toList.drop 7))))=R):=Bo (by rw [←HR.out,absolute_relabel _ hh]);clear hh HR;go_wp2_with fail
 go_quiet (fail);rename_i nq;generalize s.extract k s.size=X at *;generalize s.extract 7 k=Y at *
 have HH2:Hid (∀w,Calls EG 235 #[.string Y] w fun e w'=>e=.returned (.bool true)∧Below w.heap.size w w'):=Bo (by rw [HX.out];exact HHo.out)
 have hbq:=Bo (Aj (Am wc.heap.size wc) nq);generalize wc.drewN nq=wq at *
 go_wp2_with (go_at_call 235;with_reducible refine (HH2.out _).mono ?_;rintro e w2 ⟨rfl,hb⟩
              have HBH:=Bo (Ak hbq.out hb);clear hb)
 go_meet
 case rel=>exact ⟨2,hostOf (s.data.toList.drop 7),slashed (restOf (s.data.toList.drop 7)),by rw [HSL.out],rfl,by rw [HX.out],HLEN.out,HRR,HBH⟩):P:=h
set_option maxRecDepth 10000 in
theorem rtarget_any (m s:ByteArray) (w:World) (hs:s.size≤900000000) :
 Calls EG 216 #[.string m,.string s] w fun e w'=>e=.returned (ans (parse m.data.toList s.data.toList))∧Below w.heap.size w w':=by
 by_cases hm:m.data.toList=connect
 ·exact rtarget_connect m s w hs hm
 obtain ⟨t1,t2⟩:=eq_facts m [67,79,78,78,69,67,84] false (decide_eq_false hm);by_cases ho:m.data.toList=options∧s.data.toList= [42]
 ·obtain ⟨t3,t4⟩:=eq_facts m [79,80,84,73,79,78,83] true (decide_eq_true ho.1)
  obtain ⟨t5,t6⟩:=eq_facts s [42] true (decide_eq_true ho.2);rw [parse,if_neg hm,if_pos ho];clear ho hm;go_enter Tryz.func216,Tryz.ntmps216;go_wp2_with fail;exact bodyPost_ret (v:=.tuple #[tv 4 E0 E0 E0 false,.int .i64 0]) (by simp [results,Tryz.results216,go_sem]) rfl ⟨rfl,(Am _ _).alloc (CQ _) _⟩
 obtain ⟨R,hR⟩:∃R,parse m.data.toList s.data.toList=R:=⟨_,rfl⟩;rw [hR];rw [parse_alt hm ho] at hR;have HR:=Bo hR;have hno:((m.toList == [79,80,84,73,79,78,83])=false∧(m.toList==(ByteArray.mk #[79,80,84,73,79,78,83]).toList)=false)∨((m.toList == [79,80,84,73,79,78,83])=true∧(m.toList==(ByteArray.mk #[79,80,84,73,79,78,83]).toList)=true∧(s.toList == [42])=false∧(s.toList==(ByteArray.mk #[42]).toList)=false):=by exact XXkkv
 have HNO:=Bo hno;clear ho hm hR hno;have hcc:=Tgb.new w 216 0 E0 E0 E0 false;have hww:Below w.heap.size w (w.alloc (.cells #[.int .i64 0,.string E0,.string E0,.string E0,.bool false] 216)):=(Am _ _).alloc (CQ _) _;have hgg:w.heap.size<(w.alloc (.cells #[.int .i64 0,.string E0,.string E0,.string E0,.bool false] 216)).heap.size:=by simp
 go_enter Tryz.func216,Tryz.ntmps216;go_upto_region 5 with fail
 generalize w.alloc (.cells #[.int .i64 0,.string E0,.string E0,.string E0,.bool false] 216)=W at *;have HCC:=Bo hcc;have HWW:=Bo hww;have HG:=Bo hgg;clear hcc hww hgg
 go_cut [29] from 24 (fun v wx=>v=.bool false∧wx=W)
 case first=>
  rcases HNO.out with ⟨t3,t4⟩ | ⟨t3,t4,t5,t6⟩;all_goals
   go_wp2_with fail;go_meet
   case rel=>exact ⟨rfl,rfl⟩
 case rest=>
  obtain ⟨rfl,hw0⟩:=hcut;rw [hw0];clear hw0 HNO;go_upto_region 8 with fail
  go_cut [38] from 31 (fun v wx=>v=.bool (schemed s.data.toList)∧Hid (Below W.heap.size W wx))
  case first=>
   by_cases h7:7≤s.size
   ·have q7:(7:Int)≤(s.size:Int):=by omega
    have x1:(s.extract 0 7).data.toList=s.data.toList.take 7:=by rw [Bl];simp
    have hx1:(s.extract 0 7).size≤1000:=by rw [←len,x1,Ct];omega
    have HM:=Bo (fun w=>Txt.rsame_any (s.extract 0 7) ⟨#[104,116,116,112,58,47,47]⟩ w (by omega) (by decide));have hsm:same (s.extract 0 7) ⟨#[104,116,116,112,58,47,47]⟩=schemed s.data.toList:=by unfold same schemed;rw [x1,len,decide_eq_true h7];rfl
    rw [hsm] at HM;clear x1 hx1 hsm h7 HR;generalize schemed s.data.toList=sc at *
    go_wp2_with (go_at_call 88;with_reducible refine (HM.out _).mono ?_;rintro e w2 ⟨rfl,hb⟩);go_meet
    case rel=>exact ⟨rfl,Bo hb⟩
   ·have q7:¬(7:Int)≤(s.size:Int):=by omega
    have hsc:schemed s.data.toList=false:=by unfold schemed;rw [len,decide_eq_false h7,As]
    have HSC:=Bo hsc;clear hsc h7;go_wp2_with fail;go_meet
    case rel=>exact ⟨by rw [HSC.out],Bo (Am _ _)⟩
  case rest=>
   obtain ⟨rfl,hbc⟩:=hcut
   have H1:=Bo (HCC.out.below HG.out hbc.out)
   have HB1:=Bo (Ak HWW.out hbc.out)
   have HG1:=Bo (CU HG.out hbc.out.size);clear HCC HWW HG hbc;go_upto_if 38 with fail
   go_cut [1,6,7] from 8 (fun v1 v6 v7 wx=>∃(F:Nat) (HO SS:List UInt8),v1=.string (ba SS)∧v6=.int .i64 F∧v7=.string (ba HO)∧SS.length≤1000000000∧Hid (relabel F HO (origin SS)=R)∧Hid (Below wc.heap.size wc wx))
   case first=>
    cases hsc:schemed s.data.toList with
    | false=>
      rw [hsc,if_neg (by decide),origin_relabel] at HR;clear hsc;go_wp2_with fail;go_meet
      case rel=>exact ⟨1,[],s.data.toList,rfl,rfl,rfl,by rw [len];omega,HR,Bo (Am _ _)⟩
    | true=>
      rw [hsc,if_pos rfl] at HR;have hs7:7≤s.size:=by unfold schemed at hsc;rw [An,decide_eq_true_eq,len] at hsc;exact hsc.1
      clear hsc;go_wp2_with fail
      go_loop [8] (fun i=>∃k:Nat,7≤k∧k≤s.size∧i=.int .i64 k∧Hid (∀x∈(s.data.toList.drop 7).take (k-7),ended x=false)) (fun i=>s.size-(intOf i).toNat)
      case atStart=>exact ⟨7,CQ _,hs7,rfl,Bo (by simp)⟩
      case round=>
       obtain ⟨k,hlk,hle,rfl,hall⟩:=hrel;rcases CV k s.size with hlt | hge
       ·have i1:(k:Int)<(s.size:Int):=by omega
        have hkl:k<s.data.toList.length:=by rw [len];exact hlt
        obtain ⟨c,hck⟩:∃c,s.data.toList[k]=c:=⟨_,rfl⟩;have hxk:∀h,s[k]'h=c:=fun _=>hck;have hdl:k-7<(s.data.toList.drop 7).length:=by rw [Ck,len];omega
        have hdk:(s.data.toList.drop 7)[k-7]=c:=by
         rw [List.getElem_drop,←hck]
         congr 1
         omega
        by_cases h47:c=47
        ·have t47:((c.toNat:Int) != 47)=false:=by rw [h47];rfl
         have hstop:(s.data.toList.drop 7).length≤k-7∨∃h:k-7<(s.data.toList.drop 7).length,ended (s.data.toList.drop 7)[k-7]=true:=.inr ⟨hdl,by rw [hdk,h47];rfl⟩;clear hdl hdk;have j7:(7:Int)≤(k:Int):=by omega
         have jk:(k:Int)≤(s.size:Int):=by omega
         obtain ⟨g1,g2⟩:=host_stop (s.data.toList.drop 7) (k-7) hall.out hstop;rw [List.drop_drop,show 7+(k-7)=k by omega] at g2
         have hx:s.extract 7 k=ba (hostOf (s.data.toList.drop 7)):=ba_ext (by rw [Bl,g1];rfl)
         have hy:s.extract k s.size=ba (restOf (s.data.toList.drop 7)):=ba_ext (by rw [drop_ext,g2];rfl)
         have HHo:=Bo (fun w=>rhost_any (s.extract 7 k) w (by rw [hx,ba_size];have:=hostOf_le (s.data.toList.drop 7);rw [Ck,len] at this;omega));rw [hx,ba_list] at HHo
         have hlen:=slashed_le (restOf (s.data.toList.drop 7))
         have hrl:=restOf_le (s.data.toList.drop 7);rw [Ck,len] at hrl
         have HLEN:=Bo (show (slashed (restOf (s.data.toList.drop 7))).length≤1000000000 by omega);have hre:restOf (s.data.toList.drop 7)=47::s.data.toList.drop (k+1):=by rw [g2,BJ hkl,hck,h47]
         have hemp:(s.extract k s.size).toList.isEmpty=false:=by rw [hy];exact full_of hre
         have hpos:(0:Int)<((s.extract k s.size).size:Int):=by rw [hy,ba_size,hre,List.length_cons];omega
         have hat:∀h,(s.extract k s.size)[0]'h=47:=fun h=>at_zero (by rw [hy];exact hre) h;have hsl:s.extract k s.size=ba (slashed (restOf (s.data.toList.drop 7))):=by rw [hy,hre];rfl
         have HX:=Bo hx;have HSL:=Bo hsl;clear hx hy hsl hre g1 g2 hlen hrl hstop hall hck hkl h47;cases hh:hostB (hostOf (s.data.toList.drop 7)) with
         | false=>
           exact XXdjq
         | true=>
           exact XXyYj
        ·have t47:((c.toNat:Int) != 47)=true:=bne_iff_ne.2 fun e=>h47 (F6.1 (by show c.toNat=47;omega));by_cases h63:c=63
         ·have t63:((c.toNat:Int) != 63)=false:=by rw [h63];rfl
          have hstop:(s.data.toList.drop 7).length≤k-7∨∃h:k-7<(s.data.toList.drop 7).length,ended (s.data.toList.drop 7)[k-7]=true:=.inr ⟨hdl,by rw [hdk,h63];rfl⟩;clear hdl hdk;have j7:(7:Int)≤(k:Int):=by omega
          have jk:(k:Int)≤(s.size:Int):=by omega
          obtain ⟨g1,g2⟩:=host_stop (s.data.toList.drop 7) (k-7) hall.out hstop;rw [List.drop_drop,show 7+(k-7)=k by omega] at g2
          have hx:s.extract 7 k=ba (hostOf (s.data.toList.drop 7)):=ba_ext (by rw [Bl,g1];rfl)
          have hy:s.extract k s.size=ba (restOf (s.data.toList.drop 7)):=ba_ext (by rw [drop_ext,g2];rfl)
          have HHo:=Bo (fun w=>rhost_any (s.extract 7 k) w (by rw [hx,ba_size];have:=hostOf_le (s.data.toList.drop 7);rw [Ck,len] at this;omega));rw [hx,ba_list] at HHo
          have hlen:=slashed_le (restOf (s.data.toList.drop 7))
          have hrl:=restOf_le (s.data.toList.drop 7);rw [Ck,len] at hrl
          have HLEN:=Bo (show (slashed (restOf (s.data.toList.drop 7))).length≤1000000000 by omega);have hre:restOf (s.data.toList.drop 7)=63::s.data.toList.drop (k+1):=by rw [g2,BJ hkl,hck,h63]
          have hemp:(s.extract k s.size).toList.isEmpty=false:=by rw [hy];exact full_of hre
          have hpos:(0:Int)<((s.extract k s.size).size:Int):=by rw [hy,ba_size,hre,List.length_cons];omega
          have hat:∀h,(s.extract k s.size)[0]'h=63:=fun h=>at_zero (by rw [hy];exact hre) h
          have hsl:(⟨#[47]⟩:ByteArray)++s.extract k s.size=ba (slashed (restOf (s.data.toList.drop 7))):=by rw [hy,hre];exact ba_ext (by simp [ba,slashed])
          have hv:¬9223372036854775807<1+(s.extract k s.size).size:=by rw [hy,ba_size];omega
          have HX:=Bo hx;have HSL:=Bo hsl;clear hx hy hsl hre g1 g2 hlen hrl hstop hall hck hkl h63 h47;cases hh:hostB (hostOf (s.data.toList.drop 7)) with
          | false=>
            exact XXdjq
          | true=>
            exact XXyYj
         ·have t63:((c.toNat:Int) != 63)=true:=bne_iff_ne.2 fun e=>h63 (F6.1 (by show c.toNat=63;omega))
          have HN:Hid (∀x∈(s.data.toList.drop 7).take (k+1-7),ended x=false):=Bo (by
           rw [show k+1-7=(k-7)+1 by omega,CF hdl,hdk];intro x hx;rcases List.mem_append.1 hx with hx | hx
           ·exact hall.out x hx
           ·obtain rfl:x=c:=by simpa using hx
            simp [ended,h47,h63])
          clear h47 h63 hdl hdk hck hkl hall;go_wp2_with fail;go_round
          case rel=>exact ⟨k+1,by omega,by omega,by go_num,HN⟩
          case measure=>simp [intOf];omega
       ·have i1:¬(k:Int)<(s.size:Int):=by omega
        have hstop:(s.data.toList.drop 7).length≤k-7∨∃h:k-7<(s.data.toList.drop 7).length,ended (s.data.toList.drop 7)[k-7]=true:=.inl (by rw [Ck,len];omega);have j7:(7:Int)≤(k:Int):=by omega
        have jk:(k:Int)≤(s.size:Int):=by omega
        obtain ⟨g1,g2⟩:=host_stop (s.data.toList.drop 7) (k-7) hall.out hstop;rw [List.drop_drop,show 7+(k-7)=k by omega] at g2
        have hx:s.extract 7 k=ba (hostOf (s.data.toList.drop 7)):=ba_ext (by rw [Bl,g1];rfl)
        have hy:s.extract k s.size=ba (restOf (s.data.toList.drop 7)):=ba_ext (by rw [drop_ext,g2];rfl)
        have HHo:=Bo (fun w=>rhost_any (s.extract 7 k) w (by rw [hx,ba_size];have:=hostOf_le (s.data.toList.drop 7);rw [Ck,len] at this;omega));rw [hx,ba_list] at HHo
        have hlen:=slashed_le (restOf (s.data.toList.drop 7))
        have hrl:=restOf_le (s.data.toList.drop 7);rw [Ck,len] at hrl
        have HLEN:=Bo (show (slashed (restOf (s.data.toList.drop 7))).length≤1000000000 by omega)
        have hre:restOf (s.data.toList.drop 7)= []:=by rw [g2];exact List.drop_eq_nil_of_le (by rw [len];omega)
        have hemp:(s.extract k s.size).toList.isEmpty=true:=by rw [hy,hre];exact empty_of rfl
        have hsl:(⟨#[47]⟩:ByteArray)++s.extract k s.size=ba (slashed (restOf (s.data.toList.drop 7))):=by rw [hy,hre];exact ba_ext (by simp [ba,slashed])
        have hv:¬9223372036854775807<1+(s.extract k s.size).size:=by rw [hy,ba_size];omega
        have HX:=Bo hx;have HSL:=Bo hsl;clear hx hy hsl hre g1 g2 hlen hrl hstop hall;cases hh:hostB (hostOf (s.data.toList.drop 7)) with
        | false=>
          exact XXdjq
        | true=>
          exact XXyYj
   case rest=>
    obtain ⟨F,HO,SS,rfl,rfl,rfl,hSS,hRR,hbc⟩:=hcut
    have H2:=Bo (H1.out.below HG1.out hbc.out)
    have HB2:=Bo (Ak HB1.out hbc.out)
    have HG2:=Bo (CU HG1.out hbc.out.size);clear H1 HB1 HG1 hbc HR
    have HOR:=Bo (fun w=>rorigin_any (ba SS) w (by rw [ba_size];omega));rw [ba_list] at HOR;have hor:origin SS=if (pathB (cutAt 63 SS).1&&queryB (cutAt 63 SS).2.1)=true then some ⟨1,[],(cutAt 63 SS).1,(cutAt 63 SS).2.1,(cutAt 63 SS).2.2⟩ else none:=rfl
    rw [hor] at hRR;clear hor;generalize (cutAt 63 SS).1=p at *;generalize (cutAt 63 SS).2.1=q at *;generalize (cutAt 63 SS).2.2=bb at *;cases hk:(pathB p&&queryB q) with
    | false=>
      rw [hk] at HOR hRR;have HN:Hid (none=R):=hRR;clear hk hRR
      go_upto_if 82 with (go_at_call 237;with_reducible refine (HOR.out _).mono ?_;rintro e w2 ⟨rfl,hb⟩)
      have hb3:Below wc.heap.size wc (w2.alloc (.cells #[.int .i64 0,.string E0,.string (ba p),.string (ba q),.bool bb] 216)):=hb.alloc hb.size _;generalize w2.alloc (.cells #[.int .i64 0,.string E0,.string (ba p),.string (ba q),.bool bb] 216)=W3 at *;obtain ⟨c0,c1,c2,c3,c4,z0,z1,z2,z3,z4⟩:=H2.out.below HG2.out hb3
      have HB:=Bo (Ak HB2.out hb3);clear hb hb3 H2 HB2 HG2;go_wp2_with fail;obtain ⟨W9,hW,⟨d0,d1,d2,d3,d4,_,_,_,_,_⟩,hbW⟩:=Tgb.put ⟨c0,c1,c2,c3,c4,z0,z1,z2,z3,z4⟩ HB.out (CQ _) 0 E0 E0 E0 false;rw [hW];exact bodyPost_ret (v:=.tuple #[tv 0 E0 E0 E0 false,.int .i64 400]) (by simp [results,Tryz.results216,go_sem,d0,d1,d2,d3,d4]) rfl ⟨by rw [←HN.out];rfl,hbW⟩
    | true=>
      rw [hk] at HOR hRR;have HN:Hid (some ⟨F,HO,p,q,bb⟩=R):=hRR;clear hk hRR
      go_upto_if 82 with (go_at_call 237;with_reducible refine (HOR.out _).mono ?_;rintro e w2 ⟨rfl,hb⟩)
      have HT5:=Bo (Tgb.new w2 216 0 E0 (ba p) (ba q) bb);have hb3:Below wc.heap.size wc (w2.alloc (.cells #[.int .i64 0,.string E0,.string (ba p),.string (ba q),.bool bb] 216)):=hb.alloc hb.size _;have hne:w.heap.size<w2.heap.size:=CU HG2.out hb.size;generalize w2.alloc (.cells #[.int .i64 0,.string E0,.string (ba p),.string (ba q),.bool bb] 216)=W3 at *;obtain ⟨c0,c1,c2,c3,c4,z0,z1,z2,z3,z4⟩:=H2.out.below HG2.out hb3;obtain ⟨a0,a1,a2,a3,a4,y0,y1,y2,y3,y4⟩:=HT5.out
      have HB:=Bo (Ak HB2.out hb3);clear hb hb3 H2 HB2 HG2 HT5;have n1:¬w.heap.size=w2.heap.size:=by omega
      have n2:¬w2.heap.size=w.heap.size:=by omega
      generalize w2.heap.size=g7 at *;go_wp2_with fail
      have hB5:=(HB.out.setCell (p:=⟨g7,0,none⟩) (CP hne) (.int .i64 F)).setCell (p:=⟨g7,1,none⟩) (CP hne) (.string (ba HO));obtain ⟨W9,hW,⟨d0,d1,d2,d3,d4,_,_,_,_,_⟩,hbW⟩:=Tgb.put (((Tgb.mk c0 c1 c2 c3 c4 z0 z1 z2 z3 z4).other g7 0 (.int .i64 F) n2).other g7 1 (.string (ba HO)) n2) hB5 (CQ _) F (ba HO) (ba p) (ba q) bb;rw [hW];exact bodyPost_ret (v:=.tuple #[tv F (ba HO) (ba p) (ba q) bb,.int .i64 0]) (by simp [results,Tryz.results216,go_sem,d0,d1,d2,d3,d4]) rfl ⟨by rw [←HN.out];rfl,hbW⟩
end code
end Go.Proofs.YtldhlecknfomjaaGreatDoor.Tgt
namespace Go.Proofs.YtldhlecknfomjaaGreatDoor.Frm
open Go.RowKit Base Txt
def Rowf (w:World) (g n:Nat) (f:Nat→ByteArray):Prop:=∀j,j<n→w.cell? ⟨g,j,none⟩=some (.string (f j))∧w.frozen? ⟨g,j,none⟩=false
theorem Rowf.set {w:World} {g n:Nat} {f:Nat→ByteArray} (h:Rowf w g n f) (k:Nat) (x:ByteArray):Rowf (w.setCell ⟨g,k,none⟩ (.string x)) g n (fun j=>if j=k then x else f j):=by
 intro j hj;obtain ⟨c,z⟩:=h j hj;refine ⟨?_,by rw [World.frozen?_setCell];exact z⟩;by_cases e:j=k
 ·subst e;rw [World.cell?_setCell_same _ _ _ c];simp
 ·rw [World.cell?_setCell_other _ _ _ _ (by simp<;>omega)];simp only [if_neg e];exact c
theorem Rowf.below {w w':World} {g n:Nat} {f:Nat→ByteArray} (h:Rowf w g n f) (hg:g<w.heap.size) (hb:Below w.heap.size w w'):Rowf w' g n f:=
 fun j hj=>⟨(hb.cell (p:=⟨g,j,none⟩) hg).trans (h j hj).1,(hb.frozen (p:=⟨g,j,none⟩) hg).trans (h j hj).2⟩
theorem Rowf.congr {w:World} {g n:Nat} {f f':Nat→ByteArray} (h:Rowf w g n f) (e:∀j,j<n→f j=f' j):Rowf w g n f':=
 fun j hj=>by rw [←e j hj];exact h j hj
theorem rowf_of_own {w:World} {base:Nat} {e:TypeId} {v:Value} {n:Nat} {ss:List ByteArray} (h:w.ownsRow base e 1 v n (ss.map Value.string)) :
 ∃A c,v=.slice A n c∧(0<n→∃g,A=some ⟨g,0,none⟩∧base≤g∧g<w.heap.size∧Rowf w g n (fun j=>ss[j]?.getD A6)):=by
 have hl:ss.length=n:=by simpa using h.1
 rcases h.2 with ⟨rfl,rfl⟩ | ⟨g,cap,cur,rfl,hbg,hh,hnc,_,hsz,ht⟩
 ·exact ⟨none,0,rfl,fun h=>absurd h (by omega)⟩
 ·refine ⟨_,_,rfl,fun _=>⟨g,rfl,hbg,?_,fun k hk=>⟨?_,?_⟩⟩⟩
  ·exact XXPZ2
  ·rw [cell_of_row w g k cur e (0,0) hh];exact XX100
  ·unfold World.frozen?;simp only [hh];simp
def norm (tb:Bool) (v:ByteArray):ByteArray:=lower (if tb=true then trimOf v blanksOf else v)
theorem norm_is (tb:Bool) (v:ByteArray):decide (norm tb v=chunked)=isC tb v:=lower_chunked _
def mixN (tb:Bool) (ls:List ByteArray) (k:Nat) (j:Nat):ByteArray:=if j<k then norm tb (ls[j]?.getD A6) else ls[j]?.getD A6
theorem count_snoc (bs:List Bool) (k:Nat) (h:k<bs.length):(bs.take (k+1)).countP id=(bs.take k).countP id+(if bs[k]=true then 1 else 0):=by
 rw [CF h,List.countP_append]
 congr 1
 cases bs[k]<;>rfl
section code
set_option maxHeartbeats 4000000
set_option maxRecDepth 10000
attribute [local go_sem] Al
theorem rcoding_any (p:Nat) (hp:p<4294967296) (a:Option Addr) (n cap:Nat) (vs:List ByteArray) (w:World) (hv:Strs w a n vs) (hr:room vs≤1000000000) :
 Calls EG 239 #[.int .u32 (p:Nat),.slice a n cap] w fun e w'=>e=.returned (.bool (coding (Do p 17) (Do p 18) vs))∧Below w.heap.size w w':=by
 have HL:=Bo (rlist_own a n cap vs w hv hr)
 have H17:=Bo (fun w=>Dq p hp 17 w)
 have H18:=Bo (fun w=>Dq p hp 18 w)
 have HM:=Bo (fun x hx=>CT (list_mem_size vs x hx) hr);have hlr:=CT (list_le vs) hr;have HX:coding (Do p 17) (Do p 18) vs=((decide (((list vs).map (isC (Do p 17))).countP id=1)&&((list vs).map (isC (Do p 17))).getLastD false)&&(decide ((list vs).length=1)||Do p 18)):=by rw [only_count];rfl
 rw [HX];clear HX hv hr hp;generalize list vs=ls at *;generalize Do p 17=tb at *;generalize Do p 18=tl at *;obtain ⟨m,hm⟩:∃m,ls.length=m:=⟨_,rfl⟩;rw [hm] at HL hlr ⊢
 have HSZ:=Bo (fun k (hk:k<m)=>show (ls[k]?.getD A6).size≤1000000000 by
  rw [BT (by omega)]
  exact HM.out _ (Cb _))
 obtain ⟨bs,hbs⟩:∃bs,ls.map (isC tb)=bs:=⟨_,rfl⟩;rw [hbs]
 have HBL:=Bo (show bs.length=m by rw [←hbs,Co,hm])
 have HBA:=Bo (fun k (hk:k<m)=>show bs[k]'(by rw [HBL.out];exact hk)=isC tb (ls[k]?.getD A6) by simp only [←hbs,List.getElem_map];rw [BT (by omega)];rfl)
 clear HM hbs hm;obtain ⟨R,hR0⟩:∃R,((decide (bs.countP id=1)&&bs.getLastD false)&&(decide (m=1)||tl))=R:=⟨_,rfl⟩;rw [hR0];have HRR:=Bo hR0;clear hR0;rcases CO m with h0 | h0
 ·subst h0;have e0:bs= []:=BM HBL.out;subst e0
  have HRF:=Bo (show R=false from HRR.out.symm);clear HBA HBL HSZ hlr HRR;go_enter Tryz.func239,Tryz.ntmps239
  go_wp2_with (go_at_call 142;with_reducible refine (HL.out).mono ?_;rintro e w1 ⟨v,rfl,ho,hb⟩
               obtain ⟨A1,c1,rfl,_⟩:=rowf_of_own ho;have HB:=Bo hb;clear ho hb)
  go_loopw [6] (fun i wr=>i=.int .i64 0∧wr=w1) (fun i _=>0)
  case atStart=>exact ⟨rfl,rfl⟩
  case round=>
   obtain ⟨rfl,rfl⟩:=hrel;go_wp2_with fail
   go_loopw [7,8] (fun c i wr'=>c=.int .i64 0∧i=.int .i64 0∧wr'=wr) (fun _ i _=>0)
   case atStart=>exact ⟨rfl,rfl,rfl⟩
   case round=>obtain ⟨rfl,rfl,rfl⟩:=hrel;go_wp2_with fail;go_ret;exact ⟨by rw [HRF.out];rfl,HB.out⟩
 have HT:=Bo (fun v (hv:v.size≤1000000000) w=>rtrimOf_any v ⟨#[11,12,32,9]⟩ w (by decide) (CT hv (by decide)))
 have HLo:=Bo (fun v (hv:v.size≤1000000000) w=>rlower_any v w (CT hv (by decide)))
 have HTZ:=Bo (fun v (hv:v.size≤1000000000)=>show (trimOf v ⟨#[11,12,32,9]⟩).size≤1000000000 from CT (trim_size _ _) hv)
 have HC1:=Bo (show IntKind.i64.wrap ((m:Int)-1)=((m-1:Nat):Int) by rw [Base.wrap_in _ (by omega) (by omega)];omega)
 have HC2:=Bo (show wrap64 ((m:Int)-1)=((m-1:Nat):Int) by unfold wrap64;omega);go_enter Tryz.func239,Tryz.ntmps239
 go_wp2_with (go_at_call 142;with_reducible refine (HL.out).mono ?_;rintro e w1 ⟨v,rfl,ho,hb⟩
              obtain ⟨A1,c3,rfl,ho2⟩:=rowf_of_own ho;obtain ⟨g,rfl,hg,hlt,hR⟩:=ho2 h0
              have HR0:=Bo (show Rowf w1 g m (mixN tb ls 0) from hR.congr fun j _=>by simp [mixN]);have HB:=Bo hb;clear ho hb ho2 hR)
 go_loopw [6] (fun i wr=>∃k:Nat,k≤m∧i=.int .i64 k∧Hid (Below w.heap.size w wr)∧Hid (Rowf wr g m (mixN tb ls k))∧g<wr.heap.size) (fun i _=>m-(intOf i).toNat)
 case atStart=>exact ⟨0,CX _,rfl,HB,HR0,hlt⟩
 case round=>
  obtain ⟨k,hk,rfl,hbr,hR,hgl⟩:=hrel;rcases CV k m with hlk | hge
  ·obtain ⟨hck,hzk⟩:=hR.out k hlk;have hsz:=HSZ.out k hlk;rw [show mixN tb ls k k=ls[k]?.getD A6 from if_neg (Nat.lt_irrefl k)] at hck
   have HS:=Bo (fun x (hx:x=norm tb (ls[k]?.getD A6)) (w':World) (h:Rowf w' g m (mixN tb ls k))=>show Rowf (w'.setCell ⟨g,k,none⟩ (.string x)) g m (mixN tb ls (k+1)) from (h.set k x).congr fun j hj=>by
    unfold mixN;by_cases e:j=k
    ·rw [if_pos e,if_pos (by omega),hx,e]
    ·rw [if_neg e];by_cases e2:j<k
     ·rw [if_pos e2,if_pos (by omega)]
     ·rw [if_neg e2,if_neg (by omega)])
   have HS2:=Bo (fun T x (hx:x=norm tb (ls[k]?.getD A6)) (w':World) (h:Rowf w' g m (fun j=>if j=k then T else mixN tb ls k j))=>show Rowf (w'.setCell ⟨g,k,none⟩ (.string x)) g m (mixN tb ls (k+1)) from (h.set k x).congr fun j hj=>by
    unfold mixN;by_cases e:j=k
    ·rw [if_pos e,if_pos (by omega),hx,e]
    ·rw [if_neg e,if_neg e];by_cases e2:j<k
     ·rw [if_pos e2,if_pos (by omega)]
     ·rw [if_neg e2,if_neg (by omega)])
   generalize ls[k]?.getD A6=x at *;have i1:(k:Int)<(m:Int):=by omega
   cases tb with
   | false=>
     have HC:=Bo (HLo.out x hsz)
     have HY:=Bo (show lower x=norm false x from rfl);generalize lower x=y at *;clear HT HTZ hsz
     go_wp2_with (first
      |(go_at_call 67;with_reducible refine Cm (H17.out _) ?_)
      |(go_at_call 134;(with_reducible refine (HC.out _).mono ?_);rintro e w3 ⟨rfl,hb⟩
        have HB3:=Bo (Ak hbr.out hb);have hR3:=hR.out.below hgl hb;have hg3:=CU hgl hb.size;clear hck hzk;obtain ⟨hck,hzk⟩:=hR3 k hlk;have HR3:=Bo hR3;clear hb hR3))
     go_roundw
     case rel=>exact ⟨k+1,by omega,by go_num,Bo (HB3.out.setCell hg _),Bo (HS.out _ HY.out _ HR3.out),by simpa using hg3⟩
     case measure=>simp [intOf];omega
   | true=>
     have HT2:=Bo (HT.out x hsz);have hsT:=HTZ.out x hsz
     have HY0:=Bo (show lower (trimOf x ⟨#[11,12,32,9]⟩)=norm true x from rfl);generalize trimOf x ⟨#[11,12,32,9]⟩=T at *
     have HC:=Bo (HLo.out T hsT)
     have HRT:=Bo (hR.out.set k T)
     have HBT:Hid (Below w.heap.size w (wr.setCell ⟨g,k,none⟩ (.string T))):=Bo (hbr.out.setCell hg _);have hgT:g<(wr.setCell ⟨g,k,none⟩ (.string T)).heap.size:=by simpa using hgl
     generalize lower T=y at *;clear HT HTZ hsz hsT
     go_wp2_with (first
      |(go_at_call 67;with_reducible refine Cm (H17.out _) ?_)
      |(go_at_call 158;with_reducible refine Cm (HT2.out _) ?_)
      |(go_at_call 134;(with_reducible refine (HC.out _).mono ?_);rintro e w3 ⟨rfl,hb⟩
        have HB3:=Bo (Ak HBT.out hb);have hR3:=HRT.out.below hgT hb;have hg3:=CU hgT hb.size;clear hck hzk;obtain ⟨hck,hzk⟩:=hR3 k hlk;have HR3:=Bo hR3;clear hb hR3))
     go_roundw
     case rel=>exact ⟨k+1,by omega,by go_num,Bo (HB3.out.setCell hg _),Bo (HS2.out _ _ HY0.out _ HR3.out),by simpa using hg3⟩
     case measure=>simp [intOf];omega
  ·obtain rfl:k=m:=by omega
   have HRk:=Bo (hR.out.congr (f':=fun j=>norm tb (ls[j]?.getD A6)) fun j hj=>if_pos hj);have HBk:=hbr;clear hR hbr HR0 HT HLo HTZ HSZ H17 HL;go_wp2_with fail
   go_loop [7,8] (fun c i=>∃j:Nat,j≤k∧i=.int .i64 j∧∃q:Nat,c=.int .i64 q∧q≤j∧Hid (q=(bs.take j).countP id)) (fun _ i=>k-(intOf i).toNat)
   case atStart=>exact ⟨0,CX _,rfl,0,rfl,CQ _,Bo rfl⟩
   case round=>
    obtain ⟨j,hj,rfl,q,rfl,hqj,HQ⟩:=hrel;rcases CV j k with hlj | hgj
    ·have hcj:wr.cell? ⟨g,j,none⟩=some (.string (norm tb (ls[j]?.getD A6))):=(HRk.out j hlj).1
     have HN:=Bo (count_snoc bs j (by rw [HBL.out];exact hlj));have hbj:=HBA.out j hlj;rw [←norm_is] at hbj;have HBJ:=Bo hbj;clear hbj;generalize norm tb (ls[j]?.getD A6)=x at *;have i1:(j:Int)<(k:Int):=by omega
     have hq1:q+1≤j+1:=by omega
     have hq2:q≤j+1:=by omega
     have hj1:j+1≤k:=by omega
     have c3:wrap64 ((q:Int)+1)=((q+1:Nat):Int):=by unfold wrap64;omega
     by_cases hx:x=chunked
     ·have H2:=Bo (show q+1=(bs.take (j+1)).countP id by
       rw [HN.out,HBJ.out,decide_eq_true hx,if_pos rfl,←HQ.out])
      obtain ⟨t1,t2⟩:=Tgt.eq_facts x [99,104,117,110,107,101,100] true (decide_eq_true (by rw [hx]));clear HN HBJ hx;go_wp2_with fail;clear c3;go_round
      case rel=>exact ⟨j+1,hj1,by go_num,q+1,rfl,hq1,H2⟩
      case measure=>simp [intOf];omega
     ·have H2:=Bo (show q=(bs.take (j+1)).countP id by
       rw [HN.out,HBJ.out,decide_eq_false hx,if_neg (by decide),←HQ.out];rfl)
      obtain ⟨t1,t2⟩:=Tgt.eq_facts x [99,104,117,110,107,101,100] false (decide_eq_false fun e=>hx (ba_ext e));clear HN HBJ hx c3;go_wp2_with fail;go_round
      case rel=>exact ⟨j+1,hj1,by go_num,q,rfl,hq2,H2⟩
      case measure=>simp [intOf];omega
    ·obtain rfl:j=k:=by omega
     have hcl:wr.cell? ⟨g,j-1,none⟩=some (.string (norm tb (ls[j-1]?.getD A6))):=(HRk.out (j-1) (by omega)).1;have hQ:=HQ.out;rw [CE (by rw [HBL.out];exact CQ _)] at hQ;have hRR:=HRR.out;rw [←hQ] at hRR;have hlast:bs.getLastD false=decide (norm tb (ls[j-1]?.getD A6)=chunked):=by rw [norm_is,←HBA.out (j-1) (by omega),List.getLastD_eq_getLast?,List.getLast?_eq_getElem?,show bs.length-1=j-1 by rw [HBL.out],BT (by rw [HBL.out];omega)];rfl
     rw [hlast] at hRR;have HR2:=Bo hRR;have HJ:=Bo hgj;have c1:=HC1.out;have c2:=HC2.out;clear hQ hlast HQ HBA HBL hgj hRR HRR HC1 HC2;generalize norm tb (ls[j-1]?.getD A6)=x at *;have i1:((j-1:Nat):Int)<(j:Int):=by omega
     generalize j-1=j1 at *;by_cases hq:q=1
     ·have t0:((q:Int)==1)=true:=beq_iff_eq.2 (by omega);by_cases hx:x=chunked
      ·obtain ⟨t1,t2⟩:=Tgt.eq_facts x [99,104,117,110,107,101,100] true (decide_eq_true (by rw [hx]));by_cases h1:j=1
       ·have t3:((j:Int)==1)=true:=beq_iff_eq.2 (by omega)
        have HH:=Bo (show R=true by rw [←HR2.out,decide_eq_true hq,decide_eq_true hx,decide_eq_true h1];rfl);clear h1 hq hx HR2;go_wp2_with fail;go_ret;exact ⟨by rw [HH.out];rfl,HBk.out⟩
       ·have t3:((j:Int)==1)=false:=beq_eq_false_iff_ne.2 (by omega)
        have HH:=Bo (show R=tl by rw [←HR2.out,decide_eq_true hq,decide_eq_true hx,decide_eq_false h1];rfl);clear h1 hq hx HR2
        go_wp2_with (go_at_call 67;with_reducible refine Cm (H18.out _) ?_);go_ret;exact ⟨by rw [HH.out];rfl,HBk.out⟩
      ·obtain ⟨t1,t2⟩:=Tgt.eq_facts x [99,104,117,110,107,101,100] false (decide_eq_false fun e=>hx (ba_ext e))
       have HH:=Bo (show R=false by rw [←HR2.out,decide_eq_true hq,decide_eq_false hx];rfl);clear hq hx HR2;go_wp2_with fail;go_ret;exact ⟨by rw [HH.out];rfl,HBk.out⟩
     ·have t0:((q:Int)==1)=false:=beq_eq_false_iff_ne.2 (by omega)
      have HH:=Bo (show R=false by rw [←HR2.out,decide_eq_false hq];rfl);clear hq HR2;go_wp2_with fail;go_ret;exact ⟨by rw [HH.out];rfl,HBk.out⟩
end code
end Go.Proofs.YtldhlecknfomjaaGreatDoor.Frm
namespace Go.Proofs.YtldhlecknfomjaaGreatDoor.Frm
open Go.RowKit Base Txt
section code
set_option maxHeartbeats 4000000
set_option maxRecDepth 10000
attribute [local go_sem] Al
theorem XXWY6 {P:Prop} (h:P:=by
 simp only at hR;have hs:=HMN.out S rfl;have hways:(K=0∧S=y)∨(¬K=0∧al=true∧S=y)∨(¬K=0∧al=false∧lf=true∧S=y)∨(¬K=0∧al=false∧lf=false∧ll=true∧S=z):=by
  by_cases hK:K=0
  ·rw [decide_eq_true hK] at hO3;exact .inl ⟨hK,by simpa using hO3⟩
  ·rw [decide_eq_false hK] at hO3;cases al
   ·cases lf
    ·cases ll
     ·simp at hO3
     ·exact .inr (.inr (.inr ⟨hK,rfl,rfl,rfl,by simpa using hO3⟩))
    ·exact .inr (.inr (.inl ⟨hK,rfl,rfl,by simpa using hO3⟩))
   ·exact .inr (.inl ⟨hK,rfl,by simpa using hO3⟩)
 have HW:=Bo hways;clear hO3 hways;have hK4:(K=0∧S=y)∨(¬K=0∧al=true∧S=y)∨(¬K=0∧al=false∧lf=true∧S=y)∨(¬K=0∧al=false∧lf=false∧ll=true∧S=z):=HW.out;clear HW;rcases hK4 with ⟨hK,rfl⟩ | ⟨hK,rfl,rfl⟩ | ⟨hK,rfl,rfl,rfl⟩ | ⟨hK,rfl,rfl,rfl,rfl⟩;all_goals
  first
   |(have tK:((((K+1:Nat)):Int)==1)=true:=beq_iff_eq.2 (by omega))
   |(have tK:((((K+1:Nat)):Int)==1)=false:=beq_eq_false_iff_ne.2 (by omega)
     have tK2:((K:Int)+1==1)=false:=beq_eq_false_iff_ne.2 (by omega);have tK3:¬(K:Int)=0:=by omega)
  have HD:=Bo (HT.out S hs);clear HT HMN;generalize hNN:Num.readOf 10 most (unplus lp S).data.toList=N at *;clear hNN;obtain ⟨N1,N2⟩:=N;simp only at HD;unfold numV at hR;simp only at hR;have hcase:(N2=22∧R=(0,400))∨((N2==22)=false∧N2=23∧R=(0,413))∨((N2==22)=false∧(N2==23)=false∧R=(N1,0)):=by
   by_cases h1:N2=22
   ·rw [if_pos h1] at hR;exact .inl ⟨h1,hR.symm⟩
   ·rw [if_neg h1] at hR;by_cases h2:N2=23
    ·rw [if_pos h2] at hR;exact .inr (.inl ⟨beq_eq_false_iff_ne.2 h1,h2,hR.symm⟩)
    ·rw [if_neg h2] at hR;exact .inr (.inr ⟨beq_eq_false_iff_ne.2 h1,beq_eq_false_iff_ne.2 h2,hR.symm⟩)
  clear hR;cases lp with
  | false=>
    rw [show unplus false S=S from rfl] at HD;rcases hcase with ⟨rfl,rfl⟩ | ⟨t1,rfl,rfl⟩ | ⟨t1,t2,rfl⟩;all_goals
     go_wp2_with (first
      |(go_at_call 67;with_reducible refine Cm (H23.out _) ?_) |(go_at_call 67;with_reducible refine Cm (H25.out _) ?_) |(go_at_call 67;with_reducible refine Cm (H26.out _) ?_)
      |(go_at_call 257;with_reducible refine Cm (HD.out _) ?_))
     go_ret2;exact ⟨rfl,HBq.out⟩
  | true=>
    rcases CO S.size with hz0 | hz0
    ·have e0:S.toList.isEmpty=true:=by
      rw [Bv,List.length_eq_zero_iff.1 (show S.data.toList.length=0 by rw [len];exact hz0)];rfl
     rw [show unplus true S=S by unfold unplus;rw [List.length_eq_zero_iff.1 (show S.data.toList.length=0 by rw [len];exact hz0)];rfl] at HD;clear hz0;rcases hcase with ⟨rfl,rfl⟩ | ⟨t1,rfl,rfl⟩ | ⟨t1,t2,rfl⟩;all_goals
      go_wp2_with (first
       |(go_at_call 67;with_reducible refine Cm (H23.out _) ?_) |(go_at_call 67;with_reducible refine Cm (H25.out _) ?_) |(go_at_call 67;with_reducible refine Cm (H26.out _) ?_)
       |(go_at_call 257;with_reducible refine Cm (HD.out _) ?_))
      go_ret2;exact ⟨rfl,HBq.out⟩
    ·obtain ⟨e1,e2,e0⟩:=first_of S hz0;have i0:(0:Int)<(S.size:Int):=by omega
     have i1:(1:Int)≤(S.size:Int):=by omega
     have i2:(S.size:Int)≤9223372036854775807:=by omega
     by_cases hp:S[0]=43
     ·have t3:(((S[0].toNat:Nat):Int)==43)=true:=by rw [hp];rfl
      rw [show unplus true S=S.extract 1 S.size from by
       unfold unplus;rw [if_pos (by rw [e1,hp];rfl)]
       exact ba_ext e2.symm] at HD
      clear e1 e2 hp;rcases hcase with ⟨rfl,rfl⟩ | ⟨t1,rfl,rfl⟩ | ⟨t1,t2,rfl⟩;all_goals
       go_wp2_with (first
        |(go_at_call 67;with_reducible refine Cm (H23.out _) ?_) |(go_at_call 67;with_reducible refine Cm (H25.out _) ?_) |(go_at_call 67;with_reducible refine Cm (H26.out _) ?_)
        |(go_at_call 257;with_reducible refine Cm (HD.out _) ?_))
       go_ret2;exact ⟨rfl,HBq.out⟩
     ·have t3:(((S[0].toNat:Nat):Int)==43)=false:=beq_eq_false_iff_ne.2 (fun e=>hp (F6.1 (show S[0].toNat=(43:UInt8).toNat from by have e43:(43:UInt8).toNat=43:=rfl;omega)))
      rw [show unplus true S=S from by
       unfold unplus
       rw [if_neg (by rw [e1,List.head?_cons];simpa using hp)]] at HD
      clear e1 e2 hp;rcases hcase with ⟨rfl,rfl⟩ | ⟨t1,rfl,rfl⟩ | ⟨t1,t2,rfl⟩;all_goals
       go_wp2_with (first
        |(go_at_call 67;with_reducible refine Cm (H23.out _) ?_) |(go_at_call 67;with_reducible refine Cm (H25.out _) ?_) |(go_at_call 67;with_reducible refine Cm (H26.out _) ?_)
        |(go_at_call 257;with_reducible refine Cm (HD.out _) ?_))
       go_ret2
       exact ⟨rfl,HBq.out⟩):P:=h
theorem XXePb {P:Prop} (h:P:=by
 simp only at hR;have hcase:¬K=0∧al=false∧lf=false∧ll=false:=by
  refine ⟨fun e=>?_,?_,?_,?_⟩
  ·rw [decide_eq_true e] at hO3;simp at hO3
  ·cases al
   ·rfl
   ·simp at hO3
  ·cases lf
   ·rfl
   ·simp at hO3
  ·cases ll
   ·rfl
   ·by_cases hx:(decide (K=0)|| (al||lf))=true
    ·rw [if_pos hx] at hO3;cases hO3
    ·rw [if_neg hx,if_pos rfl] at hO3;cases hO3
 obtain ⟨hK,rfl,rfl,rfl⟩:=hcase;subst hR
 have tK:((((K+1:Nat)):Int)==1)=false:=beq_eq_false_iff_ne.2 (by omega)
 have tK2:((K:Int)+1==1)=false:=beq_eq_false_iff_ne.2 (by omega);have tK3:¬(K:Int)=0:=by omega
 clear hO3
 go_wp2_with (first
  |(go_at_call 67;with_reducible refine Cm (H25.out _) ?_)
  |(go_at_call 67;with_reducible refine Cm (H26.out _) ?_))
 go_ret2
 exact ⟨rfl,HBq.out⟩):P:=h
theorem XXbpH {P:Prop} (h:P:=by
 go_wp2_with fail
 go_quiet (fail);rename_i nq;go_wp2;go_roundw
 case rel=>first | exact ⟨k+1,q+nq,by omega,by go_num,(World.drewN_drewN _ _ _).symm ▸ rfl,false,rfl,H2⟩ | exact ⟨k+1,q+nq,by omega,by go_num,by rw [World.drewN_drewN],false,rfl,H2⟩ | exact ⟨k+1,q+nq,by omega,by go_num,rfl,false,rfl,H2⟩
 case measure=>simp [intOf];omega):P:=h
theorem rlength_any (p:Nat) (hp:p<4294967296) (most:Int) (hM:most≤9223372036854775807) (a:Option Addr) (n cap:Nat) (vs:List ByteArray) (w:World) (hv:Strs w a n vs) (hr:room vs≤1000000000) :
 Calls EG 240 #[.int .u32 (p:Nat),.int .i64 most,.slice a n cap] w fun e w'=>e=.returned (.tuple #[.int .i64 (lengthV (Do p 23) (Do p 24) (Do p 25) (Do p 26) most vs).1,.int .i64 (lengthV (Do p 23) (Do p 24) (Do p 25) (Do p 26) most vs).2])∧Below w.heap.size w w':=by
 obtain ⟨R,hR⟩:∃R,lengthV (Do p 23) (Do p 24) (Do p 25) (Do p 26) most vs=R:=⟨_,rfl⟩;rw [hR];unfold lengthV at hR;have hl:=hv.1;by_cases hn:n=0
 ·subst hn;obtain rfl:=BM hl;rw [if_pos rfl] at hR;subst hR;go_enter Tryz.func240,Tryz.ntmps240;exact XXdKB
 have hne:vs≠ []:=fun e=>hn (by rw [←hl,e];rfl);rw [if_neg hne] at hR
 have H23:=Bo (fun w=>Dq p hp 23 w)
 have H24:=Bo (fun w=>Dq p hp 24 w)
 have H25:=Bo (fun w=>Dq p hp 25 w)
 have H26:=Bo (fun w=>Dq p hp 26 w)
 have HL:=Bo (rlist_any a n cap vs w hv hr);have hll:=CT (list_le vs) hr;have hlp:=list_ne_nil vs hne;have hnr:=CT (len_room vs) hr;rw [hl] at hnr;have hms:=list_mem_size vs;have hrm:=room_mem vs;generalize Do p 23=lp at *;generalize Do p 24=lc at *;generalize Do p 25=lf at *;generalize Do p 26=ll at *
 have HT:=Bo (fun s (hs:s.size≤1000000000) w=>Num.rdec_any most hM (unplus lp s) w (CT (unplus_size lp s) (CT hs (by decide))))
 have t0:((n:Int)==0)=false:=beq_eq_false_iff_ne.2 (by omega);clear hp hM hl;cases lc with
 | false=>
   rw [if_neg (by decide)] at hR
   have HM:=Bo (fun s (h:s∈vs)=>show s.size≤1000000000 by have:=hrm s h;omega);clear HL hll hlp hms hrm hne;obtain ⟨U,hU⟩:∃U,U=vs:=⟨_,rfl⟩;rw [←hU] at hv HM hR;clear hU;have hm:=hv.1;obtain ⟨m,hnm⟩:∃m,m=n:=⟨_,rfl⟩;have hll:m≤1000000000:=by omega
   have hlp:0<m:=by omega
   subst hnm;obtain ⟨K,rfl⟩:∃K,m=K+1:=⟨m-1,by omega⟩
   have HE:=Bo (fun (a':Option Addr) (w':World) (hS:Strs w' a' (K+1) U)=>strs_ends hS)
   have HMN:=Bo (fun (s:ByteArray) (h:counts false lf ll U=some s)=>HM.out s (counts_mem _ _ _ _ _ h (fun e=>by rw [e] at hm;simp at hm)));obtain ⟨O,hO⟩:∃O,counts false lf ll U=O:=⟨_,rfl⟩;rw [hO] at hR HMN;have HUL:=Bo hm;have hO2:O=if (decide (K=0)|| ((false&&alikeL U)||lf))=true then some (U.headD A6) else if ll=true then some (U.getLastD A6) else none:=by rw [←hO];unfold counts;rw [hm];simp
   have HO:=Bo hO2;clear hO hO2 HM hm
   have HN:=Bo (fun k (hk:k<K+1)=>take_all_snoc (fun v:ByteArray=>decide (v=U.headD A6)) A6 U k (by rw [HUL.out];exact hk))
   have HA:=Bo (show (U.take (K+1)).all (fun v=>decide (v=U.headD A6))=alikeL U by rw [CE (by rw [HUL.out];exact CQ _)];rfl)
   have HC1:=Bo (show IntKind.i64.wrap (((K+1:Nat):Int)-1)=(K:Int) by rw [wrap_in _ (by omega) (by omega)];omega)
   have HC2:=Bo (show wrap64 (((K+1:Nat):Int)-1)=(K:Int) by unfold wrap64;omega);have HS:=Bo hv;obtain ⟨w1,hw1⟩:∃x,x=w:=⟨_,rfl⟩
   have HB:Hid (Below w.heap.size w w1):=Bo (hw1 ▸ Am _ _);rw [←hw1] at HS hv ⊢;rw [hw1] at HB;rw [←hw1] at HB;obtain ⟨bl,off,rfl,hd0,hz0⟩:=HE.out _ _ hv;have HD0:=Bo hd0;have HZ0:=Bo hz0;clear hv hd0 hz0 hw1;go_enter Tryz.func240,Tryz.ntmps240
   go_wp2_with (go_at_call 67;with_reducible refine Cm (H24.out _) ?_)
   go_loopw [9,10] (fun al i wr=>∃k q:Nat,k≤K+1∧i=.int .i64 k∧wr=w1.drewN q∧∃b:Bool,al=.bool b∧Hid (false=b)) (fun _ i _=>K+1-(intOf i).toNat)
   case atStart=>exact ⟨0,0,CX _,rfl,rfl,false,rfl,Bo rfl⟩
   case round=>
    obtain ⟨k,q,hk,rfl,rfl,al,rfl,HAL⟩:=hrel;rcases CV k (K+1) with hlt | hge
    ·have i1:(k:Int)<((K+1:Nat):Int):=by omega
     have i0:(0:Int)<((K+1:Nat):Int):=by omega
     obtain rfl:al=false:=HAL.out.symm;go_wp2_with fail
     go_quiet (fail);rename_i nq;go_wp2;go_roundw
     case rel=>first | exact ⟨k+1,q+nq,by omega,by go_num,(World.drewN_drewN _ _ _).symm ▸ rfl,false,rfl,Bo rfl⟩ | exact ⟨k+1,q+nq,by omega,by go_num,by rw [World.drewN_drewN],false,rfl,Bo rfl⟩ | exact ⟨k+1,q+nq,by omega,by go_num,rfl,false,rfl,Bo rfl⟩
     case measure=>simp [intOf];omega
    ·obtain rfl:k=K+1:=by omega
     have HAL2:=Bo (show (false&&alikeL U)=al by exact HAL.out);have hbd:Below w1.heap.size w1 (w1.drewN q):=Aj (Am _ _) q
     obtain ⟨bl2,off2,he2,hd,hz⟩:=HE.out _ _ (HS.out.below hbd);obtain ⟨rfl,rfl⟩:bl=bl2∧off=off2:=by simpa using he2
     have HBq:=Bo (Ak HB.out hbd);have hO3:=HO.out;rw [HAL2.out] at hO3;have c1:=HC1.out;have c2:=HC2.out;have i0:(0:Int)<((K+1:Nat):Int):=by omega
     have iK:(K:Int)<((K+1:Nat):Int):=by omega
     clear he2 hbd HE HN HA HC1 HC2 HO HAL HAL2 HS HB HD0 HZ0;generalize w1.drewN q=wq at *;generalize U.headD A6=y at *;generalize U.getLastD A6=z at *;cases O with
     | none=>
       exact XXePb
     | some S=>
       exact XXWY6
 | true=>
   rw [if_pos rfl] at hR
   have HM:=Bo (fun s (h:s∈list vs)=>show s.size≤1000000000 from CT (hms s h) hr);clear hv hms hrm hne;generalize list vs=U at *;obtain ⟨m,hm⟩:∃m,U.length=m:=⟨_,rfl⟩;rw [hm] at HL hll hlp;obtain ⟨K,rfl⟩:∃K,m=K+1:=⟨m-1,by omega⟩
   have HE:=Bo (fun (a':Option Addr) (w':World) (hS:Strs w' a' (K+1) U)=>strs_ends hS)
   have HMN:=Bo (fun (s:ByteArray) (h:counts true lf ll U=some s)=>HM.out s (counts_mem _ _ _ _ _ h (fun e=>by rw [e] at hm;simp at hm)));obtain ⟨O,hO⟩:∃O,counts true lf ll U=O:=⟨_,rfl⟩;rw [hO] at hR HMN;have HUL:=Bo hm;have hO2:O=if (decide (K=0)|| ((true&&alikeL U)||lf))=true then some (U.headD A6) else if ll=true then some (U.getLastD A6) else none:=by rw [←hO];unfold counts;rw [hm];simp
   have HO:=Bo hO2;clear hO hO2 HM hm
   have HN:=Bo (fun k (hk:k<K+1)=>take_all_snoc (fun v:ByteArray=>decide (v=U.headD A6)) A6 U k (by rw [HUL.out];exact hk))
   have HA:=Bo (show (U.take (K+1)).all (fun v=>decide (v=U.headD A6))=alikeL U by rw [CE (by rw [HUL.out];exact CQ _)];rfl)
   have HC1:=Bo (show IntKind.i64.wrap (((K+1:Nat):Int)-1)=(K:Int) by rw [wrap_in _ (by omega) (by omega)];omega)
   have HC2:=Bo (show wrap64 (((K+1:Nat):Int)-1)=(K:Int) by unfold wrap64;omega);go_enter Tryz.func240,Tryz.ntmps240
   go_wp2_with (first
    |(go_at_call 67;with_reducible refine Cm (H24.out _) ?_)
    |(go_at_call 142;with_reducible refine (HL.out).mono ?_;rintro e w1 ⟨b,m2,c,rfl,hm2,hS,hb⟩
      rw [hm2] at hS ⊢;clear hm2;have HS:=Bo hS;have HB:=Bo hb;obtain ⟨bl,off,rfl,hd0,hz0⟩:=HE.out _ _ hS;have HD0:=Bo hd0;have HZ0:=Bo hz0;clear hS hb hd0 hz0))
   go_loopw [9,10] (fun al i wr=>∃k q:Nat,k≤K+1∧i=.int .i64 k∧wr=w1.drewN q∧∃b:Bool,al=.bool b∧Hid ((U.take k).all (fun v=>decide (v=U.headD A6))=b)) (fun _ i _=>K+1-(intOf i).toNat)
   case atStart=>exact ⟨0,0,CX _,rfl,rfl,true,rfl,Bo rfl⟩
   case round=>
    obtain ⟨k,q,hk,rfl,rfl,al,rfl,HAL⟩:=hrel;rcases CV k (K+1) with hlt | hge
    ·have i1:(k:Int)<((K+1:Nat):Int):=by omega
     have i0:(0:Int)<((K+1:Nat):Int):=by omega
     obtain ⟨bl2,off2,he2,_,hc⟩:=HS.out.2 (by omega);obtain ⟨rfl,rfl⟩:bl=bl2∧off=off2:=by simpa using he2
     have hck:=hc k hlt;have hc0:=HD0.out
     have HNk:=Bo (HN.out k hlt);clear hc he2;cases al with
     | false=>
       have H2:=Bo (show (U.take (k+1)).all (fun v=>decide (v=U.headD A6))=false by rw [HNk.out,HAL.out];rfl);clear HNk hck hc0;exact XXbpH
     | true=>
       by_cases he:U[k]?.getD A6=U.headD A6
       ·have H2:=Bo (show (U.take (k+1)).all (fun v=>decide (v=U.headD A6))=true by rw [HNk.out,HAL.out,he];simp);rw [he] at hck;clear HNk he;generalize U.headD A6=y at *;go_wp2_with fail
        go_quiet (fail);rename_i nq;go_wp2;go_roundw
        case rel=>first | exact ⟨k+1,q+nq,by omega,by go_num,(World.drewN_drewN _ _ _).symm ▸ rfl,true,rfl,H2⟩ | exact ⟨k+1,q+nq,by omega,by go_num,by rw [World.drewN_drewN],true,rfl,H2⟩ | exact ⟨k+1,q+nq,by omega,by go_num,rfl,true,rfl,H2⟩
        case measure=>simp [intOf];omega
       ·have H2:=Bo (show (U.take (k+1)).all (fun v=>decide (v=U.headD A6))=false by rw [HNk.out,HAL.out,decide_eq_false he];rfl);generalize U[k]?.getD A6=x at *;generalize U.headD A6=y at *
        have he2:¬x.toList=y.toList:=fun h=>he ((toList_iff x y).1 h);have he3:(x.toList==y.toList)=false:=by simpa using he2
        clear HNk he;exact XXbpH
    ·obtain rfl:k=K+1:=by omega
     have HAL2:=Bo (show (true&&alikeL U)=al by rw [Az,←HA.out];exact HAL.out);have hbd:Below w1.heap.size w1 (w1.drewN q):=Aj (Am _ _) q
     obtain ⟨bl2,off2,he2,hd,hz⟩:=HE.out _ _ (HS.out.below hbd);obtain ⟨rfl,rfl⟩:bl=bl2∧off=off2:=by simpa using he2
     have HBq:=Bo (Ak HB.out hbd);have hO3:=HO.out;rw [HAL2.out] at hO3;have c1:=HC1.out;have c2:=HC2.out;have i0:(0:Int)<((K+1:Nat):Int):=by omega
     have iK:(K:Int)<((K+1:Nat):Int):=by omega
     clear he2 hbd HE HN HA HC1 HC2 HO HAL HAL2 HS HB HD0 HZ0;generalize w1.drewN q=wq at *;generalize U.headD A6=y at *;generalize U.getLastD A6=z at *;cases O with
     | none=>
       exact XXePb
     | some S=>
       exact XXWY6
end code
end Go.Proofs.YtldhlecknfomjaaGreatDoor.Frm
namespace Go.Proofs.YtldhlecknfomjaaGreatDoor.Frm
open Go.RowKit Base Txt
theorem rfind_at (a:Option Addr) (n cap:Nat) (fs:List Fld) (name:ByteArray) (w:World) (hv:Flds w a n fs) (hn:n≤1000000000) (hs:∀f∈fs,f.1.size≤1000000000) (ht:name.size≤1000000000) :
 Calls EG 32 #[.slice a n cap,.string name] w fun e w'=>∃b c,e=.returned (.slice b (find fs name).length c)∧Strs w' b (find fs name).length (find fs name)∧Below w.heap.size w w':=
 (rfind_any a n cap fs name w hv hn hs ht).mono (by rintro e w' ⟨b,m,c,rfl,rfl,hS,hb⟩;exact ⟨b,c,rfl,hS,hb⟩)
theorem hosts_old (nh mh:Bool) (h:List ByteArray) (h0:h.length=0) (hn:nh=true):hostsV nh mh 1 h=0:=by obtain rfl:=BM h0;rw [hosts_none,hn];rfl
section code
set_option maxHeartbeats 4000000
set_option maxRecDepth 10000
attribute [local go_sem] Al
theorem rhosts_any (p:Nat) (hp:p<4294967296) (minor:Int) (a:Option Addr) (n cap:Nat) (fs:List Fld) (w:World) (hv:Flds w a n fs) (hn:n≤1000000000) (hs:∀f∈fs,f.1.size≤1000000000∧f.2.size≤1000000000) :
 Calls EG 238 #[.int .u32 (p:Nat),.int .i64 minor,.slice a n cap] w fun e w'=>e=.returned (.int .i64 (hostsV (Do p 15) (Do p 16) minor (find fs hostN)))∧Below w.heap.size w w':=by
 have HF:=Bo (rfind_at a n cap fs ⟨#[72,111,115,116]⟩ w hv hn (fun f hf=>(hs f hf).1) (by decide))
 have H15:=Bo (fun w=>Dq p hp 15 w)
 have H16:=Bo (fun w=>Dq p hp 16 w)
 have hsz:=find_sizes fs ⟨#[72,111,115,116]⟩ 1000000000 (fun f hf=>(hs f hf).2);have hle:=find_le fs ⟨#[72,111,115,116]⟩;rw [hv.1] at hle
 have HT:=Bo (fun v (hv:v.size≤1000000000) w=>Tgt.rhost_any v w hv);obtain ⟨R,hR⟩:∃R,hostsV (Do p 15) (Do p 16) minor (find fs ⟨#[72,111,115,116]⟩)=R:=⟨_,rfl⟩;rw [show hostsV (Do p 15) (Do p 16) minor (find fs hostN)=R from hR];clear hv hs hp;generalize find fs ⟨#[72,111,115,116]⟩=H at *;obtain ⟨nh,hnh⟩:∃nh,Do p 15=nh:=⟨_,rfl⟩;rw [hnh] at H15 hR;obtain ⟨mh,hmh⟩:∃mh,Do p 16=mh:=⟨_,rfl⟩;rw [hmh] at H16 hR;clear hmh hnh;obtain ⟨m,hm⟩:∃m,H.length=m:=⟨_,rfl⟩;rw [hm] at HF hle
 have HSZ:=Bo (fun k (hk:k<m)=>show (H[k]?.getD A6).size≤1000000000 by
  rw [BT (by omega)]
  exact hsz _ (Cb _))
 have HM:=Bo hm;clear hsz;by_cases hA:minor=1∧m=0∧nh=false
 ·obtain ⟨rfl,rfl,rfl⟩:=hA;obtain rfl:=BM hm;rw [hosts_none] at hR
  replace hR:R=400:=hR.symm
  subst hR;clear hm HSZ HM HT;go_enter Tryz.func238,Tryz.ntmps238
  go_wp2_with (first
   |(go_at_call 32;with_reducible refine (HF.out).mono ?_;rintro e w1 ⟨b,c,rfl,hS,hb⟩;clear hS)
   |(go_at_call 67;with_reducible refine Cm (H15.out _) ?_))
  go_ret;exact ⟨rfl,hb⟩
 by_cases hB:1<m∧mh=false
 ·obtain ⟨h1,rfl⟩:=hB;rw [hosts_many nh minor H (by omega)] at hR;subst hR
  have t0:((m:Int)==0)=false:=beq_eq_false_iff_ne.2 (by omega);have t1:(1:Int)<(m:Int):=by omega
  clear hm hA HSZ HM HT;rcases (by omega:minor=1∨¬minor=1) with rfl | h2;all_goals
   try (have t2:(minor==1)=false:=beq_eq_false_iff_ne.2 h2)
   go_enter Tryz.func238,Tryz.ntmps238
   go_wp2_with (first
    |(go_at_call 32;with_reducible refine (HF.out).mono ?_;rintro e w1 ⟨b,c,rfl,hS,hb⟩;clear hS)
    |(go_at_call 67;with_reducible refine Cm (H16.out _) ?_))
   go_ret;exact ⟨rfl,hb⟩
 have hR2:R=if (H.all fun v=>Tgt.hostB v.data.toList)=true then 0 else 400:=by
  by_cases h10:minor=1∧m=0
  ·obtain ⟨rfl,rfl⟩:=h10;cases nh
   ·exact absurd ⟨rfl,rfl,rfl⟩ hA
   ·rw [←hR,hosts_old true mh H hm rfl,BM hm];rfl
  ·rw [←hR]
   exact hosts_loop nh mh minor H (by rw [hm];exact h10) (by
    rcases (by omega:m≤1∨1<m) with h | h
    ·exact .inl (by omega)
    ·right;cases mh
     ·exact absurd ⟨h,rfl⟩ hB
     ·rfl)
 have HR:=Bo hR2;clear hR hR2 hm;have hcase:(m=0∧(¬minor=1∨(minor=1∧nh=true)))∨(m=1∧(¬minor=1∨minor=1))∨((1<m∧mh=true)∧(¬minor=1∨minor=1)):=by
  rcases (by omega:m=0∨m=1∨1<m) with h | h | h
  ·refine .inl ⟨h,?_⟩;by_cases h2:minor=1
   ·right;cases nh
    ·exact absurd ⟨h2,h,rfl⟩ hA
    ·exact ⟨h2,rfl⟩
   ·exact .inl h2
  ·exact .inr (.inl ⟨h,by omega⟩)
  ·refine .inr (.inr ⟨⟨h,?_⟩,by omega⟩);cases mh
   ·exact absurd ⟨h,rfl⟩ hB
   ·rfl
 clear hA hB;rcases hcase with ⟨h0,hmi⟩ | ⟨h0,hmi⟩ | ⟨⟨h0,rfl⟩,hmi⟩
 ·obtain rfl:=h0
  have H3:=Bo (show R=0 from by rw [HR.out,BM HM.out];rfl);rcases hmi with h2 | ⟨rfl,rfl⟩;all_goals
   try (have t2:(minor==1)=false:=beq_eq_false_iff_ne.2 h2)
   go_enter Tryz.func238,Tryz.ntmps238
   go_wp2_with (first
    |(go_at_call 32;with_reducible refine (HF.out).mono ?_;rintro e w1 ⟨b,c,rfl,hS,hb⟩;clear hS
      have HB:=Bo hb;clear hb)
    |(go_at_call 67;with_reducible refine Cm (H15.out _) ?_))
   go_loopw [8] (fun i wr=>i=.int .i64 0∧wr=w1) (fun i _=>0)
   case atStart=>exact ⟨rfl,rfl⟩
   case round=>obtain ⟨rfl,rfl⟩:=hrel;go_wp2_with fail;go_ret;exact ⟨by rw [H3.out];rfl,HB.out⟩
 all_goals
  have t0:((m:Int)==0)=false:=beq_eq_false_iff_ne.2 (by omega);first
   |(have t1:(1:Int)<(m:Int):=by omega)
   |(have t1:¬(1:Int)<(m:Int):=by omega)
  clear h0;rcases hmi with h2 | rfl;all_goals
   try (have t2:(minor==1)=false:=beq_eq_false_iff_ne.2 h2)
   go_enter Tryz.func238,Tryz.ntmps238
   go_wp2_with (first
    |(go_at_call 32;with_reducible refine (HF.out).mono ?_;rintro e w1 ⟨b,c,rfl,hS,hb⟩
      have HS:=Bo hS;have HB:=Bo hb;clear hS hb)
    |(go_at_call 67;with_reducible refine Cm (H16.out _) ?_))
   go_loopw [8] (fun i wr=>∃k:Nat,k≤m∧i=.int .i64 k∧Hid (Below w1.heap.size w1 wr)∧Hid ((H.take k).all (fun v=>Tgt.hostB v.data.toList)=true)) (fun i _=>m-(intOf i).toNat)
   case atStart=>exact ⟨0,CX _,rfl,Bo (Am _ _),Bo rfl⟩
   case round=>
    obtain ⟨k,hk,rfl,hbr,H1⟩:=hrel;rcases CV k m with hlt | hge
    ·obtain ⟨bl,off,rfl,hbl,hc⟩:=(HS.out.below hbr.out).2 (by omega);have hck:=hc k hlt
     have HN:=Bo (take_all_snoc (fun v:ByteArray=>Tgt.hostB v.data.toList) A6 H k (by rw [HM.out];exact hlt))
     have HZ:=Bo (all_of_miss (fun v:ByteArray=>Tgt.hostB v.data.toList) A6 H k (by rw [HM.out];exact hlt))
     have HC:=Bo (HT.out _ (HSZ.out k hlt));clear hc;generalize H[k]?.getD A6=x at *;have i1:(k:Int)<(m:Int):=by omega
     generalize Tgt.hostB x.data.toList=q at *;cases q with
     | true=>
       have H2:=Bo (show (H.take (k+1)).all (fun v=>Tgt.hostB v.data.toList)=true by rw [HN.out,H1.out];rfl);clear HN HZ
       go_wp2_with (go_at_call 235;with_reducible refine (HC.out _).mono ?_;rintro e w2 ⟨rfl,hb⟩);exact XXfTh
     | false=>
       have H2:=Bo (show R=400 by rw [HR.out,HZ.out rfl];rfl);clear HN HZ
       go_wp2_with (go_at_call 235;with_reducible refine (HC.out _).mono ?_;rintro e w2 ⟨rfl,hb⟩);exact XXteq
    ·exact XXCdJ
end code
end Go.Proofs.YtldhlecknfomjaaGreatDoor.Frm
namespace Go.Proofs.YtldhlecknfomjaaGreatDoor.Frm
open Go.RowKit Base Txt
section code
set_option maxHeartbeats 8000000
set_option maxRecDepth 10000
attribute [local go_sem] Al
theorem XXvP2 {P:Prop} (h:P:=by
 go_enter Tryz.func218,Tryz.ntmps218
 go_wp2_with (first
  |(go_at_call 67;with_reducible refine Cm (H19.out _) ?_)
  |(go_at_call 67;with_reducible refine Cm (H20.out _) ?_)
  |(go_at_call 67;with_reducible refine Cm (H21.out _) ?_)
  |(go_at_call 67;with_reducible refine Cm (H22.out _) ?_)
  |(go_at_call 240;(with_reducible refine (HL.out _ _ _ HS2.out).mono ?_);rintro e w5 ⟨rfl,hb⟩
    replace HK:=Bo (HK.out.step hb)
    (try clear q3 q8 c0 c1 z0 z1)
    obtain ⟨q3,q8,⟨c0,c1,z0,z1⟩,hlt,hbk⟩:=HK.out;clear hlt hbk hb)
  |(go_at_call 239;(with_reducible refine (HW.out _ _ _ HS1.out).mono ?_);rintro e w4 ⟨rfl,hb⟩
    replace HK:=Bo (HK.out.step hb)
    replace HS1:=Bo (HS1.out.below hb)
    replace HS2:=Bo (HS2.out.below hb)
    (try clear q3 q8 c0 c1 z0 z1)
    obtain ⟨q3,q8,⟨c0,c1,z0,z1⟩,hlt,hbk⟩:=HK.out;clear hlt hbk hb)
  |(go_at_call 32;(with_reducible refine (HF2.out _ HK.out.b).mono ?_);rintro e w3 ⟨b3,k3,rfl,hS,hb⟩
    replace HK:=Bo (HK.out.step hb)
    replace HS1:=Bo (HS1.out.below hb)
    have HS2:=Bo hS;clear hS
    (try clear q3 q8 c0 c1 z0 z1)
    obtain ⟨q3,q8,⟨c0,c1,z0,z1⟩,hlt,hbk⟩:=HK.out;clear hlt hbk hb)
  |(go_at_call 32;(with_reducible refine (HF1.out _ HK.out.b).mono ?_);rintro e w2 ⟨b2,k2,rfl,hS,hb⟩
    replace HK:=Bo (HK.out.step hb)
    have HS1:=Bo hS;clear hS
    (try clear q3 q8 c0 c1 z0 z1)
    obtain ⟨q3,q8,⟨c0,c1,z0,z1⟩,hlt,hbk⟩:=HK.out;clear hlt hbk hb)
  |(go_at_call 238;(with_reducible refine (HH.out _ HK0.out.b).mono ?_);rintro e w1 ⟨rfl,hb⟩
    have HK:=Bo (HK0.out.step hb)
    (try clear q3 q8 c0 c1 z0 z1)
    obtain ⟨q3,q8,⟨c0,c1,z0,z1⟩,hlt,hbk⟩:=HK.out;clear hlt hbk hb))
 obtain ⟨W,hW,⟨d0,d1,_,_⟩,hbW⟩:=Gb.put HK.out.f HK.out.b (CS _) 0 0;rw [hW];first
  |exact bodyPost_ret (v:=.tuple #[fr 0 0,.int .i64 Z]) (by (simp [results,Tryz.results218,go_sem,d0,d1]);first|done|fail) rfl ⟨rfl,hbW⟩
  |exact bodyPost_ret (v:=.tuple #[fr 0 0,.int .i64 le]) (by (simp [results,Tryz.results218,go_sem,d0,d1]);first|done|fail) rfl ⟨rfl,hbW⟩
  |exact bodyPost_ret (v:=.tuple #[fr 0 0,.int .i64 400]) (by (simp [results,Tryz.results218,go_sem,d0,d1]);first|done|fail) rfl ⟨rfl,hbW⟩):P:=h
theorem XXJ75 {P:Prop} (h:P:=by
 go_enter Tryz.func218,Tryz.ntmps218
 go_wp2_with (first
  |(go_at_call 67;with_reducible refine Cm (H19.out _) ?_)
  |(go_at_call 67;with_reducible refine Cm (H20.out _) ?_)
  |(go_at_call 67;with_reducible refine Cm (H21.out _) ?_)
  |(go_at_call 67;with_reducible refine Cm (H22.out _) ?_)
  |(go_at_call 240;(with_reducible refine (HL.out _ _ _ HS2.out).mono ?_);rintro e w5 ⟨rfl,hb⟩
    replace HK:=Bo (HK.out.step hb)
    (try clear q3 q8 c0 c1 z0 z1)
    obtain ⟨q3,q8,⟨c0,c1,z0,z1⟩,hlt,hbk⟩:=HK.out;clear hlt hbk hb)
  |(go_at_call 239;(with_reducible refine (HW.out _ _ _ HS1.out).mono ?_);rintro e w4 ⟨rfl,hb⟩
    replace HK:=Bo (HK.out.step hb)
    replace HS1:=Bo (HS1.out.below hb)
    replace HS2:=Bo (HS2.out.below hb)
    (try clear q3 q8 c0 c1 z0 z1)
    obtain ⟨q3,q8,⟨c0,c1,z0,z1⟩,hlt,hbk⟩:=HK.out;clear hlt hbk hb)
  |(go_at_call 32;(with_reducible refine (HF2.out _ HK.out.b).mono ?_);rintro e w3 ⟨b3,k3,rfl,hS,hb⟩
    replace HK:=Bo (HK.out.step hb)
    replace HS1:=Bo (HS1.out.below hb)
    have HS2:=Bo hS;clear hS
    (try clear q3 q8 c0 c1 z0 z1)
    obtain ⟨q3,q8,⟨c0,c1,z0,z1⟩,hlt,hbk⟩:=HK.out;clear hlt hbk hb)
  |(go_at_call 32;(with_reducible refine (HF1.out _ HK.out.b).mono ?_);rintro e w2 ⟨b2,k2,rfl,hS,hb⟩
    replace HK:=Bo (HK.out.step hb)
    have HS1:=Bo hS;clear hS
    (try clear q3 q8 c0 c1 z0 z1)
    obtain ⟨q3,q8,⟨c0,c1,z0,z1⟩,hlt,hbk⟩:=HK.out;clear hlt hbk hb)
  |(go_at_call 238;(with_reducible refine (HH.out _ HK0.out.b).mono ?_);rintro e w1 ⟨rfl,hb⟩
    have HK:=Bo (HK0.out.step hb)
    (try clear q3 q8 c0 c1 z0 z1)
    obtain ⟨q3,q8,⟨c0,c1,z0,z1⟩,hlt,hbk⟩:=HK.out;clear hlt hbk hb))
 obtain ⟨W,hW,⟨d0,d1,_,_⟩,hbW⟩:=Gb.put HK.out.f HK.out.b (CS _) 1 ln;rw [hW]
 exact bodyPost_ret (v:=.tuple #[fr 1 ln,.int .i64 0]) (by simp [results,Tryz.results218,go_sem,d0,d1]) rfl ⟨rfl,hbW⟩):P:=h
theorem rdecide_any (p:Nat) (hp:p<4294967296) (x0 x1 x2 x3 x4 x5 x6 x7:Int) (ch od:Bool) (hx:x3≤9223372036854775807) (minor:Int) (a:Option Addr) (n cap:Nat) (fs:List Fld) (w:World) (hv:Flds w a n fs) (hn:n≤500) (hs:∀f∈fs,f.1.size≤1000000∧f.2.size≤1000000) :
 Calls EG 218 #[.int .u32 (p:Nat),Bnd.bnd x0 x1 x2 x3 x4 x5 x6 x7 ch od,.int .i64 minor,.slice a n cap] w fun e w'=>e=.returned (.tuple #[fr (decideV (clOf p) ch x3 minor fs).1 (decideV (clOf p) ch x3 minor fs).2.1,.int .i64 (decideV (clOf p) ch x3 minor fs).2.2])∧Below w.heap.size w w':=by
 have HH:=Bo (fun w' hb=>rhosts_any p hp minor a n cap fs w' (hv.below (w':=w') hb) (by omega) (fun f hf=>by have:=hs f hf;omega))
 have HF1:=Bo (fun w' hb=>rfind_at a n cap fs ⟨#[84,114,97,110,115,102,101,114,45,69,110,99,111,100,105,110,103]⟩ w' (hv.below (w':=w') hb) (by omega) (fun f hf=>by have:=hs f hf;omega) (by decide))
 have HF2:=Bo (fun w' hb=>rfind_at a n cap fs ⟨#[67,111,110,116,101,110,116,45,76,101,110,103,116,104]⟩ w' (hv.below (w':=w') hb) (by omega) (fun f hf=>by have:=hs f hf;omega) (by decide));have hrm:∀name,room (find fs name)≤1000000000:=fun name=>by exact XXocm
 have hrm1:=hrm ⟨#[84,114,97,110,115,102,101,114,45,69,110,99,111,100,105,110,103]⟩;have hrm2:=hrm ⟨#[67,111,110,116,101,110,116,45,76,101,110,103,116,104]⟩
 have H19:=Bo (fun w=>Dq p hp 19 w)
 have H20:=Bo (fun w=>Dq p hp 20 w)
 have H21:=Bo (fun w=>Dq p hp 21 w)
 have H22:=Bo (fun w=>Dq p hp 22 w);obtain ⟨R,hR⟩:∃R,decideV (clOf p) ch x3 minor fs=R:=⟨_,rfl⟩;rw [hR]
 replace hR:bodyV (hostsV (Do p 15) (Do p 16) minor (find fs ⟨#[72,111,115,116]⟩)) ch
  (winsV (Do p 20) (Do p 19) (Do p 21) (Do p 22) minor (find fs ⟨#[84,114,97,110,115,102,101,114,45,69,110,99,111,100,105,110,103]⟩).length (find fs ⟨#[67,111,110,116,101,110,116,45,76,101,110,103,116,104]⟩).length (coding (Do p 17) (Do p 18) (find fs ⟨#[84,114,97,110,115,102,101,114,45,69,110,99,111,100,105,110,103]⟩)))
  (lengthV (Do p 23) (Do p 24) (Do p 25) (Do p 26) x3 (find fs ⟨#[67,111,110,116,101,110,116,45,76,101,110,103,116,104]⟩))=R:=hR
 rw [show find fs hostN=find fs ⟨#[72,111,115,116]⟩ from rfl] at HH;generalize find fs ⟨#[72,111,115,116]⟩=LH at *;generalize find fs ⟨#[84,114,97,110,115,102,101,114,45,69,110,99,111,100,105,110,103]⟩=LT at *;generalize find fs ⟨#[67,111,110,116,101,110,116,45,76,101,110,103,116,104]⟩=LC at *
 have HW:=Bo (fun a' c' w' hS=>rcoding_any p hp a' LT.length c' LT w' hS hrm1)
 have HL:=Bo (fun a' c' w' hS=>rlength_any p hp x3 hx a' LC.length c' LC w' hS hrm2);generalize hostsV (Do p 15) (Do p 16) minor LH=Z at *;generalize lengthV (Do p 23) (Do p 24) (Do p 25) (Do p 26) x3 LC=LV at *;generalize coding (Do p 17) (Do p 18) LT=cod at *;generalize LT.length=nT at *;generalize LC.length=nC at *;generalize Do p 19=ti at *;generalize Do p 20=td at *;generalize Do p 21=tw at *;generalize Do p 22=lw at *;obtain ⟨ln,le⟩:=LV;unfold bodyV fixedV winsV at hR;simp only at hR HL;clear hrm hrm1 hrm2 hv hs hp hx hn
 have HK0:=Bo (Kp.new w 29 221 x0 x1 x2 x3 x4 x5 x6 x7 ch od);by_cases hZ:Z≠0
 ·rw [if_pos hZ] at hR;subst hR;have tz:(Z==0)=false:=beq_eq_false_iff_ne.2 hZ;clear hZ;exact XXvP2
 rw [if_neg hZ] at hR;obtain rfl:Z=0:=Decidable.not_not.1 hZ;clear hZ;by_cases hT:nT=0
 ·subst hT;rw [if_pos rfl] at hR;rw [if_neg (by decide),if_neg (by decide)] at hR;have hcase:(le=0∧R=(1,ln,0))∨((le==0)=false∧R=(0,0,le)):=by
   exact XXELR
  clear hR;rcases hcase with ⟨rfl,rfl⟩ | ⟨tz,rfl⟩
  ·exact XXJ75
  ·exact XXvP2
 rw [if_neg hT] at hR;have tT:(0:Int)<(nT:Int):=by omega
 clear hT;by_cases hO:minor=0∧td=false
 ·obtain ⟨rfl,rfl⟩:=hO;rw [if_pos (show (decide ((0:Int)=0) && !false)=true from rfl),if_pos (by decide)] at hR;subst hR;exact XXvP2
 have hO2:(minor=0∧td=true)∨(minor==0)=false:=by exact XX2eG
 rw [if_neg (show¬(decide (minor=0) && !td)=true by
  rintro h;rw [An,decide_eq_true_eq,Aw] at h
  exact hO h)] at hR
 clear hO;cases cod with
 | false=>
   rw [if_pos (show false=false from rfl)] at hR;cases ti with
   | false=>
     rw [if_neg (show¬false=true by decide)] at hR;rw [if_pos (by decide)] at hR;subst hR;rcases hO2 with ⟨rfl,rfl⟩ | t1;all_goals
      go_enter Tryz.func218,Tryz.ntmps218
      go_wp2_with (first
       |(go_at_call 67;with_reducible refine Cm (H19.out _) ?_)
       |(go_at_call 67;with_reducible refine Cm (H20.out _) ?_)
       |(go_at_call 67;with_reducible refine Cm (H21.out _) ?_)
       |(go_at_call 67;with_reducible refine Cm (H22.out _) ?_)
       |(go_at_call 240;(with_reducible refine (HL.out _ _ _ HS2.out).mono ?_);rintro e w5 ⟨rfl,hb⟩
         replace HK:=Bo (HK.out.step hb)
         (try clear q3 q8 c0 c1 z0 z1)
         obtain ⟨q3,q8,⟨c0,c1,z0,z1⟩,hlt,hbk⟩:=HK.out;clear hlt hbk hb)
       |(go_at_call 239;(with_reducible refine (HW.out _ _ _ HS1.out).mono ?_);rintro e w4 ⟨rfl,hb⟩
         replace HK:=Bo (HK.out.step hb)
         replace HS1:=Bo (HS1.out.below hb)
         replace HS2:=Bo (HS2.out.below hb)
         (try clear q3 q8 c0 c1 z0 z1)
         obtain ⟨q3,q8,⟨c0,c1,z0,z1⟩,hlt,hbk⟩:=HK.out;clear hlt hbk hb)
       |(go_at_call 32;(with_reducible refine (HF2.out _ HK.out.b).mono ?_);rintro e w3 ⟨b3,k3,rfl,hS,hb⟩
         replace HK:=Bo (HK.out.step hb)
         replace HS1:=Bo (HS1.out.below hb)
         have HS2:=Bo hS;clear hS
         (try clear q3 q8 c0 c1 z0 z1)
         obtain ⟨q3,q8,⟨c0,c1,z0,z1⟩,hlt,hbk⟩:=HK.out;clear hlt hbk hb)
       |(go_at_call 32;(with_reducible refine (HF1.out _ HK.out.b).mono ?_);rintro e w2 ⟨b2,k2,rfl,hS,hb⟩
         replace HK:=Bo (HK.out.step hb)
         have HS1:=Bo hS;clear hS
         (try clear q3 q8 c0 c1 z0 z1)
         obtain ⟨q3,q8,⟨c0,c1,z0,z1⟩,hlt,hbk⟩:=HK.out;clear hlt hbk hb)
       |(go_at_call 238;(with_reducible refine (HH.out _ HK0.out.b).mono ?_);rintro e w1 ⟨rfl,hb⟩
         have HK:=Bo (HK0.out.step hb)
         (try clear q3 q8 c0 c1 z0 z1)
         obtain ⟨q3,q8,⟨c0,c1,z0,z1⟩,hlt,hbk⟩:=HK.out;clear hlt hbk hb))
      obtain ⟨W,hW,⟨d0,d1,_,_⟩,hbW⟩:=Gb.put HK.out.f HK.out.b (CS _) 0 0;rw [hW];exact bodyPost_ret (v:=.tuple #[fr 0 0,.int .i64 501]) (by simp [results,Tryz.results218,go_sem,d0,d1]) rfl ⟨rfl,hbW⟩
   | true=>
     rw [if_pos (show true=true from rfl),if_neg (by decide),if_neg (by decide)] at hR;rcases hO2 with ⟨rfl,rfl⟩ | t1;all_goals
      have hcase:(le=0∧R=(1,ln,0))∨((le==0)=false∧R=(0,0,le)):=by exact XXELR
      clear hR;rcases hcase with ⟨rfl,rfl⟩ | ⟨tz,rfl⟩
      ·exact XXJ75
      ·exact XXvP2
 | true=>
   rw [if_neg (show¬true=false by decide)] at hR;by_cases hB:0<nC∧tw=false
   ·obtain ⟨h0,rfl⟩:=hB;rw [if_pos (show (decide (0<nC) && !false)=true by rw [decide_eq_true h0];rfl)] at hR
    have t2:((nC:Int)==0)=false:=beq_eq_false_iff_ne.2 (by omega);clear h0;cases lw with
    | false=>
      rw [if_neg (show¬false=true by decide)] at hR;rw [if_pos (by decide)] at hR;subst hR;rcases hO2 with ⟨rfl,rfl⟩ | t1;all_goals
       go_enter Tryz.func218,Tryz.ntmps218
       go_wp2_with (first
        |(go_at_call 67;with_reducible refine Cm (H19.out _) ?_)
        |(go_at_call 67;with_reducible refine Cm (H20.out _) ?_)
        |(go_at_call 67;with_reducible refine Cm (H21.out _) ?_)
        |(go_at_call 67;with_reducible refine Cm (H22.out _) ?_)
        |(go_at_call 240;(with_reducible refine (HL.out _ _ _ HS2.out).mono ?_);rintro e w5 ⟨rfl,hb⟩
          replace HK:=Bo (HK.out.step hb)
          (try clear q3 q8 c0 c1 z0 z1)
          obtain ⟨q3,q8,⟨c0,c1,z0,z1⟩,hlt,hbk⟩:=HK.out;clear hlt hbk hb)
        |(go_at_call 239;(with_reducible refine (HW.out _ _ _ HS1.out).mono ?_);rintro e w4 ⟨rfl,hb⟩
          replace HK:=Bo (HK.out.step hb)
          replace HS1:=Bo (HS1.out.below hb)
          replace HS2:=Bo (HS2.out.below hb)
          (try clear q3 q8 c0 c1 z0 z1)
          obtain ⟨q3,q8,⟨c0,c1,z0,z1⟩,hlt,hbk⟩:=HK.out;clear hlt hbk hb)
        |(go_at_call 32;(with_reducible refine (HF2.out _ HK.out.b).mono ?_);rintro e w3 ⟨b3,k3,rfl,hS,hb⟩
          replace HK:=Bo (HK.out.step hb)
          replace HS1:=Bo (HS1.out.below hb)
          have HS2:=Bo hS;clear hS
          (try clear q3 q8 c0 c1 z0 z1)
          obtain ⟨q3,q8,⟨c0,c1,z0,z1⟩,hlt,hbk⟩:=HK.out;clear hlt hbk hb)
        |(go_at_call 32;(with_reducible refine (HF1.out _ HK.out.b).mono ?_);rintro e w2 ⟨b2,k2,rfl,hS,hb⟩
          replace HK:=Bo (HK.out.step hb)
          have HS1:=Bo hS;clear hS
          (try clear q3 q8 c0 c1 z0 z1)
          obtain ⟨q3,q8,⟨c0,c1,z0,z1⟩,hlt,hbk⟩:=HK.out;clear hlt hbk hb)
        |(go_at_call 238;(with_reducible refine (HH.out _ HK0.out.b).mono ?_);rintro e w1 ⟨rfl,hb⟩
          have HK:=Bo (HK0.out.step hb)
          (try clear q3 q8 c0 c1 z0 z1)
          obtain ⟨q3,q8,⟨c0,c1,z0,z1⟩,hlt,hbk⟩:=HK.out;clear hlt hbk hb))
       obtain ⟨W,hW,⟨d0,d1,_,_⟩,hbW⟩:=Gb.put HK.out.f HK.out.b (CS _) 0 0;rw [hW];exact bodyPost_ret (v:=.tuple #[fr 0 0,.int .i64 400]) (by simp [results,Tryz.results218,go_sem,d0,d1]) rfl ⟨rfl,hbW⟩
    | true=>
      rw [if_pos (show true=true from rfl),if_neg (by decide),if_neg (by decide)] at hR;rcases hO2 with ⟨rfl,rfl⟩ | t1;all_goals
       have hcase:(le=0∧R=(1,ln,0))∨((le==0)=false∧R=(0,0,le)):=by exact XXELR
       clear hR;rcases hcase with ⟨rfl,rfl⟩ | ⟨tz,rfl⟩
       ·exact XXJ75
       ·exact XXvP2
   ·rw [if_neg (show¬(decide (0<nC) && !tw)=true by
     rintro h;rw [An,decide_eq_true_eq,Aw] at h
     exact hB h),if_neg (by decide),if_pos (show true=true from rfl)] at hR
    have hB2:(nC=0)∨(0<nC∧tw=true):=by
     rcases CO nC with h | h
     ·exact .inl h
     ·right;cases tw
      ·exact absurd ⟨h,rfl⟩ hB
      ·exact ⟨h,rfl⟩
    clear hB;cases ch with
    | false=>
      rw [if_neg (by decide)] at hR;subst hR;rcases hO2 with ⟨rfl,rfl⟩ | t1<;>rcases hB2 with rfl | ⟨h0,rfl⟩;all_goals
       try (have t2:((nC:Int)==0)=false:=beq_eq_false_iff_ne.2 (by omega))
       go_enter Tryz.func218,Tryz.ntmps218
       go_wp2_with (first
        |(go_at_call 67;with_reducible refine Cm (H19.out _) ?_)
        |(go_at_call 67;with_reducible refine Cm (H20.out _) ?_)
        |(go_at_call 67;with_reducible refine Cm (H21.out _) ?_)
        |(go_at_call 67;with_reducible refine Cm (H22.out _) ?_)
        |(go_at_call 240;(with_reducible refine (HL.out _ _ _ HS2.out).mono ?_);rintro e w5 ⟨rfl,hb⟩
          replace HK:=Bo (HK.out.step hb)
          (try clear q3 q8 c0 c1 z0 z1)
          obtain ⟨q3,q8,⟨c0,c1,z0,z1⟩,hlt,hbk⟩:=HK.out;clear hlt hbk hb)
        |(go_at_call 239;(with_reducible refine (HW.out _ _ _ HS1.out).mono ?_);rintro e w4 ⟨rfl,hb⟩
          replace HK:=Bo (HK.out.step hb)
          replace HS1:=Bo (HS1.out.below hb)
          replace HS2:=Bo (HS2.out.below hb)
          (try clear q3 q8 c0 c1 z0 z1)
          obtain ⟨q3,q8,⟨c0,c1,z0,z1⟩,hlt,hbk⟩:=HK.out;clear hlt hbk hb)
        |(go_at_call 32;(with_reducible refine (HF2.out _ HK.out.b).mono ?_);rintro e w3 ⟨b3,k3,rfl,hS,hb⟩
          replace HK:=Bo (HK.out.step hb)
          replace HS1:=Bo (HS1.out.below hb)
          have HS2:=Bo hS;clear hS
          (try clear q3 q8 c0 c1 z0 z1)
          obtain ⟨q3,q8,⟨c0,c1,z0,z1⟩,hlt,hbk⟩:=HK.out;clear hlt hbk hb)
        |(go_at_call 32;(with_reducible refine (HF1.out _ HK.out.b).mono ?_);rintro e w2 ⟨b2,k2,rfl,hS,hb⟩
          replace HK:=Bo (HK.out.step hb)
          have HS1:=Bo hS;clear hS
          (try clear q3 q8 c0 c1 z0 z1)
          obtain ⟨q3,q8,⟨c0,c1,z0,z1⟩,hlt,hbk⟩:=HK.out;clear hlt hbk hb)
        |(go_at_call 238;(with_reducible refine (HH.out _ HK0.out.b).mono ?_);rintro e w1 ⟨rfl,hb⟩
          have HK:=Bo (HK0.out.step hb)
          (try clear q3 q8 c0 c1 z0 z1)
          obtain ⟨q3,q8,⟨c0,c1,z0,z1⟩,hlt,hbk⟩:=HK.out;clear hlt hbk hb))
       obtain ⟨W,hW,⟨d0,d1,_,_⟩,hbW⟩:=Gb.put HK.out.f HK.out.b (CS _) 0 0;rw [hW];exact bodyPost_ret (v:=.tuple #[fr 0 0,.int .i64 501]) (by simp [results,Tryz.results218,go_sem,d0,d1]) rfl ⟨rfl,hbW⟩
    | true=>
      rw [if_pos rfl] at hR;subst hR;rcases hO2 with ⟨rfl,rfl⟩ | t1<;>rcases hB2 with rfl | ⟨h0,rfl⟩;all_goals
       try (have t2:((nC:Int)==0)=false:=beq_eq_false_iff_ne.2 (by omega))
       go_enter Tryz.func218,Tryz.ntmps218
       go_wp2_with (first
        |(go_at_call 67;with_reducible refine Cm (H19.out _) ?_)
        |(go_at_call 67;with_reducible refine Cm (H20.out _) ?_)
        |(go_at_call 67;with_reducible refine Cm (H21.out _) ?_)
        |(go_at_call 67;with_reducible refine Cm (H22.out _) ?_)
        |(go_at_call 240;(with_reducible refine (HL.out _ _ _ HS2.out).mono ?_);rintro e w5 ⟨rfl,hb⟩
          replace HK:=Bo (HK.out.step hb)
          (try clear q3 q8 c0 c1 z0 z1)
          obtain ⟨q3,q8,⟨c0,c1,z0,z1⟩,hlt,hbk⟩:=HK.out;clear hlt hbk hb)
        |(go_at_call 239;(with_reducible refine (HW.out _ _ _ HS1.out).mono ?_);rintro e w4 ⟨rfl,hb⟩
          replace HK:=Bo (HK.out.step hb)
          replace HS1:=Bo (HS1.out.below hb)
          replace HS2:=Bo (HS2.out.below hb)
          (try clear q3 q8 c0 c1 z0 z1)
          obtain ⟨q3,q8,⟨c0,c1,z0,z1⟩,hlt,hbk⟩:=HK.out;clear hlt hbk hb)
        |(go_at_call 32;(with_reducible refine (HF2.out _ HK.out.b).mono ?_);rintro e w3 ⟨b3,k3,rfl,hS,hb⟩
          replace HK:=Bo (HK.out.step hb)
          replace HS1:=Bo (HS1.out.below hb)
          have HS2:=Bo hS;clear hS
          (try clear q3 q8 c0 c1 z0 z1)
          obtain ⟨q3,q8,⟨c0,c1,z0,z1⟩,hlt,hbk⟩:=HK.out;clear hlt hbk hb)
        |(go_at_call 32;(with_reducible refine (HF1.out _ HK.out.b).mono ?_);rintro e w2 ⟨b2,k2,rfl,hS,hb⟩
          replace HK:=Bo (HK.out.step hb)
          have HS1:=Bo hS;clear hS
          (try clear q3 q8 c0 c1 z0 z1)
          obtain ⟨q3,q8,⟨c0,c1,z0,z1⟩,hlt,hbk⟩:=HK.out;clear hlt hbk hb)
        |(go_at_call 238;(with_reducible refine (HH.out _ HK0.out.b).mono ?_);rintro e w1 ⟨rfl,hb⟩
          have HK:=Bo (HK0.out.step hb)
          (try clear q3 q8 c0 c1 z0 z1)
          obtain ⟨q3,q8,⟨c0,c1,z0,z1⟩,hlt,hbk⟩:=HK.out;clear hlt hbk hb))
       obtain ⟨W,hW,⟨d0,d1,_,_⟩,hbW⟩:=Gb.put HK.out.f HK.out.b (CS _) 2 0;rw [hW];exact bodyPost_ret (v:=.tuple #[fr 2 0,.int .i64 0]) (by simp [results,Tryz.results218,go_sem,d0,d1]) rfl ⟨rfl,hbW⟩
end code
end Go.Proofs.YtldhlecknfomjaaGreatDoor.Frm
