import Derived.Test.YtldhlecknfomjaaGreatDoorCgp
namespace Go.Proofs.YtldhlecknfomjaaGreatDoor.Fd
open Go.RowKit Base Txt Tgt
section code
set_option maxHeartbeats 4000000
set_option maxRecDepth 100000
attribute [local go_sem] Base.some_undef
end code
end Go.Proofs.YtldhlecknfomjaaGreatDoor.Fd
namespace Go.Proofs.YtldhlecknfomjaaGreatDoor.Fd
open Go.RowKit Base Txt Tgt
section code
set_option maxHeartbeats 4000000
set_option maxRecDepth 100000
attribute [local go_sem] Base.some_undef
end code
end Go.Proofs.YtldhlecknfomjaaGreatDoor.Fd
namespace Go.Proofs.YtldhlecknfomjaaGreatDoor.Fd
open Go.RowKit Base Txt Tgt
theorem colon_cases (l:List UInt8):((58:UInt8)∉l∧(cutAt 58 l).2.2=false)∨∃j,∃h:j<l.length,l[j]=58∧(58:UInt8)∉l.take j∧(cutAt 58 l).1=l.take j∧(cutAt 58 l).2.1=l.drop (j+1)∧(cutAt 58 l).2.2=true:=by
 rcases cut_cases 58 l with h | ⟨a,r,rfl,h⟩
 ·exact .inl ⟨h,by rw [cutAt_none 58 l h]⟩
 ·refine .inr ⟨a.length,by simp,by simp,by simpa using h,?_,?_,?_⟩
  ·rw [cutAt_app 58 a r h];simp
  ·rw [cutAt_app 58 a r h];simp
  ·rw [cutAt_app 58 a r h]
def nameAt (t:Nat) (w:World):Nat:=match w.cell? ⟨t,0,none⟩ with
 | some (.string b)=>b.size
 | _=>0
theorem nameAt_of {t:Nat} {w:World} {b:ByteArray} (h:w.cell? ⟨t,0,none⟩=some (.string b)):nameAt t w=b.size:=by unfold nameAt;rw [h]
theorem Two.set0 {w0 w:World} {n v N V:ByteArray} {t:Nat} (h:Two w0 n v t N V w) (N':ByteArray):Two w0 n v t N' V (w.setCell ⟨t,0,none⟩ (.string N')):=by
 have h1:=h.k.f.other t 0 (.string N') h.ne
 have hb:=h.k.b.setCell (p:=⟨t,0,none⟩) h.ge (.string N');obtain ⟨c0,c1,z0,z1⟩:=h.f;exact ⟨⟨h1,by simpa using h.k.g,hb⟩,⟨by go_simp,by go_simp,by go_simp,by go_simp⟩,h.ne,by simpa using h.lt,h.ge⟩
theorem not_colon (s:ByteArray) (k:Nat) (h:k<s.size) (j:Nat) (hj:k<j) (hn:(58:UInt8)∉s.data.toList.take j):((s[k].toNat:Int)==58)=false:=by
 refine beq_eq_false_iff_ne.2 fun e=>hn ?_;have hl:k<s.data.toList.length:=by rw [len];exact h
 have e1:s.data.toList[k]=58:=UInt8.toNat_inj.1 (by show s[k].toNat=58;omega);rw [←e1];rw [List.mem_take_iff_getElem];exact ⟨k,by omega,rfl⟩
theorem last_of (n0:List UInt8) (m:Nat) (h:m<n0.length):∃Nn:ByteArray,ba (n0.take (m+1))=Nn∧Nn.size=m+1∧(∃h2:m<Nn.size,Nn[m]=n0[m])∧Nn.extract 0 m=ba (n0.take m):=by
 have hl:(n0.take (m+1)).length=m+1:=by rw [List.length_take];omega
 refine ⟨_,rfl,by rw [Txt.ba_size];exact hl,⟨by rw [Txt.ba_size];omega,?_⟩,?_⟩
 ·show (n0.take (m+1))[m]'(by omega)=n0[m];rw [List.getElem_take]
 ·exact ba_ext (by
   rw [Lib.extract_data];show ((n0.take (m+1)).drop 0).take (m-0)=n0.take m;rw [List.drop_zero,List.take_take]
   congr 1;omega)
section code
set_option maxHeartbeats 4000000
set_option maxRecDepth 100000
attribute [local go_sem] Base.some_undef
theorem rparse_none (s:ByteArray) (p:Nat) (hp:p<4294967296) (w:World) (hs:s.size≤1000000000) (hno:(58:UInt8)∉s.data.toList) :
 Calls Tryz.prog 74 #[.string s,.int .u32 (p:Nat)] w fun e w'=>e=.returned (rv (out (Qk.has p 11)))∧Below w.heap.size w w':=by
 have HH:=Lib.hid (fun w=>Qk.rhas_any p hp 11 w);have HNO:=Lib.hid hno;clear hno;obtain ⟨b,hb⟩:∃b,Qk.has p 11=b:=⟨_,rfl⟩;rw [hb] at HH ⊢;clear hb
 have hW:=Lib.hid (show Below w.heap.size w (w.alloc (.cells #[.string E0,.string E0] 48)) from (Below.refl _ _).alloc (Nat.le_refl _) _);go_enter Tryz.func74,Tryz.ntmps74;go_wp2
 go_loop [7,8] (fun c i=>∃k:Nat,k≤s.size∧c=.int .i64 (-1)∧i=.int .i64 k) (fun _ i=>s.size-(intOf i).toNat)
 case atStart=>exact ⟨0,Nat.zero_le _,rfl,rfl⟩
 case round=>
  obtain ⟨k,hk,rfl,rfl⟩:=hrel;rcases Nat.lt_or_ge k s.size with hlt | hge
  ·have t1:=not_colon s k hlt (k+1) (by omega) (fun h=>HNO.out (List.mem_of_mem_take h));go_wp2;go_round
   case rel=>exact ⟨k+1,by omega,rfl,by go_num⟩
   case measure=>simp [intOf];omega
  ·cases b
   ·go_wp2_with (go_at_call 67;with_reducible refine (HH.out _).mono ?_;rintro e w1 ⟨rfl,hw⟩;rw [hw];clear hw);exact bodyPost_ret (v:=.tuple #[fv E0 E0,.bool false,.int .i64 400]) (by simp [results,Tryz.results74,go_sem]) rfl ⟨rfl,hW.out⟩
   ·go_wp2_with (go_at_call 67;with_reducible refine (HH.out _).mono ?_;rintro e w1 ⟨rfl,hw⟩;rw [hw];clear hw);exact bodyPost_ret (v:=.tuple #[fv E0 E0,.bool false,.int .i64 0]) (by simp [results,Tryz.results74,go_sem]) rfl ⟨rfl,hW.out⟩
theorem rparse_some (s:ByteArray) (p:Nat) (hp:p<4294967296) (w:World) (hs:s.size≤1000000000) (j:Nat) (hj:j<s.size) (hc:s[j]=58) (hno:(58:UInt8)∉s.data.toList.take j) :
 Calls Tryz.prog 74 #[.string s,.int .u32 (p:Nat)] w fun e w'=>e=.returned (rv (read (clOf p) (nameL (clOf p) (s.data.toList.take j)) (trimL Txt.blank (s.data.toList.drop (j+1)))))∧Below w.heap.size w w':=by
 have H9:=Lib.hid (fun w=>Qk.rhas_any p hp 9 w)
 have H10:=Lib.hid (fun w=>Qk.rhas_any p hp 10 w)
 have H12:=Lib.hid (fun w=>Qk.rhas_any p hp 12 w)
 have H14:=Lib.hid (fun w=>Qk.rhas_any p hp 14 w)
 have e1:s.extract 0 j=ba (s.data.toList.take j):=ba_ext (by rw [Lib.extract_data];simp [ba])
 have e2:s.extract (j+1) s.size=ba (s.data.toList.drop (j+1)):=ba_ext (by rw [Lib.extract_data,List.take_of_length_le (by rw [List.length_drop,len];omega)];rfl)
 have HT:=Lib.hid (fun w=>rtrim_any (s.extract (j+1) s.size) w (by unfold maxLen;rw [ByteArray.size_extract];omega));have hT:trim (s.extract (j+1) s.size)=ba (trimL Txt.blank (s.data.toList.drop (j+1))):=by rw [e2];rfl
 rw [hT] at HT
 have hvl:(trimL Txt.blank (s.data.toList.drop (j+1))).length≤s.size:=Nat.le_trans (trimL_length _ _) (by rw [List.length_drop,len];omega);have hnl:(s.data.toList.take j).length=j:=by rw [List.length_take,len];omega
 have E1:=Lib.hid e1;have t0:((s[j].toNat:Int)==58)=true:=by rw [hc];rfl
 have HNC:=Lib.hid (fun k (h:k<s.size) (hk:k<j)=>not_colon s k h j hk hno);clear e1 e2 hT hno hc;generalize s.data.toList.take j=n0 at *;generalize trimL Txt.blank (s.data.toList.drop (j+1))=v1 at *
 have hW:=Lib.hid (show Below w.heap.size w (w.alloc (.cells #[.string E0,.string E0] 48)) from (Below.refl _ _).alloc (Nat.le_refl _) _);obtain ⟨R,hR⟩:∃R,rv (read (clOf p) (nameL (clOf p) n0) v1)=R:=⟨_,rfl⟩;rw [hR];have HR0:=Lib.hid hR;clear hR;go_enter Tryz.func74,Tryz.ntmps74;go_upto_block 0 with fail
 go_cut [7,8] from 10 (fun c i wx=>c=.int .i64 (j:Nat)∧wx=w.alloc (.cells #[.string E0,.string E0] 48))
 case first=>
  go_wp2_with fail
  go_loop [7,8] (fun c i=>(∃k:Nat,k≤j∧c=.int .i64 (-1)∧i=.int .i64 k)∨(c=.int .i64 (j:Nat)∧i=.int .i64 ((j+1:Nat):Int))) (fun _ i=>s.size-(intOf i).toNat)
  case atStart=>exact .inl ⟨0,Nat.zero_le _,rfl,rfl⟩
  case round=>
   rcases hrel with ⟨k,hk,rfl,rfl⟩ | ⟨rfl,rfl⟩
   ·have hlt:k<s.size:=by omega
    rcases Nat.lt_or_ge k j with hkj | hkj
    ·have t1:=HNC.out k hlt hkj;clear t0;go_wp2;go_round
     case rel=>exact .inl ⟨k+1,by omega,rfl,by go_num⟩
     case measure=>simp [intOf];omega
    ·obtain rfl:k=j:=by omega
     go_wp2;go_round
     case rel=>exact .inr ⟨rfl,by go_num⟩
     case measure=>simp [intOf];omega
   ·have q0:¬(j:Int)<0:=by omega
    go_wp2;all_goals
     go_meet
     case rel=>exact ⟨rfl,rfl⟩
 case rest=>
  obtain ⟨rfl,hw0⟩:=hcut;rw [hw0];clear hw0;have q0:¬(j:Int)<0:=by omega
  have q1:(0:Int)≤(j:Int):=by omega
  have q2:(j:Int)≤(s.size:Int):=by omega
  have q3:IntKind.i64.wrap ((j:Int)+1)=((j+1:Nat):Int):=by rw [wrap_in _ (by omega) (by omega)];omega
  have q4:((j+1:Nat):Int)≤(s.size:Int):=by omega
  have q5:(0:Int)≤((j+1:Nat):Int):=by omega
  go_upto_region 11 with fail
  go_cut [9] from 31 (fun f wx=>f=.pointer (some ⟨w.heap.size+1,0,none⟩)∧wx=((w.alloc (.cells #[.string E0,.string E0] 48)).alloc (.cells #[.string (s.extract 0 j),.string (ba v1)] 48)).drew)
  case first=>
   go_region_with (go_at_call 113;with_reducible refine (HT.out _).mono ?_;rintro e w1 ⟨rfl,hw⟩;rw [hw];clear hw);all_goals
    go_wp2_with fail;go_meet
    case rel=>exact ⟨rfl,rfl⟩
  case rest=>
   obtain ⟨rfl,hw0⟩:=hcut;have hts:(w.alloc (.cells #[.string E0,.string E0] 48)).heap.size=w.heap.size+1:=by simp
   have HX:=(Two.new (Keep.new w 48 E0 E0) 48 (s.extract 0 j) (ba v1)).drew 1;rw [hts,E1.out] at HX;rw [E1.out] at hw0
   replace HX:=Lib.hid (show Two w E0 E0 (w.heap.size+1) (ba n0) (ba v1) wc by rw [hw0];exact HX)
   clear hw0 hts hW HT E1 HNC t0 q0 q1 q2 q3 q4 q5;have htz:w.heap.size+1=w.heap.size+1:=rfl;generalize w.heap.size+1=t at *;clear htz;have hnf:∀x,nameL (clOf p) x=if Qk.has p 9=true then trimEnd x else x:=fun _=>rfl
   obtain ⟨sp,hsp⟩:∃sp,Qk.has p 9=sp:=⟨_,rfl⟩;rw [hsp] at H9 hnf;clear hsp;have HNF:=Lib.hid hnf;clear hnf;have hn1l:=nameL_le (clOf p) n0;rw [hnl] at hn1l;go_upto_block 2 with fail
   go_cut [] from 40 (fun wx=>Hid (Two w E0 E0 t (ba (nameL (clOf p) n0)) (ba v1) wx))
   case first=>
    go_wp2_with fail
    go_loopw [] (fun wr=>∃m:Nat,m≤j∧Hid (Two w E0 E0 t (ba (n0.take m)) (ba v1) wr)∧Hid (nameL (clOf p) (n0.take m)=nameL (clOf p) n0)) (fun wr=>nameAt t wr)
    case atStart=>exact ⟨j,Nat.le_refl _,Lib.hid (by rw [List.take_of_length_le (by omega)];exact HX.out),Lib.hid (by rw [List.take_of_length_le (by omega)])⟩
    case round=>
     obtain ⟨m,hm,HY,HR⟩:=hrel;obtain ⟨⟨⟨c0,c1,z0,z1⟩,hg,hbk⟩,⟨d0,d1,y0,y1⟩,hne,hlt,hge⟩:=HY.out;have hna:=nameAt_of d0;clear c0 c1 z0 z1 hg hbk hlt hge;cases sp with
     | false=>
       have HZ:=Lib.hid (show Two w E0 E0 t (ba (nameL (clOf p) n0)) (ba v1) wr by rw [←HR.out,HNF.out,if_neg (by decide)];exact HY.out)
       go_wp2_with (go_at_call 67;with_reducible refine (H9.out _).mono ?_;rintro e w1 ⟨rfl,hw⟩;rw [hw];clear hw);go_meet
       case rel=>exact HZ
     | true=>
       rcases m with _ | m
       ·have HZ:=Lib.hid (show Two w E0 E0 t (ba (nameL (clOf p) n0)) (ba v1) wr by
         rw [←HR.out,HNF.out,if_pos rfl];exact HY.out)
        rw [show ba (n0.take 0)=E0 from rfl] at d0
        go_wp2_with (go_at_call 67;with_reducible refine (H9.out _).mono ?_;rintro e w1 ⟨rfl,hw⟩;rw [hw];clear hw);go_meet
        case rel=>exact HZ
       ·have hml:m<n0.length:=by omega
        have htk:=List.take_succ_eq_append_getElem hml;obtain ⟨Nn,hNn,hsz,⟨z2,hat⟩,hex⟩:=last_of n0 m hml;rw [hNn] at d0 hna
        have hno:=first_no Nn (by omega);have HB:Hid (∀w,Calls Tryz.prog 114 #[.int .u8 (Nn[m].toNat:Int)] w fun e w'=>e=.returned (.bool (Txt.blank n0[m]))∧w'=w):=Lib.hid fun w=>by
         have:=Oct.rblank_any (Nn[m].toNat:Int) w;rw [blank_is] at this
         rwa [show Txt.blank Nn[m]=Txt.blank n0[m] from congrArg _ hat] at this
        have z1:IntKind.i64.wrap ((Nn.size:Int)-1)=(m:Int):=by rw [wrap_in _ (by omega) (by omega)];omega
        have z3:(m:Int)<(Nn.size:Int):=by omega
        have z4:(m:Int)≤(Nn.size:Int):=by omega
        have z5:(0:Int)≤(m:Int):=by omega
        cases hb:Txt.blank n0[m] with
        | false=>
          rw [hb] at HB
          have HZ:=Lib.hid (show Two w E0 E0 t (ba (nameL (clOf p) n0)) (ba v1) wr by rw [←HR.out,HNF.out,if_pos rfl,htk,trimEnd_stop _ _ hb,←htk];exact HY.out)
          clear hb htk HY HR hex hat hNn
          go_wp2_with (first
           |(go_at_call 67;with_reducible refine (H9.out _).mono ?_;rintro e w1 ⟨rfl,hw⟩;rw [hw];clear hw)
           |(go_at_call 114;with_reducible refine (HB.out _).mono ?_;rintro e w1 ⟨rfl,hw⟩;rw [hw];clear hw))
          go_meet
          case rel=>exact HZ
        | true=>
          rw [hb] at HB
          have HY2:=Lib.hid (HY.out.set0 (Nn.extract 0 m))
          have HR2:=Lib.hid (show nameL (clOf p) (n0.take m)=nameL (clOf p) n0 by rw [←HR.out,HNF.out,HNF.out,if_pos rfl,if_pos rfl,htk,trimEnd_snoc _ _ hb])
          have HE:=Lib.hid hex;clear hb htk HY HR hex hat hNn
          go_wp2_with (first
           |(go_at_call 67;with_reducible refine (H9.out _).mono ?_;rintro e w1 ⟨rfl,hw⟩;rw [hw];clear hw)
           |(go_at_call 114;with_reducible refine (HB.out _).mono ?_;rintro e w1 ⟨rfl,hw⟩;rw [hw];clear hw))
          have hd:=HY2.out.f.c0;have hs2:(Nn.extract 0 m).size=m:=by rw [ByteArray.size_extract];omega
          rw [HE.out] at HY2;go_roundw
          case rel=>exact ⟨m,by omega,by first | exact HY2 |(rw [HE.out];exact HY2),HR2⟩
          case measure=>rw [nameAt_of hd,hna];omega
   case rest=>
    clear HX;have HX:=hcut;clear hcut H9 HNF;generalize nameL (clOf p) n0=n1 at *;by_cases hn:n1= []
    ·subst hn;have hRv:R=rv (out (Qk.has p 12)):=by rw [←HR0.out];rfl
     clear HR0;generalize Qk.has p 12=nn at *;obtain ⟨⟨⟨c0,c1,z0,z1⟩,hg,hbk⟩,⟨d0,d1,y0,y1⟩,hne,hlt,hge⟩:=HX.out;obtain ⟨W9,hW9,⟨r0,r1,_,_⟩,hbW⟩:=Fb.put HX.out.k.f HX.out.k.b (Nat.le_refl _) E0 E0;rw [show ba []=E0 from rfl] at d0;clear hg hbk hlt hge;cases nn
     ·go_wp2_with (go_at_call 67;with_reducible refine (H12.out _).mono ?_;rintro e w1 ⟨rfl,hw⟩;rw [hw];clear hw);try rw [hW9]
      exact bodyPost_ret (v:=.tuple #[fv E0 E0,.bool false,.int .i64 400]) (by simp [results,Tryz.results74,go_sem,r0,r1]) rfl ⟨by first | rfl |(rw [hRv];rfl),hbW⟩
     ·go_wp2_with (go_at_call 67;with_reducible refine (H12.out _).mono ?_;rintro e w1 ⟨rfl,hw⟩;rw [hw];clear hw);try rw [hW9]
      exact bodyPost_ret (v:=.tuple #[fv E0 E0,.bool false,.int .i64 0]) (by simp [results,Tryz.results74,go_sem,r0,r1]) rfl ⟨by first | rfl |(rw [hRv];rfl),hbW⟩
    ·have t0:=first_no (ba n1) (ba_pos hn)
     have HN:=Lib.hid (fun w a (hk:Ints w a 1 [1])=>Oct.rall_any (ba n1) a 1 1 [1] w (by rw [Txt.ba_size];unfold maxLen;omega) hk (by decide))
     have HV:=Lib.hid (fun w a (hk:Ints w a 1 [6])=>Oct.rall_any (ba v1) a 1 1 [6] w (by rw [Txt.ba_size];unfold maxLen;omega) hk (by decide));rw [show (ba n1).data.toList=n1 from rfl] at HN;rw [show (ba v1).data.toList=v1 from rfl] at HV;obtain ⟨G,hG⟩:∃G,(!(goodN (clOf p) n1&&goodV (clOf p) v1))=G:=⟨_,rfl⟩
     have HG:=Lib.hid (show G= !((Qk.has p 10||Oct.allOf [1] n1)&&(Qk.has p 14||Oct.allOf [6] v1)) from hG.symm)
     have HRv:=Lib.hid (show R=if G=true then rv none else rv (some (some (n1,v1))) by rw [←HR0.out,←hG];unfold read;rw [if_neg hn];cases (goodN (clOf p) n1&&goodV (clOf p) v1)<;>rfl)
     have HF:Hid (rv (some (some (n1,v1)))=.tuple #[fv (ba n1) (ba v1),.bool true,.int .i64 0]):=Lib.hid rfl;clear hG HR0 hn hnl hvl hn1l H12;generalize ba n1=N1 at *;generalize ba v1=V1 at *;obtain ⟨⟨⟨c0,c1,z0,z1⟩,hg,hbk⟩,⟨d0,d1,y0,y1⟩,hne,hlt,hge⟩:=HX.out;clear hg hbk hlt hge c0 c1 z0 z1;go_upto_region 18 with fail
     go_cut [93] from 72 (fun v wx=>v=.bool G∧Hid (Two w E0 E0 t N1 V1 wx))
     case first=>
      clear HRv HF t0;generalize Qk.has p 10=nb at *;generalize Qk.has p 14=vb at *;generalize Oct.allOf [1] n1=tn at *;generalize Oct.allOf [6] v1=tv at *;have hGG:=HG.out;clear HG;cases nb<;>cases tn<;>cases vb<;>cases tv;all_goals
       obtain rfl:=hGG
       go_wp2_with (first
        |(go_at_call 67;with_reducible refine (H10.out _).mono ?_;rintro e w1 ⟨rfl,hw⟩;rw [hw];clear hw)
        |(go_at_call 67;with_reducible refine (H14.out _).mono ?_;rintro e w1 ⟨rfl,hw⟩;rw [hw];clear hw)
        |(go_at_call 115;(with_reducible refine (HV.out _ _ (Ints.one _ _ rfl _ _)).mono ?_);rintro e w1 ⟨rfl,m,hw⟩
          replace HX:=Lib.hid ((HX.out.step ((Below.refl _ _).alloc (Nat.le_refl _) (.cells #[.int .i64 6] 3))).drew m)
          rw [←hw] at HX;clear hw)
        |(go_at_call 115;(with_reducible refine (HN.out _ _ (Ints.one _ _ rfl _ _)).mono ?_);rintro e w1 ⟨rfl,m,hw⟩
          replace HX:=Lib.hid ((HX.out.step ((Below.refl _ _).alloc (Nat.le_refl _) (.cells #[.int .i64 1] 3))).drew m)
          rw [←hw] at HX;clear hw d0 d1 y0 y1;obtain ⟨d0,d1,y0,y1⟩:=HX.out.f))
       go_meet
       case rel=>exact ⟨by rfl,HX⟩
     case rest=>
      obtain ⟨rfl,HY⟩:=hcut;clear HX HG d0 d1 y0 y1 t0 HN HV H10 H14;obtain ⟨⟨⟨c0,c1,z0,z1⟩,hg,hbk⟩,⟨d0,d1,y0,y1⟩,hne,hlt,hge⟩:=HY.out;clear hg hbk hlt hge;cases G with
      | true=>
        have hRv:=HRv.out;rw [if_pos rfl] at hRv;obtain ⟨W9,hW9,⟨r0,r1,_,_⟩,hbW⟩:=Fb.put HY.out.k.f HY.out.k.b (Nat.le_refl _) E0 E0;go_wp2_with fail;try rw [hW9]
        exact bodyPost_ret (v:=.tuple #[fv E0 E0,.bool false,.int .i64 400]) (by simp [results,Tryz.results74,go_sem,r0,r1]) rfl ⟨by first | rfl |(rw [hRv];rfl),hbW⟩
      | false=>
        have hRv:=HRv.out;rw [if_neg (by decide),HF.out] at hRv;obtain ⟨W9,hW9,⟨r0,r1,_,_⟩,hbW⟩:=Fb.put HY.out.k.f HY.out.k.b (Nat.le_refl _) N1 V1;go_wp2_with fail;try rw [hW9]
        exact bodyPost_ret (v:=.tuple #[fv N1 V1,.bool true,.int .i64 0]) (by simp [results,Tryz.results74,go_sem,r0,r1]) rfl ⟨by first | rfl | rw [hRv],hbW⟩
theorem rparse_any (s:ByteArray) (p:Nat) (hp:p<4294967296) (w:World) (hs:s.size≤1000000000):Calls Tryz.prog 74 #[.string s,.int .u32 (p:Nat)] w fun e w'=>e=.returned (rv (parse (clOf p) s.data.toList))∧Below w.heap.size w w':=by
 rcases colon_cases s.data.toList with ⟨h1,h2⟩ | ⟨j,hj,h1,h2,h3,h4,h5⟩
 ·have:=rparse_none s p hp w hs h1;unfold parse;rw [if_neg (by rw [h2];decide)];exact this
 ·have:=rparse_some s p hp w hs j (by rw [←len];exact hj) h1 h2;unfold parse;rw [if_pos h5,h3,h4];exact this
end code
end Go.Proofs.YtldhlecknfomjaaGreatDoor.Fd
namespace Go.Proofs.YtldhlecknfomjaaGreatDoor.Rec
open Go.RowKit Base Txt
def atV (n:Nat) (zs:List Int) (i:Int):Int:=if n=0 then i%256 else (zs[i.toNat%n]?.getD 0+wrap64 (wrap64 (Int.tdiv i n)*41)%256)%256
theorem atV_in (n:Nat) (zs:List Int) (i:Int):0≤atV n zs i∧atV n zs i≤255:=by unfold atV;split<;>omega
theorem rem_at (x:Int) (h:0≤x) (n:Nat) (hn:0<n):∃j:Nat,j<n∧Int.tmod x n=(j:Int)∧x%n=(j:Int):=by
 refine ⟨x.toNat%n,Nat.mod_lt _ hn,?_,?_⟩
 ·rw [Int.tmod_eq_emod_of_nonneg h,Int.natCast_emod,Int.toNat_of_nonneg h]
 ·rw [Int.natCast_emod,Int.toNat_of_nonneg h]
theorem nums_of_bk {w:World} {g:Nat} {B:List UInt8} (h:Bk w g (vals B)) (n:Nat) (hn:B.length=n):Nums .u8 w (some ⟨g,0,none⟩) n (nums B):=by
 subst hn;refine ⟨by simp [nums],fun _=>⟨g,0,rfl,h.lt,fun k hk=>?_⟩⟩;rw [Nat.zero_add,nums_at B k hk]
 exact h.c k _ (by rw [vals,List.getElem?_map,List.getElem?_eq_getElem hk];rfl)
theorem bk_of_bytes {w:World} {g:Nat} {B:List UInt8} (h:Bytes w g B) (hlt:g<w.heap.size):Bk w g (vals B):=by
 refine ⟨fun k v hv=>?_,fun k hk=>?_,hlt⟩
 ·have hk:k<B.length:=by
   rcases Nat.lt_or_ge k B.length with h | h
   ·exact h
   ·rw [vals,List.getElem?_map,List.getElem?_eq_none h] at hv;cases hv
  rw [vals,List.getElem?_map,List.getElem?_eq_getElem hk] at hv;rw [(h k hk).1];exact hv
 ·exact (h k (by rw [vals_length] at hk;exact hk)).2
def neatM:List ByteArray:= [⟨#[71,69,84]⟩,⟨#[80,79,83,84]⟩,⟨#[80,85,84]⟩,⟨#[68,69,76,69,84,69]⟩,⟨#[72,69,65,68]⟩]
def neatX:List ByteArray:= [⟨#[47]⟩,⟨#[47,97]⟩,⟨#[47,97,47,98,63,120,61,49]⟩,⟨#[47,118,49,47,105,116,101,109,47,55]⟩,⟨#[47,115,116,97,116,105,99,47,99,115,115,47,109,46,99,115,115]⟩,⟨#[104,116,116,112,58,47,47,97,47,113]⟩]
def neatH:List ByteArray:= [⟨#[97]⟩,⟨#[104,46,111,114,103]⟩]
def neatF:List Fld:= [(⟨#[65]⟩,⟨#[98]⟩),(⟨#[88,45,89]⟩,⟨#[122]⟩),(⟨#[65,99,99,101,112,116]⟩,⟨#[42,47,42]⟩),(⟨#[67,111,111,107,105,101]⟩,⟨#[97,61,49]⟩)]
def neatB:List UInt8:= [48,49,50,51,52,53,54,55,56,57,97,98,99,100,101,102]
def FsR (x:ByteArray) (fs:List Fld):Prop:=∃gs:List Fld,fs=(⟨#[72,111,115,116]⟩,x)::gs∧∀g∈gs,g∈neatF
theorem neatF_small:∀g∈neatF,g.1.size≤100∧g.2.size≤100:=by decide
theorem FsR.small {x:ByteArray} {fs:List Fld} (h:FsR x fs) (hx:x.size≤100):∀f∈fs,f.1.size≤100∧f.2.size≤100:=by
 obtain ⟨gs,rfl,hg⟩:=h;intro f hf;rcases List.mem_cons.1 hf with rfl | hf
 ·exact ⟨show (⟨#[72,111,115,116]⟩:ByteArray).size≤100 by decide,hx⟩
 ·exact neatF_small f (hg f hf)
structure NeatR (r:R):Prop where
 m:r.m∈neatM
 x:r.x∈neatX
 k:r.k=1
 fs:∃h∈neatH,∃gs:List Fld,r.fs=(⟨#[72,111,115,116]⟩,h)::gs∧gs.length≤2∧∀g∈gs,g∈neatF
 body:∃n,n≤15∧r.body=neatB.take n
 ts:r.ts= []∨r.ts= [(⟨#[84]⟩,⟨#[117]⟩)]
theorem FsR.all {x:ByteArray} {fs:List Fld} {k:Nat} (h:FsR x fs) (hx:x∈neatH) (hl:fs.length=k+1) (hk:k≤2):∃h∈neatH,∃gs:List Fld,fs=(⟨#[72,111,115,116]⟩,h)::gs∧gs.length≤2∧∀g∈gs,g∈neatF:=by obtain ⟨gs,rfl,hg⟩:=h;exact ⟨x,hx,gs,rfl,by rw [List.length_cons] at hl;omega,hg⟩
theorem dig_take (x:Nat):((ByteArray.mk #[48,49,50,51,52,53,54,55,56,57,97,98,99,100,101,102]).extract 0 x).data.toList=neatB.take x:=by rw [Lib.extract_data];simp [neatB]
section code
set_option maxHeartbeats 4000000
set_option maxRecDepth 20000
theorem at_any (a:Option Addr) (n cap:Nat) (zs:List Int) (g:Nat) (i:Int) (w:World) (hc:w.cell? ⟨g,0,none⟩=some (.slice a n cap)) (hv:Nums .u8 w a n zs) (h0:0≤i) :
 Calls Tryz.prog 73 #[.int .i64 i,.pointer (some ⟨g,0,none⟩)] w fun e w'=>e=.returned (.int .u8 (atV n zs i))∧∃q,w'=w.drewN q:=by
 rcases Nat.eq_zero_or_pos n with hz | hp
 ·subst hz;go_enter Tryz.func73,Tryz.ntmps73;go_wp2;go_ret;exact ⟨rfl,0,rfl⟩
 ·have e:atV n zs i=(zs[i.toNat%n]?.getD 0+wrap64 (wrap64 (Int.tdiv i n)*41)%256)%256:=by unfold atV;rw [if_neg (by omega)]
  rw [e];clear e;obtain ⟨b,off,rfl,hb,hcs⟩:=hv.2 hp;obtain ⟨j,hj,hjm,_⟩:∃j:Nat,j<n∧Int.tmod i (n:Int)=(j:Int)∧i.toNat%n=j:=by refine ⟨i.toNat%n,Nat.mod_lt _ hp,?_,rfl⟩;rw [Int.tmod_eq_emod_of_nonneg h0,Int.natCast_emod,Int.toNat_of_nonneg h0]
  rename_i hjn;rw [hjn];obtain ⟨d,hd⟩:∃d:Int,Int.tdiv i (n:Int)=d:=⟨_,rfl⟩;rw [hd];have hck:=hcs j hj;generalize zs[j]?.getD 0=z at *;have t0:((n:Int)==0)=false:=by rw [beq_eq_false_iff_ne];omega
  have t1:¬(n:Int)=0:=by omega
  clear hcs hv hjn h0;go_enter Tryz.func73,Tryz.ntmps73;go_wp2_with fail
  go_quiet (fail);rename_i nq;go_wp2;go_ret;exact ⟨rfl,nq,rfl⟩
theorem parse4_any (j:Nat) (hj:j<4) (X:ByteArray) (hX:([.string ⟨#[65,58,32,98]⟩,.string ⟨#[88,45,89,58,32,122]⟩,.string ⟨#[65,99,99,101,112,116,58,32,42,47,42]⟩,.string ⟨#[67,111,111,107,105,101,58,32,97,61,49]⟩]:List Value)[j]?=some (.string X)) (w:World):Calls Tryz.prog 74 #[.string X,.int .u32 0] w fun e w'=>
 ∃nn vv:ByteArray,e=.returned (.tuple #[.agg #[.string nn,.string vv],.bool true,.int .i64 0])∧(nn,vv)∈neatF∧Below w.heap.size w w':=by
 have key:∀(s:ByteArray) (nn vv:List UInt8),s.size≤1000→Fd.parse Fd.c0 s.data.toList=some (some (nn,vv))→(ba nn,ba vv)∈neatF→Calls Tryz.prog 74 #[.string s,.int .u32 0] w fun e w'=>
  ∃nn vv:ByteArray,e=.returned (.tuple #[.agg #[.string nn,.string vv],.bool true,.int .i64 0])∧(nn,vv)∈neatF∧Below w.heap.size w w':=by
  intro s nn vv hs hp h1;refine (Fd.rparse_any s 0 (by decide) w (by omega)).mono ?_;rintro e w' ⟨rfl,hb⟩;rw [Fd.clOf_zero,hp];exact ⟨Txt.ba nn,Txt.ba vv,rfl,h1,hb⟩
 match j,hj with
 | 0,_=>simp at hX;subst hX;exact key _ [65] [98] (by decide) (by decide +kernel) (by simp [neatF,Txt.ba])
 | 1,_=>simp at hX;subst hX;exact key _ [88,45,89] [122] (by decide) (by decide +kernel) (by simp [neatF,Txt.ba])
 | 2,_=>simp at hX;subst hX;exact key _ [65,99,99,101,112,116] [42,47,42] (by decide) (by decide +kernel) (by simp [neatF,Txt.ba])
 | 3,_=>simp at hX;subst hX;exact key _ [67,111,111,107,105,101] [97,61,49] (by decide) (by decide +kernel) (by simp [neatF,Txt.ba])
theorem neat_full (a:Option Addr) (n cap:Nat) (zs:List Int) (w:World) (hv:Nums .u8 w a n zs) :
 Calls Tryz.prog 18 #[.slice a n cap] w fun e w'=>∃V' r',e=.returned V'∧Reads w' V' r'∧r'.k=1∧Small r'∧0<r'.fs.length∧r'.fs.length≤3∧Below w.heap.size w w'∧NeatR r':=by
 have eg:∀args w,(callFunc 73 args).run Tryz.prog w=.ok (.enter 73 args) w:=enters_of Tryz.func73 (by kernel_rfl) rfl;have HAT:Hid (∀(w1:World) (i:Int),Below w.heap.size w w1→Bk w1 w.heap.size [.slice a n cap]→0≤i→Calls Tryz.prog 73 #[.int .i64 i,.pointer (some ⟨w.heap.size,0,none⟩)] w1 fun e w'=>e=.returned (.int .u8 (atV n zs i))∧∃q,w'=w1.drewN q):=
  Lib.hid (fun w1 i hb hB h0=>at_any a n cap zs w.heap.size i w1 (hB.c 0 _ rfl) (hv.below hb) h0)
 have hF:=fun i=>atV_in n zs i;clear hv;generalize atV n zs=F at *
 obtain ⟨j0,hj0,rj0,rj0'⟩:=rem_at (F 0) (hF 0).1 5 (by decide);obtain ⟨X0,hX0,hsX0,hmX0⟩:∃X:ByteArray,([.string ⟨#[71,69,84]⟩,.string ⟨#[80,79,83,84]⟩,.string ⟨#[80,85,84]⟩,.string ⟨#[68,69,76,69,84,69]⟩,.string ⟨#[72,69,65,68]⟩]:List Value)[j0]?=some (.string X)∧X.size≤100∧X∈neatM:=by
  match j0,hj0 with
  | 0,_=>exact ⟨_,rfl,by decide,by simp [neatM]⟩
  | 1,_=>exact ⟨_,rfl,by decide,by simp [neatM]⟩
  | 2,_=>exact ⟨_,rfl,by decide,by simp [neatM]⟩
  | 3,_=>exact ⟨_,rfl,by decide,by simp [neatM]⟩
  | 4,_=>exact ⟨_,rfl,by decide,by simp [neatM]⟩
 have Hj0:=Lib.hid (show j0<5∧(j0:Int)<5 from ⟨hj0,by omega⟩);have HX0:=Lib.hid hX0;have HMX0:=Lib.hid hmX0
 have R0:=Lib.hid (show Int.tmod (F 0) 5=(j0:Int)∧(F 0)%5=(j0:Int) from ⟨rj0,rj0'⟩);clear hj0 rj0 rj0' hX0 hmX0
 obtain ⟨j1,hj1,rj1,rj1'⟩:=rem_at (F 1) (hF 1).1 6 (by decide);obtain ⟨X1,hX1,hsX1,hmX1⟩:∃X:ByteArray,([.string ⟨#[47]⟩,.string ⟨#[47,97]⟩,.string ⟨#[47,97,47,98,63,120,61,49]⟩,.string ⟨#[47,118,49,47,105,116,101,109,47,55]⟩,.string ⟨#[47,115,116,97,116,105,99,47,99,115,115,47,109,46,99,115,115]⟩,.string ⟨#[104,116,116,112,58,47,47,97,47,113]⟩]:List Value)[j1]?=some (.string X)∧X.size≤100∧X∈neatX:=by
  match j1,hj1 with
  | 0,_=>exact ⟨_,rfl,by decide,by simp [neatX]⟩
  | 1,_=>exact ⟨_,rfl,by decide,by simp [neatX]⟩
  | 2,_=>exact ⟨_,rfl,by decide,by simp [neatX]⟩
  | 3,_=>exact ⟨_,rfl,by decide,by simp [neatX]⟩
  | 4,_=>exact ⟨_,rfl,by decide,by simp [neatX]⟩
  | 5,_=>exact ⟨_,rfl,by decide,by simp [neatX]⟩
 have Hj1:=Lib.hid (show j1<6∧(j1:Int)<6 from ⟨hj1,by omega⟩);have HX1:=Lib.hid hX1;have HMX1:=Lib.hid hmX1
 have R1:=Lib.hid (show Int.tmod (F 1) 6=(j1:Int)∧(F 1)%6=(j1:Int) from ⟨rj1,rj1'⟩);clear hj1 rj1 rj1' hX1 hmX1
 obtain ⟨j2,hj2,rj2,rj2'⟩:=rem_at (F 2) (hF 2).1 2 (by decide);obtain ⟨X2,hX2,hsX2,hmX2⟩:∃X:ByteArray,([.string ⟨#[97]⟩,.string ⟨#[104,46,111,114,103]⟩]:List Value)[j2]?=some (.string X)∧X.size≤100∧X∈neatH:=by
  match j2,hj2 with
  | 0,_=>exact ⟨_,rfl,by decide,by simp [neatH]⟩
  | 1,_=>exact ⟨_,rfl,by decide,by simp [neatH]⟩
 have Hj2:=Lib.hid (show j2<2∧(j2:Int)<2 from ⟨hj2,by omega⟩);have HX2:=Lib.hid hX2;have HMX2:=Lib.hid hmX2
 have R2:=Lib.hid (show Int.tmod (F 2) 2=(j2:Int)∧(F 2)%2=(j2:Int) from ⟨rj2,rj2'⟩);clear hj2 rj2 rj2' hX2 hmX2;obtain ⟨t3,HHt3⟩:∃t3:Nat,Hid (t3<3∧Int.tmod (F 3) 3=(t3:Int)∧F 3%3=(t3:Int)):=by obtain ⟨j,h1,h2,h3⟩:=rem_at (F 3) (hF 3).1 3 (by decide);exact ⟨j,Lib.hid ⟨h1,h2,h3⟩⟩
 obtain ⟨j7,HHj7⟩:∃j7:Nat,Hid (j7<2∧Int.tmod (F 7) 2=(j7:Int)∧F 7%2=(j7:Int)):=by obtain ⟨j,h1,h2,h3⟩:=rem_at (F 7) (hF 7).1 2 (by decide);exact ⟨j,Lib.hid ⟨h1,h2,h3⟩⟩
 obtain ⟨x8,HHx8⟩:∃x8:Nat,Hid (x8<16∧Int.tmod (F 8) 16=(x8:Int)∧F 8%16=(x8:Int)):=by obtain ⟨j,h1,h2,h3⟩:=rem_at (F 8) (hF 8).1 16 (by decide);exact ⟨j,Lib.hid ⟨h1,h2,h3⟩⟩
 obtain ⟨j9,HHj9⟩:∃j9:Nat,Hid (j9<5∧Int.tmod (F 9) 5=(j9:Int)∧F 9%5=(j9:Int)):=by obtain ⟨j,h1,h2,h3⟩:=rem_at (F 9) (hF 9).1 5 (by decide);exact ⟨j,Lib.hid ⟨h1,h2,h3⟩⟩
 replace hF:=Lib.hid hF
 go_enter Tryz.func18,Tryz.ntmps18;go_upto_region 2 with fail
 have hb00:=Lib.hid (((Below.refl _ _).alloc (Nat.le_refl _) (.cells #[.slice a n cap] 23)).alloc (by simp) (.cells #[.string ⟨#[]⟩,.string ⟨#[]⟩,.int .i64 0,.slice none 0 0,.bool false,.slice none 0 0,.slice none 0 0] 25):Below w.heap.size w _)
 have HAl:=Lib.hid ((Bk.new w w.heap.size rfl 23 [.slice a n cap]).alloc (.cells #[.string ⟨#[]⟩,.string ⟨#[]⟩,.int .i64 0,.slice none 0 0,.bool false,.slice none 0 0,.slice none 0 0] 25))
 have HZr:=Lib.hid (Bk.new (w.alloc (.cells #[.slice a n cap] 23)) (w.heap.size+1) (by simp) 25 [.string ⟨#[]⟩,.string ⟨#[]⟩,.int .i64 0,.slice none 0 0,.bool false,.slice none 0 0,.slice none 0 0])
 have hwz:=Lib.hid (show w.heap.size+1<((w.alloc (.cells #[.slice a n cap] 23)).alloc (.cells #[.string ⟨#[]⟩,.string ⟨#[]⟩,.int .i64 0,.slice none 0 0,.bool false,.slice none 0 0,.slice none 0 0] 25)).heap.size by simp);generalize (w.alloc (.cells #[.slice a n cap] 23)).alloc (.cells #[.string ⟨#[]⟩,.string ⟨#[]⟩,.int .i64 0,.slice none 0 0,.bool false,.slice none 0 0,.slice none 0 0] 25)=W0 at *
 have hb0:=Lib.hid (Base.below_drewN hb00.out 1)
 have HAl1:=Lib.hid (HAl.out.drew 1);refine Each.region 22 [10,11,12,13,14,15,16,17,18,19,20,21,22,23,24,25,26,27,28,29,30,4]
  [fun v w=>∃g,v=.slice (some ⟨g,0,none⟩) 5 5∧Bk w g [.string ⟨#[71,69,84]⟩,.string ⟨#[80,79,83,84]⟩,.string ⟨#[80,85,84]⟩,.string ⟨#[68,69,76,69,84,69]⟩,.string ⟨#[72,69,65,68]⟩],
    fun v _=>v=.func (.func 73) #[] #[.pointer (some ⟨w.heap.size,0,none⟩)],
    fun v _=>v=.int .u8 (F 0),
    fun v _=>v=.int .u8 (j0:Int),
    fun v w=>∃g,v=.pointer (some ⟨g,j0,none⟩)∧Bk w g [.string ⟨#[71,69,84]⟩,.string ⟨#[80,79,83,84]⟩,.string ⟨#[80,85,84]⟩,.string ⟨#[68,69,76,69,84,69]⟩,.string ⟨#[72,69,65,68]⟩],
    fun v _=>v=.string X0,
    fun v w=>∃g,v=.slice (some ⟨g,0,none⟩) 6 6∧Bk w g [.string ⟨#[47]⟩,.string ⟨#[47,97]⟩,.string ⟨#[47,97,47,98,63,120,61,49]⟩,.string ⟨#[47,118,49,47,105,116,101,109,47,55]⟩,.string ⟨#[47,115,116,97,116,105,99,47,99,115,115,47,109,46,99,115,115]⟩,.string ⟨#[104,116,116,112,58,47,47,97,47,113]⟩],
    fun v _=>v=.func (.func 73) #[] #[.pointer (some ⟨w.heap.size,0,none⟩)],
    fun v _=>v=.int .u8 (F 1),
    fun v _=>v=.int .u8 (j1:Int),
    fun v w=>∃g,v=.pointer (some ⟨g,j1,none⟩)∧Bk w g [.string ⟨#[47]⟩,.string ⟨#[47,97]⟩,.string ⟨#[47,97,47,98,63,120,61,49]⟩,.string ⟨#[47,118,49,47,105,116,101,109,47,55]⟩,.string ⟨#[47,115,116,97,116,105,99,47,99,115,115,47,109,46,99,115,115]⟩,.string ⟨#[104,116,116,112,58,47,47,97,47,113]⟩],
    fun v _=>v=.string X1,
    fun v w=>∃g,v=.slice (some ⟨g,0,none⟩) 2 2∧Bk w g [.string ⟨#[97]⟩,.string ⟨#[104,46,111,114,103]⟩],
    fun v _=>v=.func (.func 73) #[] #[.pointer (some ⟨w.heap.size,0,none⟩)],
    fun v _=>v=.int .u8 (F 2),
    fun v _=>v=.int .u8 (j2:Int),
    fun v w=>∃g,v=.pointer (some ⟨g,j2,none⟩)∧Bk w g [.string ⟨#[97]⟩,.string ⟨#[104,46,111,114,103]⟩],
    fun v _=>v=.string X2,
    fun v _=>v=.agg #[.string ⟨#[72,111,115,116]⟩,.string X2],
    fun v w=>∃g,v=.slice (some ⟨g,0,none⟩) 1 1∧World.ownsRow w W0.heap.size 48 2 (.slice (some ⟨g,0,none⟩) 1 1) 1 (cells [(⟨#[72,111,115,116]⟩,X2)]),
    fun v w=>∃g,v=.agg #[.string X0,.string X1,.int .i64 1,.slice (some ⟨g,0,none⟩) 1 1,.bool false,.slice none 0 0,.slice none 0 0]∧World.ownsRow w W0.heap.size 48 2 (.slice (some ⟨g,0,none⟩) 1 1) 1 (cells [(⟨#[72,111,115,116]⟩,X2)]),
    fun v w=>∃g,v=.pointer (some ⟨g,0,none⟩)∧(W0.heap.size≤g∧Bk w g [.string ⟨#[]⟩,.string ⟨#[]⟩,.int .i64 0,.slice none 0 0,.bool false,.slice none 0 0,.slice none 0 0])]
  (.act 22 .done) (by kernel_rfl) (by kernel_rfl) (by kernel_rfl) (by kernel_rfl) (fun _ _ d _ _ h=>by cases d<;>exact h) (by rfl) (by rfl)
  ⟨((fun _ _ _ hb h=>by obtain ⟨g,rfl,hB⟩:=h;exact ⟨g,rfl,hB.below hb⟩)),Each.Lasts.eq _,Each.Lasts.eq _,Each.Lasts.eq _,((fun _ _ _ hb h=>by obtain ⟨g,rfl,hB⟩:=h;exact ⟨g,rfl,hB.below hb⟩)),Each.Lasts.eq _,((fun _ _ _ hb h=>by obtain ⟨g,rfl,hB⟩:=h;exact ⟨g,rfl,hB.below hb⟩)),Each.Lasts.eq _,Each.Lasts.eq _,Each.Lasts.eq _,((fun _ _ _ hb h=>by obtain ⟨g,rfl,hB⟩:=h;exact ⟨g,rfl,hB.below hb⟩)),Each.Lasts.eq _,((fun _ _ _ hb h=>by obtain ⟨g,rfl,hB⟩:=h;exact ⟨g,rfl,hB.below hb⟩)),Each.Lasts.eq _,Each.Lasts.eq _,Each.Lasts.eq _,((fun _ _ _ hb h=>by obtain ⟨g,rfl,hB⟩:=h;exact ⟨g,rfl,hB.below hb⟩)),Each.Lasts.eq _,Each.Lasts.eq _,((fun _ _ _ hb h=>by obtain ⟨g,rfl,hB⟩:=h;exact ⟨g,rfl,own_below hB hb⟩)),((fun _ _ _ hb h=>by obtain ⟨g,rfl,hB⟩:=h;exact ⟨g,rfl,own_below hB hb⟩)),((fun _ _ _ hb h=>by obtain ⟨g,rfl,hg,hB⟩:=h;exact ⟨g,rfl,hg,hB.below hb⟩)),trivial⟩ ?_ ?_
 ·refine ⟨?_,?_,?_,?_,?_,?_,?_,?_,?_,?_,?_,?_,?_,?_,?_,?_,?_,?_,?_,?_,?_,?_,trivial⟩
  ·refine Each.fine rfl (fun ev w1 hR hb hh=>?_);clear hh;have ec:=hR.const;exact Each.Goes.value (.slice (some ⟨w1.heap.size,0,none⟩) 5 5) (w1.alloc (.cells #[.string ⟨#[71,69,84]⟩,.string ⟨#[80,79,83,84]⟩,.string ⟨#[80,85,84]⟩,.string ⟨#[68,69,76,69,84,69]⟩,.string ⟨#[72,69,65,68]⟩] 9)) (by go_simp) ((Below.refl _ _).alloc (Nat.le_refl _) _) ⟨_,rfl,Bk.new w1 _ rfl 9 [.string ⟨#[71,69,84]⟩,.string ⟨#[80,79,83,84]⟩,.string ⟨#[80,85,84]⟩,.string ⟨#[68,69,76,69,84,69]⟩,.string ⟨#[72,69,65,68]⟩]⟩
  ·refine Each.fine rfl (fun ev w1 hR hb hh=>?_);clear hh;have e3:=hR.old 3 rfl;simp only [Array.getD_eq_getD_getElem?,List.getElem?_toArray,List.getElem?_cons_succ,List.getElem?_cons_zero,Option.getD_some] at e3;refine Each.Goes.same ?_;go_simp;try with_reducible rfl
  ·refine Each.fine rfl (fun ev w1 hR hb hh=>?_);have e11:(ev (.tmp 11)=.func (.func 73) #[] #[.pointer (some ⟨w.heap.size,0,none⟩)]):=hh.at 0;clear hh;have ec:=hR.const
   refine Each.Goes.enter 73 #[.int .i64 0,.pointer (some ⟨w.heap.size,0,none⟩)] (by go_simp) ((HAT.out w1 0 (Base.below_step hb0.out hb) (HAl1.out.below hb) (by decide)).mono ?_);rintro e w2 ⟨rfl,q,hw⟩;exact ⟨_,rfl,(by rw [hw];exact Base.below_drewN (Below.refl _ _) q),rfl⟩
  ·refine Each.fine rfl (fun ev w1 hR hb hh=>?_);have e12:(ev (.tmp 12)=.int .u8 (F 0)):=hh.at 0;clear hh;have ec:=hR.const;have r1:=R0.out.1;have r2:=R0.out.2;refine Each.Goes.same ?_;go_simp;try with_reducible rfl
  ·refine Each.fine rfl (fun ev w1 hR hb hh=>?_);have e10:((fun v w=>∃g,v=.slice (some ⟨g,0,none⟩) 5 5∧Bk w g [.string ⟨#[71,69,84]⟩,.string ⟨#[80,79,83,84]⟩,.string ⟨#[80,85,84]⟩,.string ⟨#[68,69,76,69,84,69]⟩,.string ⟨#[72,69,65,68]⟩]) (ev (.tmp 10)) w1):=hh.at 0;have e13:(ev (.tmp 13)=.int .u8 (j0:Int)):=hh.at 1;clear hh;obtain ⟨ga,ea,hB⟩:=e10;have hi1:=Hj0.out.1;have hi2:=Hj0.out.2;exact Each.Goes.value (.pointer (some ⟨ga,j0,none⟩)) w1 (by go_simp) (Below.refl _ _) ⟨ga,rfl,hB⟩
  ·refine Each.fine rfl (fun ev w1 hR hb hh=>?_);have e14:((fun v w=>∃g,v=.pointer (some ⟨g,j0,none⟩)∧Bk w g [.string ⟨#[71,69,84]⟩,.string ⟨#[80,79,83,84]⟩,.string ⟨#[80,85,84]⟩,.string ⟨#[68,69,76,69,84,69]⟩,.string ⟨#[72,69,65,68]⟩]) (ev (.tmp 14)) w1):=hh.at 0;clear hh;obtain ⟨ga,ea,hB⟩:=e14;have q0:=hB.c j0 _ HX0.out;refine Each.Goes.same ?_;go_simp;try with_reducible rfl
  ·refine Each.fine rfl (fun ev w1 hR hb hh=>?_);clear hh;have ec:=hR.const;exact Each.Goes.value (.slice (some ⟨w1.heap.size,0,none⟩) 6 6) (w1.alloc (.cells #[.string ⟨#[47]⟩,.string ⟨#[47,97]⟩,.string ⟨#[47,97,47,98,63,120,61,49]⟩,.string ⟨#[47,118,49,47,105,116,101,109,47,55]⟩,.string ⟨#[47,115,116,97,116,105,99,47,99,115,115,47,109,46,99,115,115]⟩,.string ⟨#[104,116,116,112,58,47,47,97,47,113]⟩] 9)) (by go_simp) ((Below.refl _ _).alloc (Nat.le_refl _) _) ⟨_,rfl,Bk.new w1 _ rfl 9 [.string ⟨#[47]⟩,.string ⟨#[47,97]⟩,.string ⟨#[47,97,47,98,63,120,61,49]⟩,.string ⟨#[47,118,49,47,105,116,101,109,47,55]⟩,.string ⟨#[47,115,116,97,116,105,99,47,99,115,115,47,109,46,99,115,115]⟩,.string ⟨#[104,116,116,112,58,47,47,97,47,113]⟩]⟩
  ·refine Each.fine rfl (fun ev w1 hR hb hh=>?_);clear hh;have e3:=hR.old 3 rfl;simp only [Array.getD_eq_getD_getElem?,List.getElem?_toArray,List.getElem?_cons_succ,List.getElem?_cons_zero,Option.getD_some] at e3;refine Each.Goes.same ?_;go_simp;try with_reducible rfl
  ·refine Each.fine rfl (fun ev w1 hR hb hh=>?_);have e17:(ev (.tmp 17)=.func (.func 73) #[] #[.pointer (some ⟨w.heap.size,0,none⟩)]):=hh.at 0;clear hh;have ec:=hR.const
   refine Each.Goes.enter 73 #[.int .i64 1,.pointer (some ⟨w.heap.size,0,none⟩)] (by go_simp) ((HAT.out w1 1 (Base.below_step hb0.out hb) (HAl1.out.below hb) (by decide)).mono ?_);rintro e w2 ⟨rfl,q,hw⟩;exact ⟨_,rfl,(by rw [hw];exact Base.below_drewN (Below.refl _ _) q),rfl⟩
  ·refine Each.fine rfl (fun ev w1 hR hb hh=>?_);have e18:(ev (.tmp 18)=.int .u8 (F 1)):=hh.at 0;clear hh;have ec:=hR.const;have r1:=R1.out.1;have r2:=R1.out.2;refine Each.Goes.same ?_;go_simp;try with_reducible rfl
  ·refine Each.fine rfl (fun ev w1 hR hb hh=>?_);have e16:((fun v w=>∃g,v=.slice (some ⟨g,0,none⟩) 6 6∧Bk w g [.string ⟨#[47]⟩,.string ⟨#[47,97]⟩,.string ⟨#[47,97,47,98,63,120,61,49]⟩,.string ⟨#[47,118,49,47,105,116,101,109,47,55]⟩,.string ⟨#[47,115,116,97,116,105,99,47,99,115,115,47,109,46,99,115,115]⟩,.string ⟨#[104,116,116,112,58,47,47,97,47,113]⟩]) (ev (.tmp 16)) w1):=hh.at 0;have e19:(ev (.tmp 19)=.int .u8 (j1:Int)):=hh.at 1;clear hh;obtain ⟨ga,ea,hB⟩:=e16;have hi1:=Hj1.out.1;have hi2:=Hj1.out.2;exact Each.Goes.value (.pointer (some ⟨ga,j1,none⟩)) w1 (by go_simp) (Below.refl _ _) ⟨ga,rfl,hB⟩
  ·refine Each.fine rfl (fun ev w1 hR hb hh=>?_);have e20:((fun v w=>∃g,v=.pointer (some ⟨g,j1,none⟩)∧Bk w g [.string ⟨#[47]⟩,.string ⟨#[47,97]⟩,.string ⟨#[47,97,47,98,63,120,61,49]⟩,.string ⟨#[47,118,49,47,105,116,101,109,47,55]⟩,.string ⟨#[47,115,116,97,116,105,99,47,99,115,115,47,109,46,99,115,115]⟩,.string ⟨#[104,116,116,112,58,47,47,97,47,113]⟩]) (ev (.tmp 20)) w1):=hh.at 0;clear hh;obtain ⟨ga,ea,hB⟩:=e20;have q0:=hB.c j1 _ HX1.out;refine Each.Goes.same ?_;go_simp;try with_reducible rfl
  ·refine Each.fine rfl (fun ev w1 hR hb hh=>?_);clear hh;have ec:=hR.const;exact Each.Goes.value (.slice (some ⟨w1.heap.size,0,none⟩) 2 2) (w1.alloc (.cells #[.string ⟨#[97]⟩,.string ⟨#[104,46,111,114,103]⟩] 9)) (by go_simp) ((Below.refl _ _).alloc (Nat.le_refl _) _) ⟨_,rfl,Bk.new w1 _ rfl 9 [.string ⟨#[97]⟩,.string ⟨#[104,46,111,114,103]⟩]⟩
  ·refine Each.fine rfl (fun ev w1 hR hb hh=>?_);clear hh;have e3:=hR.old 3 rfl;simp only [Array.getD_eq_getD_getElem?,List.getElem?_toArray,List.getElem?_cons_succ,List.getElem?_cons_zero,Option.getD_some] at e3;refine Each.Goes.same ?_;go_simp;try with_reducible rfl
  ·refine Each.fine rfl (fun ev w1 hR hb hh=>?_);have e23:(ev (.tmp 23)=.func (.func 73) #[] #[.pointer (some ⟨w.heap.size,0,none⟩)]):=hh.at 0;clear hh;have ec:=hR.const
   refine Each.Goes.enter 73 #[.int .i64 2,.pointer (some ⟨w.heap.size,0,none⟩)] (by go_simp) ((HAT.out w1 2 (Base.below_step hb0.out hb) (HAl1.out.below hb) (by decide)).mono ?_);rintro e w2 ⟨rfl,q,hw⟩;exact ⟨_,rfl,(by rw [hw];exact Base.below_drewN (Below.refl _ _) q),rfl⟩
  ·refine Each.fine rfl (fun ev w1 hR hb hh=>?_);have e24:(ev (.tmp 24)=.int .u8 (F 2)):=hh.at 0;clear hh;have ec:=hR.const;have r1:=R2.out.1;have r2:=R2.out.2;refine Each.Goes.same ?_;go_simp;try with_reducible rfl
  ·refine Each.fine rfl (fun ev w1 hR hb hh=>?_);have e22:((fun v w=>∃g,v=.slice (some ⟨g,0,none⟩) 2 2∧Bk w g [.string ⟨#[97]⟩,.string ⟨#[104,46,111,114,103]⟩]) (ev (.tmp 22)) w1):=hh.at 0;have e25:(ev (.tmp 25)=.int .u8 (j2:Int)):=hh.at 1;clear hh;obtain ⟨ga,ea,hB⟩:=e22;have hi1:=Hj2.out.1;have hi2:=Hj2.out.2;exact Each.Goes.value (.pointer (some ⟨ga,j2,none⟩)) w1 (by go_simp) (Below.refl _ _) ⟨ga,rfl,hB⟩
  ·refine Each.fine rfl (fun ev w1 hR hb hh=>?_);have e26:((fun v w=>∃g,v=.pointer (some ⟨g,j2,none⟩)∧Bk w g [.string ⟨#[97]⟩,.string ⟨#[104,46,111,114,103]⟩]) (ev (.tmp 26)) w1):=hh.at 0;clear hh;obtain ⟨ga,ea,hB⟩:=e26;have q0:=hB.c j2 _ HX2.out;refine Each.Goes.same ?_;go_simp;try with_reducible rfl
  ·refine Each.fine rfl (fun ev w1 hR hb hh=>?_);have e27:(ev (.tmp 27)=.string X2):=hh.at 0;clear hh;have ec:=hR.const;refine Each.Goes.same ?_;go_simp;try with_reducible rfl
  ·refine Each.fine rfl (fun ev w1 hR hb hh=>?_);have e28:(ev (.tmp 28)=.agg #[.string ⟨#[72,111,115,116]⟩,.string X2]):=hh.at 0;clear hh;exact Each.Goes.value (.slice (some ⟨w1.heap.size,0,none⟩) 1 1) (w1.alloc (.cells #[.string ⟨#[72,111,115,116]⟩,.string X2] 48)) (by go_simp) ((Below.refl _ _).alloc (Nat.le_refl _) _) ⟨_,rfl,World.ownsRow_lit w1 #[.string ⟨#[72,111,115,116]⟩,.string X2] 1 (hb.size) (by decide) rfl⟩
  ·refine Each.fine rfl (fun ev w1 hR hb hh=>?_);have e15:(ev (.tmp 15)=.string X0):=hh.at 0;have e21:(ev (.tmp 21)=.string X1):=hh.at 1;have e29:((fun v w=>∃g,v=.slice (some ⟨g,0,none⟩) 1 1∧World.ownsRow w W0.heap.size 48 2 (.slice (some ⟨g,0,none⟩) 1 1) 1 (cells [(⟨#[72,111,115,116]⟩,X2)])) (ev (.tmp 29)) w1):=hh.at 2;clear hh;have ec:=hR.const;obtain ⟨g,ea,ho⟩:=e29;exact Each.Goes.value (.agg #[.string X0,.string X1,.int .i64 1,.slice (some ⟨g,0,none⟩) 1 1,.bool false,.slice none 0 0,.slice none 0 0]) w1 (by go_simp) (Below.refl _ _) ⟨g,rfl,ho⟩
  ·refine Each.fine rfl (fun ev w1 hR hb hh=>?_);clear hh;exact Each.Goes.value (.pointer (some ⟨w1.heap.size,0,none⟩)) (w1.alloc (.cells #[.string ⟨#[]⟩,.string ⟨#[]⟩,.int .i64 0,.slice none 0 0,.bool false,.slice none 0 0,.slice none 0 0] 25)) (by go_simp) ((Below.refl _ _).alloc (Nat.le_refl _) _) ⟨_,rfl,hb.size,Bk.new w1 _ rfl 25 [.string ⟨#[]⟩,.string ⟨#[]⟩,.int .i64 0,.slice none 0 0,.bool false,.slice none 0 0,.slice none 0 0]⟩
 intro g1 w2 hb hf;have z30:((fun v w=>∃g,v=.agg #[.string X0,.string X1,.int .i64 1,.slice (some ⟨g,0,none⟩) 1 1,.bool false,.slice none 0 0,.slice none 0 0]∧World.ownsRow w W0.heap.size 48 2 (.slice (some ⟨g,0,none⟩) 1 1) 1 (cells [(⟨#[72,111,115,116]⟩,X2)])) (g1 30) w2):=hf.at 20;have z4:((fun v w=>∃g,v=.pointer (some ⟨g,0,none⟩)∧(W0.heap.size≤g∧Bk w g [.string ⟨#[]⟩,.string ⟨#[]⟩,.int .i64 0,.slice none 0 0,.bool false,.slice none 0 0,.slice none 0 0])) (g1 4) w2):=hf.at 21;clear hf;obtain ⟨ga,ea,ho⟩:=z30;obtain ⟨gb,eb,hgb,hB⟩:=z4;simp only [Each.putg,Act.put,List.setIfInBounds_toArray,List.set_cons_zero,List.set_cons_succ];rw [ea,eb];simp only [Tree.grow,Tree.put1,List.getElem?_cons_zero,List.getElem?_cons_succ]
 refine Tree.change (by rfl) (fun K hK=>?_);have y0:=hB.c 0 _ rfl;have y1:=hB.c 1 _ rfl;have y2:=hB.c 2 _ rfl;have y3:=hB.c 3 _ rfl;have y4:=hB.c 4 _ rfl;have y5:=hB.c 5 _ rfl;have y6:=hB.c 6 _ rfl
 have p0:=hB.z 0 (by simp);have p1:=hB.z 1 (by simp);have p2:=hB.z 2 (by simp);have p3:=hB.z 3 (by simp);have p4:=hB.z 4 (by simp);have p5:=hB.z 5 (by simp);have p6:=hB.z 6 (by simp);have hne:¬ga=gb:=fun e=>by have h1:=ho.cellAt 0 (by decide);rw [e,y0] at h1;rw [show (cells [((⟨#[72,111,115,116]⟩:ByteArray),X2)])[0]?=some (.string ⟨#[72,111,115,116]⟩) from rfl] at h1;simp at h1
 obtain ⟨X,hX,hBX,hbX,hsX,hoX,hkX⟩:=put7 hB (by simp) (Base.below_step hb00.out hb) (by have:=hwz.out;omega) (.string X0) (.string X1) (.int .i64 1) (.slice (some ⟨ga,0,none⟩) 1 1) (.bool false) (.slice none 0 0) (.slice none 0 0);have HG0:=Lib.hid hBX
 have HO0:=Lib.hid (hoX _ _ _ _ _ _ ho (fun e=>hne (by simpa [Value.ownBlock] using e)))
 have HAx:=Lib.hid (hkX _ _ (by have:=hwz.out;omega) (HAl.out.below hb))
 have HZx:=Lib.hid (hkX _ _ (by have:=hwz.out;omega) (HZr.out.below hb));have HBx:=Lib.hid hbX;have HX:=Lib.hid hX;have HNE:=Lib.hid hne
 have HSX:=Lib.hid (show W0.heap.size≤X.heap.size by rw [hsX];exact hb.size);clear hBX hoX hkX hbX hne hX ho ea eb;go_simp;refine hK _ _ trivial ?_;rw [HX.out];have hgb:=Lib.hid hgb;clear hK K HX y0 y1 y2 y3 y4 y5 y6 p0 p1 p2 p3 p4 p5 p6 hB hb hsX HAl HAl1 HZr hb0 hb00;refine Tree.done ?_;obtain ⟨iF,hi,hz0,hz1,hz2⟩:=info_parts field_info;have I1:=Lib.hid hi;have I2:=Lib.hid hz0;have I3:=Lib.hid hz1;have I4:=Lib.hid hz2;clear hi hz0 hz1 hz2;have HXs:=HBx;go_wp2_with fail
 go_loopw [5] (fun i wr=>∃(k:Nat) (fs:List Fld) (v:Value),k≤t3∧i=.int .i64 k∧fs.length=k+1∧Hid (FsR X2 fs)∧Hid (Bk wr gb [.string X0,.string X1,.int .i64 1,v,.bool false,.slice none 0 0,.slice none 0 0])∧Hid (wr.ownsRow W0.heap.size 48 2 v (k+1) (cells fs))∧
  Hid (∀q,v.ownBlock=some q→¬q=gb∧W0.heap.size≤q)∧Hid (Bk wr w.heap.size [.slice a n cap])∧Hid (Bk wr (w.heap.size+1) [.string ⟨#[]⟩,.string ⟨#[]⟩,.int .i64 0,.slice none 0 0,.bool false,.slice none 0 0,.slice none 0 0])∧Hid (W0.heap.size≤wr.heap.size)∧Hid (Below w.heap.size w wr)) (fun i _=>3-(intOf i).toNat)
 case atStart=>
  exact ⟨0,[(⟨#[72,111,115,116]⟩,X2)],.slice (some ⟨ga,0,none⟩) 1 1,Nat.zero_le _,rfl,rfl,Lib.hid ⟨[],rfl,fun g hg=>(by cases hg)⟩,HG0,HO0,Lib.hid (fun q hq=>by
   obtain rfl:ga=q:=(by simpa [Value.ownBlock] using hq)
   exact ⟨HNE.out,(World.ownsRow.lt HO0.out _ rfl).1⟩),HAx,HZx,HSX,HBx⟩
 case round=>
  obtain ⟨k,fs,v,hk,rfl,hfl,HFs,HGr,HOr,HNr,HAr,HZr,HSr,hbr⟩:=hrel;by_cases hkt:k<t3
  ·have i1:(k:Int)<(t3:Int):=by omega
   obtain ⟨j4,HH4⟩:∃j:Nat,Hid (j<4∧Int.tmod (F (4+(k:Int))) 4=(j:Int)∧F (4+(k:Int))%4=(j:Int)):=by obtain ⟨j,h1,h2,h3⟩:=rem_at (F (4+(k:Int))) (hF.out _).1 4 (by decide);exact ⟨j,Lib.hid ⟨h1,h2,h3⟩⟩
   have hj4:=HH4.out.1;obtain ⟨X4,hX4⟩:∃X:ByteArray,([.string ⟨#[65,58,32,98]⟩,.string ⟨#[88,45,89,58,32,122]⟩,.string ⟨#[65,99,99,101,112,116,58,32,42,47,42]⟩,.string ⟨#[67,111,111,107,105,101,58,32,97,61,49]⟩]:List Value)[j4]?=some (.string X):=by
    match j4,hj4 with
    | 0,_=>exact ⟨_,rfl⟩
    | 1,_=>exact ⟨_,rfl⟩
    | 2,_=>exact ⟨_,rfl⟩
    | 3,_=>exact ⟨_,rfl⟩
   have HPa:=Lib.hid (fun w=>parse4_any j4 hj4 X4 hX4 w);have HX4:=Lib.hid hX4;have i4:(j4:Int)<4:=by omega
   have hk3:t3≤2:=by have:=HHt3.out.1;omega
   have a1:IntKind.i64.wrap (4+(k:Int))=4+(k:Int):=wrap_in _ (by omega) (by omega)
   have a2:wrap64 (4+(k:Int))=4+(k:Int):=wrap64_in _ (by omega) (by omega);obtain ⟨-,r1,r2⟩:=HHt3.out;obtain ⟨-,r3,r4⟩:=HH4.out;have HKT:=Lib.hid hkt;have HK:=Lib.hid hk;have HK3:=Lib.hid hk3;have HFL:=Lib.hid hfl;have HJ4:=Lib.hid hj4;have HI4:=Lib.hid i4;clear hX4 hkt hk hk3 hfl
   go_upto_region 7 with (first
    |(go_at_call 74;with_reducible refine (HPa.out _).mono ?_;rintro e w6 ⟨nn,vv,rfl,hn6,hb6⟩
      have HB6:=Lib.hid (Base.below_step HB5.out hb6);have HS6:=Lib.hid hn6;clear hb6 hn6)
    |(go_at_fn 73;with_reducible refine (HAT.out _ (4+(k:Int)) (Base.below_step hbr.out (HB4.out.alloc HB4.out.size (.cells #[.string ⟨#[65,58,32,98]⟩,.string ⟨#[88,45,89,58,32,122]⟩,.string ⟨#[65,99,99,101,112,116,58,32,42,47,42]⟩,.string ⟨#[67,111,111,107,105,101,58,32,97,61,49]⟩] 9))) ((HAr.out.below HB4.out).alloc (.cells #[.string ⟨#[65,58,32,98]⟩,.string ⟨#[88,45,89,58,32,122]⟩,.string ⟨#[65,99,99,101,112,116,58,32,42,47,42]⟩,.string ⟨#[67,111,111,107,105,101,58,32,97,61,49]⟩] 9)) (by omega)).mono ?_;rintro e w5 ⟨rfl,q5,hw5⟩
      have hb5:Below (w4.alloc (.cells #[.string ⟨#[65,58,32,98]⟩,.string ⟨#[88,45,89,58,32,122]⟩,.string ⟨#[65,99,99,101,112,116,58,32,42,47,42]⟩,.string ⟨#[67,111,111,107,105,101,58,32,97,61,49]⟩] 9)).heap.size (w4.alloc (.cells #[.string ⟨#[65,58,32,98]⟩,.string ⟨#[88,45,89,58,32,122]⟩,.string ⟨#[65,99,99,101,112,116,58,32,42,47,42]⟩,.string ⟨#[67,111,111,107,105,101,58,32,97,61,49]⟩] 9)) w5:=by rw [hw5];exact Base.below_drewN (Below.refl _ _) q5
      have HB5:=Lib.hid (Base.below_step (HB4.out.alloc HB4.out.size (.cells #[.string ⟨#[65,58,32,98]⟩,.string ⟨#[88,45,89,58,32,122]⟩,.string ⟨#[65,99,99,101,112,116,58,32,42,47,42]⟩,.string ⟨#[67,111,111,107,105,101,58,32,97,61,49]⟩] 9)) hb5)
      have qx:=(hb5.cell (p:=⟨w4.heap.size,j4,none⟩) (by simp)).trans ((Bk.new w4 w4.heap.size rfl 9 [.string ⟨#[65,58,32,98]⟩,.string ⟨#[88,45,89,58,32,122]⟩,.string ⟨#[65,99,99,101,112,116,58,32,42,47,42]⟩,.string ⟨#[67,111,111,107,105,101,58,32,97,61,49]⟩]).c j4 _ HX4.out);clear hb5 hw5)
    |(go_at_fn 73;with_reducible refine (HAT.out _ 3 hbr.out HAr.out (by decide)).mono ?_;rintro e w4 ⟨rfl,q4,hw4⟩
      have HB4:=Lib.hid (show Below wr.heap.size wr w4 by rw [hw4];exact Base.below_drewN (Below.refl _ _) q4);clear hw4))
   have HW2:=Lib.hid (HB6.out.alloc HB6.out.size (.cells #[.string nn,.string vv] 48))
   have HFb:=Lib.hid (Bk.new w6 w6.heap.size rfl 48 [.string nn,.string vv])
   have hfw:=Lib.hid (show wr.heap.size≤w6.heap.size from HB6.out.size);clear qx;generalize w6.alloc (.cells #[.string nn,.string vv] 48)=W2 at *;generalize w6.heap.size=fb at *;clear r1 r2 r3 r4 i1 a1 a2 i4
   have hb2:=Lib.hid (Base.below_step hbr.out HW2.out)
   have HG2:=Lib.hid (HGr.out.below HW2.out);have HA2:=Lib.hid (HAr.out.below HW2.out);have HZ2:=Lib.hid (HZr.out.below HW2.out);have HO2:=Lib.hid (own_below HOr.out HW2.out)
   have HQ:=Lib.hid (show∀q,v.ownBlock=some q→q<W2.heap.size from fun q hq=>own_lt HO2.out q hq)
   have HGl:=Lib.hid (show gb<W2.heap.size from HG2.out.lt)
   have q3:=HG2.out.c 3 _ rfl;have z3:=HG2.out.z 3 (by simp);have y0:=HFb.out.c 0 _ rfl;have y1:=HFb.out.c 1 _ rfl;go_upto_region 5 with
    (at_builtin;refine App.wpList_append_list _ rfl _ _ 22 rfl W0.heap.size 48 iF (.agg #[.string ByteArray.empty,.string ByteArray.empty]) 2 32 Tryz.underlying22 I1.out I2.out I3.out I4.out rfl (by decide) v (k+1) (cells fs) rfl (HO2.out.alloc (.cells #[.string nn,.string vv] 48)) (some ⟨W2.heap.size,0,none⟩) 1 1 [.string nn,.string vv] rfl rfl (lit_lie W2 W2.heap.size rfl 48 [.string nn,.string vv] 1) (by intro u hu;rcases (by simpa using hu:u=.string nn∨u=.string vv) with rfl | rfl<;>rfl) (by have:=HKT.out;have:=HK3.out;unfold maxLen;omega) (by have:=HKT.out;have:=HK3.out;omega) (by have:=HSr.out;have:=HW2.out.size;simp;omega) ?_;intro v2 w7 hO7 hgr7 _ hor7;obtain ⟨b2,c2,rfl⟩:=own_slice hO7;have hO7':w7.ownsRow W0.heap.size 48 2 (.slice b2 (k+1+1) c2) (k+1+1) (cells (fs ++ [(nn,vv)])):=by rw [cells_append];exact hO7
     have HO7:=Lib.hid hO7'
     have HG7:=Lib.hid ((HG2.out.alloc (.cells #[.string nn,.string vv] 48)).grown hgr7 (fun e=>(HNr.out _ e.symm).1 rfl))
     have HA7:=Lib.hid ((HA2.out.alloc (.cells #[.string nn,.string vv] 48)).grown hgr7 (fun e=>by have:=(HNr.out _ e.symm).2;have:=hwz.out;omega))
     have HZ7:=Lib.hid ((HZ2.out.alloc (.cells #[.string nn,.string vv] 48)).grown hgr7 (fun e=>by have:=(HNr.out _ e.symm).2;have:=hwz.out;omega))
     have HB7:=Lib.hid ((hb2.out.alloc hb2.out.size (.cells #[.string nn,.string vv] 48)).grown hgr7 (by have:=hb2.out.size;simp;omega) (fun q e=>by have:=(HNr.out _ e).2;have:=hwz.out;omega))
     have HN7:=Lib.hid (show∀q,(.slice b2 (k+1+1) c2:Value).ownBlock=some q→¬q=gb∧W0.heap.size≤q from fun q e=>by
      rcases hor7 with h | h
      ·rw [h] at e;exact HNr.out q e
      ·rw [h] at e;cases e;have:=HGl.out;have:=HSr.out;have:=HW2.out.size;simp;exact ⟨by omega,by omega⟩)
     have HG8s:=Lib.hid (show W2.heap.size≤w7.heap.size from Nat.le_trans (by simp) hgr7.size)
     have qx:=HG7.out.c 3 _ rfl;have zx:=HG7.out.z 3 (by simp);clear hO7 hO7' hgr7 hor7 q3 z3 y0 y1)
   clear qx zx
   have HG8:=Lib.hid (HG7.out.set 3 (.slice b2 (k+1+1) c2) (by simp))
   have HA8:=Lib.hid (HA7.out.other gb 3 (.slice b2 (k+1+1) c2) (by have:=hgb.out;have:=hwz.out;omega))
   have HZ8:=Lib.hid (HZ7.out.other gb 3 (.slice b2 (k+1+1) c2) (by have:=hgb.out;have:=hwz.out;omega))
   have HB8:=Lib.hid (show Below w.heap.size w (w7.setCell ⟨gb,3,none⟩ (.slice b2 (k+1+1) c2)) from HB7.out.setCell (show w.heap.size≤gb by have:=hgb.out;have:=hwz.out;omega) _)
   have HS8:=Lib.hid (show W0.heap.size≤(w7.setCell ⟨gb,3,none⟩ (.slice b2 (k+1+1) c2)).heap.size by have:=HSr.out;have:=HW2.out.size;have:=HG8s.out;simp;omega)
   have HO8:=Lib.hid (ownsRow_setCell_other HO7.out (a:=⟨gb,3,none⟩) (fun e=>(HN7.out _ e).1 rfl) (.slice b2 (k+1+1) c2));generalize w7.setCell ⟨gb,3,none⟩ (.slice b2 (k+1+1) c2)=W3 at *
   have HFs':=Lib.hid (show FsR X2 (fs ++ [(nn,vv)]) from by
    obtain ⟨gs,e,hg⟩:=HFs.out;refine ⟨gs ++ [(nn,vv)],by rw [e];rfl,fun g hm=>?_⟩;rcases List.mem_append.1 hm with h | h
    ·exact hg g h
    ·rw [List.mem_singleton.1 h];exact HS6.out)
   have HFl':=Lib.hid (show (fs ++ [(nn,vv)]).length=k+1+1 by rw [List.length_append,HFL.out];rfl);have hkt:=HKT.out;have hk3:=HK3.out;go_wp2;go_roundw
   case rel=>exact ⟨k+1,fs ++ [(nn,vv)],.slice b2 (k+1+1) c2,by have:=HKT.out;omega,by go_num,HFl'.out,HFs',HG8,HO8,HN7,HA8,HZ8,HS8,HB8⟩
   case measure=>have:=HKT.out;have:=HK3.out;simp [intOf];omega
  ·have i1:¬(k:Int)<(t3:Int):=by omega
   obtain ⟨-,r1,r2⟩:=HHt3.out;have HKT:=Lib.hid hkt;have HK:=Lib.hid hk;have HK3:=Lib.hid (show t3≤2 by have:=HHt3.out.1;omega);have HFL:=Lib.hid hfl;clear hkt hk hfl;obtain ⟨hj7,r3,r4⟩:=HHj7.out;obtain ⟨-,r5,r6⟩:=HHx8.out;have hx8:(x8:Int)≤16:=by have:=HHx8.out.1;omega
   have hx8':¬(16:Int)<(x8:Int):=by omega
   obtain ⟨bf,cf,rfl⟩:=own_slice HOr.out;rcases (by omega:j7=0∨j7=1) with rfl | rfl
   ·clear hj7
    go_upto_region 10 with (first
     |(go_at_fn 73;with_reducible refine (HAT.out _ 8 (Base.below_step hbr.out HB5.out) (HAr.out.below HB5.out) (by decide)).mono ?_;rintro e wq ⟨rfl,q6,hw6⟩
       have hb6:Below w5.heap.size w5 wq:=by rw [hw6];exact Base.below_drewN (Below.refl _ _) q6
       have HB6:=Lib.hid (Base.below_step HB5.out hb6);obtain ⟨Wc,cc,hrun,hby,hlc,hbc⟩:=conv_bytes ((ByteArray.mk #[48,49,50,51,52,53,54,55,56,57,97,98,99,100,101,102]).extract 0 x8) wq
       have HBY:=Lib.hid (bk_of_bytes hby hlc);have HBC:=Lib.hid (Base.below_step HB6.out hbc);have z5:=(HGr.out.below HBC.out).z 5 (by simp);have q5:=(HGr.out.below HBC.out).c 5 _ rfl;clear hw6 hb6 hby hlc hbc)
     |(go_at_fn 73;with_reducible refine (HAT.out _ 7 (Base.below_step hbr.out HB4.out) (HAr.out.below HB4.out) (by decide)).mono ?_;rintro e w5 ⟨rfl,q5,hw5⟩
       have HB5:=Lib.hid (show Below wr.heap.size wr w5 by rw [hw5];exact Base.below_drewN HB4.out q5);clear hw5)
     |(go_at_fn 73;with_reducible refine (HAT.out _ 3 hbr.out HAr.out (by decide)).mono ?_;rintro e w4 ⟨rfl,q4,hw4⟩
       have HB4:=Lib.hid (show Below wr.heap.size wr w4 by rw [hw4];exact Base.below_drewN (Below.refl _ _) q4);clear hw4))
    have HGl0:=Lib.hid (show gb<wq.heap.size from Nat.lt_of_lt_of_le HGr.out.lt HB6.out.size)
    have HG8:=Lib.hid ((HGr.out.below HBC.out).set 5 (.slice (some ⟨wq.heap.size,0,none⟩) (min x8 16) cc) (by simp))
    have HZ8:=Lib.hid ((HZr.out.below HBC.out).other gb 5 (.slice (some ⟨wq.heap.size,0,none⟩) (min x8 16) cc) (by have:=hgb.out;have:=hwz.out;omega))
    have HA8:=Lib.hid ((HAr.out.below HBC.out).other gb 5 (.slice (some ⟨wq.heap.size,0,none⟩) (min x8 16) cc) (by have:=hgb.out;have:=hwz.out;omega))
    have HO8:=Lib.hid (ownsRow_setCell_other (a:=⟨gb,5,none⟩) (own_below HOr.out HBC.out) (fun e=>(HNr.out _ e).1 rfl) (.slice (some ⟨wq.heap.size,0,none⟩) (min x8 16) cc))
    have HB8:=Lib.hid (show Below w.heap.size w (Wc.setCell ⟨gb,5,none⟩ (.slice (some ⟨wq.heap.size,0,none⟩) (min x8 16) cc)) from (Base.below_step hbr.out HBC.out).setCell (show w.heap.size≤gb by have:=hgb.out;have:=hwz.out;omega) _)
    have HD8:=Lib.hid (HBY.out.other gb 5 (.slice (some ⟨wq.heap.size,0,none⟩) (min x8 16) cc) (by have:=HGl0.out;omega))
    have HDne:=Lib.hid (show¬gb=wq.heap.size by have:=HGl0.out;omega)
    have HDn:=Lib.hid (show¬wq.heap.size=w.heap.size+1 by have:=HGl0.out;have:=hgb.out;have:=hwz.out;omega);obtain ⟨Bd,hBd⟩:∃Bd,((ByteArray.mk #[48,49,50,51,52,53,54,55,56,57,97,98,99,100,101,102]).extract 0 x8).data.toList=Bd:=⟨_,rfl⟩
    have HBT:=Lib.hid (show Bd=neatB.take x8 from by rw [←hBd];exact dig_take x8)
    have HBl:=Lib.hid (show Bd.length=min x8 16 by rw [←hBd,len,ByteArray.size_extract];simp;rfl);rw [hBd] at HD8 HBY;clear hrun z5 q5 hBd r3 r4 r5 r6 hx8 hx8' HBY;generalize Wc.setCell ⟨gb,5,none⟩ (.slice (some ⟨wq.heap.size,0,none⟩) (min x8 16) cc)=W8 at *;generalize wq.heap.size=gbd at *;obtain ⟨h9',r7,r8⟩:=HHj9.out;clear h9';by_cases h9:j9=0
    ·subst h9;go_upto_region 12 with
      (go_at_fn 73;with_reducible refine (HAT.out _ 9 HB8.out HA8.out (by decide)).mono ?_;rintro e w9 ⟨rfl,q_w9,hw_w9⟩
       have HBw9:=Lib.hid (show Below W8.heap.size W8 w9 by rw [hw_w9];exact Base.below_drewN (Below.refl _ _) q_w9);have z6:=((HG8.out.below HBw9.out).alloc (.cells #[.string ⟨#[84]⟩,.string ⟨#[117]⟩] 48)).z 6 (by simp);have q6:=((HG8.out.below HBw9.out).alloc (.cells #[.string ⟨#[84]⟩,.string ⟨#[117]⟩] 48)).c 6 _ rfl;clear hw_w9)
     have HGl:=Lib.hid (show gb<w9.heap.size from (HG8.out.below HBw9.out).lt)
     have HG9:=Lib.hid (((HG8.out.below HBw9.out).alloc (.cells #[.string ⟨#[84]⟩,.string ⟨#[117]⟩] 48)).set 6 (.slice (some ⟨w9.heap.size,0,none⟩) 1 1) (by simp))
     have HZ9:=Lib.hid (((HZ8.out.below HBw9.out).alloc (.cells #[.string ⟨#[84]⟩,.string ⟨#[117]⟩] 48)).other gb 6 (.slice (some ⟨w9.heap.size,0,none⟩) 1 1) (by have:=hgb.out;have:=hwz.out;omega))
     have HT9:=Lib.hid ((Bk.new w9 w9.heap.size rfl 48 [.string ⟨#[84]⟩,.string ⟨#[117]⟩]).other gb 6 (.slice (some ⟨w9.heap.size,0,none⟩) 1 1) (by have:=HGl.out;omega))
     have HO9:=Lib.hid (ownsRow_setCell_other (a:=⟨gb,6,none⟩) ((own_below HO8.out HBw9.out).alloc (.cells #[.string ⟨#[84]⟩,.string ⟨#[117]⟩] 48)) (fun e=>(HNr.out _ e).1 rfl) (.slice (some ⟨w9.heap.size,0,none⟩) 1 1))
     have HB9:=Lib.hid (show Below w.heap.size w ((w9.alloc (.cells #[.string ⟨#[84]⟩,.string ⟨#[117]⟩] 48)).setCell ⟨gb,6,none⟩ (.slice (some ⟨w9.heap.size,0,none⟩) 1 1)) from ((Base.below_step HB8.out HBw9.out).alloc (Base.below_step HB8.out HBw9.out).size (.cells #[.string ⟨#[84]⟩,.string ⟨#[117]⟩] 48)).setCell (show w.heap.size≤gb by have:=hgb.out;have:=hwz.out;omega) _)
     have HD9:=Lib.hid (((HD8.out.below HBw9.out).alloc (.cells #[.string ⟨#[84]⟩,.string ⟨#[117]⟩] 48)).other gb 6 (.slice (some ⟨w9.heap.size,0,none⟩) 1 1) HDne.out)
     have hgt:=Lib.hid (show¬w9.heap.size=w.heap.size+1 by have:=HB8.out.size;have:=HBw9.out.size;have:=(HZ8.out.below HBw9.out).lt;omega);generalize (w9.alloc (.cells #[.string ⟨#[84]⟩,.string ⟨#[117]⟩] 48)).setCell ⟨gb,6,none⟩ (.slice (some ⟨w9.heap.size,0,none⟩) 1 1)=W9 at *;generalize w9.heap.size=gt at *;clear r7 r8 z6 q6;have q0:=HG9.out.c 0 _ rfl;have q1:=HG9.out.c 1 _ rfl;have q2:=HG9.out.c 2 _ rfl;have q3:=HG9.out.c 3 _ rfl;have q4:=HG9.out.c 4 _ rfl;have q5:=HG9.out.c 5 _ rfl;have q6:=HG9.out.c 6 _ rfl;have p0:=HZ9.out.z 0 (by simp);have y0:=HZ9.out.c 0 _ rfl;have p1:=HZ9.out.z 1 (by simp);have y1:=HZ9.out.c 1 _ rfl;have p2:=HZ9.out.z 2 (by simp);have y2:=HZ9.out.c 2 _ rfl;have p3:=HZ9.out.z 3 (by simp);have y3:=HZ9.out.c 3 _ rfl;have p4:=HZ9.out.z 4 (by simp);have y4:=HZ9.out.c 4 _ rfl;have p5:=HZ9.out.z 5 (by simp);have y5:=HZ9.out.c 5 _ rfl;have p6:=HZ9.out.z 6 (by simp);have y6:=HZ9.out.c 6 _ rfl;clear r1 r2 i1;go_wp2_with fail
     obtain ⟨Xf,hX,hBX,hbX,hsX,hoX,hkX⟩:=put7 HZ9.out (by simp) HB9.out (Nat.le_succ _) (.string X0) (.string X1) (.int .i64 1) (.slice bf (k+1) cf) (.bool false) (.slice (some ⟨gbd,0,none⟩) (min x8 16) cc) (.slice (some ⟨gt,0,none⟩) 1 1);rw [hX];have d0:=hBX.c 0 _ rfl;have d1:=hBX.c 1 _ rfl;have d2:=hBX.c 2 _ rfl;have d3:=hBX.c 3 _ rfl;have d4:=hBX.c 4 _ rfl;have d5:=hBX.c 5 _ rfl;have d6:=hBX.c 6 _ rfl;have hneq:∀q,(.slice bf (k+1) cf:Value).ownBlock=some q→¬q=w.heap.size+1:=fun q hq=>by have:=(HNr.out q hq).2;have:=hwz.out;omega
     obtain ⟨A9,c9,e9,h9⟩:=Flds.of_own (hoX _ _ _ _ _ _ HO9.out (fun e=>hneq _ e rfl));simp only [Value.slice.injEq,true_and] at e9;obtain ⟨rfl,rfl⟩:=e9;refine bodyPost_ret (v:=.agg #[.string X0,.string X1,.int .i64 1,.slice bf (k+1) cf,.bool false,.slice (some ⟨gbd,0,none⟩) (min x8 16) cc,.slice (some ⟨gt,0,none⟩) 1 1]) (by simp [results,Tryz.results18,go_sem,d0,d1,d2,d3,d4,d5,d6]) rfl ⟨_,⟨X0,X1,1,fs,false,Bd,[((⟨#[84]⟩:ByteArray),(⟨#[117]⟩:ByteArray))]⟩,rfl,?_,rfl,?_,?_,?_,hbX,?_⟩
     ·exact ⟨bf,cf,_,_,_,_,(by show _=Value.agg #[.string X0,.string X1,.int .i64 1,.slice bf fs.length cf,.bool false,.slice _ (Bd:List UInt8).length _,.slice _ ([((⟨#[84]⟩:ByteArray),(⟨#[117]⟩:ByteArray))]:List Fld).length _];rw [HFL.out,HBl.out];rfl),(by show Flds Xf bf fs.length fs;rw [HFL.out];exact h9),(by show Nums .u8 Xf _ Bd.length _;rw [HBl.out];exact nums_of_bk (hkX _ _ HDn.out HD9.out) _ HBl.out),(Flds.of_cells (w:=Xf) (b:=gt) (fs:= [(⟨#[84]⟩,⟨#[117]⟩)]) (n:=1) rfl (hkX _ _ hgt.out HT9.out).lt (fun j hj=>by rcases (by omega:j=0∨j=1) with rfl | rfl;exact (hkX _ _ hgt.out HT9.out).c 0 _ rfl;exact (hkX _ _ hgt.out HT9.out).c 1 _ rfl))⟩
     ·exact ⟨show X0.size≤1000 by omega,show X1.size≤1000 by omega,show fs.length≤100 by have:=HFL.out;have:=HK.out;have:=HK3.out;omega,fun f hf=>by have:=HFs.out.small hsX2 f hf;omega,show (Bd:List UInt8).length≤1000 by have:=HBl.out;omega,show ([((⟨#[84]⟩:ByteArray),(⟨#[117]⟩:ByteArray))]:List Fld).length≤100 by simp,fun f hf=>by obtain rfl:f= _:=(by simpa using hf);exact ⟨show (ByteArray.mk #[84]).size≤1000 by decide,show (ByteArray.mk #[117]).size≤1000 by decide⟩⟩
     ·show 0<fs.length;rw [HFL.out];omega
     ·show fs.length≤3;have:=HFL.out;have:=HK.out;have:=HK3.out;omega
     ·exact ⟨HMX0.out,HMX1.out,rfl,HFs.out.all HMX2.out HFL.out (by have:=HK.out;have:=HK3.out;omega),⟨x8,by have:=HHx8.out.1;omega,HBT.out⟩,.inr rfl⟩
    ·have t0:((j9:Int)==0)=false:=by rw [beq_eq_false_iff_ne];omega
     have t1:¬(j9:Int)=0:=by omega
     clear h9;go_upto_region 12 with
      (go_at_fn 73;with_reducible refine (HAT.out _ 9 HB8.out HA8.out (by decide)).mono ?_;rintro e w9 ⟨rfl,q_w9,hw_w9⟩
       have HBw9:=Lib.hid (show Below W8.heap.size W8 w9 by rw [hw_w9];exact Base.below_drewN (Below.refl _ _) q_w9);clear hw_w9)
     clear r7 r8 t0 t1
     have HG9:=Lib.hid (HG8.out.below HBw9.out);have HZ9:=Lib.hid (HZ8.out.below HBw9.out);have HB9:=Lib.hid (Base.below_step HB8.out HBw9.out);have HO9:=Lib.hid (own_below HO8.out HBw9.out);have HD9:=Lib.hid (HD8.out.below HBw9.out);have q0:=HG9.out.c 0 _ rfl;have q1:=HG9.out.c 1 _ rfl;have q2:=HG9.out.c 2 _ rfl;have q3:=HG9.out.c 3 _ rfl;have q4:=HG9.out.c 4 _ rfl;have q5:=HG9.out.c 5 _ rfl;have q6:=HG9.out.c 6 _ rfl;have p0:=HZ9.out.z 0 (by simp);have y0:=HZ9.out.c 0 _ rfl;have p1:=HZ9.out.z 1 (by simp);have y1:=HZ9.out.c 1 _ rfl;have p2:=HZ9.out.z 2 (by simp);have y2:=HZ9.out.c 2 _ rfl;have p3:=HZ9.out.z 3 (by simp);have y3:=HZ9.out.c 3 _ rfl;have p4:=HZ9.out.z 4 (by simp);have y4:=HZ9.out.c 4 _ rfl;have p5:=HZ9.out.z 5 (by simp);have y5:=HZ9.out.c 5 _ rfl;have p6:=HZ9.out.z 6 (by simp);have y6:=HZ9.out.c 6 _ rfl;clear r1 r2 i1;go_wp2_with fail
     obtain ⟨Xf,hX,hBX,hbX,hsX,hoX,hkX⟩:=put7 HZ9.out (by simp) HB9.out (Nat.le_succ _) (.string X0) (.string X1) (.int .i64 1) (.slice bf (k+1) cf) (.bool false) (.slice (some ⟨gbd,0,none⟩) (min x8 16) cc) (.slice none 0 0);rw [hX];have d0:=hBX.c 0 _ rfl;have d1:=hBX.c 1 _ rfl;have d2:=hBX.c 2 _ rfl;have d3:=hBX.c 3 _ rfl;have d4:=hBX.c 4 _ rfl;have d5:=hBX.c 5 _ rfl;have d6:=hBX.c 6 _ rfl;have hneq:∀q,(.slice bf (k+1) cf:Value).ownBlock=some q→¬q=w.heap.size+1:=fun q hq=>by have:=(HNr.out q hq).2;have:=hwz.out;omega
     obtain ⟨A9,c9,e9,h9⟩:=Flds.of_own (hoX _ _ _ _ _ _ HO9.out (fun e=>hneq _ e rfl));simp only [Value.slice.injEq,true_and] at e9;obtain ⟨rfl,rfl⟩:=e9;refine bodyPost_ret (v:=.agg #[.string X0,.string X1,.int .i64 1,.slice bf (k+1) cf,.bool false,.slice (some ⟨gbd,0,none⟩) (min x8 16) cc,.slice none 0 0]) (by simp [results,Tryz.results18,go_sem,d0,d1,d2,d3,d4,d5,d6]) rfl ⟨_,⟨X0,X1,1,fs,false,Bd,[]⟩,rfl,?_,rfl,?_,?_,?_,hbX,?_⟩
     ·exact ⟨bf,cf,_,_,_,_,(by show _=Value.agg #[.string X0,.string X1,.int .i64 1,.slice bf fs.length cf,.bool false,.slice _ (Bd:List UInt8).length _,.slice _ ([]:List Fld).length _];rw [HFL.out,HBl.out];rfl),(by show Flds Xf bf fs.length fs;rw [HFL.out];exact h9),(by show Nums .u8 Xf _ Bd.length _;rw [HBl.out];exact nums_of_bk (hkX _ _ HDn.out HD9.out) _ HBl.out),Flds.nil _ _⟩
     ·exact ⟨show X0.size≤1000 by omega,show X1.size≤1000 by omega,show fs.length≤100 by have:=HFL.out;have:=HK.out;have:=HK3.out;omega,fun f hf=>by have:=HFs.out.small hsX2 f hf;omega,show (Bd:List UInt8).length≤1000 by have:=HBl.out;omega,show ([]:List Fld).length≤100 by simp,fun f hf=>by simp at hf⟩
     ·show 0<fs.length;rw [HFL.out];omega
     ·show fs.length≤3;have:=HFL.out;have:=HK.out;have:=HK3.out;omega
     ·exact ⟨HMX0.out,HMX1.out,rfl,HFs.out.all HMX2.out HFL.out (by have:=HK.out;have:=HK3.out;omega),⟨x8,by have:=HHx8.out.1;omega,HBT.out⟩,.inl rfl⟩
   ·clear hj7 r5 r6 hx8 hx8'
    go_upto_region 10 with (first
     |(go_at_fn 73;with_reducible refine (HAT.out _ 7 (Base.below_step hbr.out HB4.out) (HAr.out.below HB4.out) (by decide)).mono ?_;rintro e W8 ⟨rfl,q5,hw5⟩
       have HB5:=Lib.hid (show Below wr.heap.size wr W8 by rw [hw5];exact Base.below_drewN HB4.out q5);clear hw5)
     |(go_at_fn 73;with_reducible refine (HAT.out _ 3 hbr.out HAr.out (by decide)).mono ?_;rintro e w4 ⟨rfl,q4,hw4⟩
       have HB4:=Lib.hid (show Below wr.heap.size wr w4 by rw [hw4];exact Base.below_drewN (Below.refl _ _) q4);clear hw4))
    have HG8:=Lib.hid (HGr.out.below HB5.out);have HZ8:=Lib.hid (HZr.out.below HB5.out);have HA8:=Lib.hid (HAr.out.below HB5.out);have HO8:=Lib.hid (own_below HOr.out HB5.out);have HB8:=Lib.hid (Base.below_step hbr.out HB5.out);clear r3 r4;obtain ⟨h9',r7,r8⟩:=HHj9.out;clear h9';by_cases h9:j9=0
    ·subst h9;go_upto_region 12 with
      (go_at_fn 73;with_reducible refine (HAT.out _ 9 HB8.out HA8.out (by decide)).mono ?_;rintro e w9 ⟨rfl,q_w9,hw_w9⟩
       have HBw9:=Lib.hid (show Below W8.heap.size W8 w9 by rw [hw_w9];exact Base.below_drewN (Below.refl _ _) q_w9);have z6:=((HG8.out.below HBw9.out).alloc (.cells #[.string ⟨#[84]⟩,.string ⟨#[117]⟩] 48)).z 6 (by simp);have q6:=((HG8.out.below HBw9.out).alloc (.cells #[.string ⟨#[84]⟩,.string ⟨#[117]⟩] 48)).c 6 _ rfl;clear hw_w9)
     have HGl:=Lib.hid (show gb<w9.heap.size from (HG8.out.below HBw9.out).lt)
     have HG9:=Lib.hid (((HG8.out.below HBw9.out).alloc (.cells #[.string ⟨#[84]⟩,.string ⟨#[117]⟩] 48)).set 6 (.slice (some ⟨w9.heap.size,0,none⟩) 1 1) (by simp))
     have HZ9:=Lib.hid (((HZ8.out.below HBw9.out).alloc (.cells #[.string ⟨#[84]⟩,.string ⟨#[117]⟩] 48)).other gb 6 (.slice (some ⟨w9.heap.size,0,none⟩) 1 1) (by have:=hgb.out;have:=hwz.out;omega))
     have HT9:=Lib.hid ((Bk.new w9 w9.heap.size rfl 48 [.string ⟨#[84]⟩,.string ⟨#[117]⟩]).other gb 6 (.slice (some ⟨w9.heap.size,0,none⟩) 1 1) (by have:=HGl.out;omega))
     have HO9:=Lib.hid (ownsRow_setCell_other (a:=⟨gb,6,none⟩) ((own_below HO8.out HBw9.out).alloc (.cells #[.string ⟨#[84]⟩,.string ⟨#[117]⟩] 48)) (fun e=>(HNr.out _ e).1 rfl) (.slice (some ⟨w9.heap.size,0,none⟩) 1 1))
     have HB9:=Lib.hid (show Below w.heap.size w ((w9.alloc (.cells #[.string ⟨#[84]⟩,.string ⟨#[117]⟩] 48)).setCell ⟨gb,6,none⟩ (.slice (some ⟨w9.heap.size,0,none⟩) 1 1)) from ((Base.below_step HB8.out HBw9.out).alloc (Base.below_step HB8.out HBw9.out).size (.cells #[.string ⟨#[84]⟩,.string ⟨#[117]⟩] 48)).setCell (show w.heap.size≤gb by have:=hgb.out;have:=hwz.out;omega) _)
     have hgt:=Lib.hid (show¬w9.heap.size=w.heap.size+1 by have:=HB8.out.size;have:=HBw9.out.size;have:=(HZ8.out.below HBw9.out).lt;omega);generalize (w9.alloc (.cells #[.string ⟨#[84]⟩,.string ⟨#[117]⟩] 48)).setCell ⟨gb,6,none⟩ (.slice (some ⟨w9.heap.size,0,none⟩) 1 1)=W9 at *;generalize w9.heap.size=gt at *;clear r7 r8 z6 q6;have q0:=HG9.out.c 0 _ rfl;have q1:=HG9.out.c 1 _ rfl;have q2:=HG9.out.c 2 _ rfl;have q3:=HG9.out.c 3 _ rfl;have q4:=HG9.out.c 4 _ rfl;have q5:=HG9.out.c 5 _ rfl;have q6:=HG9.out.c 6 _ rfl;have p0:=HZ9.out.z 0 (by simp);have y0:=HZ9.out.c 0 _ rfl;have p1:=HZ9.out.z 1 (by simp);have y1:=HZ9.out.c 1 _ rfl;have p2:=HZ9.out.z 2 (by simp);have y2:=HZ9.out.c 2 _ rfl;have p3:=HZ9.out.z 3 (by simp);have y3:=HZ9.out.c 3 _ rfl;have p4:=HZ9.out.z 4 (by simp);have y4:=HZ9.out.c 4 _ rfl;have p5:=HZ9.out.z 5 (by simp);have y5:=HZ9.out.c 5 _ rfl;have p6:=HZ9.out.z 6 (by simp);have y6:=HZ9.out.c 6 _ rfl;clear r1 r2 i1;go_wp2_with fail
     obtain ⟨Xf,hX,hBX,hbX,hsX,hoX,hkX⟩:=put7 HZ9.out (by simp) HB9.out (Nat.le_succ _) (.string X0) (.string X1) (.int .i64 1) (.slice bf (k+1) cf) (.bool false) (.slice none 0 0) (.slice (some ⟨gt,0,none⟩) 1 1);rw [hX];have d0:=hBX.c 0 _ rfl;have d1:=hBX.c 1 _ rfl;have d2:=hBX.c 2 _ rfl;have d3:=hBX.c 3 _ rfl;have d4:=hBX.c 4 _ rfl;have d5:=hBX.c 5 _ rfl;have d6:=hBX.c 6 _ rfl;have hneq:∀q,(.slice bf (k+1) cf:Value).ownBlock=some q→¬q=w.heap.size+1:=fun q hq=>by have:=(HNr.out q hq).2;have:=hwz.out;omega
     obtain ⟨A9,c9,e9,h9⟩:=Flds.of_own (hoX _ _ _ _ _ _ HO9.out (fun e=>hneq _ e rfl));simp only [Value.slice.injEq,true_and] at e9;obtain ⟨rfl,rfl⟩:=e9;refine bodyPost_ret (v:=.agg #[.string X0,.string X1,.int .i64 1,.slice bf (k+1) cf,.bool false,.slice none 0 0,.slice (some ⟨gt,0,none⟩) 1 1]) (by simp [results,Tryz.results18,go_sem,d0,d1,d2,d3,d4,d5,d6]) rfl ⟨_,⟨X0,X1,1,fs,false,[],[((⟨#[84]⟩:ByteArray),(⟨#[117]⟩:ByteArray))]⟩,rfl,?_,rfl,?_,?_,?_,hbX,?_⟩
     ·exact ⟨bf,cf,_,_,_,_,(by show _=Value.agg #[.string X0,.string X1,.int .i64 1,.slice bf fs.length cf,.bool false,.slice _ ([]:List UInt8).length _,.slice _ ([((⟨#[84]⟩:ByteArray),(⟨#[117]⟩:ByteArray))]:List Fld).length _];rw [HFL.out];rfl),(by show Flds Xf bf fs.length fs;rw [HFL.out];exact h9),Nums.nil _ _ _,(Flds.of_cells (w:=Xf) (b:=gt) (fs:= [(⟨#[84]⟩,⟨#[117]⟩)]) (n:=1) rfl (hkX _ _ hgt.out HT9.out).lt (fun j hj=>by rcases (by omega:j=0∨j=1) with rfl | rfl;exact (hkX _ _ hgt.out HT9.out).c 0 _ rfl;exact (hkX _ _ hgt.out HT9.out).c 1 _ rfl))⟩
     ·exact ⟨show X0.size≤1000 by omega,show X1.size≤1000 by omega,show fs.length≤100 by have:=HFL.out;have:=HK.out;have:=HK3.out;omega,fun f hf=>by have:=HFs.out.small hsX2 f hf;omega,show ([]:List UInt8).length≤1000 by simp,show ([((⟨#[84]⟩:ByteArray),(⟨#[117]⟩:ByteArray))]:List Fld).length≤100 by simp,fun f hf=>by obtain rfl:f= _:=(by simpa using hf);exact ⟨show (ByteArray.mk #[84]).size≤1000 by decide,show (ByteArray.mk #[117]).size≤1000 by decide⟩⟩
     ·show 0<fs.length;rw [HFL.out];omega
     ·show fs.length≤3;have:=HFL.out;have:=HK.out;have:=HK3.out;omega
     ·exact ⟨HMX0.out,HMX1.out,rfl,HFs.out.all HMX2.out HFL.out (by have:=HK.out;have:=HK3.out;omega),⟨0,by decide,rfl⟩,.inr rfl⟩
    ·have t0:((j9:Int)==0)=false:=by rw [beq_eq_false_iff_ne];omega
     have t1:¬(j9:Int)=0:=by omega
     clear h9;go_upto_region 12 with
      (go_at_fn 73;with_reducible refine (HAT.out _ 9 HB8.out HA8.out (by decide)).mono ?_;rintro e w9 ⟨rfl,q_w9,hw_w9⟩
       have HBw9:=Lib.hid (show Below W8.heap.size W8 w9 by rw [hw_w9];exact Base.below_drewN (Below.refl _ _) q_w9);clear hw_w9)
     clear r7 r8 t0 t1
     have HG9:=Lib.hid (HG8.out.below HBw9.out);have HZ9:=Lib.hid (HZ8.out.below HBw9.out);have HB9:=Lib.hid (Base.below_step HB8.out HBw9.out);have HO9:=Lib.hid (own_below HO8.out HBw9.out);have q0:=HG9.out.c 0 _ rfl;have q1:=HG9.out.c 1 _ rfl;have q2:=HG9.out.c 2 _ rfl;have q3:=HG9.out.c 3 _ rfl;have q4:=HG9.out.c 4 _ rfl;have q5:=HG9.out.c 5 _ rfl;have q6:=HG9.out.c 6 _ rfl;have p0:=HZ9.out.z 0 (by simp);have y0:=HZ9.out.c 0 _ rfl;have p1:=HZ9.out.z 1 (by simp);have y1:=HZ9.out.c 1 _ rfl;have p2:=HZ9.out.z 2 (by simp);have y2:=HZ9.out.c 2 _ rfl;have p3:=HZ9.out.z 3 (by simp);have y3:=HZ9.out.c 3 _ rfl;have p4:=HZ9.out.z 4 (by simp);have y4:=HZ9.out.c 4 _ rfl;have p5:=HZ9.out.z 5 (by simp);have y5:=HZ9.out.c 5 _ rfl;have p6:=HZ9.out.z 6 (by simp);have y6:=HZ9.out.c 6 _ rfl;clear r1 r2 i1;go_wp2_with fail
     obtain ⟨Xf,hX,hBX,hbX,hsX,hoX,hkX⟩:=put7 HZ9.out (by simp) HB9.out (Nat.le_succ _) (.string X0) (.string X1) (.int .i64 1) (.slice bf (k+1) cf) (.bool false) (.slice none 0 0) (.slice none 0 0);rw [hX];have d0:=hBX.c 0 _ rfl;have d1:=hBX.c 1 _ rfl;have d2:=hBX.c 2 _ rfl;have d3:=hBX.c 3 _ rfl;have d4:=hBX.c 4 _ rfl;have d5:=hBX.c 5 _ rfl;have d6:=hBX.c 6 _ rfl;have hneq:∀q,(.slice bf (k+1) cf:Value).ownBlock=some q→¬q=w.heap.size+1:=fun q hq=>by have:=(HNr.out q hq).2;have:=hwz.out;omega
     obtain ⟨A9,c9,e9,h9⟩:=Flds.of_own (hoX _ _ _ _ _ _ HO9.out (fun e=>hneq _ e rfl));simp only [Value.slice.injEq,true_and] at e9;obtain ⟨rfl,rfl⟩:=e9;refine bodyPost_ret (v:=.agg #[.string X0,.string X1,.int .i64 1,.slice bf (k+1) cf,.bool false,.slice none 0 0,.slice none 0 0]) (by simp [results,Tryz.results18,go_sem,d0,d1,d2,d3,d4,d5,d6]) rfl ⟨_,⟨X0,X1,1,fs,false,[],[]⟩,rfl,?_,rfl,?_,?_,?_,hbX,?_⟩
     ·exact ⟨bf,cf,_,_,_,_,(by show _=Value.agg #[.string X0,.string X1,.int .i64 1,.slice bf fs.length cf,.bool false,.slice _ ([]:List UInt8).length _,.slice _ ([]:List Fld).length _];rw [HFL.out];rfl),(by show Flds Xf bf fs.length fs;rw [HFL.out];exact h9),Nums.nil _ _ _,Flds.nil _ _⟩
     ·exact ⟨show X0.size≤1000 by omega,show X1.size≤1000 by omega,show fs.length≤100 by have:=HFL.out;have:=HK.out;have:=HK3.out;omega,fun f hf=>by have:=HFs.out.small hsX2 f hf;omega,show ([]:List UInt8).length≤1000 by simp,show ([]:List Fld).length≤100 by simp,fun f hf=>by simp at hf⟩
     ·show 0<fs.length;rw [HFL.out];omega
     ·show fs.length≤3;have:=HFL.out;have:=HK.out;have:=HK3.out;omega
     ·exact ⟨HMX0.out,HMX1.out,rfl,HFs.out.all HMX2.out HFL.out (by have:=HK.out;have:=HK3.out;omega),⟨0,by decide,rfl⟩,.inl rfl⟩
theorem neat_any (a:Option Addr) (n cap:Nat) (zs:List Int) (w:World) (hv:Nums .u8 w a n zs) :
 Calls Tryz.prog 18 #[.slice a n cap] w fun e w'=>∃V' r',e=.returned V'∧Reads w' V' r'∧r'.k=1∧Small r'∧0<r'.fs.length∧r'.fs.length≤3∧Below w.heap.size w w':=
 (neat_full a n cap zs w hv).mono (by rintro e w' ⟨V',r',h1,h2,h3,h4,h5,h6,h7, -⟩;exact ⟨V',r',h1,h2,h3,h4,h5,h6,h7⟩)
end code
end Go.Proofs.YtldhlecknfomjaaGreatDoor.Rec
namespace Go.Proofs.YtldhlecknfomjaaGreatDoor.Pg
open Go.RowKit Base Txt Par
theorem rem_of (a m:Int) (hm:0<m) (h:0≤a):∃r:Nat,(r:Int)<m∧a.tmod m=(r:Int):=by have h1:=Int.emod_nonneg a (show m≠0 by omega);have h2:=Int.emod_lt_of_pos a hm;exact ⟨(a%m).toNat,by omega,by rw [Int.tmod_eq_emod_of_nonneg h];omega⟩
abbrev lineB (x:Int):Bd:=⟨x,32,8192,65536,32,8,4,20,true,true⟩
def tgtL (m:Nat):List UInt8:=([71,69,84,32,47]++List.replicate m 97) ++ [32,72,84,84,80,47,49,46,49]
end Go.Proofs.YtldhlecknfomjaaGreatDoor.Pg
