import Derived.Test.YtdfabddnpgjepaaGreatDoorPmg
set_option linter.unusedSimpArgs false
open Array renaming getD_eq_getD_getElem?→Ag
open Bool renaming and_eq_true→Ao,eq_iff_iff→Au,false_and→Av,or_eq_true→Az,true_and→A5
open Go.Act renaming put→Ab
open Go.ByteArray renaming toList_eq→Bf
open Go.Lib renaming extract_data→Bu,hid→Bx
open Go.Proofs.Tryz renaming prog→EW
open Go.Proofs.YtdfabddnpgjepaaGreatDoor.Base renaming below_drewN→Ak,below_step→Al,some_undef→Am
open Go.Proofs.YtdfabddnpgjepaaGreatDoor.Each renaming fine→AP,putg→AU,region_all→AW
open Go.Proofs.YtdfabddnpgjepaaGreatDoor.Each.Goes renaming enter→AG
open Go.Proofs.YtdfabddnpgjepaaGreatDoor.Each.Lasts renaming eq→AK
open Go.Proofs.YtdfabddnpgjepaaGreatDoor.Ln renaming own_slice→CT
open Go.Proofs.YtdfabddnpgjepaaGreatDoor.Oct renaming allOf→Dl
open Go.Proofs.YtdfabddnpgjepaaGreatDoor.Par.Step renaming of_below→DP,set→DS
open Go.Proofs.YtdfabddnpgjepaaGreatDoor.Qk renaming has→D0,rhas_any→D4
open Go.Proofs.YtdfabddnpgjepaaGreatDoor.Tgt renaming parse→Ea
open Go.Proofs.YtdfabddnpgjepaaGreatDoor.Tree renaming change→Ec,done→Ed,grow→Ee,put1→Ef,quiet→Eg
open Go.RowKit.Below renaming refl→An
open List renaming drop_eq_getElem_cons→BQ,getElem?_cons_succ→BY,getElem?_cons_zero→BZ,getElem?_eq_getElem→Ca,getElem?_toArray→Cg,getElem_mem→Ci,length_append→Cr,length_drop→Cu,length_take→C0,setIfInBounds_toArray→CH,set_cons_succ→CJ,set_cons_zero→CK,take_of_length_le→CN
open Nat renaming eq_zero_or_pos→CZ,le_of_lt→Da,le_refl→Db,le_trans→Dd,lt_or_ge→Dg,zero_le→Dj
open Option renaming getD_some→Ds,some→Du
open UInt8 renaming toNat_inj→FM
open Go.Value renaming int→ZZ,string→ZY,slice→ZX,bool→ZW,pointer→ZV,agg→ZU,tuple→ZT
open Go.IntKind renaming i64→ZS,u8→ZR,u32→ZQ
namespace Go.Proofs.YtdfabddnpgjepaaGreatDoor.Chk
open Go.RowKit Base Txt
theorem marks_tab:∀k:Fin 256,(lowB (UInt8.ofNat k.val)=48↔UInt8.ofNat k.val=48)/\(lowB (UInt8.ofNat k.val)=120↔(UInt8.ofNat k.val=120∨UInt8.ofNat k.val=88)):=by decide +kernel
theorem low_mark (b:UInt8):(lowB b=48↔b=48)/\(lowB b=120↔(b=120∨b=88)):=by have h:=marks_tab ⟨b.toNat,b.toNat_lt⟩;simpa using h
theorem same_two (X:ByteArray) (h:X.size=2):same X ⟨#[48,120]⟩=true↔(X=⟨#[48,120]⟩∨X=⟨#[48,88]⟩):=by
 obtain ⟨a,b,hab⟩:∃a b,X.data.toList= [a,b]:=by
  rw [←len] at h
  match hx:X.data.toList,h with
  | [a,b],_=>exact ⟨a,b,rfl⟩
 have e:∀c d:UInt8,X=⟨#[c,d]⟩↔(a=c/\b=d):=λc d=>by
  constructor
  ·intro hX;subst hX;simpa using hab.symm
  ·rintro ⟨rfl,rfl⟩;exact ba_ext (by rw [hab])
 rw [e,e];unfold same;rw [beq_iff_eq,hab];have h1:=low_mark a;have h2:=low_mark b;show [lowB a,lowB b]= [lowB 48,lowB 120]↔_;rw [show lowB 48=48 from by decide +kernel,show lowB 120=120 from by decide +kernel];simp only [List.cons.injEq,and_true];rw [h1.1,h2.2];constructor
 ·rintro ⟨x,y | y⟩
  ·exact .inl ⟨x,y⟩
  ·exact .inr ⟨x,y⟩
 ·rintro (⟨x,y⟩ | ⟨x,y⟩)
  ·exact ⟨x,.inl y⟩
  ·exact ⟨x,.inr y⟩
section
set_option maxHeartbeats 8000000
set_option maxRecDepth 100000
attribute [local go_sem] Am
theorem XXOH8 {P:Prop} (h:P:=by
 have HT:=Bx (λw=>rtrim_any C w (by unfold maxLen;omega));have ht:(trim C).size<=C.size:=trim_size _ _
 have HZ:Hid (ba SL=(if b7=true then ba (bare (if b8=true then trim C else C).data.toList) else (if b8=true then trim C else C))):=Bx (by rw [HCS.out];cases b8<;>cases b7<;>rfl)
 generalize ba SL=Z at *;clear HCS;obtain ⟨T,hTz,HC⟩:∃T:ByteArray,T.size<=1000000000/\Hid (T=if b8=true then trim C else C):=by
  cases b8 with
  | true=>exact ⟨trim C,by omega,Bx rfl⟩
  | false=>exact ⟨C,HC0,Bx rfl⟩
 rw [←HC.out] at HZ;have hT8:(b8=true/\trim C=T)∨(b8=false/\C=T):=by
  cases b8 with
  | true=>exact .inl ⟨rfl,HC.out.symm⟩
  | false=>exact .inr ⟨rfl,HC.out.symm⟩
 have HT8:=Bx hT8;clear hT8 HC ht HC0
 go_upto_if 42 with (go_at_call 44;with_reducible refine Cm (H8.out _) ?_)
 go_cut [8] from 43 to 44 (λv wx=>v=ZY T/\wx=w1)
 case first=>
  clear HN hcase' HBX HZ H7 hTz;rcases HT8.out with ⟨rfl,ht⟩ | ⟨rfl,rfl⟩
  ·rw [ht] at HT;clear ht HT8
   go_wp2_with (go_at_call 135;with_reducible refine Cm (HT.out _) ?_);go_meet
   case rel=>exact ⟨rfl,rfl⟩
  ·clear HT8 HT;go_wp2_with fail;go_meet
   case rel=>exact ⟨rfl,rfl⟩
 case rest=>
  obtain ⟨rfl,hw0⟩:=hcut;rw [hw0];clear hw0 HT HT8 H8;have hway:∃bm:Bool,(bm=true->2<=T.size)/\Z=(if bm=true then T.extract 2 T.size else T)/\((b7=false/\bm=false)∨(b7=true/\T.size<2/\bm=false)∨(b7=true/\2<=T.size/\T.extract 0 2=⟨#[48,120]⟩/\bm=true)∨(b7=true/\2<=T.size/\T.extract 0 2=⟨#[48,88]⟩/\bm=true)∨(b7=true/\2<=T.size/\¬T.extract 0 2=⟨#[48,120]⟩/\¬T.extract 0 2=⟨#[48,88]⟩/\bm=false)):=by
   have hz:=HZ.out;have e0:ba T.data.toList=T:=ba_ext rfl;cases b7 with
   | false=>exact ⟨false,by simp,hz,.inl ⟨rfl,rfl⟩⟩
   | true=>
     rw [if_pos rfl] at hz;rcases Dg T.size 2 with h2 | h2
     ·refine ⟨false,by simp,?_,.inr (.inl ⟨rfl,h2,rfl⟩)⟩;rw [hz,if_neg (by decide)];unfold bare marked;rw [len,decide_eq_false (by omega),Av,if_neg (by decide),e0]
     ·have hx:T.extract 0 2=ba (T.data.toList.take 2):=ba_ext (by rw [Bu];simp [ba])
      have hx2:T.extract 2 T.size=ba (T.data.toList.drop 2):=ba_ext (by rw [Bu,CN (by rw [Cu,len];omega)];rfl);have hsz:(T.extract 0 2).size=2:=by rw [hx,←len];show (T.data.toList.take 2).length=2;rw [C0,len];omega
      have em:bare T.data.toList=if same (T.extract 0 2) ⟨#[48,120]⟩=true then T.data.toList.drop 2 else T.data.toList:=by unfold bare marked;rw [len,decide_eq_true h2,A5,hx]
      rw [em] at hz;by_cases q1:T.extract 0 2=⟨#[48,120]⟩
      ·rw [if_pos ((same_two _ hsz).2 (.inl q1)),←hx2] at hz;exact ⟨true,λ_=>h2,hz,.inr (.inr (.inl ⟨rfl,h2,q1,rfl⟩))⟩
      ·by_cases q2:T.extract 0 2=⟨#[48,88]⟩
       ·rw [if_pos ((same_two _ hsz).2 (.inr q2)),←hx2] at hz;exact ⟨true,λ_=>h2,hz,.inr (.inr (.inr (.inl ⟨rfl,h2,q2,rfl⟩)))⟩
       ·have hnn:¬same (T.extract 0 2) ⟨#[48,120]⟩=true:=λh=>((same_two _ hsz).1 h).elim q1 q2;rw [if_neg hnn,e0] at hz;exact ⟨false,by simp,hz,.inr (.inr (.inr (.inr ⟨rfl,h2,q1,q2,rfl⟩)))⟩
  obtain ⟨bm,hbm,hZ,hway⟩:=hway;have HW:=Bx hway;have HBM:=Bx hbm;have HZZ:=Bx hZ;clear hway hbm hZ HZ hTz;go_upto_region 11 with fail
  go_cut [61] from 45 to 61 (λv wx=>v=ZW bm/\wx=w1)
  case first=>
   clear HN hcase' HBX HZZ HBM;rcases HW.out with ⟨rfl,rfl⟩ | ⟨rfl,h2,rfl⟩ | ⟨rfl,h2,q1,rfl⟩ | ⟨rfl,h2,q1,rfl⟩ | ⟨rfl,h2,q1,q2,rfl⟩
   ·clear HW
    go_wp2_with (go_at_call 44;with_reducible refine Cm (H7.out _) ?_);go_meet
    case rel=>exact ⟨rfl,rfl⟩
   ·clear HW
    have d1:decide ((1:Int)<(T.size:Int))=false:=decide_eq_false (by omega)
    go_wp2_with (go_at_call 44;with_reducible refine Cm (H7.out _) ?_);go_meet
    case rel=>exact ⟨rfl,rfl⟩
   ·clear HW
    have d1:decide ((1:Int)<(T.size:Int))=true:=decide_eq_true (by omega);have d2:(2:Int)<=(T.size:Int):=by omega
    go_wp2_with (go_at_call 44;with_reducible refine Cm (H7.out _) ?_);go_meet
    case rel=>exact ⟨rfl,rfl⟩
   ·clear HW
    have d1:decide ((1:Int)<(T.size:Int))=true:=decide_eq_true (by omega);have d2:(2:Int)<=(T.size:Int):=by omega
    go_wp2_with (go_at_call 44;with_reducible refine Cm (H7.out _) ?_);go_meet
    case rel=>exact ⟨rfl,rfl⟩
   ·clear HW
    have d1:decide ((1:Int)<(T.size:Int))=true:=decide_eq_true (by omega);have d2:(2:Int)<=(T.size:Int):=by omega
    have f3:¬(T.extract 0 2).toList= [48,120]:=λh=>q1 (ba_ext (by rw [←Bf,h]));have f1:((T.extract 0 2).toList == [48,120])=false:=beq_eq_false_iff_ne.2 f3
    have f4:¬(T.extract 0 2).toList= [48,88]:=λh=>q2 (ba_ext (by rw [←Bf,h]))
    go_wp2_with (go_at_call 44;with_reducible refine Cm (H7.out _) ?_);go_meet
    case rel=>first | exact ⟨rfl,rfl⟩ | exact ⟨by rw [beq_eq_false_iff_ne.2 f4],rfl⟩ | exact ⟨by rw [f1,beq_eq_false_iff_ne.2 f4];rfl,rfl⟩
  case rest=>
   obtain ⟨rfl,hw0⟩:=hcut;rw [hw0];clear hw0 HW H7;obtain ⟨⟨q0,q1,q2,q3,q4,q5,q6,q7,q8,q9⟩,hlt,hbk⟩:=HBX.out;clear q0 q1 q2 q4 q5 q6 q7 q8 q9 hlt;have hz:=HZZ.out;cases bm with
   | false=>
     rw [if_neg (by decide)] at hz;rw [hz] at HN;clear hz HZZ HBM;rcases hcase'.out with ⟨rfl,rfl⟩ | ⟨t1,rfl,rfl⟩ | ⟨t1,t2,rfl⟩;all_goals
      go_wp2_with (go_at_call 236;with_reducible refine Cm (HN.out _) ?_);go_ret2;exact ⟨rfl,hbk⟩
   | true=>
     rw [if_pos rfl] at hz;rw [hz] at HN;have h2:=HBM.out rfl;have d2:(2:Int)<=(T.size:Int):=by omega
     clear hz HZZ HBM;rcases hcase'.out with ⟨rfl,rfl⟩ | ⟨t1,rfl,rfl⟩ | ⟨t1,t2,rfl⟩;all_goals
      go_wp2_with (go_at_call 236;with_reducible refine Cm (HN.out _) ?_);go_ret2
      exact ⟨rfl,hbk⟩):P:=h
theorem XXMk8 {P:Prop} (h:P:=by
 go_wp2_with fail;go_roundw
 case rel=>first | exact ⟨k+1,by omega,rfl,rfl,by go_num,rfl⟩ | exact ⟨k+1,by omega,rfl,rfl,by go_num,trivial⟩
 case measure=>simp [intOf];omega):P:=h
theorem rsize_any (s:ByteArray) (p:Nat) (hp:p<4294967296) (x0 x1 x2 x3 x4 x5 x6 x7:Int) (ch od:Bool) (h3:x3<=9223372036854775807) (h4:0<=x4) (w:World) (hs:s.size<=1000000000) :
 Calls EW 214 #[ZY s,ZZ ZQ (p:Nat),Bnd.bnd x0 x1 x2 x3 x4 x5 x6 x7 ch od] w λe w'=>e=.returned (ZT #[ZZ ZS (sizeV (D0 p 27) (D0 p 28) x4 x3 s.data.toList).1,ZZ ZS (sizeV (D0 p 27) (D0 p 28) x4 x3 s.data.toList).2])/\Below w.heap.size w w':=by
 have HBB:=Bx (BB.new (An w.heap.size w) 29 x0 x1 x2 x3 x4 x5 x6 x7 ch od)
 have H7:=Bx (λw=>D4 p hp 27 w)
 have H8:=Bx (λw=>D4 p hp 28 w)
 have HCUT:=Bx (show∀C:ByteArray,C.size<=1000000000->ba (Tgt.cutAt 59 s.data.toList).1=C->sizeL (D0 p 27) (D0 p 28) s.data.toList=pieceL (D0 p 27) (D0 p 28) C.data.toList from λC hC e=>by rw [←e];rfl)
 have HEX:=Bx (show∀E:ByteArray,ba (extL s.data.toList)=E->isx x4 (extL s.data.toList)= !(decide (x4<(E.size:Int)) || !Oct.allOf [6] E.data.toList) from λE e=>by rw [isx_eq _ h4,←e,←len];rfl);have hSL:(ba (sizeL (D0 p 27) (D0 p 28) s.data.toList)).size<=maxLen:=by have h1:=piece_le (D0 p 27) (D0 p 28) (Tgt.cutAt 59 s.data.toList).1;have h2:=(ext_le s.data.toList).2;rw [len] at h2;rw [←len];show (pieceL _ _ _).length<=_;unfold maxLen;omega
 have HN:=Bx (λw=>Num.rhexN_any x3 h3 (ba (sizeL (D0 p 27) (D0 p 28) s.data.toList)) w hSL);have e1:(ba (sizeL (D0 p 27) (D0 p 28) s.data.toList)).data.toList=sizeL (D0 p 27) (D0 p 28) s.data.toList:=rfl;rw [e1] at HN;clear e1 hSL;unfold sizeV;generalize Num.readOf 16 x3 (sizeL (D0 p 27) (D0 p 28) s.data.toList)=R at *;generalize sizeL (D0 p 27) (D0 p 28) s.data.toList=SL at *;generalize D0 p 27=b7 at *;generalize D0 p 28=b8 at *;obtain ⟨r1,r2⟩:=R;dsimp only at HN;have hcase:(r2=22/\numV (r1,r2)=(0,400))∨((r2==22)=false/\r2=23/\numV (r1,r2)=(0,413))∨((r2==22)=false/\(r2==23)=false/\numV (r1,r2)=(r1,0)):=by exact XXmTI
 generalize numV (r1,r2)=V at *;have hcase':=Bx hcase;clear hcase;obtain ⟨VV,hVV⟩:∃VV,(if isx x4 (extL s.data.toList)=true then V else (0,400))=VV:=⟨_,rfl⟩;rw [hVV];rcases Tgt.cut_cases 59 s.data.toList with hno | ⟨a,r,hl,hna⟩
 ·have hE:=HEX.out ⟨#[]⟩ (by unfold extL;rw [Tgt.cutAt_none 59 _ hno];rfl)
  have HCS:=Bx (HCUT.out s hs (by rw [Tgt.cutAt_none 59 _ hno];exact ba_ext rfl));have hx:isx x4 (extL s.data.toList)=true:=by
   rw [hE]
   have:decide (x4<((⟨#[]⟩:ByteArray).size:Int))=false:=decide_eq_false (by show¬x4<0;omega);rw [this];rfl
  rw [hx,if_pos rfl] at hVV;subst hVV
  have HA:Hid (∀w a,Ints w a 1 [6]->Calls EW 137 #[ZY ⟨#[]⟩,.slice a 1 1] w λe w'=>e=.returned (ZW true)/\∃m,w'=w.drewN m):=Bx λw a hk=>Oct.rall_any ⟨#[]⟩ a 1 1 [6] w (by decide) hk (by decide);have hb59:Hid (∀k (h:k<s.size),(((s[k]'h).toNat:Int)==59)=false):=Bx λk h=>by
   have hm:=byte_mem s k h;rw [beq_eq_false_iff_ne];intro e9
   exact hno (by have:s[k]=59:=FM.1 (by have:(s[k].toNat:Int)=59:=e9;show s[k].toNat=59;omega);rw [←this];exact hm)
  have d0:decide (x4<0)=false:=decide_eq_false (by omega);clear hE hx HCUT HEX hno;obtain ⟨C,hC⟩:∃C,C=s:=⟨s,rfl⟩;rw [←hC] at HCS;have HC0:C.size<=1000000000:=by rw [hC];exact hs
  go_enter Tryz.func214,Tryz.ntmps214;go_upto_region 3 with fail
  generalize w.alloc (.cells #[ZZ ZS x0,ZZ ZS x1,ZZ ZS x2,ZZ ZS x3,ZZ ZS x4,ZZ ZS x5,ZZ ZS x6,ZZ ZS x7,ZW ch,ZW od] 29)=W at *;generalize w.heap.size=g at *
  go_loopw [8,9,10] (λa b i wr=>∃k:Nat,k<=s.size/\a=ZY s/\b=ZY ⟨#[]⟩/\i=ZZ ZS k/\wr=W) (λ_ _ i _=>s.size-(intOf i).toNat)
  case atStart=>first | exact ⟨0,Dj _,rfl,rfl,rfl,rfl⟩ | exact ⟨0,Dj _,rfl,trivial,rfl,rfl⟩ |(refine ⟨0,Dj _,?_⟩;simp)
  case round=>
   obtain ⟨k,hk,rfl,rfl,rfl,rfl⟩:=hrel;rcases Dg k s.size with hlt | hge
   ·have t0:=hb59.out k hlt;have i1:(k:Int)<(s.size:Int):=by omega
    exact XXMk8
   ·obtain rfl:k=s.size:=by omega
    subst hC;obtain ⟨⟨q0,q1,q2,q3,q4,q5,q6,q7,q8,q9⟩,hlt,hbk⟩:=HBB.out;clear q0 q1 q2 q3 q5 q6 q7 q8 q9 hlt hbk
    go_upto_region 9 with (go_at_call 137;(with_reducible refine (HA.out _ _ (Ints.one _ _ rfl _ _)).mono ?_);rintro e w1 ⟨rfl,m,hw⟩
                           have HBX:=Bx ((HBB.out.alloc (.cells #[ZZ ZS 6] 3)).drew m);rw [←hw] at HBX;clear hw)
    clear HBB q4;exact XXOH8
 ·have hin:∃i:Nat,i<s.size/\a=s.data.toList.take i/\s.data.toList.drop i=59::r:=⟨a.length,by rw [←len,hl];simp,by rw [hl];simp,by rw [hl];simp⟩;obtain ⟨i,hi,ha,hr⟩:=hin
  have hC1:s.extract 0 i=ba a:=ba_ext (by rw [Bu];simp [ba,ha])
  have hE1:s.extract i s.size=ba (59::r):=ba_ext (by rw [Bu,CN (by rw [Cu,len];omega),hr];rfl)
  have hE:=HEX.out (s.extract i s.size) (by unfold extL;rw [hl,Tgt.cutAt_app 59 _ _ hna,hE1];rfl);have hCs:(s.extract 0 i).size<=1000000000:=by rw [hC1,←len];show a.length<=_;rw [ha,C0];omega
  have HCS:=Bx (HCUT.out (s.extract 0 i) hCs (by rw [hl,Tgt.cutAt_app 59 _ _ hna,hC1]));have hEs:(s.extract i s.size).size<=1000000000:=by rw [hE1,←len];show (59::r).length<=_;rw [←hr,Cu,len];omega
  have hb59:Hid (∀k (h:k<i),(((s[k]'(by omega)).toNat:Int)==59)=false):=Bx λk h=>by
   rw [beq_eq_false_iff_ne];intro e9;refine hna ?_
   have e8:s[k]'(by omega)=59:=FM.1 (by have:(((s[k]'(by omega)).toNat:Nat):Int)=59:=e9;show (s[k]'(by omega)).toNat=59;omega);rw [ha,←e8];have hk2:k<(s.data.toList.take i).length:=by rw [C0,len];omega
   have:=Ci hk2;rw [List.getElem_take] at this;exact this
  have hb60:(((s[i]'hi).toNat:Int)==59)=true:=by
   have h9:s.data.toList[i]?=some 59:=by have:=congrArg (λl=>l[0]?) hr;simpa using this
   have h8:s[i]'hi=59:=by
    have h7:s.data.toList[i]?=some (s[i]'hi):=by rw [Ca (by rw [len];exact hi)];rfl
    rw [h7] at h9;exact Du.inj h9
   rw [h8];rfl
  have c1:(i:Int)<=(s.size:Int):=by omega
  have c2:(0:Int)<=(i:Int):=by omega
  have HA:Hid (∀w a,Ints w a 1 [6]->Calls EW 137 #[ZY (s.extract i s.size),.slice a 1 1] w λe w'=>e=.returned (ZW (Dl [6] (s.extract i s.size).data.toList))/\∃m,w'=w.drewN m):=Bx λw a hk=>Oct.rall_any _ a 1 1 [6] w (by unfold maxLen;omega) hk (by decide);generalize isx x4 (extL s.data.toList)=q at *;clear HCUT HEX hC1 hE1 ha hr hl hna;generalize hCC:s.extract 0 i=C at *;have HC0:=hCs;clear hCs;generalize hEE:s.extract i s.size=E at *;generalize Dl [6] E.data.toList=al at *
  have HQ:Hid ((decide (x4<(E.size:Int))=true/\q=false)∨(decide (x4<(E.size:Int))=false/\al=false/\q=false)∨(decide (x4<(E.size:Int))=false/\al=true/\q=true)):=Bx (by rw [hE];cases decide (x4<(E.size:Int))<;>cases al<;>simp)
  have HVV:Hid ((q=false->VV=(0,400))/\(q=true->V=VV)):=Bx ⟨λh=>by rw [←hVV,h,if_neg (by decide)],λh=>by rw [←hVV,h,if_pos rfl]⟩;clear hVV;have HCC:=Bx hCC;have HEE:=Bx hEE;clear hE hCC hEE hEs;go_enter Tryz.func214,Tryz.ntmps214;go_upto_region 3 with fail
  generalize w.alloc (.cells #[ZZ ZS x0,ZZ ZS x1,ZZ ZS x2,ZZ ZS x3,ZZ ZS x4,ZZ ZS x5,ZZ ZS x6,ZZ ZS x7,ZW ch,ZW od] 29)=W at *;generalize w.heap.size=g at *
  go_loopw [8,9,10] (λa b j wr=>∃k:Nat,k<=i/\a=ZY s/\b=ZY ⟨#[]⟩/\j=ZZ ZS k/\wr=W) (λ_ _ j _=>s.size-(intOf j).toNat)
  case atStart=>first | exact ⟨0,Dj _,rfl,rfl,rfl,rfl⟩ | exact ⟨0,Dj _,rfl,trivial,rfl,rfl⟩ |(refine ⟨0,Dj _,?_⟩;simp)
  case round=>
   obtain ⟨k,hk,rfl,rfl,rfl,rfl⟩:=hrel;rcases Dg k i with hlt | hge
   ·have t0:=hb59.out k hlt;have i1:(k:Int)<(s.size:Int):=by omega
    clear hb60;exact XXMk8
   ·obtain rfl:k=i:=by omega
    have i1:(k:Int)<(s.size:Int):=by omega
    go_upto_region 6 with fail
    go_quiet (fail);rename_i nq
    replace HBB:=Bx (HBB.out.drew nq)
    go_upto_region 7 with fail
    rw [HCC.out,HEE.out];generalize wr.drewN nq=W1 at *;obtain ⟨⟨q0,q1,q2,q3,q4,q5,q6,q7,q8,q9⟩,hlt,hbk⟩:=HBB.out;clear q0 q1 q2 q3 q5 q6 q7 q8 q9 hlt hb60 hb59 HCC HEE;rcases HQ.out with ⟨d0,rfl⟩ | ⟨d0,rfl,rfl⟩ | ⟨d0,rfl,rfl⟩
    ·obtain rfl:=HVV.out.1 rfl;clear HVV;go_wp2_with fail;go_ret2;exact ⟨rfl,hbk⟩
    ·obtain rfl:=HVV.out.1 rfl;clear HVV
     go_wp2_with (go_at_call 137;(with_reducible refine (HA.out _ _ (Ints.one _ _ rfl _ _)).mono ?_);rintro e w1 ⟨rfl,m,hw⟩
                  have HBX:=Bx ((HBB.out.alloc (.cells #[ZZ ZS 6] 3)).drew m);rw [←hw] at HBX;clear hw)
     go_ret2;exact ⟨rfl,HBX.out.b⟩
    ·obtain rfl:=HVV.out.2 rfl;clear HVV
     go_upto_region 9 with (go_at_call 137;(with_reducible refine (HA.out _ _ (Ints.one _ _ rfl _ _)).mono ?_);rintro e w1 ⟨rfl,m,hw⟩
                            have HBX:=Bx ((HBB.out.alloc (.cells #[ZZ ZS 6] 3)).drew m);rw [←hw] at HBX;clear hw)
     clear HBB q4 HQ hbk;exact XXOH8
end
end Go.Proofs.YtdfabddnpgjepaaGreatDoor.Chk
namespace Go.Proofs.YtdfabddnpgjepaaGreatDoor.Par
open Go.RowKit Base Txt Mem
section
set_option maxHeartbeats 4000000
set_option maxRecDepth 20000
attribute [local go_sem] Am
variable {w:World} {B:Zone} {g q:Nat} {v f bd t o:Value} {p:Nat} {b:Bd} {s:S}
theorem XXoMs {P:Prop} (h:P:=by refine AP rfl (λev w1 hR hb hh=>?_);have e1:=hR.old 1 rfl;have e0:=hR.old 0 rfl;simp only [Ag,Cg,BY,BZ,Ds] at e1 e0;have q0:=(HQ.out.below hb).c 0 _ rfl;have q1:=(HQ.out.below hb).c 1 _ rfl;have q2:=(HQ.out.below hb).c 2 _ rfl;have q3:=(HQ.out.below hb).c 3 _ rfl;have q4:=(HQ.out.below hb).c 4 _ rfl;have q5:=(HQ.out.below hb).c 5 _ rfl;have q6:=(HQ.out.below hb).c 6 _ rfl;have q7:=(HQ.out.below hb).c 7 _ rfl;have q8:=(HQ.out.below hb).c 8 _ rfl;have q9:=(HQ.out.below hb).c 9 _ rfl;have q10:=(HQ.out.below hb).c 10 _ rfl;exact Each.std):P:=h
theorem XX71n {P:Prop} (h:P:=by
 refine AP rfl (λev w1 hR hb hh=>?_);have e7:ev (.tmp 7)= _:=hh.at 0;have e11:ev (.tmp 11)= _:=hh.at 1;have e15:ev (.tmp 15)= _:=hh.at 2;clear hh;have ef:=hR.func
 refine AG 214 #[ZY x,ZZ ZQ (p:Int),ZU #[ZZ ZS b.x0,ZZ ZS b.x1,ZZ ZS b.x2,ZZ ZS b.x3,ZZ ZS b.x4,ZZ ZS b.x5,ZZ ZS b.x6,ZZ ZS b.x7,ZW b.ch,ZW b.od]] (by go_simp) ((HZ.out w1).mono ?_);rintro r w2 ⟨rfl,hb2⟩
 exact ⟨_,rfl,hb2,rfl⟩):P:=h
theorem XX7Qy {P:Prop} (h:P:=by
 refine ⟨?_,?_,?_,?_,?_,?_,?_,?_,?_,?_,?_,?_,?_,?_,?_,trivial⟩
 all_goals (refine AP rfl (λev w1 hR hb hh=>?_);have e4:=hR.old 4 rfl;have e0:=hR.old 0 rfl;simp only [Ag,Cg,BY,BZ,Ds] at e4 e0;have q4:=(HQ.out.below hb).c 4 _ rfl;have q18:=(HQ.out.below hb).c 18 _ rfl;have d1:=HD.out;have d2:=HT.out;exact Each.std)):P:=h
theorem chunk_any (hp:p<4294967296) (h3:16<=b.x3/\b.x3<=1048576) (h4:0<=b.x4) (x:ByteArray) (hx:x.size<=5000) (h:PR w B g q v f bd t o p b s) (hbl:s.r.body.length<=2000000):Calls EW 190 #[ptr g,ZY x] w λr w'=>
 r=.returned (ZT #[])/\∃q1 v1 f1 bd1 t1,PR w' B g q1 v1 f1 bd1 t1 o p b (s.chunk p b x.data.toList)/\Step (blks g q v f bd t o) (blks g q1 v1 f1 bd1 t1 o) w w':=by
 have H:=Bx h
 have HQ:=Bx ((h.drew 1).bk)
 have hz:=λw=>Chk.rsize_any x p hp b.x0 b.x1 b.x2 b.x3 b.x4 b.x5 b.x6 b.x7 b.ch b.od (by omega) h4 w (by omega);have HF:=chunk_facts (D0 p 27) (D0 p 28) b.x4 b.x3 x.data.toList;obtain ⟨⟨z1,z2⟩,hZ⟩:∃Z,Chk.sizeV (D0 p 27) (D0 p 28) b.x4 b.x3 x.data.toList=Z:=⟨_,rfl⟩;rw [hZ] at HF;clear h hx;rcases HF with ⟨e2,h0,h1⟩ | e2 | e2
 ·have e2:z2=0:=e2;subst e2;obtain ⟨n,rfl⟩:∃n:Nat,z1=(n:Int):=⟨z1.toNat,by have:0<=z1:=h0;omega⟩;have h1:(n:Int)<=max b.x3 0:=h1
  have HZ:=Bx (show∀w,Calls EW 214 #[ZY x,ZZ ZQ (p:Int),ZU #[ZZ ZS b.x0,ZZ ZS b.x1,ZZ ZS b.x2,ZZ ZS b.x3,ZZ ZS b.x4,ZZ ZS b.x5,ZZ ZS b.x6,ZZ ZS b.x7,ZW b.ch,ZW b.od]] w λe w'=>e=.returned (ZT #[ZZ ZS (n:Int),ZZ ZS 0])/\Below w.heap.size w w' from λw=>by have:=hz w;rw [hZ] at this;exact this);clear hz;rcases CZ n with hn | hn
  ·subst hn;have e:s.chunk p b x.data.toList={s with st:=6,lines:=0,rd:=nl p b.x0}:=by unfold S.chunk;rw [hZ];rfl
   rw [e]
   have HZ:=Bx (show∀w,Calls EW 214 #[ZY x,ZZ ZQ (p:Int),ZU #[ZZ ZS b.x0,ZZ ZS b.x1,ZZ ZS b.x2,ZZ ZS b.x3,ZZ ZS b.x4,ZZ ZS b.x5,ZZ ZS b.x6,ZZ ZS b.x7,ZW b.ch,ZW b.od]] w λe w'=>e=.returned (ZT #[ZZ ZS 0,ZZ ZS 0])/\Below w.heap.size w w' from λw=>HZ.out w);clear e hZ h0 h1;go_enter Tryz.func190,Tryz.ntmps190;go_upto_region 0 with fail
   refine AW 15 [7,8,9,10,11,12,13,14,15,16,6,17,18,4,5] [eQ (ZY x),eP g 0,eP g 0,eP g 0,eQ (ZZ ZQ (p:Int)),eP g 0,eP g 0,eP g 1,eQ (ZU #[ZZ ZS b.x0,ZZ ZS b.x1,ZZ ZS b.x2,ZZ ZS b.x3,ZZ ZS b.x4,ZZ ZS b.x5,ZZ ZS b.x6,ZZ ZS b.x7,ZW b.ch,ZW b.od]),eQ (ZT #[ZZ ZS 0,ZZ ZS 0]),eQ (ZT #[ZZ ZS 0,ZZ ZS 0]),eQ (ZZ ZS 0),eQ (ZZ ZS 0),eQ (ZZ ZS 0),eQ (ZZ ZS 0)] (by kernel_rfl) (by kernel_rfl) (by kernel_rfl) (by kernel_rfl) (λ_ _ d _ _ h=>by cases d<;>exact h) (by rfl) (by rfl) (by repeat first | exact trivial | refine ⟨AK _,?_⟩) ?_ ?_
   ·refine ⟨?_,?_,?_,?_,?_,?_,?_,?_,?_,?_,?_,?_,?_,?_,?_,trivial⟩
    ·exact XXoMs
    ·exact XXoMs
    ·exact XXoMs
    ·exact XXoMs
    ·exact XXoMs
    ·exact XXoMs
    ·exact XXoMs
    ·exact XXoMs
    ·exact XXoMs
    ·exact XX71n
    ·exact XXoMs
    ·exact XXoMs
    ·exact XXoMs
    ·exact XXoMs
    ·exact XXoMs
   intro g1 w2 hb hf;have z4:g1 4= _:=hf.at 13;have z5:g1 5= _:=hf.at 14;clear hf;simp only [AU,Ab,CH,CK,CJ];rw [z4];rw [z5];have H1:=Bx (H.out.below hb);have HB:=Bx hb;clear HQ hb
   have H2:=Bx ((H1.out.put 11 (ZZ ZS 6) {s with st:=6} rfl rfl rfl rfl rfl rfl).put 20 (ZZ ZS 0) {s with st:=6,lines:=0} rfl rfl rfl rfl rfl rfl)
   have HS2:=Bx ((DP HB.out (L:=blks g q v f bd t o)).trans ((DS g 11 (ZZ ZS 6) (by simp)).trans (DS g 20 (ZZ ZS 0) (by simp))));have c11:=H1.out.cs.c11;have c20:=H1.out.cs.c20;have z11:=H1.out.marks 11;have z20:=H1.out.marks 20;go_upto_region 6 with fail
   generalize (w2.setCell ⟨g,11,none⟩ (ZZ ZS 6)).setCell ⟨g,20,none⟩ (ZZ ZS 0)=W1 at *;clear c11 c20 z11 z20 H1 HB;obtain ⟨S1,hS1⟩:∃S1:S,{s with st:=6,lines:=0}=S1:=⟨_,rfl⟩;have HS1:=Bx hS1;rw [hS1] at H2;clear hS1
   have HQ:=Bx ((H2.out.drew 1).bk)
   have HBW:=Bx (show B<=(W1.drewN 1).heap.size from Dd H2.out.own.ge (Da (H2.out.drew 1).own.lt));refine Each.region 11 [41,42,43,44,45,46,47,48,49,50,51] [eP g 0,eP g 0,eP g 0,eP g 0,eQ (ZZ ZQ (p:Int)),eP g 0,eP g 0,eP g 1,eP g 1,eQ (ZZ ZS b.x0),λv w=>∃q1,v=ptr q1/\W1.heap.size<=q1/\Ln.Rr w B q1 nil p (nl p (b.x0))] (.quiet 11 (.quiet 12 (.act 13 .done))) (by kernel_rfl) (by kernel_rfl) (by kernel_rfl) (by kernel_rfl) (λ_ _ d _ _ h=>by cases d<;>exact h) (by rfl) (by rfl) ⟨AK _,AK _,AK _,AK _,AK _,AK _,AK _,AK _,AK _,AK _,((λ_ _ _ hb h=>by obtain ⟨q1,e1,h1,h2⟩:=h;exact ⟨q1,e1,h1,rr_below h2 hb⟩)),trivial⟩ ?_ ?_
   ·refine ⟨?_,?_,?_,?_,?_,?_,?_,?_,?_,?_,?_,trivial⟩
    ·exact XXSdZ
    ·exact XXSdZ
    ·exact XXSdZ
    ·exact XXSdZ
    ·exact XXSdZ
    ·exact XXSdZ
    ·exact XXSdZ
    ·exact XXSdZ
    ·exact XXSdZ
    ·exact XXSdZ
    ·refine AP rfl (λev w1 hR hb hh=>?_);have e45:ev (.tmp 45)= _:=hh.at 0;have e50:ev (.tmp 50)= _:=hh.at 1;exact XXJwx
   intro g1 w2 hb hf;have z41:g1 41= _:=hf.at 0;have z51:=hf.at 10;clear hf;obtain ⟨q1,e1,hq1,hr1⟩:=z51;simp only [AU,Ab,CH,CK,CJ];rw [e1,z41];simp only [Ee,Ef,BZ,BY];refine Eg (by rfl) (ptr g) (λ_ _=>by go_simp) ?_;simp only [Ab,CH,CK,CJ];refine Eg (by rfl) (ZV (some ⟨g,12,none⟩)) (λ_ _=>by go_simp) ?_;simp only [Ab,CH,CK,CJ];have c12:=(H2.out.below hb).cs.c12;have z12:=(H2.out.below hb).marks 12
   refine Ec (by rfl) (λK hK=>?_);go_simp;refine hK _ _ trivial ?_;clear hK K;refine Ed ?_;have HL:=H2.out.line hb hr1 hq1
   have SL:=(Step.line (g:=g) (q:=q) (v:=v) (f:=f) (bd:=bd) (t:=t) (o:=o) hb hq1).trans (DS g 12 (ptr q1) (by simp));clear HQ HBW hr1 hq1 c12 z12;rw [←HS1.out] at HL;go_wp2;go_end0;exact ⟨rfl,q1,_,_,_,_,HL,HS2.out.trans SL⟩
  ·obtain ⟨bb,cb,eb, -⟩:=CT H.out.own.D;subst eb
   have HD:=Bx (Base.wrap_in (b.x3-(s.r.body.length:Int)) (by omega) (by omega));have tz:¬(n:Int)=0:=by omega
   have tz':((n:Int)==0)=false:=beq_eq_false_iff_ne.2 tz
   by_cases hov:b.x3-(s.r.body.length:Int)<(n:Int)
   ·have e:s.chunk p b x.data.toList=s.fail 413:=by
     unfold S.chunk;exact XX7js
    rw [e];have HT:=Bx hov;clear e hZ h0 h1 hn;go_enter Tryz.func190,Tryz.ntmps190;go_upto_region 0 with fail
    refine AW 15 [7,8,9,10,11,12,13,14,15,16,6,17,18,4,5] [eQ (ZY x),eP g 0,eP g 0,eP g 0,eQ (ZZ ZQ (p:Int)),eP g 0,eP g 0,eP g 1,eQ (ZU #[ZZ ZS b.x0,ZZ ZS b.x1,ZZ ZS b.x2,ZZ ZS b.x3,ZZ ZS b.x4,ZZ ZS b.x5,ZZ ZS b.x6,ZZ ZS b.x7,ZW b.ch,ZW b.od]),eQ (ZT #[ZZ ZS (n:Int),ZZ ZS 0]),eQ (ZT #[ZZ ZS (n:Int),ZZ ZS 0]),eQ (ZZ ZS (n:Int)),eQ (ZZ ZS 0),eQ (ZZ ZS (n:Int)),eQ (ZZ ZS 0)] (by kernel_rfl) (by kernel_rfl) (by kernel_rfl) (by kernel_rfl) (λ_ _ d _ _ h=>by cases d<;>exact h) (by rfl) (by rfl) (by repeat first | exact trivial | refine ⟨AK _,?_⟩) ?_ ?_
    ·refine ⟨?_,?_,?_,?_,?_,?_,?_,?_,?_,?_,?_,?_,?_,?_,?_,trivial⟩
     ·exact XXoMs
     ·exact XXoMs
     ·exact XXoMs
     ·exact XXoMs
     ·exact XXoMs
     ·exact XXoMs
     ·exact XXoMs
     ·exact XXoMs
     ·exact XXoMs
     ·exact XX71n
     ·exact XXoMs
     ·exact XXoMs
     ·exact XXoMs
     ·exact XXoMs
     ·exact XXoMs
    intro g1 w2 hb hf;have z4:g1 4= _:=hf.at 13;have z5:g1 5= _:=hf.at 14;clear hf;simp only [AU,Ab,CH,CK,CJ];rw [z4];rw [z5];have H1:=Bx (H.out.below hb);have HB:=Bx hb;clear HQ hb;go_upto_region 7 with fail
    have HQ:=Bx ((H1.out.drew 1).bk);refine AW 15 [55,56,57,58,59,60,61,62,63,64,65,66,67,68,54] [eQ (ZZ ZS ((n:Nat):Int)),eP g 0,eP g 0,eP g 1,eP g 4,eQ (ZZ ZS b.x3),eP g 0,eP g 0,eP g 13,eP g 18,eQ (.slice bb s.r.body.length cb),eQ (ZZ ZS ((s.r.body.length:Nat):Int)),eQ (ZZ ZS (b.x3-(s.r.body.length:Int))),eQ (ZW true),eQ (ZW true)] (by kernel_rfl) (by kernel_rfl) (by kernel_rfl) (by kernel_rfl) (λ_ _ d _ _ h=>by cases d<;>exact h) (by rfl) (by rfl) (by repeat first | exact trivial | refine ⟨AK _,?_⟩) ?_ ?_
    ·exact XX7Qy
    intro g1 w3 hb hf;have z54:g1 54= _:=hf.at 14;clear hf;simp only [AU,Ab,CH,CK,CJ];rw [z54]
    have H2:=Bx (H1.out.below hb);have HS2:=Bx ((DP HB.out (L:=blks g q v f (.slice bb s.r.body.length cb) t o)).trans (DP hb));clear H1 HB hb HQ
    have HFA:=Bx (fail_at H2.out 413 413 rfl)
    go_wp2_with (go_at_call 115;with_reducible refine HFA.out.mono ?_;rintro r w4 ⟨rfl,hP,hS⟩);go_end0;exact ⟨rfl,_,_,_,_,_,hP,HS2.out.trans hS⟩
   ·have e:s.chunk p b x.data.toList={s with st:=4,left:=n}:=by
     unfold S.chunk;rw [hZ];show (if (0:Int)≠0 then _ else if (n:Int)=0 then _ else if b.x3-(s.r.body.length:Int)<(n:Int) then _ else ({s with st:=4,left:=(n:Int).toNat}:S))= _;rw [if_neg (by decide),if_neg tz,if_neg hov,Int.toNat_natCast]
    rw [e];have HT:=Bx hov;clear e hZ h0 h1 hn;go_enter Tryz.func190,Tryz.ntmps190;go_upto_region 0 with fail
    refine AW 15 [7,8,9,10,11,12,13,14,15,16,6,17,18,4,5] [eQ (ZY x),eP g 0,eP g 0,eP g 0,eQ (ZZ ZQ (p:Int)),eP g 0,eP g 0,eP g 1,eQ (ZU #[ZZ ZS b.x0,ZZ ZS b.x1,ZZ ZS b.x2,ZZ ZS b.x3,ZZ ZS b.x4,ZZ ZS b.x5,ZZ ZS b.x6,ZZ ZS b.x7,ZW b.ch,ZW b.od]),eQ (ZT #[ZZ ZS (n:Int),ZZ ZS 0]),eQ (ZT #[ZZ ZS (n:Int),ZZ ZS 0]),eQ (ZZ ZS (n:Int)),eQ (ZZ ZS 0),eQ (ZZ ZS (n:Int)),eQ (ZZ ZS 0)] (by kernel_rfl) (by kernel_rfl) (by kernel_rfl) (by kernel_rfl) (λ_ _ d _ _ h=>by cases d<;>exact h) (by rfl) (by rfl) (by repeat first | exact trivial | refine ⟨AK _,?_⟩) ?_ ?_
    ·refine ⟨?_,?_,?_,?_,?_,?_,?_,?_,?_,?_,?_,?_,?_,?_,?_,trivial⟩
     ·exact XXoMs
     ·exact XXoMs
     ·exact XXoMs
     ·exact XXoMs
     ·exact XXoMs
     ·exact XXoMs
     ·exact XXoMs
     ·exact XXoMs
     ·exact XXoMs
     ·exact XX71n
     ·exact XXoMs
     ·exact XXoMs
     ·exact XXoMs
     ·exact XXoMs
     ·exact XXoMs
    intro g1 w2 hb hf;have z4:g1 4= _:=hf.at 13;have z5:g1 5= _:=hf.at 14;clear hf;simp only [AU,Ab,CH,CK,CJ];rw [z4];rw [z5];have H1:=Bx (H.out.below hb);have HB:=Bx hb;clear HQ hb;go_upto_region 7 with fail
    have HQ:=Bx ((H1.out.drew 1).bk);refine AW 15 [55,56,57,58,59,60,61,62,63,64,65,66,67,68,54] [eQ (ZZ ZS ((n:Nat):Int)),eP g 0,eP g 0,eP g 1,eP g 4,eQ (ZZ ZS b.x3),eP g 0,eP g 0,eP g 13,eP g 18,eQ (.slice bb s.r.body.length cb),eQ (ZZ ZS ((s.r.body.length:Nat):Int)),eQ (ZZ ZS (b.x3-(s.r.body.length:Int))),eQ (ZW false),eQ (ZW false)] (by kernel_rfl) (by kernel_rfl) (by kernel_rfl) (by kernel_rfl) (λ_ _ d _ _ h=>by cases d<;>exact h) (by rfl) (by rfl) (by repeat first | exact trivial | refine ⟨AK _,?_⟩) ?_ ?_
    ·exact XX7Qy
    intro g1 w3 hb hf;have z54:g1 54= _:=hf.at 14;clear hf;simp only [AU,Ab,CH,CK,CJ];rw [z54]
    have H2:=Bx (H1.out.below hb);have HS2:=Bx ((DP HB.out (L:=blks g q v f (.slice bb s.r.body.length cb) t o)).trans (DP hb));clear H1 HB hb HQ
    have H3:=Bx ((H2.out.put 11 (ZZ ZS 4) {s with st:=4} rfl rfl rfl rfl rfl rfl).put 22 (ZZ ZS (n:Int)) {s with st:=4,left:=n} rfl rfl rfl rfl rfl rfl)
    have HS3:=Bx (HS2.out.trans ((DS g 11 (ZZ ZS 4) (by simp)).trans (DS g 22 (ZZ ZS (n:Int)) (by simp))));have c11:=H2.out.cs.c11;have c22:=H2.out.cs.c22;have z11:=H2.out.marks 11;have z22:=H2.out.marks 22;go_wp2;go_end0;exact ⟨rfl,_,_,_,_,_,H3.out,HS3.out⟩
 ·have e2:z2=400:=e2;subst e2
  have HZ:=Bx (show∀w,Calls EW 214 #[ZY x,ZZ ZQ (p:Int),ZU #[ZZ ZS b.x0,ZZ ZS b.x1,ZZ ZS b.x2,ZZ ZS b.x3,ZZ ZS b.x4,ZZ ZS b.x5,ZZ ZS b.x6,ZZ ZS b.x7,ZW b.ch,ZW b.od]] w λe w'=>e=.returned (ZT #[ZZ ZS z1,ZZ ZS 400])/\Below w.heap.size w w' from λw=>by have:=hz w;rw [hZ] at this;exact this);have e:s.chunk p b x.data.toList=s.fail 400:=by unfold S.chunk;rw [hZ];rfl
  rw [e];clear hz hZ e;go_enter Tryz.func190,Tryz.ntmps190;go_upto_region 0 with fail
  refine AW 15 [7,8,9,10,11,12,13,14,15,16,6,17,18,4,5] [eQ (ZY x),eP g 0,eP g 0,eP g 0,eQ (ZZ ZQ (p:Int)),eP g 0,eP g 0,eP g 1,eQ (ZU #[ZZ ZS b.x0,ZZ ZS b.x1,ZZ ZS b.x2,ZZ ZS b.x3,ZZ ZS b.x4,ZZ ZS b.x5,ZZ ZS b.x6,ZZ ZS b.x7,ZW b.ch,ZW b.od]),eQ (ZT #[ZZ ZS z1,ZZ ZS 400]),eQ (ZT #[ZZ ZS z1,ZZ ZS 400]),eQ (ZZ ZS z1),eQ (ZZ ZS 400),eQ (ZZ ZS z1),eQ (ZZ ZS 400)] (by kernel_rfl) (by kernel_rfl) (by kernel_rfl) (by kernel_rfl) (λ_ _ d _ _ h=>by cases d<;>exact h) (by rfl) (by rfl) (by repeat first | exact trivial | refine ⟨AK _,?_⟩) ?_ ?_
  ·refine ⟨?_,?_,?_,?_,?_,?_,?_,?_,?_,?_,?_,?_,?_,?_,?_,trivial⟩
   ·exact XXoMs
   ·exact XXoMs
   ·exact XXoMs
   ·exact XXoMs
   ·exact XXoMs
   ·exact XXoMs
   ·exact XXoMs
   ·exact XXoMs
   ·exact XXoMs
   ·exact XX71n
   ·exact XXoMs
   ·exact XXoMs
   ·exact XXoMs
   ·exact XXoMs
   ·exact XXoMs
  intro g1 w2 hb hf;have z4:g1 4= _:=hf.at 13;have z5:g1 5= _:=hf.at 14;clear hf;simp only [AU,Ab,CH,CK,CJ];rw [z4];rw [z5];have H1:=Bx (H.out.below hb);have HB:=Bx hb;clear HQ hb
  have HFA:=Bx (fail_at H1.out 400 400 rfl);exact XX8YT
 ·have e2:z2=413:=e2;subst e2
  have HZ:=Bx (show∀w,Calls EW 214 #[ZY x,ZZ ZQ (p:Int),ZU #[ZZ ZS b.x0,ZZ ZS b.x1,ZZ ZS b.x2,ZZ ZS b.x3,ZZ ZS b.x4,ZZ ZS b.x5,ZZ ZS b.x6,ZZ ZS b.x7,ZW b.ch,ZW b.od]] w λe w'=>e=.returned (ZT #[ZZ ZS z1,ZZ ZS 413])/\Below w.heap.size w w' from λw=>by have:=hz w;rw [hZ] at this;exact this);have e:s.chunk p b x.data.toList=s.fail 413:=by unfold S.chunk;rw [hZ];rfl
  rw [e];clear hz hZ e;go_enter Tryz.func190,Tryz.ntmps190;go_upto_region 0 with fail
  refine AW 15 [7,8,9,10,11,12,13,14,15,16,6,17,18,4,5] [eQ (ZY x),eP g 0,eP g 0,eP g 0,eQ (ZZ ZQ (p:Int)),eP g 0,eP g 0,eP g 1,eQ (ZU #[ZZ ZS b.x0,ZZ ZS b.x1,ZZ ZS b.x2,ZZ ZS b.x3,ZZ ZS b.x4,ZZ ZS b.x5,ZZ ZS b.x6,ZZ ZS b.x7,ZW b.ch,ZW b.od]),eQ (ZT #[ZZ ZS z1,ZZ ZS 413]),eQ (ZT #[ZZ ZS z1,ZZ ZS 413]),eQ (ZZ ZS z1),eQ (ZZ ZS 413),eQ (ZZ ZS z1),eQ (ZZ ZS 413)] (by kernel_rfl) (by kernel_rfl) (by kernel_rfl) (by kernel_rfl) (λ_ _ d _ _ h=>by cases d<;>exact h) (by rfl) (by rfl) (by repeat first | exact trivial | refine ⟨AK _,?_⟩) ?_ ?_
  ·refine ⟨?_,?_,?_,?_,?_,?_,?_,?_,?_,?_,?_,?_,?_,?_,?_,trivial⟩
   ·exact XXoMs
   ·exact XXoMs
   ·exact XXoMs
   ·exact XXoMs
   ·exact XXoMs
   ·exact XXoMs
   ·exact XXoMs
   ·exact XXoMs
   ·exact XXoMs
   ·exact XX71n
   ·exact XXoMs
   ·exact XXoMs
   ·exact XXoMs
   ·exact XXoMs
   ·exact XXoMs
  intro g1 w2 hb hf;have z4:g1 4= _:=hf.at 13;have z5:g1 5= _:=hf.at 14;clear hf;simp only [AU,Ab,CH,CK,CJ];rw [z4];rw [z5];have H1:=Bx (H.out.below hb);have HB:=Bx hb;clear HQ hb
  have HFA:=Bx (fail_at H1.out 413 413 rfl);exact XX8YT
end
end Go.Proofs.YtdfabddnpgjepaaGreatDoor.Par
namespace Go.Proofs.YtdfabddnpgjepaaGreatDoor.Rq
open Go.RowKit Base Txt
theorem pair_info:(EW.info? 232).map (λi=>(i.zero,i.size,i.bytes))=some (some (ZU #[ZZ ZS 0,ZZ ZS 0]),2,16):=by kernel_rfl
section
set_option maxHeartbeats 1000000
attribute [local go_sem] Am
set_option maxRecDepth 10000 in
theorem rbytes_any (t:ByteArray) (p:Nat) (hp:p<4294967296) (w:World) (h0:0<t.size) (ht:t.size<=900000000):Calls EW 208 #[ZY t,ZZ ZQ (p:Nat)] w λe w'=>
 e=.returned (ZW (tgtB (clOf p) t.data.toList))/\w'=w:=by
 have H7:=Bx (λw=>D4 p hp 7 w)
 have H8:=Bx (λw=>D4 p hp 8 w);have hlets:∀x,letsT (clOf p) x=(Oct.visible (x.toNat:Int)|| (D0 p 7&&Oct.blank (x.toNat:Int)||D0 p 8&&Oct.control (x.toNat:Int))):=λ_=>rfl;have hok:tgtB (clOf p) t.data.toList=t.data.toList.all (letsT (clOf p)):=rfl;have t0:=first_no t h0;rw [hok];clear hok;generalize hq:letsT (clOf p)=q at *;clear hq;have HL:=Bx hlets;clear hlets;generalize D0 p 7=sp at *;generalize D0 p 8=co at *;cases sp<;>cases co;all_goals
  go_enter Tryz.func208,Tryz.ntmps208;go_upto_region 2 with fail
  go_loopw [5] (λi wr=>∃k:Nat,k<=t.size/\i=ZZ ZS k/\wr=w/\Hid ((t.data.toList.take k).all q=true)) (λi _=>t.size-(intOf i).toNat)
  case atStart=>exact ⟨0,Dj _,rfl,rfl,Bx rfl⟩
  case round=>
   obtain ⟨k,hk,rfl,hwr,hpre⟩:=hrel;subst hwr;rcases Dg k t.size with hlt | hge
   ·have i1:(k:Int)<(t.size:Int):=by omega
    have HQ:=Bx (HL.out (t[k]))
    have HS:=Bx (all_take q t.data.toList k (by rw [len];exact hlt) hpre.out)
    have HN:=Bx (all_not q t.data.toList k (by rw [len];exact hlt));have hgt:t.data.toList[k]'(by rw [len];exact hlt)=t[k]:=rfl;rw [hgt] at HS HN;clear hgt;obtain ⟨b,hb⟩:∃b,t[k]=b:=⟨_,rfl⟩;have hn:∀hh,t[k]'hh=b:=λ_=>hb;rw [hb] at HQ HS HN;clear hb
    have HV:=Bx (λw=>Oct.rvisible_any (b.toNat:Int) w)
    have HB:=Bx (λw=>Oct.rblank_any (b.toNat:Int) w)
    have HC:=Bx (λw=>Oct.rcontrol_any (b.toNat:Int) w);generalize Oct.visible (b.toNat:Int)=v at *;generalize Oct.blank (b.toNat:Int)=bk at *;generalize Oct.control (b.toNat:Int)=ct at *;cases v
    ·cases bk<;>cases ct;all_goals
      go_wp2_with (first
       |(go_at_call 197;with_reducible refine Cm (HV.out _) ?_)
       |(go_at_call 136;with_reducible refine Cm (HB.out _) ?_)
       |(go_at_call 229;with_reducible refine Cm (HC.out _) ?_)
       |(go_at_call 44;with_reducible refine Cm (H7.out _) ?_)
       |(go_at_call 44;with_reducible refine Cm (H8.out _) ?_))
      first
       |(go_ret;exact ⟨by rw [HN.out (by rw [HQ.out];rfl)];rfl,rfl⟩)
       |(go_roundw
         case rel=>exact ⟨k+1,by omega,by go_num,by first | rfl | trivial,Bx (HS.out (by rw [HQ.out];rfl))⟩
         case measure=>simp [intOf];omega)
    ·go_wp2_with (go_at_call 197;with_reducible refine Cm (HV.out _) ?_);exact XXqnM
   ·obtain rfl:k=t.size:=by omega
    have hall:=hpre.out;rw [take_all t _ (Db _)] at hall;have HALL:=Bx hall;clear hpre hall HL;go_wp2_with fail;go_ret;rw [HALL.out];exact ⟨by first | rfl | simp,rfl⟩
theorem rversion_any (s:ByteArray) (p:Nat) (hp:p<4294967296) (w:World) (h0:0<s.size):Calls EW 210 #[ZY s,ZZ ZQ (p:Nat)] w λe w'=>
 (∃k:Nat,e=.returned (ZT #[ZZ ZS (k:Int),ZW (verL (clOf p) s.data.toList).isSome])/\∀j,verL (clOf p) s.data.toList=some j->k=j)/\Below w.heap.size w w':=by
 have hne:s.data.toList≠ []:=λh=>by
  have:s.size=0:=by rw [←len,h];rfl
  omega
 have ev:verL (clOf p) s.data.toList=if knownV (clOf p) s.data.toList=true then (if s.data.toList.getD 7 0=48 then some 0 else if (s.data.toList.getD 7 0==49||D0 p 4)=true then some 1 else none) else none:=by rw [verL,if_neg hne];rfl
 clear hne;by_cases h8:s.size=8
 ·obtain ⟨e1,e2⟩:=len8 s h8;have hx:(s.extract 0 7).size=7:=by rw [←len,e2,C0,len];omega
  have H5:=Bx (λw=>D4 p hp 5 w)
  have H4:=Bx (λw=>D4 p hp 4 w)
  have HS:=Bx (λw=>rsame_any (s.extract 0 7) ⟨#[72,84,84,80,47,49,46]⟩ w (by rw [hx];decide) (by decide))
  have HD:=Bx (λw=>Oct.rdigit_any ((s[7]'(by omega)).toNat:Int) w);have ek:knownV (clOf p) s.data.toList=(Oct.digit ((s[7]'(by omega)).toNat:Int)&&(((s.extract 0 7).data.toList==http1)|| (D0 p 5&&same (s.extract 0 7) ⟨#[72,84,84,80,47,49,46]⟩))):=by exact XXwj4
  obtain ⟨t1,t2⟩:=eq_facts (s.extract 0 7) [72,84,84,80,47,49,46] (decide ((s.extract 0 7).data.toList=http1)) rfl;have e3:((s.extract 0 7).data.toList==http1)=decide ((s.extract 0 7).data.toList=http1):=by rw [Au,beq_iff_eq,decide_eq_true_eq]
  rw [ek,e1,e3] at ev;clear e1 e2 ek e3 hx;have hsz:(s.size:Int)=8:=by omega
  obtain ⟨d,hd⟩:∃d,s[7]'(by omega)=d:=⟨_,rfl⟩;have hn:∀hh,s[7]'hh=d:=λ_=>hd;rw [hd] at HD ev;clear hd;generalize decide ((s.extract 0 7).data.toList=http1)=r1 at *;generalize same (s.extract 0 7) ⟨#[72,84,84,80,47,49,46]⟩=r2 at *;generalize D0 p 5=r3 at *;generalize D0 p 4=r5 at *;generalize Oct.digit (d.toNat:Int)=r4 at *;generalize verL (clOf p) s.data.toList=V at *;obtain ⟨x,hx⟩:∃x,s.extract 0 7=x:=⟨_,rfl⟩;rw [hx] at HS t1 t2;cases r4 with
  | false=>
    rw [Av,if_neg (by decide)] at ev;subst ev;go_enter Tryz.func210,Tryz.ntmps210
    go_wp2_with (go_at_call 198;with_reducible refine Cm (HD.out _) ?_);go_ret2;exact ⟨⟨0,rfl,λj h=>by cases h⟩,An _ _⟩
  | true=>
    have hb:(r1=false/\r3=false)∨(r1=false/\r3=true/\r2=false)∨(r1|| (r3&&r2))=true:=by cases r1<;>cases r2<;>cases r3<;>simp
    by_cases h1:(r1|| (r3&&r2))=true
    ·rw [h1,Bool.and_true,if_pos rfl] at ev;by_cases h48:d=48
     ·rw [if_pos h48] at ev;subst ev h48
      replace HD:Hid (∀w,Calls EW 198 #[ZZ ZR 48] w λe w'=>e=.returned (ZW true)/\w'=w):=HD
      cases r1<;>cases r3<;>cases r2<;>simp at h1;all_goals
       go_enter Tryz.func210,Tryz.ntmps210
       go_wp2_with (first
        |(go_at_call 198;with_reducible refine Cm (HD.out _) ?_)
        |(go_at_call 44;with_reducible refine Cm (H5.out _) ?_)
        |(go_at_call 148;with_reducible refine (HS.out _).mono ?_;rintro e w2 ⟨rfl,hb2⟩))
       go_ret2;first
        | exact ⟨⟨0,rfl,λj h=>by cases h;rfl⟩,hb2⟩
        | exact ⟨⟨0,rfl,λj h=>by cases h;rfl⟩,An _ _⟩
     ·rw [if_neg h48] at ev
      have n48:¬(d.toNat:Int)=48:=λh=>h48 (FM.1 (by show d.toNat=48;omega));clear h48;by_cases h49:d=49
      ·subst h49;rw [if_pos (by rfl)] at ev;subst ev
       replace HD:Hid (∀w,Calls EW 198 #[ZZ ZR 49] w λe w'=>e=.returned (ZW true)/\w'=w):=HD
       cases r1<;>cases r3<;>cases r2<;>simp at h1;all_goals
        go_enter Tryz.func210,Tryz.ntmps210
        go_wp2_with (first
         |(go_at_call 198;with_reducible refine Cm (HD.out _) ?_)
         |(go_at_call 44;with_reducible refine Cm (H5.out _) ?_)
         |(go_at_call 148;with_reducible refine (HS.out _).mono ?_;rintro e w2 ⟨rfl,hb2⟩))
        go_ret2;first
         | exact ⟨⟨1,rfl,λj h=>by cases h;rfl⟩,hb2⟩
         | exact ⟨⟨1,rfl,λj h=>by cases h;rfl⟩,An _ _⟩
      ·have n49:¬(d.toNat:Int)=49:=λh=>h49 (FM.1 (by show d.toNat=49;omega));have e49:(d==49)=false:=by simpa using h49
       rw [e49,Bool.false_or] at ev;clear h49 e49;have hV:V.isSome=r5/\∀j,V=some j->1=j:=by
        cases r5 with
        | true=>rw [if_pos rfl] at ev;subst ev;exact ⟨rfl,λj h=>by cases h;rfl⟩
        | false=>rw [if_neg (by decide)] at ev;subst ev;exact ⟨rfl,λj h=>by cases h⟩
       rw [hV.1];have HVV:=Bx hV.2;clear hV ev;cases r1<;>cases r3<;>cases r2<;>simp at h1;all_goals
        go_enter Tryz.func210,Tryz.ntmps210
        go_wp2_with (first
         |(go_at_call 198;with_reducible refine Cm (HD.out _) ?_)
         |(go_at_call 44;with_reducible refine Cm (H5.out _) ?_)
         |(go_at_call 44;with_reducible refine Cm (H4.out _) ?_)
         |(go_at_call 148;with_reducible refine (HS.out _).mono ?_;rintro e w2 ⟨rfl,hb2⟩))
        go_ret2;first
         | exact ⟨⟨1,rfl,HVV.out⟩,hb2⟩
         | exact ⟨⟨1,rfl,HVV.out⟩,An _ _⟩
    ·have h1f:(r1|| (r3&&r2))=false:=by simpa using h1
     rw [h1f,Bool.and_false,if_neg (by decide)] at ev;subst ev;cases r1<;>cases r3<;>cases r2<;>simp at h1f;all_goals
      go_enter Tryz.func210,Tryz.ntmps210
      go_wp2_with (first
       |(go_at_call 198;with_reducible refine Cm (HD.out _) ?_)
       |(go_at_call 44;with_reducible refine Cm (H5.out _) ?_)
       |(go_at_call 148;with_reducible refine (HS.out _).mono ?_;rintro e w2 ⟨rfl,hb2⟩))
      go_ret2;first
       | exact ⟨⟨0,rfl,λj h=>by cases h⟩,hb2⟩
       | exact ⟨⟨0,rfl,λj h=>by cases h⟩,An _ _⟩
 ·have e:knownV (clOf p) s.data.toList=false:=by unfold knownV;rw [len,decide_eq_false h8];rfl
  rw [e,if_neg (by decide)] at ev;rw [ev];clear e ev;have h1:¬(s.size:Int)=8:=by omega
  go_enter Tryz.func210,Tryz.ntmps210;go_wp2_with fail;go_ret2;exact ⟨⟨0,rfl,λj h=>by cases h⟩,An _ _⟩
end
end Go.Proofs.YtdfabddnpgjepaaGreatDoor.Rq
namespace Go.Proofs.YtdfabddnpgjepaaGreatDoor.Rq
open Go.RowKit Base Txt
def Spn (w:World) (a:Option Addr) (n:Nat) (sp:List (Nat × Nat)):Prop:=
 sp.length=n/\(0<n->∃b,a=some ⟨b,0,none⟩/\b<w.heap.size/\∀k,(hk:k<sp.length)->w.cell? ⟨b,k*2,none⟩=some (ZZ ZS (sp[k].1:Nat))/\w.cell? ⟨b,k*2+1,none⟩=some (ZZ ZS (sp[k].2:Nat)))
theorem Spn.of_own {w:World} {base:Nat} {e:TypeId} {v:Value} {sp:List (Nat × Nat)} (h:w.ownsRow base e 2 v sp.length (Lib.spanCells sp)):∃A c,v=.slice A sp.length c/\Spn w A sp.length sp:=by
 rcases h.2 with ⟨rfl,hx⟩ | ⟨g,cap,cur,rfl,hb,hh,hcap,hcs,h9,ht⟩
 ·have h0:sp.length=0:=hx;rw [h0];exact ⟨none,0,rfl,h0,λq=>absurd q (by omega)⟩
 ·have hlt:g<w.heap.size:=by
   rcases Dg g w.heap.size with h | h
   ·exact h
   ·rw [Array.getElem?_eq_none h] at hh;cases hh
  refine ⟨_,_,rfl,rfl,λ_=>⟨g,rfl,hlt,λk hk=>?_⟩⟩
  have h1:=h.cellAt (k*2) (by omega)
  have h2:=h.cellAt (k*2+1) (by omega)
  have h3:=Lib.spanCells_at sp k sp[k] (Ca hk);exact ⟨h1.trans h3.1,h2.trans h3.2⟩
def Done (bl:Bool) (l:List UInt8) (k f:Nat) (done:List (Nat × Nat)):Prop:=
 (k<=l.length/\f<=k/\spans bl l=(pcs (sepB bl) (!bl) (l.drop k) k f).map (done ++ ·))∨(k=l.length+1/\spans bl l=some done)
theorem Done.start (bl:Bool) (l:List UInt8):Done bl l 0 0 []:=.inl ⟨Dj _,Db _,by rw [List.drop_zero];show _=(spans bl l).map _;cases spans bl l<;>simp⟩
theorem Done.miss {bl:Bool} {l:List UInt8} {k f:Nat} {done:List (Nat × Nat)} (h:Done bl l k f done) (hk:k<l.length) (hp:sepB bl l[k]=false):f<=k/\Done bl l (k+1) f done:=by
 rcases h with ⟨_,h1,h2⟩ | ⟨h,_⟩
 ·refine ⟨h1,.inl ⟨by omega,by omega,?_⟩⟩;rw [h2,BQ hk,pcs,if_neg (by rw [hp];decide)]
 ·omega
theorem Done.empty {bl:Bool} {l:List UInt8} {k:Nat} {done:List (Nat × Nat)} (h:Done bl l k k done) (hk:k<l.length) (hp:sepB bl l[k]=true):if bl=true then Done bl l (k+1) (k+1) done else spans bl l=none:=by
 rcases h with ⟨_,_,h2⟩ | ⟨h,_⟩
 ·rw [BQ hk,pcs,if_pos hp,if_pos rfl] at h2;cases bl with
  | true=>exact .inl ⟨by omega,Db _,h2⟩
  | false=>exact h2
 ·omega
theorem Done.empty' {bl:Bool} {l:List UInt8} {k f:Nat} {done:List (Nat × Nat)} (h:Done bl l k f done) (e:f=k) (hk:k<l.length) (hp:sepB bl l[k]=true):if bl=true then Done bl l (k+1) (k+1) done else spans bl l=none:=by subst e;exact h.empty hk hp
theorem Done.end_empty' {bl:Bool} {l:List UInt8} {f:Nat} {done:List (Nat × Nat)} (n:Nat) (hn:l.length=n) (h:Done bl l n f done) (e:f=n):if bl=true then Done bl l (n+1) (n+1) done else spans bl l=none:=by
 subst e;subst hn;rcases h with ⟨_,_,h2⟩ | ⟨h,_⟩
 ·rw [List.drop_length,pcs,if_pos rfl] at h2;cases bl with
  | true=>exact .inr ⟨rfl,by rw [h2];simp⟩
  | false=>exact h2
 ·omega
theorem Done.end_hit' {bl:Bool} {l:List UInt8} {f:Nat} {done:List (Nat × Nat)} (n:Nat) (hn:l.length=n) (h:Done bl l n f done) (hf:f<n):Done bl l (n+1) (n+1) (done ++ [(f,n)]):=by
 subst hn;rcases h with ⟨_,_,h2⟩ | ⟨h,_⟩
 ·refine .inr ⟨rfl,?_⟩;rw [h2,List.drop_length,pcs,if_neg (by omega)];rfl
 ·omega
theorem Done.full {bl:Bool} {l:List UInt8} {k f:Nat} {done:List (Nat × Nat)} (h:Done bl l k f done) (hk:l.length<k):spans bl l=some done:=by
 rcases h with ⟨h,_⟩ | ⟨_,h⟩
 ·omega
 ·exact h
theorem Done.hit {bl:Bool} {l:List UInt8} {k f:Nat} {done:List (Nat × Nat)} (h:Done bl l k f done) (hf:f<k) (hk:k<l.length) (hp:sepB bl l[k]=true):Done bl l (k+1) (k+1) (done ++ [(f,k)]):=by
 rcases h with ⟨_,h1,h2⟩ | ⟨h,_⟩
 ·refine .inl ⟨by omega,Db _,?_⟩;rw [h2,BQ hk,pcs,if_pos hp,if_neg (by omega),Option.map_map]
  congr 1
  funext x
  simp
 ·omega
theorem Done.le {bl:Bool} {l:List UInt8} {k f:Nat} {done:List (Nat × Nat)} (h:Done bl l k f done) (hk:k<=l.length):f<=k:=by
 rcases h with ⟨_,h1,_⟩ | ⟨h,_⟩
 ·exact h1
 ·omega
theorem news_two (w:World) (x y:Value) (t:TypeId):∀(j:Nat) (u:Value),[x,y][j]?=some u->(w.alloc (.cells #[x,y] t)).cell? (Addr.add ⟨w.heap.size,0,none⟩ j)=some u:=by
 intro j u hu;have hj:j=0∨j=1:=by
  rcases Dg j 2 with h | h
  ·omega
  ·rw [List.getElem?_eq_none (by simpa using h)] at hu;cases hu
 have key:=cell_of_row (w.alloc (.cells #[x,y] t)) w.heap.size j #[x,y] t (0,0) (heap_alloc_new w _);have e2:Addr.add ⟨w.heap.size,0,none⟩ j=⟨w.heap.size,j,none⟩:=by unfold Addr.add;rcases hj with rfl | rfl<;>simp
 rw [e2];refine key.trans ?_;rcases hj with rfl | rfl<;>simpa using hu
section
set_option maxHeartbeats 2000000
attribute [local go_sem] Am
theorem XXlSI {P:Prop} (h:P:=by
 intro v' w' hown' hgr _
 have H2:Hid (w'.ownsRow w.heap.size 232 2 v' (done ++ [(f,k)]).length (Lib.spanCells (done ++ [(f,k)]))):=Bx (by rw [Lib.spanCells_snoc];simpa using hown')
 have H3:=Bx ((hbr.out.alloc hbr.out.size _).grown hgr (by have:=hbr.out.size;simp;omega) (own_base hown.out));clear hown' hgr hown hbr;go_wp2;go_roundw
 case rel=>exact ⟨k+1,k+1,done ++ [(f,k)],by omega,by omega,by rw [Cr,List.length_singleton];omega,by go_num,by go_num,HD,H2,H3⟩
 case measure=>simp [intOf];omega):P:=h
theorem XX8hT {P:Prop} (h:P:=by
 intro v' w' hown' hgr _
 have H2:Hid (w'.ownsRow w.heap.size 232 2 v' (done ++ [(f,s.size)]).length (Lib.spanCells (done ++ [(f,s.size)]))):=Bx (by rw [Lib.spanCells_snoc];simpa using hown')
 have H3:=Bx ((hbr.out.alloc hbr.out.size _).grown hgr (by have:=hbr.out.size;simp;omega) (own_base hown.out));clear hown' hgr hown hbr;go_wp2;go_roundw
 case rel=>exact ⟨s.size+1,s.size+1,done ++ [(f,s.size)],by omega,by omega,by rw [Cr,List.length_singleton];omega,by go_num,by go_num,HD,H2,H3⟩
 case measure=>simp [intOf]):P:=h
theorem XXQ0D {P:Prop} (h:P:=by
 clear hbb
 go_wp2_with (go_at_call 136;with_reducible refine Cm (HB.out _) ?_);go_roundw
 case rel=>exact ⟨k+1,f,done,by omega,by omega,by omega,by first | rfl | go_num,by go_num,HD,hown,hbr⟩
 case measure=>simp [intOf];omega):P:=h
theorem XXTIx {P:Prop} (h:P:=by
 go_wp2_with (go_at_call 136;with_reducible refine Cm (HB.out _) ?_);go_roundw
 case rel=>exact ⟨f+1,f+1,done,by omega,by omega,by omega,by first | rfl | go_num,by go_num,HD,hown,hbr⟩
 case measure=>simp [intOf];omega):P:=h
theorem XXOmU {P:Prop} (h:P:=by
 have hno:PS=none:=HPS.out.symm.trans (by simpa using HD);subst hno;clear HD;go_wp2_with fail;go_ret2
 exact ⟨rfl,hbr.out⟩):P:=h
set_option maxRecDepth 10000 in
theorem rpieces_any (s:ByteArray) (bl:Bool) (w:World) (hs:s.size<=900000000):Calls EW 228 #[ZY s,ZW bl] w λe w'=>
 (match spans bl s.data.toList with
   | none=>e=.returned (.tuple #[.slice none 0 0,.bool false])
   | some sp=>∃a c,e=.returned (.tuple #[.slice a sp.length c,.bool true])/\Spn w' a sp.length sp)/\Below w.heap.size w w':=by
 obtain ⟨i0,hi,hz0,hz1,hz2⟩:=info_parts pair_info;have G1:=Bx hi;have G2:=Bx hz0;have G3:=Bx hz1;have G4:=Bx hz2;clear hi hz0 hz1 hz2;obtain ⟨PS,hPS⟩:∃PS,spans bl s.data.toList=PS:=⟨_,rfl⟩;rw [hPS];have HPS:=Bx hPS;clear hPS;go_enter Tryz.func228,Tryz.ntmps228;go_wp2
 go_loopw [6,7,8] (λv fr i wr=>∃(k f:Nat) (done:List (Nat × Nat)),k<=s.size+1/\f<=s.size+1/\done.length<=k/\fr=ZZ ZS f/\i=ZZ ZS k/\Hid (Done bl s.data.toList k f done)/\Hid (wr.ownsRow w.heap.size 232 2 v done.length (Lib.spanCells done))/\Hid (Below w.heap.size w wr)) (λ_ _ i _=>s.size+1-(intOf i).toNat)
 case atStart=>exact ⟨0,0,[],by omega,by omega,Db _,rfl,rfl,Bx (Done.start _ _),Bx ⟨rfl,.inl ⟨rfl,rfl⟩⟩,Bx (An _ _)⟩
 case round=>
  obtain ⟨k,f,done,hk,hf,hdn,rfl,rfl,hpt,hown,hbr⟩:=hrel;rcases Dg k s.size with hlt | hge
  ·have t0:(k:Int)<=(s.size:Int):=by omega
   have i1:(k:Int)<(s.size:Int):=by omega
   have hkl:k<s.data.toList.length:=by rw [len];exact hlt
   have hfk:=hpt.out.le (by omega);obtain ⟨b,hb⟩:∃b,s[k]=b:=⟨_,rfl⟩;have hn:∀hh,s[k]'hh=b:=λ_=>hb;have hbl:s.data.toList[k]=b:=hb
   have HM:=Bx (λhp=>(hpt.out.miss hkl hp).2)
   have HE:=Bx (λ(e:f=k) hp=>hpt.out.empty' e hkl hp)
   have HH:=Bx (λe hp=>hpt.out.hit e hkl hp);rw [hbl] at HM HE HH;clear hb hbl hkl hpt
   have HB:=Bx (λw=>Oct.rblank_any (b.toNat:Int) w);have m1:IntKind.i64.wrap ((k:Int)+1)=((k+1:Nat):Int):=by rw [wrap_in _ (by omega) (by omega)];omega
   have hsep:sepB bl b=(b==32|| (bl&&Oct.blank (b.toNat:Int))):=by
    unfold sepB Oct.blank;have e9:(b==9)=decide ((b.toNat:Int)=9):=by rw [Au,beq_iff_eq,decide_eq_true_eq];exact ⟨λh=>by rw [h];rfl,λh=>FM.1 (by show b.toNat=9;omega)⟩
    have e32:(b==32)=decide ((b.toNat:Int)=32):=by rw [Au,beq_iff_eq,decide_eq_true_eq];exact ⟨λh=>by rw [h];rfl,λh=>FM.1 (by show b.toNat=32;omega)⟩
    rw [e9,e32];cases bl<;>cases decide ((b.toNat:Int)=32)<;>cases decide ((b.toNat:Int)=9)<;>rfl
   have n32:(b==32)=false->¬(b.toNat:Int)=32:=λh e=>by have:b=32:=FM.1 (by show b.toNat=32;omega);rw [this] at h;cases h
   have y32:(b==32)=true->(b.toNat:Int)=32:=λh=>by rw [beq_iff_eq.1 h];rfl
   generalize (b==32)=q at *;generalize Oct.blank (b.toNat:Int)=bk at *;have hcase:(q=true)∨(q=false/\bl=true/\bk=true)∨(q=false/\(bl&&bk)=false):=by cases q<;>cases bl<;>cases bk<;>simp
   have hmiss:(q=false/\(bl&&bk)=false)->sepB bl b=false:=λh=>by rw [hsep,h.1,h.2];rfl
   have hhit:(q=true)∨(q=false/\bl=true/\bk=true)->sepB bl b=true:=λh=>by
    rcases h with h | ⟨h1,h2,h3⟩
    ·rw [hsep,h];rfl
    ·rw [hsep,h1,h2,h3];rfl
   clear hsep;have HX:=Bx hmiss;have HY:=Bx hhit;clear hmiss hhit;rcases hcase with hq | ⟨hq,hbl,hbk⟩ | ⟨hq,hbb⟩
   ·have hsp:=HY.out (.inl hq);have e32:=y32 hq;clear n32 y32 hq
    replace HH:=Bx (λe=>HH.out e hsp)
    replace HE:=Bx (λe=>HE.out e hsp)
    clear HX HY HM hsp;rcases Dg f k with hfl | hfg
    ·have g1:¬(k:Int)=(f:Int):=by omega
     have g2:(f:Int)<(k:Int):=by omega
     have HD:=Bx (HH.out hfl);clear HH HE;cases bl
     ·go_wp2_with (first
       |(go_at_call 136;with_reducible refine Cm (HB.out _) ?_)
       |(at_builtin;refine wpList_append_own _ rfl _ _ 229 rfl w.heap.size 232 i0 (.agg #[.int .i64 0,.int .i64 0]) 2 16 Tryz.underlying229 G1.out G2.out G3.out G4.out rfl (by decide) _ _ _ rfl (hown.out.alloc _) ⟨wr.heap.size,0,none⟩ 1 1 [.int .i64 (f:Nat),.int .i64 (k:Nat)] rfl rfl ?ca1 ?cb1 ?cc1 ?cd1 ?ce1 ?_))
      case ca1=>exact news_two wr _ _ _
      case cb1=>intro u hu;rcases (by simpa using hu:u=ZZ ZS (f:Nat)∨u=ZZ ZS (k:Nat)) with rfl | rfl<;>rfl
      case cc1=>unfold maxLen;omega
      case cd1=>omega
      case ce1=>have:=hbr.out.size;simp;omega
      exact XXlSI
     ·go_wp2_with (first
       |(go_at_call 136;with_reducible refine Cm (HB.out _) ?_)
       |(at_builtin;refine wpList_append_own _ rfl _ _ 229 rfl w.heap.size 232 i0 (.agg #[.int .i64 0,.int .i64 0]) 2 16 Tryz.underlying229 G1.out G2.out G3.out G4.out rfl (by decide) _ _ _ rfl (hown.out.alloc _) ⟨wr.heap.size,0,none⟩ 1 1 [.int .i64 (f:Nat),.int .i64 (k:Nat)] rfl rfl ?ca2 ?cb2 ?cc2 ?cd2 ?ce2 ?_))
      case ca2=>exact news_two wr _ _ _
      case cb2=>intro u hu;rcases (by simpa using hu:u=ZZ ZS (f:Nat)∨u=ZZ ZS (k:Nat)) with rfl | rfl<;>rfl
      case cc2=>unfold maxLen;omega
      case cd2=>omega
      case ce2=>have:=hbr.out.size;simp;omega
      exact XXlSI
    ·obtain rfl:f=k:=by omega
     have HD:=HE.out rfl;clear HH HE;cases bl
     ·exact XXOmU
     ·replace HD:=Bx (show Done true s.data.toList (f+1) (f+1) done by simpa using HD)
      exact XXTIx
   ·have hsp:=HY.out (.inr ⟨hq,hbl,hbk⟩);have e32:=n32 hq;clear n32 y32 hq
    replace HH:=Bx (λe=>HH.out e hsp)
    replace HE:=Bx (λe=>HE.out e hsp)
    clear HX HY HM hsp;subst hbl hbk;rcases Dg f k with hfl | hfg
    ·have g1:¬(k:Int)=(f:Int):=by omega
     have g2:(f:Int)<(k:Int):=by omega
     have HD:=Bx (HH.out hfl);clear HH HE
     go_wp2_with (first
      |(go_at_call 136;with_reducible refine Cm (HB.out _) ?_)
      |(at_builtin;refine wpList_append_own _ rfl _ _ 229 rfl w.heap.size 232 i0 (.agg #[.int .i64 0,.int .i64 0]) 2 16 Tryz.underlying229 G1.out G2.out G3.out G4.out rfl (by decide) _ _ _ rfl (hown.out.alloc _) ⟨wr.heap.size,0,none⟩ 1 1 [.int .i64 (f:Nat),.int .i64 (k:Nat)] rfl rfl ?ca3 ?cb3 ?cc3 ?cd3 ?ce3 ?_))
     case ca3=>exact news_two wr _ _ _
     case cb3=>intro u hu;rcases (by simpa using hu:u=ZZ ZS (f:Nat)∨u=ZZ ZS (k:Nat)) with rfl | rfl<;>rfl
     case cc3=>unfold maxLen;omega
     case cd3=>omega
     case ce3=>have:=hbr.out.size;simp;omega
     exact XXlSI
    ·obtain rfl:f=k:=by omega
     have HD:=Bx (show Done true s.data.toList (f+1) (f+1) done by simpa using HE.out rfl);clear HH HE;exact XXTIx
   ·have HD:=Bx (HM.out (HX.out ⟨hq,hbb⟩));have e32:=n32 hq;clear n32 y32 hq HX HY HM HH HE;cases bl
    ·exact XXQ0D
    ·have hbk:bk=false:=by simpa using hbb
     subst hbk;exact XXQ0D
  ·rcases Dg s.size k with hgt | hle
   ·obtain rfl:k=s.size+1:=by omega
    have t0:¬((s.size+1:Nat):Int)<=(s.size:Int):=by omega
    have hfin:PS=some done:=HPS.out.symm.trans (hpt.out.full (by rw [len];omega));subst hfin;obtain ⟨A,cp,rfl,hA⟩:=Spn.of_own hown.out;have HA:=Bx hA;clear hA hown hpt;go_wp2;go_ret2;first | exact ⟨⟨A,cp,rfl,HA.out⟩,hbr.out⟩ | exact ⟨⟨A,⟨cp,rfl⟩,HA.out⟩,hbr.out⟩
   ·obtain rfl:k=s.size:=by omega
    have hfk:=hpt.out.le (by rw [len];exact Db _)
    have HE:=Bx (λe=>hpt.out.end_empty' s.size (len s) e)
    have HH:=Bx (λe=>hpt.out.end_hit' s.size (len s) e);clear hpt;have t0:(s.size:Int)<=(s.size:Int):=by omega
    have m1:IntKind.i64.wrap ((s.size:Int)+1)=((s.size+1:Nat):Int):=by rw [wrap_in _ (by omega) (by omega)];omega
    have HB:=Bx (λw=>Oct.rblank_any (0:Int) w);rcases Dg f s.size with hfl | hfg
    ·have g1:¬(s.size:Int)=(f:Int):=by omega
     have g2:(f:Int)<(s.size:Int):=by omega
     have HD:=Bx (HH.out hfl);clear HH HE;cases bl
     ·go_wp2_with (first
       |(go_at_call 136;with_reducible refine Cm (HB.out _) ?_)
       |(at_builtin;refine wpList_append_own _ rfl _ _ 229 rfl w.heap.size 232 i0 (.agg #[.int .i64 0,.int .i64 0]) 2 16 Tryz.underlying229 G1.out G2.out G3.out G4.out rfl (by decide) _ _ _ rfl (hown.out.alloc _) ⟨wr.heap.size,0,none⟩ 1 1 [.int .i64 (f:Nat),.int .i64 (s.size:Nat)] rfl rfl ?ca4 ?cb4 ?cc4 ?cd4 ?ce4 ?_))
      case ca4=>exact news_two wr _ _ _
      case cb4=>intro u hu;rcases (by simpa using hu:u=ZZ ZS (f:Nat)∨u=ZZ ZS (s.size:Nat)) with rfl | rfl<;>rfl
      case cc4=>unfold maxLen;omega
      case cd4=>omega
      case ce4=>have:=hbr.out.size;simp;omega
      exact XX8hT
     ·go_wp2_with (first
       |(go_at_call 136;with_reducible refine Cm (HB.out _) ?_)
       |(at_builtin;refine wpList_append_own _ rfl _ _ 229 rfl w.heap.size 232 i0 (.agg #[.int .i64 0,.int .i64 0]) 2 16 Tryz.underlying229 G1.out G2.out G3.out G4.out rfl (by decide) _ _ _ rfl (hown.out.alloc _) ⟨wr.heap.size,0,none⟩ 1 1 [.int .i64 (f:Nat),.int .i64 (s.size:Nat)] rfl rfl ?ca5 ?cb5 ?cc5 ?cd5 ?ce5 ?_))
      case ca5=>exact news_two wr _ _ _
      case cb5=>intro u hu;rcases (by simpa using hu:u=ZZ ZS (f:Nat)∨u=ZZ ZS (s.size:Nat)) with rfl | rfl<;>rfl
      case cc5=>unfold maxLen;omega
      case cd5=>omega
      case ce5=>have:=hbr.out.size;simp;omega
      exact XX8hT
    ·obtain rfl:f=s.size:=by omega
     have HD:=HE.out rfl;clear HH HE;cases bl
     ·exact XXOmU
     ·replace HD:=Bx (show Done true s.data.toList (s.size+1) (s.size+1) done by simpa using HD)
      go_wp2_with (go_at_call 136;with_reducible refine Cm (HB.out _) ?_);go_roundw
      case rel=>exact ⟨s.size+1,s.size+1,done,by omega,by omega,by omega,by first | rfl | go_num,by go_num,HD,hown,hbr⟩
      case measure=>simp [intOf]
end
end Go.Proofs.YtdfabddnpgjepaaGreatDoor.Rq
namespace Go.Proofs.YtdfabddnpgjepaaGreatDoor.Rq
open Go.RowKit Base Txt
def rpv (bl:Bool) (l:List UInt8):Value:=
 match spans bl l with
 | none=>.tuple #[.string ⟨#[]⟩,.string ⟨#[]⟩,.string ⟨#[]⟩,.int .i64 0,.bool false]
 | some sp=>if sp.length<2 then .tuple #[.string ⟨#[]⟩,.string ⟨#[]⟩,.string ⟨#[]⟩,.int .i64 (sp.length:Nat),.bool false]
   else ZT #[ZY (ba (ext l (sp.getD 0 (0,0)))),ZY (ba (if 2<sp.length then ext l ((sp.getD 1 (0,0)).1,(sp.getD (sp.length-2) (0,0)).2) else [])),ZY (ba (ext l (sp.getD (sp.length-1) (0,0)))),ZZ ZS (sp.length:Nat),ZW true]
section
set_option maxHeartbeats 2000000
attribute [local go_sem] Am
theorem XXwzX {P:Prop} (h:P:=by
 clear hq hW hWs h0 h1 h2' h3;generalize W.heap.size=g at *;rcases Dg 2 n with h3n | h3n
 ·obtain ⟨r1,r2⟩:=h4 h3n;obtain ⟨U1,U2⟩:=hms h3n;have r1':=(hWF.cell (p:=⟨b,2,none⟩) hbl).trans r1;have r2':=(hWF.cell (p:=⟨b,(n-2)*2+1,none⟩) hbl).trans r2;obtain ⟨j,hj⟩:∃j,n-2=j:=⟨_,rfl⟩;rw [hj] at r2';have l1:(u1:Int)<=(u2:Int):=by omega
  have l2:(u2:Int)<=(s.size:Int):=by omega
  have l3:(2:Int)<(n:Int):=by omega
  have l4:IntKind.i64.wrap ((n:Int)-2)=(j:Int):=by rw [wrap_in _ (by omega) (by omega)];omega
  have l5:(j:Int)<(n:Int):=by omega
  have l6:j<n:=by omega
  have l7:1<n:=by omega
  have l8:(1:Int)<(n:Int):=by omega
  have hMM:=HM.out;rw [if_pos h3n,ext_ba] at hMM
  replace HM:=Bx hMM
  clear hMM;clear r1 r2 h4 hms hj;go_wp2_with fail
  go_quiet (fail);rename_i nq;go_wp2_with fail
  go_quiet (fail);rename_i nq2;go_wp2;exact bodyPost_ret (v:=ZT #[ZY (s.extract a1 a2),ZY (s.extract u1 u2),ZY (s.extract d1 d2),ZZ ZS (n:Nat),ZW true]) (by simp [results,Tryz.results207,go_sem]) rfl ⟨by rw [←HM.out],by first | exact Ak (Al hb hWF) _ | exact Ak (Ak (Al hb hWF) _) _⟩
 ·have l3:¬(2:Int)<(n:Int):=by omega
  have hMM:=HM.out;rw [if_neg (by omega)] at hMM
  replace HM:=Bx hMM
  clear hMM;clear h4 hms;go_wp2_with fail
  go_quiet (fail);rename_i nq2;go_wp2
  exact bodyPost_ret (v:=ZT #[ZY (s.extract a1 a2),ZY ⟨#[]⟩,ZY (s.extract d1 d2),ZZ ZS (n:Nat),ZW true]) (by simp [results,Tryz.results207,go_sem]) rfl ⟨by rw [←HM.out];rfl,Ak (Al hb hWF) _⟩):P:=h
set_option maxRecDepth 10000 in
theorem rparts_any (s:ByteArray) (bl:Bool) (w:World) (hs:s.size<=900000000):Calls EW 207 #[ZY s,ZW bl] w λe w'=>e=.returned (rpv bl s.data.toList)/\Below w.heap.size w w':=by
 have HP:=Bx (λw=>rpieces_any s bl w hs);unfold rpv;cases hsp:spans bl s.data.toList with
 | none=>
   rw [hsp] at HP;dsimp only at HP ⊢;clear hsp;go_enter Tryz.func207,Tryz.ntmps207
   go_wp2_with (go_at_call 228;with_reducible refine (HP.out _).mono ?_;rintro e w1 ⟨rfl,hb⟩);exact bodyPost_ret (v:=ZT #[ZY ⟨#[]⟩,ZY ⟨#[]⟩,ZY ⟨#[]⟩,ZZ ZS 0,ZW false]) (by simp [results,Tryz.results207,go_sem]) rfl ⟨rfl,hb⟩
 | some sp=>
   rw [hsp] at HP;dsimp only at HP ⊢;have hcov:=(spans_cov hsp).1;have hle:sp.length<=s.size+1:=by
    have:=pcs_le _ _ _ _ (show pcs (sepB bl) (!bl) s.data.toList 0 0=some sp from hsp)
    rwa [len] at this
   clear hsp;rcases Dg sp.length 2 with h2 | h2
   ·rw [if_pos h2];obtain ⟨n,hn⟩:∃n,sp.length=n:=⟨_,rfl⟩;rw [hn] at HP h2 ⊢;have c2:(n:Int)<2:=by omega
    clear hcov hn hle;go_enter Tryz.func207,Tryz.ntmps207
    go_wp2_with (go_at_call 228;with_reducible refine (HP.out _).mono ?_;rintro e w1 ⟨⟨a,c,rfl,hS⟩,hb⟩);exact bodyPost_ret (v:=ZT #[ZY ⟨#[]⟩,ZY ⟨#[]⟩,ZY ⟨#[]⟩,ZZ ZS (n:Nat),ZW false]) (by simp [results,Tryz.results207,go_sem]) rfl ⟨rfl,hb⟩
   ·rw [if_neg (by omega)];have A0:(sp[0]'(by omega)).1<(sp[0]'(by omega)).2/\(sp[0]'(by omega)).2<=s.size:=by
     have h:=hcov.at 0 (by omega);rw [←len];exact ⟨h.2.1,h.2.2.1⟩
    have A3:(sp[sp.length-1]'(by omega)).1<(sp[sp.length-1]'(by omega)).2/\(sp[sp.length-1]'(by omega)).2<=s.size:=by have h:=hcov.at (sp.length-1) (by omega);rw [←len];exact ⟨h.2.1,h.2.2.1⟩
    have HX:=Bx (λw a (hS:Spn w a sp.length sp)=>hS.2 (by omega));rw [getD_at sp 0 (by omega),getD_at sp (sp.length-1) (by omega)];have hmid:2<sp.length->((sp.getD 1 (0,0)).1<=(sp.getD (sp.length-2) (0,0)).2/\(sp.getD (sp.length-2) (0,0)).2<=s.size)/\∃(h1:1<sp.length) (h2:sp.length-2<sp.length),sp.getD 1 (0,0)=sp[1]/\sp.getD (sp.length-2) (0,0)=sp[sp.length-2]:=λh=>by
     refine ⟨?_,by omega,by omega,getD_at sp 1 (by omega),getD_at sp _ (by omega)⟩;rw [getD_at sp 1 (by omega),getD_at sp _ (by omega)]
     have B1:=hcov.at 1 (by omega)
     have B2:=hcov.at (sp.length-2) (by omega)
     have B3:=hcov.mono 1 (sp.length-3) (by omega);have e:∀hh,sp[1+(sp.length-3)]'hh=sp[sp.length-2]:=λ_=>by congr 1;omega
     rw [e] at B3;rw [←len];omega
    have HC:Hid (∀w a,Spn w a sp.length sp->∃b,a=some ⟨b,0,none⟩/\b<w.heap.size/\(w.cell? ⟨b,0,none⟩=some (ZZ ZS (sp[0].1:Nat))/\w.cell? ⟨b,1,none⟩=some (ZZ ZS (sp[0].2:Nat)))/\
     (w.cell? ⟨b,(sp.length-1)*2,none⟩=some (ZZ ZS (sp[sp.length-1].1:Nat))/\w.cell? ⟨b,(sp.length-1)*2+1,none⟩=some (ZZ ZS (sp[sp.length-1].2:Nat)))/\
     (2<sp.length->w.cell? ⟨b,2,none⟩=some (ZZ ZS ((sp.getD 1 (0,0)).1:Nat))/\w.cell? ⟨b,(sp.length-2)*2+1,none⟩=some (ZZ ZS ((sp.getD (sp.length-2) (0,0)).2:Nat)))):=Bx λw a hS=>by
     obtain ⟨b,e,hlt,hc⟩:=hS.2 (by omega);refine ⟨b,e,hlt,hc 0 (by omega),hc (sp.length-1) (by omega),λh=>?_⟩;obtain ⟨_,_,_,e1,e2⟩:=hmid h;rw [e1,e2];exact ⟨(hc 1 (by omega)).1,(hc (sp.length-2) (by omega)).2⟩
    have hms:2<sp.length->(sp.getD 1 (0,0)).1<=(sp.getD (sp.length-2) (0,0)).2/\(sp.getD (sp.length-2) (0,0)).2<=s.size:=λh=>(hmid h).1;clear HX hmid hcov;obtain ⟨x0,hx0⟩:∃x,sp[0]=x:=⟨_,rfl⟩;obtain ⟨x3,hx3⟩:∃x,sp[sp.length-1]=x:=⟨_,rfl⟩;obtain ⟨u1,hu1⟩:∃x,(sp.getD 1 (0,0)).1=x:=⟨_,rfl⟩;obtain ⟨u2,hu2⟩:∃x,(sp.getD (sp.length-2) (0,0)).2=x:=⟨_,rfl⟩;rw [hx0] at A0 HC ⊢;rw [hx3] at A3 HC ⊢;rw [hu1,hu2] at hms HC ⊢;clear hx0 hx3 hu1 hu2;obtain ⟨a1,a2⟩:=x0;obtain ⟨d1,d2⟩:=x3;obtain ⟨A1,A2⟩:=A0;obtain ⟨D1,D2⟩:=A3;dsimp only at A1 A2 D1 D2 HC;obtain ⟨n,hn⟩:∃n,sp.length=n:=⟨_,rfl⟩
    have HP':Hid (∀w,Calls EW 228 #[ZY s,ZW bl] w λe w'=>∃b c,e=.returned (ZT #[ZX (some ⟨b,0,none⟩) n c,ZW true])/\b<w'.heap.size/\(w'.cell? ⟨b,0,none⟩=some (ZZ ZS (a1:Nat))/\w'.cell? ⟨b,1,none⟩=some (ZZ ZS (a2:Nat)))/\
     (w'.cell? ⟨b,(n-1)*2,none⟩=some (ZZ ZS (d1:Nat))/\w'.cell? ⟨b,(n-1)*2+1,none⟩=some (ZZ ZS (d2:Nat)))/\
     (2<n->w'.cell? ⟨b,2,none⟩=some (ZZ ZS (u1:Nat))/\w'.cell? ⟨b,(n-2)*2+1,none⟩=some (ZZ ZS (u2:Nat)))/\Below w.heap.size w w'):=Bx λw=>(HP.out w).mono (by
     rintro e w' ⟨⟨a,c,rfl,hS⟩,hb⟩;obtain ⟨b,rfl,hlt,h0,h1,h2⟩:=HC.out w' a hS;rw [hn] at h1 h2 ⊢;exact ⟨b,c,rfl,hlt,h0,h1,h2,hb⟩)
    rw [hn] at h2 hms hle ⊢;clear HC HP hn;have hn2:¬(n:Int)<2:=by omega
    obtain ⟨k,hk⟩:∃k,n=k+1:=⟨n-1,by omega⟩;have e1:n-1=k:=by omega
    rw [e1] at HP';have i1:IntKind.i64.wrap ((n:Int)-1)=(k:Int):=by rw [wrap_in _ (by omega) (by omega)];omega
    have i2:(k:Int)<(n:Int):=by omega
    have i3:k<n:=by omega
    have i4:0<n:=by omega
    have HKN:=Bx hk;clear hk e1;obtain ⟨M,hM⟩:∃M,ba (if 2<n then ext s.data.toList (u1,u2) else [])=M:=⟨_,rfl⟩;rw [ext_ba,ext_ba,hM];have HM:=Bx hM;clear hM;have j1:(a1:Int)<=(a2:Int):=by omega
    have j2:(a2:Int)<=(s.size:Int):=by omega
    have j3:(d1:Int)<=(d2:Int):=by omega
    have j4:(d2:Int)<=(s.size:Int):=by omega
    have J1:a1<=a2:=by omega
    have J3:d1<=d2:=by omega
    go_enter Tryz.func207,Tryz.ntmps207
    go_wp2_with (go_at_call 228;with_reducible refine (HP'.out _).mono ?_;rintro e w1 ⟨b,c,rfl,hbl,⟨h0,h1⟩,⟨h2',h3⟩,h4,hb⟩);clear HP';refine Tree.region (.quiet 0 (.quiet 1 (.quiet 2 (.quiet 3 (.quiet 4 (.quiet 5 (.quiet 6 (.quiet 7 (.two 8 (.act 9 (.act 10 (.act 11 .done))) 9 (.act 8 (.act 10 (.act 11 .done)))))))))))) (λw'=>Below w1.heap.size w1 w') (by kernel_rfl) (by kernel_rfl) (λ_ _ d _ _ h=>by cases d<;>exact h) (Ak (An _ _) 1) ?_;simp only [Ee,Ef,BZ,BY];have hq:∀w',Below w1.heap.size w1 w'->w'.cell? ⟨b,0,none⟩=some (ZZ ZS (a1:Nat))/\w'.cell? ⟨b,1,none⟩=some (ZZ ZS (a2:Nat))/\w'.cell? ⟨b,k*2,none⟩=some (ZZ ZS (d1:Nat))/\w'.cell? ⟨b,k*2+1,none⟩=some (ZZ ZS (d2:Nat)):=λw' hS=>⟨(hS.cell (p:=⟨b,0,none⟩) hbl).trans h0,(hS.cell (p:=⟨b,1,none⟩) hbl).trans h1,(hS.cell (p:=⟨b,k*2,none⟩) hbl).trans h2',(hS.cell (p:=⟨b,k*2+1,none⟩) hbl).trans h3⟩
    iterate 8
     refine Eg (by rfl) ?_ ?_ ?_
     rotate_left 1
     ·intro w' hS;obtain ⟨q0,q1,q2,q3⟩:=hq w' hS;go_simp;with_reducible rfl
     simp only [Ab,CH,CK,CJ]
    have hW:Below w1.heap.size w1 (World.drewN w1 1):=Ak (An _ _) 1;generalize World.drewN w1 1=W at *;have hWs:=hW.size;refine Tree.both ?_ ?_
    ·iterate 4
      refine Ec (by rfl) (λK hK=>?_);go_simp;refine hK _ _ ?_ ?_
      ·first
        | exact hW.alloc hW.size _
        | exact (hW.alloc hW.size _).alloc (by simp;omega) _
        | exact (((hW.alloc hW.size _).alloc (by simp;omega) _).setCell (by first | exact hWs | omega) _).setCell (by first | exact hWs | omega) _
        | exact (((((hW.alloc hW.size _).alloc (by simp;omega) _).setCell (by first | exact hWs | omega) _).setCell (by first | exact hWs | omega) _).setCell (by first | exact hWs | omega) _).setCell (by first | exact hWs | omega) _
        | trace_state
      clear hK K
     refine Ed ?_;have hWF:Below w1.heap.size w1 ((W.alloc (.cells #[ZZ ZS (a1:Nat),ZZ ZS (a2:Nat)] 232)).alloc (.cells #[ZZ ZS (d1:Nat),ZZ ZS (d2:Nat)] 232)):=(hW.alloc hW.size _).alloc (by simp;omega) _;have p0:((W.alloc (.cells #[ZZ ZS (a1:Nat),ZZ ZS (a2:Nat)] 232)).alloc (.cells #[ZZ ZS (d1:Nat),ZZ ZS (d2:Nat)] 232)).cell? ⟨W.heap.size,0,none⟩=some (ZZ ZS (a1:Nat)):=by go_simp
     have p1:((W.alloc (.cells #[ZZ ZS (a1:Nat),ZZ ZS (a2:Nat)] 232)).alloc (.cells #[ZZ ZS (d1:Nat),ZZ ZS (d2:Nat)] 232)).cell? ⟨W.heap.size,1,none⟩=some (ZZ ZS (a2:Nat)):=by go_simp
     have p2:((W.alloc (.cells #[ZZ ZS (a1:Nat),ZZ ZS (a2:Nat)] 232)).alloc (.cells #[ZZ ZS (d1:Nat),ZZ ZS (d2:Nat)] 232)).cell? ⟨W.heap.size+1,0,none⟩=some (ZZ ZS (d1:Nat)):=by go_simp
     have p3:((W.alloc (.cells #[ZZ ZS (a1:Nat),ZZ ZS (a2:Nat)] 232)).alloc (.cells #[ZZ ZS (d1:Nat),ZZ ZS (d2:Nat)] 232)).cell? ⟨W.heap.size+1,1,none⟩=some (ZZ ZS (d2:Nat)):=by go_simp
     generalize (W.alloc (.cells #[ZZ ZS (a1:Nat),ZZ ZS (a2:Nat)] 232)).alloc (.cells #[ZZ ZS (d1:Nat),ZZ ZS (d2:Nat)] 232)=WF at *;exact XXwzX
    ·iterate 4
      refine Ec (by rfl) (λK hK=>?_);go_simp;refine hK _ _ ?_ ?_
      ·first
        | exact hW.alloc hW.size _
        | exact (hW.alloc hW.size _).alloc (by simp;omega) _
        | exact (((hW.alloc hW.size _).alloc (by simp;omega) _).setCell (by first | exact hWs | omega) _).setCell (by first | exact hWs | omega) _
        | exact (((((hW.alloc hW.size _).alloc (by simp;omega) _).setCell (by first | exact hWs | omega) _).setCell (by first | exact hWs | omega) _).setCell (by first | exact hWs | omega) _).setCell (by first | exact hWs | omega) _
        | trace_state
      clear hK K
     refine Ed ?_;have hWF:Below w1.heap.size w1 ((W.alloc (.cells #[ZZ ZS (d1:Nat),ZZ ZS (d2:Nat)] 232)).alloc (.cells #[ZZ ZS (a1:Nat),ZZ ZS (a2:Nat)] 232)):=(hW.alloc hW.size _).alloc (by simp;omega) _;have p0:((W.alloc (.cells #[ZZ ZS (d1:Nat),ZZ ZS (d2:Nat)] 232)).alloc (.cells #[ZZ ZS (a1:Nat),ZZ ZS (a2:Nat)] 232)).cell? ⟨W.heap.size,0,none⟩=some (ZZ ZS (d1:Nat)):=by go_simp
     have p1:((W.alloc (.cells #[ZZ ZS (d1:Nat),ZZ ZS (d2:Nat)] 232)).alloc (.cells #[ZZ ZS (a1:Nat),ZZ ZS (a2:Nat)] 232)).cell? ⟨W.heap.size,1,none⟩=some (ZZ ZS (d2:Nat)):=by go_simp
     have p2:((W.alloc (.cells #[ZZ ZS (d1:Nat),ZZ ZS (d2:Nat)] 232)).alloc (.cells #[ZZ ZS (a1:Nat),ZZ ZS (a2:Nat)] 232)).cell? ⟨W.heap.size+1,0,none⟩=some (ZZ ZS (a1:Nat)):=by go_simp
     have p3:((W.alloc (.cells #[ZZ ZS (d1:Nat),ZZ ZS (d2:Nat)] 232)).alloc (.cells #[ZZ ZS (a1:Nat),ZZ ZS (a2:Nat)] 232)).cell? ⟨W.heap.size+1,1,none⟩=some (ZZ ZS (a2:Nat)):=by go_simp
     generalize (W.alloc (.cells #[ZZ ZS (d1:Nat),ZZ ZS (d2:Nat)] 232)).alloc (.cells #[ZZ ZS (a1:Nat),ZZ ZS (a2:Nat)] 232)=WF at *;exact XXwzX
end
end Go.Proofs.YtdfabddnpgjepaaGreatDoor.Rq
namespace Go.Proofs.YtdfabddnpgjepaaGreatDoor.Rq
open Go.RowKit Base Txt
theorem rpv_cases (c:Cl) (l:List UInt8) :
 (pick c l=none/\∃(M T V:ByteArray) (n:Nat) (ok:Bool),n<=l.length+1/\rpv c.bl l=ZT #[ZY M,ZY T,ZY V,ZZ ZS (n:Nat),ZW ok]/\(ok=false∨(ok=true/\n=2/\c.nv=false)∨(ok=true/\3<n/\c.sp=false)))∨
 (∃m t,pick c l=some (m,t,[])/\c.nv=true/\rpv c.bl l=ZT #[ZY (ba m),ZY ⟨#[]⟩,ZY (ba t),ZZ ZS 2,ZW true])∨
 (∃m t v n,pick c l=some (m,t,v)/\v≠ []/\n<=l.length+1/\(n=3∨(3<n/\c.sp=true))/\rpv c.bl l=ZT #[ZY (ba m),ZY (ba t),ZY (ba v),ZZ ZS (n:Nat),ZW true]):=by
 unfold pick rpv;cases hs:spans c.bl l with
 | none=>exact .inl ⟨rfl,_,_,_,0,false,by omega,rfl,.inl rfl⟩
 | some sp=>
   have hle:sp.length<=l.length+1:=pcs_le _ _ _ _ hs;dsimp only;rcases Dg sp.length 2 with h2 | h2
   ·rw [if_pos h2,if_neg (by simp;omega),if_neg (by simp;omega)];exact .inl ⟨rfl,_,_,_,_,false,hle,rfl,.inl rfl⟩
   ·rw [if_neg (by omega:¬sp.length<2)];by_cases h3:(sp.length==3|| (decide (3<sp.length)&&c.sp))=true
    ·rw [if_pos h3];have hn:sp.length=3∨(3<sp.length/\c.sp=true):=by simpa using h3
     rw [if_pos (by omega:2<sp.length)]
     refine .inr (.inr ⟨_,_,_,sp.length,rfl,?_,hle,hn,rfl⟩);intro e
     have:=spans_pos hs (sp.length-1) (by omega);rw [getD_at sp _ (by omega)] at e;rw [e] at this;simp at this
    ·rw [if_neg h3];by_cases hv:(sp.length==2&&c.nv)=true
     ·rw [if_pos hv];simp only [Ao,beq_iff_eq] at hv;obtain ⟨e2,hnv⟩:=hv;rw [e2,if_neg (by decide)]
      exact .inr (.inl ⟨_,_,rfl,hnv,rfl⟩)
     ·rw [if_neg hv];refine .inl ⟨rfl,_,_,_,sp.length,true,hle,rfl,.inr ?_⟩;simp only [Az,beq_iff_eq,Ao,decide_eq_true_eq,not_or,not_and,Bool.not_eq_true] at h3 hv;rcases (by omega:sp.length=2∨3<sp.length) with h | h
      ·exact .inl ⟨rfl,h,hv h⟩
      ·exact .inr ⟨rfl,h,h3.2 h⟩
section
set_option maxHeartbeats 16000000
attribute [local go_sem] Am
theorem XXRjR {P:Prop} (h:P:=by exact bodyPost_ret (v:=ZT #[ZY ⟨#[]⟩,ZY ⟨#[]⟩,ZZ ZS 0,ZZ ZS 400]) (by simp [results,Tryz.results187,go_sem]) rfl ⟨rfl,Al HW.out hb⟩):P:=h
set_option maxRecDepth 10000 in
theorem rrequest_parts (s:ByteArray) (p:Nat) (hp:p<4294967296) (x0 x1 x2 x3 x4 x5 x6 x7:Int) (ch old:Bool) (w:World) (hs:s.size<=900000000) (M T V:ByteArray) (n:Nat) (ok:Bool) (hle:n<=s.size+1) (hpv:rpv (D0 p 3) s.data.toList=ZT #[ZY M,ZY T,ZY V,ZZ ZS (n:Nat),ZW ok])
 (hc:ok=false∨(ok=true/\n=2/\D0 p 6=false)∨(ok=true/\3<n/\D0 p 7=false)) (R:List UInt8 × List UInt8 × Nat × Nat) (hR:R=badR) :
 Calls EW 187 #[ZY s,ZZ ZQ (p:Nat),Bnd.bnd x0 x1 x2 x3 x4 x5 x6 x7 ch old] w λe w'=>e=.returned (rv R)/\Below w.heap.size w w':=by
 have HA0:=Bx (Bnd.At.new w 29 x0 x1 x2 x3 x4 x5 x6 x7 ch old)
 have HG0:=Bx (show w.heap.size<(w.alloc (.cells #[ZZ ZS x0,ZZ ZS x1,ZZ ZS x2,ZZ ZS x3,ZZ ZS x4,ZZ ZS x5,ZZ ZS x6,ZZ ZS x7,ZW ch,ZW old] 29)).heap.size by simp)
 have HW:=Bx (show Below w.heap.size w (w.alloc (.cells #[ZZ ZS x0,ZZ ZS x1,ZZ ZS x2,ZZ ZS x3,ZZ ZS x4,ZZ ZS x5,ZZ ZS x6,ZZ ZS x7,ZW ch,ZW old] 29)) from (An _ _).alloc (Db _) _)
 have H3:=Bx (λw=>D4 p hp 3 w)
 have H6:=Bx (λw=>D4 p hp 6 w)
 have H7:=Bx (λw=>D4 p hp 7 w)
 have HP:=Bx (λw=>rparts_any s (D0 p 3) w hs);rw [hpv] at HP;subst hR;clear hpv;generalize D0 p 3=b3 at *;generalize D0 p 6=b6 at *;generalize D0 p 7=b7 at *;rcases hc with rfl | ⟨rfl,rfl,rfl⟩ | ⟨rfl,h3,rfl⟩
 ·go_enter Tryz.func187,Tryz.ntmps187
  go_wp2_with (first
   |(go_at_call 207;with_reducible refine (HP.out _).mono ?_;rintro e w1 ⟨rfl,hb⟩)
   |(go_at_call 44;with_reducible refine Cm (H3.out _) ?_))
  exact XXRjR
 ·go_enter Tryz.func187,Tryz.ntmps187
  go_wp2_with (first
   |(go_at_call 207;with_reducible refine (HP.out _).mono ?_;rintro e w1 ⟨rfl,hb⟩)
   |(go_at_call 44;with_reducible refine Cm (H3.out _) ?_)
   |(go_at_call 44;with_reducible refine Cm (H6.out _) ?_))
  exact XXRjR
 ·have c1:¬(n:Int)<2:=by omega
  have c2:¬(n:Int)=2:=by omega
  have c3:(3:Int)<(n:Int):=by omega
  go_enter Tryz.func187,Tryz.ntmps187
  go_wp2_with (first
   |(go_at_call 207;with_reducible refine (HP.out _).mono ?_;rintro e w1 ⟨rfl,hb⟩)
   |(go_at_call 44;with_reducible refine Cm (H3.out _) ?_)
   |(go_at_call 44;with_reducible refine Cm (H7.out _) ?_))
  exact XXRjR
theorem XXs1e {P:Prop} (h:P:=by
 go_enter Tryz.func187,Tryz.ntmps187
 go_wp2_with (first
  |(go_at_call 207;with_reducible refine (HP.out _).mono ?_;rintro e w1 ⟨rfl,hb⟩
    have q9:=(HA0.out.below HG0.out hb).q9)
  |(go_at_call 44;with_reducible refine Cm (H3.out _) ?_)
  |(go_at_call 44;with_reducible refine Cm (H6.out _) ?_)
  |(go_at_call 44;with_reducible refine Cm (H7.out _) ?_)
  |(go_at_call 44;with_reducible refine Cm (H8.out _) ?_)
  |(go_at_call 137;with_reducible refine (HA.out _ _ (Ints.one _ _ rfl _ _)).mono ?_;rintro e w2 ⟨rfl,hb2⟩
    replace hb:=Al (hb.alloc hb.size (.cells #[ZZ ZS 1] 3)) hb2
    clear hb2 q9;have q9:=(HA0.out.below HG0.out hb).q9)
  |(go_at_call 208;with_reducible refine Cm (HT.out _) ?_)
  |(go_at_call 209;with_reducible refine (HG.out _).mono ?_;rintro e w3 ⟨rfl,hb3⟩
    replace hb:=(Al hb hb3).alloc (Al hb hb3).size (.cells #[ZZ ZS f,ZY h1,ZY p1,ZY q1,ZW ta] 209)
    clear hb3 q9;have q9:=(HA0.out.below HG0.out hb).q9)
  |(go_at_call 210;with_reducible refine (HV.out _).mono ?_;rintro e w4 ⟨rfl,hb4⟩
    replace hb:=Al hb hb4
    clear hb4 q9;have q9:=(HA0.out.below HG0.out hb).q9))
 first
  |exact bodyPost_ret (v:=.tuple #[.string ⟨#[]⟩,.string ⟨#[]⟩,.int .i64 0,.int .i64 400]) (by (simp [results,Tryz.results187,go_sem]);first|done|fail) rfl ⟨rfl,Al HW.out hb⟩
  |exact bodyPost_ret (v:=.tuple #[.string ⟨#[]⟩,.string ⟨#[]⟩,.int .i64 0,.int .i64 505]) (by (simp [results,Tryz.results187,go_sem]);first|done|fail) rfl ⟨rfl,Al HW.out hb⟩
  |exact bodyPost_ret (v:=.tuple #[.string (ba m),.string (ba t),.int .i64 0,.int .i64 0]) (by (simp [results,Tryz.results187,go_sem]);first|done|fail) rfl ⟨rfl,Al HW.out hb⟩
  |exact bodyPost_ret (v:=.tuple #[.string (ba m),.string (ba t),.int .i64 1,.int .i64 0]) (by (simp [results,Tryz.results187,go_sem]);first|done|fail) rfl ⟨rfl,Al HW.out hb⟩):P:=h
set_option maxRecDepth 10000 in
theorem rrequest_two (s:ByteArray) (p:Nat) (hp:p<4294967296) (x0 x1 x2 x3 x4 x5 x6 x7:Int) (ch old:Bool) (w:World) (hs:s.size<=900000000) (m t:List UInt8) (hm0:0<m.length) (hms:m.length<=s.size) (ht0:0<t.length) (hts:t.length<=s.size) (h6:D0 p 6=true)
 (hpv:rpv (D0 p 3) s.data.toList=ZT #[ZY (ba m),ZY ⟨#[]⟩,ZY (ba t),ZZ ZS 2,ZW true])
 (R:List UInt8 × List UInt8 × Nat × Nat) (hR:(if (methOk m&&tgtOk (clOf p) m t)=true then (match verL (clOf p) [] with | none=>verR | some k=>if (k==0 && !old)=true then verR else (m,t,k,0)) else badR)=R) :
 Calls EW 187 #[ZY s,ZZ ZQ (p:Nat),Bnd.bnd x0 x1 x2 x3 x4 x5 x6 x7 ch old] w λe w'=>e=.returned (rv R)/\Below w.heap.size w w':=by
 have HA0:=Bx (Bnd.At.new w 29 x0 x1 x2 x3 x4 x5 x6 x7 ch old)
 have HG0:=Bx (show w.heap.size<(w.alloc (.cells #[ZZ ZS x0,ZZ ZS x1,ZZ ZS x2,ZZ ZS x3,ZZ ZS x4,ZZ ZS x5,ZZ ZS x6,ZZ ZS x7,ZW ch,ZW old] 29)).heap.size by simp)
 have HW:=Bx (show Below w.heap.size w (w.alloc (.cells #[ZZ ZS x0,ZZ ZS x1,ZZ ZS x2,ZZ ZS x3,ZZ ZS x4,ZZ ZS x5,ZZ ZS x6,ZZ ZS x7,ZW ch,ZW old] 29)) from (An _ _).alloc (Db _) _)
 have H3:=Bx (λw=>D4 p hp 3 w)
 have H6:=Bx (λw=>D4 p hp 6 w)
 have H7:=Bx (λw=>D4 p hp 7 w)
 have HP:=Bx (λw=>rparts_any s (D0 p 3) w hs)
 have H8:=Bx (λw=>D4 p hp 8 w);rw [hpv] at HP;clear hpv
 have HT:=Bx (λw=>rbytes_any (ba t) p hp w (by rw [ba_size];omega) (by rw [ba_size];omega))
 have HA:Hid (∀w a,Ints w a 1 [1]->Calls EW 137 #[ZY (ba m),.slice a 1 1] w λe w'=>e=.returned (ZW (Dl [1] m))/\Below w.heap.size w w'):=Bx λw a hk=>(Oct.rall_any (ba m) a 1 1 [1] w (by rw [ba_size];unfold maxLen;omega) hk (by decide)).mono (by rintro e w' ⟨rfl,q,rfl⟩;exact ⟨rfl,Ak (An _ _) q⟩)
 have HG:=Bx (λw=>Tgt.rtarget_any (ba m) (ba t) w (by rw [ba_size];omega));have b1:(ba m).data.toList=m:=rfl;have b2:(ba t).data.toList=t:=rfl;rw [b1,b2] at HG;rw [b2] at HT;have hsm:(ba m).size=m.length:=ba_size m;clear b1 b2;have htk:tgtOk (clOf p) m t=(tgtB (clOf p) t&&(D0 p 7||D0 p 8|| (Ea m t).isSome)):=rfl;have hmk:methOk m=(decide (m.length<=32)&&Dl [1] m):=rfl;rw [htk,hmk] at hR;clear htk hmk;generalize Dl [1] m=al at *;generalize tgtB (clOf p) t=tb at *;have hv2:verL (clOf p) []=some 0:=by unfold verL;rw [if_pos rfl]
 rw [hv2] at hR;dsimp only at hR;clear hv2;have hans:∃(f:Int) (h1 p1 q1:ByteArray) (a:Bool) (en:Int),Tgt.ans (Ea m t)=ZT #[Tgt.tv f h1 p1 q1 a,ZZ ZS en]/\(en=0/\(Ea m t).isSome=true∨en=400/\(Ea m t).isSome=false):=by
  cases Ea m t with
  | none=>exact ⟨0,Tgt.E0,Tgt.E0,Tgt.E0,false,400,rfl,.inr ⟨rfl,rfl⟩⟩
  | some g=>exact ⟨_,_,_,_,_,0,rfl,.inl ⟨rfl,rfl⟩⟩
 obtain ⟨f,h1,p1,q1,ta,en,hE,hen⟩:=hans;rw [hE] at HG;clear hE;generalize (Ea m t).isSome=okp at *;have c0:¬((ba m).size:Int)<1:=by omega
 rw [h6] at H6;clear h6;generalize D0 p 7=b7 at *;generalize D0 p 8=b8 at *;generalize D0 p 3=b3 at *;rcases Dg 32 m.length with hl | hl
 ·have c1:(32:Int)<((ba m).size:Int):=by omega
  rw [decide_eq_false (by omega),Av,Av,if_neg (by decide)] at hR;subst hR;clear HG HT HA hen;exact XXs1e
 have c1:¬(32:Int)<((ba m).size:Int):=by omega
 rw [decide_eq_true hl,A5] at hR;clear hl hsm;cases al with
 | false=>
   rw [Av,if_neg (by decide)] at hR;subst hR;clear HG HT hen;exact XXs1e
 | true=>
 rw [A5] at hR;cases tb with
 | false=>
   rw [Av,if_neg (by decide)] at hR;subst hR;clear HG hen;exact XXs1e
 | true=>
 rw [A5] at hR;cases b7 with
 | true=>
   rw [Bool.true_or,Bool.true_or,if_pos rfl] at hR;clear HG hen;cases old with
   | false=>
     rw [if_pos (by decide)] at hR;subst hR;exact XXs1e
   | true=>
     rw [if_neg (by decide)] at hR;subst hR;exact XXs1e
 | false=>
 cases b8 with
 | true=>
   rw [Bool.or_true,Bool.true_or,if_pos rfl] at hR;clear HG hen;cases old with
   | false=>
     rw [if_pos (by decide)] at hR;subst hR;exact XXs1e
   | true=>
     rw [if_neg (by decide)] at hR;subst hR;exact XXs1e
 | false=>
 rw [Bool.or_false,Bool.false_or] at hR;rcases hen with ⟨rfl,rfl⟩ | ⟨rfl,rfl⟩
 ·rw [if_pos rfl] at hR;cases old with
  | false=>
    rw [if_pos (by decide)] at hR;subst hR;exact XXs1e
  | true=>
    rw [if_neg (by decide)] at hR;subst hR;exact XXs1e
 ·rw [if_neg (by decide)] at hR;subst hR;exact XXs1e
theorem XXdTD {P:Prop} (h:P:=by
 rw [hvl] at hR HV0;dsimp only at hR;subst hR;clear hvl
 have HV:Hid (∀w,Calls EW 210 #[ZY (ba v),ZZ ZQ (p:Nat)] w λe w'=>(∃k:Nat,e=.returned (ZT #[ZZ ZS (k:Int),ZW false]))/\Below w.heap.size w w'):=Bx λw=>(HV0.out w).mono (by rintro e w' ⟨⟨k,rfl,_⟩,hb⟩;exact ⟨⟨k,rfl⟩,hb⟩);clear HV0;go_enter Tryz.func187,Tryz.ntmps187
 go_wp2_with (first
  |(go_at_call 207;with_reducible refine (HP.out _).mono ?_;rintro e w1 ⟨rfl,hb⟩
    have q9:=(HA0.out.below HG0.out hb).q9)
  |(go_at_call 44;with_reducible refine Cm (H3.out _) ?_)
  |(go_at_call 44;with_reducible refine Cm (H6.out _) ?_)
  |(go_at_call 44;with_reducible refine Cm (H7.out _) ?_)
  |(go_at_call 44;with_reducible refine Cm (H8.out _) ?_)
  |(go_at_call 137;with_reducible refine (HA.out _ _ (Ints.one _ _ rfl _ _)).mono ?_;rintro e w2 ⟨rfl,hb2⟩
    replace hb:=Al (hb.alloc hb.size (.cells #[ZZ ZS 1] 3)) hb2
    clear hb2 q9;have q9:=(HA0.out.below HG0.out hb).q9)
  |(go_at_call 208;with_reducible refine Cm (HT.out _) ?_)
  |(go_at_call 209;with_reducible refine (HG.out _).mono ?_;rintro e w3 ⟨rfl,hb3⟩
    replace hb:=(Al hb hb3).alloc (Al hb hb3).size (.cells #[ZZ ZS f,ZY h1,ZY p1,ZY q1,ZW ta] 209)
    clear hb3 q9;have q9:=(HA0.out.below HG0.out hb).q9)
  |(go_at_call 210;with_reducible refine (HV.out _).mono ?_;rintro e w4 ⟨⟨kk,rfl⟩,hb4⟩
    replace hb:=Al hb hb4
    clear hb4 q9;have q9:=(HA0.out.below HG0.out hb).q9))
 exact bodyPost_ret (v:=ZT #[ZY ⟨#[]⟩,ZY ⟨#[]⟩,ZZ ZS 0,ZZ ZS 505]) (by simp [results,Tryz.results187,go_sem]) rfl ⟨rfl,Al HW.out hb⟩):P:=h
set_option maxRecDepth 10000 in
theorem rrequest_three (s:ByteArray) (p:Nat) (hp:p<4294967296) (x0 x1 x2 x3 x4 x5 x6 x7:Int) (ch old:Bool) (w:World) (hs:s.size<=900000000) (m t:List UInt8) (v:List UInt8) (hm0:0<m.length) (hms:m.length<=s.size) (ht0:0<t.length) (hts:t.length<=s.size) (hv0:0<v.length)
 (hpv:rpv (D0 p 3) s.data.toList=ZT #[ZY (ba m),ZY (ba t),ZY (ba v),ZZ ZS 3,ZW true])
 (R:List UInt8 × List UInt8 × Nat × Nat) (hR:(if (methOk m&&tgtOk (clOf p) m t)=true then (match verL (clOf p) v with | none=>verR | some k=>if (k==0 && !old)=true then verR else (m,t,k,0)) else badR)=R) :
 Calls EW 187 #[ZY s,ZZ ZQ (p:Nat),Bnd.bnd x0 x1 x2 x3 x4 x5 x6 x7 ch old] w λe w'=>e=.returned (rv R)/\Below w.heap.size w w':=by
 have HA0:=Bx (Bnd.At.new w 29 x0 x1 x2 x3 x4 x5 x6 x7 ch old)
 have HG0:=Bx (show w.heap.size<(w.alloc (.cells #[ZZ ZS x0,ZZ ZS x1,ZZ ZS x2,ZZ ZS x3,ZZ ZS x4,ZZ ZS x5,ZZ ZS x6,ZZ ZS x7,ZW ch,ZW old] 29)).heap.size by simp)
 have HW:=Bx (show Below w.heap.size w (w.alloc (.cells #[ZZ ZS x0,ZZ ZS x1,ZZ ZS x2,ZZ ZS x3,ZZ ZS x4,ZZ ZS x5,ZZ ZS x6,ZZ ZS x7,ZW ch,ZW old] 29)) from (An _ _).alloc (Db _) _)
 have H3:=Bx (λw=>D4 p hp 3 w)
 have H6:=Bx (λw=>D4 p hp 6 w)
 have H7:=Bx (λw=>D4 p hp 7 w)
 have HP:=Bx (λw=>rparts_any s (D0 p 3) w hs)
 have H8:=Bx (λw=>D4 p hp 8 w);rw [hpv] at HP;clear hpv
 have HT:=Bx (λw=>rbytes_any (ba t) p hp w (by rw [ba_size];omega) (by rw [ba_size];omega))
 have HA:Hid (∀w a,Ints w a 1 [1]->Calls EW 137 #[ZY (ba m),.slice a 1 1] w λe w'=>e=.returned (ZW (Dl [1] m))/\Below w.heap.size w w'):=Bx λw a hk=>(Oct.rall_any (ba m) a 1 1 [1] w (by rw [ba_size];unfold maxLen;omega) hk (by decide)).mono (by rintro e w' ⟨rfl,q,rfl⟩;exact ⟨rfl,Ak (An _ _) q⟩)
 have HG:=Bx (λw=>Tgt.rtarget_any (ba m) (ba t) w (by rw [ba_size];omega));have b1:(ba m).data.toList=m:=rfl;have b2:(ba t).data.toList=t:=rfl;rw [b1,b2] at HG;rw [b2] at HT;have hsm:(ba m).size=m.length:=ba_size m;clear b1 b2;have htk:tgtOk (clOf p) m t=(tgtB (clOf p) t&&(D0 p 7||D0 p 8|| (Ea m t).isSome)):=rfl;have hmk:methOk m=(decide (m.length<=32)&&Dl [1] m):=rfl;rw [htk,hmk] at hR;clear htk hmk
 have HV0:=Bx (λw=>rversion_any (ba v) p hp w (by rw [ba_size];exact hv0));have b3:(ba v).data.toList=v:=rfl;rw [b3] at HV0;clear b3;generalize Dl [1] m=al at *;generalize tgtB (clOf p) t=tb at *;have hans:∃(f:Int) (h1 p1 q1:ByteArray) (a:Bool) (en:Int),Tgt.ans (Ea m t)=ZT #[Tgt.tv f h1 p1 q1 a,ZZ ZS en]/\(en=0/\(Ea m t).isSome=true∨en=400/\(Ea m t).isSome=false):=by
  cases Ea m t with
  | none=>exact ⟨0,Tgt.E0,Tgt.E0,Tgt.E0,false,400,rfl,.inr ⟨rfl,rfl⟩⟩
  | some g=>exact ⟨_,_,_,_,_,0,rfl,.inl ⟨rfl,rfl⟩⟩
 obtain ⟨f,h1,p1,q1,ta,en,hE,hen⟩:=hans;rw [hE] at HG;clear hE;generalize (Ea m t).isSome=okp at *;have c0:¬((ba m).size:Int)<1:=by omega
 generalize D0 p 7=b7 at *;generalize D0 p 8=b8 at *;generalize D0 p 6=b6 at *;generalize D0 p 3=b3 at *;rcases Dg 32 m.length with hl | hl
 ·have c1:(32:Int)<((ba m).size:Int):=by omega
  rw [decide_eq_false (by omega),Av,Av,if_neg (by decide)] at hR;subst hR;clear HG HT HA hen;exact XXs1e
 have c1:¬(32:Int)<((ba m).size:Int):=by omega
 rw [decide_eq_true hl,A5] at hR;clear hl hsm;cases al with
 | false=>
   rw [Av,if_neg (by decide)] at hR;subst hR;clear HG HT hen;exact XXs1e
 | true=>
 rw [A5] at hR;cases tb with
 | false=>
   rw [Av,if_neg (by decide)] at hR;subst hR;clear HG hen;exact XXs1e
 | true=>
 rw [A5] at hR;cases b7 with
 | true=>
   rw [Bool.true_or,Bool.true_or,if_pos rfl] at hR;clear HG hen;cases hvl:verL (clOf p) v with
   | none=>
     exact XXdTD
   | some k=>
     have h01:=verL_01 hvl;rw [hvl] at hR HV0;dsimp only at hR;clear hvl
     have HV:Hid (∀w,Calls EW 210 #[ZY (ba v),ZZ ZQ (p:Nat)] w λe w'=>e=.returned (ZT #[ZZ ZS (k:Int),ZW true])/\Below w.heap.size w w'):=Bx λw=>(HV0.out w).mono (by rintro e w' ⟨⟨j,rfl,hj⟩,hb⟩;rw [hj k rfl];exact ⟨rfl,hb⟩);clear HV0;rcases h01 with rfl | rfl
     ·cases old with
      | false=>
        rw [if_pos (by decide)] at hR;subst hR;exact XXs1e
      | true=>
        rw [if_neg (by decide)] at hR;subst hR;exact XXs1e
     ·rw [if_neg (by simp)] at hR;subst hR;exact XXs1e
 | false=>
 cases b8 with
 | true=>
   rw [Bool.or_true,Bool.true_or,if_pos rfl] at hR;clear HG hen;cases hvl:verL (clOf p) v with
   | none=>
     exact XXdTD
   | some k=>
     have h01:=verL_01 hvl;rw [hvl] at hR HV0;dsimp only at hR;clear hvl
     have HV:Hid (∀w,Calls EW 210 #[ZY (ba v),ZZ ZQ (p:Nat)] w λe w'=>e=.returned (ZT #[ZZ ZS (k:Int),ZW true])/\Below w.heap.size w w'):=Bx λw=>(HV0.out w).mono (by rintro e w' ⟨⟨j,rfl,hj⟩,hb⟩;rw [hj k rfl];exact ⟨rfl,hb⟩);clear HV0;rcases h01 with rfl | rfl
     ·cases old with
      | false=>
        rw [if_pos (by decide)] at hR;subst hR;exact XXs1e
      | true=>
        rw [if_neg (by decide)] at hR;subst hR;exact XXs1e
     ·rw [if_neg (by simp)] at hR;subst hR;exact XXs1e
 | false=>
 rw [Bool.or_false,Bool.false_or] at hR;rcases hen with ⟨rfl,rfl⟩ | ⟨rfl,rfl⟩
 ·rw [if_pos rfl] at hR;cases hvl:verL (clOf p) v with
  | none=>
    exact XXdTD
  | some k=>
    have h01:=verL_01 hvl;rw [hvl] at hR HV0;dsimp only at hR;clear hvl
    have HV:Hid (∀w,Calls EW 210 #[ZY (ba v),ZZ ZQ (p:Nat)] w λe w'=>e=.returned (ZT #[ZZ ZS (k:Int),ZW true])/\Below w.heap.size w w'):=Bx λw=>(HV0.out w).mono (by rintro e w' ⟨⟨j,rfl,hj⟩,hb⟩;rw [hj k rfl];exact ⟨rfl,hb⟩);clear HV0;rcases h01 with rfl | rfl
    ·cases old with
     | false=>
       rw [if_pos (by decide)] at hR;subst hR;exact XXs1e
     | true=>
       rw [if_neg (by decide)] at hR;subst hR;exact XXs1e
    ·rw [if_neg (by simp)] at hR;subst hR;exact XXs1e
 ·rw [if_neg (by decide)] at hR;subst hR;exact XXs1e
set_option maxRecDepth 10000 in
theorem rrequest_more (s:ByteArray) (p:Nat) (hp:p<4294967296) (x0 x1 x2 x3 x4 x5 x6 x7:Int) (ch old:Bool) (w:World) (hs:s.size<=900000000) (m t:List UInt8) (v:List UInt8) (n:Nat) (hm0:0<m.length) (hms:m.length<=s.size) (ht0:0<t.length) (hts:t.length<=s.size) (hv0:0<v.length) (h3n:3<n) (h7:D0 p 7=true)
 (hpv:rpv (D0 p 3) s.data.toList=ZT #[ZY (ba m),ZY (ba t),ZY (ba v),ZZ ZS (n:Nat),ZW true])
 (R:List UInt8 × List UInt8 × Nat × Nat) (hR:(if (methOk m&&tgtOk (clOf p) m t)=true then (match verL (clOf p) v with | none=>verR | some k=>if (k==0 && !old)=true then verR else (m,t,k,0)) else badR)=R) :
 Calls EW 187 #[ZY s,ZZ ZQ (p:Nat),Bnd.bnd x0 x1 x2 x3 x4 x5 x6 x7 ch old] w λe w'=>e=.returned (rv R)/\Below w.heap.size w w':=by
 have HA0:=Bx (Bnd.At.new w 29 x0 x1 x2 x3 x4 x5 x6 x7 ch old)
 have HG0:=Bx (show w.heap.size<(w.alloc (.cells #[ZZ ZS x0,ZZ ZS x1,ZZ ZS x2,ZZ ZS x3,ZZ ZS x4,ZZ ZS x5,ZZ ZS x6,ZZ ZS x7,ZW ch,ZW old] 29)).heap.size by simp)
 have HW:=Bx (show Below w.heap.size w (w.alloc (.cells #[ZZ ZS x0,ZZ ZS x1,ZZ ZS x2,ZZ ZS x3,ZZ ZS x4,ZZ ZS x5,ZZ ZS x6,ZZ ZS x7,ZW ch,ZW old] 29)) from (An _ _).alloc (Db _) _)
 have H3:=Bx (λw=>D4 p hp 3 w)
 have H6:=Bx (λw=>D4 p hp 6 w)
 have H7:=Bx (λw=>D4 p hp 7 w)
 have HP:=Bx (λw=>rparts_any s (D0 p 3) w hs)
 have H8:=Bx (λw=>D4 p hp 8 w);rw [hpv] at HP;clear hpv
 have HT:=Bx (λw=>rbytes_any (ba t) p hp w (by rw [ba_size];omega) (by rw [ba_size];omega))
 have HA:Hid (∀w a,Ints w a 1 [1]->Calls EW 137 #[ZY (ba m),.slice a 1 1] w λe w'=>e=.returned (ZW (Dl [1] m))/\Below w.heap.size w w'):=Bx λw a hk=>(Oct.rall_any (ba m) a 1 1 [1] w (by rw [ba_size];unfold maxLen;omega) hk (by decide)).mono (by rintro e w' ⟨rfl,q,rfl⟩;exact ⟨rfl,Ak (An _ _) q⟩)
 have HG:=Bx (λw=>Tgt.rtarget_any (ba m) (ba t) w (by rw [ba_size];omega));have b1:(ba m).data.toList=m:=rfl;have b2:(ba t).data.toList=t:=rfl;rw [b1,b2] at HG;rw [b2] at HT;have hsm:(ba m).size=m.length:=ba_size m;clear b1 b2;have htk:tgtOk (clOf p) m t=(tgtB (clOf p) t&&(D0 p 7||D0 p 8|| (Ea m t).isSome)):=rfl;have hmk:methOk m=(decide (m.length<=32)&&Dl [1] m):=rfl;rw [htk,hmk] at hR;clear htk hmk
 have HV0:=Bx (λw=>rversion_any (ba v) p hp w (by rw [ba_size];exact hv0));have b3:(ba v).data.toList=v:=rfl;rw [b3] at HV0;clear b3;generalize Dl [1] m=al at *;generalize tgtB (clOf p) t=tb at *;have hans:∃(f:Int) (h1 p1 q1:ByteArray) (a:Bool) (en:Int),Tgt.ans (Ea m t)=ZT #[Tgt.tv f h1 p1 q1 a,ZZ ZS en]/\(en=0/\(Ea m t).isSome=true∨en=400/\(Ea m t).isSome=false):=by
  cases Ea m t with
  | none=>exact ⟨0,Tgt.E0,Tgt.E0,Tgt.E0,false,400,rfl,.inr ⟨rfl,rfl⟩⟩
  | some g=>exact ⟨_,_,_,_,_,0,rfl,.inl ⟨rfl,rfl⟩⟩
 obtain ⟨f,h1,p1,q1,ta,en,hE,hen⟩:=hans;rw [hE] at HG;clear hE;generalize (Ea m t).isSome=okp at *;have c0:¬((ba m).size:Int)<1:=by omega
 have n1:¬(n:Int)<2:=by omega
 have n2:¬(n:Int)=2:=by omega
 have n3:(3:Int)<(n:Int):=by omega
 rw [h7] at H7 hR;clear h7 h3n;generalize D0 p 8=b8 at *;generalize D0 p 6=b6 at *;generalize D0 p 3=b3 at *;rcases Dg 32 m.length with hl | hl
 ·have c1:(32:Int)<((ba m).size:Int):=by omega
  rw [decide_eq_false (by omega),Av,Av,if_neg (by decide)] at hR;subst hR;clear HG HT HA hen;exact XXs1e
 have c1:¬(32:Int)<((ba m).size:Int):=by omega
 rw [decide_eq_true hl,A5] at hR;clear hl hsm;cases al with
 | false=>
   rw [Av,if_neg (by decide)] at hR;subst hR;clear HG HT hen;exact XXs1e
 | true=>
 rw [A5] at hR;cases tb with
 | false=>
   rw [Av,if_neg (by decide)] at hR;subst hR;clear HG hen;exact XXs1e
 | true=>
 rw [A5] at hR;rw [Bool.true_or,Bool.true_or,if_pos rfl] at hR;clear HG hen;cases hvl:verL (clOf p) v with
 | none=>
   exact XXdTD
 | some k=>
   have h01:=verL_01 hvl;rw [hvl] at hR HV0;dsimp only at hR;clear hvl
   have HV:Hid (∀w,Calls EW 210 #[ZY (ba v),ZZ ZQ (p:Nat)] w λe w'=>e=.returned (ZT #[ZZ ZS (k:Int),ZW true])/\Below w.heap.size w w'):=Bx λw=>(HV0.out w).mono (by rintro e w' ⟨⟨j,rfl,hj⟩,hb⟩;rw [hj k rfl];exact ⟨rfl,hb⟩);clear HV0;rcases h01 with rfl | rfl
   ·cases old with
    | false=>
      rw [if_pos (by decide)] at hR;subst hR;exact XXs1e
    | true=>
      rw [if_neg (by decide)] at hR;subst hR;exact XXs1e
   ·rw [if_neg (by simp)] at hR;subst hR;exact XXs1e
theorem rrequest_any (s:ByteArray) (p:Nat) (hp:p<4294967296) (x0 x1 x2 x3 x4 x5 x6 x7:Int) (ch old:Bool) (w:World) (hs:s.size<=900000000) :
 Calls EW 187 #[ZY s,ZZ ZQ (p:Nat),Bnd.bnd x0 x1 x2 x3 x4 x5 x6 x7 ch old] w λe w'=>e=.returned (rv (request (clOf p) old s.data.toList))/\Below w.heap.size w w':=by
 rcases rpv_cases (clOf p) s.data.toList with ⟨hp1,M,T,V,n,ok,hle,hpv,hc⟩ | ⟨m,t,hp1,hnv,hpv⟩ | ⟨m,t,v,n,hp1,hv,hle,hn,hpv⟩
 ·rw [len] at hle
  exact rrequest_parts s p hp x0 x1 x2 x3 x4 x5 x6 x7 ch old w hs M T V n ok hle hpv hc _ (by unfold request;rw [hp1]<;>rfl)
 ·obtain ⟨z1,z2,z3,z4,_⟩:=pick_some hp1;rw [len] at z2 z4
  exact rrequest_two s p hp x0 x1 x2 x3 x4 x5 x6 x7 ch old w hs m t z1 z2 z3 z4 hnv hpv _ (by unfold request;rw [hp1]<;>rfl)
 ·obtain ⟨z1,z2,z3,z4,_⟩:=pick_some hp1;rw [len] at z2 z4 hle;have hv0:0<v.length:=List.length_pos_iff.2 hv;rcases hn with rfl | ⟨h3,hsp⟩
  ·exact rrequest_three s p hp x0 x1 x2 x3 x4 x5 x6 x7 ch old w hs m t v z1 z2 z3 z4 hv0 hpv _ (by unfold request;rw [hp1]<;>rfl)
  ·exact rrequest_more s p hp x0 x1 x2 x3 x4 x5 x6 x7 ch old w hs m t v n z1 z2 z3 z4 hv0 h3 hsp hpv _ (by unfold request;rw [hp1]<;>rfl)
end
end Go.Proofs.YtdfabddnpgjepaaGreatDoor.Rq
