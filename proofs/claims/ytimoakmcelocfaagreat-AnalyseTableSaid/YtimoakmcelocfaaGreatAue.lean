import Derived.Test.YtimoakmcelocfaaGreatAud
namespace Go.Proofs.YtimoakmcelocfaaGreat.Chk
open Go.RowKit Base Txt
theorem marks_tab:∀k:Fin 256,(lowB (UInt8.ofNat k.val)=48↔UInt8.ofNat k.val=48)∧(lowB (UInt8.ofNat k.val)=120↔(UInt8.ofNat k.val=120∨UInt8.ofNat k.val=88)):=by decide +kernel
theorem low_mark (b:UInt8):(lowB b=48↔b=48)∧(lowB b=120↔(b=120∨b=88)):=by have h:=marks_tab ⟨b.toNat,b.toNat_lt⟩;simpa using h
theorem same_two (X:ByteArray) (h:X.size=2):same X ⟨#[48,120]⟩=true↔(X=⟨#[48,120]⟩∨X=⟨#[48,88]⟩):=by
 obtain ⟨a,b,hab⟩:∃a b,X.data.toList= [a,b]:=by
  rw [←len] at h
  match hx:X.data.toList,h with
  | [a,b],_=>exact ⟨a,b,rfl⟩
 have e:∀c d:UInt8,X=⟨#[c,d]⟩↔(a=c∧b=d):=fun c d=>by
  constructor
  ·intro hX;subst hX;simpa using hab.symm
  ·rintro ⟨rfl,rfl⟩;exact ba_ext (by rw [hab])
 rw [e,e];unfold same;rw [beq_iff_eq,hab];have h1:=low_mark a;have h2:=low_mark b;show [lowB a,lowB b]= [lowB 48,lowB 120]↔_;rw [show lowB 48=48 from by decide +kernel,show lowB 120=120 from by decide +kernel];simp only [List.cons.injEq,and_true];rw [h1.1,h2.2];constructor
 ·rintro ⟨x,y | y⟩
  ·exact .inl ⟨x,y⟩
  ·exact .inr ⟨x,y⟩
 ·rintro (⟨x,y⟩ | ⟨x,y⟩)
  ·exact ⟨x,.inl y⟩
  ·exact ⟨x,.inr y⟩
section code
set_option maxHeartbeats 8000000
set_option maxRecDepth 100000
attribute [local go_sem] Base.some_undef
theorem rsize_any (s:ByteArray) (p:Nat) (hp:p<4294967296) (x0 x1 x2 x3 x4 x5 x6 x7:Int) (ch od:Bool) (h3:x3≤9223372036854775807) (h4:0≤x4) (w:World) (hs:s.size≤1000000000) :
 Calls Tryz.prog 95 #[.string s,.int .u32 (p:Nat),Bnd.bnd x0 x1 x2 x3 x4 x5 x6 x7 ch od] w fun e w'=>e=.returned (.tuple #[.int .i64 (sizeV (Qk.has p 27) (Qk.has p 28) x4 x3 s.data.toList).1,.int .i64 (sizeV (Qk.has p 27) (Qk.has p 28) x4 x3 s.data.toList).2])∧Below w.heap.size w w':=by
 have HBB:=Lib.hid (BB.new (Below.refl w.heap.size w) 24 x0 x1 x2 x3 x4 x5 x6 x7 ch od)
 have H7:=Lib.hid (fun w=>Qk.rhas_any p hp 27 w)
 have H8:=Lib.hid (fun w=>Qk.rhas_any p hp 28 w)
 have HCUT:=Lib.hid (show∀C:ByteArray,C.size≤1000000000→ba (Tgt.cutAt 59 s.data.toList).1=C→sizeL (Qk.has p 27) (Qk.has p 28) s.data.toList=pieceL (Qk.has p 27) (Qk.has p 28) C.data.toList from fun C hC e=>by rw [←e];rfl)
 have HEX:=Lib.hid (show∀E:ByteArray,ba (extL s.data.toList)=E→isx x4 (extL s.data.toList)= !(decide (x4<(E.size:Int)) || !Oct.allOf [6] E.data.toList) from fun E e=>by rw [isx_eq _ h4,←e,←len];rfl);have hSL:(ba (sizeL (Qk.has p 27) (Qk.has p 28) s.data.toList)).size≤maxLen:=by have h1:=piece_le (Qk.has p 27) (Qk.has p 28) (Tgt.cutAt 59 s.data.toList).1;have h2:=(ext_le s.data.toList).2;rw [len] at h2;rw [←len];show (pieceL _ _ _).length≤_;unfold maxLen;omega
 have HN:=Lib.hid (fun w=>Num.rhexN_any x3 h3 (ba (sizeL (Qk.has p 27) (Qk.has p 28) s.data.toList)) w hSL);have e1:(ba (sizeL (Qk.has p 27) (Qk.has p 28) s.data.toList)).data.toList=sizeL (Qk.has p 27) (Qk.has p 28) s.data.toList:=rfl;rw [e1] at HN;clear e1 hSL;unfold sizeV;generalize Num.readOf 16 x3 (sizeL (Qk.has p 27) (Qk.has p 28) s.data.toList)=R at *;generalize sizeL (Qk.has p 27) (Qk.has p 28) s.data.toList=SL at *;generalize Qk.has p 27=b7 at *;generalize Qk.has p 28=b8 at *;obtain ⟨r1,r2⟩:=R;dsimp only at HN;have hcase:(r2=22∧numV (r1,r2)=(0,400))∨((r2==22)=false∧r2=23∧numV (r1,r2)=(0,413))∨((r2==22)=false∧(r2==23)=false∧numV (r1,r2)=(r1,0)):=by
  unfold numV;by_cases h1:r2=22
  ·exact .inl ⟨h1,by rw [if_pos h1]⟩
  ·by_cases h2:r2=23
   ·exact .inr (.inl ⟨by simp [h1],h2,by rw [if_neg h1,if_pos h2]⟩)
   ·exact .inr (.inr ⟨by simp [h1],by simp [h2],by rw [if_neg h1,if_neg h2]⟩)
 generalize numV (r1,r2)=V at *;have hcase':=Lib.hid hcase;clear hcase;obtain ⟨VV,hVV⟩:∃VV,(if isx x4 (extL s.data.toList)=true then V else (0,400))=VV:=⟨_,rfl⟩;rw [hVV];rcases Tgt.cut_cases 59 s.data.toList with hno | ⟨a,r,hl,hna⟩
 ·have hE:=HEX.out ⟨#[]⟩ (by unfold extL;rw [Tgt.cutAt_none 59 _ hno];rfl)
  have HCS:=Lib.hid (HCUT.out s hs (by rw [Tgt.cutAt_none 59 _ hno];exact ba_ext rfl));have hx:isx x4 (extL s.data.toList)=true:=by
   rw [hE]
   have:decide (x4<((⟨#[]⟩:ByteArray).size:Int))=false:=decide_eq_false (by show¬x4<0;omega);rw [this];rfl
  rw [hx,if_pos rfl] at hVV;subst hVV
  have HA:Hid (∀w a,Ints w a 1 [6]→Calls Tryz.prog 87 #[.string ⟨#[]⟩,.slice a 1 1] w fun e w'=>e=.returned (.bool true)∧∃m,w'=w.drewN m):=Lib.hid fun w a hk=>Oct.rall_any ⟨#[]⟩ a 1 1 [6] w (by decide) hk (by decide);have hb59:Hid (∀k (h:k<s.size),(((s[k]'h).toNat:Int)==59)=false):=Lib.hid fun k h=>by
   have hm:=byte_mem s k h;rw [beq_eq_false_iff_ne];intro e9
   exact hno (by have:s[k]=59:=UInt8.toNat_inj.1 (by have:(s[k].toNat:Int)=59:=e9;show s[k].toNat=59;omega);rw [←this];exact hm)
  have d0:decide (x4<0)=false:=decide_eq_false (by omega);clear hE hx HCUT HEX hno;obtain ⟨C,hC⟩:∃C,C=s:=⟨s,rfl⟩;rw [←hC] at HCS;have HC0:C.size≤1000000000:=by rw [hC];exact hs
  go_enter Tryz.func95,Tryz.ntmps95;go_upto_region 3 with fail
  generalize w.alloc (.cells #[.int .i64 x0,.int .i64 x1,.int .i64 x2,.int .i64 x3,.int .i64 x4,.int .i64 x5,.int .i64 x6,.int .i64 x7,.bool ch,.bool od] 24)=W at *;generalize w.heap.size=g at *
  go_loopw [8,9,10] (fun a b i wr=>∃k:Nat,k≤s.size∧a=.string s∧b=.string ⟨#[]⟩∧i=.int .i64 k∧wr=W) (fun _ _ i _=>s.size-(intOf i).toNat)
  case atStart=>first | exact ⟨0,Nat.zero_le _,rfl,rfl,rfl,rfl⟩ | exact ⟨0,Nat.zero_le _,rfl,trivial,rfl,rfl⟩ |(refine ⟨0,Nat.zero_le _,?_⟩;simp)
  case round=>
   obtain ⟨k,hk,rfl,rfl,rfl,rfl⟩:=hrel;rcases Nat.lt_or_ge k s.size with hlt | hge
   ·have t0:=hb59.out k hlt;have i1:(k:Int)<(s.size:Int):=by omega
    go_wp2_with fail;go_roundw
    case rel=>first | exact ⟨k+1,by omega,rfl,rfl,by go_num,rfl⟩ | exact ⟨k+1,by omega,rfl,rfl,by go_num,trivial⟩
    case measure=>simp [intOf];omega
   ·obtain rfl:k=s.size:=by omega
    subst hC;obtain ⟨⟨q0,q1,q2,q3,q4,q5,q6,q7,q8,q9⟩,hlt,hbk⟩:=HBB.out;clear q0 q1 q2 q3 q5 q6 q7 q8 q9 hlt hbk
    go_upto_region 9 with (go_at_call 87;(with_reducible refine (HA.out _ _ (Ints.one _ _ rfl _ _)).mono ?_);rintro e w1 ⟨rfl,m,hw⟩
                           have HBX:=Lib.hid ((HBB.out.alloc (.cells #[.int .i64 6] 3)).drew m);rw [←hw] at HBX;clear hw)
    clear HBB q4
    have HT:=Lib.hid (fun w=>rtrim_any C w (by unfold maxLen;omega));have ht:(trim C).size≤C.size:=trim_size _ _
    have HZ:Hid (ba SL=(if b7=true then ba (bare (if b8=true then trim C else C).data.toList) else (if b8=true then trim C else C))):=Lib.hid (by rw [HCS.out];cases b8<;>cases b7<;>rfl)
    generalize ba SL=Z at *;clear HCS;obtain ⟨T,hTz,HC⟩:∃T:ByteArray,T.size≤1000000000∧Hid (T=if b8=true then trim C else C):=by
     cases b8 with
     | true=>exact ⟨trim C,by omega,Lib.hid rfl⟩
     | false=>exact ⟨C,HC0,Lib.hid rfl⟩
    rw [←HC.out] at HZ;have hT8:(b8=true∧trim C=T)∨(b8=false∧C=T):=by
     cases b8 with
     | true=>exact .inl ⟨rfl,HC.out.symm⟩
     | false=>exact .inr ⟨rfl,HC.out.symm⟩
    have HT8:=Lib.hid hT8;clear hT8 HC ht HC0
    go_upto_if 42 with (go_at_call 39;with_reducible refine (H8.out _).mono ?_;rintro e wz ⟨rfl,hw⟩;rw [hw];clear hw)
    go_cut [8] from 43 to 44 (fun v wx=>v=.string T∧wx=w1)
    case first=>
     clear HN hcase' HBX HZ H7 hTz;rcases HT8.out with ⟨rfl,ht⟩ | ⟨rfl,rfl⟩
     ·rw [ht] at HT;clear ht HT8
      go_wp2_with (go_at_call 111;with_reducible refine (HT.out _).mono ?_;rintro e wz ⟨rfl,hw⟩;rw [hw];clear hw);go_meet
      case rel=>exact ⟨rfl,rfl⟩
     ·clear HT8 HT;go_wp2_with fail;go_meet
      case rel=>exact ⟨rfl,rfl⟩
    case rest=>
     obtain ⟨rfl,hw0⟩:=hcut;rw [hw0];clear hw0 HT HT8 H8;have hway:∃bm:Bool,(bm=true→2≤T.size)∧Z=(if bm=true then T.extract 2 T.size else T)∧((b7=false∧bm=false)∨(b7=true∧T.size<2∧bm=false)∨(b7=true∧2≤T.size∧T.extract 0 2=⟨#[48,120]⟩∧bm=true)∨(b7=true∧2≤T.size∧T.extract 0 2=⟨#[48,88]⟩∧bm=true)∨(b7=true∧2≤T.size∧¬T.extract 0 2=⟨#[48,120]⟩∧¬T.extract 0 2=⟨#[48,88]⟩∧bm=false)):=by
      have hz:=HZ.out;have e0:ba T.data.toList=T:=ba_ext rfl;cases b7 with
      | false=>exact ⟨false,by simp,hz,.inl ⟨rfl,rfl⟩⟩
      | true=>
        rw [if_pos rfl] at hz;rcases Nat.lt_or_ge T.size 2 with h2 | h2
        ·refine ⟨false,by simp,?_,.inr (.inl ⟨rfl,h2,rfl⟩)⟩;rw [hz,if_neg (by decide)];unfold bare marked;rw [len,decide_eq_false (by omega),Bool.false_and,if_neg (by decide),e0]
        ·have hx:T.extract 0 2=ba (T.data.toList.take 2):=ba_ext (by rw [Lib.extract_data];simp [ba])
         have hx2:T.extract 2 T.size=ba (T.data.toList.drop 2):=ba_ext (by rw [Lib.extract_data,List.take_of_length_le (by rw [List.length_drop,len];omega)];rfl);have hsz:(T.extract 0 2).size=2:=by rw [hx,←len];show (T.data.toList.take 2).length=2;rw [List.length_take,len];omega
         have em:bare T.data.toList=if same (T.extract 0 2) ⟨#[48,120]⟩=true then T.data.toList.drop 2 else T.data.toList:=by unfold bare marked;rw [len,decide_eq_true h2,Bool.true_and,hx]
         rw [em] at hz;by_cases q1:T.extract 0 2=⟨#[48,120]⟩
         ·rw [if_pos ((same_two _ hsz).2 (.inl q1)),←hx2] at hz;exact ⟨true,fun _=>h2,hz,.inr (.inr (.inl ⟨rfl,h2,q1,rfl⟩))⟩
         ·by_cases q2:T.extract 0 2=⟨#[48,88]⟩
          ·rw [if_pos ((same_two _ hsz).2 (.inr q2)),←hx2] at hz;exact ⟨true,fun _=>h2,hz,.inr (.inr (.inr (.inl ⟨rfl,h2,q2,rfl⟩)))⟩
          ·have hnn:¬same (T.extract 0 2) ⟨#[48,120]⟩=true:=fun h=>((same_two _ hsz).1 h).elim q1 q2;rw [if_neg hnn,e0] at hz;exact ⟨false,by simp,hz,.inr (.inr (.inr (.inr ⟨rfl,h2,q1,q2,rfl⟩)))⟩
     obtain ⟨bm,hbm,hZ,hway⟩:=hway;have HW:=Lib.hid hway;have HBM:=Lib.hid hbm;have HZZ:=Lib.hid hZ;clear hway hbm hZ HZ hTz;go_upto_region 11 with fail
     go_cut [61] from 45 to 61 (fun v wx=>v=.bool bm∧wx=w1)
     case first=>
      clear HN hcase' HBX HZZ HBM;rcases HW.out with ⟨rfl,rfl⟩ | ⟨rfl,h2,rfl⟩ | ⟨rfl,h2,q1,rfl⟩ | ⟨rfl,h2,q1,rfl⟩ | ⟨rfl,h2,q1,q2,rfl⟩
      ·clear HW
       go_wp2_with (go_at_call 39;with_reducible refine (H7.out _).mono ?_;rintro e wz ⟨rfl,hw⟩;rw [hw];clear hw);go_meet
       case rel=>exact ⟨rfl,rfl⟩
      ·clear HW
       have d1:decide ((1:Int)<(T.size:Int))=false:=decide_eq_false (by omega)
       go_wp2_with (go_at_call 39;with_reducible refine (H7.out _).mono ?_;rintro e wz ⟨rfl,hw⟩;rw [hw];clear hw);go_meet
       case rel=>exact ⟨rfl,rfl⟩
      ·clear HW
       have d1:decide ((1:Int)<(T.size:Int))=true:=decide_eq_true (by omega);have d2:(2:Int)≤(T.size:Int):=by omega
       go_wp2_with (go_at_call 39;with_reducible refine (H7.out _).mono ?_;rintro e wz ⟨rfl,hw⟩;rw [hw];clear hw);go_meet
       case rel=>exact ⟨rfl,rfl⟩
      ·clear HW
       have d1:decide ((1:Int)<(T.size:Int))=true:=decide_eq_true (by omega);have d2:(2:Int)≤(T.size:Int):=by omega
       go_wp2_with (go_at_call 39;with_reducible refine (H7.out _).mono ?_;rintro e wz ⟨rfl,hw⟩;rw [hw];clear hw);go_meet
       case rel=>exact ⟨rfl,rfl⟩
      ·clear HW
       have d1:decide ((1:Int)<(T.size:Int))=true:=decide_eq_true (by omega);have d2:(2:Int)≤(T.size:Int):=by omega
       have f3:¬(T.extract 0 2).toList= [48,120]:=fun h=>q1 (ba_ext (by rw [←Go.ByteArray.toList_eq,h]));have f1:((T.extract 0 2).toList == [48,120])=false:=beq_eq_false_iff_ne.2 f3
       have f4:¬(T.extract 0 2).toList= [48,88]:=fun h=>q2 (ba_ext (by rw [←Go.ByteArray.toList_eq,h]))
       go_wp2_with (go_at_call 39;with_reducible refine (H7.out _).mono ?_;rintro e wz ⟨rfl,hw⟩;rw [hw];clear hw);go_meet
       case rel=>first | exact ⟨rfl,rfl⟩ | exact ⟨by rw [beq_eq_false_iff_ne.2 f4],rfl⟩ | exact ⟨by rw [f1,beq_eq_false_iff_ne.2 f4];rfl,rfl⟩
     case rest=>
      obtain ⟨rfl,hw0⟩:=hcut;rw [hw0];clear hw0 HW H7;obtain ⟨⟨q0,q1,q2,q3,q4,q5,q6,q7,q8,q9⟩,hlt,hbk⟩:=HBX.out;clear q0 q1 q2 q4 q5 q6 q7 q8 q9 hlt;have hz:=HZZ.out;cases bm with
      | false=>
        rw [if_neg (by decide)] at hz;rw [hz] at HN;clear hz HZZ HBM;rcases hcase'.out with ⟨rfl,rfl⟩ | ⟨t1,rfl,rfl⟩ | ⟨t1,t2,rfl⟩;all_goals
         go_wp2_with (go_at_call 112;with_reducible refine (HN.out _).mono ?_;rintro e wz ⟨rfl,hw⟩;rw [hw];clear hw);go_ret2;exact ⟨rfl,hbk⟩
      | true=>
        rw [if_pos rfl] at hz;rw [hz] at HN;have h2:=HBM.out rfl;have d2:(2:Int)≤(T.size:Int):=by omega
        clear hz HZZ HBM;rcases hcase'.out with ⟨rfl,rfl⟩ | ⟨t1,rfl,rfl⟩ | ⟨t1,t2,rfl⟩;all_goals
         go_wp2_with (go_at_call 112;with_reducible refine (HN.out _).mono ?_;rintro e wz ⟨rfl,hw⟩;rw [hw];clear hw);go_ret2;exact ⟨rfl,hbk⟩
 ·have hin:∃i:Nat,i<s.size∧a=s.data.toList.take i∧s.data.toList.drop i=59::r:=⟨a.length,by rw [←len,hl];simp,by rw [hl];simp,by rw [hl];simp⟩;obtain ⟨i,hi,ha,hr⟩:=hin
  have hC1:s.extract 0 i=ba a:=ba_ext (by rw [Lib.extract_data];simp [ba,ha])
  have hE1:s.extract i s.size=ba (59::r):=ba_ext (by rw [Lib.extract_data,List.take_of_length_le (by rw [List.length_drop,len];omega),hr];rfl)
  have hE:=HEX.out (s.extract i s.size) (by unfold extL;rw [hl,Tgt.cutAt_app 59 _ _ hna,hE1];rfl);have hCs:(s.extract 0 i).size≤1000000000:=by rw [hC1,←len];show a.length≤_;rw [ha,List.length_take];omega
  have HCS:=Lib.hid (HCUT.out (s.extract 0 i) hCs (by rw [hl,Tgt.cutAt_app 59 _ _ hna,hC1]));have hEs:(s.extract i s.size).size≤1000000000:=by rw [hE1,←len];show (59::r).length≤_;rw [←hr,List.length_drop,len];omega
  have hb59:Hid (∀k (h:k<i),(((s[k]'(by omega)).toNat:Int)==59)=false):=Lib.hid fun k h=>by
   rw [beq_eq_false_iff_ne];intro e9;refine hna ?_
   have e8:s[k]'(by omega)=59:=UInt8.toNat_inj.1 (by have:(((s[k]'(by omega)).toNat:Nat):Int)=59:=e9;show (s[k]'(by omega)).toNat=59;omega);rw [ha,←e8];have hk2:k<(s.data.toList.take i).length:=by rw [List.length_take,len];omega
   have:=List.getElem_mem hk2;rw [List.getElem_take] at this;exact this
  have hb60:(((s[i]'hi).toNat:Int)==59)=true:=by
   have h9:s.data.toList[i]?=some 59:=by have:=congrArg (fun l=>l[0]?) hr;simpa using this
   have h8:s[i]'hi=59:=by
    have h7:s.data.toList[i]?=some (s[i]'hi):=by rw [List.getElem?_eq_getElem (by rw [len];exact hi)];rfl
    rw [h7] at h9;exact Option.some.inj h9
   rw [h8];rfl
  have c1:(i:Int)≤(s.size:Int):=by omega
  have c2:(0:Int)≤(i:Int):=by omega
  have HA:Hid (∀w a,Ints w a 1 [6]→Calls Tryz.prog 87 #[.string (s.extract i s.size),.slice a 1 1] w fun e w'=>e=.returned (.bool (Oct.allOf [6] (s.extract i s.size).data.toList))∧∃m,w'=w.drewN m):=Lib.hid fun w a hk=>Oct.rall_any _ a 1 1 [6] w (by unfold maxLen;omega) hk (by decide);generalize isx x4 (extL s.data.toList)=q at *;clear HCUT HEX hC1 hE1 ha hr hl hna;generalize hCC:s.extract 0 i=C at *;have HC0:=hCs;clear hCs;generalize hEE:s.extract i s.size=E at *;generalize Oct.allOf [6] E.data.toList=al at *
  have HQ:Hid ((decide (x4<(E.size:Int))=true∧q=false)∨(decide (x4<(E.size:Int))=false∧al=false∧q=false)∨(decide (x4<(E.size:Int))=false∧al=true∧q=true)):=Lib.hid (by rw [hE];cases decide (x4<(E.size:Int))<;>cases al<;>simp)
  have HVV:Hid ((q=false→VV=(0,400))∧(q=true→V=VV)):=Lib.hid ⟨fun h=>by rw [←hVV,h,if_neg (by decide)],fun h=>by rw [←hVV,h,if_pos rfl]⟩;clear hVV;have HCC:=Lib.hid hCC;have HEE:=Lib.hid hEE;clear hE hCC hEE hEs;go_enter Tryz.func95,Tryz.ntmps95;go_upto_region 3 with fail
  generalize w.alloc (.cells #[.int .i64 x0,.int .i64 x1,.int .i64 x2,.int .i64 x3,.int .i64 x4,.int .i64 x5,.int .i64 x6,.int .i64 x7,.bool ch,.bool od] 24)=W at *;generalize w.heap.size=g at *
  go_loopw [8,9,10] (fun a b j wr=>∃k:Nat,k≤i∧a=.string s∧b=.string ⟨#[]⟩∧j=.int .i64 k∧wr=W) (fun _ _ j _=>s.size-(intOf j).toNat)
  case atStart=>first | exact ⟨0,Nat.zero_le _,rfl,rfl,rfl,rfl⟩ | exact ⟨0,Nat.zero_le _,rfl,trivial,rfl,rfl⟩ |(refine ⟨0,Nat.zero_le _,?_⟩;simp)
  case round=>
   obtain ⟨k,hk,rfl,rfl,rfl,rfl⟩:=hrel;rcases Nat.lt_or_ge k i with hlt | hge
   ·have t0:=hb59.out k hlt;have i1:(k:Int)<(s.size:Int):=by omega
    clear hb60;go_wp2_with fail;go_roundw
    case rel=>first | exact ⟨k+1,by omega,rfl,rfl,by go_num,rfl⟩ | exact ⟨k+1,by omega,rfl,rfl,by go_num,trivial⟩
    case measure=>simp [intOf];omega
   ·obtain rfl:k=i:=by omega
    have i1:(k:Int)<(s.size:Int):=by omega
    go_upto_region 6 with fail
    go_quiet (fail);rename_i nq
    replace HBB:=Lib.hid (HBB.out.drew nq)
    go_upto_region 7 with fail
    rw [HCC.out,HEE.out];generalize wr.drewN nq=W1 at *;obtain ⟨⟨q0,q1,q2,q3,q4,q5,q6,q7,q8,q9⟩,hlt,hbk⟩:=HBB.out;clear q0 q1 q2 q3 q5 q6 q7 q8 q9 hlt hb60 hb59 HCC HEE;rcases HQ.out with ⟨d0,rfl⟩ | ⟨d0,rfl,rfl⟩ | ⟨d0,rfl,rfl⟩
    ·obtain rfl:=HVV.out.1 rfl;clear HVV;go_wp2_with fail;go_ret2;exact ⟨rfl,hbk⟩
    ·obtain rfl:=HVV.out.1 rfl;clear HVV
     go_wp2_with (go_at_call 87;(with_reducible refine (HA.out _ _ (Ints.one _ _ rfl _ _)).mono ?_);rintro e w1 ⟨rfl,m,hw⟩
                  have HBX:=Lib.hid ((HBB.out.alloc (.cells #[.int .i64 6] 3)).drew m);rw [←hw] at HBX;clear hw)
     go_ret2;exact ⟨rfl,HBX.out.b⟩
    ·obtain rfl:=HVV.out.2 rfl;clear HVV
     go_upto_region 9 with (go_at_call 87;(with_reducible refine (HA.out _ _ (Ints.one _ _ rfl _ _)).mono ?_);rintro e w1 ⟨rfl,m,hw⟩
                            have HBX:=Lib.hid ((HBB.out.alloc (.cells #[.int .i64 6] 3)).drew m);rw [←hw] at HBX;clear hw)
     clear HBB q4 HQ hbk
     have HT:=Lib.hid (fun w=>rtrim_any C w (by unfold maxLen;omega));have ht:(trim C).size≤C.size:=trim_size _ _
     have HZ:Hid (ba SL=(if b7=true then ba (bare (if b8=true then trim C else C).data.toList) else (if b8=true then trim C else C))):=Lib.hid (by rw [HCS.out];cases b8<;>cases b7<;>rfl)
     generalize ba SL=Z at *;clear HCS;obtain ⟨T,hTz,HC⟩:∃T:ByteArray,T.size≤1000000000∧Hid (T=if b8=true then trim C else C):=by
      cases b8 with
      | true=>exact ⟨trim C,by omega,Lib.hid rfl⟩
      | false=>exact ⟨C,HC0,Lib.hid rfl⟩
     rw [←HC.out] at HZ;have hT8:(b8=true∧trim C=T)∨(b8=false∧C=T):=by
      cases b8 with
      | true=>exact .inl ⟨rfl,HC.out.symm⟩
      | false=>exact .inr ⟨rfl,HC.out.symm⟩
     have HT8:=Lib.hid hT8;clear hT8 HC ht HC0
     go_upto_if 42 with (go_at_call 39;with_reducible refine (H8.out _).mono ?_;rintro e wz ⟨rfl,hw⟩;rw [hw];clear hw)
     go_cut [8] from 43 to 44 (fun v wx=>v=.string T∧wx=w1)
     case first=>
      clear HN hcase' HBX HZ H7 hTz;rcases HT8.out with ⟨rfl,ht⟩ | ⟨rfl,rfl⟩
      ·rw [ht] at HT;clear ht HT8
       go_wp2_with (go_at_call 111;with_reducible refine (HT.out _).mono ?_;rintro e wz ⟨rfl,hw⟩;rw [hw];clear hw);go_meet
       case rel=>exact ⟨rfl,rfl⟩
      ·clear HT8 HT;go_wp2_with fail;go_meet
       case rel=>exact ⟨rfl,rfl⟩
     case rest=>
      obtain ⟨rfl,hw0⟩:=hcut;rw [hw0];clear hw0 HT HT8 H8;have hway:∃bm:Bool,(bm=true→2≤T.size)∧Z=(if bm=true then T.extract 2 T.size else T)∧((b7=false∧bm=false)∨(b7=true∧T.size<2∧bm=false)∨(b7=true∧2≤T.size∧T.extract 0 2=⟨#[48,120]⟩∧bm=true)∨(b7=true∧2≤T.size∧T.extract 0 2=⟨#[48,88]⟩∧bm=true)∨(b7=true∧2≤T.size∧¬T.extract 0 2=⟨#[48,120]⟩∧¬T.extract 0 2=⟨#[48,88]⟩∧bm=false)):=by
       have hz:=HZ.out;have e0:ba T.data.toList=T:=ba_ext rfl;cases b7 with
       | false=>exact ⟨false,by simp,hz,.inl ⟨rfl,rfl⟩⟩
       | true=>
         rw [if_pos rfl] at hz;rcases Nat.lt_or_ge T.size 2 with h2 | h2
         ·refine ⟨false,by simp,?_,.inr (.inl ⟨rfl,h2,rfl⟩)⟩;rw [hz,if_neg (by decide)];unfold bare marked;rw [len,decide_eq_false (by omega),Bool.false_and,if_neg (by decide),e0]
         ·have hx:T.extract 0 2=ba (T.data.toList.take 2):=ba_ext (by rw [Lib.extract_data];simp [ba])
          have hx2:T.extract 2 T.size=ba (T.data.toList.drop 2):=ba_ext (by rw [Lib.extract_data,List.take_of_length_le (by rw [List.length_drop,len];omega)];rfl);have hsz:(T.extract 0 2).size=2:=by rw [hx,←len];show (T.data.toList.take 2).length=2;rw [List.length_take,len];omega
          have em:bare T.data.toList=if same (T.extract 0 2) ⟨#[48,120]⟩=true then T.data.toList.drop 2 else T.data.toList:=by unfold bare marked;rw [len,decide_eq_true h2,Bool.true_and,hx]
          rw [em] at hz;by_cases q1:T.extract 0 2=⟨#[48,120]⟩
          ·rw [if_pos ((same_two _ hsz).2 (.inl q1)),←hx2] at hz;exact ⟨true,fun _=>h2,hz,.inr (.inr (.inl ⟨rfl,h2,q1,rfl⟩))⟩
          ·by_cases q2:T.extract 0 2=⟨#[48,88]⟩
           ·rw [if_pos ((same_two _ hsz).2 (.inr q2)),←hx2] at hz;exact ⟨true,fun _=>h2,hz,.inr (.inr (.inr (.inl ⟨rfl,h2,q2,rfl⟩)))⟩
           ·have hnn:¬same (T.extract 0 2) ⟨#[48,120]⟩=true:=fun h=>((same_two _ hsz).1 h).elim q1 q2;rw [if_neg hnn,e0] at hz;exact ⟨false,by simp,hz,.inr (.inr (.inr (.inr ⟨rfl,h2,q1,q2,rfl⟩)))⟩
      obtain ⟨bm,hbm,hZ,hway⟩:=hway;have HW:=Lib.hid hway;have HBM:=Lib.hid hbm;have HZZ:=Lib.hid hZ;clear hway hbm hZ HZ hTz;go_upto_region 11 with fail
      go_cut [61] from 45 to 61 (fun v wx=>v=.bool bm∧wx=w1)
      case first=>
       clear HN hcase' HBX HZZ HBM;rcases HW.out with ⟨rfl,rfl⟩ | ⟨rfl,h2,rfl⟩ | ⟨rfl,h2,q1,rfl⟩ | ⟨rfl,h2,q1,rfl⟩ | ⟨rfl,h2,q1,q2,rfl⟩
       ·clear HW
        go_wp2_with (go_at_call 39;with_reducible refine (H7.out _).mono ?_;rintro e wz ⟨rfl,hw⟩;rw [hw];clear hw);go_meet
        case rel=>exact ⟨rfl,rfl⟩
       ·clear HW
        have d1:decide ((1:Int)<(T.size:Int))=false:=decide_eq_false (by omega)
        go_wp2_with (go_at_call 39;with_reducible refine (H7.out _).mono ?_;rintro e wz ⟨rfl,hw⟩;rw [hw];clear hw);go_meet
        case rel=>exact ⟨rfl,rfl⟩
       ·clear HW
        have d1:decide ((1:Int)<(T.size:Int))=true:=decide_eq_true (by omega);have d2:(2:Int)≤(T.size:Int):=by omega
        go_wp2_with (go_at_call 39;with_reducible refine (H7.out _).mono ?_;rintro e wz ⟨rfl,hw⟩;rw [hw];clear hw);go_meet
        case rel=>exact ⟨rfl,rfl⟩
       ·clear HW
        have d1:decide ((1:Int)<(T.size:Int))=true:=decide_eq_true (by omega);have d2:(2:Int)≤(T.size:Int):=by omega
        go_wp2_with (go_at_call 39;with_reducible refine (H7.out _).mono ?_;rintro e wz ⟨rfl,hw⟩;rw [hw];clear hw);go_meet
        case rel=>exact ⟨rfl,rfl⟩
       ·clear HW
        have d1:decide ((1:Int)<(T.size:Int))=true:=decide_eq_true (by omega);have d2:(2:Int)≤(T.size:Int):=by omega
        have f3:¬(T.extract 0 2).toList= [48,120]:=fun h=>q1 (ba_ext (by rw [←Go.ByteArray.toList_eq,h]));have f1:((T.extract 0 2).toList == [48,120])=false:=beq_eq_false_iff_ne.2 f3
        have f4:¬(T.extract 0 2).toList= [48,88]:=fun h=>q2 (ba_ext (by rw [←Go.ByteArray.toList_eq,h]))
        go_wp2_with (go_at_call 39;with_reducible refine (H7.out _).mono ?_;rintro e wz ⟨rfl,hw⟩;rw [hw];clear hw);go_meet
        case rel=>first | exact ⟨rfl,rfl⟩ | exact ⟨by rw [beq_eq_false_iff_ne.2 f4],rfl⟩ | exact ⟨by rw [f1,beq_eq_false_iff_ne.2 f4];rfl,rfl⟩
      case rest=>
       obtain ⟨rfl,hw0⟩:=hcut;rw [hw0];clear hw0 HW H7;obtain ⟨⟨q0,q1,q2,q3,q4,q5,q6,q7,q8,q9⟩,hlt,hbk⟩:=HBX.out;clear q0 q1 q2 q4 q5 q6 q7 q8 q9 hlt;have hz:=HZZ.out;cases bm with
       | false=>
         rw [if_neg (by decide)] at hz;rw [hz] at HN;clear hz HZZ HBM;rcases hcase'.out with ⟨rfl,rfl⟩ | ⟨t1,rfl,rfl⟩ | ⟨t1,t2,rfl⟩;all_goals
          go_wp2_with (go_at_call 112;with_reducible refine (HN.out _).mono ?_;rintro e wz ⟨rfl,hw⟩;rw [hw];clear hw);go_ret2;exact ⟨rfl,hbk⟩
       | true=>
         rw [if_pos rfl] at hz;rw [hz] at HN;have h2:=HBM.out rfl;have d2:(2:Int)≤(T.size:Int):=by omega
         clear hz HZZ HBM;rcases hcase'.out with ⟨rfl,rfl⟩ | ⟨t1,rfl,rfl⟩ | ⟨t1,t2,rfl⟩;all_goals
          go_wp2_with (go_at_call 112;with_reducible refine (HN.out _).mono ?_;rintro e wz ⟨rfl,hw⟩;rw [hw];clear hw);go_ret2;exact ⟨rfl,hbk⟩
end code
end Go.Proofs.YtimoakmcelocfaaGreat.Chk
namespace Go.Proofs.YtimoakmcelocfaaGreat.Par
open Go.RowKit Base Txt Mem
section code
set_option maxHeartbeats 4000000
set_option maxRecDepth 20000
attribute [local go_sem] Base.some_undef
variable {w:World} {B:Zone} {g q:Nat} {v f bd t o:Value} {p:Nat} {b:Bd} {s:S}
theorem chunk_any (hp:p<4294967296) (h3:16≤b.x3∧b.x3≤1048576) (h4:0≤b.x4) (x:ByteArray) (hx:x.size≤5000) (h:PR w B g q v f bd t o p b s) (hbl:s.r.body.length≤2000000):Calls Tryz.prog 83 #[ptr g,.string x] w fun r w'=>
 r=.returned (.tuple #[])∧∃q1 v1 f1 bd1 t1,PR w' B g q1 v1 f1 bd1 t1 o p b (s.chunk p b x.data.toList)∧Step (blks g q v f bd t o) (blks g q1 v1 f1 bd1 t1 o) w w':=by
 have H:=Lib.hid h
 have HQ:=Lib.hid ((h.drew 1).bk)
 have hz:=fun w=>Chk.rsize_any x p hp b.x0 b.x1 b.x2 b.x3 b.x4 b.x5 b.x6 b.x7 b.ch b.od (by omega) h4 w (by omega);have HF:=chunk_facts (Qk.has p 27) (Qk.has p 28) b.x4 b.x3 x.data.toList;obtain ⟨⟨z1,z2⟩,hZ⟩:∃Z,Chk.sizeV (Qk.has p 27) (Qk.has p 28) b.x4 b.x3 x.data.toList=Z:=⟨_,rfl⟩;rw [hZ] at HF;clear h hx;rcases HF with ⟨e2,h0,h1⟩ | e2 | e2
 ·have e2:z2=0:=e2;subst e2;obtain ⟨n,rfl⟩:∃n:Nat,z1=(n:Int):=⟨z1.toNat,by have:0≤z1:=h0;omega⟩;have h1:(n:Int)≤max b.x3 0:=h1
  have HZ:=Lib.hid (show∀w,Calls Tryz.prog 95 #[.string x,.int .u32 (p:Int),.agg #[.int .i64 b.x0,.int .i64 b.x1,.int .i64 b.x2,.int .i64 b.x3,.int .i64 b.x4,.int .i64 b.x5,.int .i64 b.x6,.int .i64 b.x7,.bool b.ch,.bool b.od]] w fun e w'=>e=.returned (.tuple #[.int .i64 (n:Int),.int .i64 0])∧Below w.heap.size w w' from fun w=>by have:=hz w;rw [hZ] at this;exact this);clear hz;rcases Nat.eq_zero_or_pos n with hn | hn
  ·subst hn;have e:s.chunk p b x.data.toList={s with st:=6,lines:=0,rd:=nl p b.x0}:=by unfold S.chunk;rw [hZ];rfl
   rw [e]
   have HZ:=Lib.hid (show∀w,Calls Tryz.prog 95 #[.string x,.int .u32 (p:Int),.agg #[.int .i64 b.x0,.int .i64 b.x1,.int .i64 b.x2,.int .i64 b.x3,.int .i64 b.x4,.int .i64 b.x5,.int .i64 b.x6,.int .i64 b.x7,.bool b.ch,.bool b.od]] w fun e w'=>e=.returned (.tuple #[.int .i64 0,.int .i64 0])∧Below w.heap.size w w' from fun w=>HZ.out w);clear e hZ h0 h1;go_enter Tryz.func83,Tryz.ntmps83;go_upto_region 0 with fail
   refine Each.region_all 15 [7,8,9,10,11,12,13,14,15,16,6,17,18,4,5]
    [fun v _=>v=.string x,
      fun v _=>v=.pointer (some ⟨g,0,none⟩),
      fun v _=>v=.pointer (some ⟨g,0,none⟩),
      fun v _=>v=.pointer (some ⟨g,0,none⟩),
      fun v _=>v=.int .u32 (p:Int),
      fun v _=>v=.pointer (some ⟨g,0,none⟩),
      fun v _=>v=.pointer (some ⟨g,0,none⟩),
      fun v _=>v=.pointer (some ⟨g,1,none⟩),
      fun v _=>v=.agg #[.int .i64 b.x0,.int .i64 b.x1,.int .i64 b.x2,.int .i64 b.x3,.int .i64 b.x4,.int .i64 b.x5,.int .i64 b.x6,.int .i64 b.x7,.bool b.ch,.bool b.od],
      fun v _=>v=.tuple #[.int .i64 0,.int .i64 0],
      fun v _=>v=.tuple #[.int .i64 0,.int .i64 0],
      fun v _=>v=.int .i64 0,
      fun v _=>v=.int .i64 0,
      fun v _=>v=.int .i64 0,
      fun v _=>v=.int .i64 0]
     (by kernel_rfl) (by kernel_rfl) (by kernel_rfl) (by kernel_rfl) (fun _ _ d _ _ h=>by cases d<;>exact h) (by rfl) (by rfl)
    ⟨Each.Lasts.eq _,Each.Lasts.eq _,Each.Lasts.eq _,Each.Lasts.eq _,Each.Lasts.eq _,Each.Lasts.eq _,Each.Lasts.eq _,Each.Lasts.eq _,Each.Lasts.eq _,Each.Lasts.eq _,Each.Lasts.eq _,Each.Lasts.eq _,Each.Lasts.eq _,Each.Lasts.eq _,Each.Lasts.eq _,trivial⟩ ?_ ?_
   ·refine ⟨?_,?_,?_,?_,?_,?_,?_,?_,?_,?_,?_,?_,?_,?_,?_,trivial⟩
    ·refine Each.fine rfl (fun ev w1 hR hb hh=>?_);clear hh;have e1:=hR.old 1 rfl;simp only [Array.getD_eq_getD_getElem?,List.getElem?_toArray,List.getElem?_cons_succ,List.getElem?_cons_zero,Option.getD_some] at e1;refine Each.Goes.same ?_;go_simp;try with_reducible rfl
    ·refine Each.fine rfl (fun ev w1 hR hb hh=>?_);clear hh;have e0:=hR.old 0 rfl;simp only [Array.getD_eq_getD_getElem?,List.getElem?_toArray,List.getElem?_cons_zero,Option.getD_some] at e0;refine Each.Goes.same ?_;go_simp;try with_reducible rfl
    ·refine Each.fine rfl (fun ev w1 hR hb hh=>?_);have e8:(ev (.tmp 8)=.pointer (some ⟨g,0,none⟩)):=hh.at 0;clear hh;refine Each.Goes.same ?_;go_simp;try with_reducible rfl
    ·refine Each.fine rfl (fun ev w1 hR hb hh=>?_);have e9:(ev (.tmp 9)=.pointer (some ⟨g,0,none⟩)):=hh.at 0;clear hh;refine Each.Goes.same ?_;go_simp;try with_reducible rfl
    ·refine Each.fine rfl (fun ev w1 hR hb hh=>?_);have e10:(ev (.tmp 10)=.pointer (some ⟨g,0,none⟩)):=hh.at 0;clear hh;have q0:=(HQ.out.below hb).c 0 _ rfl;refine Each.Goes.same ?_;go_simp;try with_reducible rfl
    ·refine Each.fine rfl (fun ev w1 hR hb hh=>?_);clear hh;have e0:=hR.old 0 rfl;simp only [Array.getD_eq_getD_getElem?,List.getElem?_toArray,List.getElem?_cons_zero,Option.getD_some] at e0;refine Each.Goes.same ?_;go_simp;try with_reducible rfl
    ·refine Each.fine rfl (fun ev w1 hR hb hh=>?_);have e12:(ev (.tmp 12)=.pointer (some ⟨g,0,none⟩)):=hh.at 0;clear hh;refine Each.Goes.same ?_;go_simp;try with_reducible rfl
    ·refine Each.fine rfl (fun ev w1 hR hb hh=>?_);have e13:(ev (.tmp 13)=.pointer (some ⟨g,0,none⟩)):=hh.at 0;clear hh;refine Each.Goes.same ?_;go_simp;try with_reducible rfl
    ·refine Each.fine rfl (fun ev w1 hR hb hh=>?_);have e14:(ev (.tmp 14)=.pointer (some ⟨g,1,none⟩)):=hh.at 0;clear hh;have q1:=(HQ.out.below hb).c 1 _ rfl;have q2:=(HQ.out.below hb).c 2 _ rfl;have q3:=(HQ.out.below hb).c 3 _ rfl;have q4:=(HQ.out.below hb).c 4 _ rfl;have q5:=(HQ.out.below hb).c 5 _ rfl;have q6:=(HQ.out.below hb).c 6 _ rfl;have q7:=(HQ.out.below hb).c 7 _ rfl;have q8:=(HQ.out.below hb).c 8 _ rfl;have q9:=(HQ.out.below hb).c 9 _ rfl;have q10:=(HQ.out.below hb).c 10 _ rfl;refine Each.Goes.same ?_;go_simp;try with_reducible rfl
    ·refine Each.fine rfl (fun ev w1 hR hb hh=>?_);have e7:(ev (.tmp 7)=.string x):=hh.at 0;have e11:(ev (.tmp 11)=.int .u32 (p:Int)):=hh.at 1;have e15:(ev (.tmp 15)=.agg #[.int .i64 b.x0,.int .i64 b.x1,.int .i64 b.x2,.int .i64 b.x3,.int .i64 b.x4,.int .i64 b.x5,.int .i64 b.x6,.int .i64 b.x7,.bool b.ch,.bool b.od]):=hh.at 2;clear hh;have ef:=hR.func
     refine Each.Goes.enter 95 #[.string x,.int .u32 (p:Int),.agg #[.int .i64 b.x0,.int .i64 b.x1,.int .i64 b.x2,.int .i64 b.x3,.int .i64 b.x4,.int .i64 b.x5,.int .i64 b.x6,.int .i64 b.x7,.bool b.ch,.bool b.od]] (by go_simp) ((HZ.out w1).mono ?_);rintro r w2 ⟨rfl,hb2⟩;exact ⟨_,rfl,hb2,rfl⟩
    ·refine Each.fine rfl (fun ev w1 hR hb hh=>?_);have e16:(ev (.tmp 16)=.tuple #[.int .i64 0,.int .i64 0]):=hh.at 0;clear hh;refine Each.Goes.same ?_;go_simp;try with_reducible rfl
    ·refine Each.fine rfl (fun ev w1 hR hb hh=>?_);have e6:(ev (.tmp 6)=.tuple #[.int .i64 0,.int .i64 0]):=hh.at 0;clear hh;refine Each.Goes.same ?_;go_simp;try with_reducible rfl
    ·refine Each.fine rfl (fun ev w1 hR hb hh=>?_);have e6:(ev (.tmp 6)=.tuple #[.int .i64 0,.int .i64 0]):=hh.at 0;clear hh;refine Each.Goes.same ?_;go_simp;try with_reducible rfl
    ·refine Each.fine rfl (fun ev w1 hR hb hh=>?_);have e17:(ev (.tmp 17)=.int .i64 0):=hh.at 0;clear hh;refine Each.Goes.same ?_;go_simp;try with_reducible rfl
    ·refine Each.fine rfl (fun ev w1 hR hb hh=>?_);have e18:(ev (.tmp 18)=.int .i64 0):=hh.at 0;clear hh;refine Each.Goes.same ?_;go_simp;try with_reducible rfl
   intro g1 w2 hb hf;have z4:(g1 4=.int .i64 0):=hf.at 13;have z5:(g1 5=.int .i64 0):=hf.at 14;clear hf;simp only [Each.putg,Act.put,List.setIfInBounds_toArray,List.set_cons_zero,List.set_cons_succ];rw [z4];rw [z5];have H1:=Lib.hid (H.out.below hb);have HB:=Lib.hid hb;clear HQ hb
   have H2:=Lib.hid ((H1.out.put 11 (.int .i64 6) {s with st:=6} rfl rfl rfl rfl rfl rfl).put 20 (.int .i64 0) {s with st:=6,lines:=0} rfl rfl rfl rfl rfl rfl)
   have HS2:=Lib.hid ((Step.of_below HB.out (L:=blks g q v f bd t o)).trans ((Step.set g 11 (.int .i64 6) (by simp)).trans (Step.set g 20 (.int .i64 0) (by simp))));have c11:=H1.out.cs.c11;have c20:=H1.out.cs.c20;have z11:=H1.out.marks 11;have z20:=H1.out.marks 20;go_upto_region 6 with fail
   generalize (w2.setCell ⟨g,11,none⟩ (.int .i64 6)).setCell ⟨g,20,none⟩ (.int .i64 0)=W1 at *;clear c11 c20 z11 z20 H1 HB;obtain ⟨S1,hS1⟩:∃S1:S,{s with st:=6,lines:=0}=S1:=⟨_,rfl⟩;have HS1:=Lib.hid hS1;rw [hS1] at H2;clear hS1
   have HQ:=Lib.hid ((H2.out.drew 1).bk)
   have HBW:=Lib.hid (show B≤(W1.drewN 1).heap.size from Nat.le_trans H2.out.own.ge (Nat.le_of_lt (H2.out.drew 1).own.lt));refine Each.region 11 [41,42,43,44,45,46,47,48,49,50,51]
    [fun v _=>v=.pointer (some ⟨g,0,none⟩),
      fun v _=>v=.pointer (some ⟨g,0,none⟩),
      fun v _=>v=.pointer (some ⟨g,0,none⟩),
      fun v _=>v=.pointer (some ⟨g,0,none⟩),
      fun v _=>v=.int .u32 (p:Int),
      fun v _=>v=.pointer (some ⟨g,0,none⟩),
      fun v _=>v=.pointer (some ⟨g,0,none⟩),
      fun v _=>v=.pointer (some ⟨g,1,none⟩),
      fun v _=>v=.pointer (some ⟨g,1,none⟩),
      fun v _=>v=.int .i64 b.x0,
      fun v w=>∃q1,v=ptr q1∧W1.heap.size≤q1∧Ln.Rr w B q1 nil p (nl p (b.x0))]
    (.quiet 11 (.quiet 12 (.act 13 .done))) (by kernel_rfl) (by kernel_rfl) (by kernel_rfl) (by kernel_rfl) (fun _ _ d _ _ h=>by cases d<;>exact h) (by rfl) (by rfl)
    ⟨Each.Lasts.eq _,Each.Lasts.eq _,Each.Lasts.eq _,Each.Lasts.eq _,Each.Lasts.eq _,Each.Lasts.eq _,Each.Lasts.eq _,Each.Lasts.eq _,Each.Lasts.eq _,Each.Lasts.eq _,((fun _ _ _ hb h=>by obtain ⟨q1,e1,h1,h2⟩:=h;exact ⟨q1,e1,h1,rr_below h2 hb⟩)),trivial⟩ ?_ ?_
   ·refine ⟨?_,?_,?_,?_,?_,?_,?_,?_,?_,?_,?_,trivial⟩
    ·refine Each.fine rfl (fun ev w1 hR hb hh=>?_);clear hh;have e0:=hR.old 0 rfl;simp only [Array.getD_eq_getD_getElem?,List.getElem?_toArray,List.getElem?_cons_zero,Option.getD_some] at e0;refine Each.Goes.same ?_;go_simp;try with_reducible rfl
    ·refine Each.fine rfl (fun ev w1 hR hb hh=>?_);clear hh;have e0:=hR.old 0 rfl;simp only [Array.getD_eq_getD_getElem?,List.getElem?_toArray,List.getElem?_cons_zero,Option.getD_some] at e0;refine Each.Goes.same ?_;go_simp;try with_reducible rfl
    ·refine Each.fine rfl (fun ev w1 hR hb hh=>?_);have e42:(ev (.tmp 42)=.pointer (some ⟨g,0,none⟩)):=hh.at 0;clear hh;refine Each.Goes.same ?_;go_simp;try with_reducible rfl
    ·refine Each.fine rfl (fun ev w1 hR hb hh=>?_);have e43:(ev (.tmp 43)=.pointer (some ⟨g,0,none⟩)):=hh.at 0;clear hh;refine Each.Goes.same ?_;go_simp;try with_reducible rfl
    ·refine Each.fine rfl (fun ev w1 hR hb hh=>?_);have e44:(ev (.tmp 44)=.pointer (some ⟨g,0,none⟩)):=hh.at 0;clear hh;have q0:=(HQ.out.below hb).c 0 _ rfl;refine Each.Goes.same ?_;go_simp;try with_reducible rfl
    ·refine Each.fine rfl (fun ev w1 hR hb hh=>?_);clear hh;have e0:=hR.old 0 rfl;simp only [Array.getD_eq_getD_getElem?,List.getElem?_toArray,List.getElem?_cons_zero,Option.getD_some] at e0;refine Each.Goes.same ?_;go_simp;try with_reducible rfl
    ·refine Each.fine rfl (fun ev w1 hR hb hh=>?_);have e46:(ev (.tmp 46)=.pointer (some ⟨g,0,none⟩)):=hh.at 0;clear hh;refine Each.Goes.same ?_;go_simp;try with_reducible rfl
    ·refine Each.fine rfl (fun ev w1 hR hb hh=>?_);have e47:(ev (.tmp 47)=.pointer (some ⟨g,0,none⟩)):=hh.at 0;clear hh;refine Each.Goes.same ?_;go_simp;try with_reducible rfl
    ·refine Each.fine rfl (fun ev w1 hR hb hh=>?_);have e48:(ev (.tmp 48)=.pointer (some ⟨g,1,none⟩)):=hh.at 0;clear hh;refine Each.Goes.same ?_;go_simp;try with_reducible rfl
    ·refine Each.fine rfl (fun ev w1 hR hb hh=>?_);have e49:(ev (.tmp 49)=.pointer (some ⟨g,1,none⟩)):=hh.at 0;clear hh;have q1:=(HQ.out.below hb).c 1 _ rfl;refine Each.Goes.same ?_;go_simp;try with_reducible rfl
    ·refine Each.fine rfl (fun ev w1 hR hb hh=>?_);have e45:(ev (.tmp 45)=.int .u32 (p:Int)):=hh.at 0;have e50:(ev (.tmp 50)=.int .i64 b.x0):=hh.at 1;clear hh;have ef:=hR.func
     refine Each.Goes.enter 55 #[.int .u32 (p:Int),.int .i64 (b.x0)] (by go_simp) ((rnew_line B (b.x0) w1 (Nat.le_trans HBW.out hb.size)).mono ?_);rintro r w2 ⟨q1,rfl,h1,h2,hb2⟩;exact ⟨_,rfl,hb2,q1,rfl,Nat.le_trans hb.size h1,h2⟩
   intro g1 w2 hb hf;have z41:(g1 41=.pointer (some ⟨g,0,none⟩)):=hf.at 0;have z51:((fun v w=>∃q1,v=ptr q1∧W1.heap.size≤q1∧Ln.Rr w B q1 nil p (nl p (b.x0))) (g1 51) w2):=hf.at 10;clear hf;obtain ⟨q1,e1,hq1,hr1⟩:=z51;simp only [Each.putg,Act.put,List.setIfInBounds_toArray,List.set_cons_zero,List.set_cons_succ];rw [e1,z41];simp only [Tree.grow,Tree.put1,List.getElem?_cons_zero,List.getElem?_cons_succ];refine Tree.quiet (by rfl) (ptr g) (fun _ _=>by go_simp) ?_;simp only [Act.put,List.setIfInBounds_toArray,List.set_cons_zero,List.set_cons_succ];refine Tree.quiet (by rfl) (.pointer (some ⟨g,12,none⟩)) (fun _ _=>by go_simp) ?_;simp only [Act.put,List.setIfInBounds_toArray,List.set_cons_zero,List.set_cons_succ];have c12:=(H2.out.below hb).cs.c12;have z12:=(H2.out.below hb).marks 12
   refine Tree.change (by rfl) (fun K hK=>?_);go_simp;refine hK _ _ trivial ?_;clear hK K;refine Tree.done ?_;have HL:=H2.out.line hb hr1 hq1
   have SL:=(Step.line (g:=g) (q:=q) (v:=v) (f:=f) (bd:=bd) (t:=t) (o:=o) hb hq1).trans (Step.set g 12 (ptr q1) (by simp));clear HQ HBW hr1 hq1 c12 z12;rw [←HS1.out] at HL;go_wp2;go_end0;exact ⟨rfl,q1,_,_,_,_,HL,HS2.out.trans SL⟩
  ·obtain ⟨bb,cb,eb, -⟩:=Ln.own_slice H.out.own.D;subst eb
   have HD:=Lib.hid (Base.wrap_in (b.x3-(s.r.body.length:Int)) (by omega) (by omega));have tz:¬(n:Int)=0:=by omega
   have tz':((n:Int)==0)=false:=beq_eq_false_iff_ne.2 tz
   by_cases hov:b.x3-(s.r.body.length:Int)<(n:Int)
   ·have e:s.chunk p b x.data.toList=s.fail 413:=by
     unfold S.chunk;rw [hZ];show (if (0:Int)≠0 then _ else if (n:Int)=0 then _ else if b.x3-(s.r.body.length:Int)<(n:Int) then _ else _)= _;rw [if_neg (by decide),if_neg tz,if_pos hov]
    rw [e];have HT:=Lib.hid hov;clear e hZ h0 h1 hn;go_enter Tryz.func83,Tryz.ntmps83;go_upto_region 0 with fail
    refine Each.region_all 15 [7,8,9,10,11,12,13,14,15,16,6,17,18,4,5]
     [fun v _=>v=.string x,
       fun v _=>v=.pointer (some ⟨g,0,none⟩),
       fun v _=>v=.pointer (some ⟨g,0,none⟩),
       fun v _=>v=.pointer (some ⟨g,0,none⟩),
       fun v _=>v=.int .u32 (p:Int),
       fun v _=>v=.pointer (some ⟨g,0,none⟩),
       fun v _=>v=.pointer (some ⟨g,0,none⟩),
       fun v _=>v=.pointer (some ⟨g,1,none⟩),
       fun v _=>v=.agg #[.int .i64 b.x0,.int .i64 b.x1,.int .i64 b.x2,.int .i64 b.x3,.int .i64 b.x4,.int .i64 b.x5,.int .i64 b.x6,.int .i64 b.x7,.bool b.ch,.bool b.od],
       fun v _=>v=.tuple #[.int .i64 (n:Int),.int .i64 0],
       fun v _=>v=.tuple #[.int .i64 (n:Int),.int .i64 0],
       fun v _=>v=.int .i64 (n:Int),
       fun v _=>v=.int .i64 0,
       fun v _=>v=.int .i64 (n:Int),
       fun v _=>v=.int .i64 0]
      (by kernel_rfl) (by kernel_rfl) (by kernel_rfl) (by kernel_rfl) (fun _ _ d _ _ h=>by cases d<;>exact h) (by rfl) (by rfl)
     ⟨Each.Lasts.eq _,Each.Lasts.eq _,Each.Lasts.eq _,Each.Lasts.eq _,Each.Lasts.eq _,Each.Lasts.eq _,Each.Lasts.eq _,Each.Lasts.eq _,Each.Lasts.eq _,Each.Lasts.eq _,Each.Lasts.eq _,Each.Lasts.eq _,Each.Lasts.eq _,Each.Lasts.eq _,Each.Lasts.eq _,trivial⟩ ?_ ?_
    ·refine ⟨?_,?_,?_,?_,?_,?_,?_,?_,?_,?_,?_,?_,?_,?_,?_,trivial⟩
     ·refine Each.fine rfl (fun ev w1 hR hb hh=>?_);clear hh;have e1:=hR.old 1 rfl;simp only [Array.getD_eq_getD_getElem?,List.getElem?_toArray,List.getElem?_cons_succ,List.getElem?_cons_zero,Option.getD_some] at e1;refine Each.Goes.same ?_;go_simp;try with_reducible rfl
     ·refine Each.fine rfl (fun ev w1 hR hb hh=>?_);clear hh;have e0:=hR.old 0 rfl;simp only [Array.getD_eq_getD_getElem?,List.getElem?_toArray,List.getElem?_cons_zero,Option.getD_some] at e0;refine Each.Goes.same ?_;go_simp;try with_reducible rfl
     ·refine Each.fine rfl (fun ev w1 hR hb hh=>?_);have e8:(ev (.tmp 8)=.pointer (some ⟨g,0,none⟩)):=hh.at 0;clear hh;refine Each.Goes.same ?_;go_simp;try with_reducible rfl
     ·refine Each.fine rfl (fun ev w1 hR hb hh=>?_);have e9:(ev (.tmp 9)=.pointer (some ⟨g,0,none⟩)):=hh.at 0;clear hh;refine Each.Goes.same ?_;go_simp;try with_reducible rfl
     ·refine Each.fine rfl (fun ev w1 hR hb hh=>?_);have e10:(ev (.tmp 10)=.pointer (some ⟨g,0,none⟩)):=hh.at 0;clear hh;have q0:=(HQ.out.below hb).c 0 _ rfl;refine Each.Goes.same ?_;go_simp;try with_reducible rfl
     ·refine Each.fine rfl (fun ev w1 hR hb hh=>?_);clear hh;have e0:=hR.old 0 rfl;simp only [Array.getD_eq_getD_getElem?,List.getElem?_toArray,List.getElem?_cons_zero,Option.getD_some] at e0;refine Each.Goes.same ?_;go_simp;try with_reducible rfl
     ·refine Each.fine rfl (fun ev w1 hR hb hh=>?_);have e12:(ev (.tmp 12)=.pointer (some ⟨g,0,none⟩)):=hh.at 0;clear hh;refine Each.Goes.same ?_;go_simp;try with_reducible rfl
     ·refine Each.fine rfl (fun ev w1 hR hb hh=>?_);have e13:(ev (.tmp 13)=.pointer (some ⟨g,0,none⟩)):=hh.at 0;clear hh;refine Each.Goes.same ?_;go_simp;try with_reducible rfl
     ·refine Each.fine rfl (fun ev w1 hR hb hh=>?_);have e14:(ev (.tmp 14)=.pointer (some ⟨g,1,none⟩)):=hh.at 0;clear hh;have q1:=(HQ.out.below hb).c 1 _ rfl;have q2:=(HQ.out.below hb).c 2 _ rfl;have q3:=(HQ.out.below hb).c 3 _ rfl;have q4:=(HQ.out.below hb).c 4 _ rfl;have q5:=(HQ.out.below hb).c 5 _ rfl;have q6:=(HQ.out.below hb).c 6 _ rfl;have q7:=(HQ.out.below hb).c 7 _ rfl;have q8:=(HQ.out.below hb).c 8 _ rfl;have q9:=(HQ.out.below hb).c 9 _ rfl;have q10:=(HQ.out.below hb).c 10 _ rfl;refine Each.Goes.same ?_;go_simp;try with_reducible rfl
     ·refine Each.fine rfl (fun ev w1 hR hb hh=>?_);have e7:(ev (.tmp 7)=.string x):=hh.at 0;have e11:(ev (.tmp 11)=.int .u32 (p:Int)):=hh.at 1;have e15:(ev (.tmp 15)=.agg #[.int .i64 b.x0,.int .i64 b.x1,.int .i64 b.x2,.int .i64 b.x3,.int .i64 b.x4,.int .i64 b.x5,.int .i64 b.x6,.int .i64 b.x7,.bool b.ch,.bool b.od]):=hh.at 2;clear hh;have ef:=hR.func
      refine Each.Goes.enter 95 #[.string x,.int .u32 (p:Int),.agg #[.int .i64 b.x0,.int .i64 b.x1,.int .i64 b.x2,.int .i64 b.x3,.int .i64 b.x4,.int .i64 b.x5,.int .i64 b.x6,.int .i64 b.x7,.bool b.ch,.bool b.od]] (by go_simp) ((HZ.out w1).mono ?_);rintro r w2 ⟨rfl,hb2⟩;exact ⟨_,rfl,hb2,rfl⟩
     ·refine Each.fine rfl (fun ev w1 hR hb hh=>?_);have e16:(ev (.tmp 16)=.tuple #[.int .i64 (n:Int),.int .i64 0]):=hh.at 0;clear hh;refine Each.Goes.same ?_;go_simp;try with_reducible rfl
     ·refine Each.fine rfl (fun ev w1 hR hb hh=>?_);have e6:(ev (.tmp 6)=.tuple #[.int .i64 (n:Int),.int .i64 0]):=hh.at 0;clear hh;refine Each.Goes.same ?_;go_simp;try with_reducible rfl
     ·refine Each.fine rfl (fun ev w1 hR hb hh=>?_);have e6:(ev (.tmp 6)=.tuple #[.int .i64 (n:Int),.int .i64 0]):=hh.at 0;clear hh;refine Each.Goes.same ?_;go_simp;try with_reducible rfl
     ·refine Each.fine rfl (fun ev w1 hR hb hh=>?_);have e17:(ev (.tmp 17)=.int .i64 (n:Int)):=hh.at 0;clear hh;refine Each.Goes.same ?_;go_simp;try with_reducible rfl
     ·refine Each.fine rfl (fun ev w1 hR hb hh=>?_);have e18:(ev (.tmp 18)=.int .i64 0):=hh.at 0;clear hh;refine Each.Goes.same ?_;go_simp;try with_reducible rfl
    intro g1 w2 hb hf;have z4:(g1 4=.int .i64 (n:Int)):=hf.at 13;have z5:(g1 5=.int .i64 0):=hf.at 14;clear hf;simp only [Each.putg,Act.put,List.setIfInBounds_toArray,List.set_cons_zero,List.set_cons_succ];rw [z4];rw [z5];have H1:=Lib.hid (H.out.below hb);have HB:=Lib.hid hb;clear HQ hb;go_upto_region 7 with fail
    have HQ:=Lib.hid ((H1.out.drew 1).bk);refine Each.region_all 15 [55,56,57,58,59,60,61,62,63,64,65,66,67,68,54]
     [fun v _=>v=.int .i64 ((n:Nat):Int),
       fun v _=>v=.pointer (some ⟨g,0,none⟩),
       fun v _=>v=.pointer (some ⟨g,0,none⟩),
       fun v _=>v=.pointer (some ⟨g,1,none⟩),
       fun v _=>v=.pointer (some ⟨g,4,none⟩),
       fun v _=>v=.int .i64 b.x3,
       fun v _=>v=.pointer (some ⟨g,0,none⟩),
       fun v _=>v=.pointer (some ⟨g,0,none⟩),
       fun v _=>v=.pointer (some ⟨g,13,none⟩),
       fun v _=>v=.pointer (some ⟨g,18,none⟩),
       fun v _=>v=.slice bb s.r.body.length cb,
       fun v _=>v=.int .i64 ((s.r.body.length:Nat):Int),
       fun v _=>v=.int .i64 (b.x3-(s.r.body.length:Int)),
       fun v _=>v=.bool true,
       fun v _=>v=.bool true]
      (by kernel_rfl) (by kernel_rfl) (by kernel_rfl) (by kernel_rfl) (fun _ _ d _ _ h=>by cases d<;>exact h) (by rfl) (by rfl)
     ⟨Each.Lasts.eq _,Each.Lasts.eq _,Each.Lasts.eq _,Each.Lasts.eq _,Each.Lasts.eq _,Each.Lasts.eq _,Each.Lasts.eq _,Each.Lasts.eq _,Each.Lasts.eq _,Each.Lasts.eq _,Each.Lasts.eq _,Each.Lasts.eq _,Each.Lasts.eq _,Each.Lasts.eq _,Each.Lasts.eq _,trivial⟩ ?_ ?_
    ·refine ⟨?_,?_,?_,?_,?_,?_,?_,?_,?_,?_,?_,?_,?_,?_,?_,trivial⟩
     ·refine Each.fine rfl (fun ev w1 hR hb hh=>?_);clear hh;have e4:=hR.old 4 rfl;simp only [Array.getD_eq_getD_getElem?,List.getElem?_toArray,List.getElem?_cons_succ,List.getElem?_cons_zero,Option.getD_some] at e4;refine Each.Goes.same ?_;go_simp;try with_reducible rfl
     ·refine Each.fine rfl (fun ev w1 hR hb hh=>?_);clear hh;have e0:=hR.old 0 rfl;simp only [Array.getD_eq_getD_getElem?,List.getElem?_toArray,List.getElem?_cons_zero,Option.getD_some] at e0;refine Each.Goes.same ?_;go_simp;try with_reducible rfl
     ·refine Each.fine rfl (fun ev w1 hR hb hh=>?_);have e56:(ev (.tmp 56)=.pointer (some ⟨g,0,none⟩)):=hh.at 0;clear hh;refine Each.Goes.same ?_;go_simp;try with_reducible rfl
     ·refine Each.fine rfl (fun ev w1 hR hb hh=>?_);have e57:(ev (.tmp 57)=.pointer (some ⟨g,0,none⟩)):=hh.at 0;clear hh;refine Each.Goes.same ?_;go_simp;try with_reducible rfl
     ·refine Each.fine rfl (fun ev w1 hR hb hh=>?_);have e58:(ev (.tmp 58)=.pointer (some ⟨g,1,none⟩)):=hh.at 0;clear hh;refine Each.Goes.same ?_;go_simp;try with_reducible rfl
     ·refine Each.fine rfl (fun ev w1 hR hb hh=>?_);have e59:(ev (.tmp 59)=.pointer (some ⟨g,4,none⟩)):=hh.at 0;clear hh;have q4:=(HQ.out.below hb).c 4 _ rfl;refine Each.Goes.same ?_;go_simp;try with_reducible rfl
     ·refine Each.fine rfl (fun ev w1 hR hb hh=>?_);clear hh;have e0:=hR.old 0 rfl;simp only [Array.getD_eq_getD_getElem?,List.getElem?_toArray,List.getElem?_cons_zero,Option.getD_some] at e0;refine Each.Goes.same ?_;go_simp;try with_reducible rfl
     ·refine Each.fine rfl (fun ev w1 hR hb hh=>?_);have e61:(ev (.tmp 61)=.pointer (some ⟨g,0,none⟩)):=hh.at 0;clear hh;refine Each.Goes.same ?_;go_simp;try with_reducible rfl
     ·refine Each.fine rfl (fun ev w1 hR hb hh=>?_);have e62:(ev (.tmp 62)=.pointer (some ⟨g,0,none⟩)):=hh.at 0;clear hh;refine Each.Goes.same ?_;go_simp;try with_reducible rfl
     ·refine Each.fine rfl (fun ev w1 hR hb hh=>?_);have e63:(ev (.tmp 63)=.pointer (some ⟨g,13,none⟩)):=hh.at 0;clear hh;refine Each.Goes.same ?_;go_simp;try with_reducible rfl
     ·refine Each.fine rfl (fun ev w1 hR hb hh=>?_);have e64:(ev (.tmp 64)=.pointer (some ⟨g,18,none⟩)):=hh.at 0;clear hh;have q18:=(HQ.out.below hb).c 18 _ rfl;refine Each.Goes.same ?_;go_simp;try with_reducible rfl
     ·refine Each.fine rfl (fun ev w1 hR hb hh=>?_);have e65:(ev (.tmp 65)=.slice bb s.r.body.length cb):=hh.at 0;clear hh;refine Each.Goes.same ?_;go_simp;try with_reducible rfl
     ·refine Each.fine rfl (fun ev w1 hR hb hh=>?_);have e60:(ev (.tmp 60)=.int .i64 b.x3):=hh.at 0;have e66:(ev (.tmp 66)=.int .i64 ((s.r.body.length:Nat):Int)):=hh.at 1;clear hh;have d1:=HD.out;refine Each.Goes.same ?_;go_simp;try with_reducible rfl
     ·refine Each.fine rfl (fun ev w1 hR hb hh=>?_);have e55:(ev (.tmp 55)=.int .i64 ((n:Nat):Int)):=hh.at 0;have e67:(ev (.tmp 67)=.int .i64 (b.x3-(s.r.body.length:Int))):=hh.at 1;clear hh;have d2:=HT.out;refine Each.Goes.same ?_;go_simp;try with_reducible rfl
     ·refine Each.fine rfl (fun ev w1 hR hb hh=>?_);have e68:(ev (.tmp 68)=.bool true):=hh.at 0;clear hh;refine Each.Goes.same ?_;go_simp;try with_reducible rfl
    intro g1 w3 hb hf;have z54:(g1 54=.bool true):=hf.at 14;clear hf;simp only [Each.putg,Act.put,List.setIfInBounds_toArray,List.set_cons_zero,List.set_cons_succ];rw [z54]
    have H2:=Lib.hid (H1.out.below hb);have HS2:=Lib.hid ((Step.of_below HB.out (L:=blks g q v f (.slice bb s.r.body.length cb) t o)).trans (Step.of_below hb));clear H1 HB hb HQ
    have HFA:=Lib.hid (fail_at H2.out 413 413 rfl)
    go_wp2_with (go_at_call 56;with_reducible refine HFA.out.mono ?_;rintro r w4 ⟨rfl,hP,hS⟩);go_end0;exact ⟨rfl,_,_,_,_,_,hP,HS2.out.trans hS⟩
   ·have e:s.chunk p b x.data.toList={s with st:=4,left:=n}:=by
     unfold S.chunk;rw [hZ];show (if (0:Int)≠0 then _ else if (n:Int)=0 then _ else if b.x3-(s.r.body.length:Int)<(n:Int) then _ else ({s with st:=4,left:=(n:Int).toNat}:S))= _;rw [if_neg (by decide),if_neg tz,if_neg hov,Int.toNat_natCast]
    rw [e];have HT:=Lib.hid hov;clear e hZ h0 h1 hn;go_enter Tryz.func83,Tryz.ntmps83;go_upto_region 0 with fail
    refine Each.region_all 15 [7,8,9,10,11,12,13,14,15,16,6,17,18,4,5]
     [fun v _=>v=.string x,
       fun v _=>v=.pointer (some ⟨g,0,none⟩),
       fun v _=>v=.pointer (some ⟨g,0,none⟩),
       fun v _=>v=.pointer (some ⟨g,0,none⟩),
       fun v _=>v=.int .u32 (p:Int),
       fun v _=>v=.pointer (some ⟨g,0,none⟩),
       fun v _=>v=.pointer (some ⟨g,0,none⟩),
       fun v _=>v=.pointer (some ⟨g,1,none⟩),
       fun v _=>v=.agg #[.int .i64 b.x0,.int .i64 b.x1,.int .i64 b.x2,.int .i64 b.x3,.int .i64 b.x4,.int .i64 b.x5,.int .i64 b.x6,.int .i64 b.x7,.bool b.ch,.bool b.od],
       fun v _=>v=.tuple #[.int .i64 (n:Int),.int .i64 0],
       fun v _=>v=.tuple #[.int .i64 (n:Int),.int .i64 0],
       fun v _=>v=.int .i64 (n:Int),
       fun v _=>v=.int .i64 0,
       fun v _=>v=.int .i64 (n:Int),
       fun v _=>v=.int .i64 0]
      (by kernel_rfl) (by kernel_rfl) (by kernel_rfl) (by kernel_rfl) (fun _ _ d _ _ h=>by cases d<;>exact h) (by rfl) (by rfl)
     ⟨Each.Lasts.eq _,Each.Lasts.eq _,Each.Lasts.eq _,Each.Lasts.eq _,Each.Lasts.eq _,Each.Lasts.eq _,Each.Lasts.eq _,Each.Lasts.eq _,Each.Lasts.eq _,Each.Lasts.eq _,Each.Lasts.eq _,Each.Lasts.eq _,Each.Lasts.eq _,Each.Lasts.eq _,Each.Lasts.eq _,trivial⟩ ?_ ?_
    ·refine ⟨?_,?_,?_,?_,?_,?_,?_,?_,?_,?_,?_,?_,?_,?_,?_,trivial⟩
     ·refine Each.fine rfl (fun ev w1 hR hb hh=>?_);clear hh;have e1:=hR.old 1 rfl;simp only [Array.getD_eq_getD_getElem?,List.getElem?_toArray,List.getElem?_cons_succ,List.getElem?_cons_zero,Option.getD_some] at e1;refine Each.Goes.same ?_;go_simp;try with_reducible rfl
     ·refine Each.fine rfl (fun ev w1 hR hb hh=>?_);clear hh;have e0:=hR.old 0 rfl;simp only [Array.getD_eq_getD_getElem?,List.getElem?_toArray,List.getElem?_cons_zero,Option.getD_some] at e0;refine Each.Goes.same ?_;go_simp;try with_reducible rfl
     ·refine Each.fine rfl (fun ev w1 hR hb hh=>?_);have e8:(ev (.tmp 8)=.pointer (some ⟨g,0,none⟩)):=hh.at 0;clear hh;refine Each.Goes.same ?_;go_simp;try with_reducible rfl
     ·refine Each.fine rfl (fun ev w1 hR hb hh=>?_);have e9:(ev (.tmp 9)=.pointer (some ⟨g,0,none⟩)):=hh.at 0;clear hh;refine Each.Goes.same ?_;go_simp;try with_reducible rfl
     ·refine Each.fine rfl (fun ev w1 hR hb hh=>?_);have e10:(ev (.tmp 10)=.pointer (some ⟨g,0,none⟩)):=hh.at 0;clear hh;have q0:=(HQ.out.below hb).c 0 _ rfl;refine Each.Goes.same ?_;go_simp;try with_reducible rfl
     ·refine Each.fine rfl (fun ev w1 hR hb hh=>?_);clear hh;have e0:=hR.old 0 rfl;simp only [Array.getD_eq_getD_getElem?,List.getElem?_toArray,List.getElem?_cons_zero,Option.getD_some] at e0;refine Each.Goes.same ?_;go_simp;try with_reducible rfl
     ·refine Each.fine rfl (fun ev w1 hR hb hh=>?_);have e12:(ev (.tmp 12)=.pointer (some ⟨g,0,none⟩)):=hh.at 0;clear hh;refine Each.Goes.same ?_;go_simp;try with_reducible rfl
     ·refine Each.fine rfl (fun ev w1 hR hb hh=>?_);have e13:(ev (.tmp 13)=.pointer (some ⟨g,0,none⟩)):=hh.at 0;clear hh;refine Each.Goes.same ?_;go_simp;try with_reducible rfl
     ·refine Each.fine rfl (fun ev w1 hR hb hh=>?_);have e14:(ev (.tmp 14)=.pointer (some ⟨g,1,none⟩)):=hh.at 0;clear hh;have q1:=(HQ.out.below hb).c 1 _ rfl;have q2:=(HQ.out.below hb).c 2 _ rfl;have q3:=(HQ.out.below hb).c 3 _ rfl;have q4:=(HQ.out.below hb).c 4 _ rfl;have q5:=(HQ.out.below hb).c 5 _ rfl;have q6:=(HQ.out.below hb).c 6 _ rfl;have q7:=(HQ.out.below hb).c 7 _ rfl;have q8:=(HQ.out.below hb).c 8 _ rfl;have q9:=(HQ.out.below hb).c 9 _ rfl;have q10:=(HQ.out.below hb).c 10 _ rfl;refine Each.Goes.same ?_;go_simp;try with_reducible rfl
     ·refine Each.fine rfl (fun ev w1 hR hb hh=>?_);have e7:(ev (.tmp 7)=.string x):=hh.at 0;have e11:(ev (.tmp 11)=.int .u32 (p:Int)):=hh.at 1;have e15:(ev (.tmp 15)=.agg #[.int .i64 b.x0,.int .i64 b.x1,.int .i64 b.x2,.int .i64 b.x3,.int .i64 b.x4,.int .i64 b.x5,.int .i64 b.x6,.int .i64 b.x7,.bool b.ch,.bool b.od]):=hh.at 2;clear hh;have ef:=hR.func
      refine Each.Goes.enter 95 #[.string x,.int .u32 (p:Int),.agg #[.int .i64 b.x0,.int .i64 b.x1,.int .i64 b.x2,.int .i64 b.x3,.int .i64 b.x4,.int .i64 b.x5,.int .i64 b.x6,.int .i64 b.x7,.bool b.ch,.bool b.od]] (by go_simp) ((HZ.out w1).mono ?_);rintro r w2 ⟨rfl,hb2⟩;exact ⟨_,rfl,hb2,rfl⟩
     ·refine Each.fine rfl (fun ev w1 hR hb hh=>?_);have e16:(ev (.tmp 16)=.tuple #[.int .i64 (n:Int),.int .i64 0]):=hh.at 0;clear hh;refine Each.Goes.same ?_;go_simp;try with_reducible rfl
     ·refine Each.fine rfl (fun ev w1 hR hb hh=>?_);have e6:(ev (.tmp 6)=.tuple #[.int .i64 (n:Int),.int .i64 0]):=hh.at 0;clear hh;refine Each.Goes.same ?_;go_simp;try with_reducible rfl
     ·refine Each.fine rfl (fun ev w1 hR hb hh=>?_);have e6:(ev (.tmp 6)=.tuple #[.int .i64 (n:Int),.int .i64 0]):=hh.at 0;clear hh;refine Each.Goes.same ?_;go_simp;try with_reducible rfl
     ·refine Each.fine rfl (fun ev w1 hR hb hh=>?_);have e17:(ev (.tmp 17)=.int .i64 (n:Int)):=hh.at 0;clear hh;refine Each.Goes.same ?_;go_simp;try with_reducible rfl
     ·refine Each.fine rfl (fun ev w1 hR hb hh=>?_);have e18:(ev (.tmp 18)=.int .i64 0):=hh.at 0;clear hh;refine Each.Goes.same ?_;go_simp;try with_reducible rfl
    intro g1 w2 hb hf;have z4:(g1 4=.int .i64 (n:Int)):=hf.at 13;have z5:(g1 5=.int .i64 0):=hf.at 14;clear hf;simp only [Each.putg,Act.put,List.setIfInBounds_toArray,List.set_cons_zero,List.set_cons_succ];rw [z4];rw [z5];have H1:=Lib.hid (H.out.below hb);have HB:=Lib.hid hb;clear HQ hb;go_upto_region 7 with fail
    have HQ:=Lib.hid ((H1.out.drew 1).bk);refine Each.region_all 15 [55,56,57,58,59,60,61,62,63,64,65,66,67,68,54]
     [fun v _=>v=.int .i64 ((n:Nat):Int),
       fun v _=>v=.pointer (some ⟨g,0,none⟩),
       fun v _=>v=.pointer (some ⟨g,0,none⟩),
       fun v _=>v=.pointer (some ⟨g,1,none⟩),
       fun v _=>v=.pointer (some ⟨g,4,none⟩),
       fun v _=>v=.int .i64 b.x3,
       fun v _=>v=.pointer (some ⟨g,0,none⟩),
       fun v _=>v=.pointer (some ⟨g,0,none⟩),
       fun v _=>v=.pointer (some ⟨g,13,none⟩),
       fun v _=>v=.pointer (some ⟨g,18,none⟩),
       fun v _=>v=.slice bb s.r.body.length cb,
       fun v _=>v=.int .i64 ((s.r.body.length:Nat):Int),
       fun v _=>v=.int .i64 (b.x3-(s.r.body.length:Int)),
       fun v _=>v=.bool false,
       fun v _=>v=.bool false]
      (by kernel_rfl) (by kernel_rfl) (by kernel_rfl) (by kernel_rfl) (fun _ _ d _ _ h=>by cases d<;>exact h) (by rfl) (by rfl)
     ⟨Each.Lasts.eq _,Each.Lasts.eq _,Each.Lasts.eq _,Each.Lasts.eq _,Each.Lasts.eq _,Each.Lasts.eq _,Each.Lasts.eq _,Each.Lasts.eq _,Each.Lasts.eq _,Each.Lasts.eq _,Each.Lasts.eq _,Each.Lasts.eq _,Each.Lasts.eq _,Each.Lasts.eq _,Each.Lasts.eq _,trivial⟩ ?_ ?_
    ·refine ⟨?_,?_,?_,?_,?_,?_,?_,?_,?_,?_,?_,?_,?_,?_,?_,trivial⟩
     ·refine Each.fine rfl (fun ev w1 hR hb hh=>?_);clear hh;have e4:=hR.old 4 rfl;simp only [Array.getD_eq_getD_getElem?,List.getElem?_toArray,List.getElem?_cons_succ,List.getElem?_cons_zero,Option.getD_some] at e4;refine Each.Goes.same ?_;go_simp;try with_reducible rfl
     ·refine Each.fine rfl (fun ev w1 hR hb hh=>?_);clear hh;have e0:=hR.old 0 rfl;simp only [Array.getD_eq_getD_getElem?,List.getElem?_toArray,List.getElem?_cons_zero,Option.getD_some] at e0;refine Each.Goes.same ?_;go_simp;try with_reducible rfl
     ·refine Each.fine rfl (fun ev w1 hR hb hh=>?_);have e56:(ev (.tmp 56)=.pointer (some ⟨g,0,none⟩)):=hh.at 0;clear hh;refine Each.Goes.same ?_;go_simp;try with_reducible rfl
     ·refine Each.fine rfl (fun ev w1 hR hb hh=>?_);have e57:(ev (.tmp 57)=.pointer (some ⟨g,0,none⟩)):=hh.at 0;clear hh;refine Each.Goes.same ?_;go_simp;try with_reducible rfl
     ·refine Each.fine rfl (fun ev w1 hR hb hh=>?_);have e58:(ev (.tmp 58)=.pointer (some ⟨g,1,none⟩)):=hh.at 0;clear hh;refine Each.Goes.same ?_;go_simp;try with_reducible rfl
     ·refine Each.fine rfl (fun ev w1 hR hb hh=>?_);have e59:(ev (.tmp 59)=.pointer (some ⟨g,4,none⟩)):=hh.at 0;clear hh;have q4:=(HQ.out.below hb).c 4 _ rfl;refine Each.Goes.same ?_;go_simp;try with_reducible rfl
     ·refine Each.fine rfl (fun ev w1 hR hb hh=>?_);clear hh;have e0:=hR.old 0 rfl;simp only [Array.getD_eq_getD_getElem?,List.getElem?_toArray,List.getElem?_cons_zero,Option.getD_some] at e0;refine Each.Goes.same ?_;go_simp;try with_reducible rfl
     ·refine Each.fine rfl (fun ev w1 hR hb hh=>?_);have e61:(ev (.tmp 61)=.pointer (some ⟨g,0,none⟩)):=hh.at 0;clear hh;refine Each.Goes.same ?_;go_simp;try with_reducible rfl
     ·refine Each.fine rfl (fun ev w1 hR hb hh=>?_);have e62:(ev (.tmp 62)=.pointer (some ⟨g,0,none⟩)):=hh.at 0;clear hh;refine Each.Goes.same ?_;go_simp;try with_reducible rfl
     ·refine Each.fine rfl (fun ev w1 hR hb hh=>?_);have e63:(ev (.tmp 63)=.pointer (some ⟨g,13,none⟩)):=hh.at 0;clear hh;refine Each.Goes.same ?_;go_simp;try with_reducible rfl
     ·refine Each.fine rfl (fun ev w1 hR hb hh=>?_);have e64:(ev (.tmp 64)=.pointer (some ⟨g,18,none⟩)):=hh.at 0;clear hh;have q18:=(HQ.out.below hb).c 18 _ rfl;refine Each.Goes.same ?_;go_simp;try with_reducible rfl
     ·refine Each.fine rfl (fun ev w1 hR hb hh=>?_);have e65:(ev (.tmp 65)=.slice bb s.r.body.length cb):=hh.at 0;clear hh;refine Each.Goes.same ?_;go_simp;try with_reducible rfl
     ·refine Each.fine rfl (fun ev w1 hR hb hh=>?_);have e60:(ev (.tmp 60)=.int .i64 b.x3):=hh.at 0;have e66:(ev (.tmp 66)=.int .i64 ((s.r.body.length:Nat):Int)):=hh.at 1;clear hh;have d1:=HD.out;refine Each.Goes.same ?_;go_simp;try with_reducible rfl
     ·refine Each.fine rfl (fun ev w1 hR hb hh=>?_);have e55:(ev (.tmp 55)=.int .i64 ((n:Nat):Int)):=hh.at 0;have e67:(ev (.tmp 67)=.int .i64 (b.x3-(s.r.body.length:Int))):=hh.at 1;clear hh;have d2:=HT.out;refine Each.Goes.same ?_;go_simp;try with_reducible rfl
     ·refine Each.fine rfl (fun ev w1 hR hb hh=>?_);have e68:(ev (.tmp 68)=.bool false):=hh.at 0;clear hh;refine Each.Goes.same ?_;go_simp;try with_reducible rfl
    intro g1 w3 hb hf;have z54:(g1 54=.bool false):=hf.at 14;clear hf;simp only [Each.putg,Act.put,List.setIfInBounds_toArray,List.set_cons_zero,List.set_cons_succ];rw [z54]
    have H2:=Lib.hid (H1.out.below hb);have HS2:=Lib.hid ((Step.of_below HB.out (L:=blks g q v f (.slice bb s.r.body.length cb) t o)).trans (Step.of_below hb));clear H1 HB hb HQ
    have H3:=Lib.hid ((H2.out.put 11 (.int .i64 4) {s with st:=4} rfl rfl rfl rfl rfl rfl).put 22 (.int .i64 (n:Int)) {s with st:=4,left:=n} rfl rfl rfl rfl rfl rfl)
    have HS3:=Lib.hid (HS2.out.trans ((Step.set g 11 (.int .i64 4) (by simp)).trans (Step.set g 22 (.int .i64 (n:Int)) (by simp))));have c11:=H2.out.cs.c11;have c22:=H2.out.cs.c22;have z11:=H2.out.marks 11;have z22:=H2.out.marks 22;go_wp2;go_end0;exact ⟨rfl,_,_,_,_,_,H3.out,HS3.out⟩
 ·have e2:z2=400:=e2;subst e2
  have HZ:=Lib.hid (show∀w,Calls Tryz.prog 95 #[.string x,.int .u32 (p:Int),.agg #[.int .i64 b.x0,.int .i64 b.x1,.int .i64 b.x2,.int .i64 b.x3,.int .i64 b.x4,.int .i64 b.x5,.int .i64 b.x6,.int .i64 b.x7,.bool b.ch,.bool b.od]] w fun e w'=>e=.returned (.tuple #[.int .i64 z1,.int .i64 400])∧Below w.heap.size w w' from fun w=>by have:=hz w;rw [hZ] at this;exact this);have e:s.chunk p b x.data.toList=s.fail 400:=by unfold S.chunk;rw [hZ];rfl
  rw [e];clear hz hZ e;go_enter Tryz.func83,Tryz.ntmps83;go_upto_region 0 with fail
  refine Each.region_all 15 [7,8,9,10,11,12,13,14,15,16,6,17,18,4,5]
   [fun v _=>v=.string x,
     fun v _=>v=.pointer (some ⟨g,0,none⟩),
     fun v _=>v=.pointer (some ⟨g,0,none⟩),
     fun v _=>v=.pointer (some ⟨g,0,none⟩),
     fun v _=>v=.int .u32 (p:Int),
     fun v _=>v=.pointer (some ⟨g,0,none⟩),
     fun v _=>v=.pointer (some ⟨g,0,none⟩),
     fun v _=>v=.pointer (some ⟨g,1,none⟩),
     fun v _=>v=.agg #[.int .i64 b.x0,.int .i64 b.x1,.int .i64 b.x2,.int .i64 b.x3,.int .i64 b.x4,.int .i64 b.x5,.int .i64 b.x6,.int .i64 b.x7,.bool b.ch,.bool b.od],
     fun v _=>v=.tuple #[.int .i64 z1,.int .i64 400],
     fun v _=>v=.tuple #[.int .i64 z1,.int .i64 400],
     fun v _=>v=.int .i64 z1,
     fun v _=>v=.int .i64 400,
     fun v _=>v=.int .i64 z1,
     fun v _=>v=.int .i64 400]
    (by kernel_rfl) (by kernel_rfl) (by kernel_rfl) (by kernel_rfl) (fun _ _ d _ _ h=>by cases d<;>exact h) (by rfl) (by rfl)
   ⟨Each.Lasts.eq _,Each.Lasts.eq _,Each.Lasts.eq _,Each.Lasts.eq _,Each.Lasts.eq _,Each.Lasts.eq _,Each.Lasts.eq _,Each.Lasts.eq _,Each.Lasts.eq _,Each.Lasts.eq _,Each.Lasts.eq _,Each.Lasts.eq _,Each.Lasts.eq _,Each.Lasts.eq _,Each.Lasts.eq _,trivial⟩ ?_ ?_
  ·refine ⟨?_,?_,?_,?_,?_,?_,?_,?_,?_,?_,?_,?_,?_,?_,?_,trivial⟩
   ·refine Each.fine rfl (fun ev w1 hR hb hh=>?_);clear hh;have e1:=hR.old 1 rfl;simp only [Array.getD_eq_getD_getElem?,List.getElem?_toArray,List.getElem?_cons_succ,List.getElem?_cons_zero,Option.getD_some] at e1;refine Each.Goes.same ?_;go_simp;try with_reducible rfl
   ·refine Each.fine rfl (fun ev w1 hR hb hh=>?_);clear hh;have e0:=hR.old 0 rfl;simp only [Array.getD_eq_getD_getElem?,List.getElem?_toArray,List.getElem?_cons_zero,Option.getD_some] at e0;refine Each.Goes.same ?_;go_simp;try with_reducible rfl
   ·refine Each.fine rfl (fun ev w1 hR hb hh=>?_);have e8:(ev (.tmp 8)=.pointer (some ⟨g,0,none⟩)):=hh.at 0;clear hh;refine Each.Goes.same ?_;go_simp;try with_reducible rfl
   ·refine Each.fine rfl (fun ev w1 hR hb hh=>?_);have e9:(ev (.tmp 9)=.pointer (some ⟨g,0,none⟩)):=hh.at 0;clear hh;refine Each.Goes.same ?_;go_simp;try with_reducible rfl
   ·refine Each.fine rfl (fun ev w1 hR hb hh=>?_);have e10:(ev (.tmp 10)=.pointer (some ⟨g,0,none⟩)):=hh.at 0;clear hh;have q0:=(HQ.out.below hb).c 0 _ rfl;refine Each.Goes.same ?_;go_simp;try with_reducible rfl
   ·refine Each.fine rfl (fun ev w1 hR hb hh=>?_);clear hh;have e0:=hR.old 0 rfl;simp only [Array.getD_eq_getD_getElem?,List.getElem?_toArray,List.getElem?_cons_zero,Option.getD_some] at e0;refine Each.Goes.same ?_;go_simp;try with_reducible rfl
   ·refine Each.fine rfl (fun ev w1 hR hb hh=>?_);have e12:(ev (.tmp 12)=.pointer (some ⟨g,0,none⟩)):=hh.at 0;clear hh;refine Each.Goes.same ?_;go_simp;try with_reducible rfl
   ·refine Each.fine rfl (fun ev w1 hR hb hh=>?_);have e13:(ev (.tmp 13)=.pointer (some ⟨g,0,none⟩)):=hh.at 0;clear hh;refine Each.Goes.same ?_;go_simp;try with_reducible rfl
   ·refine Each.fine rfl (fun ev w1 hR hb hh=>?_);have e14:(ev (.tmp 14)=.pointer (some ⟨g,1,none⟩)):=hh.at 0;clear hh;have q1:=(HQ.out.below hb).c 1 _ rfl;have q2:=(HQ.out.below hb).c 2 _ rfl;have q3:=(HQ.out.below hb).c 3 _ rfl;have q4:=(HQ.out.below hb).c 4 _ rfl;have q5:=(HQ.out.below hb).c 5 _ rfl;have q6:=(HQ.out.below hb).c 6 _ rfl;have q7:=(HQ.out.below hb).c 7 _ rfl;have q8:=(HQ.out.below hb).c 8 _ rfl;have q9:=(HQ.out.below hb).c 9 _ rfl;have q10:=(HQ.out.below hb).c 10 _ rfl;refine Each.Goes.same ?_;go_simp;try with_reducible rfl
   ·refine Each.fine rfl (fun ev w1 hR hb hh=>?_);have e7:(ev (.tmp 7)=.string x):=hh.at 0;have e11:(ev (.tmp 11)=.int .u32 (p:Int)):=hh.at 1;have e15:(ev (.tmp 15)=.agg #[.int .i64 b.x0,.int .i64 b.x1,.int .i64 b.x2,.int .i64 b.x3,.int .i64 b.x4,.int .i64 b.x5,.int .i64 b.x6,.int .i64 b.x7,.bool b.ch,.bool b.od]):=hh.at 2;clear hh;have ef:=hR.func
    refine Each.Goes.enter 95 #[.string x,.int .u32 (p:Int),.agg #[.int .i64 b.x0,.int .i64 b.x1,.int .i64 b.x2,.int .i64 b.x3,.int .i64 b.x4,.int .i64 b.x5,.int .i64 b.x6,.int .i64 b.x7,.bool b.ch,.bool b.od]] (by go_simp) ((HZ.out w1).mono ?_);rintro r w2 ⟨rfl,hb2⟩;exact ⟨_,rfl,hb2,rfl⟩
   ·refine Each.fine rfl (fun ev w1 hR hb hh=>?_);have e16:(ev (.tmp 16)=.tuple #[.int .i64 z1,.int .i64 400]):=hh.at 0;clear hh;refine Each.Goes.same ?_;go_simp;try with_reducible rfl
   ·refine Each.fine rfl (fun ev w1 hR hb hh=>?_);have e6:(ev (.tmp 6)=.tuple #[.int .i64 z1,.int .i64 400]):=hh.at 0;clear hh;refine Each.Goes.same ?_;go_simp;try with_reducible rfl
   ·refine Each.fine rfl (fun ev w1 hR hb hh=>?_);have e6:(ev (.tmp 6)=.tuple #[.int .i64 z1,.int .i64 400]):=hh.at 0;clear hh;refine Each.Goes.same ?_;go_simp;try with_reducible rfl
   ·refine Each.fine rfl (fun ev w1 hR hb hh=>?_);have e17:(ev (.tmp 17)=.int .i64 z1):=hh.at 0;clear hh;refine Each.Goes.same ?_;go_simp;try with_reducible rfl
   ·refine Each.fine rfl (fun ev w1 hR hb hh=>?_);have e18:(ev (.tmp 18)=.int .i64 400):=hh.at 0;clear hh;refine Each.Goes.same ?_;go_simp;try with_reducible rfl
  intro g1 w2 hb hf;have z4:(g1 4=.int .i64 z1):=hf.at 13;have z5:(g1 5=.int .i64 400):=hf.at 14;clear hf;simp only [Each.putg,Act.put,List.setIfInBounds_toArray,List.set_cons_zero,List.set_cons_succ];rw [z4];rw [z5];have H1:=Lib.hid (H.out.below hb);have HB:=Lib.hid hb;clear HQ hb
  have HFA:=Lib.hid (fail_at H1.out 400 400 rfl)
  go_wp2_with (go_at_call 56;with_reducible refine HFA.out.mono ?_;rintro r w3 ⟨rfl,hP,hS⟩);go_end0;exact ⟨rfl,_,_,_,_,_,hP,(Step.of_below HB.out).trans hS⟩
 ·have e2:z2=413:=e2;subst e2
  have HZ:=Lib.hid (show∀w,Calls Tryz.prog 95 #[.string x,.int .u32 (p:Int),.agg #[.int .i64 b.x0,.int .i64 b.x1,.int .i64 b.x2,.int .i64 b.x3,.int .i64 b.x4,.int .i64 b.x5,.int .i64 b.x6,.int .i64 b.x7,.bool b.ch,.bool b.od]] w fun e w'=>e=.returned (.tuple #[.int .i64 z1,.int .i64 413])∧Below w.heap.size w w' from fun w=>by have:=hz w;rw [hZ] at this;exact this);have e:s.chunk p b x.data.toList=s.fail 413:=by unfold S.chunk;rw [hZ];rfl
  rw [e];clear hz hZ e;go_enter Tryz.func83,Tryz.ntmps83;go_upto_region 0 with fail
  refine Each.region_all 15 [7,8,9,10,11,12,13,14,15,16,6,17,18,4,5]
   [fun v _=>v=.string x,
     fun v _=>v=.pointer (some ⟨g,0,none⟩),
     fun v _=>v=.pointer (some ⟨g,0,none⟩),
     fun v _=>v=.pointer (some ⟨g,0,none⟩),
     fun v _=>v=.int .u32 (p:Int),
     fun v _=>v=.pointer (some ⟨g,0,none⟩),
     fun v _=>v=.pointer (some ⟨g,0,none⟩),
     fun v _=>v=.pointer (some ⟨g,1,none⟩),
     fun v _=>v=.agg #[.int .i64 b.x0,.int .i64 b.x1,.int .i64 b.x2,.int .i64 b.x3,.int .i64 b.x4,.int .i64 b.x5,.int .i64 b.x6,.int .i64 b.x7,.bool b.ch,.bool b.od],
     fun v _=>v=.tuple #[.int .i64 z1,.int .i64 413],
     fun v _=>v=.tuple #[.int .i64 z1,.int .i64 413],
     fun v _=>v=.int .i64 z1,
     fun v _=>v=.int .i64 413,
     fun v _=>v=.int .i64 z1,
     fun v _=>v=.int .i64 413]
    (by kernel_rfl) (by kernel_rfl) (by kernel_rfl) (by kernel_rfl) (fun _ _ d _ _ h=>by cases d<;>exact h) (by rfl) (by rfl)
   ⟨Each.Lasts.eq _,Each.Lasts.eq _,Each.Lasts.eq _,Each.Lasts.eq _,Each.Lasts.eq _,Each.Lasts.eq _,Each.Lasts.eq _,Each.Lasts.eq _,Each.Lasts.eq _,Each.Lasts.eq _,Each.Lasts.eq _,Each.Lasts.eq _,Each.Lasts.eq _,Each.Lasts.eq _,Each.Lasts.eq _,trivial⟩ ?_ ?_
  ·refine ⟨?_,?_,?_,?_,?_,?_,?_,?_,?_,?_,?_,?_,?_,?_,?_,trivial⟩
   ·refine Each.fine rfl (fun ev w1 hR hb hh=>?_);clear hh;have e1:=hR.old 1 rfl;simp only [Array.getD_eq_getD_getElem?,List.getElem?_toArray,List.getElem?_cons_succ,List.getElem?_cons_zero,Option.getD_some] at e1;refine Each.Goes.same ?_;go_simp;try with_reducible rfl
   ·refine Each.fine rfl (fun ev w1 hR hb hh=>?_);clear hh;have e0:=hR.old 0 rfl;simp only [Array.getD_eq_getD_getElem?,List.getElem?_toArray,List.getElem?_cons_zero,Option.getD_some] at e0;refine Each.Goes.same ?_;go_simp;try with_reducible rfl
   ·refine Each.fine rfl (fun ev w1 hR hb hh=>?_);have e8:(ev (.tmp 8)=.pointer (some ⟨g,0,none⟩)):=hh.at 0;clear hh;refine Each.Goes.same ?_;go_simp;try with_reducible rfl
   ·refine Each.fine rfl (fun ev w1 hR hb hh=>?_);have e9:(ev (.tmp 9)=.pointer (some ⟨g,0,none⟩)):=hh.at 0;clear hh;refine Each.Goes.same ?_;go_simp;try with_reducible rfl
   ·refine Each.fine rfl (fun ev w1 hR hb hh=>?_);have e10:(ev (.tmp 10)=.pointer (some ⟨g,0,none⟩)):=hh.at 0;clear hh;have q0:=(HQ.out.below hb).c 0 _ rfl;refine Each.Goes.same ?_;go_simp;try with_reducible rfl
   ·refine Each.fine rfl (fun ev w1 hR hb hh=>?_);clear hh;have e0:=hR.old 0 rfl;simp only [Array.getD_eq_getD_getElem?,List.getElem?_toArray,List.getElem?_cons_zero,Option.getD_some] at e0;refine Each.Goes.same ?_;go_simp;try with_reducible rfl
   ·refine Each.fine rfl (fun ev w1 hR hb hh=>?_);have e12:(ev (.tmp 12)=.pointer (some ⟨g,0,none⟩)):=hh.at 0;clear hh;refine Each.Goes.same ?_;go_simp;try with_reducible rfl
   ·refine Each.fine rfl (fun ev w1 hR hb hh=>?_);have e13:(ev (.tmp 13)=.pointer (some ⟨g,0,none⟩)):=hh.at 0;clear hh;refine Each.Goes.same ?_;go_simp;try with_reducible rfl
   ·refine Each.fine rfl (fun ev w1 hR hb hh=>?_);have e14:(ev (.tmp 14)=.pointer (some ⟨g,1,none⟩)):=hh.at 0;clear hh;have q1:=(HQ.out.below hb).c 1 _ rfl;have q2:=(HQ.out.below hb).c 2 _ rfl;have q3:=(HQ.out.below hb).c 3 _ rfl;have q4:=(HQ.out.below hb).c 4 _ rfl;have q5:=(HQ.out.below hb).c 5 _ rfl;have q6:=(HQ.out.below hb).c 6 _ rfl;have q7:=(HQ.out.below hb).c 7 _ rfl;have q8:=(HQ.out.below hb).c 8 _ rfl;have q9:=(HQ.out.below hb).c 9 _ rfl;have q10:=(HQ.out.below hb).c 10 _ rfl;refine Each.Goes.same ?_;go_simp;try with_reducible rfl
   ·refine Each.fine rfl (fun ev w1 hR hb hh=>?_);have e7:(ev (.tmp 7)=.string x):=hh.at 0;have e11:(ev (.tmp 11)=.int .u32 (p:Int)):=hh.at 1;have e15:(ev (.tmp 15)=.agg #[.int .i64 b.x0,.int .i64 b.x1,.int .i64 b.x2,.int .i64 b.x3,.int .i64 b.x4,.int .i64 b.x5,.int .i64 b.x6,.int .i64 b.x7,.bool b.ch,.bool b.od]):=hh.at 2;clear hh;have ef:=hR.func
    refine Each.Goes.enter 95 #[.string x,.int .u32 (p:Int),.agg #[.int .i64 b.x0,.int .i64 b.x1,.int .i64 b.x2,.int .i64 b.x3,.int .i64 b.x4,.int .i64 b.x5,.int .i64 b.x6,.int .i64 b.x7,.bool b.ch,.bool b.od]] (by go_simp) ((HZ.out w1).mono ?_);rintro r w2 ⟨rfl,hb2⟩;exact ⟨_,rfl,hb2,rfl⟩
   ·refine Each.fine rfl (fun ev w1 hR hb hh=>?_);have e16:(ev (.tmp 16)=.tuple #[.int .i64 z1,.int .i64 413]):=hh.at 0;clear hh;refine Each.Goes.same ?_;go_simp;try with_reducible rfl
   ·refine Each.fine rfl (fun ev w1 hR hb hh=>?_);have e6:(ev (.tmp 6)=.tuple #[.int .i64 z1,.int .i64 413]):=hh.at 0;clear hh;refine Each.Goes.same ?_;go_simp;try with_reducible rfl
   ·refine Each.fine rfl (fun ev w1 hR hb hh=>?_);have e6:(ev (.tmp 6)=.tuple #[.int .i64 z1,.int .i64 413]):=hh.at 0;clear hh;refine Each.Goes.same ?_;go_simp;try with_reducible rfl
   ·refine Each.fine rfl (fun ev w1 hR hb hh=>?_);have e17:(ev (.tmp 17)=.int .i64 z1):=hh.at 0;clear hh;refine Each.Goes.same ?_;go_simp;try with_reducible rfl
   ·refine Each.fine rfl (fun ev w1 hR hb hh=>?_);have e18:(ev (.tmp 18)=.int .i64 413):=hh.at 0;clear hh;refine Each.Goes.same ?_;go_simp;try with_reducible rfl
  intro g1 w2 hb hf;have z4:(g1 4=.int .i64 z1):=hf.at 13;have z5:(g1 5=.int .i64 413):=hf.at 14;clear hf;simp only [Each.putg,Act.put,List.setIfInBounds_toArray,List.set_cons_zero,List.set_cons_succ];rw [z4];rw [z5];have H1:=Lib.hid (H.out.below hb);have HB:=Lib.hid hb;clear HQ hb
  have HFA:=Lib.hid (fail_at H1.out 413 413 rfl)
  go_wp2_with (go_at_call 56;with_reducible refine HFA.out.mono ?_;rintro r w3 ⟨rfl,hP,hS⟩);go_end0;exact ⟨rfl,_,_,_,_,_,hP,(Step.of_below HB.out).trans hS⟩
end code
end Go.Proofs.YtimoakmcelocfaaGreat.Par
namespace Go.Proofs.YtimoakmcelocfaaGreat.Rq
open Go.RowKit Base Txt
theorem pair_info:(Tryz.prog.info? 145).map (fun i=>(i.zero,i.size,i.bytes))=some (some (.agg #[.int .i64 0,.int .i64 0]),2,16):=by kernel_rfl
section code
set_option maxHeartbeats 1000000
attribute [local go_sem] Base.some_undef
set_option maxRecDepth 10000 in
theorem rbytes_any (t:ByteArray) (p:Nat) (hp:p<4294967296) (w:World) (h0:0<t.size) (ht:t.size≤900000000):Calls Tryz.prog 88 #[.string t,.int .u32 (p:Nat)] w fun e w'=>
 e=.returned (.bool (tgtB (clOf p) t.data.toList))∧w'=w:=by
 have H7:=Lib.hid (fun w=>Qk.rhas_any p hp 7 w)
 have H8:=Lib.hid (fun w=>Qk.rhas_any p hp 8 w);have hlets:∀x,letsT (clOf p) x=(Oct.visible (x.toNat:Int)|| (Qk.has p 7&&Oct.blank (x.toNat:Int)||Qk.has p 8&&Oct.control (x.toNat:Int))):=fun _=>rfl;have hok:tgtB (clOf p) t.data.toList=t.data.toList.all (letsT (clOf p)):=rfl;have t0:=first_no t h0;rw [hok];clear hok;generalize hq:letsT (clOf p)=q at *;clear hq;have HL:=Lib.hid hlets;clear hlets;generalize Qk.has p 7=sp at *;generalize Qk.has p 8=co at *;cases sp<;>cases co;all_goals
  go_enter Tryz.func88,Tryz.ntmps88;go_upto_region 2 with fail
  go_loopw [5] (fun i wr=>∃k:Nat,k≤t.size∧i=.int .i64 k∧wr=w∧Hid ((t.data.toList.take k).all q=true)) (fun i _=>t.size-(intOf i).toNat)
  case atStart=>exact ⟨0,Nat.zero_le _,rfl,rfl,Lib.hid rfl⟩
  case round=>
   obtain ⟨k,hk,rfl,hwr,hpre⟩:=hrel;subst hwr;rcases Nat.lt_or_ge k t.size with hlt | hge
   ·have i1:(k:Int)<(t.size:Int):=by omega
    have HQ:=Lib.hid (HL.out (t[k]))
    have HS:=Lib.hid (all_take q t.data.toList k (by rw [len];exact hlt) hpre.out)
    have HN:=Lib.hid (all_not q t.data.toList k (by rw [len];exact hlt));have hgt:t.data.toList[k]'(by rw [len];exact hlt)=t[k]:=rfl;rw [hgt] at HS HN;clear hgt;obtain ⟨b,hb⟩:∃b,t[k]=b:=⟨_,rfl⟩;have hn:∀hh,t[k]'hh=b:=fun _=>hb;rw [hb] at HQ HS HN;clear hb
    have HV:=Lib.hid (fun w=>Oct.rvisible_any (b.toNat:Int) w)
    have HB:=Lib.hid (fun w=>Oct.rblank_any (b.toNat:Int) w)
    have HC:=Lib.hid (fun w=>Oct.rcontrol_any (b.toNat:Int) w);generalize Oct.visible (b.toNat:Int)=v at *;generalize Oct.blank (b.toNat:Int)=bk at *;generalize Oct.control (b.toNat:Int)=ct at *;cases v
    ·cases bk<;>cases ct;all_goals
      go_wp2_with (first
       |(go_at_call 99;with_reducible refine (HV.out _).mono ?_;rintro e w1 ⟨rfl,hw⟩;rw [hw];clear hw)
       |(go_at_call 100;with_reducible refine (HB.out _).mono ?_;rintro e w1 ⟨rfl,hw⟩;rw [hw];clear hw)
       |(go_at_call 101;with_reducible refine (HC.out _).mono ?_;rintro e w1 ⟨rfl,hw⟩;rw [hw];clear hw)
       |(go_at_call 39;with_reducible refine (H7.out _).mono ?_;rintro e w1 ⟨rfl,hw⟩;rw [hw];clear hw)
       |(go_at_call 39;with_reducible refine (H8.out _).mono ?_;rintro e w1 ⟨rfl,hw⟩;rw [hw];clear hw))
      first
       |(go_ret;exact ⟨by rw [HN.out (by rw [HQ.out];rfl)];rfl,rfl⟩)
       |(go_roundw
         case rel=>exact ⟨k+1,by omega,by go_num,by first | rfl | trivial,Lib.hid (HS.out (by rw [HQ.out];rfl))⟩
         case measure=>simp [intOf];omega)
    ·go_wp2_with (go_at_call 99;with_reducible refine (HV.out _).mono ?_;rintro e w1 ⟨rfl,hw⟩;rw [hw];clear hw);go_roundw
     case rel=>exact ⟨k+1,by omega,by go_num,by first | rfl | trivial,Lib.hid (HS.out (by rw [HQ.out];rfl))⟩
     case measure=>simp [intOf];omega
   ·obtain rfl:k=t.size:=by omega
    have hall:=hpre.out;rw [take_all t _ (Nat.le_refl _)] at hall;have HALL:=Lib.hid hall;clear hpre hall HL;go_wp2_with fail;go_ret;rw [HALL.out];exact ⟨by first | rfl | simp,rfl⟩
theorem rversion_any (s:ByteArray) (p:Nat) (hp:p<4294967296) (w:World) (h0:0<s.size):Calls Tryz.prog 90 #[.string s,.int .u32 (p:Nat)] w fun e w'=>
 (∃k:Nat,e=.returned (.tuple #[.int .i64 (k:Int),.bool (verL (clOf p) s.data.toList).isSome])∧∀j,verL (clOf p) s.data.toList=some j→k=j)∧Below w.heap.size w w':=by
 have hne:s.data.toList≠ []:=fun h=>by
  have:s.size=0:=by rw [←len,h];rfl
  omega
 have ev:verL (clOf p) s.data.toList=if knownV (clOf p) s.data.toList=true then (if s.data.toList.getD 7 0=48 then some 0 else if (s.data.toList.getD 7 0==49||Qk.has p 4)=true then some 1 else none) else none:=by rw [verL,if_neg hne];rfl
 clear hne;by_cases h8:s.size=8
 ·obtain ⟨e1,e2⟩:=len8 s h8;have hx:(s.extract 0 7).size=7:=by rw [←len,e2,List.length_take,len];omega
  have H5:=Lib.hid (fun w=>Qk.rhas_any p hp 5 w)
  have H4:=Lib.hid (fun w=>Qk.rhas_any p hp 4 w)
  have HS:=Lib.hid (fun w=>rsame_any (s.extract 0 7) ⟨#[72,84,84,80,47,49,46]⟩ w (by rw [hx];decide) (by decide))
  have HD:=Lib.hid (fun w=>Oct.rdigit_any ((s[7]'(by omega)).toNat:Int) w);have ek:knownV (clOf p) s.data.toList=(Oct.digit ((s[7]'(by omega)).toNat:Int)&&(((s.extract 0 7).data.toList==http1)|| (Qk.has p 5&&same (s.extract 0 7) ⟨#[72,84,84,80,47,49,46]⟩))):=by
   unfold knownV same
   have hl:decide (s.data.toList.length=8)=true:=decide_eq_true (by rw [len];exact h8);rw [hl,Bool.true_and,e1,e2];rfl
  obtain ⟨t1,t2⟩:=eq_facts (s.extract 0 7) [72,84,84,80,47,49,46] (decide ((s.extract 0 7).data.toList=http1)) rfl;have e3:((s.extract 0 7).data.toList==http1)=decide ((s.extract 0 7).data.toList=http1):=by rw [Bool.eq_iff_iff,beq_iff_eq,decide_eq_true_eq]
  rw [ek,e1,e3] at ev;clear e1 e2 ek e3 hx;have hsz:(s.size:Int)=8:=by omega
  obtain ⟨d,hd⟩:∃d,s[7]'(by omega)=d:=⟨_,rfl⟩;have hn:∀hh,s[7]'hh=d:=fun _=>hd;rw [hd] at HD ev;clear hd;generalize decide ((s.extract 0 7).data.toList=http1)=r1 at *;generalize same (s.extract 0 7) ⟨#[72,84,84,80,47,49,46]⟩=r2 at *;generalize Qk.has p 5=r3 at *;generalize Qk.has p 4=r5 at *;generalize Oct.digit (d.toNat:Int)=r4 at *;generalize verL (clOf p) s.data.toList=V at *;obtain ⟨x,hx⟩:∃x,s.extract 0 7=x:=⟨_,rfl⟩;rw [hx] at HS t1 t2;cases r4 with
  | false=>
    rw [Bool.false_and,if_neg (by decide)] at ev;subst ev;go_enter Tryz.func90,Tryz.ntmps90
    go_wp2_with (go_at_call 106;with_reducible refine (HD.out _).mono ?_;rintro e w1 ⟨rfl,hw⟩;rw [hw];clear hw);go_ret2;exact ⟨⟨0,rfl,fun j h=>by cases h⟩,Below.refl _ _⟩
  | true=>
    have hb:(r1=false∧r3=false)∨(r1=false∧r3=true∧r2=false)∨(r1|| (r3&&r2))=true:=by cases r1<;>cases r2<;>cases r3<;>simp
    by_cases h1:(r1|| (r3&&r2))=true
    ·rw [h1,Bool.and_true,if_pos rfl] at ev;by_cases h48:d=48
     ·rw [if_pos h48] at ev;subst ev h48
      replace HD:Hid (∀w,Calls Tryz.prog 106 #[.int .u8 48] w fun e w'=>e=.returned (.bool true)∧w'=w):=HD
      cases r1<;>cases r3<;>cases r2<;>simp at h1;all_goals
       go_enter Tryz.func90,Tryz.ntmps90
       go_wp2_with (first
        |(go_at_call 106;with_reducible refine (HD.out _).mono ?_;rintro e w1 ⟨rfl,hw⟩;rw [hw];clear hw)
        |(go_at_call 39;with_reducible refine (H5.out _).mono ?_;rintro e w1 ⟨rfl,hw⟩;rw [hw];clear hw)
        |(go_at_call 104;with_reducible refine (HS.out _).mono ?_;rintro e w2 ⟨rfl,hb2⟩))
       go_ret2;first
        | exact ⟨⟨0,rfl,fun j h=>by cases h;rfl⟩,hb2⟩
        | exact ⟨⟨0,rfl,fun j h=>by cases h;rfl⟩,Below.refl _ _⟩
     ·rw [if_neg h48] at ev
      have n48:¬(d.toNat:Int)=48:=fun h=>h48 (UInt8.toNat_inj.1 (by show d.toNat=48;omega));clear h48;by_cases h49:d=49
      ·subst h49;rw [if_pos (by rfl)] at ev;subst ev
       replace HD:Hid (∀w,Calls Tryz.prog 106 #[.int .u8 49] w fun e w'=>e=.returned (.bool true)∧w'=w):=HD
       cases r1<;>cases r3<;>cases r2<;>simp at h1;all_goals
        go_enter Tryz.func90,Tryz.ntmps90
        go_wp2_with (first
         |(go_at_call 106;with_reducible refine (HD.out _).mono ?_;rintro e w1 ⟨rfl,hw⟩;rw [hw];clear hw)
         |(go_at_call 39;with_reducible refine (H5.out _).mono ?_;rintro e w1 ⟨rfl,hw⟩;rw [hw];clear hw)
         |(go_at_call 104;with_reducible refine (HS.out _).mono ?_;rintro e w2 ⟨rfl,hb2⟩))
        go_ret2;first
         | exact ⟨⟨1,rfl,fun j h=>by cases h;rfl⟩,hb2⟩
         | exact ⟨⟨1,rfl,fun j h=>by cases h;rfl⟩,Below.refl _ _⟩
      ·have n49:¬(d.toNat:Int)=49:=fun h=>h49 (UInt8.toNat_inj.1 (by show d.toNat=49;omega));have e49:(d==49)=false:=by simpa using h49
       rw [e49,Bool.false_or] at ev;clear h49 e49;have hV:V.isSome=r5∧∀j,V=some j→1=j:=by
        cases r5 with
        | true=>rw [if_pos rfl] at ev;subst ev;exact ⟨rfl,fun j h=>by cases h;rfl⟩
        | false=>rw [if_neg (by decide)] at ev;subst ev;exact ⟨rfl,fun j h=>by cases h⟩
       rw [hV.1];have HVV:=Lib.hid hV.2;clear hV ev;cases r1<;>cases r3<;>cases r2<;>simp at h1;all_goals
        go_enter Tryz.func90,Tryz.ntmps90
        go_wp2_with (first
         |(go_at_call 106;with_reducible refine (HD.out _).mono ?_;rintro e w1 ⟨rfl,hw⟩;rw [hw];clear hw)
         |(go_at_call 39;with_reducible refine (H5.out _).mono ?_;rintro e w1 ⟨rfl,hw⟩;rw [hw];clear hw)
         |(go_at_call 39;with_reducible refine (H4.out _).mono ?_;rintro e w1 ⟨rfl,hw⟩;rw [hw];clear hw)
         |(go_at_call 104;with_reducible refine (HS.out _).mono ?_;rintro e w2 ⟨rfl,hb2⟩))
        go_ret2;first
         | exact ⟨⟨1,rfl,HVV.out⟩,hb2⟩
         | exact ⟨⟨1,rfl,HVV.out⟩,Below.refl _ _⟩
    ·have h1f:(r1|| (r3&&r2))=false:=by simpa using h1
     rw [h1f,Bool.and_false,if_neg (by decide)] at ev;subst ev;cases r1<;>cases r3<;>cases r2<;>simp at h1f;all_goals
      go_enter Tryz.func90,Tryz.ntmps90
      go_wp2_with (first
       |(go_at_call 106;with_reducible refine (HD.out _).mono ?_;rintro e w1 ⟨rfl,hw⟩;rw [hw];clear hw)
       |(go_at_call 39;with_reducible refine (H5.out _).mono ?_;rintro e w1 ⟨rfl,hw⟩;rw [hw];clear hw)
       |(go_at_call 104;with_reducible refine (HS.out _).mono ?_;rintro e w2 ⟨rfl,hb2⟩))
      go_ret2;first
       | exact ⟨⟨0,rfl,fun j h=>by cases h⟩,hb2⟩
       | exact ⟨⟨0,rfl,fun j h=>by cases h⟩,Below.refl _ _⟩
 ·have e:knownV (clOf p) s.data.toList=false:=by unfold knownV;rw [len,decide_eq_false h8];rfl
  rw [e,if_neg (by decide)] at ev;rw [ev];clear e ev;have h1:¬(s.size:Int)=8:=by omega
  go_enter Tryz.func90,Tryz.ntmps90;go_wp2_with fail;go_ret2;exact ⟨⟨0,rfl,fun j h=>by cases h⟩,Below.refl _ _⟩
end code
end Go.Proofs.YtimoakmcelocfaaGreat.Rq
namespace Go.Proofs.YtimoakmcelocfaaGreat.Rq
open Go.RowKit Base Txt
def Spn (w:World) (a:Option Addr) (n:Nat) (sp:List (Nat × Nat)):Prop:=
 sp.length=n∧(0<n→∃b,a=some ⟨b,0,none⟩∧b<w.heap.size∧∀k,(hk:k<sp.length)→w.cell? ⟨b,k*2,none⟩=some (.int .i64 (sp[k].1:Nat))∧w.cell? ⟨b,k*2+1,none⟩=some (.int .i64 (sp[k].2:Nat)))
theorem Spn.of_own {w:World} {base:Nat} {e:TypeId} {v:Value} {sp:List (Nat × Nat)} (h:w.ownsRow base e 2 v sp.length (Lib.spanCells sp)):∃A c,v=.slice A sp.length c∧Spn w A sp.length sp:=by
 rcases h.2 with ⟨rfl,hx⟩ | ⟨g,cap,cur,rfl,hb,hh,hcap,hcs,h9,ht⟩
 ·have h0:sp.length=0:=hx;rw [h0];exact ⟨none,0,rfl,h0,fun q=>absurd q (by omega)⟩
 ·have hlt:g<w.heap.size:=by
   rcases Nat.lt_or_ge g w.heap.size with h | h
   ·exact h
   ·rw [Array.getElem?_eq_none h] at hh;cases hh
  refine ⟨_,_,rfl,rfl,fun _=>⟨g,rfl,hlt,fun k hk=>?_⟩⟩
  have h1:=h.cellAt (k*2) (by omega)
  have h2:=h.cellAt (k*2+1) (by omega)
  have h3:=Lib.spanCells_at sp k sp[k] (List.getElem?_eq_getElem hk);exact ⟨h1.trans h3.1,h2.trans h3.2⟩
def Done (bl:Bool) (l:List UInt8) (k f:Nat) (done:List (Nat × Nat)):Prop:=
 (k≤l.length∧f≤k∧spans bl l=(pcs (sepB bl) (!bl) (l.drop k) k f).map (done ++ ·))∨(k=l.length+1∧spans bl l=some done)
theorem Done.start (bl:Bool) (l:List UInt8):Done bl l 0 0 []:=.inl ⟨Nat.zero_le _,Nat.le_refl _,by rw [List.drop_zero];show _=(spans bl l).map _;cases spans bl l<;>simp⟩
theorem Done.miss {bl:Bool} {l:List UInt8} {k f:Nat} {done:List (Nat × Nat)} (h:Done bl l k f done) (hk:k<l.length) (hp:sepB bl l[k]=false):f≤k∧Done bl l (k+1) f done:=by
 rcases h with ⟨_,h1,h2⟩ | ⟨h,_⟩
 ·refine ⟨h1,.inl ⟨by omega,by omega,?_⟩⟩;rw [h2,List.drop_eq_getElem_cons hk,pcs,if_neg (by rw [hp];decide)]
 ·omega
theorem Done.empty {bl:Bool} {l:List UInt8} {k:Nat} {done:List (Nat × Nat)} (h:Done bl l k k done) (hk:k<l.length) (hp:sepB bl l[k]=true):if bl=true then Done bl l (k+1) (k+1) done else spans bl l=none:=by
 rcases h with ⟨_,_,h2⟩ | ⟨h,_⟩
 ·rw [List.drop_eq_getElem_cons hk,pcs,if_pos hp,if_pos rfl] at h2;cases bl with
  | true=>exact .inl ⟨by omega,Nat.le_refl _,h2⟩
  | false=>exact h2
 ·omega
theorem Done.empty' {bl:Bool} {l:List UInt8} {k f:Nat} {done:List (Nat × Nat)} (h:Done bl l k f done) (e:f=k) (hk:k<l.length) (hp:sepB bl l[k]=true):if bl=true then Done bl l (k+1) (k+1) done else spans bl l=none:=by subst e;exact h.empty hk hp
theorem Done.end_empty' {bl:Bool} {l:List UInt8} {f:Nat} {done:List (Nat × Nat)} (n:Nat) (hn:l.length=n) (h:Done bl l n f done) (e:f=n):if bl=true then Done bl l (n+1) (n+1) done else spans bl l=none:=by
 subst e;subst hn;rcases h with ⟨_,_,h2⟩ | ⟨h,_⟩
 ·rw [List.drop_length,pcs,if_pos rfl] at h2;cases bl with
  | true=>exact .inr ⟨rfl,by rw [h2];simp⟩
  | false=>exact h2
 ·omega
theorem Done.end_hit' {bl:Bool} {l:List UInt8} {f:Nat} {done:List (Nat × Nat)} (n:Nat) (hn:l.length=n) (h:Done bl l n f done) (hf:f<n):Done bl l (n+1) (n+1) (done ++ [(f,n)]):=by
 subst hn;rcases h with ⟨_,_,h2⟩ | ⟨h,_⟩
 ·refine .inr ⟨rfl,?_⟩;rw [h2,List.drop_length,pcs,if_neg (by omega)];rfl
 ·omega
theorem Done.full {bl:Bool} {l:List UInt8} {k f:Nat} {done:List (Nat × Nat)} (h:Done bl l k f done) (hk:l.length<k):spans bl l=some done:=by
 rcases h with ⟨h,_⟩ | ⟨_,h⟩
 ·omega
 ·exact h
theorem Done.hit {bl:Bool} {l:List UInt8} {k f:Nat} {done:List (Nat × Nat)} (h:Done bl l k f done) (hf:f<k) (hk:k<l.length) (hp:sepB bl l[k]=true):Done bl l (k+1) (k+1) (done ++ [(f,k)]):=by
 rcases h with ⟨_,h1,h2⟩ | ⟨h,_⟩
 ·refine .inl ⟨by omega,Nat.le_refl _,?_⟩;rw [h2,List.drop_eq_getElem_cons hk,pcs,if_pos hp,if_neg (by omega),Option.map_map]
  congr 1
  funext x
  simp
 ·omega
theorem Done.le {bl:Bool} {l:List UInt8} {k f:Nat} {done:List (Nat × Nat)} (h:Done bl l k f done) (hk:k≤l.length):f≤k:=by
 rcases h with ⟨_,h1,_⟩ | ⟨h,_⟩
 ·exact h1
 ·omega
theorem news_two (w:World) (x y:Value) (t:TypeId):∀(j:Nat) (u:Value),[x,y][j]?=some u→(w.alloc (.cells #[x,y] t)).cell? (Addr.add ⟨w.heap.size,0,none⟩ j)=some u:=by
 intro j u hu;have hj:j=0∨j=1:=by
  rcases Nat.lt_or_ge j 2 with h | h
  ·omega
  ·rw [List.getElem?_eq_none (by simpa using h)] at hu;cases hu
 have key:=cell_of_row (w.alloc (.cells #[x,y] t)) w.heap.size j #[x,y] t (0,0) (heap_alloc_new w _);have e2:Addr.add ⟨w.heap.size,0,none⟩ j=⟨w.heap.size,j,none⟩:=by unfold Addr.add;rcases hj with rfl | rfl<;>simp
 rw [e2];refine key.trans ?_;rcases hj with rfl | rfl<;>simpa using hu
section code
set_option maxHeartbeats 2000000
attribute [local go_sem] Base.some_undef
set_option maxRecDepth 10000 in
theorem rpieces_any (s:ByteArray) (bl:Bool) (w:World) (hs:s.size≤900000000):Calls Tryz.prog 97 #[.string s,.bool bl] w fun e w'=>
 (match spans bl s.data.toList with
   | none=>e=.returned (.tuple #[.slice none 0 0,.bool false])
   | some sp=>∃a c,e=.returned (.tuple #[.slice a sp.length c,.bool true])∧Spn w' a sp.length sp)∧Below w.heap.size w w':=by
 obtain ⟨i0,hi,hz0,hz1,hz2⟩:=info_parts pair_info;have G1:=Lib.hid hi;have G2:=Lib.hid hz0;have G3:=Lib.hid hz1;have G4:=Lib.hid hz2;clear hi hz0 hz1 hz2;obtain ⟨PS,hPS⟩:∃PS,spans bl s.data.toList=PS:=⟨_,rfl⟩;rw [hPS];have HPS:=Lib.hid hPS;clear hPS;go_enter Tryz.func97,Tryz.ntmps97;go_wp2
 go_loopw [6,7,8] (fun v fr i wr=>∃(k f:Nat) (done:List (Nat × Nat)),k≤s.size+1∧f≤s.size+1∧done.length≤k∧fr=.int .i64 f∧i=.int .i64 k∧Hid (Done bl s.data.toList k f done)∧Hid (wr.ownsRow w.heap.size 145 2 v done.length (Lib.spanCells done))∧Hid (Below w.heap.size w wr)) (fun _ _ i _=>s.size+1-(intOf i).toNat)
 case atStart=>exact ⟨0,0,[],by omega,by omega,Nat.le_refl _,rfl,rfl,Lib.hid (Done.start _ _),Lib.hid ⟨rfl,.inl ⟨rfl,rfl⟩⟩,Lib.hid (Below.refl _ _)⟩
 case round=>
  obtain ⟨k,f,done,hk,hf,hdn,rfl,rfl,hpt,hown,hbr⟩:=hrel;rcases Nat.lt_or_ge k s.size with hlt | hge
  ·have t0:(k:Int)≤(s.size:Int):=by omega
   have i1:(k:Int)<(s.size:Int):=by omega
   have hkl:k<s.data.toList.length:=by rw [len];exact hlt
   have hfk:=hpt.out.le (by omega);obtain ⟨b,hb⟩:∃b,s[k]=b:=⟨_,rfl⟩;have hn:∀hh,s[k]'hh=b:=fun _=>hb;have hbl:s.data.toList[k]=b:=hb
   have HM:=Lib.hid (fun hp=>(hpt.out.miss hkl hp).2)
   have HE:=Lib.hid (fun (e:f=k) hp=>hpt.out.empty' e hkl hp)
   have HH:=Lib.hid (fun e hp=>hpt.out.hit e hkl hp);rw [hbl] at HM HE HH;clear hb hbl hkl hpt
   have HB:=Lib.hid (fun w=>Oct.rblank_any (b.toNat:Int) w);have m1:IntKind.i64.wrap ((k:Int)+1)=((k+1:Nat):Int):=by rw [wrap_in _ (by omega) (by omega)];omega
   have hsep:sepB bl b=(b==32|| (bl&&Oct.blank (b.toNat:Int))):=by
    unfold sepB Oct.blank;have e9:(b==9)=decide ((b.toNat:Int)=9):=by rw [Bool.eq_iff_iff,beq_iff_eq,decide_eq_true_eq];exact ⟨fun h=>by rw [h];rfl,fun h=>UInt8.toNat_inj.1 (by show b.toNat=9;omega)⟩
    have e32:(b==32)=decide ((b.toNat:Int)=32):=by rw [Bool.eq_iff_iff,beq_iff_eq,decide_eq_true_eq];exact ⟨fun h=>by rw [h];rfl,fun h=>UInt8.toNat_inj.1 (by show b.toNat=32;omega)⟩
    rw [e9,e32];cases bl<;>cases decide ((b.toNat:Int)=32)<;>cases decide ((b.toNat:Int)=9)<;>rfl
   have n32:(b==32)=false→¬(b.toNat:Int)=32:=fun h e=>by have:b=32:=UInt8.toNat_inj.1 (by show b.toNat=32;omega);rw [this] at h;cases h
   have y32:(b==32)=true→(b.toNat:Int)=32:=fun h=>by rw [beq_iff_eq.1 h];rfl
   generalize (b==32)=q at *;generalize Oct.blank (b.toNat:Int)=bk at *;have hcase:(q=true)∨(q=false∧bl=true∧bk=true)∨(q=false∧(bl&&bk)=false):=by cases q<;>cases bl<;>cases bk<;>simp
   have hmiss:(q=false∧(bl&&bk)=false)→sepB bl b=false:=fun h=>by rw [hsep,h.1,h.2];rfl
   have hhit:(q=true)∨(q=false∧bl=true∧bk=true)→sepB bl b=true:=fun h=>by
    rcases h with h | ⟨h1,h2,h3⟩
    ·rw [hsep,h];rfl
    ·rw [hsep,h1,h2,h3];rfl
   clear hsep;have HX:=Lib.hid hmiss;have HY:=Lib.hid hhit;clear hmiss hhit;rcases hcase with hq | ⟨hq,hbl,hbk⟩ | ⟨hq,hbb⟩
   ·have hsp:=HY.out (.inl hq);have e32:=y32 hq;clear n32 y32 hq
    replace HH:=Lib.hid (fun e=>HH.out e hsp)
    replace HE:=Lib.hid (fun e=>HE.out e hsp)
    clear HX HY HM hsp;rcases Nat.lt_or_ge f k with hfl | hfg
    ·have g1:¬(k:Int)=(f:Int):=by omega
     have g2:(f:Int)<(k:Int):=by omega
     have HD:=Lib.hid (HH.out hfl);clear HH HE;cases bl
     ·go_wp2_with (first
       |(go_at_call 100;with_reducible refine (HB.out _).mono ?_;rintro e w1 ⟨rfl,hw⟩;rw [hw];clear hw)
       |(at_builtin;refine wpList_append_own _ rfl _ _ 142 rfl w.heap.size 145 i0 (.agg #[.int .i64 0,.int .i64 0]) 2 16 Tryz.underlying142 G1.out G2.out G3.out G4.out rfl (by decide) _ _ _ rfl (hown.out.alloc _) ⟨wr.heap.size,0,none⟩ 1 1 [.int .i64 (f:Nat),.int .i64 (k:Nat)] rfl rfl ?ca1 ?cb1 ?cc1 ?cd1 ?ce1 ?_))
      case ca1=>exact news_two wr _ _ _
      case cb1=>intro u hu;rcases (by simpa using hu:u=.int .i64 (f:Nat)∨u=.int .i64 (k:Nat)) with rfl | rfl<;>rfl
      case cc1=>unfold maxLen;omega
      case cd1=>omega
      case ce1=>have:=hbr.out.size;simp;omega
      intro v' w' hown' hgr _
      have H2:Hid (w'.ownsRow w.heap.size 145 2 v' (done ++ [(f,k)]).length (Lib.spanCells (done ++ [(f,k)]))):=Lib.hid (by rw [Lib.spanCells_snoc];simpa using hown')
      have H3:=Lib.hid ((hbr.out.alloc hbr.out.size _).grown hgr (by have:=hbr.out.size;simp;omega) (own_base hown.out));clear hown' hgr hown hbr;go_wp2;go_roundw
      case rel=>exact ⟨k+1,k+1,done ++ [(f,k)],by omega,by omega,by rw [List.length_append,List.length_singleton];omega,by go_num,by go_num,HD,H2,H3⟩
      case measure=>simp [intOf];omega
     ·go_wp2_with (first
       |(go_at_call 100;with_reducible refine (HB.out _).mono ?_;rintro e w1 ⟨rfl,hw⟩;rw [hw];clear hw)
       |(at_builtin;refine wpList_append_own _ rfl _ _ 142 rfl w.heap.size 145 i0 (.agg #[.int .i64 0,.int .i64 0]) 2 16 Tryz.underlying142 G1.out G2.out G3.out G4.out rfl (by decide) _ _ _ rfl (hown.out.alloc _) ⟨wr.heap.size,0,none⟩ 1 1 [.int .i64 (f:Nat),.int .i64 (k:Nat)] rfl rfl ?ca2 ?cb2 ?cc2 ?cd2 ?ce2 ?_))
      case ca2=>exact news_two wr _ _ _
      case cb2=>intro u hu;rcases (by simpa using hu:u=.int .i64 (f:Nat)∨u=.int .i64 (k:Nat)) with rfl | rfl<;>rfl
      case cc2=>unfold maxLen;omega
      case cd2=>omega
      case ce2=>have:=hbr.out.size;simp;omega
      intro v' w' hown' hgr _
      have H2:Hid (w'.ownsRow w.heap.size 145 2 v' (done ++ [(f,k)]).length (Lib.spanCells (done ++ [(f,k)]))):=Lib.hid (by rw [Lib.spanCells_snoc];simpa using hown')
      have H3:=Lib.hid ((hbr.out.alloc hbr.out.size _).grown hgr (by have:=hbr.out.size;simp;omega) (own_base hown.out));clear hown' hgr hown hbr;go_wp2;go_roundw
      case rel=>exact ⟨k+1,k+1,done ++ [(f,k)],by omega,by omega,by rw [List.length_append,List.length_singleton];omega,by go_num,by go_num,HD,H2,H3⟩
      case measure=>simp [intOf];omega
    ·obtain rfl:f=k:=by omega
     have HD:=HE.out rfl;clear HH HE;cases bl
     ·have hno:PS=none:=HPS.out.symm.trans (by simpa using HD);subst hno;clear HD;go_wp2_with fail;go_ret2;exact ⟨rfl,hbr.out⟩
     ·replace HD:=Lib.hid (show Done true s.data.toList (f+1) (f+1) done by simpa using HD)
      go_wp2_with (go_at_call 100;with_reducible refine (HB.out _).mono ?_;rintro e w1 ⟨rfl,hw⟩;rw [hw];clear hw);go_roundw
      case rel=>exact ⟨f+1,f+1,done,by omega,by omega,by omega,by first | rfl | go_num,by go_num,HD,hown,hbr⟩
      case measure=>simp [intOf];omega
   ·have hsp:=HY.out (.inr ⟨hq,hbl,hbk⟩);have e32:=n32 hq;clear n32 y32 hq
    replace HH:=Lib.hid (fun e=>HH.out e hsp)
    replace HE:=Lib.hid (fun e=>HE.out e hsp)
    clear HX HY HM hsp;subst hbl hbk;rcases Nat.lt_or_ge f k with hfl | hfg
    ·have g1:¬(k:Int)=(f:Int):=by omega
     have g2:(f:Int)<(k:Int):=by omega
     have HD:=Lib.hid (HH.out hfl);clear HH HE
     go_wp2_with (first
      |(go_at_call 100;with_reducible refine (HB.out _).mono ?_;rintro e w1 ⟨rfl,hw⟩;rw [hw];clear hw)
      |(at_builtin;refine wpList_append_own _ rfl _ _ 142 rfl w.heap.size 145 i0 (.agg #[.int .i64 0,.int .i64 0]) 2 16 Tryz.underlying142 G1.out G2.out G3.out G4.out rfl (by decide) _ _ _ rfl (hown.out.alloc _) ⟨wr.heap.size,0,none⟩ 1 1 [.int .i64 (f:Nat),.int .i64 (k:Nat)] rfl rfl ?ca3 ?cb3 ?cc3 ?cd3 ?ce3 ?_))
     case ca3=>exact news_two wr _ _ _
     case cb3=>intro u hu;rcases (by simpa using hu:u=.int .i64 (f:Nat)∨u=.int .i64 (k:Nat)) with rfl | rfl<;>rfl
     case cc3=>unfold maxLen;omega
     case cd3=>omega
     case ce3=>have:=hbr.out.size;simp;omega
     intro v' w' hown' hgr _
     have H2:Hid (w'.ownsRow w.heap.size 145 2 v' (done ++ [(f,k)]).length (Lib.spanCells (done ++ [(f,k)]))):=Lib.hid (by rw [Lib.spanCells_snoc];simpa using hown')
     have H3:=Lib.hid ((hbr.out.alloc hbr.out.size _).grown hgr (by have:=hbr.out.size;simp;omega) (own_base hown.out));clear hown' hgr hown hbr;go_wp2;go_roundw
     case rel=>exact ⟨k+1,k+1,done ++ [(f,k)],by omega,by omega,by rw [List.length_append,List.length_singleton];omega,by go_num,by go_num,HD,H2,H3⟩
     case measure=>simp [intOf];omega
    ·obtain rfl:f=k:=by omega
     have HD:=Lib.hid (show Done true s.data.toList (f+1) (f+1) done by simpa using HE.out rfl);clear HH HE
     go_wp2_with (go_at_call 100;with_reducible refine (HB.out _).mono ?_;rintro e w1 ⟨rfl,hw⟩;rw [hw];clear hw);go_roundw
     case rel=>exact ⟨f+1,f+1,done,by omega,by omega,by omega,by first | rfl | go_num,by go_num,HD,hown,hbr⟩
     case measure=>simp [intOf];omega
   ·have HD:=Lib.hid (HM.out (HX.out ⟨hq,hbb⟩));have e32:=n32 hq;clear n32 y32 hq HX HY HM HH HE;cases bl
    ·clear hbb
     go_wp2_with (go_at_call 100;with_reducible refine (HB.out _).mono ?_;rintro e w1 ⟨rfl,hw⟩;rw [hw];clear hw);go_roundw
     case rel=>exact ⟨k+1,f,done,by omega,by omega,by omega,by first | rfl | go_num,by go_num,HD,hown,hbr⟩
     case measure=>simp [intOf];omega
    ·have hbk:bk=false:=by simpa using hbb
     subst hbk;clear hbb
     go_wp2_with (go_at_call 100;with_reducible refine (HB.out _).mono ?_;rintro e w1 ⟨rfl,hw⟩;rw [hw];clear hw);go_roundw
     case rel=>exact ⟨k+1,f,done,by omega,by omega,by omega,by first | rfl | go_num,by go_num,HD,hown,hbr⟩
     case measure=>simp [intOf];omega
  ·rcases Nat.lt_or_ge s.size k with hgt | hle
   ·obtain rfl:k=s.size+1:=by omega
    have t0:¬((s.size+1:Nat):Int)≤(s.size:Int):=by omega
    have hfin:PS=some done:=HPS.out.symm.trans (hpt.out.full (by rw [len];omega));subst hfin;obtain ⟨A,cp,rfl,hA⟩:=Spn.of_own hown.out;have HA:=Lib.hid hA;clear hA hown hpt;go_wp2;go_ret2;first | exact ⟨⟨A,cp,rfl,HA.out⟩,hbr.out⟩ | exact ⟨⟨A,⟨cp,rfl⟩,HA.out⟩,hbr.out⟩
   ·obtain rfl:k=s.size:=by omega
    have hfk:=hpt.out.le (by rw [len];exact Nat.le_refl _)
    have HE:=Lib.hid (fun e=>hpt.out.end_empty' s.size (len s) e)
    have HH:=Lib.hid (fun e=>hpt.out.end_hit' s.size (len s) e);clear hpt;have t0:(s.size:Int)≤(s.size:Int):=by omega
    have m1:IntKind.i64.wrap ((s.size:Int)+1)=((s.size+1:Nat):Int):=by rw [wrap_in _ (by omega) (by omega)];omega
    have HB:=Lib.hid (fun w=>Oct.rblank_any (0:Int) w);rcases Nat.lt_or_ge f s.size with hfl | hfg
    ·have g1:¬(s.size:Int)=(f:Int):=by omega
     have g2:(f:Int)<(s.size:Int):=by omega
     have HD:=Lib.hid (HH.out hfl);clear HH HE;cases bl
     ·go_wp2_with (first
       |(go_at_call 100;with_reducible refine (HB.out _).mono ?_;rintro e w1 ⟨rfl,hw⟩;rw [hw];clear hw)
       |(at_builtin;refine wpList_append_own _ rfl _ _ 142 rfl w.heap.size 145 i0 (.agg #[.int .i64 0,.int .i64 0]) 2 16 Tryz.underlying142 G1.out G2.out G3.out G4.out rfl (by decide) _ _ _ rfl (hown.out.alloc _) ⟨wr.heap.size,0,none⟩ 1 1 [.int .i64 (f:Nat),.int .i64 (s.size:Nat)] rfl rfl ?ca4 ?cb4 ?cc4 ?cd4 ?ce4 ?_))
      case ca4=>exact news_two wr _ _ _
      case cb4=>intro u hu;rcases (by simpa using hu:u=.int .i64 (f:Nat)∨u=.int .i64 (s.size:Nat)) with rfl | rfl<;>rfl
      case cc4=>unfold maxLen;omega
      case cd4=>omega
      case ce4=>have:=hbr.out.size;simp;omega
      intro v' w' hown' hgr _
      have H2:Hid (w'.ownsRow w.heap.size 145 2 v' (done ++ [(f,s.size)]).length (Lib.spanCells (done ++ [(f,s.size)]))):=Lib.hid (by rw [Lib.spanCells_snoc];simpa using hown')
      have H3:=Lib.hid ((hbr.out.alloc hbr.out.size _).grown hgr (by have:=hbr.out.size;simp;omega) (own_base hown.out));clear hown' hgr hown hbr;go_wp2;go_roundw
      case rel=>exact ⟨s.size+1,s.size+1,done ++ [(f,s.size)],by omega,by omega,by rw [List.length_append,List.length_singleton];omega,by go_num,by go_num,HD,H2,H3⟩
      case measure=>simp [intOf]
     ·go_wp2_with (first
       |(go_at_call 100;with_reducible refine (HB.out _).mono ?_;rintro e w1 ⟨rfl,hw⟩;rw [hw];clear hw)
       |(at_builtin;refine wpList_append_own _ rfl _ _ 142 rfl w.heap.size 145 i0 (.agg #[.int .i64 0,.int .i64 0]) 2 16 Tryz.underlying142 G1.out G2.out G3.out G4.out rfl (by decide) _ _ _ rfl (hown.out.alloc _) ⟨wr.heap.size,0,none⟩ 1 1 [.int .i64 (f:Nat),.int .i64 (s.size:Nat)] rfl rfl ?ca5 ?cb5 ?cc5 ?cd5 ?ce5 ?_))
      case ca5=>exact news_two wr _ _ _
      case cb5=>intro u hu;rcases (by simpa using hu:u=.int .i64 (f:Nat)∨u=.int .i64 (s.size:Nat)) with rfl | rfl<;>rfl
      case cc5=>unfold maxLen;omega
      case cd5=>omega
      case ce5=>have:=hbr.out.size;simp;omega
      intro v' w' hown' hgr _
      have H2:Hid (w'.ownsRow w.heap.size 145 2 v' (done ++ [(f,s.size)]).length (Lib.spanCells (done ++ [(f,s.size)]))):=Lib.hid (by rw [Lib.spanCells_snoc];simpa using hown')
      have H3:=Lib.hid ((hbr.out.alloc hbr.out.size _).grown hgr (by have:=hbr.out.size;simp;omega) (own_base hown.out));clear hown' hgr hown hbr;go_wp2;go_roundw
      case rel=>exact ⟨s.size+1,s.size+1,done ++ [(f,s.size)],by omega,by omega,by rw [List.length_append,List.length_singleton];omega,by go_num,by go_num,HD,H2,H3⟩
      case measure=>simp [intOf]
    ·obtain rfl:f=s.size:=by omega
     have HD:=HE.out rfl;clear HH HE;cases bl
     ·have hno:PS=none:=HPS.out.symm.trans (by simpa using HD);subst hno;clear HD;go_wp2_with fail;go_ret2;exact ⟨rfl,hbr.out⟩
     ·replace HD:=Lib.hid (show Done true s.data.toList (s.size+1) (s.size+1) done by simpa using HD)
      go_wp2_with (go_at_call 100;with_reducible refine (HB.out _).mono ?_;rintro e w1 ⟨rfl,hw⟩;rw [hw];clear hw);go_roundw
      case rel=>exact ⟨s.size+1,s.size+1,done,by omega,by omega,by omega,by first | rfl | go_num,by go_num,HD,hown,hbr⟩
      case measure=>simp [intOf]
end code
end Go.Proofs.YtimoakmcelocfaaGreat.Rq
namespace Go.Proofs.YtimoakmcelocfaaGreat.Rq
open Go.RowKit Base Txt
def rpv (bl:Bool) (l:List UInt8):Value:=
 match spans bl l with
 | none=>.tuple #[.string ⟨#[]⟩,.string ⟨#[]⟩,.string ⟨#[]⟩,.int .i64 0,.bool false]
 | some sp=>if sp.length<2 then .tuple #[.string ⟨#[]⟩,.string ⟨#[]⟩,.string ⟨#[]⟩,.int .i64 (sp.length:Nat),.bool false]
   else .tuple #[.string (ba (ext l (sp.getD 0 (0,0)))),.string (ba (if 2<sp.length then ext l ((sp.getD 1 (0,0)).1,(sp.getD (sp.length-2) (0,0)).2) else [])),.string (ba (ext l (sp.getD (sp.length-1) (0,0)))),.int .i64 (sp.length:Nat),.bool true]
section code
set_option maxHeartbeats 2000000
attribute [local go_sem] Base.some_undef
set_option maxRecDepth 10000 in
theorem rparts_any (s:ByteArray) (bl:Bool) (w:World) (hs:s.size≤900000000):Calls Tryz.prog 86 #[.string s,.bool bl] w fun e w'=>e=.returned (rpv bl s.data.toList)∧Below w.heap.size w w':=by
 have HP:=Lib.hid (fun w=>rpieces_any s bl w hs);unfold rpv;cases hsp:spans bl s.data.toList with
 | none=>
   rw [hsp] at HP;dsimp only at HP ⊢;clear hsp;go_enter Tryz.func86,Tryz.ntmps86
   go_wp2_with (go_at_call 97;with_reducible refine (HP.out _).mono ?_;rintro e w1 ⟨rfl,hb⟩);exact bodyPost_ret (v:=.tuple #[.string ⟨#[]⟩,.string ⟨#[]⟩,.string ⟨#[]⟩,.int .i64 0,.bool false]) (by simp [results,Tryz.results86,go_sem]) rfl ⟨rfl,hb⟩
 | some sp=>
   rw [hsp] at HP;dsimp only at HP ⊢;have hcov:=(spans_cov hsp).1;have hle:sp.length≤s.size+1:=by
    have:=pcs_le _ _ _ _ (show pcs (sepB bl) (!bl) s.data.toList 0 0=some sp from hsp)
    rwa [len] at this
   clear hsp;rcases Nat.lt_or_ge sp.length 2 with h2 | h2
   ·rw [if_pos h2];obtain ⟨n,hn⟩:∃n,sp.length=n:=⟨_,rfl⟩;rw [hn] at HP h2 ⊢;have c2:(n:Int)<2:=by omega
    clear hcov hn hle;go_enter Tryz.func86,Tryz.ntmps86
    go_wp2_with (go_at_call 97;with_reducible refine (HP.out _).mono ?_;rintro e w1 ⟨⟨a,c,rfl,hS⟩,hb⟩);exact bodyPost_ret (v:=.tuple #[.string ⟨#[]⟩,.string ⟨#[]⟩,.string ⟨#[]⟩,.int .i64 (n:Nat),.bool false]) (by simp [results,Tryz.results86,go_sem]) rfl ⟨rfl,hb⟩
   ·rw [if_neg (by omega)];have A0:(sp[0]'(by omega)).1<(sp[0]'(by omega)).2∧(sp[0]'(by omega)).2≤s.size:=by
     have h:=hcov.at 0 (by omega);rw [←len];exact ⟨h.2.1,h.2.2.1⟩
    have A3:(sp[sp.length-1]'(by omega)).1<(sp[sp.length-1]'(by omega)).2∧(sp[sp.length-1]'(by omega)).2≤s.size:=by have h:=hcov.at (sp.length-1) (by omega);rw [←len];exact ⟨h.2.1,h.2.2.1⟩
    have HX:=Lib.hid (fun w a (hS:Spn w a sp.length sp)=>hS.2 (by omega));rw [getD_at sp 0 (by omega),getD_at sp (sp.length-1) (by omega)];have hmid:2<sp.length→((sp.getD 1 (0,0)).1≤(sp.getD (sp.length-2) (0,0)).2∧(sp.getD (sp.length-2) (0,0)).2≤s.size)∧∃(h1:1<sp.length) (h2:sp.length-2<sp.length),sp.getD 1 (0,0)=sp[1]∧sp.getD (sp.length-2) (0,0)=sp[sp.length-2]:=fun h=>by
     refine ⟨?_,by omega,by omega,getD_at sp 1 (by omega),getD_at sp _ (by omega)⟩;rw [getD_at sp 1 (by omega),getD_at sp _ (by omega)]
     have B1:=hcov.at 1 (by omega)
     have B2:=hcov.at (sp.length-2) (by omega)
     have B3:=hcov.mono 1 (sp.length-3) (by omega);have e:∀hh,sp[1+(sp.length-3)]'hh=sp[sp.length-2]:=fun _=>by congr 1;omega
     rw [e] at B3;rw [←len];omega
    have HC:Hid (∀w a,Spn w a sp.length sp→∃b,a=some ⟨b,0,none⟩∧b<w.heap.size∧(w.cell? ⟨b,0,none⟩=some (.int .i64 (sp[0].1:Nat))∧w.cell? ⟨b,1,none⟩=some (.int .i64 (sp[0].2:Nat)))∧
     (w.cell? ⟨b,(sp.length-1)*2,none⟩=some (.int .i64 (sp[sp.length-1].1:Nat))∧w.cell? ⟨b,(sp.length-1)*2+1,none⟩=some (.int .i64 (sp[sp.length-1].2:Nat)))∧
     (2<sp.length→w.cell? ⟨b,2,none⟩=some (.int .i64 ((sp.getD 1 (0,0)).1:Nat))∧w.cell? ⟨b,(sp.length-2)*2+1,none⟩=some (.int .i64 ((sp.getD (sp.length-2) (0,0)).2:Nat)))):=Lib.hid fun w a hS=>by
     obtain ⟨b,e,hlt,hc⟩:=hS.2 (by omega);refine ⟨b,e,hlt,hc 0 (by omega),hc (sp.length-1) (by omega),fun h=>?_⟩;obtain ⟨_,_,_,e1,e2⟩:=hmid h;rw [e1,e2];exact ⟨(hc 1 (by omega)).1,(hc (sp.length-2) (by omega)).2⟩
    have hms:2<sp.length→(sp.getD 1 (0,0)).1≤(sp.getD (sp.length-2) (0,0)).2∧(sp.getD (sp.length-2) (0,0)).2≤s.size:=fun h=>(hmid h).1;clear HX hmid hcov;obtain ⟨x0,hx0⟩:∃x,sp[0]=x:=⟨_,rfl⟩;obtain ⟨x3,hx3⟩:∃x,sp[sp.length-1]=x:=⟨_,rfl⟩;obtain ⟨u1,hu1⟩:∃x,(sp.getD 1 (0,0)).1=x:=⟨_,rfl⟩;obtain ⟨u2,hu2⟩:∃x,(sp.getD (sp.length-2) (0,0)).2=x:=⟨_,rfl⟩;rw [hx0] at A0 HC ⊢;rw [hx3] at A3 HC ⊢;rw [hu1,hu2] at hms HC ⊢;clear hx0 hx3 hu1 hu2;obtain ⟨a1,a2⟩:=x0;obtain ⟨d1,d2⟩:=x3;obtain ⟨A1,A2⟩:=A0;obtain ⟨D1,D2⟩:=A3;dsimp only at A1 A2 D1 D2 HC;obtain ⟨n,hn⟩:∃n,sp.length=n:=⟨_,rfl⟩
    have HP':Hid (∀w,Calls Tryz.prog 97 #[.string s,.bool bl] w fun e w'=>∃b c,e=.returned (.tuple #[.slice (some ⟨b,0,none⟩) n c,.bool true])∧b<w'.heap.size∧(w'.cell? ⟨b,0,none⟩=some (.int .i64 (a1:Nat))∧w'.cell? ⟨b,1,none⟩=some (.int .i64 (a2:Nat)))∧
     (w'.cell? ⟨b,(n-1)*2,none⟩=some (.int .i64 (d1:Nat))∧w'.cell? ⟨b,(n-1)*2+1,none⟩=some (.int .i64 (d2:Nat)))∧
     (2<n→w'.cell? ⟨b,2,none⟩=some (.int .i64 (u1:Nat))∧w'.cell? ⟨b,(n-2)*2+1,none⟩=some (.int .i64 (u2:Nat)))∧Below w.heap.size w w'):=Lib.hid fun w=>(HP.out w).mono (by
     rintro e w' ⟨⟨a,c,rfl,hS⟩,hb⟩;obtain ⟨b,rfl,hlt,h0,h1,h2⟩:=HC.out w' a hS;rw [hn] at h1 h2 ⊢;exact ⟨b,c,rfl,hlt,h0,h1,h2,hb⟩)
    rw [hn] at h2 hms hle ⊢;clear HC HP hn;have hn2:¬(n:Int)<2:=by omega
    obtain ⟨k,hk⟩:∃k,n=k+1:=⟨n-1,by omega⟩;have e1:n-1=k:=by omega
    rw [e1] at HP';have i1:IntKind.i64.wrap ((n:Int)-1)=(k:Int):=by rw [wrap_in _ (by omega) (by omega)];omega
    have i2:(k:Int)<(n:Int):=by omega
    have i3:k<n:=by omega
    have i4:0<n:=by omega
    have HKN:=Lib.hid hk;clear hk e1;obtain ⟨M,hM⟩:∃M,ba (if 2<n then ext s.data.toList (u1,u2) else [])=M:=⟨_,rfl⟩;rw [ext_ba,ext_ba,hM];have HM:=Lib.hid hM;clear hM;have j1:(a1:Int)≤(a2:Int):=by omega
    have j2:(a2:Int)≤(s.size:Int):=by omega
    have j3:(d1:Int)≤(d2:Int):=by omega
    have j4:(d2:Int)≤(s.size:Int):=by omega
    have J1:a1≤a2:=by omega
    have J3:d1≤d2:=by omega
    go_enter Tryz.func86,Tryz.ntmps86
    go_wp2_with (go_at_call 97;with_reducible refine (HP'.out _).mono ?_;rintro e w1 ⟨b,c,rfl,hbl,⟨h0,h1⟩,⟨h2',h3⟩,h4,hb⟩);clear HP';refine Tree.region (.quiet 0 (.quiet 1 (.quiet 2 (.quiet 3 (.quiet 4 (.quiet 5 (.quiet 6 (.quiet 7 (.two 8 (.act 9 (.act 10 (.act 11 .done))) 9 (.act 8 (.act 10 (.act 11 .done)))))))))))) (fun w'=>Below w1.heap.size w1 w') (by kernel_rfl) (by kernel_rfl) (fun _ _ d _ _ h=>by cases d<;>exact h) (Base.below_drewN (Below.refl _ _) 1) ?_;simp only [Tree.grow,Tree.put1,List.getElem?_cons_zero,List.getElem?_cons_succ];have hq:∀w',Below w1.heap.size w1 w'→w'.cell? ⟨b,0,none⟩=some (.int .i64 (a1:Nat))∧w'.cell? ⟨b,1,none⟩=some (.int .i64 (a2:Nat))∧w'.cell? ⟨b,k*2,none⟩=some (.int .i64 (d1:Nat))∧w'.cell? ⟨b,k*2+1,none⟩=some (.int .i64 (d2:Nat)):=fun w' hS=>⟨(hS.cell (p:=⟨b,0,none⟩) hbl).trans h0,(hS.cell (p:=⟨b,1,none⟩) hbl).trans h1,(hS.cell (p:=⟨b,k*2,none⟩) hbl).trans h2',(hS.cell (p:=⟨b,k*2+1,none⟩) hbl).trans h3⟩
    iterate 8
     refine Tree.quiet (by rfl) ?_ ?_ ?_
     rotate_left 1
     ·intro w' hS;obtain ⟨q0,q1,q2,q3⟩:=hq w' hS;go_simp;with_reducible rfl
     simp only [Act.put,List.setIfInBounds_toArray,List.set_cons_zero,List.set_cons_succ]
    have hW:Below w1.heap.size w1 (World.drewN w1 1):=Base.below_drewN (Below.refl _ _) 1;generalize World.drewN w1 1=W at *;have hWs:=hW.size;refine Tree.both ?_ ?_
    ·iterate 4
      refine Tree.change (by rfl) (fun K hK=>?_);go_simp;refine hK _ _ ?_ ?_
      ·first
        | exact hW.alloc hW.size _
        | exact (hW.alloc hW.size _).alloc (by simp;omega) _
        | exact (((hW.alloc hW.size _).alloc (by simp;omega) _).setCell (by first | exact hWs | omega) _).setCell (by first | exact hWs | omega) _
        | exact (((((hW.alloc hW.size _).alloc (by simp;omega) _).setCell (by first | exact hWs | omega) _).setCell (by first | exact hWs | omega) _).setCell (by first | exact hWs | omega) _).setCell (by first | exact hWs | omega) _
        | trace_state
      clear hK K
     refine Tree.done ?_;have hWF:Below w1.heap.size w1 ((W.alloc (.cells #[.int .i64 (a1:Nat),.int .i64 (a2:Nat)] 145)).alloc (.cells #[.int .i64 (d1:Nat),.int .i64 (d2:Nat)] 145)):=(hW.alloc hW.size _).alloc (by simp;omega) _;have p0:((W.alloc (.cells #[.int .i64 (a1:Nat),.int .i64 (a2:Nat)] 145)).alloc (.cells #[.int .i64 (d1:Nat),.int .i64 (d2:Nat)] 145)).cell? ⟨W.heap.size,0,none⟩=some (.int .i64 (a1:Nat)):=by go_simp
     have p1:((W.alloc (.cells #[.int .i64 (a1:Nat),.int .i64 (a2:Nat)] 145)).alloc (.cells #[.int .i64 (d1:Nat),.int .i64 (d2:Nat)] 145)).cell? ⟨W.heap.size,1,none⟩=some (.int .i64 (a2:Nat)):=by go_simp
     have p2:((W.alloc (.cells #[.int .i64 (a1:Nat),.int .i64 (a2:Nat)] 145)).alloc (.cells #[.int .i64 (d1:Nat),.int .i64 (d2:Nat)] 145)).cell? ⟨W.heap.size+1,0,none⟩=some (.int .i64 (d1:Nat)):=by go_simp
     have p3:((W.alloc (.cells #[.int .i64 (a1:Nat),.int .i64 (a2:Nat)] 145)).alloc (.cells #[.int .i64 (d1:Nat),.int .i64 (d2:Nat)] 145)).cell? ⟨W.heap.size+1,1,none⟩=some (.int .i64 (d2:Nat)):=by go_simp
     generalize (W.alloc (.cells #[.int .i64 (a1:Nat),.int .i64 (a2:Nat)] 145)).alloc (.cells #[.int .i64 (d1:Nat),.int .i64 (d2:Nat)] 145)=WF at *;clear hq hW hWs h0 h1 h2' h3;generalize W.heap.size=g at *;rcases Nat.lt_or_ge 2 n with h3n | h3n
     ·obtain ⟨r1,r2⟩:=h4 h3n;obtain ⟨U1,U2⟩:=hms h3n;have r1':=(hWF.cell (p:=⟨b,2,none⟩) hbl).trans r1;have r2':=(hWF.cell (p:=⟨b,(n-2)*2+1,none⟩) hbl).trans r2;obtain ⟨j,hj⟩:∃j,n-2=j:=⟨_,rfl⟩;rw [hj] at r2';have l1:(u1:Int)≤(u2:Int):=by omega
      have l2:(u2:Int)≤(s.size:Int):=by omega
      have l3:(2:Int)<(n:Int):=by omega
      have l4:IntKind.i64.wrap ((n:Int)-2)=(j:Int):=by rw [wrap_in _ (by omega) (by omega)];omega
      have l5:(j:Int)<(n:Int):=by omega
      have l6:j<n:=by omega
      have l7:1<n:=by omega
      have l8:(1:Int)<(n:Int):=by omega
      have hMM:=HM.out;rw [if_pos h3n,ext_ba] at hMM
      replace HM:=Lib.hid hMM
      clear hMM;clear r1 r2 h4 hms hj;go_wp2_with fail
      go_quiet (fail);rename_i nq;go_wp2_with fail
      go_quiet (fail);rename_i nq2;go_wp2;exact bodyPost_ret (v:=.tuple #[.string (s.extract a1 a2),.string (s.extract u1 u2),.string (s.extract d1 d2),.int .i64 (n:Nat),.bool true]) (by simp [results,Tryz.results86,go_sem]) rfl ⟨by rw [←HM.out],by first | exact Base.below_drewN (Base.below_step hb hWF) _ | exact Base.below_drewN (Base.below_drewN (Base.below_step hb hWF) _) _⟩
     ·have l3:¬(2:Int)<(n:Int):=by omega
      have hMM:=HM.out;rw [if_neg (by omega)] at hMM
      replace HM:=Lib.hid hMM
      clear hMM;clear h4 hms;go_wp2_with fail
      go_quiet (fail);rename_i nq2;go_wp2;exact bodyPost_ret (v:=.tuple #[.string (s.extract a1 a2),.string ⟨#[]⟩,.string (s.extract d1 d2),.int .i64 (n:Nat),.bool true]) (by simp [results,Tryz.results86,go_sem]) rfl ⟨by rw [←HM.out];rfl,Base.below_drewN (Base.below_step hb hWF) _⟩
    ·iterate 4
      refine Tree.change (by rfl) (fun K hK=>?_);go_simp;refine hK _ _ ?_ ?_
      ·first
        | exact hW.alloc hW.size _
        | exact (hW.alloc hW.size _).alloc (by simp;omega) _
        | exact (((hW.alloc hW.size _).alloc (by simp;omega) _).setCell (by first | exact hWs | omega) _).setCell (by first | exact hWs | omega) _
        | exact (((((hW.alloc hW.size _).alloc (by simp;omega) _).setCell (by first | exact hWs | omega) _).setCell (by first | exact hWs | omega) _).setCell (by first | exact hWs | omega) _).setCell (by first | exact hWs | omega) _
        | trace_state
      clear hK K
     refine Tree.done ?_;have hWF:Below w1.heap.size w1 ((W.alloc (.cells #[.int .i64 (d1:Nat),.int .i64 (d2:Nat)] 145)).alloc (.cells #[.int .i64 (a1:Nat),.int .i64 (a2:Nat)] 145)):=(hW.alloc hW.size _).alloc (by simp;omega) _;have p0:((W.alloc (.cells #[.int .i64 (d1:Nat),.int .i64 (d2:Nat)] 145)).alloc (.cells #[.int .i64 (a1:Nat),.int .i64 (a2:Nat)] 145)).cell? ⟨W.heap.size,0,none⟩=some (.int .i64 (d1:Nat)):=by go_simp
     have p1:((W.alloc (.cells #[.int .i64 (d1:Nat),.int .i64 (d2:Nat)] 145)).alloc (.cells #[.int .i64 (a1:Nat),.int .i64 (a2:Nat)] 145)).cell? ⟨W.heap.size,1,none⟩=some (.int .i64 (d2:Nat)):=by go_simp
     have p2:((W.alloc (.cells #[.int .i64 (d1:Nat),.int .i64 (d2:Nat)] 145)).alloc (.cells #[.int .i64 (a1:Nat),.int .i64 (a2:Nat)] 145)).cell? ⟨W.heap.size+1,0,none⟩=some (.int .i64 (a1:Nat)):=by go_simp
     have p3:((W.alloc (.cells #[.int .i64 (d1:Nat),.int .i64 (d2:Nat)] 145)).alloc (.cells #[.int .i64 (a1:Nat),.int .i64 (a2:Nat)] 145)).cell? ⟨W.heap.size+1,1,none⟩=some (.int .i64 (a2:Nat)):=by go_simp
     generalize (W.alloc (.cells #[.int .i64 (d1:Nat),.int .i64 (d2:Nat)] 145)).alloc (.cells #[.int .i64 (a1:Nat),.int .i64 (a2:Nat)] 145)=WF at *;clear hq hW hWs h0 h1 h2' h3;generalize W.heap.size=g at *;rcases Nat.lt_or_ge 2 n with h3n | h3n
     ·obtain ⟨r1,r2⟩:=h4 h3n;obtain ⟨U1,U2⟩:=hms h3n;have r1':=(hWF.cell (p:=⟨b,2,none⟩) hbl).trans r1;have r2':=(hWF.cell (p:=⟨b,(n-2)*2+1,none⟩) hbl).trans r2;obtain ⟨j,hj⟩:∃j,n-2=j:=⟨_,rfl⟩;rw [hj] at r2';have l1:(u1:Int)≤(u2:Int):=by omega
      have l2:(u2:Int)≤(s.size:Int):=by omega
      have l3:(2:Int)<(n:Int):=by omega
      have l4:IntKind.i64.wrap ((n:Int)-2)=(j:Int):=by rw [wrap_in _ (by omega) (by omega)];omega
      have l5:(j:Int)<(n:Int):=by omega
      have l6:j<n:=by omega
      have l7:1<n:=by omega
      have l8:(1:Int)<(n:Int):=by omega
      have hMM:=HM.out;rw [if_pos h3n,ext_ba] at hMM
      replace HM:=Lib.hid hMM
      clear hMM;clear r1 r2 h4 hms hj;go_wp2_with fail
      go_quiet (fail);rename_i nq;go_wp2_with fail
      go_quiet (fail);rename_i nq2;go_wp2;exact bodyPost_ret (v:=.tuple #[.string (s.extract a1 a2),.string (s.extract u1 u2),.string (s.extract d1 d2),.int .i64 (n:Nat),.bool true]) (by simp [results,Tryz.results86,go_sem]) rfl ⟨by rw [←HM.out],by first | exact Base.below_drewN (Base.below_step hb hWF) _ | exact Base.below_drewN (Base.below_drewN (Base.below_step hb hWF) _) _⟩
     ·have l3:¬(2:Int)<(n:Int):=by omega
      have hMM:=HM.out;rw [if_neg (by omega)] at hMM
      replace HM:=Lib.hid hMM
      clear hMM;clear h4 hms;go_wp2_with fail
      go_quiet (fail);rename_i nq2;go_wp2;exact bodyPost_ret (v:=.tuple #[.string (s.extract a1 a2),.string ⟨#[]⟩,.string (s.extract d1 d2),.int .i64 (n:Nat),.bool true]) (by simp [results,Tryz.results86,go_sem]) rfl ⟨by rw [←HM.out];rfl,Base.below_drewN (Base.below_step hb hWF) _⟩
end code
end Go.Proofs.YtimoakmcelocfaaGreat.Rq
namespace Go.Proofs.YtimoakmcelocfaaGreat.Rq
open Go.RowKit Base Txt
theorem rpv_cases (c:Cl) (l:List UInt8) :
 (pick c l=none∧∃(M T V:ByteArray) (n:Nat) (ok:Bool),n≤l.length+1∧rpv c.bl l=.tuple #[.string M,.string T,.string V,.int .i64 (n:Nat),.bool ok]∧(ok=false∨(ok=true∧n=2∧c.nv=false)∨(ok=true∧3<n∧c.sp=false)))∨
 (∃m t,pick c l=some (m,t,[])∧c.nv=true∧rpv c.bl l=.tuple #[.string (ba m),.string ⟨#[]⟩,.string (ba t),.int .i64 2,.bool true])∨
 (∃m t v n,pick c l=some (m,t,v)∧v≠ []∧n≤l.length+1∧(n=3∨(3<n∧c.sp=true))∧rpv c.bl l=.tuple #[.string (ba m),.string (ba t),.string (ba v),.int .i64 (n:Nat),.bool true]):=by
 unfold pick rpv;cases hs:spans c.bl l with
 | none=>exact .inl ⟨rfl,_,_,_,0,false,by omega,rfl,.inl rfl⟩
 | some sp=>
   have hle:sp.length≤l.length+1:=pcs_le _ _ _ _ hs;dsimp only;rcases Nat.lt_or_ge sp.length 2 with h2 | h2
   ·rw [if_pos h2,if_neg (by simp;omega),if_neg (by simp;omega)];exact .inl ⟨rfl,_,_,_,_,false,hle,rfl,.inl rfl⟩
   ·rw [if_neg (by omega:¬sp.length<2)];by_cases h3:(sp.length==3|| (decide (3<sp.length)&&c.sp))=true
    ·rw [if_pos h3];have hn:sp.length=3∨(3<sp.length∧c.sp=true):=by simpa using h3
     rw [if_pos (by omega:2<sp.length)]
     refine .inr (.inr ⟨_,_,_,sp.length,rfl,?_,hle,hn,rfl⟩);intro e
     have:=spans_pos hs (sp.length-1) (by omega);rw [getD_at sp _ (by omega)] at e;rw [e] at this;simp at this
    ·rw [if_neg h3];by_cases hv:(sp.length==2&&c.nv)=true
     ·rw [if_pos hv];simp only [Bool.and_eq_true,beq_iff_eq] at hv;obtain ⟨e2,hnv⟩:=hv;rw [e2,if_neg (by decide)]
      exact .inr (.inl ⟨_,_,rfl,hnv,rfl⟩)
     ·rw [if_neg hv];refine .inl ⟨rfl,_,_,_,sp.length,true,hle,rfl,.inr ?_⟩;simp only [Bool.or_eq_true,beq_iff_eq,Bool.and_eq_true,decide_eq_true_eq,not_or,not_and,Bool.not_eq_true] at h3 hv;rcases (by omega:sp.length=2∨3<sp.length) with h | h
      ·exact .inl ⟨rfl,h,hv h⟩
      ·exact .inr ⟨rfl,h,h3.2 h⟩
section code
set_option maxHeartbeats 16000000
attribute [local go_sem] Base.some_undef
set_option maxRecDepth 10000 in
theorem rrequest_parts (s:ByteArray) (p:Nat) (hp:p<4294967296) (x0 x1 x2 x3 x4 x5 x6 x7:Int) (ch old:Bool) (w:World) (hs:s.size≤900000000) (M T V:ByteArray) (n:Nat) (ok:Bool) (hle:n≤s.size+1) (hpv:rpv (Qk.has p 3) s.data.toList=.tuple #[.string M,.string T,.string V,.int .i64 (n:Nat),.bool ok])
 (hc:ok=false∨(ok=true∧n=2∧Qk.has p 6=false)∨(ok=true∧3<n∧Qk.has p 7=false)) (R:List UInt8 × List UInt8 × Nat × Nat) (hR:R=badR) :
 Calls Tryz.prog 80 #[.string s,.int .u32 (p:Nat),Bnd.bnd x0 x1 x2 x3 x4 x5 x6 x7 ch old] w fun e w'=>e=.returned (rv R)∧Below w.heap.size w w':=by
 have HA0:=Lib.hid (Bnd.At.new w 24 x0 x1 x2 x3 x4 x5 x6 x7 ch old)
 have HG0:=Lib.hid (show w.heap.size<(w.alloc (.cells #[.int .i64 x0,.int .i64 x1,.int .i64 x2,.int .i64 x3,.int .i64 x4,.int .i64 x5,.int .i64 x6,.int .i64 x7,.bool ch,.bool old] 24)).heap.size by simp)
 have HW:=Lib.hid (show Below w.heap.size w (w.alloc (.cells #[.int .i64 x0,.int .i64 x1,.int .i64 x2,.int .i64 x3,.int .i64 x4,.int .i64 x5,.int .i64 x6,.int .i64 x7,.bool ch,.bool old] 24)) from (Below.refl _ _).alloc (Nat.le_refl _) _)
 have H3:=Lib.hid (fun w=>Qk.rhas_any p hp 3 w)
 have H6:=Lib.hid (fun w=>Qk.rhas_any p hp 6 w)
 have H7:=Lib.hid (fun w=>Qk.rhas_any p hp 7 w)
 have HP:=Lib.hid (fun w=>rparts_any s (Qk.has p 3) w hs);rw [hpv] at HP;subst hR;clear hpv;generalize Qk.has p 3=b3 at *;generalize Qk.has p 6=b6 at *;generalize Qk.has p 7=b7 at *;rcases hc with rfl | ⟨rfl,rfl,rfl⟩ | ⟨rfl,h3,rfl⟩
 ·go_enter Tryz.func80,Tryz.ntmps80
  go_wp2_with (first
   |(go_at_call 86;with_reducible refine (HP.out _).mono ?_;rintro e w1 ⟨rfl,hb⟩)
   |(go_at_call 39;with_reducible refine (H3.out _).mono ?_;rintro e w5 ⟨rfl,hw⟩;rw [hw];clear hw))
  exact bodyPost_ret (v:=.tuple #[.string ⟨#[]⟩,.string ⟨#[]⟩,.int .i64 0,.int .i64 400]) (by simp [results,Tryz.results80,go_sem]) rfl ⟨rfl,Base.below_step HW.out hb⟩
 ·go_enter Tryz.func80,Tryz.ntmps80
  go_wp2_with (first
   |(go_at_call 86;with_reducible refine (HP.out _).mono ?_;rintro e w1 ⟨rfl,hb⟩)
   |(go_at_call 39;with_reducible refine (H3.out _).mono ?_;rintro e w5 ⟨rfl,hw⟩;rw [hw];clear hw)
   |(go_at_call 39;with_reducible refine (H6.out _).mono ?_;rintro e w5 ⟨rfl,hw⟩;rw [hw];clear hw))
  exact bodyPost_ret (v:=.tuple #[.string ⟨#[]⟩,.string ⟨#[]⟩,.int .i64 0,.int .i64 400]) (by simp [results,Tryz.results80,go_sem]) rfl ⟨rfl,Base.below_step HW.out hb⟩
 ·have c1:¬(n:Int)<2:=by omega
  have c2:¬(n:Int)=2:=by omega
  have c3:(3:Int)<(n:Int):=by omega
  go_enter Tryz.func80,Tryz.ntmps80
  go_wp2_with (first
   |(go_at_call 86;with_reducible refine (HP.out _).mono ?_;rintro e w1 ⟨rfl,hb⟩)
   |(go_at_call 39;with_reducible refine (H3.out _).mono ?_;rintro e w5 ⟨rfl,hw⟩;rw [hw];clear hw)
   |(go_at_call 39;with_reducible refine (H7.out _).mono ?_;rintro e w5 ⟨rfl,hw⟩;rw [hw];clear hw))
  exact bodyPost_ret (v:=.tuple #[.string ⟨#[]⟩,.string ⟨#[]⟩,.int .i64 0,.int .i64 400]) (by simp [results,Tryz.results80,go_sem]) rfl ⟨rfl,Base.below_step HW.out hb⟩
set_option maxRecDepth 10000 in
theorem rrequest_two (s:ByteArray) (p:Nat) (hp:p<4294967296) (x0 x1 x2 x3 x4 x5 x6 x7:Int) (ch old:Bool) (w:World) (hs:s.size≤900000000) (m t:List UInt8) (hm0:0<m.length) (hms:m.length≤s.size) (ht0:0<t.length) (hts:t.length≤s.size) (h6:Qk.has p 6=true)
 (hpv:rpv (Qk.has p 3) s.data.toList=.tuple #[.string (ba m),.string ⟨#[]⟩,.string (ba t),.int .i64 2,.bool true])
 (R:List UInt8 × List UInt8 × Nat × Nat) (hR:(if (methOk m&&tgtOk (clOf p) m t)=true then (match verL (clOf p) [] with | none=>verR | some k=>if (k==0 && !old)=true then verR else (m,t,k,0)) else badR)=R) :
 Calls Tryz.prog 80 #[.string s,.int .u32 (p:Nat),Bnd.bnd x0 x1 x2 x3 x4 x5 x6 x7 ch old] w fun e w'=>e=.returned (rv R)∧Below w.heap.size w w':=by
 have HA0:=Lib.hid (Bnd.At.new w 24 x0 x1 x2 x3 x4 x5 x6 x7 ch old)
 have HG0:=Lib.hid (show w.heap.size<(w.alloc (.cells #[.int .i64 x0,.int .i64 x1,.int .i64 x2,.int .i64 x3,.int .i64 x4,.int .i64 x5,.int .i64 x6,.int .i64 x7,.bool ch,.bool old] 24)).heap.size by simp)
 have HW:=Lib.hid (show Below w.heap.size w (w.alloc (.cells #[.int .i64 x0,.int .i64 x1,.int .i64 x2,.int .i64 x3,.int .i64 x4,.int .i64 x5,.int .i64 x6,.int .i64 x7,.bool ch,.bool old] 24)) from (Below.refl _ _).alloc (Nat.le_refl _) _)
 have H3:=Lib.hid (fun w=>Qk.rhas_any p hp 3 w)
 have H6:=Lib.hid (fun w=>Qk.rhas_any p hp 6 w)
 have H7:=Lib.hid (fun w=>Qk.rhas_any p hp 7 w)
 have HP:=Lib.hid (fun w=>rparts_any s (Qk.has p 3) w hs)
 have H8:=Lib.hid (fun w=>Qk.rhas_any p hp 8 w);rw [hpv] at HP;clear hpv
 have HT:=Lib.hid (fun w=>rbytes_any (ba t) p hp w (by rw [ba_size];omega) (by rw [ba_size];omega))
 have HA:Hid (∀w a,Ints w a 1 [1]→Calls Tryz.prog 87 #[.string (ba m),.slice a 1 1] w fun e w'=>e=.returned (.bool (Oct.allOf [1] m))∧Below w.heap.size w w'):=Lib.hid fun w a hk=>(Oct.rall_any (ba m) a 1 1 [1] w (by rw [ba_size];unfold maxLen;omega) hk (by decide)).mono (by rintro e w' ⟨rfl,q,rfl⟩;exact ⟨rfl,Base.below_drewN (Below.refl _ _) q⟩)
 have HG:=Lib.hid (fun w=>Tgt.rtarget_any (ba m) (ba t) w (by rw [ba_size];omega));have b1:(ba m).data.toList=m:=rfl;have b2:(ba t).data.toList=t:=rfl;rw [b1,b2] at HG;rw [b2] at HT;have hsm:(ba m).size=m.length:=ba_size m;clear b1 b2;have htk:tgtOk (clOf p) m t=(tgtB (clOf p) t&&(Qk.has p 7||Qk.has p 8|| (Tgt.parse m t).isSome)):=rfl;have hmk:methOk m=(decide (m.length≤32)&&Oct.allOf [1] m):=rfl;rw [htk,hmk] at hR;clear htk hmk;generalize Oct.allOf [1] m=al at *;generalize tgtB (clOf p) t=tb at *;have hv2:verL (clOf p) []=some 0:=by unfold verL;rw [if_pos rfl]
 rw [hv2] at hR;dsimp only at hR;clear hv2;have hans:∃(f:Int) (h1 p1 q1:ByteArray) (a:Bool) (en:Int),Tgt.ans (Tgt.parse m t)=.tuple #[Tgt.tv f h1 p1 q1 a,.int .i64 en]∧(en=0∧(Tgt.parse m t).isSome=true∨en=400∧(Tgt.parse m t).isSome=false):=by
  cases Tgt.parse m t with
  | none=>exact ⟨0,Tgt.E0,Tgt.E0,Tgt.E0,false,400,rfl,.inr ⟨rfl,rfl⟩⟩
  | some g=>exact ⟨_,_,_,_,_,0,rfl,.inl ⟨rfl,rfl⟩⟩
 obtain ⟨f,h1,p1,q1,ta,en,hE,hen⟩:=hans;rw [hE] at HG;clear hE;generalize (Tgt.parse m t).isSome=okp at *;have c0:¬((ba m).size:Int)<1:=by omega
 rw [h6] at H6;clear h6;generalize Qk.has p 7=b7 at *;generalize Qk.has p 8=b8 at *;generalize Qk.has p 3=b3 at *;rcases Nat.lt_or_ge 32 m.length with hl | hl
 ·have c1:(32:Int)<((ba m).size:Int):=by omega
  rw [decide_eq_false (by omega),Bool.false_and,Bool.false_and,if_neg (by decide)] at hR;subst hR;clear HG HT HA hen;go_enter Tryz.func80,Tryz.ntmps80
  go_wp2_with (first
   |(go_at_call 86;with_reducible refine (HP.out _).mono ?_;rintro e w1 ⟨rfl,hb⟩
     have q9:=(HA0.out.below HG0.out hb).q9)
   |(go_at_call 39;with_reducible refine (H3.out _).mono ?_;rintro e w5 ⟨rfl,hw⟩;rw [hw];clear hw)
   |(go_at_call 39;with_reducible refine (H6.out _).mono ?_;rintro e w5 ⟨rfl,hw⟩;rw [hw];clear hw)
   |(go_at_call 39;with_reducible refine (H7.out _).mono ?_;rintro e w5 ⟨rfl,hw⟩;rw [hw];clear hw)
   |(go_at_call 39;with_reducible refine (H8.out _).mono ?_;rintro e w5 ⟨rfl,hw⟩;rw [hw];clear hw)
   |(go_at_call 87;with_reducible refine (HA.out _ _ (Ints.one _ _ rfl _ _)).mono ?_;rintro e w2 ⟨rfl,hb2⟩
     replace hb:=Base.below_step (hb.alloc hb.size (.cells #[.int .i64 1] 3)) hb2
     clear hb2 q9;have q9:=(HA0.out.below HG0.out hb).q9)
   |(go_at_call 88;with_reducible refine (HT.out _).mono ?_;rintro e w5 ⟨rfl,hw⟩;rw [hw];clear hw)
   |(go_at_call 89;with_reducible refine (HG.out _).mono ?_;rintro e w3 ⟨rfl,hb3⟩
     replace hb:=(Base.below_step hb hb3).alloc (Base.below_step hb hb3).size (.cells #[.int .i64 f,.string h1,.string p1,.string q1,.bool ta] 127)
     clear hb3 q9;have q9:=(HA0.out.below HG0.out hb).q9)
   |(go_at_call 90;with_reducible refine (HV.out _).mono ?_;rintro e w4 ⟨rfl,hb4⟩
     replace hb:=Base.below_step hb hb4
     clear hb4 q9;have q9:=(HA0.out.below HG0.out hb).q9))
  exact bodyPost_ret (v:=.tuple #[.string ⟨#[]⟩,.string ⟨#[]⟩,.int .i64 0,.int .i64 400]) (by simp [results,Tryz.results80,go_sem]) rfl ⟨rfl,Base.below_step HW.out hb⟩
 have c1:¬(32:Int)<((ba m).size:Int):=by omega
 rw [decide_eq_true hl,Bool.true_and] at hR;clear hl hsm;cases al with
 | false=>
   rw [Bool.false_and,if_neg (by decide)] at hR;subst hR;clear HG HT hen;go_enter Tryz.func80,Tryz.ntmps80
   go_wp2_with (first
    |(go_at_call 86;with_reducible refine (HP.out _).mono ?_;rintro e w1 ⟨rfl,hb⟩
      have q9:=(HA0.out.below HG0.out hb).q9)
    |(go_at_call 39;with_reducible refine (H3.out _).mono ?_;rintro e w5 ⟨rfl,hw⟩;rw [hw];clear hw)
    |(go_at_call 39;with_reducible refine (H6.out _).mono ?_;rintro e w5 ⟨rfl,hw⟩;rw [hw];clear hw)
    |(go_at_call 39;with_reducible refine (H7.out _).mono ?_;rintro e w5 ⟨rfl,hw⟩;rw [hw];clear hw)
    |(go_at_call 39;with_reducible refine (H8.out _).mono ?_;rintro e w5 ⟨rfl,hw⟩;rw [hw];clear hw)
    |(go_at_call 87;with_reducible refine (HA.out _ _ (Ints.one _ _ rfl _ _)).mono ?_;rintro e w2 ⟨rfl,hb2⟩
      replace hb:=Base.below_step (hb.alloc hb.size (.cells #[.int .i64 1] 3)) hb2
      clear hb2 q9;have q9:=(HA0.out.below HG0.out hb).q9)
    |(go_at_call 88;with_reducible refine (HT.out _).mono ?_;rintro e w5 ⟨rfl,hw⟩;rw [hw];clear hw)
    |(go_at_call 89;with_reducible refine (HG.out _).mono ?_;rintro e w3 ⟨rfl,hb3⟩
      replace hb:=(Base.below_step hb hb3).alloc (Base.below_step hb hb3).size (.cells #[.int .i64 f,.string h1,.string p1,.string q1,.bool ta] 127)
      clear hb3 q9;have q9:=(HA0.out.below HG0.out hb).q9)
    |(go_at_call 90;with_reducible refine (HV.out _).mono ?_;rintro e w4 ⟨rfl,hb4⟩
      replace hb:=Base.below_step hb hb4
      clear hb4 q9;have q9:=(HA0.out.below HG0.out hb).q9))
   exact bodyPost_ret (v:=.tuple #[.string ⟨#[]⟩,.string ⟨#[]⟩,.int .i64 0,.int .i64 400]) (by simp [results,Tryz.results80,go_sem]) rfl ⟨rfl,Base.below_step HW.out hb⟩
 | true=>
 rw [Bool.true_and] at hR;cases tb with
 | false=>
   rw [Bool.false_and,if_neg (by decide)] at hR;subst hR;clear HG hen;go_enter Tryz.func80,Tryz.ntmps80
   go_wp2_with (first
    |(go_at_call 86;with_reducible refine (HP.out _).mono ?_;rintro e w1 ⟨rfl,hb⟩
      have q9:=(HA0.out.below HG0.out hb).q9)
    |(go_at_call 39;with_reducible refine (H3.out _).mono ?_;rintro e w5 ⟨rfl,hw⟩;rw [hw];clear hw)
    |(go_at_call 39;with_reducible refine (H6.out _).mono ?_;rintro e w5 ⟨rfl,hw⟩;rw [hw];clear hw)
    |(go_at_call 39;with_reducible refine (H7.out _).mono ?_;rintro e w5 ⟨rfl,hw⟩;rw [hw];clear hw)
    |(go_at_call 39;with_reducible refine (H8.out _).mono ?_;rintro e w5 ⟨rfl,hw⟩;rw [hw];clear hw)
    |(go_at_call 87;with_reducible refine (HA.out _ _ (Ints.one _ _ rfl _ _)).mono ?_;rintro e w2 ⟨rfl,hb2⟩
      replace hb:=Base.below_step (hb.alloc hb.size (.cells #[.int .i64 1] 3)) hb2
      clear hb2 q9;have q9:=(HA0.out.below HG0.out hb).q9)
    |(go_at_call 88;with_reducible refine (HT.out _).mono ?_;rintro e w5 ⟨rfl,hw⟩;rw [hw];clear hw)
    |(go_at_call 89;with_reducible refine (HG.out _).mono ?_;rintro e w3 ⟨rfl,hb3⟩
      replace hb:=(Base.below_step hb hb3).alloc (Base.below_step hb hb3).size (.cells #[.int .i64 f,.string h1,.string p1,.string q1,.bool ta] 127)
      clear hb3 q9;have q9:=(HA0.out.below HG0.out hb).q9)
    |(go_at_call 90;with_reducible refine (HV.out _).mono ?_;rintro e w4 ⟨rfl,hb4⟩
      replace hb:=Base.below_step hb hb4
      clear hb4 q9;have q9:=(HA0.out.below HG0.out hb).q9))
   exact bodyPost_ret (v:=.tuple #[.string ⟨#[]⟩,.string ⟨#[]⟩,.int .i64 0,.int .i64 400]) (by simp [results,Tryz.results80,go_sem]) rfl ⟨rfl,Base.below_step HW.out hb⟩
 | true=>
 rw [Bool.true_and] at hR;cases b7 with
 | true=>
   rw [Bool.true_or,Bool.true_or,if_pos rfl] at hR;clear HG hen;cases old with
   | false=>
     rw [if_pos (by decide)] at hR;subst hR;go_enter Tryz.func80,Tryz.ntmps80
     go_wp2_with (first
      |(go_at_call 86;with_reducible refine (HP.out _).mono ?_;rintro e w1 ⟨rfl,hb⟩
        have q9:=(HA0.out.below HG0.out hb).q9)
      |(go_at_call 39;with_reducible refine (H3.out _).mono ?_;rintro e w5 ⟨rfl,hw⟩;rw [hw];clear hw)
      |(go_at_call 39;with_reducible refine (H6.out _).mono ?_;rintro e w5 ⟨rfl,hw⟩;rw [hw];clear hw)
      |(go_at_call 39;with_reducible refine (H7.out _).mono ?_;rintro e w5 ⟨rfl,hw⟩;rw [hw];clear hw)
      |(go_at_call 39;with_reducible refine (H8.out _).mono ?_;rintro e w5 ⟨rfl,hw⟩;rw [hw];clear hw)
      |(go_at_call 87;with_reducible refine (HA.out _ _ (Ints.one _ _ rfl _ _)).mono ?_;rintro e w2 ⟨rfl,hb2⟩
        replace hb:=Base.below_step (hb.alloc hb.size (.cells #[.int .i64 1] 3)) hb2
        clear hb2 q9;have q9:=(HA0.out.below HG0.out hb).q9)
      |(go_at_call 88;with_reducible refine (HT.out _).mono ?_;rintro e w5 ⟨rfl,hw⟩;rw [hw];clear hw)
      |(go_at_call 89;with_reducible refine (HG.out _).mono ?_;rintro e w3 ⟨rfl,hb3⟩
        replace hb:=(Base.below_step hb hb3).alloc (Base.below_step hb hb3).size (.cells #[.int .i64 f,.string h1,.string p1,.string q1,.bool ta] 127)
        clear hb3 q9;have q9:=(HA0.out.below HG0.out hb).q9)
      |(go_at_call 90;with_reducible refine (HV.out _).mono ?_;rintro e w4 ⟨rfl,hb4⟩
        replace hb:=Base.below_step hb hb4
        clear hb4 q9;have q9:=(HA0.out.below HG0.out hb).q9))
     exact bodyPost_ret (v:=.tuple #[.string ⟨#[]⟩,.string ⟨#[]⟩,.int .i64 0,.int .i64 505]) (by simp [results,Tryz.results80,go_sem]) rfl ⟨rfl,Base.below_step HW.out hb⟩
   | true=>
     rw [if_neg (by decide)] at hR;subst hR;go_enter Tryz.func80,Tryz.ntmps80
     go_wp2_with (first
      |(go_at_call 86;with_reducible refine (HP.out _).mono ?_;rintro e w1 ⟨rfl,hb⟩
        have q9:=(HA0.out.below HG0.out hb).q9)
      |(go_at_call 39;with_reducible refine (H3.out _).mono ?_;rintro e w5 ⟨rfl,hw⟩;rw [hw];clear hw)
      |(go_at_call 39;with_reducible refine (H6.out _).mono ?_;rintro e w5 ⟨rfl,hw⟩;rw [hw];clear hw)
      |(go_at_call 39;with_reducible refine (H7.out _).mono ?_;rintro e w5 ⟨rfl,hw⟩;rw [hw];clear hw)
      |(go_at_call 39;with_reducible refine (H8.out _).mono ?_;rintro e w5 ⟨rfl,hw⟩;rw [hw];clear hw)
      |(go_at_call 87;with_reducible refine (HA.out _ _ (Ints.one _ _ rfl _ _)).mono ?_;rintro e w2 ⟨rfl,hb2⟩
        replace hb:=Base.below_step (hb.alloc hb.size (.cells #[.int .i64 1] 3)) hb2
        clear hb2 q9;have q9:=(HA0.out.below HG0.out hb).q9)
      |(go_at_call 88;with_reducible refine (HT.out _).mono ?_;rintro e w5 ⟨rfl,hw⟩;rw [hw];clear hw)
      |(go_at_call 89;with_reducible refine (HG.out _).mono ?_;rintro e w3 ⟨rfl,hb3⟩
        replace hb:=(Base.below_step hb hb3).alloc (Base.below_step hb hb3).size (.cells #[.int .i64 f,.string h1,.string p1,.string q1,.bool ta] 127)
        clear hb3 q9;have q9:=(HA0.out.below HG0.out hb).q9)
      |(go_at_call 90;with_reducible refine (HV.out _).mono ?_;rintro e w4 ⟨rfl,hb4⟩
        replace hb:=Base.below_step hb hb4
        clear hb4 q9;have q9:=(HA0.out.below HG0.out hb).q9))
     exact bodyPost_ret (v:=.tuple #[.string (ba m),.string (ba t),.int .i64 0,.int .i64 0]) (by simp [results,Tryz.results80,go_sem]) rfl ⟨rfl,Base.below_step HW.out hb⟩
 | false=>
 cases b8 with
 | true=>
   rw [Bool.or_true,Bool.true_or,if_pos rfl] at hR;clear HG hen;cases old with
   | false=>
     rw [if_pos (by decide)] at hR;subst hR;go_enter Tryz.func80,Tryz.ntmps80
     go_wp2_with (first
      |(go_at_call 86;with_reducible refine (HP.out _).mono ?_;rintro e w1 ⟨rfl,hb⟩
        have q9:=(HA0.out.below HG0.out hb).q9)
      |(go_at_call 39;with_reducible refine (H3.out _).mono ?_;rintro e w5 ⟨rfl,hw⟩;rw [hw];clear hw)
      |(go_at_call 39;with_reducible refine (H6.out _).mono ?_;rintro e w5 ⟨rfl,hw⟩;rw [hw];clear hw)
      |(go_at_call 39;with_reducible refine (H7.out _).mono ?_;rintro e w5 ⟨rfl,hw⟩;rw [hw];clear hw)
      |(go_at_call 39;with_reducible refine (H8.out _).mono ?_;rintro e w5 ⟨rfl,hw⟩;rw [hw];clear hw)
      |(go_at_call 87;with_reducible refine (HA.out _ _ (Ints.one _ _ rfl _ _)).mono ?_;rintro e w2 ⟨rfl,hb2⟩
        replace hb:=Base.below_step (hb.alloc hb.size (.cells #[.int .i64 1] 3)) hb2
        clear hb2 q9;have q9:=(HA0.out.below HG0.out hb).q9)
      |(go_at_call 88;with_reducible refine (HT.out _).mono ?_;rintro e w5 ⟨rfl,hw⟩;rw [hw];clear hw)
      |(go_at_call 89;with_reducible refine (HG.out _).mono ?_;rintro e w3 ⟨rfl,hb3⟩
        replace hb:=(Base.below_step hb hb3).alloc (Base.below_step hb hb3).size (.cells #[.int .i64 f,.string h1,.string p1,.string q1,.bool ta] 127)
        clear hb3 q9;have q9:=(HA0.out.below HG0.out hb).q9)
      |(go_at_call 90;with_reducible refine (HV.out _).mono ?_;rintro e w4 ⟨rfl,hb4⟩
        replace hb:=Base.below_step hb hb4
        clear hb4 q9;have q9:=(HA0.out.below HG0.out hb).q9))
     exact bodyPost_ret (v:=.tuple #[.string ⟨#[]⟩,.string ⟨#[]⟩,.int .i64 0,.int .i64 505]) (by simp [results,Tryz.results80,go_sem]) rfl ⟨rfl,Base.below_step HW.out hb⟩
   | true=>
     rw [if_neg (by decide)] at hR;subst hR;go_enter Tryz.func80,Tryz.ntmps80
     go_wp2_with (first
      |(go_at_call 86;with_reducible refine (HP.out _).mono ?_;rintro e w1 ⟨rfl,hb⟩
        have q9:=(HA0.out.below HG0.out hb).q9)
      |(go_at_call 39;with_reducible refine (H3.out _).mono ?_;rintro e w5 ⟨rfl,hw⟩;rw [hw];clear hw)
      |(go_at_call 39;with_reducible refine (H6.out _).mono ?_;rintro e w5 ⟨rfl,hw⟩;rw [hw];clear hw)
      |(go_at_call 39;with_reducible refine (H7.out _).mono ?_;rintro e w5 ⟨rfl,hw⟩;rw [hw];clear hw)
      |(go_at_call 39;with_reducible refine (H8.out _).mono ?_;rintro e w5 ⟨rfl,hw⟩;rw [hw];clear hw)
      |(go_at_call 87;with_reducible refine (HA.out _ _ (Ints.one _ _ rfl _ _)).mono ?_;rintro e w2 ⟨rfl,hb2⟩
        replace hb:=Base.below_step (hb.alloc hb.size (.cells #[.int .i64 1] 3)) hb2
        clear hb2 q9;have q9:=(HA0.out.below HG0.out hb).q9)
      |(go_at_call 88;with_reducible refine (HT.out _).mono ?_;rintro e w5 ⟨rfl,hw⟩;rw [hw];clear hw)
      |(go_at_call 89;with_reducible refine (HG.out _).mono ?_;rintro e w3 ⟨rfl,hb3⟩
        replace hb:=(Base.below_step hb hb3).alloc (Base.below_step hb hb3).size (.cells #[.int .i64 f,.string h1,.string p1,.string q1,.bool ta] 127)
        clear hb3 q9;have q9:=(HA0.out.below HG0.out hb).q9)
      |(go_at_call 90;with_reducible refine (HV.out _).mono ?_;rintro e w4 ⟨rfl,hb4⟩
        replace hb:=Base.below_step hb hb4
        clear hb4 q9;have q9:=(HA0.out.below HG0.out hb).q9))
     exact bodyPost_ret (v:=.tuple #[.string (ba m),.string (ba t),.int .i64 0,.int .i64 0]) (by simp [results,Tryz.results80,go_sem]) rfl ⟨rfl,Base.below_step HW.out hb⟩
 | false=>
 rw [Bool.or_false,Bool.false_or] at hR;rcases hen with ⟨rfl,rfl⟩ | ⟨rfl,rfl⟩
 ·rw [if_pos rfl] at hR;cases old with
  | false=>
    rw [if_pos (by decide)] at hR;subst hR;go_enter Tryz.func80,Tryz.ntmps80
    go_wp2_with (first
     |(go_at_call 86;with_reducible refine (HP.out _).mono ?_;rintro e w1 ⟨rfl,hb⟩
       have q9:=(HA0.out.below HG0.out hb).q9)
     |(go_at_call 39;with_reducible refine (H3.out _).mono ?_;rintro e w5 ⟨rfl,hw⟩;rw [hw];clear hw)
     |(go_at_call 39;with_reducible refine (H6.out _).mono ?_;rintro e w5 ⟨rfl,hw⟩;rw [hw];clear hw)
     |(go_at_call 39;with_reducible refine (H7.out _).mono ?_;rintro e w5 ⟨rfl,hw⟩;rw [hw];clear hw)
     |(go_at_call 39;with_reducible refine (H8.out _).mono ?_;rintro e w5 ⟨rfl,hw⟩;rw [hw];clear hw)
     |(go_at_call 87;with_reducible refine (HA.out _ _ (Ints.one _ _ rfl _ _)).mono ?_;rintro e w2 ⟨rfl,hb2⟩
       replace hb:=Base.below_step (hb.alloc hb.size (.cells #[.int .i64 1] 3)) hb2
       clear hb2 q9;have q9:=(HA0.out.below HG0.out hb).q9)
     |(go_at_call 88;with_reducible refine (HT.out _).mono ?_;rintro e w5 ⟨rfl,hw⟩;rw [hw];clear hw)
     |(go_at_call 89;with_reducible refine (HG.out _).mono ?_;rintro e w3 ⟨rfl,hb3⟩
       replace hb:=(Base.below_step hb hb3).alloc (Base.below_step hb hb3).size (.cells #[.int .i64 f,.string h1,.string p1,.string q1,.bool ta] 127)
       clear hb3 q9;have q9:=(HA0.out.below HG0.out hb).q9)
     |(go_at_call 90;with_reducible refine (HV.out _).mono ?_;rintro e w4 ⟨rfl,hb4⟩
       replace hb:=Base.below_step hb hb4
       clear hb4 q9;have q9:=(HA0.out.below HG0.out hb).q9))
    exact bodyPost_ret (v:=.tuple #[.string ⟨#[]⟩,.string ⟨#[]⟩,.int .i64 0,.int .i64 505]) (by simp [results,Tryz.results80,go_sem]) rfl ⟨rfl,Base.below_step HW.out hb⟩
  | true=>
    rw [if_neg (by decide)] at hR;subst hR;go_enter Tryz.func80,Tryz.ntmps80
    go_wp2_with (first
     |(go_at_call 86;with_reducible refine (HP.out _).mono ?_;rintro e w1 ⟨rfl,hb⟩
       have q9:=(HA0.out.below HG0.out hb).q9)
     |(go_at_call 39;with_reducible refine (H3.out _).mono ?_;rintro e w5 ⟨rfl,hw⟩;rw [hw];clear hw)
     |(go_at_call 39;with_reducible refine (H6.out _).mono ?_;rintro e w5 ⟨rfl,hw⟩;rw [hw];clear hw)
     |(go_at_call 39;with_reducible refine (H7.out _).mono ?_;rintro e w5 ⟨rfl,hw⟩;rw [hw];clear hw)
     |(go_at_call 39;with_reducible refine (H8.out _).mono ?_;rintro e w5 ⟨rfl,hw⟩;rw [hw];clear hw)
     |(go_at_call 87;with_reducible refine (HA.out _ _ (Ints.one _ _ rfl _ _)).mono ?_;rintro e w2 ⟨rfl,hb2⟩
       replace hb:=Base.below_step (hb.alloc hb.size (.cells #[.int .i64 1] 3)) hb2
       clear hb2 q9;have q9:=(HA0.out.below HG0.out hb).q9)
     |(go_at_call 88;with_reducible refine (HT.out _).mono ?_;rintro e w5 ⟨rfl,hw⟩;rw [hw];clear hw)
     |(go_at_call 89;with_reducible refine (HG.out _).mono ?_;rintro e w3 ⟨rfl,hb3⟩
       replace hb:=(Base.below_step hb hb3).alloc (Base.below_step hb hb3).size (.cells #[.int .i64 f,.string h1,.string p1,.string q1,.bool ta] 127)
       clear hb3 q9;have q9:=(HA0.out.below HG0.out hb).q9)
     |(go_at_call 90;with_reducible refine (HV.out _).mono ?_;rintro e w4 ⟨rfl,hb4⟩
       replace hb:=Base.below_step hb hb4
       clear hb4 q9;have q9:=(HA0.out.below HG0.out hb).q9))
    exact bodyPost_ret (v:=.tuple #[.string (ba m),.string (ba t),.int .i64 0,.int .i64 0]) (by simp [results,Tryz.results80,go_sem]) rfl ⟨rfl,Base.below_step HW.out hb⟩
 ·rw [if_neg (by decide)] at hR;subst hR;go_enter Tryz.func80,Tryz.ntmps80
  go_wp2_with (first
   |(go_at_call 86;with_reducible refine (HP.out _).mono ?_;rintro e w1 ⟨rfl,hb⟩
     have q9:=(HA0.out.below HG0.out hb).q9)
   |(go_at_call 39;with_reducible refine (H3.out _).mono ?_;rintro e w5 ⟨rfl,hw⟩;rw [hw];clear hw)
   |(go_at_call 39;with_reducible refine (H6.out _).mono ?_;rintro e w5 ⟨rfl,hw⟩;rw [hw];clear hw)
   |(go_at_call 39;with_reducible refine (H7.out _).mono ?_;rintro e w5 ⟨rfl,hw⟩;rw [hw];clear hw)
   |(go_at_call 39;with_reducible refine (H8.out _).mono ?_;rintro e w5 ⟨rfl,hw⟩;rw [hw];clear hw)
   |(go_at_call 87;with_reducible refine (HA.out _ _ (Ints.one _ _ rfl _ _)).mono ?_;rintro e w2 ⟨rfl,hb2⟩
     replace hb:=Base.below_step (hb.alloc hb.size (.cells #[.int .i64 1] 3)) hb2
     clear hb2 q9;have q9:=(HA0.out.below HG0.out hb).q9)
   |(go_at_call 88;with_reducible refine (HT.out _).mono ?_;rintro e w5 ⟨rfl,hw⟩;rw [hw];clear hw)
   |(go_at_call 89;with_reducible refine (HG.out _).mono ?_;rintro e w3 ⟨rfl,hb3⟩
     replace hb:=(Base.below_step hb hb3).alloc (Base.below_step hb hb3).size (.cells #[.int .i64 f,.string h1,.string p1,.string q1,.bool ta] 127)
     clear hb3 q9;have q9:=(HA0.out.below HG0.out hb).q9)
   |(go_at_call 90;with_reducible refine (HV.out _).mono ?_;rintro e w4 ⟨rfl,hb4⟩
     replace hb:=Base.below_step hb hb4
     clear hb4 q9;have q9:=(HA0.out.below HG0.out hb).q9))
  exact bodyPost_ret (v:=.tuple #[.string ⟨#[]⟩,.string ⟨#[]⟩,.int .i64 0,.int .i64 400]) (by simp [results,Tryz.results80,go_sem]) rfl ⟨rfl,Base.below_step HW.out hb⟩
set_option maxRecDepth 10000 in
theorem rrequest_three (s:ByteArray) (p:Nat) (hp:p<4294967296) (x0 x1 x2 x3 x4 x5 x6 x7:Int) (ch old:Bool) (w:World) (hs:s.size≤900000000) (m t:List UInt8) (v:List UInt8) (hm0:0<m.length) (hms:m.length≤s.size) (ht0:0<t.length) (hts:t.length≤s.size) (hv0:0<v.length)
 (hpv:rpv (Qk.has p 3) s.data.toList=.tuple #[.string (ba m),.string (ba t),.string (ba v),.int .i64 3,.bool true])
 (R:List UInt8 × List UInt8 × Nat × Nat) (hR:(if (methOk m&&tgtOk (clOf p) m t)=true then (match verL (clOf p) v with | none=>verR | some k=>if (k==0 && !old)=true then verR else (m,t,k,0)) else badR)=R) :
 Calls Tryz.prog 80 #[.string s,.int .u32 (p:Nat),Bnd.bnd x0 x1 x2 x3 x4 x5 x6 x7 ch old] w fun e w'=>e=.returned (rv R)∧Below w.heap.size w w':=by
 have HA0:=Lib.hid (Bnd.At.new w 24 x0 x1 x2 x3 x4 x5 x6 x7 ch old)
 have HG0:=Lib.hid (show w.heap.size<(w.alloc (.cells #[.int .i64 x0,.int .i64 x1,.int .i64 x2,.int .i64 x3,.int .i64 x4,.int .i64 x5,.int .i64 x6,.int .i64 x7,.bool ch,.bool old] 24)).heap.size by simp)
 have HW:=Lib.hid (show Below w.heap.size w (w.alloc (.cells #[.int .i64 x0,.int .i64 x1,.int .i64 x2,.int .i64 x3,.int .i64 x4,.int .i64 x5,.int .i64 x6,.int .i64 x7,.bool ch,.bool old] 24)) from (Below.refl _ _).alloc (Nat.le_refl _) _)
 have H3:=Lib.hid (fun w=>Qk.rhas_any p hp 3 w)
 have H6:=Lib.hid (fun w=>Qk.rhas_any p hp 6 w)
 have H7:=Lib.hid (fun w=>Qk.rhas_any p hp 7 w)
 have HP:=Lib.hid (fun w=>rparts_any s (Qk.has p 3) w hs)
 have H8:=Lib.hid (fun w=>Qk.rhas_any p hp 8 w);rw [hpv] at HP;clear hpv
 have HT:=Lib.hid (fun w=>rbytes_any (ba t) p hp w (by rw [ba_size];omega) (by rw [ba_size];omega))
 have HA:Hid (∀w a,Ints w a 1 [1]→Calls Tryz.prog 87 #[.string (ba m),.slice a 1 1] w fun e w'=>e=.returned (.bool (Oct.allOf [1] m))∧Below w.heap.size w w'):=Lib.hid fun w a hk=>(Oct.rall_any (ba m) a 1 1 [1] w (by rw [ba_size];unfold maxLen;omega) hk (by decide)).mono (by rintro e w' ⟨rfl,q,rfl⟩;exact ⟨rfl,Base.below_drewN (Below.refl _ _) q⟩)
 have HG:=Lib.hid (fun w=>Tgt.rtarget_any (ba m) (ba t) w (by rw [ba_size];omega));have b1:(ba m).data.toList=m:=rfl;have b2:(ba t).data.toList=t:=rfl;rw [b1,b2] at HG;rw [b2] at HT;have hsm:(ba m).size=m.length:=ba_size m;clear b1 b2;have htk:tgtOk (clOf p) m t=(tgtB (clOf p) t&&(Qk.has p 7||Qk.has p 8|| (Tgt.parse m t).isSome)):=rfl;have hmk:methOk m=(decide (m.length≤32)&&Oct.allOf [1] m):=rfl;rw [htk,hmk] at hR;clear htk hmk
 have HV0:=Lib.hid (fun w=>rversion_any (ba v) p hp w (by rw [ba_size];exact hv0));have b3:(ba v).data.toList=v:=rfl;rw [b3] at HV0;clear b3;generalize Oct.allOf [1] m=al at *;generalize tgtB (clOf p) t=tb at *;have hans:∃(f:Int) (h1 p1 q1:ByteArray) (a:Bool) (en:Int),Tgt.ans (Tgt.parse m t)=.tuple #[Tgt.tv f h1 p1 q1 a,.int .i64 en]∧(en=0∧(Tgt.parse m t).isSome=true∨en=400∧(Tgt.parse m t).isSome=false):=by
  cases Tgt.parse m t with
  | none=>exact ⟨0,Tgt.E0,Tgt.E0,Tgt.E0,false,400,rfl,.inr ⟨rfl,rfl⟩⟩
  | some g=>exact ⟨_,_,_,_,_,0,rfl,.inl ⟨rfl,rfl⟩⟩
 obtain ⟨f,h1,p1,q1,ta,en,hE,hen⟩:=hans;rw [hE] at HG;clear hE;generalize (Tgt.parse m t).isSome=okp at *;have c0:¬((ba m).size:Int)<1:=by omega
 generalize Qk.has p 7=b7 at *;generalize Qk.has p 8=b8 at *;generalize Qk.has p 6=b6 at *;generalize Qk.has p 3=b3 at *;rcases Nat.lt_or_ge 32 m.length with hl | hl
 ·have c1:(32:Int)<((ba m).size:Int):=by omega
  rw [decide_eq_false (by omega),Bool.false_and,Bool.false_and,if_neg (by decide)] at hR;subst hR;clear HG HT HA hen;go_enter Tryz.func80,Tryz.ntmps80
  go_wp2_with (first
   |(go_at_call 86;with_reducible refine (HP.out _).mono ?_;rintro e w1 ⟨rfl,hb⟩
     have q9:=(HA0.out.below HG0.out hb).q9)
   |(go_at_call 39;with_reducible refine (H3.out _).mono ?_;rintro e w5 ⟨rfl,hw⟩;rw [hw];clear hw)
   |(go_at_call 39;with_reducible refine (H6.out _).mono ?_;rintro e w5 ⟨rfl,hw⟩;rw [hw];clear hw)
   |(go_at_call 39;with_reducible refine (H7.out _).mono ?_;rintro e w5 ⟨rfl,hw⟩;rw [hw];clear hw)
   |(go_at_call 39;with_reducible refine (H8.out _).mono ?_;rintro e w5 ⟨rfl,hw⟩;rw [hw];clear hw)
   |(go_at_call 87;with_reducible refine (HA.out _ _ (Ints.one _ _ rfl _ _)).mono ?_;rintro e w2 ⟨rfl,hb2⟩
     replace hb:=Base.below_step (hb.alloc hb.size (.cells #[.int .i64 1] 3)) hb2
     clear hb2 q9;have q9:=(HA0.out.below HG0.out hb).q9)
   |(go_at_call 88;with_reducible refine (HT.out _).mono ?_;rintro e w5 ⟨rfl,hw⟩;rw [hw];clear hw)
   |(go_at_call 89;with_reducible refine (HG.out _).mono ?_;rintro e w3 ⟨rfl,hb3⟩
     replace hb:=(Base.below_step hb hb3).alloc (Base.below_step hb hb3).size (.cells #[.int .i64 f,.string h1,.string p1,.string q1,.bool ta] 127)
     clear hb3 q9;have q9:=(HA0.out.below HG0.out hb).q9)
   |(go_at_call 90;with_reducible refine (HV.out _).mono ?_;rintro e w4 ⟨rfl,hb4⟩
     replace hb:=Base.below_step hb hb4
     clear hb4 q9;have q9:=(HA0.out.below HG0.out hb).q9))
  exact bodyPost_ret (v:=.tuple #[.string ⟨#[]⟩,.string ⟨#[]⟩,.int .i64 0,.int .i64 400]) (by simp [results,Tryz.results80,go_sem]) rfl ⟨rfl,Base.below_step HW.out hb⟩
 have c1:¬(32:Int)<((ba m).size:Int):=by omega
 rw [decide_eq_true hl,Bool.true_and] at hR;clear hl hsm;cases al with
 | false=>
   rw [Bool.false_and,if_neg (by decide)] at hR;subst hR;clear HG HT hen;go_enter Tryz.func80,Tryz.ntmps80
   go_wp2_with (first
    |(go_at_call 86;with_reducible refine (HP.out _).mono ?_;rintro e w1 ⟨rfl,hb⟩
      have q9:=(HA0.out.below HG0.out hb).q9)
    |(go_at_call 39;with_reducible refine (H3.out _).mono ?_;rintro e w5 ⟨rfl,hw⟩;rw [hw];clear hw)
    |(go_at_call 39;with_reducible refine (H6.out _).mono ?_;rintro e w5 ⟨rfl,hw⟩;rw [hw];clear hw)
    |(go_at_call 39;with_reducible refine (H7.out _).mono ?_;rintro e w5 ⟨rfl,hw⟩;rw [hw];clear hw)
    |(go_at_call 39;with_reducible refine (H8.out _).mono ?_;rintro e w5 ⟨rfl,hw⟩;rw [hw];clear hw)
    |(go_at_call 87;with_reducible refine (HA.out _ _ (Ints.one _ _ rfl _ _)).mono ?_;rintro e w2 ⟨rfl,hb2⟩
      replace hb:=Base.below_step (hb.alloc hb.size (.cells #[.int .i64 1] 3)) hb2
      clear hb2 q9;have q9:=(HA0.out.below HG0.out hb).q9)
    |(go_at_call 88;with_reducible refine (HT.out _).mono ?_;rintro e w5 ⟨rfl,hw⟩;rw [hw];clear hw)
    |(go_at_call 89;with_reducible refine (HG.out _).mono ?_;rintro e w3 ⟨rfl,hb3⟩
      replace hb:=(Base.below_step hb hb3).alloc (Base.below_step hb hb3).size (.cells #[.int .i64 f,.string h1,.string p1,.string q1,.bool ta] 127)
      clear hb3 q9;have q9:=(HA0.out.below HG0.out hb).q9)
    |(go_at_call 90;with_reducible refine (HV.out _).mono ?_;rintro e w4 ⟨rfl,hb4⟩
      replace hb:=Base.below_step hb hb4
      clear hb4 q9;have q9:=(HA0.out.below HG0.out hb).q9))
   exact bodyPost_ret (v:=.tuple #[.string ⟨#[]⟩,.string ⟨#[]⟩,.int .i64 0,.int .i64 400]) (by simp [results,Tryz.results80,go_sem]) rfl ⟨rfl,Base.below_step HW.out hb⟩
 | true=>
 rw [Bool.true_and] at hR;cases tb with
 | false=>
   rw [Bool.false_and,if_neg (by decide)] at hR;subst hR;clear HG hen;go_enter Tryz.func80,Tryz.ntmps80
   go_wp2_with (first
    |(go_at_call 86;with_reducible refine (HP.out _).mono ?_;rintro e w1 ⟨rfl,hb⟩
      have q9:=(HA0.out.below HG0.out hb).q9)
    |(go_at_call 39;with_reducible refine (H3.out _).mono ?_;rintro e w5 ⟨rfl,hw⟩;rw [hw];clear hw)
    |(go_at_call 39;with_reducible refine (H6.out _).mono ?_;rintro e w5 ⟨rfl,hw⟩;rw [hw];clear hw)
    |(go_at_call 39;with_reducible refine (H7.out _).mono ?_;rintro e w5 ⟨rfl,hw⟩;rw [hw];clear hw)
    |(go_at_call 39;with_reducible refine (H8.out _).mono ?_;rintro e w5 ⟨rfl,hw⟩;rw [hw];clear hw)
    |(go_at_call 87;with_reducible refine (HA.out _ _ (Ints.one _ _ rfl _ _)).mono ?_;rintro e w2 ⟨rfl,hb2⟩
      replace hb:=Base.below_step (hb.alloc hb.size (.cells #[.int .i64 1] 3)) hb2
      clear hb2 q9;have q9:=(HA0.out.below HG0.out hb).q9)
    |(go_at_call 88;with_reducible refine (HT.out _).mono ?_;rintro e w5 ⟨rfl,hw⟩;rw [hw];clear hw)
    |(go_at_call 89;with_reducible refine (HG.out _).mono ?_;rintro e w3 ⟨rfl,hb3⟩
      replace hb:=(Base.below_step hb hb3).alloc (Base.below_step hb hb3).size (.cells #[.int .i64 f,.string h1,.string p1,.string q1,.bool ta] 127)
      clear hb3 q9;have q9:=(HA0.out.below HG0.out hb).q9)
    |(go_at_call 90;with_reducible refine (HV.out _).mono ?_;rintro e w4 ⟨rfl,hb4⟩
      replace hb:=Base.below_step hb hb4
      clear hb4 q9;have q9:=(HA0.out.below HG0.out hb).q9))
   exact bodyPost_ret (v:=.tuple #[.string ⟨#[]⟩,.string ⟨#[]⟩,.int .i64 0,.int .i64 400]) (by simp [results,Tryz.results80,go_sem]) rfl ⟨rfl,Base.below_step HW.out hb⟩
 | true=>
 rw [Bool.true_and] at hR;cases b7 with
 | true=>
   rw [Bool.true_or,Bool.true_or,if_pos rfl] at hR;clear HG hen;cases hvl:verL (clOf p) v with
   | none=>
     rw [hvl] at hR HV0;dsimp only at hR;subst hR;clear hvl
     have HV:Hid (∀w,Calls Tryz.prog 90 #[.string (ba v),.int .u32 (p:Nat)] w fun e w'=>(∃k:Nat,e=.returned (.tuple #[.int .i64 (k:Int),.bool false]))∧Below w.heap.size w w'):=Lib.hid fun w=>(HV0.out w).mono (by rintro e w' ⟨⟨k,rfl,_⟩,hb⟩;exact ⟨⟨k,rfl⟩,hb⟩);clear HV0;go_enter Tryz.func80,Tryz.ntmps80
     go_wp2_with (first
      |(go_at_call 86;with_reducible refine (HP.out _).mono ?_;rintro e w1 ⟨rfl,hb⟩
        have q9:=(HA0.out.below HG0.out hb).q9)
      |(go_at_call 39;with_reducible refine (H3.out _).mono ?_;rintro e w5 ⟨rfl,hw⟩;rw [hw];clear hw)
      |(go_at_call 39;with_reducible refine (H6.out _).mono ?_;rintro e w5 ⟨rfl,hw⟩;rw [hw];clear hw)
      |(go_at_call 39;with_reducible refine (H7.out _).mono ?_;rintro e w5 ⟨rfl,hw⟩;rw [hw];clear hw)
      |(go_at_call 39;with_reducible refine (H8.out _).mono ?_;rintro e w5 ⟨rfl,hw⟩;rw [hw];clear hw)
      |(go_at_call 87;with_reducible refine (HA.out _ _ (Ints.one _ _ rfl _ _)).mono ?_;rintro e w2 ⟨rfl,hb2⟩
        replace hb:=Base.below_step (hb.alloc hb.size (.cells #[.int .i64 1] 3)) hb2
        clear hb2 q9;have q9:=(HA0.out.below HG0.out hb).q9)
      |(go_at_call 88;with_reducible refine (HT.out _).mono ?_;rintro e w5 ⟨rfl,hw⟩;rw [hw];clear hw)
      |(go_at_call 89;with_reducible refine (HG.out _).mono ?_;rintro e w3 ⟨rfl,hb3⟩
        replace hb:=(Base.below_step hb hb3).alloc (Base.below_step hb hb3).size (.cells #[.int .i64 f,.string h1,.string p1,.string q1,.bool ta] 127)
        clear hb3 q9;have q9:=(HA0.out.below HG0.out hb).q9)
      |(go_at_call 90;with_reducible refine (HV.out _).mono ?_;rintro e w4 ⟨⟨kk,rfl⟩,hb4⟩
        replace hb:=Base.below_step hb hb4
        clear hb4 q9;have q9:=(HA0.out.below HG0.out hb).q9))
     exact bodyPost_ret (v:=.tuple #[.string ⟨#[]⟩,.string ⟨#[]⟩,.int .i64 0,.int .i64 505]) (by simp [results,Tryz.results80,go_sem]) rfl ⟨rfl,Base.below_step HW.out hb⟩
   | some k=>
     have h01:=verL_01 hvl;rw [hvl] at hR HV0;dsimp only at hR;clear hvl
     have HV:Hid (∀w,Calls Tryz.prog 90 #[.string (ba v),.int .u32 (p:Nat)] w fun e w'=>e=.returned (.tuple #[.int .i64 (k:Int),.bool true])∧Below w.heap.size w w'):=Lib.hid fun w=>(HV0.out w).mono (by rintro e w' ⟨⟨j,rfl,hj⟩,hb⟩;rw [hj k rfl];exact ⟨rfl,hb⟩);clear HV0;rcases h01 with rfl | rfl
     ·cases old with
      | false=>
        rw [if_pos (by decide)] at hR;subst hR;go_enter Tryz.func80,Tryz.ntmps80
        go_wp2_with (first
         |(go_at_call 86;with_reducible refine (HP.out _).mono ?_;rintro e w1 ⟨rfl,hb⟩
           have q9:=(HA0.out.below HG0.out hb).q9)
         |(go_at_call 39;with_reducible refine (H3.out _).mono ?_;rintro e w5 ⟨rfl,hw⟩;rw [hw];clear hw)
         |(go_at_call 39;with_reducible refine (H6.out _).mono ?_;rintro e w5 ⟨rfl,hw⟩;rw [hw];clear hw)
         |(go_at_call 39;with_reducible refine (H7.out _).mono ?_;rintro e w5 ⟨rfl,hw⟩;rw [hw];clear hw)
         |(go_at_call 39;with_reducible refine (H8.out _).mono ?_;rintro e w5 ⟨rfl,hw⟩;rw [hw];clear hw)
         |(go_at_call 87;with_reducible refine (HA.out _ _ (Ints.one _ _ rfl _ _)).mono ?_;rintro e w2 ⟨rfl,hb2⟩
           replace hb:=Base.below_step (hb.alloc hb.size (.cells #[.int .i64 1] 3)) hb2
           clear hb2 q9;have q9:=(HA0.out.below HG0.out hb).q9)
         |(go_at_call 88;with_reducible refine (HT.out _).mono ?_;rintro e w5 ⟨rfl,hw⟩;rw [hw];clear hw)
         |(go_at_call 89;with_reducible refine (HG.out _).mono ?_;rintro e w3 ⟨rfl,hb3⟩
           replace hb:=(Base.below_step hb hb3).alloc (Base.below_step hb hb3).size (.cells #[.int .i64 f,.string h1,.string p1,.string q1,.bool ta] 127)
           clear hb3 q9;have q9:=(HA0.out.below HG0.out hb).q9)
         |(go_at_call 90;with_reducible refine (HV.out _).mono ?_;rintro e w4 ⟨rfl,hb4⟩
           replace hb:=Base.below_step hb hb4
           clear hb4 q9;have q9:=(HA0.out.below HG0.out hb).q9))
        exact bodyPost_ret (v:=.tuple #[.string ⟨#[]⟩,.string ⟨#[]⟩,.int .i64 0,.int .i64 505]) (by simp [results,Tryz.results80,go_sem]) rfl ⟨rfl,Base.below_step HW.out hb⟩
      | true=>
        rw [if_neg (by decide)] at hR;subst hR;go_enter Tryz.func80,Tryz.ntmps80
        go_wp2_with (first
         |(go_at_call 86;with_reducible refine (HP.out _).mono ?_;rintro e w1 ⟨rfl,hb⟩
           have q9:=(HA0.out.below HG0.out hb).q9)
         |(go_at_call 39;with_reducible refine (H3.out _).mono ?_;rintro e w5 ⟨rfl,hw⟩;rw [hw];clear hw)
         |(go_at_call 39;with_reducible refine (H6.out _).mono ?_;rintro e w5 ⟨rfl,hw⟩;rw [hw];clear hw)
         |(go_at_call 39;with_reducible refine (H7.out _).mono ?_;rintro e w5 ⟨rfl,hw⟩;rw [hw];clear hw)
         |(go_at_call 39;with_reducible refine (H8.out _).mono ?_;rintro e w5 ⟨rfl,hw⟩;rw [hw];clear hw)
         |(go_at_call 87;with_reducible refine (HA.out _ _ (Ints.one _ _ rfl _ _)).mono ?_;rintro e w2 ⟨rfl,hb2⟩
           replace hb:=Base.below_step (hb.alloc hb.size (.cells #[.int .i64 1] 3)) hb2
           clear hb2 q9;have q9:=(HA0.out.below HG0.out hb).q9)
         |(go_at_call 88;with_reducible refine (HT.out _).mono ?_;rintro e w5 ⟨rfl,hw⟩;rw [hw];clear hw)
         |(go_at_call 89;with_reducible refine (HG.out _).mono ?_;rintro e w3 ⟨rfl,hb3⟩
           replace hb:=(Base.below_step hb hb3).alloc (Base.below_step hb hb3).size (.cells #[.int .i64 f,.string h1,.string p1,.string q1,.bool ta] 127)
           clear hb3 q9;have q9:=(HA0.out.below HG0.out hb).q9)
         |(go_at_call 90;with_reducible refine (HV.out _).mono ?_;rintro e w4 ⟨rfl,hb4⟩
           replace hb:=Base.below_step hb hb4
           clear hb4 q9;have q9:=(HA0.out.below HG0.out hb).q9))
        exact bodyPost_ret (v:=.tuple #[.string (ba m),.string (ba t),.int .i64 0,.int .i64 0]) (by simp [results,Tryz.results80,go_sem]) rfl ⟨rfl,Base.below_step HW.out hb⟩
     ·rw [if_neg (by simp)] at hR;subst hR;go_enter Tryz.func80,Tryz.ntmps80
      go_wp2_with (first
       |(go_at_call 86;with_reducible refine (HP.out _).mono ?_;rintro e w1 ⟨rfl,hb⟩
         have q9:=(HA0.out.below HG0.out hb).q9)
       |(go_at_call 39;with_reducible refine (H3.out _).mono ?_;rintro e w5 ⟨rfl,hw⟩;rw [hw];clear hw)
       |(go_at_call 39;with_reducible refine (H6.out _).mono ?_;rintro e w5 ⟨rfl,hw⟩;rw [hw];clear hw)
       |(go_at_call 39;with_reducible refine (H7.out _).mono ?_;rintro e w5 ⟨rfl,hw⟩;rw [hw];clear hw)
       |(go_at_call 39;with_reducible refine (H8.out _).mono ?_;rintro e w5 ⟨rfl,hw⟩;rw [hw];clear hw)
       |(go_at_call 87;with_reducible refine (HA.out _ _ (Ints.one _ _ rfl _ _)).mono ?_;rintro e w2 ⟨rfl,hb2⟩
         replace hb:=Base.below_step (hb.alloc hb.size (.cells #[.int .i64 1] 3)) hb2
         clear hb2 q9;have q9:=(HA0.out.below HG0.out hb).q9)
       |(go_at_call 88;with_reducible refine (HT.out _).mono ?_;rintro e w5 ⟨rfl,hw⟩;rw [hw];clear hw)
       |(go_at_call 89;with_reducible refine (HG.out _).mono ?_;rintro e w3 ⟨rfl,hb3⟩
         replace hb:=(Base.below_step hb hb3).alloc (Base.below_step hb hb3).size (.cells #[.int .i64 f,.string h1,.string p1,.string q1,.bool ta] 127)
         clear hb3 q9;have q9:=(HA0.out.below HG0.out hb).q9)
       |(go_at_call 90;with_reducible refine (HV.out _).mono ?_;rintro e w4 ⟨rfl,hb4⟩
         replace hb:=Base.below_step hb hb4
         clear hb4 q9;have q9:=(HA0.out.below HG0.out hb).q9))
      exact bodyPost_ret (v:=.tuple #[.string (ba m),.string (ba t),.int .i64 1,.int .i64 0]) (by simp [results,Tryz.results80,go_sem]) rfl ⟨rfl,Base.below_step HW.out hb⟩
 | false=>
 cases b8 with
 | true=>
   rw [Bool.or_true,Bool.true_or,if_pos rfl] at hR;clear HG hen;cases hvl:verL (clOf p) v with
   | none=>
     rw [hvl] at hR HV0;dsimp only at hR;subst hR;clear hvl
     have HV:Hid (∀w,Calls Tryz.prog 90 #[.string (ba v),.int .u32 (p:Nat)] w fun e w'=>(∃k:Nat,e=.returned (.tuple #[.int .i64 (k:Int),.bool false]))∧Below w.heap.size w w'):=Lib.hid fun w=>(HV0.out w).mono (by rintro e w' ⟨⟨k,rfl,_⟩,hb⟩;exact ⟨⟨k,rfl⟩,hb⟩);clear HV0;go_enter Tryz.func80,Tryz.ntmps80
     go_wp2_with (first
      |(go_at_call 86;with_reducible refine (HP.out _).mono ?_;rintro e w1 ⟨rfl,hb⟩
        have q9:=(HA0.out.below HG0.out hb).q9)
      |(go_at_call 39;with_reducible refine (H3.out _).mono ?_;rintro e w5 ⟨rfl,hw⟩;rw [hw];clear hw)
      |(go_at_call 39;with_reducible refine (H6.out _).mono ?_;rintro e w5 ⟨rfl,hw⟩;rw [hw];clear hw)
      |(go_at_call 39;with_reducible refine (H7.out _).mono ?_;rintro e w5 ⟨rfl,hw⟩;rw [hw];clear hw)
      |(go_at_call 39;with_reducible refine (H8.out _).mono ?_;rintro e w5 ⟨rfl,hw⟩;rw [hw];clear hw)
      |(go_at_call 87;with_reducible refine (HA.out _ _ (Ints.one _ _ rfl _ _)).mono ?_;rintro e w2 ⟨rfl,hb2⟩
        replace hb:=Base.below_step (hb.alloc hb.size (.cells #[.int .i64 1] 3)) hb2
        clear hb2 q9;have q9:=(HA0.out.below HG0.out hb).q9)
      |(go_at_call 88;with_reducible refine (HT.out _).mono ?_;rintro e w5 ⟨rfl,hw⟩;rw [hw];clear hw)
      |(go_at_call 89;with_reducible refine (HG.out _).mono ?_;rintro e w3 ⟨rfl,hb3⟩
        replace hb:=(Base.below_step hb hb3).alloc (Base.below_step hb hb3).size (.cells #[.int .i64 f,.string h1,.string p1,.string q1,.bool ta] 127)
        clear hb3 q9;have q9:=(HA0.out.below HG0.out hb).q9)
      |(go_at_call 90;with_reducible refine (HV.out _).mono ?_;rintro e w4 ⟨⟨kk,rfl⟩,hb4⟩
        replace hb:=Base.below_step hb hb4
        clear hb4 q9;have q9:=(HA0.out.below HG0.out hb).q9))
     exact bodyPost_ret (v:=.tuple #[.string ⟨#[]⟩,.string ⟨#[]⟩,.int .i64 0,.int .i64 505]) (by simp [results,Tryz.results80,go_sem]) rfl ⟨rfl,Base.below_step HW.out hb⟩
   | some k=>
     have h01:=verL_01 hvl;rw [hvl] at hR HV0;dsimp only at hR;clear hvl
     have HV:Hid (∀w,Calls Tryz.prog 90 #[.string (ba v),.int .u32 (p:Nat)] w fun e w'=>e=.returned (.tuple #[.int .i64 (k:Int),.bool true])∧Below w.heap.size w w'):=Lib.hid fun w=>(HV0.out w).mono (by rintro e w' ⟨⟨j,rfl,hj⟩,hb⟩;rw [hj k rfl];exact ⟨rfl,hb⟩);clear HV0;rcases h01 with rfl | rfl
     ·cases old with
      | false=>
        rw [if_pos (by decide)] at hR;subst hR;go_enter Tryz.func80,Tryz.ntmps80
        go_wp2_with (first
         |(go_at_call 86;with_reducible refine (HP.out _).mono ?_;rintro e w1 ⟨rfl,hb⟩
           have q9:=(HA0.out.below HG0.out hb).q9)
         |(go_at_call 39;with_reducible refine (H3.out _).mono ?_;rintro e w5 ⟨rfl,hw⟩;rw [hw];clear hw)
         |(go_at_call 39;with_reducible refine (H6.out _).mono ?_;rintro e w5 ⟨rfl,hw⟩;rw [hw];clear hw)
         |(go_at_call 39;with_reducible refine (H7.out _).mono ?_;rintro e w5 ⟨rfl,hw⟩;rw [hw];clear hw)
         |(go_at_call 39;with_reducible refine (H8.out _).mono ?_;rintro e w5 ⟨rfl,hw⟩;rw [hw];clear hw)
         |(go_at_call 87;with_reducible refine (HA.out _ _ (Ints.one _ _ rfl _ _)).mono ?_;rintro e w2 ⟨rfl,hb2⟩
           replace hb:=Base.below_step (hb.alloc hb.size (.cells #[.int .i64 1] 3)) hb2
           clear hb2 q9;have q9:=(HA0.out.below HG0.out hb).q9)
         |(go_at_call 88;with_reducible refine (HT.out _).mono ?_;rintro e w5 ⟨rfl,hw⟩;rw [hw];clear hw)
         |(go_at_call 89;with_reducible refine (HG.out _).mono ?_;rintro e w3 ⟨rfl,hb3⟩
           replace hb:=(Base.below_step hb hb3).alloc (Base.below_step hb hb3).size (.cells #[.int .i64 f,.string h1,.string p1,.string q1,.bool ta] 127)
           clear hb3 q9;have q9:=(HA0.out.below HG0.out hb).q9)
         |(go_at_call 90;with_reducible refine (HV.out _).mono ?_;rintro e w4 ⟨rfl,hb4⟩
           replace hb:=Base.below_step hb hb4
           clear hb4 q9;have q9:=(HA0.out.below HG0.out hb).q9))
        exact bodyPost_ret (v:=.tuple #[.string ⟨#[]⟩,.string ⟨#[]⟩,.int .i64 0,.int .i64 505]) (by simp [results,Tryz.results80,go_sem]) rfl ⟨rfl,Base.below_step HW.out hb⟩
      | true=>
        rw [if_neg (by decide)] at hR;subst hR;go_enter Tryz.func80,Tryz.ntmps80
        go_wp2_with (first
         |(go_at_call 86;with_reducible refine (HP.out _).mono ?_;rintro e w1 ⟨rfl,hb⟩
           have q9:=(HA0.out.below HG0.out hb).q9)
         |(go_at_call 39;with_reducible refine (H3.out _).mono ?_;rintro e w5 ⟨rfl,hw⟩;rw [hw];clear hw)
         |(go_at_call 39;with_reducible refine (H6.out _).mono ?_;rintro e w5 ⟨rfl,hw⟩;rw [hw];clear hw)
         |(go_at_call 39;with_reducible refine (H7.out _).mono ?_;rintro e w5 ⟨rfl,hw⟩;rw [hw];clear hw)
         |(go_at_call 39;with_reducible refine (H8.out _).mono ?_;rintro e w5 ⟨rfl,hw⟩;rw [hw];clear hw)
         |(go_at_call 87;with_reducible refine (HA.out _ _ (Ints.one _ _ rfl _ _)).mono ?_;rintro e w2 ⟨rfl,hb2⟩
           replace hb:=Base.below_step (hb.alloc hb.size (.cells #[.int .i64 1] 3)) hb2
           clear hb2 q9;have q9:=(HA0.out.below HG0.out hb).q9)
         |(go_at_call 88;with_reducible refine (HT.out _).mono ?_;rintro e w5 ⟨rfl,hw⟩;rw [hw];clear hw)
         |(go_at_call 89;with_reducible refine (HG.out _).mono ?_;rintro e w3 ⟨rfl,hb3⟩
           replace hb:=(Base.below_step hb hb3).alloc (Base.below_step hb hb3).size (.cells #[.int .i64 f,.string h1,.string p1,.string q1,.bool ta] 127)
           clear hb3 q9;have q9:=(HA0.out.below HG0.out hb).q9)
         |(go_at_call 90;with_reducible refine (HV.out _).mono ?_;rintro e w4 ⟨rfl,hb4⟩
           replace hb:=Base.below_step hb hb4
           clear hb4 q9;have q9:=(HA0.out.below HG0.out hb).q9))
        exact bodyPost_ret (v:=.tuple #[.string (ba m),.string (ba t),.int .i64 0,.int .i64 0]) (by simp [results,Tryz.results80,go_sem]) rfl ⟨rfl,Base.below_step HW.out hb⟩
     ·rw [if_neg (by simp)] at hR;subst hR;go_enter Tryz.func80,Tryz.ntmps80
      go_wp2_with (first
       |(go_at_call 86;with_reducible refine (HP.out _).mono ?_;rintro e w1 ⟨rfl,hb⟩
         have q9:=(HA0.out.below HG0.out hb).q9)
       |(go_at_call 39;with_reducible refine (H3.out _).mono ?_;rintro e w5 ⟨rfl,hw⟩;rw [hw];clear hw)
       |(go_at_call 39;with_reducible refine (H6.out _).mono ?_;rintro e w5 ⟨rfl,hw⟩;rw [hw];clear hw)
       |(go_at_call 39;with_reducible refine (H7.out _).mono ?_;rintro e w5 ⟨rfl,hw⟩;rw [hw];clear hw)
       |(go_at_call 39;with_reducible refine (H8.out _).mono ?_;rintro e w5 ⟨rfl,hw⟩;rw [hw];clear hw)
       |(go_at_call 87;with_reducible refine (HA.out _ _ (Ints.one _ _ rfl _ _)).mono ?_;rintro e w2 ⟨rfl,hb2⟩
         replace hb:=Base.below_step (hb.alloc hb.size (.cells #[.int .i64 1] 3)) hb2
         clear hb2 q9;have q9:=(HA0.out.below HG0.out hb).q9)
       |(go_at_call 88;with_reducible refine (HT.out _).mono ?_;rintro e w5 ⟨rfl,hw⟩;rw [hw];clear hw)
       |(go_at_call 89;with_reducible refine (HG.out _).mono ?_;rintro e w3 ⟨rfl,hb3⟩
         replace hb:=(Base.below_step hb hb3).alloc (Base.below_step hb hb3).size (.cells #[.int .i64 f,.string h1,.string p1,.string q1,.bool ta] 127)
         clear hb3 q9;have q9:=(HA0.out.below HG0.out hb).q9)
       |(go_at_call 90;with_reducible refine (HV.out _).mono ?_;rintro e w4 ⟨rfl,hb4⟩
         replace hb:=Base.below_step hb hb4
         clear hb4 q9;have q9:=(HA0.out.below HG0.out hb).q9))
      exact bodyPost_ret (v:=.tuple #[.string (ba m),.string (ba t),.int .i64 1,.int .i64 0]) (by simp [results,Tryz.results80,go_sem]) rfl ⟨rfl,Base.below_step HW.out hb⟩
 | false=>
 rw [Bool.or_false,Bool.false_or] at hR;rcases hen with ⟨rfl,rfl⟩ | ⟨rfl,rfl⟩
 ·rw [if_pos rfl] at hR;cases hvl:verL (clOf p) v with
  | none=>
    rw [hvl] at hR HV0;dsimp only at hR;subst hR;clear hvl
    have HV:Hid (∀w,Calls Tryz.prog 90 #[.string (ba v),.int .u32 (p:Nat)] w fun e w'=>(∃k:Nat,e=.returned (.tuple #[.int .i64 (k:Int),.bool false]))∧Below w.heap.size w w'):=Lib.hid fun w=>(HV0.out w).mono (by rintro e w' ⟨⟨k,rfl,_⟩,hb⟩;exact ⟨⟨k,rfl⟩,hb⟩);clear HV0;go_enter Tryz.func80,Tryz.ntmps80
    go_wp2_with (first
     |(go_at_call 86;with_reducible refine (HP.out _).mono ?_;rintro e w1 ⟨rfl,hb⟩
       have q9:=(HA0.out.below HG0.out hb).q9)
     |(go_at_call 39;with_reducible refine (H3.out _).mono ?_;rintro e w5 ⟨rfl,hw⟩;rw [hw];clear hw)
     |(go_at_call 39;with_reducible refine (H6.out _).mono ?_;rintro e w5 ⟨rfl,hw⟩;rw [hw];clear hw)
     |(go_at_call 39;with_reducible refine (H7.out _).mono ?_;rintro e w5 ⟨rfl,hw⟩;rw [hw];clear hw)
     |(go_at_call 39;with_reducible refine (H8.out _).mono ?_;rintro e w5 ⟨rfl,hw⟩;rw [hw];clear hw)
     |(go_at_call 87;with_reducible refine (HA.out _ _ (Ints.one _ _ rfl _ _)).mono ?_;rintro e w2 ⟨rfl,hb2⟩
       replace hb:=Base.below_step (hb.alloc hb.size (.cells #[.int .i64 1] 3)) hb2
       clear hb2 q9;have q9:=(HA0.out.below HG0.out hb).q9)
     |(go_at_call 88;with_reducible refine (HT.out _).mono ?_;rintro e w5 ⟨rfl,hw⟩;rw [hw];clear hw)
     |(go_at_call 89;with_reducible refine (HG.out _).mono ?_;rintro e w3 ⟨rfl,hb3⟩
       replace hb:=(Base.below_step hb hb3).alloc (Base.below_step hb hb3).size (.cells #[.int .i64 f,.string h1,.string p1,.string q1,.bool ta] 127)
       clear hb3 q9;have q9:=(HA0.out.below HG0.out hb).q9)
     |(go_at_call 90;with_reducible refine (HV.out _).mono ?_;rintro e w4 ⟨⟨kk,rfl⟩,hb4⟩
       replace hb:=Base.below_step hb hb4
       clear hb4 q9;have q9:=(HA0.out.below HG0.out hb).q9))
    exact bodyPost_ret (v:=.tuple #[.string ⟨#[]⟩,.string ⟨#[]⟩,.int .i64 0,.int .i64 505]) (by simp [results,Tryz.results80,go_sem]) rfl ⟨rfl,Base.below_step HW.out hb⟩
  | some k=>
    have h01:=verL_01 hvl;rw [hvl] at hR HV0;dsimp only at hR;clear hvl
    have HV:Hid (∀w,Calls Tryz.prog 90 #[.string (ba v),.int .u32 (p:Nat)] w fun e w'=>e=.returned (.tuple #[.int .i64 (k:Int),.bool true])∧Below w.heap.size w w'):=Lib.hid fun w=>(HV0.out w).mono (by rintro e w' ⟨⟨j,rfl,hj⟩,hb⟩;rw [hj k rfl];exact ⟨rfl,hb⟩);clear HV0;rcases h01 with rfl | rfl
    ·cases old with
     | false=>
       rw [if_pos (by decide)] at hR;subst hR;go_enter Tryz.func80,Tryz.ntmps80
       go_wp2_with (first
        |(go_at_call 86;with_reducible refine (HP.out _).mono ?_;rintro e w1 ⟨rfl,hb⟩
          have q9:=(HA0.out.below HG0.out hb).q9)
        |(go_at_call 39;with_reducible refine (H3.out _).mono ?_;rintro e w5 ⟨rfl,hw⟩;rw [hw];clear hw)
        |(go_at_call 39;with_reducible refine (H6.out _).mono ?_;rintro e w5 ⟨rfl,hw⟩;rw [hw];clear hw)
        |(go_at_call 39;with_reducible refine (H7.out _).mono ?_;rintro e w5 ⟨rfl,hw⟩;rw [hw];clear hw)
        |(go_at_call 39;with_reducible refine (H8.out _).mono ?_;rintro e w5 ⟨rfl,hw⟩;rw [hw];clear hw)
        |(go_at_call 87;with_reducible refine (HA.out _ _ (Ints.one _ _ rfl _ _)).mono ?_;rintro e w2 ⟨rfl,hb2⟩
          replace hb:=Base.below_step (hb.alloc hb.size (.cells #[.int .i64 1] 3)) hb2
          clear hb2 q9;have q9:=(HA0.out.below HG0.out hb).q9)
        |(go_at_call 88;with_reducible refine (HT.out _).mono ?_;rintro e w5 ⟨rfl,hw⟩;rw [hw];clear hw)
        |(go_at_call 89;with_reducible refine (HG.out _).mono ?_;rintro e w3 ⟨rfl,hb3⟩
          replace hb:=(Base.below_step hb hb3).alloc (Base.below_step hb hb3).size (.cells #[.int .i64 f,.string h1,.string p1,.string q1,.bool ta] 127)
          clear hb3 q9;have q9:=(HA0.out.below HG0.out hb).q9)
        |(go_at_call 90;with_reducible refine (HV.out _).mono ?_;rintro e w4 ⟨rfl,hb4⟩
          replace hb:=Base.below_step hb hb4
          clear hb4 q9;have q9:=(HA0.out.below HG0.out hb).q9))
       exact bodyPost_ret (v:=.tuple #[.string ⟨#[]⟩,.string ⟨#[]⟩,.int .i64 0,.int .i64 505]) (by simp [results,Tryz.results80,go_sem]) rfl ⟨rfl,Base.below_step HW.out hb⟩
     | true=>
       rw [if_neg (by decide)] at hR;subst hR;go_enter Tryz.func80,Tryz.ntmps80
       go_wp2_with (first
        |(go_at_call 86;with_reducible refine (HP.out _).mono ?_;rintro e w1 ⟨rfl,hb⟩
          have q9:=(HA0.out.below HG0.out hb).q9)
        |(go_at_call 39;with_reducible refine (H3.out _).mono ?_;rintro e w5 ⟨rfl,hw⟩;rw [hw];clear hw)
        |(go_at_call 39;with_reducible refine (H6.out _).mono ?_;rintro e w5 ⟨rfl,hw⟩;rw [hw];clear hw)
        |(go_at_call 39;with_reducible refine (H7.out _).mono ?_;rintro e w5 ⟨rfl,hw⟩;rw [hw];clear hw)
        |(go_at_call 39;with_reducible refine (H8.out _).mono ?_;rintro e w5 ⟨rfl,hw⟩;rw [hw];clear hw)
        |(go_at_call 87;with_reducible refine (HA.out _ _ (Ints.one _ _ rfl _ _)).mono ?_;rintro e w2 ⟨rfl,hb2⟩
          replace hb:=Base.below_step (hb.alloc hb.size (.cells #[.int .i64 1] 3)) hb2
          clear hb2 q9;have q9:=(HA0.out.below HG0.out hb).q9)
        |(go_at_call 88;with_reducible refine (HT.out _).mono ?_;rintro e w5 ⟨rfl,hw⟩;rw [hw];clear hw)
        |(go_at_call 89;with_reducible refine (HG.out _).mono ?_;rintro e w3 ⟨rfl,hb3⟩
          replace hb:=(Base.below_step hb hb3).alloc (Base.below_step hb hb3).size (.cells #[.int .i64 f,.string h1,.string p1,.string q1,.bool ta] 127)
          clear hb3 q9;have q9:=(HA0.out.below HG0.out hb).q9)
        |(go_at_call 90;with_reducible refine (HV.out _).mono ?_;rintro e w4 ⟨rfl,hb4⟩
          replace hb:=Base.below_step hb hb4
          clear hb4 q9;have q9:=(HA0.out.below HG0.out hb).q9))
       exact bodyPost_ret (v:=.tuple #[.string (ba m),.string (ba t),.int .i64 0,.int .i64 0]) (by simp [results,Tryz.results80,go_sem]) rfl ⟨rfl,Base.below_step HW.out hb⟩
    ·rw [if_neg (by simp)] at hR;subst hR;go_enter Tryz.func80,Tryz.ntmps80
     go_wp2_with (first
      |(go_at_call 86;with_reducible refine (HP.out _).mono ?_;rintro e w1 ⟨rfl,hb⟩
        have q9:=(HA0.out.below HG0.out hb).q9)
      |(go_at_call 39;with_reducible refine (H3.out _).mono ?_;rintro e w5 ⟨rfl,hw⟩;rw [hw];clear hw)
      |(go_at_call 39;with_reducible refine (H6.out _).mono ?_;rintro e w5 ⟨rfl,hw⟩;rw [hw];clear hw)
      |(go_at_call 39;with_reducible refine (H7.out _).mono ?_;rintro e w5 ⟨rfl,hw⟩;rw [hw];clear hw)
      |(go_at_call 39;with_reducible refine (H8.out _).mono ?_;rintro e w5 ⟨rfl,hw⟩;rw [hw];clear hw)
      |(go_at_call 87;with_reducible refine (HA.out _ _ (Ints.one _ _ rfl _ _)).mono ?_;rintro e w2 ⟨rfl,hb2⟩
        replace hb:=Base.below_step (hb.alloc hb.size (.cells #[.int .i64 1] 3)) hb2
        clear hb2 q9;have q9:=(HA0.out.below HG0.out hb).q9)
      |(go_at_call 88;with_reducible refine (HT.out _).mono ?_;rintro e w5 ⟨rfl,hw⟩;rw [hw];clear hw)
      |(go_at_call 89;with_reducible refine (HG.out _).mono ?_;rintro e w3 ⟨rfl,hb3⟩
        replace hb:=(Base.below_step hb hb3).alloc (Base.below_step hb hb3).size (.cells #[.int .i64 f,.string h1,.string p1,.string q1,.bool ta] 127)
        clear hb3 q9;have q9:=(HA0.out.below HG0.out hb).q9)
      |(go_at_call 90;with_reducible refine (HV.out _).mono ?_;rintro e w4 ⟨rfl,hb4⟩
        replace hb:=Base.below_step hb hb4
        clear hb4 q9;have q9:=(HA0.out.below HG0.out hb).q9))
     exact bodyPost_ret (v:=.tuple #[.string (ba m),.string (ba t),.int .i64 1,.int .i64 0]) (by simp [results,Tryz.results80,go_sem]) rfl ⟨rfl,Base.below_step HW.out hb⟩
 ·rw [if_neg (by decide)] at hR;subst hR;go_enter Tryz.func80,Tryz.ntmps80
  go_wp2_with (first
   |(go_at_call 86;with_reducible refine (HP.out _).mono ?_;rintro e w1 ⟨rfl,hb⟩
     have q9:=(HA0.out.below HG0.out hb).q9)
   |(go_at_call 39;with_reducible refine (H3.out _).mono ?_;rintro e w5 ⟨rfl,hw⟩;rw [hw];clear hw)
   |(go_at_call 39;with_reducible refine (H6.out _).mono ?_;rintro e w5 ⟨rfl,hw⟩;rw [hw];clear hw)
   |(go_at_call 39;with_reducible refine (H7.out _).mono ?_;rintro e w5 ⟨rfl,hw⟩;rw [hw];clear hw)
   |(go_at_call 39;with_reducible refine (H8.out _).mono ?_;rintro e w5 ⟨rfl,hw⟩;rw [hw];clear hw)
   |(go_at_call 87;with_reducible refine (HA.out _ _ (Ints.one _ _ rfl _ _)).mono ?_;rintro e w2 ⟨rfl,hb2⟩
     replace hb:=Base.below_step (hb.alloc hb.size (.cells #[.int .i64 1] 3)) hb2
     clear hb2 q9;have q9:=(HA0.out.below HG0.out hb).q9)
   |(go_at_call 88;with_reducible refine (HT.out _).mono ?_;rintro e w5 ⟨rfl,hw⟩;rw [hw];clear hw)
   |(go_at_call 89;with_reducible refine (HG.out _).mono ?_;rintro e w3 ⟨rfl,hb3⟩
     replace hb:=(Base.below_step hb hb3).alloc (Base.below_step hb hb3).size (.cells #[.int .i64 f,.string h1,.string p1,.string q1,.bool ta] 127)
     clear hb3 q9;have q9:=(HA0.out.below HG0.out hb).q9)
   |(go_at_call 90;with_reducible refine (HV.out _).mono ?_;rintro e w4 ⟨rfl,hb4⟩
     replace hb:=Base.below_step hb hb4
     clear hb4 q9;have q9:=(HA0.out.below HG0.out hb).q9))
  exact bodyPost_ret (v:=.tuple #[.string ⟨#[]⟩,.string ⟨#[]⟩,.int .i64 0,.int .i64 400]) (by simp [results,Tryz.results80,go_sem]) rfl ⟨rfl,Base.below_step HW.out hb⟩
set_option maxRecDepth 10000 in
theorem rrequest_more (s:ByteArray) (p:Nat) (hp:p<4294967296) (x0 x1 x2 x3 x4 x5 x6 x7:Int) (ch old:Bool) (w:World) (hs:s.size≤900000000) (m t:List UInt8) (v:List UInt8) (n:Nat) (hm0:0<m.length) (hms:m.length≤s.size) (ht0:0<t.length) (hts:t.length≤s.size) (hv0:0<v.length) (h3n:3<n) (h7:Qk.has p 7=true)
 (hpv:rpv (Qk.has p 3) s.data.toList=.tuple #[.string (ba m),.string (ba t),.string (ba v),.int .i64 (n:Nat),.bool true])
 (R:List UInt8 × List UInt8 × Nat × Nat) (hR:(if (methOk m&&tgtOk (clOf p) m t)=true then (match verL (clOf p) v with | none=>verR | some k=>if (k==0 && !old)=true then verR else (m,t,k,0)) else badR)=R) :
 Calls Tryz.prog 80 #[.string s,.int .u32 (p:Nat),Bnd.bnd x0 x1 x2 x3 x4 x5 x6 x7 ch old] w fun e w'=>e=.returned (rv R)∧Below w.heap.size w w':=by
 have HA0:=Lib.hid (Bnd.At.new w 24 x0 x1 x2 x3 x4 x5 x6 x7 ch old)
 have HG0:=Lib.hid (show w.heap.size<(w.alloc (.cells #[.int .i64 x0,.int .i64 x1,.int .i64 x2,.int .i64 x3,.int .i64 x4,.int .i64 x5,.int .i64 x6,.int .i64 x7,.bool ch,.bool old] 24)).heap.size by simp)
 have HW:=Lib.hid (show Below w.heap.size w (w.alloc (.cells #[.int .i64 x0,.int .i64 x1,.int .i64 x2,.int .i64 x3,.int .i64 x4,.int .i64 x5,.int .i64 x6,.int .i64 x7,.bool ch,.bool old] 24)) from (Below.refl _ _).alloc (Nat.le_refl _) _)
 have H3:=Lib.hid (fun w=>Qk.rhas_any p hp 3 w)
 have H6:=Lib.hid (fun w=>Qk.rhas_any p hp 6 w)
 have H7:=Lib.hid (fun w=>Qk.rhas_any p hp 7 w)
 have HP:=Lib.hid (fun w=>rparts_any s (Qk.has p 3) w hs)
 have H8:=Lib.hid (fun w=>Qk.rhas_any p hp 8 w);rw [hpv] at HP;clear hpv
 have HT:=Lib.hid (fun w=>rbytes_any (ba t) p hp w (by rw [ba_size];omega) (by rw [ba_size];omega))
 have HA:Hid (∀w a,Ints w a 1 [1]→Calls Tryz.prog 87 #[.string (ba m),.slice a 1 1] w fun e w'=>e=.returned (.bool (Oct.allOf [1] m))∧Below w.heap.size w w'):=Lib.hid fun w a hk=>(Oct.rall_any (ba m) a 1 1 [1] w (by rw [ba_size];unfold maxLen;omega) hk (by decide)).mono (by rintro e w' ⟨rfl,q,rfl⟩;exact ⟨rfl,Base.below_drewN (Below.refl _ _) q⟩)
 have HG:=Lib.hid (fun w=>Tgt.rtarget_any (ba m) (ba t) w (by rw [ba_size];omega));have b1:(ba m).data.toList=m:=rfl;have b2:(ba t).data.toList=t:=rfl;rw [b1,b2] at HG;rw [b2] at HT;have hsm:(ba m).size=m.length:=ba_size m;clear b1 b2;have htk:tgtOk (clOf p) m t=(tgtB (clOf p) t&&(Qk.has p 7||Qk.has p 8|| (Tgt.parse m t).isSome)):=rfl;have hmk:methOk m=(decide (m.length≤32)&&Oct.allOf [1] m):=rfl;rw [htk,hmk] at hR;clear htk hmk
 have HV0:=Lib.hid (fun w=>rversion_any (ba v) p hp w (by rw [ba_size];exact hv0));have b3:(ba v).data.toList=v:=rfl;rw [b3] at HV0;clear b3;generalize Oct.allOf [1] m=al at *;generalize tgtB (clOf p) t=tb at *;have hans:∃(f:Int) (h1 p1 q1:ByteArray) (a:Bool) (en:Int),Tgt.ans (Tgt.parse m t)=.tuple #[Tgt.tv f h1 p1 q1 a,.int .i64 en]∧(en=0∧(Tgt.parse m t).isSome=true∨en=400∧(Tgt.parse m t).isSome=false):=by
  cases Tgt.parse m t with
  | none=>exact ⟨0,Tgt.E0,Tgt.E0,Tgt.E0,false,400,rfl,.inr ⟨rfl,rfl⟩⟩
  | some g=>exact ⟨_,_,_,_,_,0,rfl,.inl ⟨rfl,rfl⟩⟩
 obtain ⟨f,h1,p1,q1,ta,en,hE,hen⟩:=hans;rw [hE] at HG;clear hE;generalize (Tgt.parse m t).isSome=okp at *;have c0:¬((ba m).size:Int)<1:=by omega
 have n1:¬(n:Int)<2:=by omega
 have n2:¬(n:Int)=2:=by omega
 have n3:(3:Int)<(n:Int):=by omega
 rw [h7] at H7 hR;clear h7 h3n;generalize Qk.has p 8=b8 at *;generalize Qk.has p 6=b6 at *;generalize Qk.has p 3=b3 at *;rcases Nat.lt_or_ge 32 m.length with hl | hl
 ·have c1:(32:Int)<((ba m).size:Int):=by omega
  rw [decide_eq_false (by omega),Bool.false_and,Bool.false_and,if_neg (by decide)] at hR;subst hR;clear HG HT HA hen;go_enter Tryz.func80,Tryz.ntmps80
  go_wp2_with (first
   |(go_at_call 86;with_reducible refine (HP.out _).mono ?_;rintro e w1 ⟨rfl,hb⟩
     have q9:=(HA0.out.below HG0.out hb).q9)
   |(go_at_call 39;with_reducible refine (H3.out _).mono ?_;rintro e w5 ⟨rfl,hw⟩;rw [hw];clear hw)
   |(go_at_call 39;with_reducible refine (H6.out _).mono ?_;rintro e w5 ⟨rfl,hw⟩;rw [hw];clear hw)
   |(go_at_call 39;with_reducible refine (H7.out _).mono ?_;rintro e w5 ⟨rfl,hw⟩;rw [hw];clear hw)
   |(go_at_call 39;with_reducible refine (H8.out _).mono ?_;rintro e w5 ⟨rfl,hw⟩;rw [hw];clear hw)
   |(go_at_call 87;with_reducible refine (HA.out _ _ (Ints.one _ _ rfl _ _)).mono ?_;rintro e w2 ⟨rfl,hb2⟩
     replace hb:=Base.below_step (hb.alloc hb.size (.cells #[.int .i64 1] 3)) hb2
     clear hb2 q9;have q9:=(HA0.out.below HG0.out hb).q9)
   |(go_at_call 88;with_reducible refine (HT.out _).mono ?_;rintro e w5 ⟨rfl,hw⟩;rw [hw];clear hw)
   |(go_at_call 89;with_reducible refine (HG.out _).mono ?_;rintro e w3 ⟨rfl,hb3⟩
     replace hb:=(Base.below_step hb hb3).alloc (Base.below_step hb hb3).size (.cells #[.int .i64 f,.string h1,.string p1,.string q1,.bool ta] 127)
     clear hb3 q9;have q9:=(HA0.out.below HG0.out hb).q9)
   |(go_at_call 90;with_reducible refine (HV.out _).mono ?_;rintro e w4 ⟨rfl,hb4⟩
     replace hb:=Base.below_step hb hb4
     clear hb4 q9;have q9:=(HA0.out.below HG0.out hb).q9))
  exact bodyPost_ret (v:=.tuple #[.string ⟨#[]⟩,.string ⟨#[]⟩,.int .i64 0,.int .i64 400]) (by simp [results,Tryz.results80,go_sem]) rfl ⟨rfl,Base.below_step HW.out hb⟩
 have c1:¬(32:Int)<((ba m).size:Int):=by omega
 rw [decide_eq_true hl,Bool.true_and] at hR;clear hl hsm;cases al with
 | false=>
   rw [Bool.false_and,if_neg (by decide)] at hR;subst hR;clear HG HT hen;go_enter Tryz.func80,Tryz.ntmps80
   go_wp2_with (first
    |(go_at_call 86;with_reducible refine (HP.out _).mono ?_;rintro e w1 ⟨rfl,hb⟩
      have q9:=(HA0.out.below HG0.out hb).q9)
    |(go_at_call 39;with_reducible refine (H3.out _).mono ?_;rintro e w5 ⟨rfl,hw⟩;rw [hw];clear hw)
    |(go_at_call 39;with_reducible refine (H6.out _).mono ?_;rintro e w5 ⟨rfl,hw⟩;rw [hw];clear hw)
    |(go_at_call 39;with_reducible refine (H7.out _).mono ?_;rintro e w5 ⟨rfl,hw⟩;rw [hw];clear hw)
    |(go_at_call 39;with_reducible refine (H8.out _).mono ?_;rintro e w5 ⟨rfl,hw⟩;rw [hw];clear hw)
    |(go_at_call 87;with_reducible refine (HA.out _ _ (Ints.one _ _ rfl _ _)).mono ?_;rintro e w2 ⟨rfl,hb2⟩
      replace hb:=Base.below_step (hb.alloc hb.size (.cells #[.int .i64 1] 3)) hb2
      clear hb2 q9;have q9:=(HA0.out.below HG0.out hb).q9)
    |(go_at_call 88;with_reducible refine (HT.out _).mono ?_;rintro e w5 ⟨rfl,hw⟩;rw [hw];clear hw)
    |(go_at_call 89;with_reducible refine (HG.out _).mono ?_;rintro e w3 ⟨rfl,hb3⟩
      replace hb:=(Base.below_step hb hb3).alloc (Base.below_step hb hb3).size (.cells #[.int .i64 f,.string h1,.string p1,.string q1,.bool ta] 127)
      clear hb3 q9;have q9:=(HA0.out.below HG0.out hb).q9)
    |(go_at_call 90;with_reducible refine (HV.out _).mono ?_;rintro e w4 ⟨rfl,hb4⟩
      replace hb:=Base.below_step hb hb4
      clear hb4 q9;have q9:=(HA0.out.below HG0.out hb).q9))
   exact bodyPost_ret (v:=.tuple #[.string ⟨#[]⟩,.string ⟨#[]⟩,.int .i64 0,.int .i64 400]) (by simp [results,Tryz.results80,go_sem]) rfl ⟨rfl,Base.below_step HW.out hb⟩
 | true=>
 rw [Bool.true_and] at hR;cases tb with
 | false=>
   rw [Bool.false_and,if_neg (by decide)] at hR;subst hR;clear HG hen;go_enter Tryz.func80,Tryz.ntmps80
   go_wp2_with (first
    |(go_at_call 86;with_reducible refine (HP.out _).mono ?_;rintro e w1 ⟨rfl,hb⟩
      have q9:=(HA0.out.below HG0.out hb).q9)
    |(go_at_call 39;with_reducible refine (H3.out _).mono ?_;rintro e w5 ⟨rfl,hw⟩;rw [hw];clear hw)
    |(go_at_call 39;with_reducible refine (H6.out _).mono ?_;rintro e w5 ⟨rfl,hw⟩;rw [hw];clear hw)
    |(go_at_call 39;with_reducible refine (H7.out _).mono ?_;rintro e w5 ⟨rfl,hw⟩;rw [hw];clear hw)
    |(go_at_call 39;with_reducible refine (H8.out _).mono ?_;rintro e w5 ⟨rfl,hw⟩;rw [hw];clear hw)
    |(go_at_call 87;with_reducible refine (HA.out _ _ (Ints.one _ _ rfl _ _)).mono ?_;rintro e w2 ⟨rfl,hb2⟩
      replace hb:=Base.below_step (hb.alloc hb.size (.cells #[.int .i64 1] 3)) hb2
      clear hb2 q9;have q9:=(HA0.out.below HG0.out hb).q9)
    |(go_at_call 88;with_reducible refine (HT.out _).mono ?_;rintro e w5 ⟨rfl,hw⟩;rw [hw];clear hw)
    |(go_at_call 89;with_reducible refine (HG.out _).mono ?_;rintro e w3 ⟨rfl,hb3⟩
      replace hb:=(Base.below_step hb hb3).alloc (Base.below_step hb hb3).size (.cells #[.int .i64 f,.string h1,.string p1,.string q1,.bool ta] 127)
      clear hb3 q9;have q9:=(HA0.out.below HG0.out hb).q9)
    |(go_at_call 90;with_reducible refine (HV.out _).mono ?_;rintro e w4 ⟨rfl,hb4⟩
      replace hb:=Base.below_step hb hb4
      clear hb4 q9;have q9:=(HA0.out.below HG0.out hb).q9))
   exact bodyPost_ret (v:=.tuple #[.string ⟨#[]⟩,.string ⟨#[]⟩,.int .i64 0,.int .i64 400]) (by simp [results,Tryz.results80,go_sem]) rfl ⟨rfl,Base.below_step HW.out hb⟩
 | true=>
 rw [Bool.true_and] at hR;rw [Bool.true_or,Bool.true_or,if_pos rfl] at hR;clear HG hen;cases hvl:verL (clOf p) v with
 | none=>
   rw [hvl] at hR HV0;dsimp only at hR;subst hR;clear hvl
   have HV:Hid (∀w,Calls Tryz.prog 90 #[.string (ba v),.int .u32 (p:Nat)] w fun e w'=>(∃k:Nat,e=.returned (.tuple #[.int .i64 (k:Int),.bool false]))∧Below w.heap.size w w'):=Lib.hid fun w=>(HV0.out w).mono (by rintro e w' ⟨⟨k,rfl,_⟩,hb⟩;exact ⟨⟨k,rfl⟩,hb⟩);clear HV0;go_enter Tryz.func80,Tryz.ntmps80
   go_wp2_with (first
    |(go_at_call 86;with_reducible refine (HP.out _).mono ?_;rintro e w1 ⟨rfl,hb⟩
      have q9:=(HA0.out.below HG0.out hb).q9)
    |(go_at_call 39;with_reducible refine (H3.out _).mono ?_;rintro e w5 ⟨rfl,hw⟩;rw [hw];clear hw)
    |(go_at_call 39;with_reducible refine (H6.out _).mono ?_;rintro e w5 ⟨rfl,hw⟩;rw [hw];clear hw)
    |(go_at_call 39;with_reducible refine (H7.out _).mono ?_;rintro e w5 ⟨rfl,hw⟩;rw [hw];clear hw)
    |(go_at_call 39;with_reducible refine (H8.out _).mono ?_;rintro e w5 ⟨rfl,hw⟩;rw [hw];clear hw)
    |(go_at_call 87;with_reducible refine (HA.out _ _ (Ints.one _ _ rfl _ _)).mono ?_;rintro e w2 ⟨rfl,hb2⟩
      replace hb:=Base.below_step (hb.alloc hb.size (.cells #[.int .i64 1] 3)) hb2
      clear hb2 q9;have q9:=(HA0.out.below HG0.out hb).q9)
    |(go_at_call 88;with_reducible refine (HT.out _).mono ?_;rintro e w5 ⟨rfl,hw⟩;rw [hw];clear hw)
    |(go_at_call 89;with_reducible refine (HG.out _).mono ?_;rintro e w3 ⟨rfl,hb3⟩
      replace hb:=(Base.below_step hb hb3).alloc (Base.below_step hb hb3).size (.cells #[.int .i64 f,.string h1,.string p1,.string q1,.bool ta] 127)
      clear hb3 q9;have q9:=(HA0.out.below HG0.out hb).q9)
    |(go_at_call 90;with_reducible refine (HV.out _).mono ?_;rintro e w4 ⟨⟨kk,rfl⟩,hb4⟩
      replace hb:=Base.below_step hb hb4
      clear hb4 q9;have q9:=(HA0.out.below HG0.out hb).q9))
   exact bodyPost_ret (v:=.tuple #[.string ⟨#[]⟩,.string ⟨#[]⟩,.int .i64 0,.int .i64 505]) (by simp [results,Tryz.results80,go_sem]) rfl ⟨rfl,Base.below_step HW.out hb⟩
 | some k=>
   have h01:=verL_01 hvl;rw [hvl] at hR HV0;dsimp only at hR;clear hvl
   have HV:Hid (∀w,Calls Tryz.prog 90 #[.string (ba v),.int .u32 (p:Nat)] w fun e w'=>e=.returned (.tuple #[.int .i64 (k:Int),.bool true])∧Below w.heap.size w w'):=Lib.hid fun w=>(HV0.out w).mono (by rintro e w' ⟨⟨j,rfl,hj⟩,hb⟩;rw [hj k rfl];exact ⟨rfl,hb⟩);clear HV0;rcases h01 with rfl | rfl
   ·cases old with
    | false=>
      rw [if_pos (by decide)] at hR;subst hR;go_enter Tryz.func80,Tryz.ntmps80
      go_wp2_with (first
       |(go_at_call 86;with_reducible refine (HP.out _).mono ?_;rintro e w1 ⟨rfl,hb⟩
         have q9:=(HA0.out.below HG0.out hb).q9)
       |(go_at_call 39;with_reducible refine (H3.out _).mono ?_;rintro e w5 ⟨rfl,hw⟩;rw [hw];clear hw)
       |(go_at_call 39;with_reducible refine (H6.out _).mono ?_;rintro e w5 ⟨rfl,hw⟩;rw [hw];clear hw)
       |(go_at_call 39;with_reducible refine (H7.out _).mono ?_;rintro e w5 ⟨rfl,hw⟩;rw [hw];clear hw)
       |(go_at_call 39;with_reducible refine (H8.out _).mono ?_;rintro e w5 ⟨rfl,hw⟩;rw [hw];clear hw)
       |(go_at_call 87;with_reducible refine (HA.out _ _ (Ints.one _ _ rfl _ _)).mono ?_;rintro e w2 ⟨rfl,hb2⟩
         replace hb:=Base.below_step (hb.alloc hb.size (.cells #[.int .i64 1] 3)) hb2
         clear hb2 q9;have q9:=(HA0.out.below HG0.out hb).q9)
       |(go_at_call 88;with_reducible refine (HT.out _).mono ?_;rintro e w5 ⟨rfl,hw⟩;rw [hw];clear hw)
       |(go_at_call 89;with_reducible refine (HG.out _).mono ?_;rintro e w3 ⟨rfl,hb3⟩
         replace hb:=(Base.below_step hb hb3).alloc (Base.below_step hb hb3).size (.cells #[.int .i64 f,.string h1,.string p1,.string q1,.bool ta] 127)
         clear hb3 q9;have q9:=(HA0.out.below HG0.out hb).q9)
       |(go_at_call 90;with_reducible refine (HV.out _).mono ?_;rintro e w4 ⟨rfl,hb4⟩
         replace hb:=Base.below_step hb hb4
         clear hb4 q9;have q9:=(HA0.out.below HG0.out hb).q9))
      exact bodyPost_ret (v:=.tuple #[.string ⟨#[]⟩,.string ⟨#[]⟩,.int .i64 0,.int .i64 505]) (by simp [results,Tryz.results80,go_sem]) rfl ⟨rfl,Base.below_step HW.out hb⟩
    | true=>
      rw [if_neg (by decide)] at hR;subst hR;go_enter Tryz.func80,Tryz.ntmps80
      go_wp2_with (first
       |(go_at_call 86;with_reducible refine (HP.out _).mono ?_;rintro e w1 ⟨rfl,hb⟩
         have q9:=(HA0.out.below HG0.out hb).q9)
       |(go_at_call 39;with_reducible refine (H3.out _).mono ?_;rintro e w5 ⟨rfl,hw⟩;rw [hw];clear hw)
       |(go_at_call 39;with_reducible refine (H6.out _).mono ?_;rintro e w5 ⟨rfl,hw⟩;rw [hw];clear hw)
       |(go_at_call 39;with_reducible refine (H7.out _).mono ?_;rintro e w5 ⟨rfl,hw⟩;rw [hw];clear hw)
       |(go_at_call 39;with_reducible refine (H8.out _).mono ?_;rintro e w5 ⟨rfl,hw⟩;rw [hw];clear hw)
       |(go_at_call 87;with_reducible refine (HA.out _ _ (Ints.one _ _ rfl _ _)).mono ?_;rintro e w2 ⟨rfl,hb2⟩
         replace hb:=Base.below_step (hb.alloc hb.size (.cells #[.int .i64 1] 3)) hb2
         clear hb2 q9;have q9:=(HA0.out.below HG0.out hb).q9)
       |(go_at_call 88;with_reducible refine (HT.out _).mono ?_;rintro e w5 ⟨rfl,hw⟩;rw [hw];clear hw)
       |(go_at_call 89;with_reducible refine (HG.out _).mono ?_;rintro e w3 ⟨rfl,hb3⟩
         replace hb:=(Base.below_step hb hb3).alloc (Base.below_step hb hb3).size (.cells #[.int .i64 f,.string h1,.string p1,.string q1,.bool ta] 127)
         clear hb3 q9;have q9:=(HA0.out.below HG0.out hb).q9)
       |(go_at_call 90;with_reducible refine (HV.out _).mono ?_;rintro e w4 ⟨rfl,hb4⟩
         replace hb:=Base.below_step hb hb4
         clear hb4 q9;have q9:=(HA0.out.below HG0.out hb).q9))
      exact bodyPost_ret (v:=.tuple #[.string (ba m),.string (ba t),.int .i64 0,.int .i64 0]) (by simp [results,Tryz.results80,go_sem]) rfl ⟨rfl,Base.below_step HW.out hb⟩
   ·rw [if_neg (by simp)] at hR;subst hR;go_enter Tryz.func80,Tryz.ntmps80
    go_wp2_with (first
     |(go_at_call 86;with_reducible refine (HP.out _).mono ?_;rintro e w1 ⟨rfl,hb⟩
       have q9:=(HA0.out.below HG0.out hb).q9)
     |(go_at_call 39;with_reducible refine (H3.out _).mono ?_;rintro e w5 ⟨rfl,hw⟩;rw [hw];clear hw)
     |(go_at_call 39;with_reducible refine (H6.out _).mono ?_;rintro e w5 ⟨rfl,hw⟩;rw [hw];clear hw)
     |(go_at_call 39;with_reducible refine (H7.out _).mono ?_;rintro e w5 ⟨rfl,hw⟩;rw [hw];clear hw)
     |(go_at_call 39;with_reducible refine (H8.out _).mono ?_;rintro e w5 ⟨rfl,hw⟩;rw [hw];clear hw)
     |(go_at_call 87;with_reducible refine (HA.out _ _ (Ints.one _ _ rfl _ _)).mono ?_;rintro e w2 ⟨rfl,hb2⟩
       replace hb:=Base.below_step (hb.alloc hb.size (.cells #[.int .i64 1] 3)) hb2
       clear hb2 q9;have q9:=(HA0.out.below HG0.out hb).q9)
     |(go_at_call 88;with_reducible refine (HT.out _).mono ?_;rintro e w5 ⟨rfl,hw⟩;rw [hw];clear hw)
     |(go_at_call 89;with_reducible refine (HG.out _).mono ?_;rintro e w3 ⟨rfl,hb3⟩
       replace hb:=(Base.below_step hb hb3).alloc (Base.below_step hb hb3).size (.cells #[.int .i64 f,.string h1,.string p1,.string q1,.bool ta] 127)
       clear hb3 q9;have q9:=(HA0.out.below HG0.out hb).q9)
     |(go_at_call 90;with_reducible refine (HV.out _).mono ?_;rintro e w4 ⟨rfl,hb4⟩
       replace hb:=Base.below_step hb hb4
       clear hb4 q9;have q9:=(HA0.out.below HG0.out hb).q9))
    exact bodyPost_ret (v:=.tuple #[.string (ba m),.string (ba t),.int .i64 1,.int .i64 0]) (by simp [results,Tryz.results80,go_sem]) rfl ⟨rfl,Base.below_step HW.out hb⟩
theorem rrequest_any (s:ByteArray) (p:Nat) (hp:p<4294967296) (x0 x1 x2 x3 x4 x5 x6 x7:Int) (ch old:Bool) (w:World) (hs:s.size≤900000000) :
 Calls Tryz.prog 80 #[.string s,.int .u32 (p:Nat),Bnd.bnd x0 x1 x2 x3 x4 x5 x6 x7 ch old] w fun e w'=>e=.returned (rv (request (clOf p) old s.data.toList))∧Below w.heap.size w w':=by
 rcases rpv_cases (clOf p) s.data.toList with ⟨hp1,M,T,V,n,ok,hle,hpv,hc⟩ | ⟨m,t,hp1,hnv,hpv⟩ | ⟨m,t,v,n,hp1,hv,hle,hn,hpv⟩
 ·rw [len] at hle
  exact rrequest_parts s p hp x0 x1 x2 x3 x4 x5 x6 x7 ch old w hs M T V n ok hle hpv hc _ (by unfold request;rw [hp1]<;>rfl)
 ·obtain ⟨z1,z2,z3,z4,_⟩:=pick_some hp1;rw [len] at z2 z4
  exact rrequest_two s p hp x0 x1 x2 x3 x4 x5 x6 x7 ch old w hs m t z1 z2 z3 z4 hnv hpv _ (by unfold request;rw [hp1]<;>rfl)
 ·obtain ⟨z1,z2,z3,z4,_⟩:=pick_some hp1;rw [len] at z2 z4 hle;have hv0:0<v.length:=List.length_pos_iff.2 hv;rcases hn with rfl | ⟨h3,hsp⟩
  ·exact rrequest_three s p hp x0 x1 x2 x3 x4 x5 x6 x7 ch old w hs m t v z1 z2 z3 z4 hv0 hpv _ (by unfold request;rw [hp1]<;>rfl)
  ·exact rrequest_more s p hp x0 x1 x2 x3 x4 x5 x6 x7 ch old w hs m t v n z1 z2 z3 z4 hv0 h3 hsp hpv _ (by unfold request;rw [hp1]<;>rfl)
end code
end Go.Proofs.YtimoakmcelocfaaGreat.Rq
