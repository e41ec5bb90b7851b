import Derived.Test.YtimoakmcelocfaaGreatAyh
namespace Go.Proofs.YtimoakmcelocfaaGreat.Chk
open Go.RowKit Base Txt
theorem marks_tab:∀k:Fin 256,(lowB (UInt8.ofNat k.val)=48↔UInt8.ofNat k.val=48)∧(lowB (UInt8.ofNat k.val)=120↔(UInt8.ofNat k.val=120∨UInt8.ofNat k.val=88)):=by decide +kernel
theorem low_mark (b:UInt8):(lowB b=48↔b=48)∧(lowB b=120↔(b=120∨b=88)):=by have h:=marks_tab ⟨b.toNat,b.toNat_lt⟩;simpa using h
theorem same_two (X:ByteArray) (h:X.size=2):same X ⟨#[48,120]⟩=true↔(X=⟨#[48,120]⟩∨X=⟨#[48,88]⟩):=by
 obtain ⟨a,b,hab⟩:∃a b,X.data.toList= [a,b]:=by
  rw [←len] at h
  match hx:X.data.toList,h with
  | [a,b],_=>exact ⟨a,b,rfl⟩
 have e:∀c d:UInt8,X=⟨#[c,d]⟩↔(a=c∧b=d):=fun c d=>by
  constructor
  ·intro hX;subst hX;simpa using hab.symm
  ·rintro ⟨rfl,rfl⟩;exact ba_ext (by rw [hab])
 rw [e,e];unfold same;rw [beq_iff_eq,hab];have h1:=low_mark a;have h2:=low_mark b;show [lowB a,lowB b]= [lowB 48,lowB 120]↔_;rw [show lowB 48=48 from by decide +kernel,show lowB 120=120 from by decide +kernel];simp only [List.cons.injEq,and_true];rw [h1.1,h2.2];constructor
 ·rintro ⟨x,y | y⟩
  ·exact .inl ⟨x,y⟩
  ·exact .inr ⟨x,y⟩
 ·rintro (⟨x,y⟩ | ⟨x,y⟩)
  ·exact ⟨x,.inl y⟩
  ·exact ⟨x,.inr y⟩
section code
set_option maxHeartbeats 8000000
set_option maxRecDepth 100000
attribute [local go_sem] Base.some_undef
theorem rsize_any (s:ByteArray) (p:Nat) (hp:p<4294967296) (x0 x1 x2 x3 x4 x5 x6 x7:Int) (ch od:Bool) (h3:x3≤9223372036854775807) (h4:0≤x4) (w:World) (hs:s.size≤1000000000) :
 Calls Tryz.prog 95 #[.string s,.int .u32 (p:Nat),Bnd.bnd x0 x1 x2 x3 x4 x5 x6 x7 ch od] w fun e w'=>e=.returned (.tuple #[.int .i64 (sizeV (Qk.has p 27) (Qk.has p 28) x4 x3 s.data.toList).1,.int .i64 (sizeV (Qk.has p 27) (Qk.has p 28) x4 x3 s.data.toList).2])∧Below w.heap.size w w':=by
 have HBB:=Lib.hid (BB.new (Below.refl w.heap.size w) 24 x0 x1 x2 x3 x4 x5 x6 x7 ch od)
 have H7:=Lib.hid (fun w=>Qk.rhas_any p hp 27 w)
 have H8:=Lib.hid (fun w=>Qk.rhas_any p hp 28 w)
 have HCUT:=Lib.hid (show∀C:ByteArray,C.size≤1000000000→ba (Tgt.cutAt 59 s.data.toList).1=C→sizeL (Qk.has p 27) (Qk.has p 28) s.data.toList=pieceL (Qk.has p 27) (Qk.has p 28) C.data.toList from fun C hC e=>by rw [←e];rfl)
 have HEX:=Lib.hid (show∀E:ByteArray,ba (extL s.data.toList)=E→isx x4 (extL s.data.toList)= !(decide (x4<(E.size:Int)) || !Oct.allOf [6] E.data.toList) from fun E e=>by rw [isx_eq _ h4,←e,←len];rfl);have hSL:(ba (sizeL (Qk.has p 27) (Qk.has p 28) s.data.toList)).size≤maxLen:=by have h1:=piece_le (Qk.has p 27) (Qk.has p 28) (Tgt.cutAt 59 s.data.toList).1;have h2:=(ext_le s.data.toList).2;rw [len] at h2;rw [←len];show (pieceL _ _ _).length≤_;unfold maxLen;omega
 have HN:=Lib.hid (fun w=>Num.rhexN_any x3 h3 (ba (sizeL (Qk.has p 27) (Qk.has p 28) s.data.toList)) w hSL);have e1:(ba (sizeL (Qk.has p 27) (Qk.has p 28) s.data.toList)).data.toList=sizeL (Qk.has p 27) (Qk.has p 28) s.data.toList:=rfl;rw [e1] at HN;clear e1 hSL;unfold sizeV;generalize Num.readOf 16 x3 (sizeL (Qk.has p 27) (Qk.has p 28) s.data.toList)=R at *;generalize sizeL (Qk.has p 27) (Qk.has p 28) s.data.toList=SL at *;generalize Qk.has p 27=b7 at *;generalize Qk.has p 28=b8 at *;obtain ⟨r1,r2⟩:=R;dsimp only at HN;have hcase:(r2=22∧numV (r1,r2)=(0,400))∨((r2==22)=false∧r2=23∧numV (r1,r2)=(0,413))∨((r2==22)=false∧(r2==23)=false∧numV (r1,r2)=(r1,0)):=by
  unfold numV;by_cases h1:r2=22
  ·exact .inl ⟨h1,by rw [if_pos h1]⟩
  ·by_cases h2:r2=23
   ·exact .inr (.inl ⟨by simp [h1],h2,by rw [if_neg h1,if_pos h2]⟩)
   ·exact .inr (.inr ⟨by simp [h1],by simp [h2],by rw [if_neg h1,if_neg h2]⟩)
 generalize numV (r1,r2)=V at *;have hcase':=Lib.hid hcase;clear hcase;obtain ⟨VV,hVV⟩:∃VV,(if isx x4 (extL s.data.toList)=true then V else (0,400))=VV:=⟨_,rfl⟩;rw [hVV];rcases Tgt.cut_cases 59 s.data.toList with hno | ⟨a,r,hl,hna⟩
 ·have hE:=HEX.out ⟨#[]⟩ (by unfold extL;rw [Tgt.cutAt_none 59 _ hno];rfl)
  have HCS:=Lib.hid (HCUT.out s hs (by rw [Tgt.cutAt_none 59 _ hno];exact ba_ext rfl));have hx:isx x4 (extL s.data.toList)=true:=by
   rw [hE]
   have:decide (x4<((⟨#[]⟩:ByteArray).size:Int))=false:=decide_eq_false (by show¬x4<0;omega);rw [this];rfl
  rw [hx,if_pos rfl] at hVV;subst hVV
  have HA:Hid (∀w a,Ints w a 1 [6]→Calls Tryz.prog 87 #[.string ⟨#[]⟩,.slice a 1 1] w fun e w'=>e=.returned (.bool true)∧∃m,w'=w.drewN m):=Lib.hid fun w a hk=>Oct.rall_any ⟨#[]⟩ a 1 1 [6] w (by decide) hk (by decide);have hb59:Hid (∀k (h:k<s.size),(((s[k]'h).toNat:Int)==59)=false):=Lib.hid fun k h=>by
   have hm:=byte_mem s k h;rw [beq_eq_false_iff_ne];intro e9
   exact hno (by have:s[k]=59:=UInt8.toNat_inj.1 (by have:(s[k].toNat:Int)=59:=e9;show s[k].toNat=59;omega);rw [←this];exact hm)
  have d0:decide (x4<0)=false:=decide_eq_false (by omega);clear hE hx HCUT HEX hno;obtain ⟨C,hC⟩:∃C,C=s:=⟨s,rfl⟩;rw [←hC] at HCS;have HC0:C.size≤1000000000:=by rw [hC];exact hs
  go_enter Tryz.func95,Tryz.ntmps95;go_upto_region 3 with fail
  generalize w.alloc (.cells #[.int .i64 x0,.int .i64 x1,.int .i64 x2,.int .i64 x3,.int .i64 x4,.int .i64 x5,.int .i64 x6,.int .i64 x7,.bool ch,.bool od] 24)=W at *;generalize w.heap.size=g at *
  go_loopw [8,9,10] (fun a b i wr=>∃k:Nat,k≤s.size∧a=.string s∧b=.string ⟨#[]⟩∧i=.int .i64 k∧wr=W) (fun _ _ i _=>s.size-(intOf i).toNat)
  case atStart=>first | exact ⟨0,Nat.zero_le _,rfl,rfl,rfl,rfl⟩ | exact ⟨0,Nat.zero_le _,rfl,trivial,rfl,rfl⟩ |(refine ⟨0,Nat.zero_le _,?_⟩;simp)
  case round=>
   obtain ⟨k,hk,rfl,rfl,rfl,rfl⟩:=hrel;rcases Nat.lt_or_ge k s.size with hlt | hge
   ·have t0:=hb59.out k hlt;have i1:(k:Int)<(s.size:Int):=by omega
    go_wp2_with fail;go_roundw
    case rel=>first | exact ⟨k+1,by omega,rfl,rfl,by go_num,rfl⟩ | exact ⟨k+1,by omega,rfl,rfl,by go_num,trivial⟩
    case measure=>simp [intOf];omega
   ·obtain rfl:k=s.size:=by omega
    subst hC;obtain ⟨⟨q0,q1,q2,q3,q4,q5,q6,q7,q8,q9⟩,hlt,hbk⟩:=HBB.out;clear q0 q1 q2 q3 q5 q6 q7 q8 q9 hlt hbk
    go_upto_region 9 with (go_at_call 87;(with_reducible refine (HA.out _ _ (Ints.one _ _ rfl _ _)).mono ?_);rintro e w1 ⟨rfl,m,hw⟩
                           have HBX:=Lib.hid ((HBB.out.alloc (.cells #[.int .i64 6] 3)).drew m);rw [←hw] at HBX;clear hw)
    clear HBB q4
    have HT:=Lib.hid (fun w=>rtrim_any C w (by unfold maxLen;omega));have ht:(trim C).size≤C.size:=trim_size _ _
    have HZ:Hid (ba SL=(if b7=true then ba (bare (if b8=true then trim C else C).data.toList) else (if b8=true then trim C else C))):=Lib.hid (by rw [HCS.out];cases b8<;>cases b7<;>rfl)
    generalize ba SL=Z at *;clear HCS;obtain ⟨T,hTz,HC⟩:∃T:ByteArray,T.size≤1000000000∧Hid (T=if b8=true then trim C else C):=by
     cases b8 with
     | true=>exact ⟨trim C,by omega,Lib.hid rfl⟩
     | false=>exact ⟨C,HC0,Lib.hid rfl⟩
    rw [←HC.out] at HZ;have hT8:(b8=true∧trim C=T)∨(b8=false∧C=T):=by
     cases b8 with
     | true=>exact .inl ⟨rfl,HC.out.symm⟩
     | false=>exact .inr ⟨rfl,HC.out.symm⟩
    have HT8:=Lib.hid hT8;clear hT8 HC ht HC0
    go_upto_if 42 with (go_at_call 39;with_reducible refine (H8.out _).mono ?_;rintro e wz ⟨rfl,hw⟩;rw [hw];clear hw)
    go_cut [8] from 43 to 44 (fun v wx=>v=.string T∧wx=w1)
    case first=>
     clear HN hcase' HBX HZ H7 hTz;rcases HT8.out with ⟨rfl,ht⟩ | ⟨rfl,rfl⟩
     ·rw [ht] at HT;clear ht HT8
      go_wp2_with (go_at_call 111;with_reducible refine (HT.out _).mono ?_;rintro e wz ⟨rfl,hw⟩;rw [hw];clear hw);go_meet
      case rel=>exact ⟨rfl,rfl⟩
     ·clear HT8 HT;go_wp2_with fail;go_meet
      case rel=>exact ⟨rfl,rfl⟩
    case rest=>
     obtain ⟨rfl,hw0⟩:=hcut;rw [hw0];clear hw0 HT HT8 H8;have hway:∃bm:Bool,(bm=true→2≤T.size)∧Z=(if bm=true then T.extract 2 T.size else T)∧((b7=false∧bm=false)∨(b7=true∧T.size<2∧bm=false)∨(b7=true∧2≤T.size∧T.extract 0 2=⟨#[48,120]⟩∧bm=true)∨(b7=true∧2≤T.size∧T.extract 0 2=⟨#[48,88]⟩∧bm=true)∨(b7=true∧2≤T.size∧¬T.extract 0 2=⟨#[48,120]⟩∧¬T.extract 0 2=⟨#[48,88]⟩∧bm=false)):=by
      have hz:=HZ.out;have e0:ba T.data.toList=T:=ba_ext rfl;cases b7 with
      | false=>exact ⟨false,by simp,hz,.inl ⟨rfl,rfl⟩⟩
      | true=>
        rw [if_pos rfl] at hz;rcases Nat.lt_or_ge T.size 2 with h2 | h2
        ·refine ⟨false,by simp,?_,.inr (.inl ⟨rfl,h2,rfl⟩)⟩;rw [hz,if_neg (by decide)];unfold bare marked;rw [len,decide_eq_false (by omega),Bool.false_and,if_neg (by decide),e0]
        ·have hx:T.extract 0 2=ba (T.data.toList.take 2):=ba_ext (by rw [Lib.extract_data];simp [ba])
         have hx2:T.extract 2 T.size=ba (T.data.toList.drop 2):=ba_ext (by rw [Lib.extract_data,List.take_of_length_le (by rw [List.length_drop,len];omega)];rfl);have hsz:(T.extract 0 2).size=2:=by rw [hx,←len];show (T.data.toList.take 2).length=2;rw [List.length_take,len];omega
         have em:bare T.data.toList=if same (T.extract 0 2) ⟨#[48,120]⟩=true then T.data.toList.drop 2 else T.data.toList:=by unfold bare marked;rw [len,decide_eq_true h2,Bool.true_and,hx]
         rw [em] at hz;by_cases q1:T.extract 0 2=⟨#[48,120]⟩
         ·rw [if_pos ((same_two _ hsz).2 (.inl q1)),←hx2] at hz;exact ⟨true,fun _=>h2,hz,.inr (.inr (.inl ⟨rfl,h2,q1,rfl⟩))⟩
         ·by_cases q2:T.extract 0 2=⟨#[48,88]⟩
          ·rw [if_pos ((same_two _ hsz).2 (.inr q2)),←hx2] at hz;exact ⟨true,fun _=>h2,hz,.inr (.inr (.inr (.inl ⟨rfl,h2,q2,rfl⟩)))⟩
          ·have hnn:¬same (T.extract 0 2) ⟨#[48,120]⟩=true:=fun h=>((same_two _ hsz).1 h).elim q1 q2;rw [if_neg hnn,e0] at hz;exact ⟨false,by simp,hz,.inr (.inr (.inr (.inr ⟨rfl,h2,q1,q2,rfl⟩)))⟩
     obtain ⟨bm,hbm,hZ,hway⟩:=hway;have HW:=Lib.hid hway;have HBM:=Lib.hid hbm;have HZZ:=Lib.hid hZ;clear hway hbm hZ HZ hTz;go_upto_region 11 with fail
     go_cut [61] from 45 to 61 (fun v wx=>v=.bool bm∧wx=w1)
     case first=>
      clear HN hcase' HBX HZZ HBM;rcases HW.out with ⟨rfl,rfl⟩ | ⟨rfl,h2,rfl⟩ | ⟨rfl,h2,q1,rfl⟩ | ⟨rfl,h2,q1,rfl⟩ | ⟨rfl,h2,q1,q2,rfl⟩
      ·clear HW
       go_wp2_with (go_at_call 39;with_reducible refine (H7.out _).mono ?_;rintro e wz ⟨rfl,hw⟩;rw [hw];clear hw);go_meet
       case rel=>exact ⟨rfl,rfl⟩
      ·clear HW
       have d1:decide ((1:Int)<(T.size:Int))=false:=decide_eq_false (by omega)
       go_wp2_with (go_at_call 39;with_reducible refine (H7.out _).mono ?_;rintro e wz ⟨rfl,hw⟩;rw [hw];clear hw);go_meet
       case rel=>exact ⟨rfl,rfl⟩
      ·clear HW
       have d1:decide ((1:Int)<(T.size:Int))=true:=decide_eq_true (by omega);have d2:(2:Int)≤(T.size:Int):=by omega
       go_wp2_with (go_at_call 39;with_reducible refine (H7.out _).mono ?_;rintro e wz ⟨rfl,hw⟩;rw [hw];clear hw);go_meet
       case rel=>exact ⟨rfl,rfl⟩
      ·clear HW
       have d1:decide ((1:Int)<(T.size:Int))=true:=decide_eq_true (by omega);have d2:(2:Int)≤(T.size:Int):=by omega
       go_wp2_with (go_at_call 39;with_reducible refine (H7.out _).mono ?_;rintro e wz ⟨rfl,hw⟩;rw [hw];clear hw);go_meet
       case rel=>exact ⟨rfl,rfl⟩
      ·clear HW
       have d1:decide ((1:Int)<(T.size:Int))=true:=decide_eq_true (by omega);have d2:(2:Int)≤(T.size:Int):=by omega
       have f3:¬(T.extract 0 2).toList= [48,120]:=fun h=>q1 (ba_ext (by rw [←Go.ByteArray.toList_eq,h]));have f1:((T.extract 0 2).toList == [48,120])=false:=beq_eq_false_iff_ne.2 f3
       have f4:¬(T.extract 0 2).toList= [48,88]:=fun h=>q2 (ba_ext (by rw [←Go.ByteArray.toList_eq,h]))
       go_wp2_with (go_at_call 39;with_reducible refine (H7.out _).mono ?_;rintro e wz ⟨rfl,hw⟩;rw [hw];clear hw);go_meet
       case rel=>first | exact ⟨rfl,rfl⟩ | exact ⟨by rw [beq_eq_false_iff_ne.2 f4],rfl⟩ | exact ⟨by rw [f1,beq_eq_false_iff_ne.2 f4];rfl,rfl⟩
     case rest=>
      obtain ⟨rfl,hw0⟩:=hcut;rw [hw0];clear hw0 HW H7;obtain ⟨⟨q0,q1,q2,q3,q4,q5,q6,q7,q8,q9⟩,hlt,hbk⟩:=HBX.out;clear q0 q1 q2 q4 q5 q6 q7 q8 q9 hlt;have hz:=HZZ.out;cases bm with
      | false=>
        rw [if_neg (by decide)] at hz;rw [hz] at HN;clear hz HZZ HBM;rcases hcase'.out with ⟨rfl,rfl⟩ | ⟨t1,rfl,rfl⟩ | ⟨t1,t2,rfl⟩;all_goals
         go_wp2_with (go_at_call 112;with_reducible refine (HN.out _).mono ?_;rintro e wz ⟨rfl,hw⟩;rw [hw];clear hw);go_ret2;exact ⟨rfl,hbk⟩
      | true=>
        rw [if_pos rfl] at hz;rw [hz] at HN;have h2:=HBM.out rfl;have d2:(2:Int)≤(T.size:Int):=by omega
        clear hz HZZ HBM;rcases hcase'.out with ⟨rfl,rfl⟩ | ⟨t1,rfl,rfl⟩ | ⟨t1,t2,rfl⟩;all_goals
         go_wp2_with (go_at_call 112;with_reducible refine (HN.out _).mono ?_;rintro e wz ⟨rfl,hw⟩;rw [hw];clear hw);go_ret2;exact ⟨rfl,hbk⟩
 ·have hin:∃i:Nat,i<s.size∧a=s.data.toList.take i∧s.data.toList.drop i=59::r:=⟨a.length,by rw [←len,hl];simp,by rw [hl];simp,by rw [hl];simp⟩;obtain ⟨i,hi,ha,hr⟩:=hin
  have hC1:s.extract 0 i=ba a:=ba_ext (by rw [Lib.extract_data];simp [ba,ha])
  have hE1:s.extract i s.size=ba (59::r):=ba_ext (by rw [Lib.extract_data,List.take_of_length_le (by rw [List.length_drop,len];omega),hr];rfl)
  have hE:=HEX.out (s.extract i s.size) (by unfold extL;rw [hl,Tgt.cutAt_app 59 _ _ hna,hE1];rfl);have hCs:(s.extract 0 i).size≤1000000000:=by rw [hC1,←len];show a.length≤_;rw [ha,List.length_take];omega
  have HCS:=Lib.hid (HCUT.out (s.extract 0 i) hCs (by rw [hl,Tgt.cutAt_app 59 _ _ hna,hC1]));have hEs:(s.extract i s.size).size≤1000000000:=by rw [hE1,←len];show (59::r).length≤_;rw [←hr,List.length_drop,len];omega
  have hb59:Hid (∀k (h:k<i),(((s[k]'(by omega)).toNat:Int)==59)=false):=Lib.hid fun k h=>by
   rw [beq_eq_false_iff_ne];intro e9;refine hna ?_
   have e8:s[k]'(by omega)=59:=UInt8.toNat_inj.1 (by have:(((s[k]'(by omega)).toNat:Nat):Int)=59:=e9;show (s[k]'(by omega)).toNat=59;omega);rw [ha,←e8];have hk2:k<(s.data.toList.take i).length:=by rw [List.length_take,len];omega
   have:=List.getElem_mem hk2;rw [List.getElem_take] at this;exact this
  have hb60:(((s[i]'hi).toNat:Int)==59)=true:=by
   have h9:s.data.toList[i]?=some 59:=by have:=congrArg (fun l=>l[0]?) hr;simpa using this
   have h8:s[i]'hi=59:=by
    have h7:s.data.toList[i]?=some (s[i]'hi):=by rw [List.getElem?_eq_getElem (by rw [len];exact hi)];rfl
    rw [h7] at h9;exact Option.some.inj h9
   rw [h8];rfl
  have c1:(i:Int)≤(s.size:Int):=by omega
  have c2:(0:Int)≤(i:Int):=by omega
  have HA:Hid (∀w a,Ints w a 1 [6]→Calls Tryz.prog 87 #[.string (s.extract i s.size),.slice a 1 1] w fun e w'=>e=.returned (.bool (Oct.allOf [6] (s.extract i s.size).data.toList))∧∃m,w'=w.drewN m):=Lib.hid fun w a hk=>Oct.rall_any _ a 1 1 [6] w (by unfold maxLen;omega) hk (by decide);generalize isx x4 (extL s.data.toList)=q at *;clear HCUT HEX hC1 hE1 ha hr hl hna;generalize hCC:s.extract 0 i=C at *;have HC0:=hCs;clear hCs;generalize hEE:s.extract i s.size=E at *;generalize Oct.allOf [6] E.data.toList=al at *
  have HQ:Hid ((decide (x4<(E.size:Int))=true∧q=false)∨(decide (x4<(E.size:Int))=false∧al=false∧q=false)∨(decide (x4<(E.size:Int))=false∧al=true∧q=true)):=Lib.hid (by rw [hE];cases decide (x4<(E.size:Int))<;>cases al<;>simp)
  have HVV:Hid ((q=false→VV=(0,400))∧(q=true→V=VV)):=Lib.hid ⟨fun h=>by rw [←hVV,h,if_neg (by decide)],fun h=>by rw [←hVV,h,if_pos rfl]⟩;clear hVV;have HCC:=Lib.hid hCC;have HEE:=Lib.hid hEE;clear hE hCC hEE hEs;go_enter Tryz.func95,Tryz.ntmps95;go_upto_region 3 with fail
  generalize w.alloc (.cells #[.int .i64 x0,.int .i64 x1,.int .i64 x2,.int .i64 x3,.int .i64 x4,.int .i64 x5,.int .i64 x6,.int .i64 x7,.bool ch,.bool od] 24)=W at *;generalize w.heap.size=g at *
  go_loopw [8,9,10] (fun a b j wr=>∃k:Nat,k≤i∧a=.string s∧b=.string ⟨#[]⟩∧j=.int .i64 k∧wr=W) (fun _ _ j _=>s.size-(intOf j).toNat)
  case atStart=>first | exact ⟨0,Nat.zero_le _,rfl,rfl,rfl,rfl⟩ | exact ⟨0,Nat.zero_le _,rfl,trivial,rfl,rfl⟩ |(refine ⟨0,Nat.zero_le _,?_⟩;simp)
  case round=>
   obtain ⟨k,hk,rfl,rfl,rfl,rfl⟩:=hrel;rcases Nat.lt_or_ge k i with hlt | hge
   ·have t0:=hb59.out k hlt;have i1:(k:Int)<(s.size:Int):=by omega
    clear hb60;go_wp2_with fail;go_roundw
    case rel=>first | exact ⟨k+1,by omega,rfl,rfl,by go_num,rfl⟩ | exact ⟨k+1,by omega,rfl,rfl,by go_num,trivial⟩
    case measure=>simp [intOf];omega
   ·obtain rfl:k=i:=by omega
    have i1:(k:Int)<(s.size:Int):=by omega
    go_upto_region 6 with fail
    go_quiet (fail);rename_i nq
    replace HBB:=Lib.hid (HBB.out.drew nq)
    go_upto_region 7 with fail
    rw [HCC.out,HEE.out];generalize wr.drewN nq=W1 at *;obtain ⟨⟨q0,q1,q2,q3,q4,q5,q6,q7,q8,q9⟩,hlt,hbk⟩:=HBB.out;clear q0 q1 q2 q3 q5 q6 q7 q8 q9 hlt hb60 hb59 HCC HEE;rcases HQ.out with ⟨d0,rfl⟩ | ⟨d0,rfl,rfl⟩ | ⟨d0,rfl,rfl⟩
    ·obtain rfl:=HVV.out.1 rfl;clear HVV;go_wp2_with fail;go_ret2;exact ⟨rfl,hbk⟩
    ·obtain rfl:=HVV.out.1 rfl;clear HVV
     go_wp2_with (go_at_call 87;(with_reducible refine (HA.out _ _ (Ints.one _ _ rfl _ _)).mono ?_);rintro e w1 ⟨rfl,m,hw⟩
                  have HBX:=Lib.hid ((HBB.out.alloc (.cells #[.int .i64 6] 3)).drew m);rw [←hw] at HBX;clear hw)
     go_ret2;exact ⟨rfl,HBX.out.b⟩
    ·obtain rfl:=HVV.out.2 rfl;clear HVV
     go_upto_region 9 with (go_at_call 87;(with_reducible refine (HA.out _ _ (Ints.one _ _ rfl _ _)).mono ?_);rintro e w1 ⟨rfl,m,hw⟩
                            have HBX:=Lib.hid ((HBB.out.alloc (.cells #[.int .i64 6] 3)).drew m);rw [←hw] at HBX;clear hw)
     clear HBB q4 HQ hbk
     have HT:=Lib.hid (fun w=>rtrim_any C w (by unfold maxLen;omega));have ht:(trim C).size≤C.size:=trim_size _ _
     have HZ:Hid (ba SL=(if b7=true then ba (bare (if b8=true then trim C else C).data.toList) else (if b8=true then trim C else C))):=Lib.hid (by rw [HCS.out];cases b8<;>cases b7<;>rfl)
     generalize ba SL=Z at *;clear HCS;obtain ⟨T,hTz,HC⟩:∃T:ByteArray,T.size≤1000000000∧Hid (T=if b8=true then trim C else C):=by
      cases b8 with
      | true=>exact ⟨trim C,by omega,Lib.hid rfl⟩
      | false=>exact ⟨C,HC0,Lib.hid rfl⟩
     rw [←HC.out] at HZ;have hT8:(b8=true∧trim C=T)∨(b8=false∧C=T):=by
      cases b8 with
      | true=>exact .inl ⟨rfl,HC.out.symm⟩
      | false=>exact .inr ⟨rfl,HC.out.symm⟩
     have HT8:=Lib.hid hT8;clear hT8 HC ht HC0
     go_upto_if 42 with (go_at_call 39;with_reducible refine (H8.out _).mono ?_;rintro e wz ⟨rfl,hw⟩;rw [hw];clear hw)
     go_cut [8] from 43 to 44 (fun v wx=>v=.string T∧wx=w1)
     case first=>
      clear HN hcase' HBX HZ H7 hTz;rcases HT8.out with ⟨rfl,ht⟩ | ⟨rfl,rfl⟩
      ·rw [ht] at HT;clear ht HT8
       go_wp2_with (go_at_call 111;with_reducible refine (HT.out _).mono ?_;rintro e wz ⟨rfl,hw⟩;rw [hw];clear hw);go_meet
       case rel=>exact ⟨rfl,rfl⟩
      ·clear HT8 HT;go_wp2_with fail;go_meet
       case rel=>exact ⟨rfl,rfl⟩
     case rest=>
      obtain ⟨rfl,hw0⟩:=hcut;rw [hw0];clear hw0 HT HT8 H8;have hway:∃bm:Bool,(bm=true→2≤T.size)∧Z=(if bm=true then T.extract 2 T.size else T)∧((b7=false∧bm=false)∨(b7=true∧T.size<2∧bm=false)∨(b7=true∧2≤T.size∧T.extract 0 2=⟨#[48,120]⟩∧bm=true)∨(b7=true∧2≤T.size∧T.extract 0 2=⟨#[48,88]⟩∧bm=true)∨(b7=true∧2≤T.size∧¬T.extract 0 2=⟨#[48,120]⟩∧¬T.extract 0 2=⟨#[48,88]⟩∧bm=false)):=by
       have hz:=HZ.out;have e0:ba T.data.toList=T:=ba_ext rfl;cases b7 with
       | false=>exact ⟨false,by simp,hz,.inl ⟨rfl,rfl⟩⟩
       | true=>
         rw [if_pos rfl] at hz;rcases Nat.lt_or_ge T.size 2 with h2 | h2
         ·refine ⟨false,by simp,?_,.inr (.inl ⟨rfl,h2,rfl⟩)⟩;rw [hz,if_neg (by decide)];unfold bare marked;rw [len,decide_eq_false (by omega),Bool.false_and,if_neg (by decide),e0]
         ·have hx:T.extract 0 2=ba (T.data.toList.take 2):=ba_ext (by rw [Lib.extract_data];simp [ba])
          have hx2:T.extract 2 T.size=ba (T.data.toList.drop 2):=ba_ext (by rw [Lib.extract_data,List.take_of_length_le (by rw [List.length_drop,len];omega)];rfl);have hsz:(T.extract 0 2).size=2:=by rw [hx,←len];show (T.data.toList.take 2).length=2;rw [List.length_take,len];omega
          have em:bare T.data.toList=if same (T.extract 0 2) ⟨#[48,120]⟩=true then T.data.toList.drop 2 else T.data.toList:=by unfold bare marked;rw [len,decide_eq_true h2,Bool.true_and,hx]
          rw [em] at hz;by_cases q1:T.extract 0 2=⟨#[48,120]⟩
          ·rw [if_pos ((same_two _ hsz).2 (.inl q1)),←hx2] at hz;exact ⟨true,fun _=>h2,hz,.inr (.inr (.inl ⟨rfl,h2,q1,rfl⟩))⟩
          ·by_cases q2:T.extract 0 2=⟨#[48,88]⟩
           ·rw [if_pos ((same_two _ hsz).2 (.inr q2)),←hx2] at hz;exact ⟨true,fun _=>h2,hz,.inr (.inr (.inr (.inl ⟨rfl,h2,q2,rfl⟩)))⟩
           ·have hnn:¬same (T.extract 0 2) ⟨#[48,120]⟩=true:=fun h=>((same_two _ hsz).1 h).elim q1 q2;rw [if_neg hnn,e0] at hz;exact ⟨false,by simp,hz,.inr (.inr (.inr (.inr ⟨rfl,h2,q1,q2,rfl⟩)))⟩
      obtain ⟨bm,hbm,hZ,hway⟩:=hway;have HW:=Lib.hid hway;have HBM:=Lib.hid hbm;have HZZ:=Lib.hid hZ;clear hway hbm hZ HZ hTz;go_upto_region 11 with fail
      go_cut [61] from 45 to 61 (fun v wx=>v=.bool bm∧wx=w1)
      case first=>
       clear HN hcase' HBX HZZ HBM;rcases HW.out with ⟨rfl,rfl⟩ | ⟨rfl,h2,rfl⟩ | ⟨rfl,h2,q1,rfl⟩ | ⟨rfl,h2,q1,rfl⟩ | ⟨rfl,h2,q1,q2,rfl⟩
       ·clear HW
        go_wp2_with (go_at_call 39;with_reducible refine (H7.out _).mono ?_;rintro e wz ⟨rfl,hw⟩;rw [hw];clear hw);go_meet
        case rel=>exact ⟨rfl,rfl⟩
       ·clear HW
        have d1:decide ((1:Int)<(T.size:Int))=false:=decide_eq_false (by omega)
        go_wp2_with (go_at_call 39;with_reducible refine (H7.out _).mono ?_;rintro e wz ⟨rfl,hw⟩;rw [hw];clear hw);go_meet
        case rel=>exact ⟨rfl,rfl⟩
       ·clear HW
        have d1:decide ((1:Int)<(T.size:Int))=true:=decide_eq_true (by omega);have d2:(2:Int)≤(T.size:Int):=by omega
        go_wp2_with (go_at_call 39;with_reducible refine (H7.out _).mono ?_;rintro e wz ⟨rfl,hw⟩;rw [hw];clear hw);go_meet
        case rel=>exact ⟨rfl,rfl⟩
       ·clear HW
        have d1:decide ((1:Int)<(T.size:Int))=true:=decide_eq_true (by omega);have d2:(2:Int)≤(T.size:Int):=by omega
        go_wp2_with (go_at_call 39;with_reducible refine (H7.out _).mono ?_;rintro e wz ⟨rfl,hw⟩;rw [hw];clear hw);go_meet
        case rel=>exact ⟨rfl,rfl⟩
       ·clear HW
        have d1:decide ((1:Int)<(T.size:Int))=true:=decide_eq_true (by omega);have d2:(2:Int)≤(T.size:Int):=by omega
        have f3:¬(T.extract 0 2).toList= [48,120]:=fun h=>q1 (ba_ext (by rw [←Go.ByteArray.toList_eq,h]));have f1:((T.extract 0 2).toList == [48,120])=false:=beq_eq_false_iff_ne.2 f3
        have f4:¬(T.extract 0 2).toList= [48,88]:=fun h=>q2 (ba_ext (by rw [←Go.ByteArray.toList_eq,h]))
        go_wp2_with (go_at_call 39;with_reducible refine (H7.out _).mono ?_;rintro e wz ⟨rfl,hw⟩;rw [hw];clear hw);go_meet
        case rel=>first | exact ⟨rfl,rfl⟩ | exact ⟨by rw [beq_eq_false_iff_ne.2 f4],rfl⟩ | exact ⟨by rw [f1,beq_eq_false_iff_ne.2 f4];rfl,rfl⟩
      case rest=>
       obtain ⟨rfl,hw0⟩:=hcut;rw [hw0];clear hw0 HW H7;obtain ⟨⟨q0,q1,q2,q3,q4,q5,q6,q7,q8,q9⟩,hlt,hbk⟩:=HBX.out;clear q0 q1 q2 q4 q5 q6 q7 q8 q9 hlt;have hz:=HZZ.out;cases bm with
       | false=>
         rw [if_neg (by decide)] at hz;rw [hz] at HN;clear hz HZZ HBM;rcases hcase'.out with ⟨rfl,rfl⟩ | ⟨t1,rfl,rfl⟩ | ⟨t1,t2,rfl⟩;all_goals
          go_wp2_with (go_at_call 112;with_reducible refine (HN.out _).mono ?_;rintro e wz ⟨rfl,hw⟩;rw [hw];clear hw);go_ret2;exact ⟨rfl,hbk⟩
       | true=>
         rw [if_pos rfl] at hz;rw [hz] at HN;have h2:=HBM.out rfl;have d2:(2:Int)≤(T.size:Int):=by omega
         clear hz HZZ HBM;rcases hcase'.out with ⟨rfl,rfl⟩ | ⟨t1,rfl,rfl⟩ | ⟨t1,t2,rfl⟩;all_goals
          go_wp2_with (go_at_call 112;with_reducible refine (HN.out _).mono ?_;rintro e wz ⟨rfl,hw⟩;rw [hw];clear hw);go_ret2;exact ⟨rfl,hbk⟩
end code
end Go.Proofs.YtimoakmcelocfaaGreat.Chk
