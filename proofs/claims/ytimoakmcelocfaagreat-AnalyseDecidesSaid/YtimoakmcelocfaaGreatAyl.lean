import Derived.Test.YtimoakmcelocfaaGreatAyh
namespace Go.Proofs.YtimoakmcelocfaaGreat.Tgt
open Go.RowKit Base Oct Num Txt
theorem host_parts (l:List UInt8):hostB l=match parts 58 l with
 | [n]=>nameOk n
 | [n,p]=>nameOk n&&portOk p
 | _=>false:=by
 unfold hostB;rcases cut_cases 58 l with h | ⟨a,r,rfl,h⟩
 ·rw [cutAt_none 58 l h,parts_none 58 l h];simp
 ·rw [cutAt_app 58 a r h,parts_cut 58 a r h];simp only [Bool.not_true,Bool.false_or];rcases cut_cases 58 r with h2 | ⟨b,r2,rfl,h2⟩
  ·rw [parts_none 58 r h2]
  ·rw [parts_cut 58 b r2 h2];have:portOk (b++58::r2)=false:=by
    cases hp:portOk (b++58::r2) with
    | false=>rfl
    | true=>exact absurd (by simp) (port_no_colon hp)
   rw [this,Bool.and_false];cases hq:parts 58 r2 with
   | nil=>
     have:=parts_length 58 r2;rw [hq] at this;simp at this
   | cons x xs=>rfl
theorem parts_form (c:UInt8) (l:List UInt8):(∃n,parts c l= [n])∨(∃n p,parts c l= [n,p])∨∃n p x xs,parts c l=n::p::x::xs:=by
 cases h:parts c l with
 | nil=>
   have:=parts_length c l;rw [h] at this;simp at this
 | cons n t=>
   match t with
   | []=>exact .inl ⟨n,rfl⟩
   | [p]=>exact .inr (.inl ⟨n,p,rfl⟩)
   | p::x::xs=>exact .inr (.inr ⟨n,p,x,xs,rfl⟩)
theorem parts_bound (c:UInt8):∀(l:List UInt8),∀p∈parts c l,p.length≤l.length
 | [],p,h=>by simp [parts] at h;subst h;simp
 | b::l,p,h=>by
   rw [parts] at h;have ih:=parts_bound c l;split at h
   ·rcases List.mem_cons.1 h with rfl | h
    ·simp
    ·have:=ih p h;simp;omega
   ·cases hq:parts c l with
    | nil=>rw [hq] at h;simp at h;subst h;simp
    | cons y ys=>
      rw [hq] at h ih;rcases List.mem_cons.1 h with rfl | h
      ·have:=ih y (by simp);simp;omega
      ·have:=ih p (by simp [h]);simp;omega
theorem name_ways (x:UInt8):(plainB nameMarks x=true∧(Oct.letter (x.toNat:Int)=true∨(Oct.letter (x.toNat:Int)=false∧Oct.digit (x.toNat:Int)=true)∨(Oct.letter (x.toNat:Int)=false∧Oct.digit (x.toNat:Int)=false∧((x.toNat:Int)=45∨(x.toNat:Int)=46∨(x.toNat:Int)=95∨(x.toNat:Int)=126))))∨
 (plainB nameMarks x=false∧Oct.letter (x.toNat:Int)=false∧Oct.digit (x.toNat:Int)=false∧¬(x.toNat:Int)=45∧¬(x.toNat:Int)=46∧¬(x.toNat:Int)=95∧¬(x.toNat:Int)=126):=by
 have hc:nameMarks.contains x=true↔((x.toNat:Int)=45∨(x.toNat:Int)=46∨(x.toNat:Int)=95∨(x.toNat:Int)=126):=by have e:∀k:UInt8,x=k↔(x.toNat:Int)=(k.toNat:Int):=fun k=>⟨fun h=>by rw [h],fun h=>UInt8.toNat_inj.1 (by omega)⟩;simp only [nameMarks,List.contains_cons,List.contains_nil,Bool.or_false,Bool.or_eq_true,beq_iff_eq];rw [e 45,e 46,e 95,e 126];rfl
 unfold plainB;cases hl:Oct.letter (x.toNat:Int) with
 | true=>exact .inl ⟨rfl,.inl rfl⟩
 | false=>
   cases hd:Oct.digit (x.toNat:Int) with
   | true=>exact .inl ⟨rfl,.inr (.inl ⟨rfl,rfl⟩)⟩
   | false=>
     cases hm:nameMarks.contains x with
     | true=>exact .inl ⟨rfl,.inr (.inr ⟨rfl,rfl,hc.1 hm⟩)⟩
     | false=>
       refine .inr ⟨rfl,rfl,rfl,?_,?_,?_,?_⟩<;> (intro h;have:=hc.2 (by simp [h]);rw [hm] at this;cases this)
section code
set_option maxHeartbeats 1000000
attribute [local go_sem] Base.some_undef
theorem rhost_core (s:ByteArray) (n:List UInt8) (T:Bool) (w:World) (hn:n.length≤1000000000)
 (hS:∀w,Calls Tryz.prog 117 #[.string s,.int .u8 58] w fun e w'=>∃bl off m cp,e=.returned (.slice (some ⟨bl,off,none⟩) m cp)∧bl<w'.heap.size∧Below w.heap.size w w'∧w'.cell? ⟨bl,off,none⟩=some (.string (ba n))∧
   ((m=1∧T=true)∨(m=2∧∃p,w'.cell? ⟨bl,off+1,none⟩=some (.string (ba p))∧p.length≤1000000000∧portOk p=T))) :
 Calls Tryz.prog 102 #[.string s] w fun e w'=>e=.returned (.bool (nameOk n&&T))∧Below w.heap.size w w':=by
 have HS:=Lib.hid hS;clear hS;obtain ⟨R,hR⟩:∃R,(nameOk n&&T)=R:=⟨_,rfl⟩;rw [hR];have hsz:=ba_size n;have HR:=Lib.hid hR;clear hR;rcases Nat.eq_zero_or_pos n.length with h0 | hpos
 ·have hRf:false=R:=by
   rw [←HR.out];obtain rfl:n= []:=List.length_eq_zero_iff.1 h0;rfl
  have hz:((ba n).size:Int)<1:=by omega
  clear HR hsz h0;subst hRf;generalize ba n=N at *;go_enter Tryz.func102,Tryz.ntmps102
  go_wp2_with (go_at_call 117;with_reducible refine (HS.out _).mono ?_;rintro e w1 ⟨bl,off,m,cp,rfl,hbl,hb,hc0,hm⟩
               have t1:¬(2:Int)<(m:Int):=by rcases hm with ⟨rfl,_⟩ | ⟨rfl,_⟩<;>omega
               have t2:(0:Int)<(m:Int):=by rcases hm with ⟨rfl,_⟩ | ⟨rfl,_⟩<;>omega
               clear hm)
  go_ret;exact ⟨rfl,hb⟩
 have hz:¬((ba n).size:Int)<1:=by omega
 rcases Nat.lt_or_ge 255 n.length with hbig | hsm
 ·have hRf:false=R:=by
   rw [←HR.out];unfold nameOk;rw [decide_eq_false (by omega:¬n.length≤255),Bool.false_and,Bool.and_false];rfl
  have hz2:(255:Int)<((ba n).size:Int):=by omega
  clear HR hsz hpos hbig;subst hRf;generalize ba n=N at *;go_enter Tryz.func102,Tryz.ntmps102
  go_wp2_with (go_at_call 117;with_reducible refine (HS.out _).mono ?_;rintro e w1 ⟨bl,off,m,cp,rfl,hbl,hb,hc0,hm⟩
               have t1:¬(2:Int)<(m:Int):=by rcases hm with ⟨rfl,_⟩ | ⟨rfl,_⟩<;>omega
               have t2:(0:Int)<(m:Int):=by rcases hm with ⟨rfl,_⟩ | ⟨rfl,_⟩<;>omega
               clear hm)
  go_ret;exact ⟨rfl,hb⟩
 have hz2:¬(255:Int)<((ba n).size:Int):=by omega
 have HR2:Hid ((n.all (plainB nameMarks)&&T)=R):=Lib.hid (by
  rw [←HR.out];unfold nameOk;have:n.isEmpty=false:=by cases n with
   | nil=>simp at hpos
   | cons _ _=>rfl
  rw [decide_eq_true hsm,this];rfl)
 have e0:∀k (h:k<(ba n).size) (hk2:k<n.length),(ba n)[k]'h=n[k]:=fun _ _ _=>rfl;have E0:=Lib.hid e0;have HZ:=Lib.hid hsz;have hHM:∀k (h:k<n.length),n[k]∈n:=fun k h=>List.getElem_mem h;have HM:=Lib.hid hHM;have hTS:∀k (h:k<n.length),n.take (k+1)=n.take k ++ [n[k]]:=fun k h=>List.take_succ_eq_append_getElem h;have HTS:=Lib.hid hTS;clear HR e0 hsz hpos hHM hTS;generalize ba n=N at *;go_enter Tryz.func102,Tryz.ntmps102
 go_wp2_with (go_at_call 117;with_reducible refine (HS.out _).mono ?_;rintro e w1 ⟨bl,off,m,cp,rfl,hbl,hb,hc0,hm⟩
              have t1:¬(2:Int)<(m:Int):=by rcases hm with ⟨rfl,_⟩ | ⟨rfl,_⟩<;>omega
              have t2:(0:Int)<(m:Int):=by rcases hm with ⟨rfl,_⟩ | ⟨rfl,_⟩<;>omega
              have HMM:=Lib.hid hm;have HBB:=Lib.hid hb;clear hm hb)
 go_loop [4] (fun i=>∃k:Nat,k≤N.size∧i=.int .i64 k∧Hid ((n.take k).all (plainB nameMarks)=true)) (fun i=>N.size-(intOf i).toNat)
 case atStart=>exact ⟨0,Nat.zero_le _,rfl,Lib.hid rfl⟩
 case round=>
  obtain ⟨k,hk,rfl,hall⟩:=hrel;rcases Nat.lt_or_ge k N.size with hlt | hge
  ·have i1:(k:Int)<(N.size:Int):=by omega
   have hkn:k<n.length:=by have:=HZ.out;omega
   obtain ⟨x,hxx⟩:∃x,n[k]=x:=⟨_,rfl⟩;have hx:∀h,N[k]'h=x:=fun h=>(E0.out k h hkn).trans hxx
   have hts:=Lib.hid (HTS.out k hkn)
   have hmm:=Lib.hid (HM.out k hkn);rw [hxx] at hts hmm;clear hxx hkn
   have HL:=Lib.hid (fun w=>Oct.rletter_any (x.toNat:Int) w)
   have HD:=Lib.hid (fun w=>Oct.rdigit_any (x.toNat:Int) w);rcases name_ways x with ⟨hq,hway⟩ | ⟨hq,hl,hd,n45,n46,n95,n126⟩
   ·have HNX:Hid ((n.take (k+1)).all (plainB nameMarks)=true):=Lib.hid (by rw [hts.out,List.all_append,hall.out];simp [hq]);clear hq hmm hts hall;rcases hway with hl | ⟨hl,hd⟩ | ⟨hl,hd,hc⟩
    ·rw [hl] at HL;clear hl
     go_wp2_with (first
      |(go_at_call 118;with_reducible refine (HL.out _).mono ?_;rintro e w2 ⟨rfl,hw⟩;rw [hw];clear hw)
      |(go_at_call 106;with_reducible refine (HD.out _).mono ?_;rintro e w2 ⟨rfl,hw⟩;rw [hw];clear hw))
     go_round
     case rel=>exact ⟨k+1,by omega,by go_num,HNX⟩
     case measure=>simp [intOf];omega
    ·rw [hl] at HL;rw [hd] at HD;clear hl hd
     go_wp2_with (first
      |(go_at_call 118;with_reducible refine (HL.out _).mono ?_;rintro e w2 ⟨rfl,hw⟩;rw [hw];clear hw)
      |(go_at_call 106;with_reducible refine (HD.out _).mono ?_;rintro e w2 ⟨rfl,hw⟩;rw [hw];clear hw))
     go_round
     case rel=>exact ⟨k+1,by omega,by go_num,HNX⟩
     case measure=>simp [intOf];omega
    ·rw [hl] at HL;rw [hd] at HD;clear hl hd;rcases hc with hc | hc | hc | hc;all_goals
      have d1:=fun (z:Int)=>congrArg (fun y:Int=>y != z) hc;have d2:=d1 45;have d3:=d1 46;have d4:=d1 95;have d5:=d1 126;simp only [show ((45:Int) != 45)=false from rfl,show ((46:Int) != 45)=true from rfl,show ((46:Int) != 46)=false from rfl,show ((95:Int) != 45)=true from rfl,show ((95:Int) != 46)=true from rfl,show ((95:Int) != 95)=false from rfl,show ((126:Int) != 45)=true from rfl,show ((126:Int) != 46)=true from rfl,show ((126:Int) != 95)=true from rfl,show ((126:Int) != 126)=false from rfl] at d2 d3 d4 d5;clear d1 hc
      go_wp2_with (first
       |(go_at_call 118;with_reducible refine (HL.out _).mono ?_;rintro e w2 ⟨rfl,hw⟩;rw [hw];clear hw)
       |(go_at_call 106;with_reducible refine (HD.out _).mono ?_;rintro e w2 ⟨rfl,hw⟩;rw [hw];clear hw))
      go_round
      case rel=>exact ⟨k+1,by omega,by go_num,HNX⟩
      case measure=>simp [intOf];omega
   ·have hRf:false=R:=by
     rw [←HR2.out,List.all_eq_false.2 ⟨x,hmm.out,by rw [hq];decide⟩];rfl
    have HRF:=Lib.hid hRf;rw [hl] at HL;rw [hd] at HD;have d45:((x.toNat:Int) != 45)=true:=bne_iff_ne.2 n45;have d46:((x.toNat:Int) != 46)=true:=bne_iff_ne.2 n46;have d95:((x.toNat:Int) != 95)=true:=bne_iff_ne.2 n95;have d126:((x.toNat:Int) != 126)=true:=bne_iff_ne.2 n126;clear hl hd n45 n46 n95 n126 hq hRf hmm hts hall
    go_wp2_with (first
     |(go_at_call 118;with_reducible refine (HL.out _).mono ?_;rintro e w2 ⟨rfl,hw⟩;rw [hw];clear hw)
     |(go_at_call 106;with_reducible refine (HD.out _).mono ?_;rintro e w2 ⟨rfl,hw⟩;rw [hw];clear hw))
    go_ret;exact ⟨by rw [←HRF.out];rfl,HBB.out⟩
  ·obtain rfl:k=N.size:=by omega
   have hTR:T=R:=by rw [←HR2.out];have:=hall.out;rw [List.take_of_length_le (by rw [HZ.out];exact Nat.le_refl _)] at this;rw [this,Bool.true_and]
   have HTR:=Lib.hid hTR;clear hTR hall;rcases HMM.out with ⟨rfl,hT⟩ | ⟨rfl,p,hc1,hpl,hT⟩
   ·have HT:=Lib.hid (hT.symm.trans HTR.out);clear hT HMM;go_wp2;go_ret;exact ⟨by rw [←HT.out];rfl,HBB.out⟩
   ·have hps:=ba_size p
    have HDc:=Lib.hid (fun w=>Num.rdec_any 65535 (by decide) (ba p) w (by unfold maxLen;omega));rw [ba_list] at HDc;have hP:portOk p=(decide ((ba p).size≤5)&&decide ((readOf 10 65535 p).2=0)):=by unfold portOk;rw [hps]
    rw [hP] at hT;generalize (readOf 10 65535 p).2=en at *;generalize (readOf 10 65535 p).1=vn at *;generalize ba p=PP at *;clear hP hps HMM;by_cases he:en=0
    ·subst he;rw [decide_eq_true rfl,Bool.and_true] at hT
     have HT:=Lib.hid (hT.trans HTR.out);clear hT
     go_wp2_with (go_at_call 119;with_reducible refine (HDc.out _).mono ?_;rintro e w2 ⟨rfl,hw⟩;rw [hw];clear hw);go_ret;exact ⟨by rw [←HT.out];first | rfl |(simp;omega),HBB.out⟩
    ·rw [decide_eq_false he,Bool.and_false] at hT
     have HT:=Lib.hid (hT.trans HTR.out);have he2:(en==0)=false:=beq_eq_false_iff_ne.2 he;clear hT he
     go_wp2_with (go_at_call 119;with_reducible refine (HDc.out _).mono ?_;rintro e w2 ⟨rfl,hw⟩;rw [hw];clear hw);go_ret;exact ⟨by rw [←HT.out];rfl,HBB.out⟩
theorem rhost_any (s:ByteArray) (w:World) (hs:s.size≤1000000000):Calls Tryz.prog 102 #[.string s] w fun e w'=>e=.returned (.bool (hostB s.data.toList))∧Below w.heap.size w w':=by
 have HS:=Lib.hid (fun w=>Txt.rsplit_any s 58 w hs);have hbd:=parts_bound 58 s.data.toList;rw [len] at hbd;rw [host_parts];rcases parts_form 58 s.data.toList with ⟨n,hp⟩ | ⟨n,p,hp⟩ | ⟨n,p,x,xs,hp⟩
 ·rw [hp] at HS hbd;rw [hp]
  have hnl:=hbd n (by simp);have key:=rhost_core s n true w (by omega) fun w=>(HS.out w).mono fun e w' h=>by
   obtain ⟨b,m,cp,rfl,hm,hst,hb⟩:=h;obtain rfl:m=1:=hm
   obtain ⟨bl,off,rfl,hbl,hc⟩:=hst.2 (by omega);exact ⟨bl,off,1,cp,rfl,hbl,hb,hc 0 (by omega),.inl ⟨rfl,rfl⟩⟩
  rw [Bool.and_true] at key;exact key
 ·rw [hp] at HS hbd;rw [hp]
  have hnl:=hbd n (by simp)
  have hpl:=hbd p (by simp);exact rhost_core s n (portOk p) w (by omega) fun w=>(HS.out w).mono fun e w' h=>by
   obtain ⟨b,m,cp,rfl,hm,hst,hb⟩:=h;obtain rfl:m=2:=hm
   obtain ⟨bl,off,rfl,hbl,hc⟩:=hst.2 (by omega);exact ⟨bl,off,2,cp,rfl,hbl,hb,hc 0 (by omega),.inr ⟨rfl,p,hc 1 (by omega),by omega,rfl⟩⟩
 ·rw [hp] at HS;rw [hp];clear hp hbd;have HS2:Hid (∀w,Calls Tryz.prog 117 #[.string s,.int .u8 58] w fun e w'=>∃b m cp,e=.returned (.slice b m cp)∧m=(n::p::x::xs).length∧Strs w' b m ((n::p::x::xs).map ba)∧Below w.heap.size w w'):=HS;clear HS;go_enter Tryz.func102,Tryz.ntmps102
  go_wp2_with (go_at_call 117;with_reducible refine (HS2.out _).mono ?_;rintro e w1 ⟨b,m,cp,rfl,hm,hst,hb⟩
               have t1:(2:Int)<(m:Int):=by rw [hm];simp;omega)
  go_ret;exact ⟨rfl,hb⟩
end code
end Go.Proofs.YtimoakmcelocfaaGreat.Tgt
namespace Go.Proofs.YtimoakmcelocfaaGreat.Tgt
open Go.RowKit Base Oct Num Txt
theorem written_drop (ms l:List UInt8) (k:Nat) (h:k<l.length):written ms (l.drop k)=(okAt ms l[k] (l.drop (k+1))&&written ms (l.drop (k+1))):=by rw [List.drop_eq_getElem_cons h,written]
theorem okAt_short (ms:List UInt8) (c:UInt8) (r:List UInt8) (h:r.length<2):okAt ms c r=plainB ms c:=by
 match r,h with
 | [],_=>rfl
 | [a],_=>rfl
theorem okAt_pct (ms l:List UInt8) (k:Nat) (h:k+2<l.length):okAt ms 37 (l.drop (k+1))=(hexB l[k+1]&&hexB l[k+2]):=by rw [List.drop_eq_getElem_cons (by omega:k+1<l.length),List.drop_eq_getElem_cons (by omega:k+1+1<l.length),okAt,if_pos rfl]
theorem contains_snoc (l:List UInt8) (k:Nat) (h:k<l.length) (c:UInt8):(l.take (k+1)).contains c=((l.take k).contains c|| (c==l[k])):=by
 rw [List.take_succ_eq_append_getElem h];generalize l[k]=x;generalize l.take k=m
 induction m with
 | nil=>rw [List.nil_append,List.contains_cons,List.contains_nil,Bool.or_false,Bool.false_or]
 | cons y m ih=>rw [List.cons_append,List.contains_cons,List.contains_cons,ih,Bool.or_assoc]
section code
set_option maxHeartbeats 1000000
attribute [local go_sem] Base.some_undef
set_option maxRecDepth 10000 in
theorem rof_any (s ms:ByteArray) (w:World) (hs:s.size≤1000000000) (hms:ms.size≤1000000000) :
 Calls Tryz.prog 127 #[.string s,.string ms] w fun e w'=>e=.returned (.bool (written ms.data.toList s.data.toList))∧w'=w:=by
 obtain ⟨A,hA⟩:∃A,written ms.data.toList s.data.toList=A:=⟨_,rfl⟩;rw [hA];have HA:=Lib.hid hA;clear hA;go_enter Tryz.func127,Tryz.ntmps127;go_wp2
 go_loop [5] (fun i=>∃k:Nat,k≤s.size∧i=.int .i64 k∧Hid (written ms.data.toList (s.data.toList.drop k)=A)) (fun i=>s.size-(intOf i).toNat)
 case atStart=>exact ⟨0,Nat.zero_le _,rfl,HA⟩
 case round=>
  obtain ⟨k,hk,rfl,hw⟩:=hrel;rcases Nat.lt_or_ge k s.size with hlt | hge
  ·have i1:(k:Int)<(s.size:Int):=by omega
   have hkl:k<s.data.toList.length:=by rw [len];exact hlt
   obtain ⟨c,hc⟩:∃c,s.data.toList[k]=c:=⟨_,rfl⟩;have hx:∀h,s[k]'h=c:=fun _=>hc;have hwd:=hw.out;rw [written_drop _ _ k hkl,hc] at hwd;have HW:=Lib.hid hwd;clear hwd hw
   have HL:=Lib.hid (fun w=>Oct.rletter_any (c.toNat:Int) w)
   have HD:=Lib.hid (fun w=>Oct.rdigit_any (c.toNat:Int) w);have hpl:plainB ms.data.toList c=((Oct.letter (c.toNat:Int)||Oct.digit (c.toNat:Int))||ms.data.toList.contains c):=rfl;have HPL:=Lib.hid hpl;clear hpl;have hbase:∃b0,(Oct.letter (c.toNat:Int)||Oct.digit (c.toNat:Int))=b0:=⟨_,rfl⟩;obtain ⟨b0,hb0⟩:=hbase;rw [hb0] at HPL;have hbb:(Oct.letter (c.toNat:Int)=true∧b0=true)∨(Oct.letter (c.toNat:Int)=false∧Oct.digit (c.toNat:Int)=b0):=by
    cases hl:Oct.letter (c.toNat:Int) with
    | true=>rw [hl,Bool.true_or] at hb0;exact .inl ⟨rfl,hb0.symm⟩
    | false=>rw [hl,Bool.false_or] at hb0;exact .inr ⟨rfl,hb0⟩
   clear hb0;rcases hbb with ⟨hl,hb0⟩ | ⟨hl,hd⟩
   rotate_left 1
   ·rw [hd] at HD;rw [hl] at HL;clear hl hd
    go_wp2_with (first
     |(go_at_call 118;with_reducible refine (HL.out _).mono ?_;rintro e w2 ⟨rfl,hw⟩;rw [hw];clear hw)
     |(go_at_call 106;with_reducible refine (HD.out _).mono ?_;rintro e w2 ⟨rfl,hw⟩;rw [hw];clear hw))
    clear HL HD
    go_loop [7,8] (fun ok j=>∃q:Nat,q≤ms.size∧j=.int .i64 q∧ok=.bool (b0|| (ms.data.toList.take q).contains c)) (fun _ j=>ms.size-(intOf j).toNat)
    case atStart=>exact ⟨0,Nat.zero_le _,rfl,by simp⟩
    case round=>
     obtain ⟨q,hq,rfl,rfl⟩:=hrel;rcases Nat.lt_or_ge q ms.size with hlq | hgq
     ·have j1:(q:Int)<(ms.size:Int):=by omega
      have hsn:=Lib.hid (contains_snoc ms.data.toList q (by rw [len];exact hlq) c);obtain ⟨y,hy⟩:∃y,ms.data.toList[q]'(by rw [len];exact hlq)=y:=⟨_,rfl⟩;have hym:∀h,ms[q]'h=y:=fun _=>hy;rw [hy] at hsn;clear hy;obtain ⟨z,hz⟩:∃z,(ms.data.toList.take (q+1)).contains c=z:=⟨_,rfl⟩;rw [hz] at hsn;have HZQ:=Lib.hid hz;clear hz;generalize (ms.data.toList.take q).contains c=v at *;cases hv:(b0||v) with
      | true=>
        have HZ:Hid ((b0||z)=true):=Lib.hid (by rw [hsn.out,←Bool.or_assoc,hv,Bool.true_or]);clear hv hsn;go_wp2;go_round
        case rel=>exact ⟨q+1,by omega,by go_num,by rw [HZQ.out,HZ.out]⟩
        case measure=>simp [intOf];omega
      | false=>
        have HZ:Hid ((b0||z)=(c==y)):=Lib.hid (by rw [hsn.out,←Bool.or_assoc,hv,Bool.false_or]);clear hv hsn;cases hcy:(c==y) with
        | true=>
          rw [hcy] at HZ;have t1:((c.toNat:Int)==(y.toNat:Int))=true:=by rw [beq_iff_eq.1 hcy];exact beq_self_eq_true _
          clear hcy;go_wp2;go_round
          case rel=>exact ⟨q+1,by omega,by go_num,by rw [HZQ.out,HZ.out]⟩
          case measure=>simp [intOf];omega
        | false=>
          rw [hcy] at HZ
          have t1:((c.toNat:Int)==(y.toNat:Int))=false:=beq_eq_false_iff_ne.2 fun e=>(beq_eq_false_iff_ne.1 hcy) (UInt8.toNat_inj.1 (by omega));clear hcy;go_wp2;go_round
          case rel=>exact ⟨q+1,by omega,by go_num,by rw [HZQ.out,HZ.out]⟩
          case measure=>simp [intOf];omega
     ·obtain rfl:q=ms.size:=by omega
      have j1:¬(ms.size:Int)<(ms.size:Int):=by omega
      rw [List.take_of_length_le (by rw [len];exact Nat.le_refl _),←HPL.out];by_cases hlong:c=37∧k+2<s.size
      ·obtain ⟨hc37,hlg⟩:=hlong;have t37:((c.toNat:Int)==37)=true:=by rw [hc37];rfl
       have m1:IntKind.i64.wrap ((s.size:Int)-(k:Int))=((s.size-k:Nat):Int):=by rw [wrap_in _ (by omega) (by omega)];omega
       have m2:(2:Int)<((s.size-k:Nat):Int):=by omega
       have m3:IntKind.i64.wrap ((k:Int)+1)=((k+1:Nat):Int):=by rw [wrap_in _ (by omega) (by omega)];omega
       have m4:IntKind.i64.wrap ((k:Int)+2)=((k+2:Nat):Int):=by rw [wrap_in _ (by omega) (by omega)];omega
       have i2:((k+1:Nat):Int)<(s.size:Int):=by omega
       have i3:((k+2:Nat):Int)<(s.size:Int):=by omega
       have hw2:=HW.out;rw [hc37,okAt_pct _ _ k (by rw [len];exact hlg)] at hw2;obtain ⟨a,ha⟩:∃a,s.data.toList[k+1]'(by rw [len];omega)=a:=⟨_,rfl⟩;obtain ⟨b,hb⟩:∃b,s.data.toList[k+2]'(by rw [len];omega)=b:=⟨_,rfl⟩;rw [ha,hb] at hw2;have ya:∀h,s[k+1]'h=a:=fun _=>ha;have yb:∀h,s[k+2]'h=b:=fun _=>hb
       have HXA:=Lib.hid (fun w=>Oct.rhex_any (a.toNat:Int) w (by omega) (Base.byte_lt a))
       have HXB:=Lib.hid (fun w=>Oct.rhex_any (b.toNat:Int) w (by omega) (Base.byte_lt b));have ea:Oct.isHex (a.toNat:Int)=hexB a:=rfl;have eb:Oct.isHex (b.toNat:Int)=hexB b:=rfl;rw [ea] at HXA;rw [eb] at HXB;have HW2:=Lib.hid hw2;clear hw2 ha hb ea eb hc37 hlg HW HPL hc;generalize Oct.hexVal (a.toNat:Int)=va at *;generalize Oct.hexVal (b.toNat:Int)=vb at *;generalize hexB a=ha at *;generalize hexB b=hb at *;rcases (show (ha=true∧hb=true)∨(ha&&hb)=false by cases ha<;>cases hb<;>simp) with ⟨rfl,rfl⟩ | hf
       ·have HW3:Hid (written ms.data.toList (s.data.toList.drop (k+1))=A):=HW2;clear HW2
        go_wp2_with (first
         |(go_at_call 114;with_reducible refine (HXA.out _).mono ?_;rintro e w2 ⟨rfl,hw⟩;rw [hw];clear hw)
         |(go_at_call 114;with_reducible refine (HXB.out _).mono ?_;rintro e w2 ⟨rfl,hw⟩;rw [hw];clear hw))
        go_round
        case rel=>exact ⟨k+1,by omega,by go_num,HW3⟩
        case measure=>simp [intOf];omega
       ·rw [hf] at HW2;have HF:Hid (false=A):=HW2;clear HW2;cases ha;all_goals cases hb
        all_goals try (exact absurd hf (by decide))
        all_goals
         clear hf
         go_wp2_with (first
          |(go_at_call 114;with_reducible refine (HXA.out _).mono ?_;rintro e w2 ⟨rfl,hw⟩;rw [hw];clear hw)
          |(go_at_call 114;with_reducible refine (HXB.out _).mono ?_;rintro e w2 ⟨rfl,hw⟩;rw [hw];clear hw))
         go_ret;exact ⟨by rw [←HF.out];rfl,rfl⟩
      ·have hok:okAt ms.data.toList c (s.data.toList.drop (k+1))=plainB ms.data.toList c:=by
        by_cases hc37:c=37
        ·exact okAt_short _ _ _ (by have:¬k+2<s.size:=fun h=>hlong ⟨hc37,h⟩;rw [List.length_drop,len];omega)
        ·exact okAt_plain _ _ _ hc37
       have HW2:=Lib.hid (by have:=HW.out;rwa [hok] at this);clear hok HW HPL;generalize plainB ms.data.toList c=pb at *;by_cases hc37:c=37
       ·have t37:((c.toNat:Int)==37)=true:=by rw [hc37];rfl
        have m1:IntKind.i64.wrap ((s.size:Int)-(k:Int))=((s.size-k:Nat):Int):=by rw [wrap_in _ (by omega) (by omega)];omega
        have m2:¬(2:Int)<((s.size-k:Nat):Int):=by have:¬k+2<s.size:=fun h=>hlong ⟨hc37,h⟩;omega
        clear hlong hc37 hc;cases pb with
        | true=>
          go_wp2;go_round
          case rel=>exact ⟨k+1,by omega,by go_num,Lib.hid (by have:=HW2.out;rwa [Bool.true_and] at this)⟩
          case measure=>simp [intOf];omega
        | false=>
          have hf:=HW2.out;rw [Bool.false_and] at hf;have HF:=Lib.hid hf;clear hf HW2;go_wp2;go_ret;exact ⟨by rw [←HF.out];rfl,rfl⟩
       ·have t37:((c.toNat:Int)==37)=false:=beq_eq_false_iff_ne.2 fun e=>hc37 (UInt8.toNat_inj.1 (by show c.toNat=37;omega));clear hlong hc37 hc;cases pb with
        | true=>
          go_wp2;go_round
          case rel=>exact ⟨k+1,by omega,by go_num,Lib.hid (by have:=HW2.out;rwa [Bool.true_and] at this)⟩
          case measure=>simp [intOf];omega
        | false=>
          have hf:=HW2.out;rw [Bool.false_and] at hf;have HF:=Lib.hid hf;clear hf HW2;go_wp2;go_ret;exact ⟨by rw [←HF.out];rfl,rfl⟩
   ·rw [hl] at HL;clear hl
    go_wp2_with (go_at_call 118;with_reducible refine (HL.out _).mono ?_;rintro e w2 ⟨rfl,hw⟩;rw [hw];clear hw);clear HL HD
    go_loop [7,8] (fun ok j=>∃q:Nat,q≤ms.size∧j=.int .i64 q∧ok=.bool (b0|| (ms.data.toList.take q).contains c)) (fun _ j=>ms.size-(intOf j).toNat)
    case atStart=>exact ⟨0,Nat.zero_le _,rfl,by simp [hb0]⟩
    case round=>
     obtain ⟨q,hq,rfl,rfl⟩:=hrel;rcases Nat.lt_or_ge q ms.size with hlq | hgq
     ·have j1:(q:Int)<(ms.size:Int):=by omega
      have hsn:=Lib.hid (contains_snoc ms.data.toList q (by rw [len];exact hlq) c);obtain ⟨y,hy⟩:∃y,ms.data.toList[q]'(by rw [len];exact hlq)=y:=⟨_,rfl⟩;have hym:∀h,ms[q]'h=y:=fun _=>hy;rw [hy] at hsn;clear hy;obtain ⟨z,hz⟩:∃z,(ms.data.toList.take (q+1)).contains c=z:=⟨_,rfl⟩;rw [hz] at hsn;have HZQ:=Lib.hid hz;clear hz;generalize (ms.data.toList.take q).contains c=v at *;cases hv:(b0||v) with
      | true=>
        have HZ:Hid ((b0||z)=true):=Lib.hid (by rw [hsn.out,←Bool.or_assoc,hv,Bool.true_or]);clear hv hsn;go_wp2;go_round
        case rel=>exact ⟨q+1,by omega,by go_num,by rw [HZQ.out,HZ.out]⟩
        case measure=>simp [intOf];omega
      | false=>
        have HZ:Hid ((b0||z)=(c==y)):=Lib.hid (by rw [hsn.out,←Bool.or_assoc,hv,Bool.false_or]);clear hv hsn;cases hcy:(c==y) with
        | true=>
          rw [hcy] at HZ;have t1:((c.toNat:Int)==(y.toNat:Int))=true:=by rw [beq_iff_eq.1 hcy];exact beq_self_eq_true _
          clear hcy;go_wp2;go_round
          case rel=>exact ⟨q+1,by omega,by go_num,by rw [HZQ.out,HZ.out]⟩
          case measure=>simp [intOf];omega
        | false=>
          rw [hcy] at HZ
          have t1:((c.toNat:Int)==(y.toNat:Int))=false:=beq_eq_false_iff_ne.2 fun e=>(beq_eq_false_iff_ne.1 hcy) (UInt8.toNat_inj.1 (by omega));clear hcy;go_wp2;go_round
          case rel=>exact ⟨q+1,by omega,by go_num,by rw [HZQ.out,HZ.out]⟩
          case measure=>simp [intOf];omega
     ·obtain rfl:q=ms.size:=by omega
      have j1:¬(ms.size:Int)<(ms.size:Int):=by omega
      rw [List.take_of_length_le (by rw [len];exact Nat.le_refl _),←HPL.out];by_cases hlong:c=37∧k+2<s.size
      ·obtain ⟨hc37,hlg⟩:=hlong;have t37:((c.toNat:Int)==37)=true:=by rw [hc37];rfl
       have m1:IntKind.i64.wrap ((s.size:Int)-(k:Int))=((s.size-k:Nat):Int):=by rw [wrap_in _ (by omega) (by omega)];omega
       have m2:(2:Int)<((s.size-k:Nat):Int):=by omega
       have m3:IntKind.i64.wrap ((k:Int)+1)=((k+1:Nat):Int):=by rw [wrap_in _ (by omega) (by omega)];omega
       have m4:IntKind.i64.wrap ((k:Int)+2)=((k+2:Nat):Int):=by rw [wrap_in _ (by omega) (by omega)];omega
       have i2:((k+1:Nat):Int)<(s.size:Int):=by omega
       have i3:((k+2:Nat):Int)<(s.size:Int):=by omega
       have hw2:=HW.out;rw [hc37,okAt_pct _ _ k (by rw [len];exact hlg)] at hw2;obtain ⟨a,ha⟩:∃a,s.data.toList[k+1]'(by rw [len];omega)=a:=⟨_,rfl⟩;obtain ⟨b,hb⟩:∃b,s.data.toList[k+2]'(by rw [len];omega)=b:=⟨_,rfl⟩;rw [ha,hb] at hw2;have ya:∀h,s[k+1]'h=a:=fun _=>ha;have yb:∀h,s[k+2]'h=b:=fun _=>hb
       have HXA:=Lib.hid (fun w=>Oct.rhex_any (a.toNat:Int) w (by omega) (Base.byte_lt a))
       have HXB:=Lib.hid (fun w=>Oct.rhex_any (b.toNat:Int) w (by omega) (Base.byte_lt b));have ea:Oct.isHex (a.toNat:Int)=hexB a:=rfl;have eb:Oct.isHex (b.toNat:Int)=hexB b:=rfl;rw [ea] at HXA;rw [eb] at HXB;have HW2:=Lib.hid hw2;clear hw2 ha hb ea eb hc37 hlg HW HPL hc;generalize Oct.hexVal (a.toNat:Int)=va at *;generalize Oct.hexVal (b.toNat:Int)=vb at *;generalize hexB a=ha at *;generalize hexB b=hb at *;rcases (show (ha=true∧hb=true)∨(ha&&hb)=false by cases ha<;>cases hb<;>simp) with ⟨rfl,rfl⟩ | hf
       ·have HW3:Hid (written ms.data.toList (s.data.toList.drop (k+1))=A):=HW2;clear HW2
        go_wp2_with (first
         |(go_at_call 114;with_reducible refine (HXA.out _).mono ?_;rintro e w2 ⟨rfl,hw⟩;rw [hw];clear hw)
         |(go_at_call 114;with_reducible refine (HXB.out _).mono ?_;rintro e w2 ⟨rfl,hw⟩;rw [hw];clear hw))
        go_round
        case rel=>exact ⟨k+1,by omega,by go_num,HW3⟩
        case measure=>simp [intOf];omega
       ·rw [hf] at HW2;have HF:Hid (false=A):=HW2;clear HW2;cases ha;all_goals cases hb
        all_goals try (exact absurd hf (by decide))
        all_goals
         clear hf
         go_wp2_with (first
          |(go_at_call 114;with_reducible refine (HXA.out _).mono ?_;rintro e w2 ⟨rfl,hw⟩;rw [hw];clear hw)
          |(go_at_call 114;with_reducible refine (HXB.out _).mono ?_;rintro e w2 ⟨rfl,hw⟩;rw [hw];clear hw))
         go_ret;exact ⟨by rw [←HF.out];rfl,rfl⟩
      ·have hok:okAt ms.data.toList c (s.data.toList.drop (k+1))=plainB ms.data.toList c:=by
        by_cases hc37:c=37
        ·exact okAt_short _ _ _ (by have:¬k+2<s.size:=fun h=>hlong ⟨hc37,h⟩;rw [List.length_drop,len];omega)
        ·exact okAt_plain _ _ _ hc37
       have HW2:=Lib.hid (by have:=HW.out;rwa [hok] at this);clear hok HW HPL;generalize plainB ms.data.toList c=pb at *;by_cases hc37:c=37
       ·have t37:((c.toNat:Int)==37)=true:=by rw [hc37];rfl
        have m1:IntKind.i64.wrap ((s.size:Int)-(k:Int))=((s.size-k:Nat):Int):=by rw [wrap_in _ (by omega) (by omega)];omega
        have m2:¬(2:Int)<((s.size-k:Nat):Int):=by have:¬k+2<s.size:=fun h=>hlong ⟨hc37,h⟩;omega
        clear hlong hc37 hc;cases pb with
        | true=>
          go_wp2;go_round
          case rel=>exact ⟨k+1,by omega,by go_num,Lib.hid (by have:=HW2.out;rwa [Bool.true_and] at this)⟩
          case measure=>simp [intOf];omega
        | false=>
          have hf:=HW2.out;rw [Bool.false_and] at hf;have HF:=Lib.hid hf;clear hf HW2;go_wp2;go_ret;exact ⟨by rw [←HF.out];rfl,rfl⟩
       ·have t37:((c.toNat:Int)==37)=false:=beq_eq_false_iff_ne.2 fun e=>hc37 (UInt8.toNat_inj.1 (by show c.toNat=37;omega));clear hlong hc37 hc;cases pb with
        | true=>
          go_wp2;go_round
          case rel=>exact ⟨k+1,by omega,by go_num,Lib.hid (by have:=HW2.out;rwa [Bool.true_and] at this)⟩
          case measure=>simp [intOf];omega
        | false=>
          have hf:=HW2.out;rw [Bool.false_and] at hf;have HF:=Lib.hid hf;clear hf HW2;go_wp2;go_ret;exact ⟨by rw [←HF.out];rfl,rfl⟩
  ·obtain rfl:k=s.size:=by omega
   have hw1:=hw.out;rw [List.drop_eq_nil_of_le (by rw [len];exact Nat.le_refl _)] at hw1
   have HT:=Lib.hid (show true=A from hw1);clear hw hw1;go_wp2;go_ret;exact ⟨by rw [←HT.out];rfl,rfl⟩
end code
end Go.Proofs.YtimoakmcelocfaaGreat.Tgt
namespace Go.Proofs.YtimoakmcelocfaaGreat.Tgt
open Go.RowKit Base Oct Num Txt
section code
set_option maxHeartbeats 1000000
attribute [local go_sem] Base.some_undef
theorem rquery_any (s:ByteArray) (w:World) (hs:s.size≤1000000000):Calls Tryz.prog 122 #[.string s] w fun e w'=>e=.returned (.bool (queryB s.data.toList))∧w'=w:=by
 have HW:=Lib.hid (fun w=>rof_any s ⟨#[45,46,95,126,33,36,38,39,40,41,42,43,44,59,61,58,64,47,63]⟩ w hs (by decide));rw [show (ByteArray.mk #[45,46,95,126,33,36,38,39,40,41,42,43,44,59,61,58,64,47,63]).data.toList=queryMarks from rfl] at HW;unfold queryB;generalize written queryMarks s.data.toList=q at *;go_enter Tryz.func122,Tryz.ntmps122
 go_wp2_with (go_at_call 127;with_reducible refine (HW.out _).mono ?_;rintro e w1 ⟨rfl,hw⟩;rw [hw];clear hw);go_ret;exact ⟨rfl,rfl⟩
theorem rpath_any (s:ByteArray) (w:World) (hs:s.size≤1000000000):Calls Tryz.prog 121 #[.string s] w fun e w'=>e=.returned (.bool (pathB s.data.toList))∧w'=w:=by
 have HW:=Lib.hid (fun w=>rof_any s ⟨#[45,46,95,126,33,36,38,39,40,41,42,43,44,59,61,58,64,47]⟩ w hs (by decide));rw [show (ByteArray.mk #[45,46,95,126,33,36,38,39,40,41,42,43,44,59,61,58,64,47]).data.toList=pathMarks from rfl] at HW;unfold pathB;cases hl:s.data.toList with
 | nil=>
   have he:=empty_of hl;clear hl HW;go_enter Tryz.func121,Tryz.ntmps121;go_wp2;go_ret;exact ⟨rfl,rfl⟩
 | cons c r=>
   have he:=full_of hl;have hz:=size_cons hl;have h0:(0:Int)<(s.size:Int):=by omega
   have e0:∀h,s[0]'h=c:=fun h=>at_zero hl h;rw [hl] at HW;clear hl hz;generalize written pathMarks (c::r)=q at *;rw [List.head?_cons];by_cases hc:c=47
   ·have t1:((c.toNat:Int)==47)=true:=by rw [hc];rfl
    rw [decide_eq_true (by rw [hc]),Bool.true_and];clear hc;go_enter Tryz.func121,Tryz.ntmps121
    go_wp2_with (go_at_call 127;with_reducible refine (HW.out _).mono ?_;rintro e w1 ⟨rfl,hw⟩;rw [hw];clear hw);go_ret;exact ⟨rfl,rfl⟩
   ·have t1:((c.toNat:Int)==47)=false:=beq_eq_false_iff_ne.2 fun e=>hc (UInt8.toNat_inj.1 (by show c.toNat=47;omega));rw [decide_eq_false (fun e=>hc (Option.some.inj e)),Bool.false_and];clear hc;go_enter Tryz.func121,Tryz.ntmps121;go_wp2;go_ret;exact ⟨rfl,rfl⟩
theorem rport_any (s:ByteArray) (w:World) (hs:s.size≤1000000000):Calls Tryz.prog 103 #[.string s] w fun e w'=>e=.returned (.bool (s.data.toList.contains 58))∧w'=w:=by
 obtain ⟨A,hA⟩:∃A,s.data.toList.contains 58=A:=⟨_,rfl⟩;rw [hA];have HA:=Lib.hid hA;clear hA;go_enter Tryz.func103,Tryz.ntmps103;go_wp2
 go_loop [3] (fun i=>∃k:Nat,k≤s.size∧i=.int .i64 k∧Hid ((s.data.toList.take k).contains 58=false)) (fun i=>s.size-(intOf i).toNat)
 case atStart=>exact ⟨0,Nat.zero_le _,rfl,Lib.hid rfl⟩
 case round=>
  obtain ⟨k,hk,rfl,hno⟩:=hrel;rcases Nat.lt_or_ge k s.size with hlt | hge
  ·have i1:(k:Int)<(s.size:Int):=by omega
   have hkl:k<s.data.toList.length:=by rw [len];exact hlt
   have hsn:=Lib.hid (contains_snoc s.data.toList k hkl 58);obtain ⟨c,hc⟩:∃c,s.data.toList[k]=c:=⟨_,rfl⟩;have hx:∀h,s[k]'h=c:=fun _=>hc
   have hmem:=Lib.hid (List.getElem_mem hkl);rw [hc] at hsn hmem;clear hc hkl;by_cases h58:c=58
   ·have t1:((c.toNat:Int)==58)=true:=by rw [h58];rfl
    have HT:Hid (true=A):=Lib.hid (by rw [←HA.out,List.contains_iff_mem.2 (by rw [←h58];exact hmem.out)]);clear h58;go_wp2;go_ret;exact ⟨by rw [←HT.out];rfl,rfl⟩
   ·have t1:((c.toNat:Int)==58)=false:=beq_eq_false_iff_ne.2 fun e=>h58 (UInt8.toNat_inj.1 (by show c.toNat=58;omega))
    have HN:Hid ((s.data.toList.take (k+1)).contains 58=false):=Lib.hid (by rw [hsn.out,hno.out,Bool.false_or];exact beq_eq_false_iff_ne.2 fun e=>h58 e.symm);clear h58;go_wp2;go_round
    case rel=>exact ⟨k+1,by omega,by go_num,HN⟩
    case measure=>simp [intOf];omega
  ·obtain rfl:k=s.size:=by omega
   have h1:=hno.out;rw [take_all s _ (Nat.le_refl _),HA.out] at h1;have HT:=Lib.hid h1;clear hno h1;go_wp2;go_ret;exact ⟨by rw [HT.out];rfl,rfl⟩
end code
end Go.Proofs.YtimoakmcelocfaaGreat.Tgt
namespace Go.Proofs.YtimoakmcelocfaaGreat.Tgt
open Go.RowKit Base Oct Num Txt
theorem cut_hit (c:UInt8) (l:List UInt8) (k:Nat) (hk:k<l.length) (hc:l[k]=c) (hno:c∉l.take k):cutAt c l=(l.take k,l.drop (k+1),true):=by
 have e:l=l.take k++c::l.drop (k+1):=by conv=>lhs;rw [←List.take_append_drop k l,List.drop_eq_getElem_cons hk,hc]
 conv=>lhs;rw [e]
 exact cutAt_app c _ _ hno
section code
set_option maxHeartbeats 1000000
attribute [local go_sem] Base.some_undef
set_option maxRecDepth 10000 in
theorem rorigin_any (s:ByteArray) (w:World) (hs:s.size≤1000000000) :
 Calls Tryz.prog 105 #[.string s] w fun e w'=>e=.returned (.tuple #[tv 0 E0 (ba (cutAt 63 s.data.toList).1) (ba (cutAt 63 s.data.toList).2.1) (cutAt 63 s.data.toList).2.2,.bool (pathB (cutAt 63 s.data.toList).1&&queryB (cutAt 63 s.data.toList).2.1)])∧Below w.heap.size w w':=by
 obtain ⟨R,hR⟩:∃R,cutAt 63 s.data.toList=R:=⟨_,rfl⟩;rw [hR];have HR:=Lib.hid hR
 have HRL:=Lib.hid (cutAt_le 63 s.data.toList);rw [hR,len] at HRL;clear hR;obtain ⟨p,q,bb⟩:=R;simp only at HRL;simp only
 have HP:=Lib.hid (fun w=>rpath_any (ba p) w (by rw [ba_size];have:=HRL.out.1;omega))
 have HQ:=Lib.hid (fun w=>rquery_any (ba q) w (by rw [ba_size];have:=HRL.out.2;omega));rw [ba_list] at HP HQ;generalize pathB p=pk at *;generalize queryB q=qk at *;have HPP:Hid (∀k (hk:k<s.data.toList.length),s.data.toList[k]=63→(63:UInt8)∉s.data.toList.take k→s.extract 0 k=ba p∧s.extract (k+1) s.size=ba q∧true=bb):=Lib.hid fun k hk hc hno=>by have h1:=HR.out;rw [cut_hit 63 _ k hk hc hno] at h1;simp only [Prod.mk.injEq] at h1;exact ⟨ba_ext (by rw [Lib.extract_data,←h1.1];simp [ba]),ba_ext (by rw [drop_ext,←h1.2.1];rfl),h1.2.2⟩
 have HEE:Hid ((63:UInt8)∉s.data.toList→s=ba p∧E0=ba q∧false=bb):=Lib.hid fun hno=>by have h1:=HR.out;rw [cutAt_none 63 _ hno] at h1;simp only [Prod.mk.injEq] at h1;exact ⟨by rw [←h1.1];rfl,by rw [←h1.2.1];rfl,h1.2.2⟩
 clear HR HRL;generalize ba p=PP at *;generalize ba q=QQ at *;have hc2:=Tgb.new w 127 0 E0 E0 E0 false;have hg2':w.heap.size<(w.alloc (.cells #[.int .i64 0,.string E0,.string E0,.string E0,.bool false] 127)).heap.size:=by simp
 have hsz2:(w.alloc (.cells #[.int .i64 0,.string E0,.string E0,.string E0,.bool false] 127)).heap.size=w.heap.size+1:=by simp
 have hb2:Below w.heap.size w (w.alloc (.cells #[.int .i64 0,.string E0,.string E0,.string E0,.bool false] 127)):=(Below.refl _ _).alloc (Nat.le_refl _) _;have hn24:¬w.heap.size=w.heap.size+1:=by omega
 go_enter Tryz.func105,Tryz.ntmps105;go_upto_region 2 with fail
 generalize w.alloc (.cells #[.int .i64 0,.string E0,.string E0,.string E0,.bool false] 127)=W2 at *;have hc4:=Tgb.new W2 127 0 E0 s E0 false;have hb4:Below W2.heap.size W2 (W2.alloc (.cells #[.int .i64 0,.string E0,.string s,.string E0,.bool false] 127)):=(Below.refl _ _).alloc (Nat.le_refl _) _;have hg4:W2.heap.size<(W2.alloc (.cells #[.int .i64 0,.string E0,.string s,.string E0,.bool false] 127)).heap.size:=by simp
 generalize W2.alloc (.cells #[.int .i64 0,.string E0,.string s,.string E0,.bool false] 127)=W at *
 have H2w:=Lib.hid (hc2.below hg2' hb4)
 have HBw:=Lib.hid (hb2.trans (hb4.mono (Nat.le_of_lt hg2')))
 have HG2w:=Lib.hid (Nat.lt_trans hg2' hg4);rw [hsz2] at hc4 hg4;have H4w:=Lib.hid hc4;have HG4w:=Lib.hid hg4;clear hc2 hg2' hsz2 hb2 hc4 hb4 hg4;go_wp2_with fail
 go_loopw [5] (fun i wr=>∃k:Nat,k≤s.size∧i=.int .i64 k∧wr=W∧Hid ((63:UInt8)∉s.data.toList.take k)) (fun i _=>s.size-(intOf i).toNat)
 case atStart=>exact ⟨0,Nat.zero_le _,rfl,rfl,Lib.hid (by simp)⟩
 case round=>
  obtain ⟨k,hk,rfl,rfl,hno⟩:=hrel;rcases Nat.lt_or_ge k s.size with hlt | hge
  ·have i1:(k:Int)<(s.size:Int):=by omega
   have hkl:k<s.data.toList.length:=by rw [len];exact hlt
   obtain ⟨c,hc⟩:∃c,s.data.toList[k]=c:=⟨_,rfl⟩;have hx:∀h,s[k]'h=c:=fun _=>hc;by_cases h63:c=63
   ·have t1:((c.toNat:Int)==63)=true:=by rw [h63];rfl
    obtain ⟨e1,e2,e3⟩:=HPP.out k hkl (hc.trans h63) hno.out;have j0:(0:Int)≤(k:Int):=by omega
    have j1:(k:Int)≤(s.size:Int):=by omega
    have m1:IntKind.i64.wrap ((k:Int)+1)=((k+1:Nat):Int):=by rw [wrap_in _ (by omega) (by omega)];omega
    have j2:(k:Int)+1≤(s.size:Int):=by omega
    have j3:(0:Int)≤(k:Int)+1:=by omega
    clear h63 hc hkl hno;subst e3;go_wp2_with fail;refine Sched.region [(0,false),(1,false),(2,false),(3,false),(4,false),(5,false),(6,false),(7,false),(8,true),(9,false),(10,true),(11,false),(12,true)] (fun _=>True) (by kernel_rfl) (by kernel_rfl) (fun _ _ d _ _ h=>by cases d<;>exact h) trivial ?_
    have HY4:=Lib.hid (H4w.out.below HG4w.out (Base.below_drewN (Below.refl _ _) 1))
    have HY2:=Lib.hid (H2w.out.below HG2w.out (Base.below_drewN (Below.refl _ _) 1))
    have HYB:=Lib.hid (Base.below_drewN HBw.out 1);have HYG:Hid (w.heap.size+1<(World.drewN wr 1).heap.size):=HG4w;generalize World.drewN wr 1=W6 at *;simp only [Sched.picked,List.filterMap_cons,List.filterMap_nil,qZ,qS,Option.map_some]
    iterate 8
     refine Sched.quiet (by rfl) ?_ ?_ ?_
     rotate_left 1
     ·intro w' hS;clear hS;go_simp;with_reducible rfl
     simp only [Act.put,qI,qY,qX]
    obtain ⟨c0,c1,c2,c3,c4,z0,z1,z2,z3,z4⟩:=HY4.out
    refine Sched.change (by rfl) (fun K hK=>?_);go_simp;refine hK _ _ trivial ?_;clear hK K;refine Sched.quiet (by rfl) ?_ ?_ ?_
    rotate_left 1
    ·intro w' hS;clear hS;go_simp;with_reducible rfl
    simp only [Act.put,qI,qY,qX]
    refine Sched.change (by rfl) (fun K hK=>?_);go_simp;refine hK _ _ trivial ?_;clear hK K;refine Sched.quiet (by rfl) ?_ ?_ ?_
    rotate_left 1
    ·intro w' hS;clear hS;go_simp;with_reducible rfl
    simp only [Act.put,qI,qY,qX]
    refine Sched.change (by rfl) (fun K hK=>?_);go_simp;refine hK _ _ trivial ?_;clear hK K;refine Sched.done ?_
    have H4:Hid (Tgb (((W6.setCell ⟨w.heap.size+1,2,none⟩ (.string PP)).setCell ⟨w.heap.size+1,3,none⟩ (.string QQ)).setCell ⟨w.heap.size+1,4,none⟩ (.bool true)) (w.heap.size+1) 0 E0 PP QQ true):=Lib.hid (by refine ⟨?_,?_,?_,?_,?_,?_,?_,?_,?_,?_⟩;all_goals go_simp)
    have hn42:¬w.heap.size+1=w.heap.size:=by omega
    have H2:=Lib.hid (((HY2.out.other (w.heap.size+1) 2 (.string PP) hn42).other (w.heap.size+1) 3 (.string QQ) hn42).other (w.heap.size+1) 4 (.bool true) hn42);have hle:w.heap.size≤w.heap.size+1:=Nat.le_succ _
    have HB:=Lib.hid (((HYB.out.setCell (p:=⟨w.heap.size+1,2,none⟩) hle (.string PP)).setCell (p:=⟨w.heap.size+1,3,none⟩) hle (.string QQ)).setCell (p:=⟨w.heap.size+1,4,none⟩) hle (.bool true))
    have HG4:Hid (w.heap.size+1<(((W6.setCell ⟨w.heap.size+1,2,none⟩ (.string PP)).setCell ⟨w.heap.size+1,3,none⟩ (.string QQ)).setCell ⟨w.heap.size+1,4,none⟩ (.bool true)).heap.size):=Lib.hid (by simpa using HYG.out)
    have HG2:=Lib.hid (Nat.lt_of_le_of_lt hle HG4.out);clear HY4 HY2 HYB HYG c0 c1 c2 c3 c4 z0 z1 z2 z3 z4 H4w H2w HBw HG4w HG2w;generalize ((W6.setCell ⟨w.heap.size+1,2,none⟩ (.string PP)).setCell ⟨w.heap.size+1,3,none⟩ (.string QQ)).setCell ⟨w.heap.size+1,4,none⟩ (.bool true)=W7 at *;go_wp2_with fail
    have HW7:=Lib.hid (H4.out.below HG4.out (Base.below_drewN (Below.refl _ _) 1))
    have HX7:=Lib.hid (H2.out.below HG2.out (Base.below_drewN (Below.refl _ _) 1))
    have HB7:=Lib.hid (Base.below_drewN HB.out 1);refine Sched.region [(0,false),(1,false),(2,false),(3,true),(4,false),(5,false),(6,false),(7,true),(8,false),(9,true),(10,false)] (fun w'=>Tgb w' (w.heap.size+1) 0 E0 PP QQ true) (by kernel_rfl) (by kernel_rfl) (fun _ _ d _ _ h=>by cases d<;>exact h) HW7.out ?_;generalize World.drewN W7 1=W8 at *;simp only [Sched.picked,List.filterMap_cons,List.filterMap_nil,qZ,qS,Option.map_some]
    iterate 3
     refine Sched.quiet (by rfl) ?_ ?_ ?_
     rotate_left 1
     ·intro w' hS;obtain ⟨c0,c1,c2,c3,c4,_,_,_,_,_⟩:=hS;go_simp;with_reducible rfl
     simp only [Act.put,qI,qY,qX]
    refine Sched.change (by rfl) (fun K hK=>?_);go_simp;with_reducible refine (HP.out _).mono ?_
    rintro e w1 ⟨rfl,hw⟩;rw [hw];clear hw;dsimp only;refine hK _ _ HW7.out ?_;clear hK K;refine Sched.move _ (by rfl) (by rfl) ?_;simp only [Act.put,Act.eval,qA,qT,qZ,qS,qO,qI,qY,qX];cases pk with
    | false=>
      iterate 3
       refine Sched.skip (by rfl) ?_;simp only [Act.put,qI,qY,qX]
      refine Sched.quiet (by rfl) (.bool false) ?_ ?_
      ·intro w' hS;clear hS;go_simp
      simp only [Act.put,qI,qY,qX]
      refine Sched.change (by rfl) (fun K hK=>?_);obtain ⟨c0,c1,c2,c3,c4,z0,z1,z2,z3,z4⟩:=HX7.out;obtain ⟨W9,hW9,⟨d0,d1,d2,d3,d4,_,_,_,_,_⟩,hbW⟩:=Tgb.put ⟨c0,c1,c2,c3,c4,z0,z1,z2,z3,z4⟩ HB7.out (Nat.le_refl _) 0 E0 PP QQ true;go_simp;refine hK _ _ ?_ ?_
      ·rw [←hW9];exact ((((HW7.out.other w.heap.size 0 _ hn24).other w.heap.size 1 _ hn24).other w.heap.size 2 _ hn24).other w.heap.size 3 _ hn24).other w.heap.size 4 _ hn24
      clear hK K;refine Sched.assign _ (by rfl) (by rfl) ?_;simp only [Act.put,Act.eval,qA,qT,qZ,qS,qO,qI,qY,qX];refine Sched.done ?_;go_wp2;exact bodyPost_ret (v:=.tuple #[tv 0 E0 PP QQ true,.bool false]) (by simp [results,Tryz.results105,go_sem,d0,d1,d2,d3,d4]) rfl ⟨rfl,hbW⟩
    | true=>
      iterate 2
       refine Sched.quiet (by rfl) ?_ ?_ ?_
       rotate_left 1
       ·intro w' hS;obtain ⟨c0,c1,c2,c3,c4,_,_,_,_,_⟩:=hS;go_simp;with_reducible rfl
       simp only [Act.put,qI,qY,qX]
      refine Sched.change (by rfl) (fun K hK=>?_);go_simp;with_reducible refine (HQ.out _).mono ?_
      rintro e w1 ⟨rfl,hw⟩;rw [hw];clear hw;dsimp only;refine hK _ _ HW7.out ?_;clear hK K;refine Sched.quiet (by rfl) (.bool qk) ?_ ?_
      ·intro w' hS;clear hS;go_simp
      simp only [Act.put,qI,qY,qX]
      refine Sched.change (by rfl) (fun K hK=>?_);obtain ⟨c0,c1,c2,c3,c4,z0,z1,z2,z3,z4⟩:=HX7.out;obtain ⟨W9,hW9,⟨d0,d1,d2,d3,d4,_,_,_,_,_⟩,hbW⟩:=Tgb.put ⟨c0,c1,c2,c3,c4,z0,z1,z2,z3,z4⟩ HB7.out (Nat.le_refl _) 0 E0 PP QQ true;go_simp;refine hK _ _ ?_ ?_
      ·rw [←hW9];exact ((((HW7.out.other w.heap.size 0 _ hn24).other w.heap.size 1 _ hn24).other w.heap.size 2 _ hn24).other w.heap.size 3 _ hn24).other w.heap.size 4 _ hn24
      clear hK K;refine Sched.assign _ (by rfl) (by rfl) ?_;simp only [Act.put,Act.eval,qA,qT,qZ,qS,qO,qI,qY,qX];refine Sched.done ?_;go_wp2;exact bodyPost_ret (v:=.tuple #[tv 0 E0 PP QQ true,.bool qk]) (by simp [results,Tryz.results105,go_sem,d0,d1,d2,d3,d4]) rfl ⟨rfl,hbW⟩
   ·have t1:((c.toNat:Int)==63)=false:=beq_eq_false_iff_ne.2 fun e=>h63 (UInt8.toNat_inj.1 (by show c.toNat=63;omega))
    have HN:Hid ((63:UInt8)∉s.data.toList.take (k+1)):=Lib.hid (by rw [List.take_succ_eq_append_getElem hkl,hc,List.mem_append,not_or];exact ⟨hno.out,by rw [List.mem_singleton];exact fun e=>h63 e.symm⟩)
    clear h63 hc hkl hno;go_wp2_with fail;go_roundw
    case rel=>first | exact ⟨k+1,by omega,by go_num,rfl,HN⟩ | exact ⟨k+1,by omega,by go_num,trivial,HN⟩
    case measure=>simp [intOf];omega
  ·obtain rfl:k=s.size:=by omega
   have h1:=hno.out;rw [take_all s _ (Nat.le_refl _)] at h1;obtain ⟨e1,e2,e3⟩:=HEE.out h1;clear hno h1;subst e1 e2 e3;go_wp2_with fail;have H4:=H4w;have H2:=H2w;have HB:=HBw;have HG4:=HG4w;have HG2:=HG2w;clear H4w H2w HBw HG4w HG2w;generalize wr=W7 at *
   have HW7:=Lib.hid (H4.out.below HG4.out (Base.below_drewN (Below.refl _ _) 1))
   have HX7:=Lib.hid (H2.out.below HG2.out (Base.below_drewN (Below.refl _ _) 1))
   have HB7:=Lib.hid (Base.below_drewN HB.out 1);refine Sched.region [(0,false),(1,false),(2,false),(3,true),(4,false),(5,false),(6,false),(7,true),(8,false),(9,true),(10,false)] (fun w'=>Tgb w' (w.heap.size+1) 0 E0 s E0 false) (by kernel_rfl) (by kernel_rfl) (fun _ _ d _ _ h=>by cases d<;>exact h) HW7.out ?_;generalize World.drewN W7 1=W8 at *;simp only [Sched.picked,List.filterMap_cons,List.filterMap_nil,qZ,qS,Option.map_some]
   iterate 3
    refine Sched.quiet (by rfl) ?_ ?_ ?_
    rotate_left 1
    ·intro w' hS;obtain ⟨c0,c1,c2,c3,c4,_,_,_,_,_⟩:=hS;go_simp;with_reducible rfl
    simp only [Act.put,qI,qY,qX]
   refine Sched.change (by rfl) (fun K hK=>?_);go_simp;with_reducible refine (HP.out _).mono ?_
   rintro e w1 ⟨rfl,hw⟩;rw [hw];clear hw;dsimp only;refine hK _ _ HW7.out ?_;clear hK K;refine Sched.move _ (by rfl) (by rfl) ?_;simp only [Act.put,Act.eval,qA,qT,qZ,qS,qO,qI,qY,qX];cases pk with
   | false=>
     iterate 3
      refine Sched.skip (by rfl) ?_;simp only [Act.put,qI,qY,qX]
     refine Sched.quiet (by rfl) (.bool false) ?_ ?_
     ·intro w' hS;clear hS;go_simp
     simp only [Act.put,qI,qY,qX]
     refine Sched.change (by rfl) (fun K hK=>?_);obtain ⟨c0,c1,c2,c3,c4,z0,z1,z2,z3,z4⟩:=HX7.out;obtain ⟨W9,hW9,⟨d0,d1,d2,d3,d4,_,_,_,_,_⟩,hbW⟩:=Tgb.put ⟨c0,c1,c2,c3,c4,z0,z1,z2,z3,z4⟩ HB7.out (Nat.le_refl _) 0 E0 s E0 false;go_simp;refine hK _ _ ?_ ?_
     ·rw [←hW9];exact ((((HW7.out.other w.heap.size 0 _ hn24).other w.heap.size 1 _ hn24).other w.heap.size 2 _ hn24).other w.heap.size 3 _ hn24).other w.heap.size 4 _ hn24
     clear hK K;refine Sched.assign _ (by rfl) (by rfl) ?_;simp only [Act.put,Act.eval,qA,qT,qZ,qS,qO,qI,qY,qX];refine Sched.done ?_;go_wp2;exact bodyPost_ret (v:=.tuple #[tv 0 E0 s E0 false,.bool false]) (by simp [results,Tryz.results105,go_sem,d0,d1,d2,d3,d4]) rfl ⟨rfl,hbW⟩
   | true=>
     iterate 2
      refine Sched.quiet (by rfl) ?_ ?_ ?_
      rotate_left 1
      ·intro w' hS;obtain ⟨c0,c1,c2,c3,c4,_,_,_,_,_⟩:=hS;go_simp;with_reducible rfl
      simp only [Act.put,qI,qY,qX]
     refine Sched.change (by rfl) (fun K hK=>?_);go_simp;with_reducible refine (HQ.out _).mono ?_
     rintro e w1 ⟨rfl,hw⟩;rw [hw];clear hw;dsimp only;refine hK _ _ HW7.out ?_;clear hK K;refine Sched.quiet (by rfl) (.bool qk) ?_ ?_
     ·intro w' hS;clear hS;go_simp
     simp only [Act.put,qI,qY,qX]
     refine Sched.change (by rfl) (fun K hK=>?_);obtain ⟨c0,c1,c2,c3,c4,z0,z1,z2,z3,z4⟩:=HX7.out;obtain ⟨W9,hW9,⟨d0,d1,d2,d3,d4,_,_,_,_,_⟩,hbW⟩:=Tgb.put ⟨c0,c1,c2,c3,c4,z0,z1,z2,z3,z4⟩ HB7.out (Nat.le_refl _) 0 E0 s E0 false;go_simp;refine hK _ _ ?_ ?_
     ·rw [←hW9];exact ((((HW7.out.other w.heap.size 0 _ hn24).other w.heap.size 1 _ hn24).other w.heap.size 2 _ hn24).other w.heap.size 3 _ hn24).other w.heap.size 4 _ hn24
     clear hK K;refine Sched.assign _ (by rfl) (by rfl) ?_;simp only [Act.put,Act.eval,qA,qT,qZ,qS,qO,qI,qY,qX];refine Sched.done ?_;go_wp2;exact bodyPost_ret (v:=.tuple #[tv 0 E0 s E0 false,.bool qk]) (by simp [results,Tryz.results105,go_sem,d0,d1,d2,d3,d4]) rfl ⟨rfl,hbW⟩
end code
end Go.Proofs.YtimoakmcelocfaaGreat.Tgt
namespace Go.Proofs.YtimoakmcelocfaaGreat.Tgt
open Go.RowKit Base Oct Num Txt
theorem cutAt_head (c d:UInt8) (l:List UInt8) (h:(cutAt c l).1.head?=some d):l.head?=some d:=by
 cases l with
 | nil=>simp [cutAt] at h
 | cons b r=>
   rw [cutAt] at h;split at h
   ·simp at h
   ·simpa using h
theorem origin_head {l:List UInt8} (h:l.head?≠some 47):origin l=none:=by
 unfold origin;have:pathB (cutAt 63 l).1=false:=by unfold pathB;rw [decide_eq_false (fun e=>h (cutAt_head _ _ _ e)),Bool.false_and]
 rw [this,Bool.false_and];rfl
theorem schemed_head {l:List UInt8} (h:l.head?=some 47):schemed l=false:=by
 cases l with
 | nil=>simp at h
 | cons c r=>
   obtain rfl:c=47:=by simpa using h
   unfold schemed;have:(low (((47:UInt8)::r).take 7)==low http)=false:=by rw [beq_eq_false_iff_ne];intro e;have e2:=congrArg (fun x=>x.head?) e;revert e2;show some (lowB 47)=some (lowB 104)→False;decide
   rw [this,Bool.and_false]
theorem parse_alt {m l:List UInt8} (hm:¬m=connect) (ho:¬(m=options∧l= [42])):parse m l=if schemed l=true then absolute (l.drop 7) else origin l:=by
 rw [parse,if_neg hm,if_neg ho];by_cases hd:l.head?=some 47
 ·rw [if_pos hd,schemed_head hd];rfl
 ·rw [if_neg hd,origin_head hd]
def relabel (F:Nat) (ho:List UInt8) (o:Option Tg):Option Tg:=o.map fun t=>⟨F,ho,t.path,t.query,t.asked⟩
theorem origin_relabel (l:List UInt8):origin l=relabel 1 [] (origin l):=by
 unfold relabel;cases h:origin l with
 | none=>rfl
 | some t=>
   obtain ⟨_,h1,h2⟩:=putPath_origin h;obtain ⟨f,ho,p,q,a⟩:=t;simp only at h1 h2;subst h1 h2;rfl
theorem absolute_relabel (l:List UInt8) (h:hostB (hostOf l)=true):absolute l=relabel 2 (hostOf l) (origin (slashed (restOf l))):=by
 unfold absolute relabel;cases origin (slashed (restOf l)) with
 | none=>rfl
 | some t=>simp only [h,if_true];rfl
theorem absolute_none (l:List UInt8) (h:hostB (hostOf l)=false):absolute l=none:=by
 unfold absolute;cases origin (slashed (restOf l)) with
 | none=>rfl
 | some t=>simp only [h];rfl
theorem host_all:∀l:List UInt8,(∀x∈l,ended x=false)→hostOf l=l∧restOf l= []
 | [],_=>⟨rfl,rfl⟩
 | c::r,h=>by
   have hc:=h c (by simp)
   have ih:=host_all r fun x hx=>h x (by simp [hx]);unfold hostOf restOf at *;simp only [List.takeWhile_cons,List.dropWhile_cons,hc,Bool.not_false,if_true];exact ⟨by rw [ih.1],ih.2⟩
theorem host_stop (l:List UInt8) (k:Nat) (h1:∀x∈l.take k,ended x=false) (h2:l.length≤k∨∃h:k<l.length,ended l[k]=true):hostOf l=l.take k∧restOf l=l.drop k:=by
 rcases h2 with h2 | ⟨h2,h3⟩
 ·rw [List.take_of_length_le h2] at h1;rw [List.take_of_length_le h2,List.drop_eq_nil_of_le h2];exact host_all l h1
 ·have e:=host_cut (fun c=>!ended c) (l.take k) (l.drop (k+1)) l[k] (fun x hx=>by simp [h1 x hx]) (by simp [h3]);have e2:l.take k++l[k]::l.drop (k+1)=l:=by rw [←List.drop_eq_getElem_cons h2,List.take_append_drop]
  rw [e2] at e;exact ⟨e.1,by rw [List.drop_eq_getElem_cons h2];exact e.2⟩
section code
set_option maxHeartbeats 1000000
attribute [local go_sem] Base.some_undef
theorem rtarget_connect (m s:ByteArray) (w:World) (hs:s.size≤900000000) (hm:m.data.toList=connect) :
 Calls Tryz.prog 89 #[.string m,.string s] w fun e w'=>e=.returned (ans (parse m.data.toList s.data.toList))∧Below w.heap.size w w':=by
 have HCC:=Lib.hid (Tgb.new w 127 0 E0 E0 E0 false)
 have HWW:=Lib.hid (show Below w.heap.size w (w.alloc (.cells #[.int .i64 0,.string E0,.string E0,.string E0,.bool false] 127)) from (Below.refl _ _).alloc (Nat.le_refl _) _)
 have HG:=Lib.hid (show w.heap.size<(w.alloc (.cells #[.int .i64 0,.string E0,.string E0,.string E0,.bool false] 127)).heap.size by simp)
 have HC:=Lib.hid (fun w=>rport_any s w (by omega))
 have HH:=Lib.hid (fun w=>rhost_any s w (by omega));have hba:ba s.data.toList=s:=rfl;rw [parse,if_pos hm]
 obtain ⟨t1,t2⟩:=eq_facts m [67,79,78,78,69,67,84] true (decide_eq_true hm);clear hm;obtain ⟨R,hR⟩:∃R,authority s.data.toList=R:=⟨_,rfl⟩;rw [hR];unfold authority at hR;generalize s.data.toList.contains 58=b at *;generalize hostB s.data.toList=h at *;cases h with
 | false=>
   rw [Bool.and_false] at hR;obtain rfl:none=R:=hR;rw [ans];clear hba;go_enter Tryz.func89,Tryz.ntmps89
   go_wp2_with (go_at_call 102;with_reducible refine (HH.out _).mono ?_;rintro e w2 ⟨rfl,hb⟩
                obtain ⟨c0,c1,c2,c3,c4,z0,z1,z2,z3,z4⟩:=HCC.out.below HG.out hb
                have HB:=Lib.hid (Base.below_step HWW.out hb);clear hb)
   obtain ⟨W,hW,⟨d0,d1,d2,d3,d4,_,_,_,_,_⟩,hbW⟩:=Tgb.put ⟨c0,c1,c2,c3,c4,z0,z1,z2,z3,z4⟩ HB.out (Nat.le_refl _) 0 E0 E0 E0 false;rw [hW];exact bodyPost_ret (v:=.tuple #[tv 0 E0 E0 E0 false,.int .i64 400]) (by simp [results,Tryz.results89,go_sem,d0,d1,d2,d3,d4]) rfl ⟨rfl,hbW⟩
 | true=>
   cases b with
   | false=>
     obtain rfl:none=R:=hR;rw [ans];clear hba;go_enter Tryz.func89,Tryz.ntmps89
     go_wp2_with (first
      |(go_at_call 103;with_reducible refine (HC.out _).mono ?_;rintro e w1 ⟨rfl,hw⟩;rw [hw];clear hw)
      |(go_at_call 102;with_reducible refine (HH.out _).mono ?_;rintro e w2 ⟨rfl,hb⟩
        obtain ⟨c0,c1,c2,c3,c4,z0,z1,z2,z3,z4⟩:=HCC.out.below HG.out hb
        have HB:=Lib.hid (Base.below_step HWW.out hb);clear hb))
     obtain ⟨W,hW,⟨d0,d1,d2,d3,d4,_,_,_,_,_⟩,hbW⟩:=Tgb.put ⟨c0,c1,c2,c3,c4,z0,z1,z2,z3,z4⟩ HB.out (Nat.le_refl _) 0 E0 E0 E0 false;rw [hW];exact bodyPost_ret (v:=.tuple #[tv 0 E0 E0 E0 false,.int .i64 400]) (by simp [results,Tryz.results89,go_sem,d0,d1,d2,d3,d4]) rfl ⟨rfl,hbW⟩
   | true=>
     obtain rfl:some ⟨3,s.data.toList,[],[],false⟩=R:=hR;rw [ans,hba,show ba []=E0 from rfl];clear hba;go_enter Tryz.func89,Tryz.ntmps89
     go_wp2_with (first
      |(go_at_call 103;with_reducible refine (HC.out _).mono ?_;rintro e w1 ⟨rfl,hw⟩;rw [hw];clear hw)
      |(go_at_call 102;with_reducible refine (HH.out _).mono ?_;rintro e w2 ⟨rfl,hb⟩
        obtain ⟨c0,c1,c2,c3,c4,z0,z1,z2,z3,z4⟩:=HCC.out.below HG.out hb
        have HB:=Lib.hid (Base.below_step HWW.out hb);clear hb))
     obtain ⟨W,hW,⟨d0,d1,d2,d3,d4,_,_,_,_,_⟩,hbW⟩:=Tgb.put ⟨c0,c1,c2,c3,c4,z0,z1,z2,z3,z4⟩ HB.out (Nat.le_refl _) 3 s E0 E0 false;rw [hW];exact bodyPost_ret (v:=.tuple #[tv 3 s E0 E0 false,.int .i64 0]) (by simp [results,Tryz.results89,go_sem,d0,d1,d2,d3,d4]) rfl ⟨rfl,hbW⟩
set_option maxRecDepth 10000 in
theorem rtarget_any (m s:ByteArray) (w:World) (hs:s.size≤900000000) :
 Calls Tryz.prog 89 #[.string m,.string s] w fun e w'=>e=.returned (ans (parse m.data.toList s.data.toList))∧Below w.heap.size w w':=by
 by_cases hm:m.data.toList=connect
 ·exact rtarget_connect m s w hs hm
 obtain ⟨t1,t2⟩:=eq_facts m [67,79,78,78,69,67,84] false (decide_eq_false hm);by_cases ho:m.data.toList=options∧s.data.toList= [42]
 ·obtain ⟨t3,t4⟩:=eq_facts m [79,80,84,73,79,78,83] true (decide_eq_true ho.1)
  obtain ⟨t5,t6⟩:=eq_facts s [42] true (decide_eq_true ho.2);rw [parse,if_neg hm,if_pos ho];clear ho hm;go_enter Tryz.func89,Tryz.ntmps89;go_wp2_with fail;exact bodyPost_ret (v:=.tuple #[tv 4 E0 E0 E0 false,.int .i64 0]) (by simp [results,Tryz.results89,go_sem]) rfl ⟨rfl,(Below.refl _ _).alloc (Nat.le_refl _) _⟩
 obtain ⟨R,hR⟩:∃R,parse m.data.toList s.data.toList=R:=⟨_,rfl⟩;rw [hR];rw [parse_alt hm ho] at hR;have HR:=Lib.hid hR;have hno:((m.toList == [79,80,84,73,79,78,83])=false∧(m.toList==(ByteArray.mk #[79,80,84,73,79,78,83]).toList)=false)∨((m.toList == [79,80,84,73,79,78,83])=true∧(m.toList==(ByteArray.mk #[79,80,84,73,79,78,83]).toList)=true∧(s.toList == [42])=false∧(s.toList==(ByteArray.mk #[42]).toList)=false):=by
  by_cases h1:m.data.toList=options
  ·obtain ⟨t3,t4⟩:=eq_facts m [79,80,84,73,79,78,83] true (decide_eq_true h1)
   obtain ⟨t5,t6⟩:=eq_facts s [42] false (decide_eq_false fun e=>ho ⟨h1,e⟩);exact .inr ⟨t3,t4,t5,t6⟩
  ·obtain ⟨t3,t4⟩:=eq_facts m [79,80,84,73,79,78,83] false (decide_eq_false h1);exact .inl ⟨t3,t4⟩
 have HNO:=Lib.hid hno;clear ho hm hR hno;have hcc:=Tgb.new w 127 0 E0 E0 E0 false;have hww:Below w.heap.size w (w.alloc (.cells #[.int .i64 0,.string E0,.string E0,.string E0,.bool false] 127)):=(Below.refl _ _).alloc (Nat.le_refl _) _;have hgg:w.heap.size<(w.alloc (.cells #[.int .i64 0,.string E0,.string E0,.string E0,.bool false] 127)).heap.size:=by simp
 go_enter Tryz.func89,Tryz.ntmps89;go_upto_region 5 with fail
 generalize w.alloc (.cells #[.int .i64 0,.string E0,.string E0,.string E0,.bool false] 127)=W at *;have HCC:=Lib.hid hcc;have HWW:=Lib.hid hww;have HG:=Lib.hid hgg;clear hcc hww hgg
 go_cut [29] from 24 (fun v wx=>v=.bool false∧wx=W)
 case first=>
  rcases HNO.out with ⟨t3,t4⟩ | ⟨t3,t4,t5,t6⟩;all_goals
   go_wp2_with fail;go_meet
   case rel=>exact ⟨rfl,rfl⟩
 case rest=>
  obtain ⟨rfl,hw0⟩:=hcut;rw [hw0];clear hw0 HNO;go_upto_region 8 with fail
  go_cut [38] from 31 (fun v wx=>v=.bool (schemed s.data.toList)∧Hid (Below W.heap.size W wx))
  case first=>
   by_cases h7:7≤s.size
   ·have q7:(7:Int)≤(s.size:Int):=by omega
    have x1:(s.extract 0 7).data.toList=s.data.toList.take 7:=by rw [Lib.extract_data];simp
    have hx1:(s.extract 0 7).size≤1000:=by rw [←len,x1,List.length_take];omega
    have HM:=Lib.hid (fun w=>Txt.rsame_any (s.extract 0 7) ⟨#[104,116,116,112,58,47,47]⟩ w (by omega) (by decide));have hsm:same (s.extract 0 7) ⟨#[104,116,116,112,58,47,47]⟩=schemed s.data.toList:=by unfold same schemed;rw [x1,len,decide_eq_true h7];rfl
    rw [hsm] at HM;clear x1 hx1 hsm h7 HR;generalize schemed s.data.toList=sc at *
    go_wp2_with (go_at_call 104;with_reducible refine (HM.out _).mono ?_;rintro e w2 ⟨rfl,hb⟩);go_meet
    case rel=>exact ⟨rfl,Lib.hid hb⟩
   ·have q7:¬(7:Int)≤(s.size:Int):=by omega
    have hsc:schemed s.data.toList=false:=by unfold schemed;rw [len,decide_eq_false h7,Bool.false_and]
    have HSC:=Lib.hid hsc;clear hsc h7;go_wp2_with fail;go_meet
    case rel=>exact ⟨by rw [HSC.out],Lib.hid (Below.refl _ _)⟩
  case rest=>
   obtain ⟨rfl,hbc⟩:=hcut
   have H1:=Lib.hid (HCC.out.below HG.out hbc.out)
   have HB1:=Lib.hid (Base.below_step HWW.out hbc.out)
   have HG1:=Lib.hid (Nat.lt_of_lt_of_le HG.out hbc.out.size);clear HCC HWW HG hbc;go_upto_if 38 with fail
   go_cut [1,6,7] from 8 (fun v1 v6 v7 wx=>∃(F:Nat) (HO SS:List UInt8),v1=.string (ba SS)∧v6=.int .i64 F∧v7=.string (ba HO)∧SS.length≤1000000000∧Hid (relabel F HO (origin SS)=R)∧Hid (Below wc.heap.size wc wx))
   case first=>
    cases hsc:schemed s.data.toList with
    | false=>
      rw [hsc,if_neg (by decide),origin_relabel] at HR;clear hsc;go_wp2_with fail;go_meet
      case rel=>exact ⟨1,[],s.data.toList,rfl,rfl,rfl,by rw [len];omega,HR,Lib.hid (Below.refl _ _)⟩
    | true=>
      rw [hsc,if_pos rfl] at HR;have hs7:7≤s.size:=by unfold schemed at hsc;rw [Bool.and_eq_true,decide_eq_true_eq,len] at hsc;exact hsc.1
      clear hsc;go_wp2_with fail
      go_loop [8] (fun i=>∃k:Nat,7≤k∧k≤s.size∧i=.int .i64 k∧Hid (∀x∈(s.data.toList.drop 7).take (k-7),ended x=false)) (fun i=>s.size-(intOf i).toNat)
      case atStart=>exact ⟨7,Nat.le_refl _,hs7,rfl,Lib.hid (by simp)⟩
      case round=>
       obtain ⟨k,hlk,hle,rfl,hall⟩:=hrel;rcases Nat.lt_or_ge k s.size with hlt | hge
       ·have i1:(k:Int)<(s.size:Int):=by omega
        have hkl:k<s.data.toList.length:=by rw [len];exact hlt
        obtain ⟨c,hck⟩:∃c,s.data.toList[k]=c:=⟨_,rfl⟩;have hxk:∀h,s[k]'h=c:=fun _=>hck;have hdl:k-7<(s.data.toList.drop 7).length:=by rw [List.length_drop,len];omega
        have hdk:(s.data.toList.drop 7)[k-7]=c:=by
         rw [List.getElem_drop,←hck]
         congr 1
         omega
        by_cases h47:c=47
        ·have t47:((c.toNat:Int) != 47)=false:=by rw [h47];rfl
         have hstop:(s.data.toList.drop 7).length≤k-7∨∃h:k-7<(s.data.toList.drop 7).length,ended (s.data.toList.drop 7)[k-7]=true:=.inr ⟨hdl,by rw [hdk,h47];rfl⟩;clear hdl hdk;have j7:(7:Int)≤(k:Int):=by omega
         have jk:(k:Int)≤(s.size:Int):=by omega
         obtain ⟨g1,g2⟩:=host_stop (s.data.toList.drop 7) (k-7) hall.out hstop;rw [List.drop_drop,show 7+(k-7)=k by omega] at g2
         have hx:s.extract 7 k=ba (hostOf (s.data.toList.drop 7)):=ba_ext (by rw [Lib.extract_data,g1];rfl)
         have hy:s.extract k s.size=ba (restOf (s.data.toList.drop 7)):=ba_ext (by rw [drop_ext,g2];rfl)
         have HHo:=Lib.hid (fun w=>rhost_any (s.extract 7 k) w (by rw [hx,ba_size];have:=hostOf_le (s.data.toList.drop 7);rw [List.length_drop,len] at this;omega));rw [hx,ba_list] at HHo
         have hlen:=slashed_le (restOf (s.data.toList.drop 7))
         have hrl:=restOf_le (s.data.toList.drop 7);rw [List.length_drop,len] at hrl
         have HLEN:=Lib.hid (show (slashed (restOf (s.data.toList.drop 7))).length≤1000000000 by omega);have hre:restOf (s.data.toList.drop 7)=47::s.data.toList.drop (k+1):=by rw [g2,List.drop_eq_getElem_cons hkl,hck,h47]
         have hemp:(s.extract k s.size).toList.isEmpty=false:=by rw [hy];exact full_of hre
         have hpos:(0:Int)<((s.extract k s.size).size:Int):=by rw [hy,ba_size,hre,List.length_cons];omega
         have hat:∀h,(s.extract k s.size)[0]'h=47:=fun h=>at_zero (by rw [hy];exact hre) h;have hsl:s.extract k s.size=ba (slashed (restOf (s.data.toList.drop 7))):=by rw [hy,hre];rfl
         have HX:=Lib.hid hx;have HSL:=Lib.hid hsl;clear hx hy hsl hre g1 g2 hlen hrl hstop hall hck hkl h47;cases hh:hostB (hostOf (s.data.toList.drop 7)) with
         | false=>
           rw [hh] at HHo
           have HN:Hid (none=R):=Lib.hid (by rw [←HR.out,absolute_none _ hh]);clear hh HR;go_wp2_with fail
           go_quiet (fail);rename_i nq;generalize s.extract k s.size=X at *;generalize s.extract 7 k=Y at *
           have HH2:Hid (∀w,Calls Tryz.prog 102 #[.string Y] w fun e w'=>e=.returned (.bool false)∧Below w.heap.size w w'):=Lib.hid (by rw [HX.out];exact HHo.out)
           have hbq:=Lib.hid (Base.below_drewN (Below.refl wc.heap.size wc) nq);generalize wc.drewN nq=wq at *
           go_wp2_with (go_at_call 102;with_reducible refine (HH2.out _).mono ?_;rintro e w2 ⟨rfl,hb⟩
                        have hb':=Base.below_step hbq.out hb;obtain ⟨c0,c1,c2,c3,c4,z0,z1,z2,z3,z4⟩:=H1.out.below HG1.out hb'
                        have HB:=Lib.hid (Base.below_step HB1.out hb');clear hb hb')
           obtain ⟨W9,hW,⟨d0,d1,d2,d3,d4,_,_,_,_,_⟩,hbW⟩:=Tgb.put ⟨c0,c1,c2,c3,c4,z0,z1,z2,z3,z4⟩ HB.out (Nat.le_refl _) 0 E0 E0 E0 false;rw [hW];exact bodyPost_ret (v:=.tuple #[tv 0 E0 E0 E0 false,.int .i64 400]) (by simp [results,Tryz.results89,go_sem,d0,d1,d2,d3,d4]) rfl ⟨by rw [←HN.out];rfl,hbW⟩
         | true=>
           rw [hh] at HHo
           have HRR:Hid (relabel 2 (hostOf (s.data.toList.drop 7)) (origin (slashed (restOf (s.data.toList.drop 7))))=R):=Lib.hid (by rw [←HR.out,absolute_relabel _ hh]);clear hh HR;go_wp2_with fail
           go_quiet (fail);rename_i nq;generalize s.extract k s.size=X at *;generalize s.extract 7 k=Y at *
           have HH2:Hid (∀w,Calls Tryz.prog 102 #[.string Y] w fun e w'=>e=.returned (.bool true)∧Below w.heap.size w w'):=Lib.hid (by rw [HX.out];exact HHo.out)
           have hbq:=Lib.hid (Base.below_drewN (Below.refl wc.heap.size wc) nq);generalize wc.drewN nq=wq at *
           go_wp2_with (go_at_call 102;with_reducible refine (HH2.out _).mono ?_;rintro e w2 ⟨rfl,hb⟩
                        have HBH:=Lib.hid (Base.below_step hbq.out hb);clear hb)
           go_meet
           case rel=>exact ⟨2,hostOf (s.data.toList.drop 7),slashed (restOf (s.data.toList.drop 7)),by rw [HSL.out],rfl,by rw [HX.out],HLEN.out,HRR,HBH⟩
        ·have t47:((c.toNat:Int) != 47)=true:=bne_iff_ne.2 fun e=>h47 (UInt8.toNat_inj.1 (by show c.toNat=47;omega));by_cases h63:c=63
         ·have t63:((c.toNat:Int) != 63)=false:=by rw [h63];rfl
          have hstop:(s.data.toList.drop 7).length≤k-7∨∃h:k-7<(s.data.toList.drop 7).length,ended (s.data.toList.drop 7)[k-7]=true:=.inr ⟨hdl,by rw [hdk,h63];rfl⟩;clear hdl hdk;have j7:(7:Int)≤(k:Int):=by omega
          have jk:(k:Int)≤(s.size:Int):=by omega
          obtain ⟨g1,g2⟩:=host_stop (s.data.toList.drop 7) (k-7) hall.out hstop;rw [List.drop_drop,show 7+(k-7)=k by omega] at g2
          have hx:s.extract 7 k=ba (hostOf (s.data.toList.drop 7)):=ba_ext (by rw [Lib.extract_data,g1];rfl)
          have hy:s.extract k s.size=ba (restOf (s.data.toList.drop 7)):=ba_ext (by rw [drop_ext,g2];rfl)
          have HHo:=Lib.hid (fun w=>rhost_any (s.extract 7 k) w (by rw [hx,ba_size];have:=hostOf_le (s.data.toList.drop 7);rw [List.length_drop,len] at this;omega));rw [hx,ba_list] at HHo
          have hlen:=slashed_le (restOf (s.data.toList.drop 7))
          have hrl:=restOf_le (s.data.toList.drop 7);rw [List.length_drop,len] at hrl
          have HLEN:=Lib.hid (show (slashed (restOf (s.data.toList.drop 7))).length≤1000000000 by omega);have hre:restOf (s.data.toList.drop 7)=63::s.data.toList.drop (k+1):=by rw [g2,List.drop_eq_getElem_cons hkl,hck,h63]
          have hemp:(s.extract k s.size).toList.isEmpty=false:=by rw [hy];exact full_of hre
          have hpos:(0:Int)<((s.extract k s.size).size:Int):=by rw [hy,ba_size,hre,List.length_cons];omega
          have hat:∀h,(s.extract k s.size)[0]'h=63:=fun h=>at_zero (by rw [hy];exact hre) h
          have hsl:(⟨#[47]⟩:ByteArray)++s.extract k s.size=ba (slashed (restOf (s.data.toList.drop 7))):=by rw [hy,hre];exact ba_ext (by simp [ba,slashed])
          have hv:¬9223372036854775807<1+(s.extract k s.size).size:=by rw [hy,ba_size];omega
          have HX:=Lib.hid hx;have HSL:=Lib.hid hsl;clear hx hy hsl hre g1 g2 hlen hrl hstop hall hck hkl h63 h47;cases hh:hostB (hostOf (s.data.toList.drop 7)) with
          | false=>
            rw [hh] at HHo
            have HN:Hid (none=R):=Lib.hid (by rw [←HR.out,absolute_none _ hh]);clear hh HR;go_wp2_with fail
            go_quiet (fail);rename_i nq;generalize s.extract k s.size=X at *;generalize s.extract 7 k=Y at *
            have HH2:Hid (∀w,Calls Tryz.prog 102 #[.string Y] w fun e w'=>e=.returned (.bool false)∧Below w.heap.size w w'):=Lib.hid (by rw [HX.out];exact HHo.out)
            have hbq:=Lib.hid (Base.below_drewN (Below.refl wc.heap.size wc) nq);generalize wc.drewN nq=wq at *
            go_wp2_with (go_at_call 102;with_reducible refine (HH2.out _).mono ?_;rintro e w2 ⟨rfl,hb⟩
                         have hb':=Base.below_step hbq.out hb;obtain ⟨c0,c1,c2,c3,c4,z0,z1,z2,z3,z4⟩:=H1.out.below HG1.out hb'
                         have HB:=Lib.hid (Base.below_step HB1.out hb');clear hb hb')
            obtain ⟨W9,hW,⟨d0,d1,d2,d3,d4,_,_,_,_,_⟩,hbW⟩:=Tgb.put ⟨c0,c1,c2,c3,c4,z0,z1,z2,z3,z4⟩ HB.out (Nat.le_refl _) 0 E0 E0 E0 false;rw [hW];exact bodyPost_ret (v:=.tuple #[tv 0 E0 E0 E0 false,.int .i64 400]) (by simp [results,Tryz.results89,go_sem,d0,d1,d2,d3,d4]) rfl ⟨by rw [←HN.out];rfl,hbW⟩
          | true=>
            rw [hh] at HHo
            have HRR:Hid (relabel 2 (hostOf (s.data.toList.drop 7)) (origin (slashed (restOf (s.data.toList.drop 7))))=R):=Lib.hid (by rw [←HR.out,absolute_relabel _ hh]);clear hh HR;go_wp2_with fail
            go_quiet (fail);rename_i nq;generalize s.extract k s.size=X at *;generalize s.extract 7 k=Y at *
            have HH2:Hid (∀w,Calls Tryz.prog 102 #[.string Y] w fun e w'=>e=.returned (.bool true)∧Below w.heap.size w w'):=Lib.hid (by rw [HX.out];exact HHo.out)
            have hbq:=Lib.hid (Base.below_drewN (Below.refl wc.heap.size wc) nq);generalize wc.drewN nq=wq at *
            go_wp2_with (go_at_call 102;with_reducible refine (HH2.out _).mono ?_;rintro e w2 ⟨rfl,hb⟩
                         have HBH:=Lib.hid (Base.below_step hbq.out hb);clear hb)
            go_meet
            case rel=>exact ⟨2,hostOf (s.data.toList.drop 7),slashed (restOf (s.data.toList.drop 7)),by rw [HSL.out],rfl,by rw [HX.out],HLEN.out,HRR,HBH⟩
         ·have t63:((c.toNat:Int) != 63)=true:=bne_iff_ne.2 fun e=>h63 (UInt8.toNat_inj.1 (by show c.toNat=63;omega))
          have HN:Hid (∀x∈(s.data.toList.drop 7).take (k+1-7),ended x=false):=Lib.hid (by
           rw [show k+1-7=(k-7)+1 by omega,List.take_succ_eq_append_getElem hdl,hdk];intro x hx;rcases List.mem_append.1 hx with hx | hx
           ·exact hall.out x hx
           ·obtain rfl:x=c:=by simpa using hx
            simp [ended,h47,h63])
          clear h47 h63 hdl hdk hck hkl hall;go_wp2_with fail;go_round
          case rel=>exact ⟨k+1,by omega,by omega,by go_num,HN⟩
          case measure=>simp [intOf];omega
       ·have i1:¬(k:Int)<(s.size:Int):=by omega
        have hstop:(s.data.toList.drop 7).length≤k-7∨∃h:k-7<(s.data.toList.drop 7).length,ended (s.data.toList.drop 7)[k-7]=true:=.inl (by rw [List.length_drop,len];omega);have j7:(7:Int)≤(k:Int):=by omega
        have jk:(k:Int)≤(s.size:Int):=by omega
        obtain ⟨g1,g2⟩:=host_stop (s.data.toList.drop 7) (k-7) hall.out hstop;rw [List.drop_drop,show 7+(k-7)=k by omega] at g2
        have hx:s.extract 7 k=ba (hostOf (s.data.toList.drop 7)):=ba_ext (by rw [Lib.extract_data,g1];rfl)
        have hy:s.extract k s.size=ba (restOf (s.data.toList.drop 7)):=ba_ext (by rw [drop_ext,g2];rfl)
        have HHo:=Lib.hid (fun w=>rhost_any (s.extract 7 k) w (by rw [hx,ba_size];have:=hostOf_le (s.data.toList.drop 7);rw [List.length_drop,len] at this;omega));rw [hx,ba_list] at HHo
        have hlen:=slashed_le (restOf (s.data.toList.drop 7))
        have hrl:=restOf_le (s.data.toList.drop 7);rw [List.length_drop,len] at hrl
        have HLEN:=Lib.hid (show (slashed (restOf (s.data.toList.drop 7))).length≤1000000000 by omega)
        have hre:restOf (s.data.toList.drop 7)= []:=by rw [g2];exact List.drop_eq_nil_of_le (by rw [len];omega)
        have hemp:(s.extract k s.size).toList.isEmpty=true:=by rw [hy,hre];exact empty_of rfl
        have hsl:(⟨#[47]⟩:ByteArray)++s.extract k s.size=ba (slashed (restOf (s.data.toList.drop 7))):=by rw [hy,hre];exact ba_ext (by simp [ba,slashed])
        have hv:¬9223372036854775807<1+(s.extract k s.size).size:=by rw [hy,ba_size];omega
        have HX:=Lib.hid hx;have HSL:=Lib.hid hsl;clear hx hy hsl hre g1 g2 hlen hrl hstop hall;cases hh:hostB (hostOf (s.data.toList.drop 7)) with
        | false=>
          rw [hh] at HHo
          have HN:Hid (none=R):=Lib.hid (by rw [←HR.out,absolute_none _ hh]);clear hh HR;go_wp2_with fail
          go_quiet (fail);rename_i nq;generalize s.extract k s.size=X at *;generalize s.extract 7 k=Y at *
          have HH2:Hid (∀w,Calls Tryz.prog 102 #[.string Y] w fun e w'=>e=.returned (.bool false)∧Below w.heap.size w w'):=Lib.hid (by rw [HX.out];exact HHo.out)
          have hbq:=Lib.hid (Base.below_drewN (Below.refl wc.heap.size wc) nq);generalize wc.drewN nq=wq at *
          go_wp2_with (go_at_call 102;with_reducible refine (HH2.out _).mono ?_;rintro e w2 ⟨rfl,hb⟩
                       have hb':=Base.below_step hbq.out hb;obtain ⟨c0,c1,c2,c3,c4,z0,z1,z2,z3,z4⟩:=H1.out.below HG1.out hb'
                       have HB:=Lib.hid (Base.below_step HB1.out hb');clear hb hb')
          obtain ⟨W9,hW,⟨d0,d1,d2,d3,d4,_,_,_,_,_⟩,hbW⟩:=Tgb.put ⟨c0,c1,c2,c3,c4,z0,z1,z2,z3,z4⟩ HB.out (Nat.le_refl _) 0 E0 E0 E0 false;rw [hW];exact bodyPost_ret (v:=.tuple #[tv 0 E0 E0 E0 false,.int .i64 400]) (by simp [results,Tryz.results89,go_sem,d0,d1,d2,d3,d4]) rfl ⟨by rw [←HN.out];rfl,hbW⟩
        | true=>
          rw [hh] at HHo
          have HRR:Hid (relabel 2 (hostOf (s.data.toList.drop 7)) (origin (slashed (restOf (s.data.toList.drop 7))))=R):=Lib.hid (by rw [←HR.out,absolute_relabel _ hh]);clear hh HR;go_wp2_with fail
          go_quiet (fail);rename_i nq;generalize s.extract k s.size=X at *;generalize s.extract 7 k=Y at *
          have HH2:Hid (∀w,Calls Tryz.prog 102 #[.string Y] w fun e w'=>e=.returned (.bool true)∧Below w.heap.size w w'):=Lib.hid (by rw [HX.out];exact HHo.out)
          have hbq:=Lib.hid (Base.below_drewN (Below.refl wc.heap.size wc) nq);generalize wc.drewN nq=wq at *
          go_wp2_with (go_at_call 102;with_reducible refine (HH2.out _).mono ?_;rintro e w2 ⟨rfl,hb⟩
                       have HBH:=Lib.hid (Base.below_step hbq.out hb);clear hb)
          go_meet
          case rel=>exact ⟨2,hostOf (s.data.toList.drop 7),slashed (restOf (s.data.toList.drop 7)),by rw [HSL.out],rfl,by rw [HX.out],HLEN.out,HRR,HBH⟩
   case rest=>
    obtain ⟨F,HO,SS,rfl,rfl,rfl,hSS,hRR,hbc⟩:=hcut
    have H2:=Lib.hid (H1.out.below HG1.out hbc.out)
    have HB2:=Lib.hid (Base.below_step HB1.out hbc.out)
    have HG2:=Lib.hid (Nat.lt_of_lt_of_le HG1.out hbc.out.size);clear H1 HB1 HG1 hbc HR
    have HOR:=Lib.hid (fun w=>rorigin_any (ba SS) w (by rw [ba_size];omega));rw [ba_list] at HOR;have hor:origin SS=if (pathB (cutAt 63 SS).1&&queryB (cutAt 63 SS).2.1)=true then some ⟨1,[],(cutAt 63 SS).1,(cutAt 63 SS).2.1,(cutAt 63 SS).2.2⟩ else none:=rfl
    rw [hor] at hRR;clear hor;generalize (cutAt 63 SS).1=p at *;generalize (cutAt 63 SS).2.1=q at *;generalize (cutAt 63 SS).2.2=bb at *;cases hk:(pathB p&&queryB q) with
    | false=>
      rw [hk] at HOR hRR;have HN:Hid (none=R):=hRR;clear hk hRR
      go_upto_if 82 with (go_at_call 105;with_reducible refine (HOR.out _).mono ?_;rintro e w2 ⟨rfl,hb⟩)
      have hb3:Below wc.heap.size wc (w2.alloc (.cells #[.int .i64 0,.string E0,.string (ba p),.string (ba q),.bool bb] 127)):=hb.alloc hb.size _;generalize w2.alloc (.cells #[.int .i64 0,.string E0,.string (ba p),.string (ba q),.bool bb] 127)=W3 at *;obtain ⟨c0,c1,c2,c3,c4,z0,z1,z2,z3,z4⟩:=H2.out.below HG2.out hb3
      have HB:=Lib.hid (Base.below_step HB2.out hb3);clear hb hb3 H2 HB2 HG2;go_wp2_with fail;obtain ⟨W9,hW,⟨d0,d1,d2,d3,d4,_,_,_,_,_⟩,hbW⟩:=Tgb.put ⟨c0,c1,c2,c3,c4,z0,z1,z2,z3,z4⟩ HB.out (Nat.le_refl _) 0 E0 E0 E0 false;rw [hW];exact bodyPost_ret (v:=.tuple #[tv 0 E0 E0 E0 false,.int .i64 400]) (by simp [results,Tryz.results89,go_sem,d0,d1,d2,d3,d4]) rfl ⟨by rw [←HN.out];rfl,hbW⟩
    | true=>
      rw [hk] at HOR hRR;have HN:Hid (some ⟨F,HO,p,q,bb⟩=R):=hRR;clear hk hRR
      go_upto_if 82 with (go_at_call 105;with_reducible refine (HOR.out _).mono ?_;rintro e w2 ⟨rfl,hb⟩)
      have HT5:=Lib.hid (Tgb.new w2 127 0 E0 (ba p) (ba q) bb);have hb3:Below wc.heap.size wc (w2.alloc (.cells #[.int .i64 0,.string E0,.string (ba p),.string (ba q),.bool bb] 127)):=hb.alloc hb.size _;have hne:w.heap.size<w2.heap.size:=Nat.lt_of_lt_of_le HG2.out hb.size;generalize w2.alloc (.cells #[.int .i64 0,.string E0,.string (ba p),.string (ba q),.bool bb] 127)=W3 at *;obtain ⟨c0,c1,c2,c3,c4,z0,z1,z2,z3,z4⟩:=H2.out.below HG2.out hb3;obtain ⟨a0,a1,a2,a3,a4,y0,y1,y2,y3,y4⟩:=HT5.out
      have HB:=Lib.hid (Base.below_step HB2.out hb3);clear hb hb3 H2 HB2 HG2 HT5;have n1:¬w.heap.size=w2.heap.size:=by omega
      have n2:¬w2.heap.size=w.heap.size:=by omega
      generalize w2.heap.size=g7 at *;go_wp2_with fail
      have hB5:=(HB.out.setCell (p:=⟨g7,0,none⟩) (Nat.le_of_lt hne) (.int .i64 F)).setCell (p:=⟨g7,1,none⟩) (Nat.le_of_lt hne) (.string (ba HO));obtain ⟨W9,hW,⟨d0,d1,d2,d3,d4,_,_,_,_,_⟩,hbW⟩:=Tgb.put (((Tgb.mk c0 c1 c2 c3 c4 z0 z1 z2 z3 z4).other g7 0 (.int .i64 F) n2).other g7 1 (.string (ba HO)) n2) hB5 (Nat.le_refl _) F (ba HO) (ba p) (ba q) bb;rw [hW];exact bodyPost_ret (v:=.tuple #[tv F (ba HO) (ba p) (ba q) bb,.int .i64 0]) (by simp [results,Tryz.results89,go_sem,d0,d1,d2,d3,d4]) rfl ⟨by rw [←HN.out];rfl,hbW⟩
end code
end Go.Proofs.YtimoakmcelocfaaGreat.Tgt
