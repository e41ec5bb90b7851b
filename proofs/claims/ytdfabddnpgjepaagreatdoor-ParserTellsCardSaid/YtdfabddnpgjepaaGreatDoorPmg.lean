import Derived.Test.YtdfabddnpgjepaaGreatDoorPmf
set_option linter.unusedSimpArgs false
open Array renaming getD_eq_getD_getElem?→Ag
open Bool renaming and_eq_true→Ao,false_and→Av,not_eq_true'→Ay,or_eq_true→Az,true_and→A5
open ByteArray renaming empty→A8
open Go.Act renaming put→Ab
open Go.Lib renaming extract_data→Bu,hid→Bx,toList_data→B9
open Go.Proofs.Tryz renaming prog→EW
open Go.Proofs.YtdfabddnpgjepaaGreatDoor.Base renaming below_drewN→Ak,below_step→Al,some_undef→Am
open Go.Proofs.YtdfabddnpgjepaaGreatDoor.Each renaming Goes→AF,fine→AP,putg→AU
open Go.Proofs.YtdfabddnpgjepaaGreatDoor.Each.Goes renaming enter→AG
open Go.Proofs.YtdfabddnpgjepaaGreatDoor.Each.Lasts renaming eq→AK
open Go.Proofs.YtdfabddnpgjepaaGreatDoor.Ln renaming own_slice→CT
open Go.Proofs.YtdfabddnpgjepaaGreatDoor.Par.Step renaming of_below→DP,set→DS
open Go.Proofs.YtdfabddnpgjepaaGreatDoor.Qk renaming has→D0,rhas_any→D4
open Go.Proofs.YtdfabddnpgjepaaGreatDoor.Rec renaming Bk→D5
open Go.Proofs.YtdfabddnpgjepaaGreatDoor.Rec.Bk renaming new→D6
open Go.Proofs.YtdfabddnpgjepaaGreatDoor.Tree renaming change→Ec,done→Ed,grow→Ee,put1→Ef,quiet→Eg
open Go.RowKit.Below renaming refl→An
open List renaming drop_eq_getElem_cons→BQ,eq_nil_of_length_eq_zero→BT,getElem?_cons_succ→BY,getElem?_cons_zero→BZ,getElem?_eq_getElem→Ca,getElem?_map→Cd,getElem?_toArray→Cg,getElem_mem→Ci,length_drop→Cu,length_map→Cw,length_take→C0,mem_append→C3,mem_cons→C6,mem_singleton→CB,setIfInBounds_toArray→CH,set_cons_succ→CJ,set_cons_zero→CK,take_of_length_le→CN,take_succ_eq_append_getElem→CO
open Nat renaming eq_zero_or_pos→CZ,le_of_lt→Da,le_refl→Db,le_succ→Dc,le_trans→Dd,lt_of_lt_of_le→Df,lt_or_ge→Dg,zero_le→Dj
open Option renaming getD_some→Ds,some→Du
open UInt8 renaming toNat_inj→FM
open Go.Value renaming int→ZZ,string→ZY,slice→ZX,bool→ZW,pointer→ZV,agg→ZU,tuple→ZT
open Go.IntKind renaming i64→ZS,u8→ZR,u32→ZQ
namespace Go.Proofs.YtdfabddnpgjepaaGreatDoor.Tgt
open Go.RowKit Base Oct Num Txt
theorem host_parts (l:List UInt8):hostB l=match parts 58 l with
 | [n]=>nameOk n
 | [n,p]=>nameOk n&&portOk p
 | _=>false:=by
 unfold hostB;rcases cut_cases 58 l with h | ⟨a,r,rfl,h⟩
 ·rw [cutAt_none 58 l h,parts_none 58 l h];simp
 ·rw [cutAt_app 58 a r h,parts_cut 58 a r h];simp only [Bool.not_true,Bool.false_or];rcases cut_cases 58 r with h2 | ⟨b,r2,rfl,h2⟩
  ·rw [parts_none 58 r h2]
  ·rw [parts_cut 58 b r2 h2];have:portOk (b++58::r2)=false:=by
    cases hp:portOk (b++58::r2) with
    | false=>rfl
    | true=>exact absurd (by simp) (port_no_colon hp)
   rw [this,Bool.and_false];cases hq:parts 58 r2 with
   | nil=>
     have:=parts_length 58 r2;rw [hq] at this;simp at this
   | cons x xs=>rfl
theorem parts_form (c:UInt8) (l:List UInt8):(∃n,parts c l= [n])∨(∃n p,parts c l= [n,p])∨∃n p x xs,parts c l=n::p::x::xs:=by
 cases h:parts c l with
 | nil=>
   have:=parts_length c l;rw [h] at this;simp at this
 | cons n t=>
   match t with
   | []=>exact .inl ⟨n,rfl⟩
   | [p]=>exact .inr (.inl ⟨n,p,rfl⟩)
   | p::x::xs=>exact .inr (.inr ⟨n,p,x,xs,rfl⟩)
theorem parts_bound (c:UInt8):∀(l:List UInt8),∀p∈parts c l,p.length<=l.length
 | [],p,h=>by simp [parts] at h;subst h;simp
 | b::l,p,h=>by
   rw [parts] at h;have ih:=parts_bound c l;split at h
   ·rcases C6.1 h with rfl | h
    ·simp
    ·have:=ih p h;simp;omega
   ·cases hq:parts c l with
    | nil=>rw [hq] at h;simp at h;subst h;simp
    | cons y ys=>
      rw [hq] at h ih;rcases C6.1 h with rfl | h
      ·have:=ih y (by simp);simp;omega
      ·have:=ih p (by simp [h]);simp;omega
theorem name_ways (x:UInt8):(plainB nameMarks x=true/\(Oct.letter (x.toNat:Int)=true∨(Oct.letter (x.toNat:Int)=false/\Oct.digit (x.toNat:Int)=true)∨(Oct.letter (x.toNat:Int)=false/\Oct.digit (x.toNat:Int)=false/\((x.toNat:Int)=45∨(x.toNat:Int)=46∨(x.toNat:Int)=95∨(x.toNat:Int)=126))))∨
 (plainB nameMarks x=false/\Oct.letter (x.toNat:Int)=false/\Oct.digit (x.toNat:Int)=false/\¬(x.toNat:Int)=45/\¬(x.toNat:Int)=46/\¬(x.toNat:Int)=95/\¬(x.toNat:Int)=126):=by
 have hc:nameMarks.contains x=true↔((x.toNat:Int)=45∨(x.toNat:Int)=46∨(x.toNat:Int)=95∨(x.toNat:Int)=126):=by have e:∀k:UInt8,x=k↔(x.toNat:Int)=(k.toNat:Int):=λk=>⟨λh=>by rw [h],λh=>FM.1 (by omega)⟩;simp only [nameMarks,List.contains_cons,List.contains_nil,Bool.or_false,Az,beq_iff_eq];rw [e 45,e 46,e 95,e 126];rfl
 unfold plainB;cases hl:Oct.letter (x.toNat:Int) with
 | true=>exact .inl ⟨rfl,.inl rfl⟩
 | false=>
   cases hd:Oct.digit (x.toNat:Int) with
   | true=>exact .inl ⟨rfl,.inr (.inl ⟨rfl,rfl⟩)⟩
   | false=>
     cases hm:nameMarks.contains x with
     | true=>exact .inl ⟨rfl,.inr (.inr ⟨rfl,rfl,hc.1 hm⟩)⟩
     | false=>
       refine .inr ⟨rfl,rfl,rfl,?_,?_,?_,?_⟩<;> (intro h;have:=hc.2 (by simp [h]);rw [hm] at this;cases this)
section
set_option maxHeartbeats 1000000
attribute [local go_sem] Am
theorem XXodb {P:Prop} (h:P:=by
 subst hRf;generalize ba n=N at *;go_enter Tryz.func230,Tryz.ntmps230
 go_wp2_with (go_at_call 166;with_reducible refine (HS.out _).mono ?_;rintro e w1 ⟨bl,off,m,cp,rfl,hbl,hb,hc0,hm⟩
              have t1:¬(2:Int)<(m:Int):=by rcases hm with ⟨rfl,_⟩ | ⟨rfl,_⟩<;>omega
              have t2:(0:Int)<(m:Int):=by rcases hm with ⟨rfl,_⟩ | ⟨rfl,_⟩<;>omega
              clear hm)
 go_ret
 exact ⟨rfl,hb⟩):P:=h
theorem XXds3 {P:Prop} (h:P:=by
 go_wp2_with (first
  |(go_at_call 218;with_reducible refine Cm (HL.out _) ?_)
  |(go_at_call 198;with_reducible refine Cm (HD.out _) ?_))
 go_round
 case rel=>exact ⟨k+1,by omega,by go_num,HNX⟩
 case measure=>simp [intOf];omega):P:=h
theorem rhost_core (s:ByteArray) (n:List UInt8) (T:Bool) (w:World) (hn:n.length<=1000000000)
 (hS:∀w,Calls EW 166 #[ZY s,ZZ ZR 58] w λe w'=>∃bl off m cp,e=.returned (ZX (some ⟨bl,off,none⟩) m cp)/\bl<w'.heap.size/\Below w.heap.size w w'/\w'.cell? ⟨bl,off,none⟩=some (ZY (ba n))/\
   ((m=1/\T=true)∨(m=2/\∃p,w'.cell? ⟨bl,off+1,none⟩=some (ZY (ba p))/\p.length<=1000000000/\portOk p=T))) :
 Calls EW 230 #[ZY s] w λe w'=>e=.returned (ZW (nameOk n&&T))/\Below w.heap.size w w':=by
 have HS:=Bx hS;clear hS;obtain ⟨R,hR⟩:∃R,(nameOk n&&T)=R:=⟨_,rfl⟩;rw [hR];have hsz:=ba_size n;have HR:=Bx hR;clear hR;rcases CZ n.length with h0 | hpos
 ·have hRf:false=R:=by
   rw [←HR.out];obtain rfl:n= []:=List.length_eq_zero_iff.1 h0;rfl
  have hz:((ba n).size:Int)<1:=by omega
  clear HR hsz h0;exact XXodb
 have hz:¬((ba n).size:Int)<1:=by omega
 rcases Dg 255 n.length with hbig | hsm
 ·have hRf:false=R:=by
   rw [←HR.out];unfold nameOk;rw [decide_eq_false (by omega:¬n.length<=255),Av,Bool.and_false];rfl
  have hz2:(255:Int)<((ba n).size:Int):=by omega
  clear HR hsz hpos hbig;exact XXodb
 have hz2:¬(255:Int)<((ba n).size:Int):=by omega
 have HR2:Hid ((n.all (plainB nameMarks)&&T)=R):=Bx (by
  rw [←HR.out];unfold nameOk;have:n.isEmpty=false:=by cases n with
   | nil=>simp at hpos
   | cons _ _=>rfl
  rw [decide_eq_true hsm,this];rfl)
 have e0:∀k (h:k<(ba n).size) (hk2:k<n.length),(ba n)[k]'h=n[k]:=λ_ _ _=>rfl;have E0:=Bx e0;have HZ:=Bx hsz;have hHM:∀k (h:k<n.length),n[k]∈n:=λk h=>Ci h;have HM:=Bx hHM;have hTS:∀k (h:k<n.length),n.take (k+1)=n.take k ++ [n[k]]:=λk h=>CO h;have HTS:=Bx hTS;clear HR e0 hsz hpos hHM hTS;generalize ba n=N at *;go_enter Tryz.func230,Tryz.ntmps230
 go_wp2_with (go_at_call 166;with_reducible refine (HS.out _).mono ?_;rintro e w1 ⟨bl,off,m,cp,rfl,hbl,hb,hc0,hm⟩
              have t1:¬(2:Int)<(m:Int):=by rcases hm with ⟨rfl,_⟩ | ⟨rfl,_⟩<;>omega
              have t2:(0:Int)<(m:Int):=by rcases hm with ⟨rfl,_⟩ | ⟨rfl,_⟩<;>omega
              have HMM:=Bx hm;have HBB:=Bx hb;clear hm hb)
 go_loop [4] (λi=>∃k:Nat,k<=N.size/\i=ZZ ZS k/\Hid ((n.take k).all (plainB nameMarks)=true)) (λi=>N.size-(intOf i).toNat)
 case atStart=>exact ⟨0,Dj _,rfl,Bx rfl⟩
 case round=>
  obtain ⟨k,hk,rfl,hall⟩:=hrel;rcases Dg k N.size with hlt | hge
  ·have i1:(k:Int)<(N.size:Int):=by omega
   have hkn:k<n.length:=by have:=HZ.out;omega
   obtain ⟨x,hxx⟩:∃x,n[k]=x:=⟨_,rfl⟩;have hx:∀h,N[k]'h=x:=λh=>(E0.out k h hkn).trans hxx
   have hts:=Bx (HTS.out k hkn)
   have hmm:=Bx (HM.out k hkn);rw [hxx] at hts hmm;clear hxx hkn
   have HL:=Bx (λw=>Oct.rletter_any (x.toNat:Int) w)
   have HD:=Bx (λw=>Oct.rdigit_any (x.toNat:Int) w);rcases name_ways x with ⟨hq,hway⟩ | ⟨hq,hl,hd,n45,n46,n95,n126⟩
   ·have HNX:Hid ((n.take (k+1)).all (plainB nameMarks)=true):=Bx (by rw [hts.out,List.all_append,hall.out];simp [hq]);clear hq hmm hts hall;rcases hway with hl | ⟨hl,hd⟩ | ⟨hl,hd,hc⟩
    ·rw [hl] at HL;clear hl;exact XXds3
    ·rw [hl] at HL;rw [hd] at HD;clear hl hd;exact XXds3
    ·rw [hl] at HL;rw [hd] at HD;clear hl hd;rcases hc with hc | hc | hc | hc;all_goals
      have d1:=λ(z:Int)=>congrArg (λy:Int=>y != z) hc;have d2:=d1 45;have d3:=d1 46;have d4:=d1 95;have d5:=d1 126;simp only [show ((45:Int) != 45)=false from rfl,show ((46:Int) != 45)=true from rfl,show ((46:Int) != 46)=false from rfl,show ((95:Int) != 45)=true from rfl,show ((95:Int) != 46)=true from rfl,show ((95:Int) != 95)=false from rfl,show ((126:Int) != 45)=true from rfl,show ((126:Int) != 46)=true from rfl,show ((126:Int) != 95)=true from rfl,show ((126:Int) != 126)=false from rfl] at d2 d3 d4 d5;clear d1 hc
      go_wp2_with (first
       |(go_at_call 218;with_reducible refine Cm (HL.out _) ?_)
       |(go_at_call 198;with_reducible refine Cm (HD.out _) ?_))
      go_round
      case rel=>exact ⟨k+1,by omega,by go_num,HNX⟩
      case measure=>simp [intOf];omega
   ·have hRf:false=R:=by
     rw [←HR2.out,List.all_eq_false.2 ⟨x,hmm.out,by rw [hq];decide⟩];rfl
    have HRF:=Bx hRf;rw [hl] at HL;rw [hd] at HD;have d45:((x.toNat:Int) != 45)=true:=bne_iff_ne.2 n45;have d46:((x.toNat:Int) != 46)=true:=bne_iff_ne.2 n46;have d95:((x.toNat:Int) != 95)=true:=bne_iff_ne.2 n95;have d126:((x.toNat:Int) != 126)=true:=bne_iff_ne.2 n126;clear hl hd n45 n46 n95 n126 hq hRf hmm hts hall
    go_wp2_with (first
     |(go_at_call 218;with_reducible refine Cm (HL.out _) ?_)
     |(go_at_call 198;with_reducible refine Cm (HD.out _) ?_))
    go_ret;exact ⟨by rw [←HRF.out];rfl,HBB.out⟩
  ·obtain rfl:k=N.size:=by omega
   have hTR:T=R:=by rw [←HR2.out];have:=hall.out;rw [CN (by rw [HZ.out];exact Db _)] at this;rw [this,A5]
   have HTR:=Bx hTR;clear hTR hall;rcases HMM.out with ⟨rfl,hT⟩ | ⟨rfl,p,hc1,hpl,hT⟩
   ·have HT:=Bx (hT.symm.trans HTR.out);clear hT HMM;go_wp2;go_ret;exact ⟨by rw [←HT.out];rfl,HBB.out⟩
   ·have hps:=ba_size p
    have HDc:=Bx (λw=>Num.rdec_any 65535 (by decide) (ba p) w (by unfold maxLen;omega));rw [ba_list] at HDc;have hP:portOk p=(decide ((ba p).size<=5)&&decide ((readOf 10 65535 p).2=0)):=by unfold portOk;rw [hps]
    rw [hP] at hT;generalize (readOf 10 65535 p).2=en at *;generalize (readOf 10 65535 p).1=vn at *;generalize ba p=PP at *;clear hP hps HMM;by_cases he:en=0
    ·subst he;rw [decide_eq_true rfl,Bool.and_true] at hT
     have HT:=Bx (hT.trans HTR.out);clear hT
     go_wp2_with (go_at_call 252;with_reducible refine Cm (HDc.out _) ?_);go_ret;exact ⟨by rw [←HT.out];first | rfl |(simp;omega),HBB.out⟩
    ·rw [decide_eq_false he,Bool.and_false] at hT
     have HT:=Bx (hT.trans HTR.out);have he2:(en==0)=false:=beq_eq_false_iff_ne.2 he;clear hT he
     go_wp2_with (go_at_call 252;with_reducible refine Cm (HDc.out _) ?_);go_ret;exact ⟨by rw [←HT.out];rfl,HBB.out⟩
theorem rhost_any (s:ByteArray) (w:World) (hs:s.size<=1000000000):Calls EW 230 #[ZY s] w λe w'=>e=.returned (ZW (hostB s.data.toList))/\Below w.heap.size w w':=by
 have HS:=Bx (λw=>Txt.rsplit_any s 58 w hs);have hbd:=parts_bound 58 s.data.toList;rw [len] at hbd;rw [host_parts];rcases parts_form 58 s.data.toList with ⟨n,hp⟩ | ⟨n,p,hp⟩ | ⟨n,p,x,xs,hp⟩
 ·rw [hp] at HS hbd;rw [hp]
  have hnl:=hbd n (by simp);have key:=rhost_core s n true w (by omega) λw=>(HS.out w).mono λe w' h=>by
   obtain ⟨b,m,cp,rfl,hm,hst,hb⟩:=h;obtain rfl:m=1:=hm
   obtain ⟨bl,off,rfl,hbl,hc⟩:=hst.2 (by omega);exact ⟨bl,off,1,cp,rfl,hbl,hb,hc 0 (by omega),.inl ⟨rfl,rfl⟩⟩
  rw [Bool.and_true] at key;exact key
 ·rw [hp] at HS hbd;rw [hp]
  have hnl:=hbd n (by simp)
  have hpl:=hbd p (by simp);exact rhost_core s n (portOk p) w (by omega) λw=>(HS.out w).mono λe w' h=>by
   obtain ⟨b,m,cp,rfl,hm,hst,hb⟩:=h;obtain rfl:m=2:=hm
   obtain ⟨bl,off,rfl,hbl,hc⟩:=hst.2 (by omega);exact ⟨bl,off,2,cp,rfl,hbl,hb,hc 0 (by omega),.inr ⟨rfl,p,hc 1 (by omega),by omega,rfl⟩⟩
 ·rw [hp] at HS;rw [hp];clear hp hbd;have HS2:Hid (∀w,Calls EW 166 #[ZY s,ZZ ZR 58] w λe w'=>∃b m cp,e=.returned (.slice b m cp)/\m=(n::p::x::xs).length/\Strs w' b m ((n::p::x::xs).map ba)/\Below w.heap.size w w'):=HS;clear HS;go_enter Tryz.func230,Tryz.ntmps230
  go_wp2_with (go_at_call 166;with_reducible refine (HS2.out _).mono ?_;rintro e w1 ⟨b,m,cp,rfl,hm,hst,hb⟩
               have t1:(2:Int)<(m:Int):=by rw [hm];simp;omega)
  go_ret;exact ⟨rfl,hb⟩
end
end Go.Proofs.YtdfabddnpgjepaaGreatDoor.Tgt
namespace Go.Proofs.YtdfabddnpgjepaaGreatDoor.Tgt
open Go.RowKit Base Oct Num Txt
theorem written_drop (ms l:List UInt8) (k:Nat) (h:k<l.length):written ms (l.drop k)=(okAt ms l[k] (l.drop (k+1))&&written ms (l.drop (k+1))):=by rw [BQ h,written]
theorem okAt_short (ms:List UInt8) (c:UInt8) (r:List UInt8) (h:r.length<2):okAt ms c r=plainB ms c:=by
 match r,h with
 | [],_=>rfl
 | [a],_=>rfl
theorem okAt_pct (ms l:List UInt8) (k:Nat) (h:k+2<l.length):okAt ms 37 (l.drop (k+1))=(hexB l[k+1]&&hexB l[k+2]):=by rw [BQ (by omega:k+1<l.length),BQ (by omega:k+1+1<l.length),okAt,if_pos rfl]
theorem contains_snoc (l:List UInt8) (k:Nat) (h:k<l.length) (c:UInt8):(l.take (k+1)).contains c=((l.take k).contains c|| (c==l[k])):=by
 rw [CO h];generalize l[k]=x;generalize l.take k=m
 induction m with
 | nil=>rw [List.nil_append,List.contains_cons,List.contains_nil,Bool.or_false,Bool.false_or]
 | cons y m ih=>rw [List.cons_append,List.contains_cons,List.contains_cons,ih,Bool.or_assoc]
section
set_option maxHeartbeats 1000000
attribute [local go_sem] Am
theorem XXQfM {P:Prop} (h:P:=by
 obtain ⟨q,hq,rfl,rfl⟩:=hrel;rcases Dg q ms.size with hlq | hgq
 ·have j1:(q:Int)<(ms.size:Int):=by omega
  have hsn:=Bx (contains_snoc ms.data.toList q (by rw [len];exact hlq) c);obtain ⟨y,hy⟩:∃y,ms.data.toList[q]'(by rw [len];exact hlq)=y:=⟨_,rfl⟩;have hym:∀h,ms[q]'h=y:=λ_=>hy;rw [hy] at hsn;clear hy;obtain ⟨z,hz⟩:∃z,(ms.data.toList.take (q+1)).contains c=z:=⟨_,rfl⟩;rw [hz] at hsn;have HZQ:=Bx hz;clear hz;generalize (ms.data.toList.take q).contains c=v at *;cases hv:(b0||v) with
  | true=>
    have HZ:Hid ((b0||z)=true):=Bx (by rw [hsn.out,←Bool.or_assoc,hv,Bool.true_or]);clear hv hsn;go_wp2;go_round
    case rel=>exact ⟨q+1,by omega,by go_num,by rw [HZQ.out,HZ.out]⟩
    case measure=>simp [intOf];omega
  | false=>
    have HZ:Hid ((b0||z)=(c==y)):=Bx (by rw [hsn.out,←Bool.or_assoc,hv,Bool.false_or]);clear hv hsn;cases hcy:(c==y) with
    | true=>
      rw [hcy] at HZ;have t1:((c.toNat:Int)==(y.toNat:Int))=true:=by rw [beq_iff_eq.1 hcy];exact beq_self_eq_true _
      clear hcy;go_wp2;go_round
      case rel=>exact ⟨q+1,by omega,by go_num,by rw [HZQ.out,HZ.out]⟩
      case measure=>simp [intOf];omega
    | false=>
      rw [hcy] at HZ
      have t1:((c.toNat:Int)==(y.toNat:Int))=false:=beq_eq_false_iff_ne.2 λe=>(beq_eq_false_iff_ne.1 hcy) (FM.1 (by omega));clear hcy;go_wp2;go_round
      case rel=>exact ⟨q+1,by omega,by go_num,by rw [HZQ.out,HZ.out]⟩
      case measure=>simp [intOf];omega
 ·obtain rfl:q=ms.size:=by omega
  have j1:¬(ms.size:Int)<(ms.size:Int):=by omega
  rw [CN (by rw [len];exact Db _),←HPL.out];by_cases hlong:c=37/\k+2<s.size
  ·obtain ⟨hc37,hlg⟩:=hlong;have t37:((c.toNat:Int)==37)=true:=by rw [hc37];rfl
   have m1:IntKind.i64.wrap ((s.size:Int)-(k:Int))=((s.size-k:Nat):Int):=by rw [wrap_in _ (by omega) (by omega)];omega
   have m2:(2:Int)<((s.size-k:Nat):Int):=by omega
   have m3:IntKind.i64.wrap ((k:Int)+1)=((k+1:Nat):Int):=by rw [wrap_in _ (by omega) (by omega)];omega
   have m4:IntKind.i64.wrap ((k:Int)+2)=((k+2:Nat):Int):=by rw [wrap_in _ (by omega) (by omega)];omega
   have i2:((k+1:Nat):Int)<(s.size:Int):=by omega
   have i3:((k+2:Nat):Int)<(s.size:Int):=by omega
   have hw2:=HW.out;rw [hc37,okAt_pct _ _ k (by rw [len];exact hlg)] at hw2;obtain ⟨a,ha⟩:∃a,s.data.toList[k+1]'(by rw [len];omega)=a:=⟨_,rfl⟩;obtain ⟨b,hb⟩:∃b,s.data.toList[k+2]'(by rw [len];omega)=b:=⟨_,rfl⟩;rw [ha,hb] at hw2;have ya:∀h,s[k+1]'h=a:=λ_=>ha;have yb:∀h,s[k+2]'h=b:=λ_=>hb
   have HXA:=Bx (λw=>Oct.rhex_any (a.toNat:Int) w (by omega) (Base.byte_lt a))
   have HXB:=Bx (λw=>Oct.rhex_any (b.toNat:Int) w (by omega) (Base.byte_lt b));have ea:Oct.isHex (a.toNat:Int)=hexB a:=rfl;have eb:Oct.isHex (b.toNat:Int)=hexB b:=rfl;rw [ea] at HXA;rw [eb] at HXB;have HW2:=Bx hw2;clear hw2 ha hb ea eb hc37 hlg HW HPL hc;generalize Oct.hexVal (a.toNat:Int)=va at *;generalize Oct.hexVal (b.toNat:Int)=vb at *;generalize hexB a=ha at *;generalize hexB b=hb at *;rcases (show (ha=true/\hb=true)∨(ha&&hb)=false by cases ha<;>cases hb<;>simp) with ⟨rfl,rfl⟩ | hf
   ·have HW3:Hid (written ms.data.toList (s.data.toList.drop (k+1))=A):=HW2;clear HW2
    go_wp2_with (first
     |(go_at_call 195;with_reducible refine Cm (HXA.out _) ?_)
     |(go_at_call 195;with_reducible refine Cm (HXB.out _) ?_))
    go_round
    case rel=>exact ⟨k+1,by omega,by go_num,HW3⟩
    case measure=>simp [intOf];omega
   ·rw [hf] at HW2;have HF:Hid (false=A):=HW2;clear HW2;cases ha;all_goals cases hb
    all_goals try (exact absurd hf (by decide))
    all_goals
     clear hf
     go_wp2_with (first
      |(go_at_call 195;with_reducible refine Cm (HXA.out _) ?_)
      |(go_at_call 195;with_reducible refine Cm (HXB.out _) ?_))
     go_ret;exact ⟨by rw [←HF.out];rfl,rfl⟩
  ·have hok:okAt ms.data.toList c (s.data.toList.drop (k+1))=plainB ms.data.toList c:=by
    by_cases hc37:c=37
    ·exact okAt_short _ _ _ (by have:¬k+2<s.size:=λh=>hlong ⟨hc37,h⟩;rw [Cu,len];omega)
    ·exact okAt_plain _ _ _ hc37
   have HW2:=Bx (by have:=HW.out;rwa [hok] at this);clear hok HW HPL;generalize plainB ms.data.toList c=pb at *;by_cases hc37:c=37
   ·have t37:((c.toNat:Int)==37)=true:=by rw [hc37];rfl
    have m1:IntKind.i64.wrap ((s.size:Int)-(k:Int))=((s.size-k:Nat):Int):=by rw [wrap_in _ (by omega) (by omega)];omega
    have m2:¬(2:Int)<((s.size-k:Nat):Int):=by have:¬k+2<s.size:=λh=>hlong ⟨hc37,h⟩;omega
    clear hlong hc37 hc;cases pb with
    | true=>
      go_wp2;go_round
      case rel=>exact ⟨k+1,by omega,by go_num,Bx (by have:=HW2.out;rwa [A5] at this)⟩
      case measure=>simp [intOf];omega
    | false=>
      have hf:=HW2.out;rw [Av] at hf;have HF:=Bx hf;clear hf HW2;go_wp2;go_ret;exact ⟨by rw [←HF.out];rfl,rfl⟩
   ·have t37:((c.toNat:Int)==37)=false:=beq_eq_false_iff_ne.2 λe=>hc37 (FM.1 (by show c.toNat=37;omega));clear hlong hc37 hc;cases pb with
    | true=>
      go_wp2;go_round
      case rel=>exact ⟨k+1,by omega,by go_num,Bx (by have:=HW2.out;rwa [A5] at this)⟩
      case measure=>simp [intOf];omega
    | false=>
      have hf:=HW2.out;rw [Av] at hf;have HF:=Bx hf;clear hf HW2;go_wp2;go_ret
      exact ⟨by rw [←HF.out];rfl,rfl⟩):P:=h
set_option maxRecDepth 10000 in
theorem rof_any (s ms:ByteArray) (w:World) (hs:s.size<=1000000000) (hms:ms.size<=1000000000) :
 Calls EW 277 #[ZY s,ZY ms] w λe w'=>e=.returned (ZW (written ms.data.toList s.data.toList))/\w'=w:=by
 obtain ⟨A,hA⟩:∃A,written ms.data.toList s.data.toList=A:=⟨_,rfl⟩;rw [hA];have HA:=Bx hA;clear hA;go_enter Tryz.func277,Tryz.ntmps277;go_wp2
 go_loop [5] (λi=>∃k:Nat,k<=s.size/\i=ZZ ZS k/\Hid (written ms.data.toList (s.data.toList.drop k)=A)) (λi=>s.size-(intOf i).toNat)
 case atStart=>exact ⟨0,Dj _,rfl,HA⟩
 case round=>
  obtain ⟨k,hk,rfl,hw⟩:=hrel;rcases Dg k s.size with hlt | hge
  ·have i1:(k:Int)<(s.size:Int):=by omega
   have hkl:k<s.data.toList.length:=by rw [len];exact hlt
   obtain ⟨c,hc⟩:∃c,s.data.toList[k]=c:=⟨_,rfl⟩;have hx:∀h,s[k]'h=c:=λ_=>hc;have hwd:=hw.out;rw [written_drop _ _ k hkl,hc] at hwd;have HW:=Bx hwd;clear hwd hw
   have HL:=Bx (λw=>Oct.rletter_any (c.toNat:Int) w)
   have HD:=Bx (λw=>Oct.rdigit_any (c.toNat:Int) w);have hpl:plainB ms.data.toList c=((Oct.letter (c.toNat:Int)||Oct.digit (c.toNat:Int))||ms.data.toList.contains c):=rfl;have HPL:=Bx hpl;clear hpl;have hbase:∃b0,(Oct.letter (c.toNat:Int)||Oct.digit (c.toNat:Int))=b0:=⟨_,rfl⟩;obtain ⟨b0,hb0⟩:=hbase;rw [hb0] at HPL;have hbb:(Oct.letter (c.toNat:Int)=true/\b0=true)∨(Oct.letter (c.toNat:Int)=false/\Oct.digit (c.toNat:Int)=b0):=by
    cases hl:Oct.letter (c.toNat:Int) with
    | true=>rw [hl,Bool.true_or] at hb0;exact .inl ⟨rfl,hb0.symm⟩
    | false=>rw [hl,Bool.false_or] at hb0;exact .inr ⟨rfl,hb0⟩
   clear hb0;rcases hbb with ⟨hl,hb0⟩ | ⟨hl,hd⟩
   rotate_left 1
   ·rw [hd] at HD;rw [hl] at HL;clear hl hd
    go_wp2_with (first
     |(go_at_call 218;with_reducible refine Cm (HL.out _) ?_)
     |(go_at_call 198;with_reducible refine Cm (HD.out _) ?_))
    clear HL HD
    go_loop [7,8] (λok j=>∃q:Nat,q<=ms.size/\j=ZZ ZS q/\ok=ZW (b0|| (ms.data.toList.take q).contains c)) (λ_ j=>ms.size-(intOf j).toNat)
    case atStart=>exact ⟨0,Dj _,rfl,by simp⟩
    case round=>exact XXQfM
   ·rw [hl] at HL;clear hl
    go_wp2_with (go_at_call 218;with_reducible refine Cm (HL.out _) ?_);clear HL HD
    go_loop [7,8] (λok j=>∃q:Nat,q<=ms.size/\j=ZZ ZS q/\ok=ZW (b0|| (ms.data.toList.take q).contains c)) (λ_ j=>ms.size-(intOf j).toNat)
    case atStart=>exact ⟨0,Dj _,rfl,by simp [hb0]⟩
    case round=>exact XXQfM
  ·obtain rfl:k=s.size:=by omega
   have hw1:=hw.out;rw [List.drop_eq_nil_of_le (by rw [len];exact Db _)] at hw1
   have HT:=Bx (show true=A from hw1);clear hw hw1;go_wp2;go_ret;exact ⟨by rw [←HT.out];rfl,rfl⟩
end
end Go.Proofs.YtdfabddnpgjepaaGreatDoor.Tgt
namespace Go.Proofs.YtdfabddnpgjepaaGreatDoor.Tgt
open Go.RowKit Base Oct Num Txt
section
set_option maxHeartbeats 1000000
attribute [local go_sem] Am
theorem XXEaK {P:Prop} (h:P:=by
 go_wp2_with (go_at_call 277;with_reducible refine Cm (HW.out _) ?_);go_ret
 exact ⟨rfl,rfl⟩):P:=h
theorem rquery_any (s:ByteArray) (w:World) (hs:s.size<=1000000000):Calls EW 254 #[ZY s] w λe w'=>e=.returned (ZW (queryB s.data.toList))/\w'=w:=by have HW:=Bx (λw=>rof_any s ⟨#[45,46,95,126,33,36,38,39,40,41,42,43,44,59,61,58,64,47,63]⟩ w hs (by decide));rw [show (ByteArray.mk #[45,46,95,126,33,36,38,39,40,41,42,43,44,59,61,58,64,47,63]).data.toList=queryMarks from rfl] at HW;unfold queryB;generalize written queryMarks s.data.toList=q at *;go_enter Tryz.func254,Tryz.ntmps254;exact XXEaK
theorem rpath_any (s:ByteArray) (w:World) (hs:s.size<=1000000000):Calls EW 253 #[ZY s] w λe w'=>e=.returned (ZW (pathB s.data.toList))/\w'=w:=by
 have HW:=Bx (λw=>rof_any s ⟨#[45,46,95,126,33,36,38,39,40,41,42,43,44,59,61,58,64,47]⟩ w hs (by decide));rw [show (ByteArray.mk #[45,46,95,126,33,36,38,39,40,41,42,43,44,59,61,58,64,47]).data.toList=pathMarks from rfl] at HW;unfold pathB;cases hl:s.data.toList with
 | nil=>
   have he:=empty_of hl;clear hl HW;go_enter Tryz.func253,Tryz.ntmps253;go_wp2;go_ret;exact ⟨rfl,rfl⟩
 | cons c r=>
   have he:=full_of hl;have hz:=size_cons hl;have h0:(0:Int)<(s.size:Int):=by omega
   have e0:∀h,s[0]'h=c:=λh=>at_zero hl h;rw [hl] at HW;clear hl hz;generalize written pathMarks (c::r)=q at *;rw [List.head?_cons];by_cases hc:c=47
   ·have t1:((c.toNat:Int)==47)=true:=by rw [hc];rfl
    rw [decide_eq_true (by rw [hc]),A5];clear hc;go_enter Tryz.func253,Tryz.ntmps253;exact XXEaK
   ·have t1:((c.toNat:Int)==47)=false:=beq_eq_false_iff_ne.2 λe=>hc (FM.1 (by show c.toNat=47;omega));rw [decide_eq_false (λe=>hc (Du.inj e)),Av];clear hc;go_enter Tryz.func253,Tryz.ntmps253;go_wp2;go_ret;exact ⟨rfl,rfl⟩
theorem rport_any (s:ByteArray) (w:World) (hs:s.size<=1000000000):Calls EW 231 #[ZY s] w λe w'=>e=.returned (ZW (s.data.toList.contains 58))/\w'=w:=by
 obtain ⟨A,hA⟩:∃A,s.data.toList.contains 58=A:=⟨_,rfl⟩;rw [hA];have HA:=Bx hA;clear hA;go_enter Tryz.func231,Tryz.ntmps231;go_wp2
 go_loop [3] (λi=>∃k:Nat,k<=s.size/\i=ZZ ZS k/\Hid ((s.data.toList.take k).contains 58=false)) (λi=>s.size-(intOf i).toNat)
 case atStart=>exact ⟨0,Dj _,rfl,Bx rfl⟩
 case round=>
  obtain ⟨k,hk,rfl,hno⟩:=hrel;rcases Dg k s.size with hlt | hge
  ·have i1:(k:Int)<(s.size:Int):=by omega
   have hkl:k<s.data.toList.length:=by rw [len];exact hlt
   have hsn:=Bx (contains_snoc s.data.toList k hkl 58);obtain ⟨c,hc⟩:∃c,s.data.toList[k]=c:=⟨_,rfl⟩;have hx:∀h,s[k]'h=c:=λ_=>hc
   have hmem:=Bx (Ci hkl);rw [hc] at hsn hmem;clear hc hkl;by_cases h58:c=58
   ·have t1:((c.toNat:Int)==58)=true:=by rw [h58];rfl
    have HT:Hid (true=A):=Bx (by rw [←HA.out,List.contains_iff_mem.2 (by rw [←h58];exact hmem.out)]);clear h58;go_wp2;go_ret;exact ⟨by rw [←HT.out];rfl,rfl⟩
   ·have t1:((c.toNat:Int)==58)=false:=beq_eq_false_iff_ne.2 λe=>h58 (FM.1 (by show c.toNat=58;omega))
    have HN:Hid ((s.data.toList.take (k+1)).contains 58=false):=Bx (by rw [hsn.out,hno.out,Bool.false_or];exact beq_eq_false_iff_ne.2 λe=>h58 e.symm);clear h58;go_wp2;go_round
    case rel=>exact ⟨k+1,by omega,by go_num,HN⟩
    case measure=>simp [intOf];omega
  ·obtain rfl:k=s.size:=by omega
   have h1:=hno.out;rw [take_all s _ (Db _),HA.out] at h1;have HT:=Bx h1;clear hno h1;go_wp2;go_ret;exact ⟨by rw [HT.out];rfl,rfl⟩
end
end Go.Proofs.YtdfabddnpgjepaaGreatDoor.Tgt
namespace Go.Proofs.YtdfabddnpgjepaaGreatDoor.Tgt
open Go.RowKit Base Oct Num Txt
theorem cut_hit (c:UInt8) (l:List UInt8) (k:Nat) (hk:k<l.length) (hc:l[k]=c) (hno:c∉l.take k):cutAt c l=(l.take k,l.drop (k+1),true):=by
 have e:l=l.take k++c::l.drop (k+1):=by conv=>lhs;rw [←List.take_append_drop k l,BQ hk,hc]
 conv=>lhs;rw [e]
 exact cutAt_app c _ _ hno
section
set_option maxHeartbeats 1000000
attribute [local go_sem] Am
theorem XX34J {P:Prop} (h:P:=by
 go_simp;refine hK _ _ ?_ ?_
 ·rw [←hW9];exact ((((HW7.out.other w.heap.size 0 _ hn24).other w.heap.size 1 _ hn24).other w.heap.size 2 _ hn24).other w.heap.size 3 _ hn24).other w.heap.size 4 _ hn24
 clear hK K;refine Sched.assign _ (by rfl) (by rfl) ?_;simp only [Ab,Act.eval,Ag,Cg,BZ,BY,Ds,CH,CK,CJ];refine Sched.done ?_;go_wp2;first
  |exact bodyPost_ret (v:=.tuple #[tv 0 E0 PP QQ true,.bool false]) (by (simp [results,Tryz.results232,go_sem,d0,d1,d2,d3,d4]);first|done|fail) rfl ⟨rfl,hbW⟩
  |exact bodyPost_ret (v:=.tuple #[tv 0 E0 PP QQ true,.bool qk]) (by (simp [results,Tryz.results232,go_sem,d0,d1,d2,d3,d4]);first|done|fail) rfl ⟨rfl,hbW⟩
  |exact bodyPost_ret (v:=.tuple #[tv 0 E0 s E0 false,.bool false]) (by (simp [results,Tryz.results232,go_sem,d0,d1,d2,d3,d4]);first|done|fail) rfl ⟨rfl,hbW⟩
  |exact bodyPost_ret (v:=.tuple #[tv 0 E0 s E0 false,.bool qk]) (by (simp [results,Tryz.results232,go_sem,d0,d1,d2,d3,d4]);first|done|fail) rfl ⟨rfl,hbW⟩):P:=h
theorem XXWdt {P:Prop} (h:P:=by
 intro w' hS;obtain ⟨c0,c1,c2,c3,c4,_,_,_,_,_⟩:=hS;go_simp
 with_reducible rfl):P:=h
set_option maxRecDepth 10000 in
theorem rorigin_any (s:ByteArray) (w:World) (hs:s.size<=1000000000) :
 Calls EW 232 #[ZY s] w λe w'=>e=.returned (ZT #[tv 0 E0 (ba (cutAt 63 s.data.toList).1) (ba (cutAt 63 s.data.toList).2.1) (cutAt 63 s.data.toList).2.2,ZW (pathB (cutAt 63 s.data.toList).1&&queryB (cutAt 63 s.data.toList).2.1)])/\Below w.heap.size w w':=by
 obtain ⟨R,hR⟩:∃R,cutAt 63 s.data.toList=R:=⟨_,rfl⟩;rw [hR];have HR:=Bx hR
 have HRL:=Bx (cutAt_le 63 s.data.toList);rw [hR,len] at HRL;clear hR;obtain ⟨p,q,bb⟩:=R;simp only at HRL;simp only
 have HP:=Bx (λw=>rpath_any (ba p) w (by rw [ba_size];have:=HRL.out.1;omega))
 have HQ:=Bx (λw=>rquery_any (ba q) w (by rw [ba_size];have:=HRL.out.2;omega));rw [ba_list] at HP HQ;generalize pathB p=pk at *;generalize queryB q=qk at *;have HPP:Hid (∀k (hk:k<s.data.toList.length),s.data.toList[k]=63->(63:UInt8)∉s.data.toList.take k->s.extract 0 k=ba p/\s.extract (k+1) s.size=ba q/\true=bb):=Bx λk hk hc hno=>by have h1:=HR.out;rw [cut_hit 63 _ k hk hc hno] at h1;simp only [Prod.mk.injEq] at h1;exact ⟨ba_ext (by rw [Bu,←h1.1];simp [ba]),ba_ext (by rw [drop_ext,←h1.2.1];rfl),h1.2.2⟩
 have HEE:Hid ((63:UInt8)∉s.data.toList->s=ba p/\E0=ba q/\false=bb):=Bx λhno=>by have h1:=HR.out;rw [cutAt_none 63 _ hno] at h1;simp only [Prod.mk.injEq] at h1;exact ⟨by rw [←h1.1];rfl,by rw [←h1.2.1];rfl,h1.2.2⟩
 clear HR HRL;generalize ba p=PP at *;generalize ba q=QQ at *;have hc2:=Tgb.new w 209 0 E0 E0 E0 false;have hg2':w.heap.size<(w.alloc (.cells #[ZZ ZS 0,ZY E0,ZY E0,ZY E0,ZW false] 209)).heap.size:=by simp
 have hsz2:(w.alloc (.cells #[ZZ ZS 0,ZY E0,ZY E0,ZY E0,ZW false] 209)).heap.size=w.heap.size+1:=by simp
 have hb2:Below w.heap.size w (w.alloc (.cells #[ZZ ZS 0,ZY E0,ZY E0,ZY E0,ZW false] 209)):=(An _ _).alloc (Db _) _;have hn24:¬w.heap.size=w.heap.size+1:=by omega
 go_enter Tryz.func232,Tryz.ntmps232;go_upto_region 2 with fail
 generalize w.alloc (.cells #[ZZ ZS 0,ZY E0,ZY E0,ZY E0,ZW false] 209)=W2 at *;have hc4:=Tgb.new W2 209 0 E0 s E0 false;have hb4:Below W2.heap.size W2 (W2.alloc (.cells #[ZZ ZS 0,ZY E0,ZY s,ZY E0,ZW false] 209)):=(An _ _).alloc (Db _) _;have hg4:W2.heap.size<(W2.alloc (.cells #[ZZ ZS 0,ZY E0,ZY s,ZY E0,ZW false] 209)).heap.size:=by simp
 generalize W2.alloc (.cells #[ZZ ZS 0,ZY E0,ZY s,ZY E0,ZW false] 209)=W at *
 have H2w:=Bx (hc2.below hg2' hb4)
 have HBw:=Bx (hb2.trans (hb4.mono (Da hg2')))
 have HG2w:=Bx (Nat.lt_trans hg2' hg4);rw [hsz2] at hc4 hg4;have H4w:=Bx hc4;have HG4w:=Bx hg4;clear hc2 hg2' hsz2 hb2 hc4 hb4 hg4;go_wp2_with fail
 go_loopw [5] (λi wr=>∃k:Nat,k<=s.size/\i=ZZ ZS k/\wr=W/\Hid ((63:UInt8)∉s.data.toList.take k)) (λi _=>s.size-(intOf i).toNat)
 case atStart=>exact ⟨0,Dj _,rfl,rfl,Bx (by simp)⟩
 case round=>
  obtain ⟨k,hk,rfl,rfl,hno⟩:=hrel;rcases Dg k s.size with hlt | hge
  ·have i1:(k:Int)<(s.size:Int):=by omega
   have hkl:k<s.data.toList.length:=by rw [len];exact hlt
   obtain ⟨c,hc⟩:∃c,s.data.toList[k]=c:=⟨_,rfl⟩;have hx:∀h,s[k]'h=c:=λ_=>hc;by_cases h63:c=63
   ·have t1:((c.toNat:Int)==63)=true:=by rw [h63];rfl
    obtain ⟨e1,e2,e3⟩:=HPP.out k hkl (hc.trans h63) hno.out;have j0:(0:Int)<=(k:Int):=by omega
    have j1:(k:Int)<=(s.size:Int):=by omega
    have m1:IntKind.i64.wrap ((k:Int)+1)=((k+1:Nat):Int):=by rw [wrap_in _ (by omega) (by omega)];omega
    have j2:(k:Int)+1<=(s.size:Int):=by omega
    have j3:(0:Int)<=(k:Int)+1:=by omega
    clear h63 hc hkl hno;subst e3;go_wp2_with fail;refine Sched.region [(0,false),(1,false),(2,false),(3,false),(4,false),(5,false),(6,false),(7,false),(8,true),(9,false),(10,true),(11,false),(12,true)] (λ_=>True) (by kernel_rfl) (by kernel_rfl) (λ_ _ d _ _ h=>by cases d<;>exact h) trivial ?_
    have HY4:=Bx (H4w.out.below HG4w.out (Ak (An _ _) 1))
    have HY2:=Bx (H2w.out.below HG2w.out (Ak (An _ _) 1))
    have HYB:=Bx (Ak HBw.out 1);have HYG:Hid (w.heap.size+1<(World.drewN wr 1).heap.size):=HG4w;generalize World.drewN wr 1=W6 at *;simp only [Sched.picked,List.filterMap_cons,List.filterMap_nil,BZ,BY,Option.map_some]
    iterate 8
     refine Sched.quiet (by rfl) ?_ ?_ ?_
     rotate_left 1
     ·intro w' hS;clear hS;go_simp;with_reducible rfl
     simp only [Ab,CH,CK,CJ]
    obtain ⟨c0,c1,c2,c3,c4,z0,z1,z2,z3,z4⟩:=HY4.out
    refine Sched.change (by rfl) (λK hK=>?_);go_simp;refine hK _ _ trivial ?_;clear hK K;refine Sched.quiet (by rfl) ?_ ?_ ?_
    rotate_left 1
    ·intro w' hS;clear hS;go_simp;with_reducible rfl
    simp only [Ab,CH,CK,CJ]
    refine Sched.change (by rfl) (λK hK=>?_);go_simp;refine hK _ _ trivial ?_;clear hK K;refine Sched.quiet (by rfl) ?_ ?_ ?_
    rotate_left 1
    ·intro w' hS;clear hS;go_simp;with_reducible rfl
    simp only [Ab,CH,CK,CJ]
    refine Sched.change (by rfl) (λK hK=>?_);go_simp;refine hK _ _ trivial ?_;clear hK K;refine Sched.done ?_
    have H4:Hid (Tgb (((W6.setCell ⟨w.heap.size+1,2,none⟩ (ZY PP)).setCell ⟨w.heap.size+1,3,none⟩ (ZY QQ)).setCell ⟨w.heap.size+1,4,none⟩ (ZW true)) (w.heap.size+1) 0 E0 PP QQ true):=Bx (by refine ⟨?_,?_,?_,?_,?_,?_,?_,?_,?_,?_⟩;all_goals go_simp)
    have hn42:¬w.heap.size+1=w.heap.size:=by omega
    have H2:=Bx (((HY2.out.other (w.heap.size+1) 2 (ZY PP) hn42).other (w.heap.size+1) 3 (ZY QQ) hn42).other (w.heap.size+1) 4 (ZW true) hn42);have hle:w.heap.size<=w.heap.size+1:=Dc _
    have HB:=Bx (((HYB.out.setCell (p:=⟨w.heap.size+1,2,none⟩) hle (ZY PP)).setCell (p:=⟨w.heap.size+1,3,none⟩) hle (ZY QQ)).setCell (p:=⟨w.heap.size+1,4,none⟩) hle (ZW true))
    have HG4:Hid (w.heap.size+1<(((W6.setCell ⟨w.heap.size+1,2,none⟩ (ZY PP)).setCell ⟨w.heap.size+1,3,none⟩ (ZY QQ)).setCell ⟨w.heap.size+1,4,none⟩ (ZW true)).heap.size):=Bx (by simpa using HYG.out)
    have HG2:=Bx (Nat.lt_of_le_of_lt hle HG4.out);clear HY4 HY2 HYB HYG c0 c1 c2 c3 c4 z0 z1 z2 z3 z4 H4w H2w HBw HG4w HG2w;generalize ((W6.setCell ⟨w.heap.size+1,2,none⟩ (ZY PP)).setCell ⟨w.heap.size+1,3,none⟩ (ZY QQ)).setCell ⟨w.heap.size+1,4,none⟩ (ZW true)=W7 at *;go_wp2_with fail
    have HW7:=Bx (H4.out.below HG4.out (Ak (An _ _) 1))
    have HX7:=Bx (H2.out.below HG2.out (Ak (An _ _) 1))
    have HB7:=Bx (Ak HB.out 1);refine Sched.region [(0,false),(1,false),(2,false),(3,true),(4,false),(5,false),(6,false),(7,true),(8,false),(9,true),(10,false)] (λw'=>Tgb w' (w.heap.size+1) 0 E0 PP QQ true) (by kernel_rfl) (by kernel_rfl) (λ_ _ d _ _ h=>by cases d<;>exact h) HW7.out ?_;generalize World.drewN W7 1=W8 at *;simp only [Sched.picked,List.filterMap_cons,List.filterMap_nil,BZ,BY,Option.map_some]
    iterate 3
     refine Sched.quiet (by rfl) ?_ ?_ ?_
     rotate_left 1
     ·exact XXWdt
     simp only [Ab,CH,CK,CJ]
    refine Sched.change (by rfl) (λK hK=>?_);go_simp;with_reducible refine (HP.out _).mono ?_
    rintro e w1 ⟨rfl,hw⟩;rw [hw];clear hw;dsimp only;refine hK _ _ HW7.out ?_;clear hK K;refine Sched.move _ (by rfl) (by rfl) ?_;simp only [Ab,Act.eval,Ag,Cg,BZ,BY,Ds,CH,CK,CJ];cases pk with
    | false=>
      iterate 3
       refine Sched.skip (by rfl) ?_;simp only [Ab,CH,CK,CJ]
      refine Sched.quiet (by rfl) (ZW false) ?_ ?_
      ·intro w' hS;clear hS;go_simp
      simp only [Ab,CH,CK,CJ]
      refine Sched.change (by rfl) (λK hK=>?_);obtain ⟨c0,c1,c2,c3,c4,z0,z1,z2,z3,z4⟩:=HX7.out;obtain ⟨W9,hW9,⟨d0,d1,d2,d3,d4,_,_,_,_,_⟩,hbW⟩:=Tgb.put ⟨c0,c1,c2,c3,c4,z0,z1,z2,z3,z4⟩ HB7.out (Db _) 0 E0 PP QQ true;exact XX34J
    | true=>
      iterate 2
       refine Sched.quiet (by rfl) ?_ ?_ ?_
       rotate_left 1
       ·exact XXWdt
       simp only [Ab,CH,CK,CJ]
      refine Sched.change (by rfl) (λK hK=>?_);go_simp;with_reducible refine (HQ.out _).mono ?_
      rintro e w1 ⟨rfl,hw⟩;rw [hw];clear hw;dsimp only;refine hK _ _ HW7.out ?_;clear hK K;refine Sched.quiet (by rfl) (ZW qk) ?_ ?_
      ·intro w' hS;clear hS;go_simp
      simp only [Ab,CH,CK,CJ]
      refine Sched.change (by rfl) (λK hK=>?_);obtain ⟨c0,c1,c2,c3,c4,z0,z1,z2,z3,z4⟩:=HX7.out;obtain ⟨W9,hW9,⟨d0,d1,d2,d3,d4,_,_,_,_,_⟩,hbW⟩:=Tgb.put ⟨c0,c1,c2,c3,c4,z0,z1,z2,z3,z4⟩ HB7.out (Db _) 0 E0 PP QQ true;exact XX34J
   ·have t1:((c.toNat:Int)==63)=false:=beq_eq_false_iff_ne.2 λe=>h63 (FM.1 (by show c.toNat=63;omega))
    have HN:Hid ((63:UInt8)∉s.data.toList.take (k+1)):=Bx (by rw [CO hkl,hc,C3,not_or];exact ⟨hno.out,by rw [CB];exact λe=>h63 e.symm⟩)
    clear h63 hc hkl hno;go_wp2_with fail;go_roundw
    case rel=>first | exact ⟨k+1,by omega,by go_num,rfl,HN⟩ | exact ⟨k+1,by omega,by go_num,trivial,HN⟩
    case measure=>simp [intOf];omega
  ·obtain rfl:k=s.size:=by omega
   have h1:=hno.out;rw [take_all s _ (Db _)] at h1;obtain ⟨e1,e2,e3⟩:=HEE.out h1;clear hno h1;subst e1 e2 e3;go_wp2_with fail;have H4:=H4w;have H2:=H2w;have HB:=HBw;have HG4:=HG4w;have HG2:=HG2w;clear H4w H2w HBw HG4w HG2w;generalize wr=W7 at *
   have HW7:=Bx (H4.out.below HG4.out (Ak (An _ _) 1))
   have HX7:=Bx (H2.out.below HG2.out (Ak (An _ _) 1))
   have HB7:=Bx (Ak HB.out 1);refine Sched.region [(0,false),(1,false),(2,false),(3,true),(4,false),(5,false),(6,false),(7,true),(8,false),(9,true),(10,false)] (λw'=>Tgb w' (w.heap.size+1) 0 E0 s E0 false) (by kernel_rfl) (by kernel_rfl) (λ_ _ d _ _ h=>by cases d<;>exact h) HW7.out ?_;generalize World.drewN W7 1=W8 at *;simp only [Sched.picked,List.filterMap_cons,List.filterMap_nil,BZ,BY,Option.map_some]
   iterate 3
    refine Sched.quiet (by rfl) ?_ ?_ ?_
    rotate_left 1
    ·exact XXWdt
    simp only [Ab,CH,CK,CJ]
   refine Sched.change (by rfl) (λK hK=>?_);go_simp;with_reducible refine (HP.out _).mono ?_
   rintro e w1 ⟨rfl,hw⟩;rw [hw];clear hw;dsimp only;refine hK _ _ HW7.out ?_;clear hK K;refine Sched.move _ (by rfl) (by rfl) ?_;simp only [Ab,Act.eval,Ag,Cg,BZ,BY,Ds,CH,CK,CJ];cases pk with
   | false=>
     iterate 3
      refine Sched.skip (by rfl) ?_;simp only [Ab,CH,CK,CJ]
     refine Sched.quiet (by rfl) (ZW false) ?_ ?_
     ·intro w' hS;clear hS;go_simp
     simp only [Ab,CH,CK,CJ]
     refine Sched.change (by rfl) (λK hK=>?_);obtain ⟨c0,c1,c2,c3,c4,z0,z1,z2,z3,z4⟩:=HX7.out;obtain ⟨W9,hW9,⟨d0,d1,d2,d3,d4,_,_,_,_,_⟩,hbW⟩:=Tgb.put ⟨c0,c1,c2,c3,c4,z0,z1,z2,z3,z4⟩ HB7.out (Db _) 0 E0 s E0 false;exact XX34J
   | true=>
     iterate 2
      refine Sched.quiet (by rfl) ?_ ?_ ?_
      rotate_left 1
      ·exact XXWdt
      simp only [Ab,CH,CK,CJ]
     refine Sched.change (by rfl) (λK hK=>?_);go_simp;with_reducible refine (HQ.out _).mono ?_
     rintro e w1 ⟨rfl,hw⟩;rw [hw];clear hw;dsimp only;refine hK _ _ HW7.out ?_;clear hK K;refine Sched.quiet (by rfl) (ZW qk) ?_ ?_
     ·intro w' hS;clear hS;go_simp
     simp only [Ab,CH,CK,CJ]
     refine Sched.change (by rfl) (λK hK=>?_);obtain ⟨c0,c1,c2,c3,c4,z0,z1,z2,z3,z4⟩:=HX7.out;obtain ⟨W9,hW9,⟨d0,d1,d2,d3,d4,_,_,_,_,_⟩,hbW⟩:=Tgb.put ⟨c0,c1,c2,c3,c4,z0,z1,z2,z3,z4⟩ HB7.out (Db _) 0 E0 s E0 false;exact XX34J
end
end Go.Proofs.YtdfabddnpgjepaaGreatDoor.Tgt
namespace Go.Proofs.YtdfabddnpgjepaaGreatDoor.Tgt
open Go.RowKit Base Oct Num Txt
theorem cutAt_head (c d:UInt8) (l:List UInt8) (h:(cutAt c l).1.head?=some d):l.head?=some d:=by
 cases l with
 | nil=>simp [cutAt] at h
 | cons b r=>
   rw [cutAt] at h;split at h
   ·simp at h
   ·simpa using h
theorem origin_head {l:List UInt8} (h:l.head?≠some 47):origin l=none:=by
 unfold origin;have:pathB (cutAt 63 l).1=false:=by unfold pathB;rw [decide_eq_false (λe=>h (cutAt_head _ _ _ e)),Av]
 rw [this,Av];rfl
theorem schemed_head {l:List UInt8} (h:l.head?=some 47):schemed l=false:=by
 cases l with
 | nil=>simp at h
 | cons c r=>
   obtain rfl:c=47:=by simpa using h
   unfold schemed;have:(low (((47:UInt8)::r).take 7)==low http)=false:=by rw [beq_eq_false_iff_ne];intro e;have e2:=congrArg (λx=>x.head?) e;revert e2;show some (lowB 47)=some (lowB 104)->False;decide
   rw [this,Bool.and_false]
theorem parse_alt {m l:List UInt8} (hm:¬m=connect) (ho:¬(m=options/\l= [42])):parse m l=if schemed l=true then absolute (l.drop 7) else origin l:=by
 rw [parse,if_neg hm,if_neg ho];by_cases hd:l.head?=some 47
 ·rw [if_pos hd,schemed_head hd];rfl
 ·rw [if_neg hd,origin_head hd]
def relabel (F:Nat) (ho:List UInt8) (o:Option Tg):Option Tg:=o.map λt=>⟨F,ho,t.path,t.query,t.asked⟩
theorem origin_relabel (l:List UInt8):origin l=relabel 1 [] (origin l):=by
 unfold relabel;cases h:origin l with
 | none=>rfl
 | some t=>
   obtain ⟨_,h1,h2⟩:=putPath_origin h;obtain ⟨f,ho,p,q,a⟩:=t;simp only at h1 h2;subst h1 h2;rfl
theorem absolute_relabel (l:List UInt8) (h:hostB (hostOf l)=true):absolute l=relabel 2 (hostOf l) (origin (slashed (restOf l))):=by
 unfold absolute relabel;cases origin (slashed (restOf l)) with
 | none=>rfl
 | some t=>simp only [h,if_true];rfl
theorem absolute_none (l:List UInt8) (h:hostB (hostOf l)=false):absolute l=none:=by
 unfold absolute;cases origin (slashed (restOf l)) with
 | none=>rfl
 | some t=>simp only [h];rfl
theorem host_all:∀l:List UInt8,(∀x∈l,ended x=false)->hostOf l=l/\restOf l= []
 | [],_=>⟨rfl,rfl⟩
 | c::r,h=>by
   have hc:=h c (by simp)
   have ih:=host_all r λx hx=>h x (by simp [hx]);unfold hostOf restOf at *;simp only [List.takeWhile_cons,List.dropWhile_cons,hc,Bool.not_false,if_true];exact ⟨by rw [ih.1],ih.2⟩
theorem host_stop (l:List UInt8) (k:Nat) (h1:∀x∈l.take k,ended x=false) (h2:l.length<=k∨∃h:k<l.length,ended l[k]=true):hostOf l=l.take k/\restOf l=l.drop k:=by
 rcases h2 with h2 | ⟨h2,h3⟩
 ·rw [CN h2] at h1;rw [CN h2,List.drop_eq_nil_of_le h2];exact host_all l h1
 ·have e:=host_cut (λc=>!ended c) (l.take k) (l.drop (k+1)) l[k] (λx hx=>by simp [h1 x hx]) (by simp [h3]);have e2:l.take k++l[k]::l.drop (k+1)=l:=by rw [←BQ h2,List.take_append_drop]
  rw [e2] at e;exact ⟨e.1,by rw [BQ h2];exact e.2⟩
section
set_option maxHeartbeats 1000000
attribute [local go_sem] Am
theorem rtarget_connect (m s:ByteArray) (w:World) (hs:s.size<=900000000) (hm:m.data.toList=connect) :
 Calls EW 209 #[ZY m,ZY s] w λe w'=>e=.returned (ans (parse m.data.toList s.data.toList))/\Below w.heap.size w w':=by
 have HCC:=Bx (Tgb.new w 209 0 E0 E0 E0 false)
 have HWW:=Bx (show Below w.heap.size w (w.alloc (.cells #[ZZ ZS 0,ZY E0,ZY E0,ZY E0,ZW false] 209)) from (An _ _).alloc (Db _) _)
 have HG:=Bx (show w.heap.size<(w.alloc (.cells #[ZZ ZS 0,ZY E0,ZY E0,ZY E0,ZW false] 209)).heap.size by simp)
 have HC:=Bx (λw=>rport_any s w (by omega))
 have HH:=Bx (λw=>rhost_any s w (by omega));have hba:ba s.data.toList=s:=rfl;rw [parse,if_pos hm]
 obtain ⟨t1,t2⟩:=eq_facts m [67,79,78,78,69,67,84] true (decide_eq_true hm);clear hm;obtain ⟨R,hR⟩:∃R,authority s.data.toList=R:=⟨_,rfl⟩;rw [hR];unfold authority at hR;generalize s.data.toList.contains 58=b at *;generalize hostB s.data.toList=h at *;cases h with
 | false=>
   rw [Bool.and_false] at hR;obtain rfl:none=R:=hR;rw [ans];clear hba;go_enter Tryz.func209,Tryz.ntmps209
   go_wp2_with (go_at_call 230;with_reducible refine (HH.out _).mono ?_;rintro e w2 ⟨rfl,hb⟩
                obtain ⟨c0,c1,c2,c3,c4,z0,z1,z2,z3,z4⟩:=HCC.out.below HG.out hb
                have HB:=Bx (Al HWW.out hb);clear hb)
   exact XXoUb
 | true=>
   cases b with
   | false=>
     obtain rfl:none=R:=hR;rw [ans];clear hba;go_enter Tryz.func209,Tryz.ntmps209
     go_wp2_with (first
      |(go_at_call 231;with_reducible refine Cm (HC.out _) ?_)
      |(go_at_call 230;with_reducible refine (HH.out _).mono ?_;rintro e w2 ⟨rfl,hb⟩
        obtain ⟨c0,c1,c2,c3,c4,z0,z1,z2,z3,z4⟩:=HCC.out.below HG.out hb
        have HB:=Bx (Al HWW.out hb);clear hb))
     exact XXoUb
   | true=>
     obtain rfl:some ⟨3,s.data.toList,[],[],false⟩=R:=hR;rw [ans,hba,show ba []=E0 from rfl];clear hba;go_enter Tryz.func209,Tryz.ntmps209
     go_wp2_with (first
      |(go_at_call 231;with_reducible refine Cm (HC.out _) ?_)
      |(go_at_call 230;with_reducible refine (HH.out _).mono ?_;rintro e w2 ⟨rfl,hb⟩
        obtain ⟨c0,c1,c2,c3,c4,z0,z1,z2,z3,z4⟩:=HCC.out.below HG.out hb
        have HB:=Bx (Al HWW.out hb);clear hb))
     exact XXTgp
theorem XXQYT {P:Prop} (h:P:=by
 rw [hh] at HHo
 have HN:Hid (none=R):=Bx (by rw [←HR.out,absolute_none _ hh]);clear hh HR;go_wp2_with fail
 go_quiet (fail);rename_i nq;generalize s.extract k s.size=X at *;generalize s.extract 7 k=Y at *
 have HH2:Hid (∀w,Calls EW 230 #[ZY Y] w λe w'=>e=.returned (ZW false)/\Below w.heap.size w w'):=Bx (by rw [HX.out];exact HHo.out)
 have hbq:=Bx (Ak (An wc.heap.size wc) nq);generalize wc.drewN nq=wq at *
 go_wp2_with (go_at_call 230;with_reducible refine (HH2.out _).mono ?_;rintro e w2 ⟨rfl,hb⟩
              have hb':=Al hbq.out hb;obtain ⟨c0,c1,c2,c3,c4,z0,z1,z2,z3,z4⟩:=H1.out.below HG1.out hb'
              have HB:=Bx (Al HB1.out hb');clear hb hb')
 obtain ⟨W9,hW,⟨d0,d1,d2,d3,d4,_,_,_,_,_⟩,hbW⟩:=Tgb.put ⟨c0,c1,c2,c3,c4,z0,z1,z2,z3,z4⟩ HB.out (Db _) 0 E0 E0 E0 false;rw [hW]
 exact bodyPost_ret (v:=ZT #[tv 0 E0 E0 E0 false,ZZ ZS 400]) (by simp [results,Tryz.results209,go_sem,d0,d1,d2,d3,d4]) rfl ⟨by rw [←HN.out];rfl,hbW⟩):P:=h
theorem XXQk6 {P:Prop} (h:P:=by
 rw [hh] at HHo
 have HRR:Hid (relabel 2 (hostOf (s.data.toList.drop 7)) (origin (slashed (restOf (s.data.toList.drop 7))))=R):=Bx (by rw [←HR.out,absolute_relabel _ hh]);clear hh HR;go_wp2_with fail
 go_quiet (fail);rename_i nq;generalize s.extract k s.size=X at *;generalize s.extract 7 k=Y at *
 have HH2:Hid (∀w,Calls EW 230 #[ZY Y] w λe w'=>e=.returned (ZW true)/\Below w.heap.size w w'):=Bx (by rw [HX.out];exact HHo.out)
 have hbq:=Bx (Ak (An wc.heap.size wc) nq);generalize wc.drewN nq=wq at *
 go_wp2_with (go_at_call 230;with_reducible refine (HH2.out _).mono ?_;rintro e w2 ⟨rfl,hb⟩
              have HBH:=Bx (Al hbq.out hb);clear hb)
 go_meet
 case rel=>exact ⟨2,hostOf (s.data.toList.drop 7),slashed (restOf (s.data.toList.drop 7)),by rw [HSL.out],rfl,by rw [HX.out],HLEN.out,HRR,HBH⟩):P:=h
set_option maxRecDepth 10000 in
theorem rtarget_any (m s:ByteArray) (w:World) (hs:s.size<=900000000) :
 Calls EW 209 #[ZY m,ZY s] w λe w'=>e=.returned (ans (parse m.data.toList s.data.toList))/\Below w.heap.size w w':=by
 by_cases hm:m.data.toList=connect
 ·exact rtarget_connect m s w hs hm
 obtain ⟨t1,t2⟩:=eq_facts m [67,79,78,78,69,67,84] false (decide_eq_false hm);by_cases ho:m.data.toList=options/\s.data.toList= [42]
 ·obtain ⟨t3,t4⟩:=eq_facts m [79,80,84,73,79,78,83] true (decide_eq_true ho.1)
  obtain ⟨t5,t6⟩:=eq_facts s [42] true (decide_eq_true ho.2);rw [parse,if_neg hm,if_pos ho];clear ho hm;go_enter Tryz.func209,Tryz.ntmps209;go_wp2_with fail;exact bodyPost_ret (v:=ZT #[tv 4 E0 E0 E0 false,ZZ ZS 0]) (by simp [results,Tryz.results209,go_sem]) rfl ⟨rfl,(An _ _).alloc (Db _) _⟩
 obtain ⟨R,hR⟩:∃R,parse m.data.toList s.data.toList=R:=⟨_,rfl⟩;rw [hR];rw [parse_alt hm ho] at hR;have HR:=Bx hR;have hno:((m.toList == [79,80,84,73,79,78,83])=false/\(m.toList==(ByteArray.mk #[79,80,84,73,79,78,83]).toList)=false)∨((m.toList == [79,80,84,73,79,78,83])=true/\(m.toList==(ByteArray.mk #[79,80,84,73,79,78,83]).toList)=true/\(s.toList == [42])=false/\(s.toList==(ByteArray.mk #[42]).toList)=false):=by exact XXkkv
 have HNO:=Bx hno;clear ho hm hR hno;have hcc:=Tgb.new w 209 0 E0 E0 E0 false;have hww:Below w.heap.size w (w.alloc (.cells #[ZZ ZS 0,ZY E0,ZY E0,ZY E0,ZW false] 209)):=(An _ _).alloc (Db _) _;have hgg:w.heap.size<(w.alloc (.cells #[ZZ ZS 0,ZY E0,ZY E0,ZY E0,ZW false] 209)).heap.size:=by simp
 go_enter Tryz.func209,Tryz.ntmps209;go_upto_region 5 with fail
 generalize w.alloc (.cells #[ZZ ZS 0,ZY E0,ZY E0,ZY E0,ZW false] 209)=W at *;have HCC:=Bx hcc;have HWW:=Bx hww;have HG:=Bx hgg;clear hcc hww hgg
 go_cut [29] from 24 (λv wx=>v=ZW false/\wx=W)
 case first=>
  rcases HNO.out with ⟨t3,t4⟩ | ⟨t3,t4,t5,t6⟩;all_goals
   go_wp2_with fail;go_meet
   case rel=>exact ⟨rfl,rfl⟩
 case rest=>
  obtain ⟨rfl,hw0⟩:=hcut;rw [hw0];clear hw0 HNO;go_upto_region 8 with fail
  go_cut [38] from 31 (λv wx=>v=ZW (schemed s.data.toList)/\Hid (Below W.heap.size W wx))
  case first=>
   by_cases h7:7<=s.size
   ·have q7:(7:Int)<=(s.size:Int):=by omega
    have x1:(s.extract 0 7).data.toList=s.data.toList.take 7:=by rw [Bu];simp
    have hx1:(s.extract 0 7).size<=1000:=by rw [←len,x1,C0];omega
    have HM:=Bx (λw=>Txt.rsame_any (s.extract 0 7) ⟨#[104,116,116,112,58,47,47]⟩ w (by omega) (by decide));have hsm:same (s.extract 0 7) ⟨#[104,116,116,112,58,47,47]⟩=schemed s.data.toList:=by unfold same schemed;rw [x1,len,decide_eq_true h7];rfl
    rw [hsm] at HM;clear x1 hx1 hsm h7 HR;generalize schemed s.data.toList=sc at *
    go_wp2_with (go_at_call 148;with_reducible refine (HM.out _).mono ?_;rintro e w2 ⟨rfl,hb⟩);go_meet
    case rel=>exact ⟨rfl,Bx hb⟩
   ·have q7:¬(7:Int)<=(s.size:Int):=by omega
    have hsc:schemed s.data.toList=false:=by unfold schemed;rw [len,decide_eq_false h7,Av]
    have HSC:=Bx hsc;clear hsc h7;go_wp2_with fail;go_meet
    case rel=>exact ⟨by rw [HSC.out],Bx (An _ _)⟩
  case rest=>
   obtain ⟨rfl,hbc⟩:=hcut
   have H1:=Bx (HCC.out.below HG.out hbc.out)
   have HB1:=Bx (Al HWW.out hbc.out)
   have HG1:=Bx (Df HG.out hbc.out.size);clear HCC HWW HG hbc;go_upto_if 38 with fail
   go_cut [1,6,7] from 8 (λv1 v6 v7 wx=>∃(F:Nat) (HO SS:List UInt8),v1=ZY (ba SS)/\v6=ZZ ZS F/\v7=ZY (ba HO)/\SS.length<=1000000000/\Hid (relabel F HO (origin SS)=R)/\Hid (Below wc.heap.size wc wx))
   case first=>
    cases hsc:schemed s.data.toList with
    | false=>
      rw [hsc,if_neg (by decide),origin_relabel] at HR;clear hsc;go_wp2_with fail;go_meet
      case rel=>exact ⟨1,[],s.data.toList,rfl,rfl,rfl,by rw [len];omega,HR,Bx (An _ _)⟩
    | true=>
      rw [hsc,if_pos rfl] at HR;have hs7:7<=s.size:=by unfold schemed at hsc;rw [Ao,decide_eq_true_eq,len] at hsc;exact hsc.1
      clear hsc;go_wp2_with fail
      go_loop [8] (λi=>∃k:Nat,7<=k/\k<=s.size/\i=ZZ ZS k/\Hid (∀x∈(s.data.toList.drop 7).take (k-7),ended x=false)) (λi=>s.size-(intOf i).toNat)
      case atStart=>exact ⟨7,Db _,hs7,rfl,Bx (by simp)⟩
      case round=>
       obtain ⟨k,hlk,hle,rfl,hall⟩:=hrel;rcases Dg k s.size with hlt | hge
       ·have i1:(k:Int)<(s.size:Int):=by omega
        have hkl:k<s.data.toList.length:=by rw [len];exact hlt
        obtain ⟨c,hck⟩:∃c,s.data.toList[k]=c:=⟨_,rfl⟩;have hxk:∀h,s[k]'h=c:=λ_=>hck;have hdl:k-7<(s.data.toList.drop 7).length:=by rw [Cu,len];omega
        have hdk:(s.data.toList.drop 7)[k-7]=c:=by
         rw [List.getElem_drop,←hck]
         congr 1
         omega
        by_cases h47:c=47
        ·have t47:((c.toNat:Int) != 47)=false:=by rw [h47];rfl
         have hstop:(s.data.toList.drop 7).length<=k-7∨∃h:k-7<(s.data.toList.drop 7).length,ended (s.data.toList.drop 7)[k-7]=true:=.inr ⟨hdl,by rw [hdk,h47];rfl⟩;clear hdl hdk;have j7:(7:Int)<=(k:Int):=by omega
         have jk:(k:Int)<=(s.size:Int):=by omega
         obtain ⟨g1,g2⟩:=host_stop (s.data.toList.drop 7) (k-7) hall.out hstop;rw [List.drop_drop,show 7+(k-7)=k by omega] at g2
         have hx:s.extract 7 k=ba (hostOf (s.data.toList.drop 7)):=ba_ext (by rw [Bu,g1];rfl)
         have hy:s.extract k s.size=ba (restOf (s.data.toList.drop 7)):=ba_ext (by rw [drop_ext,g2];rfl)
         have HHo:=Bx (λw=>rhost_any (s.extract 7 k) w (by rw [hx,ba_size];have:=hostOf_le (s.data.toList.drop 7);rw [Cu,len] at this;omega));rw [hx,ba_list] at HHo
         have hlen:=slashed_le (restOf (s.data.toList.drop 7))
         have hrl:=restOf_le (s.data.toList.drop 7);rw [Cu,len] at hrl
         have HLEN:=Bx (show (slashed (restOf (s.data.toList.drop 7))).length<=1000000000 by omega);have hre:restOf (s.data.toList.drop 7)=47::s.data.toList.drop (k+1):=by rw [g2,BQ hkl,hck,h47]
         have hemp:(s.extract k s.size).toList.isEmpty=false:=by rw [hy];exact full_of hre
         have hpos:(0:Int)<((s.extract k s.size).size:Int):=by rw [hy,ba_size,hre,List.length_cons];omega
         have hat:∀h,(s.extract k s.size)[0]'h=47:=λh=>at_zero (by rw [hy];exact hre) h;have hsl:s.extract k s.size=ba (slashed (restOf (s.data.toList.drop 7))):=by rw [hy,hre];rfl
         have HX:=Bx hx;have HSL:=Bx hsl;clear hx hy hsl hre g1 g2 hlen hrl hstop hall hck hkl h47;cases hh:hostB (hostOf (s.data.toList.drop 7)) with
         | false=>
           exact XXQYT
         | true=>
           exact XXQk6
        ·have t47:((c.toNat:Int) != 47)=true:=bne_iff_ne.2 λe=>h47 (FM.1 (by show c.toNat=47;omega));by_cases h63:c=63
         ·have t63:((c.toNat:Int) != 63)=false:=by rw [h63];rfl
          have hstop:(s.data.toList.drop 7).length<=k-7∨∃h:k-7<(s.data.toList.drop 7).length,ended (s.data.toList.drop 7)[k-7]=true:=.inr ⟨hdl,by rw [hdk,h63];rfl⟩;clear hdl hdk;have j7:(7:Int)<=(k:Int):=by omega
          have jk:(k:Int)<=(s.size:Int):=by omega
          obtain ⟨g1,g2⟩:=host_stop (s.data.toList.drop 7) (k-7) hall.out hstop;rw [List.drop_drop,show 7+(k-7)=k by omega] at g2
          have hx:s.extract 7 k=ba (hostOf (s.data.toList.drop 7)):=ba_ext (by rw [Bu,g1];rfl)
          have hy:s.extract k s.size=ba (restOf (s.data.toList.drop 7)):=ba_ext (by rw [drop_ext,g2];rfl)
          have HHo:=Bx (λw=>rhost_any (s.extract 7 k) w (by rw [hx,ba_size];have:=hostOf_le (s.data.toList.drop 7);rw [Cu,len] at this;omega));rw [hx,ba_list] at HHo
          have hlen:=slashed_le (restOf (s.data.toList.drop 7))
          have hrl:=restOf_le (s.data.toList.drop 7);rw [Cu,len] at hrl
          have HLEN:=Bx (show (slashed (restOf (s.data.toList.drop 7))).length<=1000000000 by omega);have hre:restOf (s.data.toList.drop 7)=63::s.data.toList.drop (k+1):=by rw [g2,BQ hkl,hck,h63]
          have hemp:(s.extract k s.size).toList.isEmpty=false:=by rw [hy];exact full_of hre
          have hpos:(0:Int)<((s.extract k s.size).size:Int):=by rw [hy,ba_size,hre,List.length_cons];omega
          have hat:∀h,(s.extract k s.size)[0]'h=63:=λh=>at_zero (by rw [hy];exact hre) h
          have hsl:(⟨#[47]⟩:ByteArray)++s.extract k s.size=ba (slashed (restOf (s.data.toList.drop 7))):=by rw [hy,hre];exact ba_ext (by simp [ba,slashed])
          have hv:¬9223372036854775807<1+(s.extract k s.size).size:=by rw [hy,ba_size];omega
          have HX:=Bx hx;have HSL:=Bx hsl;clear hx hy hsl hre g1 g2 hlen hrl hstop hall hck hkl h63 h47;cases hh:hostB (hostOf (s.data.toList.drop 7)) with
          | false=>
            exact XXQYT
          | true=>
            exact XXQk6
         ·have t63:((c.toNat:Int) != 63)=true:=bne_iff_ne.2 λe=>h63 (FM.1 (by show c.toNat=63;omega))
          have HN:Hid (∀x∈(s.data.toList.drop 7).take (k+1-7),ended x=false):=Bx (by
           rw [show k+1-7=(k-7)+1 by omega,CO hdl,hdk];intro x hx;rcases C3.1 hx with hx | hx
           ·exact hall.out x hx
           ·obtain rfl:x=c:=by simpa using hx
            simp [ended,h47,h63])
          clear h47 h63 hdl hdk hck hkl hall;go_wp2_with fail;go_round
          case rel=>exact ⟨k+1,by omega,by omega,by go_num,HN⟩
          case measure=>simp [intOf];omega
       ·have i1:¬(k:Int)<(s.size:Int):=by omega
        have hstop:(s.data.toList.drop 7).length<=k-7∨∃h:k-7<(s.data.toList.drop 7).length,ended (s.data.toList.drop 7)[k-7]=true:=.inl (by rw [Cu,len];omega);have j7:(7:Int)<=(k:Int):=by omega
        have jk:(k:Int)<=(s.size:Int):=by omega
        obtain ⟨g1,g2⟩:=host_stop (s.data.toList.drop 7) (k-7) hall.out hstop;rw [List.drop_drop,show 7+(k-7)=k by omega] at g2
        have hx:s.extract 7 k=ba (hostOf (s.data.toList.drop 7)):=ba_ext (by rw [Bu,g1];rfl)
        have hy:s.extract k s.size=ba (restOf (s.data.toList.drop 7)):=ba_ext (by rw [drop_ext,g2];rfl)
        have HHo:=Bx (λw=>rhost_any (s.extract 7 k) w (by rw [hx,ba_size];have:=hostOf_le (s.data.toList.drop 7);rw [Cu,len] at this;omega));rw [hx,ba_list] at HHo
        have hlen:=slashed_le (restOf (s.data.toList.drop 7))
        have hrl:=restOf_le (s.data.toList.drop 7);rw [Cu,len] at hrl
        have HLEN:=Bx (show (slashed (restOf (s.data.toList.drop 7))).length<=1000000000 by omega)
        have hre:restOf (s.data.toList.drop 7)= []:=by rw [g2];exact List.drop_eq_nil_of_le (by rw [len];omega)
        have hemp:(s.extract k s.size).toList.isEmpty=true:=by rw [hy,hre];exact empty_of rfl
        have hsl:(⟨#[47]⟩:ByteArray)++s.extract k s.size=ba (slashed (restOf (s.data.toList.drop 7))):=by rw [hy,hre];exact ba_ext (by simp [ba,slashed])
        have hv:¬9223372036854775807<1+(s.extract k s.size).size:=by rw [hy,ba_size];omega
        have HX:=Bx hx;have HSL:=Bx hsl;clear hx hy hsl hre g1 g2 hlen hrl hstop hall;cases hh:hostB (hostOf (s.data.toList.drop 7)) with
        | false=>
          exact XXQYT
        | true=>
          exact XXQk6
   case rest=>
    obtain ⟨F,HO,SS,rfl,rfl,rfl,hSS,hRR,hbc⟩:=hcut
    have H2:=Bx (H1.out.below HG1.out hbc.out)
    have HB2:=Bx (Al HB1.out hbc.out)
    have HG2:=Bx (Df HG1.out hbc.out.size);clear H1 HB1 HG1 hbc HR
    have HOR:=Bx (λw=>rorigin_any (ba SS) w (by rw [ba_size];omega));rw [ba_list] at HOR;have hor:origin SS=if (pathB (cutAt 63 SS).1&&queryB (cutAt 63 SS).2.1)=true then some ⟨1,[],(cutAt 63 SS).1,(cutAt 63 SS).2.1,(cutAt 63 SS).2.2⟩ else none:=rfl
    rw [hor] at hRR;clear hor;generalize (cutAt 63 SS).1=p at *;generalize (cutAt 63 SS).2.1=q at *;generalize (cutAt 63 SS).2.2=bb at *;cases hk:(pathB p&&queryB q) with
    | false=>
      rw [hk] at HOR hRR;have HN:Hid (none=R):=hRR;clear hk hRR
      go_upto_if 82 with (go_at_call 232;with_reducible refine (HOR.out _).mono ?_;rintro e w2 ⟨rfl,hb⟩)
      have hb3:Below wc.heap.size wc (w2.alloc (.cells #[ZZ ZS 0,ZY E0,ZY (ba p),ZY (ba q),ZW bb] 209)):=hb.alloc hb.size _;generalize w2.alloc (.cells #[ZZ ZS 0,ZY E0,ZY (ba p),ZY (ba q),ZW bb] 209)=W3 at *;obtain ⟨c0,c1,c2,c3,c4,z0,z1,z2,z3,z4⟩:=H2.out.below HG2.out hb3
      have HB:=Bx (Al HB2.out hb3);clear hb hb3 H2 HB2 HG2;go_wp2_with fail;obtain ⟨W9,hW,⟨d0,d1,d2,d3,d4,_,_,_,_,_⟩,hbW⟩:=Tgb.put ⟨c0,c1,c2,c3,c4,z0,z1,z2,z3,z4⟩ HB.out (Db _) 0 E0 E0 E0 false;rw [hW];exact bodyPost_ret (v:=ZT #[tv 0 E0 E0 E0 false,ZZ ZS 400]) (by simp [results,Tryz.results209,go_sem,d0,d1,d2,d3,d4]) rfl ⟨by rw [←HN.out];rfl,hbW⟩
    | true=>
      rw [hk] at HOR hRR;have HN:Hid (some ⟨F,HO,p,q,bb⟩=R):=hRR;clear hk hRR
      go_upto_if 82 with (go_at_call 232;with_reducible refine (HOR.out _).mono ?_;rintro e w2 ⟨rfl,hb⟩)
      have HT5:=Bx (Tgb.new w2 209 0 E0 (ba p) (ba q) bb);have hb3:Below wc.heap.size wc (w2.alloc (.cells #[ZZ ZS 0,ZY E0,ZY (ba p),ZY (ba q),ZW bb] 209)):=hb.alloc hb.size _;have hne:w.heap.size<w2.heap.size:=Df HG2.out hb.size;generalize w2.alloc (.cells #[ZZ ZS 0,ZY E0,ZY (ba p),ZY (ba q),ZW bb] 209)=W3 at *;obtain ⟨c0,c1,c2,c3,c4,z0,z1,z2,z3,z4⟩:=H2.out.below HG2.out hb3;obtain ⟨a0,a1,a2,a3,a4,y0,y1,y2,y3,y4⟩:=HT5.out
      have HB:=Bx (Al HB2.out hb3);clear hb hb3 H2 HB2 HG2 HT5;have n1:¬w.heap.size=w2.heap.size:=by omega
      have n2:¬w2.heap.size=w.heap.size:=by omega
      generalize w2.heap.size=g7 at *;go_wp2_with fail
      have hB5:=(HB.out.setCell (p:=⟨g7,0,none⟩) (Da hne) (ZZ ZS F)).setCell (p:=⟨g7,1,none⟩) (Da hne) (ZY (ba HO));obtain ⟨W9,hW,⟨d0,d1,d2,d3,d4,_,_,_,_,_⟩,hbW⟩:=Tgb.put (((Tgb.mk c0 c1 c2 c3 c4 z0 z1 z2 z3 z4).other g7 0 (ZZ ZS F) n2).other g7 1 (ZY (ba HO)) n2) hB5 (Db _) F (ba HO) (ba p) (ba q) bb;rw [hW];exact bodyPost_ret (v:=ZT #[tv F (ba HO) (ba p) (ba q) bb,ZZ ZS 0]) (by simp [results,Tryz.results209,go_sem,d0,d1,d2,d3,d4]) rfl ⟨by rw [←HN.out];rfl,hbW⟩
end
end Go.Proofs.YtdfabddnpgjepaaGreatDoor.Tgt
namespace Go.Proofs.YtdfabddnpgjepaaGreatDoor.Frm
open Go.RowKit Base Txt
def Rowf (w:World) (g n:Nat) (f:Nat->ByteArray):Prop:=∀j,j<n->w.cell? ⟨g,j,none⟩=some (ZY (f j))/\w.frozen? ⟨g,j,none⟩=false
theorem Rowf.set {w:World} {g n:Nat} {f:Nat->ByteArray} (h:Rowf w g n f) (k:Nat) (x:ByteArray):Rowf (w.setCell ⟨g,k,none⟩ (ZY x)) g n (λj=>if j=k then x else f j):=by
 intro j hj;obtain ⟨c,z⟩:=h j hj;refine ⟨?_,by rw [World.frozen?_setCell];exact z⟩;by_cases e:j=k
 ·subst e;rw [World.cell?_setCell_same _ _ _ c];simp
 ·rw [World.cell?_setCell_other _ _ _ _ (by simp<;>omega)];simp only [if_neg e];exact c
theorem Rowf.below {w w':World} {g n:Nat} {f:Nat->ByteArray} (h:Rowf w g n f) (hg:g<w.heap.size) (hb:Below w.heap.size w w'):Rowf w' g n f:=
 λj hj=>⟨(hb.cell (p:=⟨g,j,none⟩) hg).trans (h j hj).1,(hb.frozen (p:=⟨g,j,none⟩) hg).trans (h j hj).2⟩
theorem Rowf.congr {w:World} {g n:Nat} {f f':Nat->ByteArray} (h:Rowf w g n f) (e:∀j,j<n->f j=f' j):Rowf w g n f':=
 λj hj=>by rw [←e j hj];exact h j hj
theorem rowf_of_own {w:World} {base:Nat} {e:TypeId} {v:Value} {n:Nat} {ss:List ByteArray} (h:w.ownsRow base e 1 v n (ss.map Value.string)) :
 ∃A c,v=.slice A n c/\(0<n->∃g,A=some ⟨g,0,none⟩/\base<=g/\g<w.heap.size/\Rowf w g n (λj=>ss[j]?.getD A8)):=by
 have hl:ss.length=n:=by simpa using h.1
 rcases h.2 with ⟨rfl,rfl⟩ | ⟨g,cap,cur,rfl,hbg,hh,hnc,_,hsz,ht⟩
 ·exact ⟨none,0,rfl,λh=>absurd h (by omega)⟩
 ·refine ⟨_,_,rfl,λ_=>⟨g,rfl,hbg,?_,λk hk=>⟨?_,?_⟩⟩⟩
  ·exact XXPZ2
  ·rw [cell_of_row w g k cur e (0,0) hh];exact XX100
  ·unfold World.frozen?;simp only [hh];simp
def norm (tb:Bool) (v:ByteArray):ByteArray:=lower (if tb=true then trimOf v blanksOf else v)
theorem norm_is (tb:Bool) (v:ByteArray):decide (norm tb v=chunked)=isC tb v:=lower_chunked _
def mixN (tb:Bool) (ls:List ByteArray) (k:Nat) (j:Nat):ByteArray:=if j<k then norm tb (ls[j]?.getD A8) else ls[j]?.getD A8
theorem count_snoc (bs:List Bool) (k:Nat) (h:k<bs.length):(bs.take (k+1)).countP id=(bs.take k).countP id+(if bs[k]=true then 1 else 0):=by
 rw [CO h,List.countP_append]
 congr 1
 cases bs[k]<;>rfl
section
set_option maxHeartbeats 4000000
set_option maxRecDepth 10000
attribute [local go_sem] Am
theorem rcoding_any (p:Nat) (hp:p<4294967296) (a:Option Addr) (n cap:Nat) (vs:List ByteArray) (w:World) (hv:Strs w a n vs) (hr:room vs<=1000000000) :
 Calls EW 234 #[ZZ ZQ (p:Nat),.slice a n cap] w λe w'=>e=.returned (ZW (coding (D0 p 17) (D0 p 18) vs))/\Below w.heap.size w w':=by
 have HL:=Bx (rlist_own a n cap vs w hv hr)
 have H17:=Bx (λw=>D4 p hp 17 w)
 have H18:=Bx (λw=>D4 p hp 18 w)
 have HM:=Bx (λx hx=>Dd (list_mem_size vs x hx) hr);have hlr:=Dd (list_le vs) hr;have HX:coding (D0 p 17) (D0 p 18) vs=((decide (((list vs).map (isC (D0 p 17))).countP id=1)&&((list vs).map (isC (D0 p 17))).getLastD false)&&(decide ((list vs).length=1)||D0 p 18)):=by rw [only_count];rfl
 rw [HX];clear HX hv hr hp;generalize list vs=ls at *;generalize D0 p 17=tb at *;generalize D0 p 18=tl at *;obtain ⟨m,hm⟩:∃m,ls.length=m:=⟨_,rfl⟩;rw [hm] at HL hlr ⊢
 have HSZ:=Bx (λk (hk:k<m)=>show (ls[k]?.getD A8).size<=1000000000 by
  rw [Ca (by omega)]
  exact HM.out _ (Ci _))
 obtain ⟨bs,hbs⟩:∃bs,ls.map (isC tb)=bs:=⟨_,rfl⟩;rw [hbs]
 have HBL:=Bx (show bs.length=m by rw [←hbs,Cw,hm])
 have HBA:=Bx (λk (hk:k<m)=>show bs[k]'(by rw [HBL.out];exact hk)=isC tb (ls[k]?.getD A8) by simp only [←hbs,List.getElem_map];rw [Ca (by omega)];rfl)
 clear HM hbs hm;obtain ⟨R,hR0⟩:∃R,((decide (bs.countP id=1)&&bs.getLastD false)&&(decide (m=1)||tl))=R:=⟨_,rfl⟩;rw [hR0];have HRR:=Bx hR0;clear hR0;rcases CZ m with h0 | h0
 ·subst h0;have e0:bs= []:=BT HBL.out;subst e0
  have HRF:=Bx (show R=false from HRR.out.symm);clear HBA HBL HSZ hlr HRR;go_enter Tryz.func234,Tryz.ntmps234
  go_wp2_with (go_at_call 119;with_reducible refine (HL.out).mono ?_;rintro e w1 ⟨v,rfl,ho,hb⟩
               obtain ⟨A1,c1,rfl,_⟩:=rowf_of_own ho;have HB:=Bx hb;clear ho hb)
  go_loopw [6] (λi wr=>i=ZZ ZS 0/\wr=w1) (λi _=>0)
  case atStart=>exact ⟨rfl,rfl⟩
  case round=>
   obtain ⟨rfl,rfl⟩:=hrel;go_wp2_with fail
   go_loopw [7,8] (λc i wr'=>c=ZZ ZS 0/\i=ZZ ZS 0/\wr'=wr) (λ_ i _=>0)
   case atStart=>exact ⟨rfl,rfl,rfl⟩
   case round=>obtain ⟨rfl,rfl,rfl⟩:=hrel;go_wp2_with fail;go_ret;exact ⟨by rw [HRF.out];rfl,HB.out⟩
 have HT:=Bx (λv (hv:v.size<=1000000000) w=>rtrimOf_any v ⟨#[11,12,32,9]⟩ w (by decide) (Dd hv (by decide)))
 have HLo:=Bx (λv (hv:v.size<=1000000000) w=>rlower_any v w (Dd hv (by decide)))
 have HTZ:=Bx (λv (hv:v.size<=1000000000)=>show (trimOf v ⟨#[11,12,32,9]⟩).size<=1000000000 from Dd (trim_size _ _) hv)
 have HC1:=Bx (show IntKind.i64.wrap ((m:Int)-1)=((m-1:Nat):Int) by rw [Base.wrap_in _ (by omega) (by omega)];omega)
 have HC2:=Bx (show wrap64 ((m:Int)-1)=((m-1:Nat):Int) by unfold wrap64;omega);go_enter Tryz.func234,Tryz.ntmps234
 go_wp2_with (go_at_call 119;with_reducible refine (HL.out).mono ?_;rintro e w1 ⟨v,rfl,ho,hb⟩
              obtain ⟨A1,c3,rfl,ho2⟩:=rowf_of_own ho;obtain ⟨g,rfl,hg,hlt,hR⟩:=ho2 h0
              have HR0:=Bx (show Rowf w1 g m (mixN tb ls 0) from hR.congr λj _=>by simp [mixN]);have HB:=Bx hb;clear ho hb ho2 hR)
 go_loopw [6] (λi wr=>∃k:Nat,k<=m/\i=ZZ ZS k/\Hid (Below w.heap.size w wr)/\Hid (Rowf wr g m (mixN tb ls k))/\g<wr.heap.size) (λi _=>m-(intOf i).toNat)
 case atStart=>exact ⟨0,Dj _,rfl,HB,HR0,hlt⟩
 case round=>
  obtain ⟨k,hk,rfl,hbr,hR,hgl⟩:=hrel;rcases Dg k m with hlk | hge
  ·obtain ⟨hck,hzk⟩:=hR.out k hlk;have hsz:=HSZ.out k hlk;rw [show mixN tb ls k k=ls[k]?.getD A8 from if_neg (Nat.lt_irrefl k)] at hck
   have HS:=Bx (λx (hx:x=norm tb (ls[k]?.getD A8)) (w':World) (h:Rowf w' g m (mixN tb ls k))=>show Rowf (w'.setCell ⟨g,k,none⟩ (ZY x)) g m (mixN tb ls (k+1)) from (h.set k x).congr λj hj=>by
    unfold mixN;by_cases e:j=k
    ·rw [if_pos e,if_pos (by omega),hx,e]
    ·rw [if_neg e];by_cases e2:j<k
     ·rw [if_pos e2,if_pos (by omega)]
     ·rw [if_neg e2,if_neg (by omega)])
   have HS2:=Bx (λT x (hx:x=norm tb (ls[k]?.getD A8)) (w':World) (h:Rowf w' g m (λj=>if j=k then T else mixN tb ls k j))=>show Rowf (w'.setCell ⟨g,k,none⟩ (ZY x)) g m (mixN tb ls (k+1)) from (h.set k x).congr λj hj=>by
    unfold mixN;by_cases e:j=k
    ·rw [if_pos e,if_pos (by omega),hx,e]
    ·rw [if_neg e,if_neg e];by_cases e2:j<k
     ·rw [if_pos e2,if_pos (by omega)]
     ·rw [if_neg e2,if_neg (by omega)])
   generalize ls[k]?.getD A8=x at *;have i1:(k:Int)<(m:Int):=by omega
   cases tb with
   | false=>
     have HC:=Bx (HLo.out x hsz)
     have HY:=Bx (show lower x=norm false x from rfl);generalize lower x=y at *;clear HT HTZ hsz
     go_wp2_with (first
      |(go_at_call 44;with_reducible refine Cm (H17.out _) ?_)
      |(go_at_call 176;(with_reducible refine (HC.out _).mono ?_);rintro e w3 ⟨rfl,hb⟩
        have HB3:=Bx (Al hbr.out hb);have hR3:=hR.out.below hgl hb;have hg3:=Df hgl hb.size;clear hck hzk;obtain ⟨hck,hzk⟩:=hR3 k hlk;have HR3:=Bx hR3;clear hb hR3))
     go_roundw
     case rel=>exact ⟨k+1,by omega,by go_num,Bx (HB3.out.setCell hg _),Bx (HS.out _ HY.out _ HR3.out),by simpa using hg3⟩
     case measure=>simp [intOf];omega
   | true=>
     have HT2:=Bx (HT.out x hsz);have hsT:=HTZ.out x hsz
     have HY0:=Bx (show lower (trimOf x ⟨#[11,12,32,9]⟩)=norm true x from rfl);generalize trimOf x ⟨#[11,12,32,9]⟩=T at *
     have HC:=Bx (HLo.out T hsT)
     have HRT:=Bx (hR.out.set k T)
     have HBT:Hid (Below w.heap.size w (wr.setCell ⟨g,k,none⟩ (ZY T))):=Bx (hbr.out.setCell hg _);have hgT:g<(wr.setCell ⟨g,k,none⟩ (ZY T)).heap.size:=by simpa using hgl
     generalize lower T=y at *;clear HT HTZ hsz hsT
     go_wp2_with (first
      |(go_at_call 44;with_reducible refine Cm (H17.out _) ?_)
      |(go_at_call 169;with_reducible refine Cm (HT2.out _) ?_)
      |(go_at_call 176;(with_reducible refine (HC.out _).mono ?_);rintro e w3 ⟨rfl,hb⟩
        have HB3:=Bx (Al HBT.out hb);have hR3:=HRT.out.below hgT hb;have hg3:=Df hgT hb.size;clear hck hzk;obtain ⟨hck,hzk⟩:=hR3 k hlk;have HR3:=Bx hR3;clear hb hR3))
     go_roundw
     case rel=>exact ⟨k+1,by omega,by go_num,Bx (HB3.out.setCell hg _),Bx (HS2.out _ _ HY0.out _ HR3.out),by simpa using hg3⟩
     case measure=>simp [intOf];omega
  ·obtain rfl:k=m:=by omega
   have HRk:=Bx (hR.out.congr (f':=λj=>norm tb (ls[j]?.getD A8)) λj hj=>if_pos hj);have HBk:=hbr;clear hR hbr HR0 HT HLo HTZ HSZ H17 HL;go_wp2_with fail
   go_loop [7,8] (λc i=>∃j:Nat,j<=k/\i=ZZ ZS j/\∃q:Nat,c=ZZ ZS q/\q<=j/\Hid (q=(bs.take j).countP id)) (λ_ i=>k-(intOf i).toNat)
   case atStart=>exact ⟨0,Dj _,rfl,0,rfl,Db _,Bx rfl⟩
   case round=>
    obtain ⟨j,hj,rfl,q,rfl,hqj,HQ⟩:=hrel;rcases Dg j k with hlj | hgj
    ·have hcj:wr.cell? ⟨g,j,none⟩=some (ZY (norm tb (ls[j]?.getD A8))):=(HRk.out j hlj).1
     have HN:=Bx (count_snoc bs j (by rw [HBL.out];exact hlj));have hbj:=HBA.out j hlj;rw [←norm_is] at hbj;have HBJ:=Bx hbj;clear hbj;generalize norm tb (ls[j]?.getD A8)=x at *;have i1:(j:Int)<(k:Int):=by omega
     have hq1:q+1<=j+1:=by omega
     have hq2:q<=j+1:=by omega
     have hj1:j+1<=k:=by omega
     have c3:wrap64 ((q:Int)+1)=((q+1:Nat):Int):=by unfold wrap64;omega
     by_cases hx:x=chunked
     ·have H2:=Bx (show q+1=(bs.take (j+1)).countP id by
       rw [HN.out,HBJ.out,decide_eq_true hx,if_pos rfl,←HQ.out])
      obtain ⟨t1,t2⟩:=Tgt.eq_facts x [99,104,117,110,107,101,100] true (decide_eq_true (by rw [hx]));clear HN HBJ hx;go_wp2_with fail;clear c3;go_round
      case rel=>exact ⟨j+1,hj1,by go_num,q+1,rfl,hq1,H2⟩
      case measure=>simp [intOf];omega
     ·have H2:=Bx (show q=(bs.take (j+1)).countP id by
       rw [HN.out,HBJ.out,decide_eq_false hx,if_neg (by decide),←HQ.out];rfl)
      obtain ⟨t1,t2⟩:=Tgt.eq_facts x [99,104,117,110,107,101,100] false (decide_eq_false λe=>hx (ba_ext e));clear HN HBJ hx c3;go_wp2_with fail;go_round
      case rel=>exact ⟨j+1,hj1,by go_num,q,rfl,hq2,H2⟩
      case measure=>simp [intOf];omega
    ·obtain rfl:j=k:=by omega
     have hcl:wr.cell? ⟨g,j-1,none⟩=some (ZY (norm tb (ls[j-1]?.getD A8))):=(HRk.out (j-1) (by omega)).1;have hQ:=HQ.out;rw [CN (by rw [HBL.out];exact Db _)] at hQ;have hRR:=HRR.out;rw [←hQ] at hRR;have hlast:bs.getLastD false=decide (norm tb (ls[j-1]?.getD A8)=chunked):=by rw [norm_is,←HBA.out (j-1) (by omega),List.getLastD_eq_getLast?,List.getLast?_eq_getElem?,show bs.length-1=j-1 by rw [HBL.out],Ca (by rw [HBL.out];omega)];rfl
     rw [hlast] at hRR;have HR2:=Bx hRR;have HJ:=Bx hgj;have c1:=HC1.out;have c2:=HC2.out;clear hQ hlast HQ HBA HBL hgj hRR HRR HC1 HC2;generalize norm tb (ls[j-1]?.getD A8)=x at *;have i1:((j-1:Nat):Int)<(j:Int):=by omega
     generalize j-1=j1 at *;by_cases hq:q=1
     ·have t0:((q:Int)==1)=true:=beq_iff_eq.2 (by omega);by_cases hx:x=chunked
      ·obtain ⟨t1,t2⟩:=Tgt.eq_facts x [99,104,117,110,107,101,100] true (decide_eq_true (by rw [hx]));by_cases h1:j=1
       ·have t3:((j:Int)==1)=true:=beq_iff_eq.2 (by omega)
        have HH:=Bx (show R=true by rw [←HR2.out,decide_eq_true hq,decide_eq_true hx,decide_eq_true h1];rfl);clear h1 hq hx HR2;go_wp2_with fail;go_ret;exact ⟨by rw [HH.out];rfl,HBk.out⟩
       ·have t3:((j:Int)==1)=false:=beq_eq_false_iff_ne.2 (by omega)
        have HH:=Bx (show R=tl by rw [←HR2.out,decide_eq_true hq,decide_eq_true hx,decide_eq_false h1];rfl);clear h1 hq hx HR2
        go_wp2_with (go_at_call 44;with_reducible refine Cm (H18.out _) ?_);go_ret;exact ⟨by rw [HH.out];rfl,HBk.out⟩
      ·obtain ⟨t1,t2⟩:=Tgt.eq_facts x [99,104,117,110,107,101,100] false (decide_eq_false λe=>hx (ba_ext e))
       have HH:=Bx (show R=false by rw [←HR2.out,decide_eq_true hq,decide_eq_false hx];rfl);clear hq hx HR2;go_wp2_with fail;go_ret;exact ⟨by rw [HH.out];rfl,HBk.out⟩
     ·have t0:((q:Int)==1)=false:=beq_eq_false_iff_ne.2 (by omega)
      have HH:=Bx (show R=false by rw [←HR2.out,decide_eq_false hq];rfl);clear hq HR2;go_wp2_with fail;go_ret;exact ⟨by rw [HH.out];rfl,HBk.out⟩
end
end Go.Proofs.YtdfabddnpgjepaaGreatDoor.Frm
namespace Go.Proofs.YtdfabddnpgjepaaGreatDoor.Frm
open Go.RowKit Base Txt
section
set_option maxHeartbeats 4000000
set_option maxRecDepth 10000
attribute [local go_sem] Am
theorem XXlUm {P:Prop} (h:P:=by
 simp only at hR;have hs:=HMN.out S rfl;have hways:(K=0/\S=y)∨(¬K=0/\al=true/\S=y)∨(¬K=0/\al=false/\lf=true/\S=y)∨(¬K=0/\al=false/\lf=false/\ll=true/\S=z):=by
  by_cases hK:K=0
  ·rw [decide_eq_true hK] at hO3;exact .inl ⟨hK,by simpa using hO3⟩
  ·rw [decide_eq_false hK] at hO3;cases al
   ·cases lf
    ·cases ll
     ·simp at hO3
     ·exact .inr (.inr (.inr ⟨hK,rfl,rfl,rfl,by simpa using hO3⟩))
    ·exact .inr (.inr (.inl ⟨hK,rfl,rfl,by simpa using hO3⟩))
   ·exact .inr (.inl ⟨hK,rfl,by simpa using hO3⟩)
 have HW:=Bx hways;clear hO3 hways;have hK4:(K=0/\S=y)∨(¬K=0/\al=true/\S=y)∨(¬K=0/\al=false/\lf=true/\S=y)∨(¬K=0/\al=false/\lf=false/\ll=true/\S=z):=HW.out;clear HW;rcases hK4 with ⟨hK,rfl⟩ | ⟨hK,rfl,rfl⟩ | ⟨hK,rfl,rfl,rfl⟩ | ⟨hK,rfl,rfl,rfl,rfl⟩;all_goals
  first
   |(have tK:((((K+1:Nat)):Int)==1)=true:=beq_iff_eq.2 (by omega))
   |(have tK:((((K+1:Nat)):Int)==1)=false:=beq_eq_false_iff_ne.2 (by omega)
     have tK2:((K:Int)+1==1)=false:=beq_eq_false_iff_ne.2 (by omega);have tK3:¬(K:Int)=0:=by omega)
  have HD:=Bx (HT.out S hs);clear HT HMN;generalize hNN:Num.readOf 10 most (unplus lp S).data.toList=N at *;clear hNN;obtain ⟨N1,N2⟩:=N;simp only at HD;unfold numV at hR;simp only at hR;have hcase:(N2=22/\R=(0,400))∨((N2==22)=false/\N2=23/\R=(0,413))∨((N2==22)=false/\(N2==23)=false/\R=(N1,0)):=by
   by_cases h1:N2=22
   ·rw [if_pos h1] at hR;exact .inl ⟨h1,hR.symm⟩
   ·rw [if_neg h1] at hR;by_cases h2:N2=23
    ·rw [if_pos h2] at hR;exact .inr (.inl ⟨beq_eq_false_iff_ne.2 h1,h2,hR.symm⟩)
    ·rw [if_neg h2] at hR;exact .inr (.inr ⟨beq_eq_false_iff_ne.2 h1,beq_eq_false_iff_ne.2 h2,hR.symm⟩)
  clear hR;cases lp with
  | false=>
    rw [show unplus false S=S from rfl] at HD;rcases hcase with ⟨rfl,rfl⟩ | ⟨t1,rfl,rfl⟩ | ⟨t1,t2,rfl⟩;all_goals
     go_wp2_with (first
      |(go_at_call 44;with_reducible refine Cm (H23.out _) ?_) |(go_at_call 44;with_reducible refine Cm (H25.out _) ?_) |(go_at_call 44;with_reducible refine Cm (H26.out _) ?_)
      |(go_at_call 252;with_reducible refine Cm (HD.out _) ?_))
     go_ret2;exact ⟨rfl,HBq.out⟩
  | true=>
    rcases CZ S.size with hz0 | hz0
    ·have e0:S.toList.isEmpty=true:=by
      rw [B9,List.length_eq_zero_iff.1 (show S.data.toList.length=0 by rw [len];exact hz0)];rfl
     rw [show unplus true S=S by unfold unplus;rw [List.length_eq_zero_iff.1 (show S.data.toList.length=0 by rw [len];exact hz0)];rfl] at HD;clear hz0;rcases hcase with ⟨rfl,rfl⟩ | ⟨t1,rfl,rfl⟩ | ⟨t1,t2,rfl⟩;all_goals
      go_wp2_with (first
       |(go_at_call 44;with_reducible refine Cm (H23.out _) ?_) |(go_at_call 44;with_reducible refine Cm (H25.out _) ?_) |(go_at_call 44;with_reducible refine Cm (H26.out _) ?_)
       |(go_at_call 252;with_reducible refine Cm (HD.out _) ?_))
      go_ret2;exact ⟨rfl,HBq.out⟩
    ·obtain ⟨e1,e2,e0⟩:=first_of S hz0;have i0:(0:Int)<(S.size:Int):=by omega
     have i1:(1:Int)<=(S.size:Int):=by omega
     have i2:(S.size:Int)<=9223372036854775807:=by omega
     by_cases hp:S[0]=43
     ·have t3:(((S[0].toNat:Nat):Int)==43)=true:=by rw [hp];rfl
      rw [show unplus true S=S.extract 1 S.size from by
       unfold unplus;rw [if_pos (by rw [e1,hp];rfl)]
       exact ba_ext e2.symm] at HD
      clear e1 e2 hp;rcases hcase with ⟨rfl,rfl⟩ | ⟨t1,rfl,rfl⟩ | ⟨t1,t2,rfl⟩;all_goals
       go_wp2_with (first
        |(go_at_call 44;with_reducible refine Cm (H23.out _) ?_) |(go_at_call 44;with_reducible refine Cm (H25.out _) ?_) |(go_at_call 44;with_reducible refine Cm (H26.out _) ?_)
        |(go_at_call 252;with_reducible refine Cm (HD.out _) ?_))
       go_ret2;exact ⟨rfl,HBq.out⟩
     ·have t3:(((S[0].toNat:Nat):Int)==43)=false:=beq_eq_false_iff_ne.2 (λe=>hp (FM.1 (show S[0].toNat=(43:UInt8).toNat from by have e43:(43:UInt8).toNat=43:=rfl;omega)))
      rw [show unplus true S=S from by
       unfold unplus
       rw [if_neg (by rw [e1,List.head?_cons];simpa using hp)]] at HD
      clear e1 e2 hp;rcases hcase with ⟨rfl,rfl⟩ | ⟨t1,rfl,rfl⟩ | ⟨t1,t2,rfl⟩;all_goals
       go_wp2_with (first
        |(go_at_call 44;with_reducible refine Cm (H23.out _) ?_) |(go_at_call 44;with_reducible refine Cm (H25.out _) ?_) |(go_at_call 44;with_reducible refine Cm (H26.out _) ?_)
        |(go_at_call 252;with_reducible refine Cm (HD.out _) ?_))
       go_ret2
       exact ⟨rfl,HBq.out⟩):P:=h
theorem XXQsP {P:Prop} (h:P:=by
 simp only at hR;have hcase:¬K=0/\al=false/\lf=false/\ll=false:=by
  refine ⟨λe=>?_,?_,?_,?_⟩
  ·rw [decide_eq_true e] at hO3;simp at hO3
  ·cases al
   ·rfl
   ·simp at hO3
  ·cases lf
   ·rfl
   ·simp at hO3
  ·cases ll
   ·rfl
   ·by_cases hx:(decide (K=0)|| (al||lf))=true
    ·rw [if_pos hx] at hO3;cases hO3
    ·rw [if_neg hx,if_pos rfl] at hO3;cases hO3
 obtain ⟨hK,rfl,rfl,rfl⟩:=hcase;subst hR
 have tK:((((K+1:Nat)):Int)==1)=false:=beq_eq_false_iff_ne.2 (by omega)
 have tK2:((K:Int)+1==1)=false:=beq_eq_false_iff_ne.2 (by omega);have tK3:¬(K:Int)=0:=by omega
 clear hO3
 go_wp2_with (first
  |(go_at_call 44;with_reducible refine Cm (H25.out _) ?_)
  |(go_at_call 44;with_reducible refine Cm (H26.out _) ?_))
 go_ret2
 exact ⟨rfl,HBq.out⟩):P:=h
theorem XXbpH {P:Prop} (h:P:=by
 go_wp2_with fail
 go_quiet (fail);rename_i nq;go_wp2;go_roundw
 case rel=>first | exact ⟨k+1,q+nq,by omega,by go_num,(World.drewN_drewN _ _ _).symm ▸ rfl,false,rfl,H2⟩ | exact ⟨k+1,q+nq,by omega,by go_num,by rw [World.drewN_drewN],false,rfl,H2⟩ | exact ⟨k+1,q+nq,by omega,by go_num,rfl,false,rfl,H2⟩
 case measure=>simp [intOf];omega):P:=h
theorem rlength_any (p:Nat) (hp:p<4294967296) (most:Int) (hM:most<=9223372036854775807) (a:Option Addr) (n cap:Nat) (vs:List ByteArray) (w:World) (hv:Strs w a n vs) (hr:room vs<=1000000000) :
 Calls EW 235 #[ZZ ZQ (p:Nat),ZZ ZS most,.slice a n cap] w λe w'=>e=.returned (ZT #[ZZ ZS (lengthV (D0 p 23) (D0 p 24) (D0 p 25) (D0 p 26) most vs).1,ZZ ZS (lengthV (D0 p 23) (D0 p 24) (D0 p 25) (D0 p 26) most vs).2])/\Below w.heap.size w w':=by
 obtain ⟨R,hR⟩:∃R,lengthV (D0 p 23) (D0 p 24) (D0 p 25) (D0 p 26) most vs=R:=⟨_,rfl⟩;rw [hR];unfold lengthV at hR;have hl:=hv.1;by_cases hn:n=0
 ·subst hn;obtain rfl:=BT hl;rw [if_pos rfl] at hR;subst hR;go_enter Tryz.func235,Tryz.ntmps235;exact XXdKB
 have hne:vs≠ []:=λe=>hn (by rw [←hl,e];rfl);rw [if_neg hne] at hR
 have H23:=Bx (λw=>D4 p hp 23 w)
 have H24:=Bx (λw=>D4 p hp 24 w)
 have H25:=Bx (λw=>D4 p hp 25 w)
 have H26:=Bx (λw=>D4 p hp 26 w)
 have HL:=Bx (rlist_any a n cap vs w hv hr);have hll:=Dd (list_le vs) hr;have hlp:=list_ne_nil vs hne;have hnr:=Dd (len_room vs) hr;rw [hl] at hnr;have hms:=list_mem_size vs;have hrm:=room_mem vs;generalize D0 p 23=lp at *;generalize D0 p 24=lc at *;generalize D0 p 25=lf at *;generalize D0 p 26=ll at *
 have HT:=Bx (λs (hs:s.size<=1000000000) w=>Num.rdec_any most hM (unplus lp s) w (Dd (unplus_size lp s) (Dd hs (by decide))))
 have t0:((n:Int)==0)=false:=beq_eq_false_iff_ne.2 (by omega);clear hp hM hl;cases lc with
 | false=>
   rw [if_neg (by decide)] at hR
   have HM:=Bx (λs (h:s∈vs)=>show s.size<=1000000000 by have:=hrm s h;omega);clear HL hll hlp hms hrm hne;obtain ⟨U,hU⟩:∃U,U=vs:=⟨_,rfl⟩;rw [←hU] at hv HM hR;clear hU;have hm:=hv.1;obtain ⟨m,hnm⟩:∃m,m=n:=⟨_,rfl⟩;have hll:m<=1000000000:=by omega
   have hlp:0<m:=by omega
   subst hnm;obtain ⟨K,rfl⟩:∃K,m=K+1:=⟨m-1,by omega⟩
   have HE:=Bx (λ(a':Option Addr) (w':World) (hS:Strs w' a' (K+1) U)=>strs_ends hS)
   have HMN:=Bx (λ(s:ByteArray) (h:counts false lf ll U=some s)=>HM.out s (counts_mem _ _ _ _ _ h (λe=>by rw [e] at hm;simp at hm)));obtain ⟨O,hO⟩:∃O,counts false lf ll U=O:=⟨_,rfl⟩;rw [hO] at hR HMN;have HUL:=Bx hm;have hO2:O=if (decide (K=0)|| ((false&&alikeL U)||lf))=true then some (U.headD A8) else if ll=true then some (U.getLastD A8) else none:=by rw [←hO];unfold counts;rw [hm];simp
   have HO:=Bx hO2;clear hO hO2 HM hm
   have HN:=Bx (λk (hk:k<K+1)=>take_all_snoc (λv:ByteArray=>decide (v=U.headD A8)) A8 U k (by rw [HUL.out];exact hk))
   have HA:=Bx (show (U.take (K+1)).all (λv=>decide (v=U.headD A8))=alikeL U by rw [CN (by rw [HUL.out];exact Db _)];rfl)
   have HC1:=Bx (show IntKind.i64.wrap (((K+1:Nat):Int)-1)=(K:Int) by rw [wrap_in _ (by omega) (by omega)];omega)
   have HC2:=Bx (show wrap64 (((K+1:Nat):Int)-1)=(K:Int) by unfold wrap64;omega);have HS:=Bx hv;obtain ⟨w1,hw1⟩:∃x,x=w:=⟨_,rfl⟩
   have HB:Hid (Below w.heap.size w w1):=Bx (hw1 ▸ An _ _);rw [←hw1] at HS hv ⊢;rw [hw1] at HB;rw [←hw1] at HB;obtain ⟨bl,off,rfl,hd0,hz0⟩:=HE.out _ _ hv;have HD0:=Bx hd0;have HZ0:=Bx hz0;clear hv hd0 hz0 hw1;go_enter Tryz.func235,Tryz.ntmps235
   go_wp2_with (go_at_call 44;with_reducible refine Cm (H24.out _) ?_)
   go_loopw [9,10] (λal i wr=>∃k q:Nat,k<=K+1/\i=ZZ ZS k/\wr=w1.drewN q/\∃b:Bool,al=ZW b/\Hid (false=b)) (λ_ i _=>K+1-(intOf i).toNat)
   case atStart=>exact ⟨0,0,Dj _,rfl,rfl,false,rfl,Bx rfl⟩
   case round=>
    obtain ⟨k,q,hk,rfl,rfl,al,rfl,HAL⟩:=hrel;rcases Dg k (K+1) with hlt | hge
    ·have i1:(k:Int)<((K+1:Nat):Int):=by omega
     have i0:(0:Int)<((K+1:Nat):Int):=by omega
     obtain rfl:al=false:=HAL.out.symm;go_wp2_with fail
     go_quiet (fail);rename_i nq;go_wp2;go_roundw
     case rel=>first | exact ⟨k+1,q+nq,by omega,by go_num,(World.drewN_drewN _ _ _).symm ▸ rfl,false,rfl,Bx rfl⟩ | exact ⟨k+1,q+nq,by omega,by go_num,by rw [World.drewN_drewN],false,rfl,Bx rfl⟩ | exact ⟨k+1,q+nq,by omega,by go_num,rfl,false,rfl,Bx rfl⟩
     case measure=>simp [intOf];omega
    ·obtain rfl:k=K+1:=by omega
     have HAL2:=Bx (show (false&&alikeL U)=al by exact HAL.out);have hbd:Below w1.heap.size w1 (w1.drewN q):=Ak (An _ _) q
     obtain ⟨bl2,off2,he2,hd,hz⟩:=HE.out _ _ (HS.out.below hbd);obtain ⟨rfl,rfl⟩:bl=bl2/\off=off2:=by simpa using he2
     have HBq:=Bx (Al HB.out hbd);have hO3:=HO.out;rw [HAL2.out] at hO3;have c1:=HC1.out;have c2:=HC2.out;have i0:(0:Int)<((K+1:Nat):Int):=by omega
     have iK:(K:Int)<((K+1:Nat):Int):=by omega
     clear he2 hbd HE HN HA HC1 HC2 HO HAL HAL2 HS HB HD0 HZ0;generalize w1.drewN q=wq at *;generalize U.headD A8=y at *;generalize U.getLastD A8=z at *;cases O with
     | none=>
       exact XXQsP
     | some S=>
       exact XXlUm
 | true=>
   rw [if_pos rfl] at hR
   have HM:=Bx (λs (h:s∈list vs)=>show s.size<=1000000000 from Dd (hms s h) hr);clear hv hms hrm hne;generalize list vs=U at *;obtain ⟨m,hm⟩:∃m,U.length=m:=⟨_,rfl⟩;rw [hm] at HL hll hlp;obtain ⟨K,rfl⟩:∃K,m=K+1:=⟨m-1,by omega⟩
   have HE:=Bx (λ(a':Option Addr) (w':World) (hS:Strs w' a' (K+1) U)=>strs_ends hS)
   have HMN:=Bx (λ(s:ByteArray) (h:counts true lf ll U=some s)=>HM.out s (counts_mem _ _ _ _ _ h (λe=>by rw [e] at hm;simp at hm)));obtain ⟨O,hO⟩:∃O,counts true lf ll U=O:=⟨_,rfl⟩;rw [hO] at hR HMN;have HUL:=Bx hm;have hO2:O=if (decide (K=0)|| ((true&&alikeL U)||lf))=true then some (U.headD A8) else if ll=true then some (U.getLastD A8) else none:=by rw [←hO];unfold counts;rw [hm];simp
   have HO:=Bx hO2;clear hO hO2 HM hm
   have HN:=Bx (λk (hk:k<K+1)=>take_all_snoc (λv:ByteArray=>decide (v=U.headD A8)) A8 U k (by rw [HUL.out];exact hk))
   have HA:=Bx (show (U.take (K+1)).all (λv=>decide (v=U.headD A8))=alikeL U by rw [CN (by rw [HUL.out];exact Db _)];rfl)
   have HC1:=Bx (show IntKind.i64.wrap (((K+1:Nat):Int)-1)=(K:Int) by rw [wrap_in _ (by omega) (by omega)];omega)
   have HC2:=Bx (show wrap64 (((K+1:Nat):Int)-1)=(K:Int) by unfold wrap64;omega);go_enter Tryz.func235,Tryz.ntmps235
   go_wp2_with (first
    |(go_at_call 44;with_reducible refine Cm (H24.out _) ?_)
    |(go_at_call 119;with_reducible refine (HL.out).mono ?_;rintro e w1 ⟨b,m2,c,rfl,hm2,hS,hb⟩
      rw [hm2] at hS ⊢;clear hm2;have HS:=Bx hS;have HB:=Bx hb;obtain ⟨bl,off,rfl,hd0,hz0⟩:=HE.out _ _ hS;have HD0:=Bx hd0;have HZ0:=Bx hz0;clear hS hb hd0 hz0))
   go_loopw [9,10] (λal i wr=>∃k q:Nat,k<=K+1/\i=ZZ ZS k/\wr=w1.drewN q/\∃b:Bool,al=ZW b/\Hid ((U.take k).all (λv=>decide (v=U.headD A8))=b)) (λ_ i _=>K+1-(intOf i).toNat)
   case atStart=>exact ⟨0,0,Dj _,rfl,rfl,true,rfl,Bx rfl⟩
   case round=>
    obtain ⟨k,q,hk,rfl,rfl,al,rfl,HAL⟩:=hrel;rcases Dg k (K+1) with hlt | hge
    ·have i1:(k:Int)<((K+1:Nat):Int):=by omega
     have i0:(0:Int)<((K+1:Nat):Int):=by omega
     obtain ⟨bl2,off2,he2,_,hc⟩:=HS.out.2 (by omega);obtain ⟨rfl,rfl⟩:bl=bl2/\off=off2:=by simpa using he2
     have hck:=hc k hlt;have hc0:=HD0.out
     have HNk:=Bx (HN.out k hlt);clear hc he2;cases al with
     | false=>
       have H2:=Bx (show (U.take (k+1)).all (λv=>decide (v=U.headD A8))=false by rw [HNk.out,HAL.out];rfl);clear HNk hck hc0;exact XXbpH
     | true=>
       by_cases he:U[k]?.getD A8=U.headD A8
       ·have H2:=Bx (show (U.take (k+1)).all (λv=>decide (v=U.headD A8))=true by rw [HNk.out,HAL.out,he];simp);rw [he] at hck;clear HNk he;generalize U.headD A8=y at *;go_wp2_with fail
        go_quiet (fail);rename_i nq;go_wp2;go_roundw
        case rel=>first | exact ⟨k+1,q+nq,by omega,by go_num,(World.drewN_drewN _ _ _).symm ▸ rfl,true,rfl,H2⟩ | exact ⟨k+1,q+nq,by omega,by go_num,by rw [World.drewN_drewN],true,rfl,H2⟩ | exact ⟨k+1,q+nq,by omega,by go_num,rfl,true,rfl,H2⟩
        case measure=>simp [intOf];omega
       ·have H2:=Bx (show (U.take (k+1)).all (λv=>decide (v=U.headD A8))=false by rw [HNk.out,HAL.out,decide_eq_false he];rfl);generalize U[k]?.getD A8=x at *;generalize U.headD A8=y at *
        have he2:¬x.toList=y.toList:=λh=>he ((toList_iff x y).1 h);have he3:(x.toList==y.toList)=false:=by simpa using he2
        clear HNk he;exact XXbpH
    ·obtain rfl:k=K+1:=by omega
     have HAL2:=Bx (show (true&&alikeL U)=al by rw [A5,←HA.out];exact HAL.out);have hbd:Below w1.heap.size w1 (w1.drewN q):=Ak (An _ _) q
     obtain ⟨bl2,off2,he2,hd,hz⟩:=HE.out _ _ (HS.out.below hbd);obtain ⟨rfl,rfl⟩:bl=bl2/\off=off2:=by simpa using he2
     have HBq:=Bx (Al HB.out hbd);have hO3:=HO.out;rw [HAL2.out] at hO3;have c1:=HC1.out;have c2:=HC2.out;have i0:(0:Int)<((K+1:Nat):Int):=by omega
     have iK:(K:Int)<((K+1:Nat):Int):=by omega
     clear he2 hbd HE HN HA HC1 HC2 HO HAL HAL2 HS HB HD0 HZ0;generalize w1.drewN q=wq at *;generalize U.headD A8=y at *;generalize U.getLastD A8=z at *;cases O with
     | none=>
       exact XXQsP
     | some S=>
       exact XXlUm
end
end Go.Proofs.YtdfabddnpgjepaaGreatDoor.Frm
namespace Go.Proofs.YtdfabddnpgjepaaGreatDoor.Frm
open Go.RowKit Base Txt
theorem rfind_at (a:Option Addr) (n cap:Nat) (fs:List Fld) (name:ByteArray) (w:World) (hv:Flds w a n fs) (hn:n<=1000000000) (hs:∀f∈fs,f.1.size<=1000000000) (ht:name.size<=1000000000) :
 Calls EW 102 #[.slice a n cap,ZY name] w λe w'=>∃b c,e=.returned (.slice b (find fs name).length c)/\Strs w' b (find fs name).length (find fs name)/\Below w.heap.size w w':=
 (rfind_any a n cap fs name w hv hn hs ht).mono (by rintro e w' ⟨b,m,c,rfl,rfl,hS,hb⟩;exact ⟨b,c,rfl,hS,hb⟩)
theorem hosts_old (nh mh:Bool) (h:List ByteArray) (h0:h.length=0) (hn:nh=true):hostsV nh mh 1 h=0:=by obtain rfl:=BT h0;rw [hosts_none,hn];rfl
section
set_option maxHeartbeats 4000000
set_option maxRecDepth 10000
attribute [local go_sem] Am
theorem rhosts_any (p:Nat) (hp:p<4294967296) (minor:Int) (a:Option Addr) (n cap:Nat) (fs:List Fld) (w:World) (hv:Flds w a n fs) (hn:n<=1000000000) (hs:∀f∈fs,f.1.size<=1000000000/\f.2.size<=1000000000) :
 Calls EW 233 #[ZZ ZQ (p:Nat),ZZ ZS minor,.slice a n cap] w λe w'=>e=.returned (ZZ ZS (hostsV (D0 p 15) (D0 p 16) minor (find fs hostN)))/\Below w.heap.size w w':=by
 have HF:=Bx (rfind_at a n cap fs ⟨#[72,111,115,116]⟩ w hv hn (λf hf=>(hs f hf).1) (by decide))
 have H15:=Bx (λw=>D4 p hp 15 w)
 have H16:=Bx (λw=>D4 p hp 16 w)
 have hsz:=find_sizes fs ⟨#[72,111,115,116]⟩ 1000000000 (λf hf=>(hs f hf).2);have hle:=find_le fs ⟨#[72,111,115,116]⟩;rw [hv.1] at hle
 have HT:=Bx (λv (hv:v.size<=1000000000) w=>Tgt.rhost_any v w hv);obtain ⟨R,hR⟩:∃R,hostsV (D0 p 15) (D0 p 16) minor (find fs ⟨#[72,111,115,116]⟩)=R:=⟨_,rfl⟩;rw [show hostsV (D0 p 15) (D0 p 16) minor (find fs hostN)=R from hR];clear hv hs hp;generalize find fs ⟨#[72,111,115,116]⟩=H at *;obtain ⟨nh,hnh⟩:∃nh,D0 p 15=nh:=⟨_,rfl⟩;rw [hnh] at H15 hR;obtain ⟨mh,hmh⟩:∃mh,D0 p 16=mh:=⟨_,rfl⟩;rw [hmh] at H16 hR;clear hmh hnh;obtain ⟨m,hm⟩:∃m,H.length=m:=⟨_,rfl⟩;rw [hm] at HF hle
 have HSZ:=Bx (λk (hk:k<m)=>show (H[k]?.getD A8).size<=1000000000 by
  rw [Ca (by omega)]
  exact hsz _ (Ci _))
 have HM:=Bx hm;clear hsz;by_cases hA:minor=1/\m=0/\nh=false
 ·obtain ⟨rfl,rfl,rfl⟩:=hA;obtain rfl:=BT hm;rw [hosts_none] at hR
  replace hR:R=400:=hR.symm
  subst hR;clear hm HSZ HM HT;go_enter Tryz.func233,Tryz.ntmps233
  go_wp2_with (first
   |(go_at_call 102;with_reducible refine (HF.out).mono ?_;rintro e w1 ⟨b,c,rfl,hS,hb⟩;clear hS)
   |(go_at_call 44;with_reducible refine Cm (H15.out _) ?_))
  go_ret;exact ⟨rfl,hb⟩
 by_cases hB:1<m/\mh=false
 ·obtain ⟨h1,rfl⟩:=hB;rw [hosts_many nh minor H (by omega)] at hR;subst hR
  have t0:((m:Int)==0)=false:=beq_eq_false_iff_ne.2 (by omega);have t1:(1:Int)<(m:Int):=by omega
  clear hm hA HSZ HM HT;rcases (by omega:minor=1∨¬minor=1) with rfl | h2;all_goals
   try (have t2:(minor==1)=false:=beq_eq_false_iff_ne.2 h2)
   go_enter Tryz.func233,Tryz.ntmps233
   go_wp2_with (first
    |(go_at_call 102;with_reducible refine (HF.out).mono ?_;rintro e w1 ⟨b,c,rfl,hS,hb⟩;clear hS)
    |(go_at_call 44;with_reducible refine Cm (H16.out _) ?_))
   go_ret;exact ⟨rfl,hb⟩
 have hR2:R=if (H.all λv=>Tgt.hostB v.data.toList)=true then 0 else 400:=by
  by_cases h10:minor=1/\m=0
  ·obtain ⟨rfl,rfl⟩:=h10;cases nh
   ·exact absurd ⟨rfl,rfl,rfl⟩ hA
   ·rw [←hR,hosts_old true mh H hm rfl,BT hm];rfl
  ·rw [←hR]
   exact hosts_loop nh mh minor H (by rw [hm];exact h10) (by
    rcases (by omega:m<=1∨1<m) with h | h
    ·exact .inl (by omega)
    ·right;cases mh
     ·exact absurd ⟨h,rfl⟩ hB
     ·rfl)
 have HR:=Bx hR2;clear hR hR2 hm;have hcase:(m=0/\(¬minor=1∨(minor=1/\nh=true)))∨(m=1/\(¬minor=1∨minor=1))∨((1<m/\mh=true)/\(¬minor=1∨minor=1)):=by
  rcases (by omega:m=0∨m=1∨1<m) with h | h | h
  ·refine .inl ⟨h,?_⟩;by_cases h2:minor=1
   ·right;cases nh
    ·exact absurd ⟨h2,h,rfl⟩ hA
    ·exact ⟨h2,rfl⟩
   ·exact .inl h2
  ·exact .inr (.inl ⟨h,by omega⟩)
  ·refine .inr (.inr ⟨⟨h,?_⟩,by omega⟩);cases mh
   ·exact absurd ⟨h,rfl⟩ hB
   ·rfl
 clear hA hB;rcases hcase with ⟨h0,hmi⟩ | ⟨h0,hmi⟩ | ⟨⟨h0,rfl⟩,hmi⟩
 ·obtain rfl:=h0
  have H3:=Bx (show R=0 from by rw [HR.out,BT HM.out];rfl);rcases hmi with h2 | ⟨rfl,rfl⟩;all_goals
   try (have t2:(minor==1)=false:=beq_eq_false_iff_ne.2 h2)
   go_enter Tryz.func233,Tryz.ntmps233
   go_wp2_with (first
    |(go_at_call 102;with_reducible refine (HF.out).mono ?_;rintro e w1 ⟨b,c,rfl,hS,hb⟩;clear hS
      have HB:=Bx hb;clear hb)
    |(go_at_call 44;with_reducible refine Cm (H15.out _) ?_))
   go_loopw [8] (λi wr=>i=ZZ ZS 0/\wr=w1) (λi _=>0)
   case atStart=>exact ⟨rfl,rfl⟩
   case round=>obtain ⟨rfl,rfl⟩:=hrel;go_wp2_with fail;go_ret;exact ⟨by rw [H3.out];rfl,HB.out⟩
 all_goals
  have t0:((m:Int)==0)=false:=beq_eq_false_iff_ne.2 (by omega);first
   |(have t1:(1:Int)<(m:Int):=by omega)
   |(have t1:¬(1:Int)<(m:Int):=by omega)
  clear h0;rcases hmi with h2 | rfl;all_goals
   try (have t2:(minor==1)=false:=beq_eq_false_iff_ne.2 h2)
   go_enter Tryz.func233,Tryz.ntmps233
   go_wp2_with (first
    |(go_at_call 102;with_reducible refine (HF.out).mono ?_;rintro e w1 ⟨b,c,rfl,hS,hb⟩
      have HS:=Bx hS;have HB:=Bx hb;clear hS hb)
    |(go_at_call 44;with_reducible refine Cm (H16.out _) ?_))
   go_loopw [8] (λi wr=>∃k:Nat,k<=m/\i=ZZ ZS k/\Hid (Below w1.heap.size w1 wr)/\Hid ((H.take k).all (λv=>Tgt.hostB v.data.toList)=true)) (λi _=>m-(intOf i).toNat)
   case atStart=>exact ⟨0,Dj _,rfl,Bx (An _ _),Bx rfl⟩
   case round=>
    obtain ⟨k,hk,rfl,hbr,H1⟩:=hrel;rcases Dg k m with hlt | hge
    ·obtain ⟨bl,off,rfl,hbl,hc⟩:=(HS.out.below hbr.out).2 (by omega);have hck:=hc k hlt
     have HN:=Bx (take_all_snoc (λv:ByteArray=>Tgt.hostB v.data.toList) A8 H k (by rw [HM.out];exact hlt))
     have HZ:=Bx (all_of_miss (λv:ByteArray=>Tgt.hostB v.data.toList) A8 H k (by rw [HM.out];exact hlt))
     have HC:=Bx (HT.out _ (HSZ.out k hlt));clear hc;generalize H[k]?.getD A8=x at *;have i1:(k:Int)<(m:Int):=by omega
     generalize Tgt.hostB x.data.toList=q at *;cases q with
     | true=>
       have H2:=Bx (show (H.take (k+1)).all (λv=>Tgt.hostB v.data.toList)=true by rw [HN.out,H1.out];rfl);clear HN HZ
       go_wp2_with (go_at_call 230;with_reducible refine (HC.out _).mono ?_;rintro e w2 ⟨rfl,hb⟩);exact XXfTh
     | false=>
       have H2:=Bx (show R=400 by rw [HR.out,HZ.out rfl];rfl);clear HN HZ
       go_wp2_with (go_at_call 230;with_reducible refine (HC.out _).mono ?_;rintro e w2 ⟨rfl,hb⟩);exact XXteq
    ·exact XXCdJ
end
end Go.Proofs.YtdfabddnpgjepaaGreatDoor.Frm
namespace Go.Proofs.YtdfabddnpgjepaaGreatDoor.Frm
open Go.RowKit Base Txt
section
set_option maxHeartbeats 8000000
set_option maxRecDepth 10000
attribute [local go_sem] Am
theorem XXXZf {P:Prop} (h:P:=by
 go_enter Tryz.func211,Tryz.ntmps211
 go_wp2_with (first
  |(go_at_call 44;with_reducible refine Cm (H19.out _) ?_)
  |(go_at_call 44;with_reducible refine Cm (H20.out _) ?_)
  |(go_at_call 44;with_reducible refine Cm (H21.out _) ?_)
  |(go_at_call 44;with_reducible refine Cm (H22.out _) ?_)
  |(go_at_call 235;(with_reducible refine (HL.out _ _ _ HS2.out).mono ?_);rintro e w5 ⟨rfl,hb⟩
    replace HK:=Bx (HK.out.step hb)
    (try clear q3 q8 c0 c1 z0 z1)
    obtain ⟨q3,q8,⟨c0,c1,z0,z1⟩,hlt,hbk⟩:=HK.out;clear hlt hbk hb)
  |(go_at_call 234;(with_reducible refine (HW.out _ _ _ HS1.out).mono ?_);rintro e w4 ⟨rfl,hb⟩
    replace HK:=Bx (HK.out.step hb)
    replace HS1:=Bx (HS1.out.below hb)
    replace HS2:=Bx (HS2.out.below hb)
    (try clear q3 q8 c0 c1 z0 z1)
    obtain ⟨q3,q8,⟨c0,c1,z0,z1⟩,hlt,hbk⟩:=HK.out;clear hlt hbk hb)
  |(go_at_call 102;(with_reducible refine (HF2.out _ HK.out.b).mono ?_);rintro e w3 ⟨b3,k3,rfl,hS,hb⟩
    replace HK:=Bx (HK.out.step hb)
    replace HS1:=Bx (HS1.out.below hb)
    have HS2:=Bx hS;clear hS
    (try clear q3 q8 c0 c1 z0 z1)
    obtain ⟨q3,q8,⟨c0,c1,z0,z1⟩,hlt,hbk⟩:=HK.out;clear hlt hbk hb)
  |(go_at_call 102;(with_reducible refine (HF1.out _ HK.out.b).mono ?_);rintro e w2 ⟨b2,k2,rfl,hS,hb⟩
    replace HK:=Bx (HK.out.step hb)
    have HS1:=Bx hS;clear hS
    (try clear q3 q8 c0 c1 z0 z1)
    obtain ⟨q3,q8,⟨c0,c1,z0,z1⟩,hlt,hbk⟩:=HK.out;clear hlt hbk hb)
  |(go_at_call 233;(with_reducible refine (HH.out _ HK0.out.b).mono ?_);rintro e w1 ⟨rfl,hb⟩
    have HK:=Bx (HK0.out.step hb)
    (try clear q3 q8 c0 c1 z0 z1)
    obtain ⟨q3,q8,⟨c0,c1,z0,z1⟩,hlt,hbk⟩:=HK.out;clear hlt hbk hb))
 obtain ⟨W,hW,⟨d0,d1,_,_⟩,hbW⟩:=Gb.put HK.out.f HK.out.b (Dc _) 0 0;rw [hW];first
  |exact bodyPost_ret (v:=.tuple #[fr 0 0,.int .i64 Z]) (by (simp [results,Tryz.results211,go_sem,d0,d1]);first|done|fail) rfl ⟨rfl,hbW⟩
  |exact bodyPost_ret (v:=.tuple #[fr 0 0,.int .i64 le]) (by (simp [results,Tryz.results211,go_sem,d0,d1]);first|done|fail) rfl ⟨rfl,hbW⟩
  |exact bodyPost_ret (v:=.tuple #[fr 0 0,.int .i64 400]) (by (simp [results,Tryz.results211,go_sem,d0,d1]);first|done|fail) rfl ⟨rfl,hbW⟩):P:=h
theorem XXkmg {P:Prop} (h:P:=by
 go_enter Tryz.func211,Tryz.ntmps211
 go_wp2_with (first
  |(go_at_call 44;with_reducible refine Cm (H19.out _) ?_)
  |(go_at_call 44;with_reducible refine Cm (H20.out _) ?_)
  |(go_at_call 44;with_reducible refine Cm (H21.out _) ?_)
  |(go_at_call 44;with_reducible refine Cm (H22.out _) ?_)
  |(go_at_call 235;(with_reducible refine (HL.out _ _ _ HS2.out).mono ?_);rintro e w5 ⟨rfl,hb⟩
    replace HK:=Bx (HK.out.step hb)
    (try clear q3 q8 c0 c1 z0 z1)
    obtain ⟨q3,q8,⟨c0,c1,z0,z1⟩,hlt,hbk⟩:=HK.out;clear hlt hbk hb)
  |(go_at_call 234;(with_reducible refine (HW.out _ _ _ HS1.out).mono ?_);rintro e w4 ⟨rfl,hb⟩
    replace HK:=Bx (HK.out.step hb)
    replace HS1:=Bx (HS1.out.below hb)
    replace HS2:=Bx (HS2.out.below hb)
    (try clear q3 q8 c0 c1 z0 z1)
    obtain ⟨q3,q8,⟨c0,c1,z0,z1⟩,hlt,hbk⟩:=HK.out;clear hlt hbk hb)
  |(go_at_call 102;(with_reducible refine (HF2.out _ HK.out.b).mono ?_);rintro e w3 ⟨b3,k3,rfl,hS,hb⟩
    replace HK:=Bx (HK.out.step hb)
    replace HS1:=Bx (HS1.out.below hb)
    have HS2:=Bx hS;clear hS
    (try clear q3 q8 c0 c1 z0 z1)
    obtain ⟨q3,q8,⟨c0,c1,z0,z1⟩,hlt,hbk⟩:=HK.out;clear hlt hbk hb)
  |(go_at_call 102;(with_reducible refine (HF1.out _ HK.out.b).mono ?_);rintro e w2 ⟨b2,k2,rfl,hS,hb⟩
    replace HK:=Bx (HK.out.step hb)
    have HS1:=Bx hS;clear hS
    (try clear q3 q8 c0 c1 z0 z1)
    obtain ⟨q3,q8,⟨c0,c1,z0,z1⟩,hlt,hbk⟩:=HK.out;clear hlt hbk hb)
  |(go_at_call 233;(with_reducible refine (HH.out _ HK0.out.b).mono ?_);rintro e w1 ⟨rfl,hb⟩
    have HK:=Bx (HK0.out.step hb)
    (try clear q3 q8 c0 c1 z0 z1)
    obtain ⟨q3,q8,⟨c0,c1,z0,z1⟩,hlt,hbk⟩:=HK.out;clear hlt hbk hb))
 obtain ⟨W,hW,⟨d0,d1,_,_⟩,hbW⟩:=Gb.put HK.out.f HK.out.b (Dc _) 1 ln;rw [hW]
 exact bodyPost_ret (v:=ZT #[fr 1 ln,ZZ ZS 0]) (by simp [results,Tryz.results211,go_sem,d0,d1]) rfl ⟨rfl,hbW⟩):P:=h
theorem rdecide_any (p:Nat) (hp:p<4294967296) (x0 x1 x2 x3 x4 x5 x6 x7:Int) (ch od:Bool) (hx:x3<=9223372036854775807) (minor:Int) (a:Option Addr) (n cap:Nat) (fs:List Fld) (w:World) (hv:Flds w a n fs) (hn:n<=500) (hs:∀f∈fs,f.1.size<=1000000/\f.2.size<=1000000) :
 Calls EW 211 #[ZZ ZQ (p:Nat),Bnd.bnd x0 x1 x2 x3 x4 x5 x6 x7 ch od,ZZ ZS minor,.slice a n cap] w λe w'=>e=.returned (ZT #[fr (decideV (clOf p) ch x3 minor fs).1 (decideV (clOf p) ch x3 minor fs).2.1,ZZ ZS (decideV (clOf p) ch x3 minor fs).2.2])/\Below w.heap.size w w':=by
 have HH:=Bx (λw' hb=>rhosts_any p hp minor a n cap fs w' (hv.below (w':=w') hb) (by omega) (λf hf=>by have:=hs f hf;omega))
 have HF1:=Bx (λw' hb=>rfind_at a n cap fs ⟨#[84,114,97,110,115,102,101,114,45,69,110,99,111,100,105,110,103]⟩ w' (hv.below (w':=w') hb) (by omega) (λf hf=>by have:=hs f hf;omega) (by decide))
 have HF2:=Bx (λw' hb=>rfind_at a n cap fs ⟨#[67,111,110,116,101,110,116,45,76,101,110,103,116,104]⟩ w' (hv.below (w':=w') hb) (by omega) (λf hf=>by have:=hs f hf;omega) (by decide));have hrm:∀name,room (find fs name)<=1000000000:=λname=>by exact XXocm
 have hrm1:=hrm ⟨#[84,114,97,110,115,102,101,114,45,69,110,99,111,100,105,110,103]⟩;have hrm2:=hrm ⟨#[67,111,110,116,101,110,116,45,76,101,110,103,116,104]⟩
 have H19:=Bx (λw=>D4 p hp 19 w)
 have H20:=Bx (λw=>D4 p hp 20 w)
 have H21:=Bx (λw=>D4 p hp 21 w)
 have H22:=Bx (λw=>D4 p hp 22 w);obtain ⟨R,hR⟩:∃R,decideV (clOf p) ch x3 minor fs=R:=⟨_,rfl⟩;rw [hR]
 replace hR:bodyV (hostsV (D0 p 15) (D0 p 16) minor (find fs ⟨#[72,111,115,116]⟩)) ch
  (winsV (D0 p 20) (D0 p 19) (D0 p 21) (D0 p 22) minor (find fs ⟨#[84,114,97,110,115,102,101,114,45,69,110,99,111,100,105,110,103]⟩).length (find fs ⟨#[67,111,110,116,101,110,116,45,76,101,110,103,116,104]⟩).length (coding (D0 p 17) (D0 p 18) (find fs ⟨#[84,114,97,110,115,102,101,114,45,69,110,99,111,100,105,110,103]⟩)))
  (lengthV (D0 p 23) (D0 p 24) (D0 p 25) (D0 p 26) x3 (find fs ⟨#[67,111,110,116,101,110,116,45,76,101,110,103,116,104]⟩))=R:=hR
 rw [show find fs hostN=find fs ⟨#[72,111,115,116]⟩ from rfl] at HH;generalize find fs ⟨#[72,111,115,116]⟩=LH at *;generalize find fs ⟨#[84,114,97,110,115,102,101,114,45,69,110,99,111,100,105,110,103]⟩=LT at *;generalize find fs ⟨#[67,111,110,116,101,110,116,45,76,101,110,103,116,104]⟩=LC at *
 have HW:=Bx (λa' c' w' hS=>rcoding_any p hp a' LT.length c' LT w' hS hrm1)
 have HL:=Bx (λa' c' w' hS=>rlength_any p hp x3 hx a' LC.length c' LC w' hS hrm2);generalize hostsV (D0 p 15) (D0 p 16) minor LH=Z at *;generalize lengthV (D0 p 23) (D0 p 24) (D0 p 25) (D0 p 26) x3 LC=LV at *;generalize coding (D0 p 17) (D0 p 18) LT=cod at *;generalize LT.length=nT at *;generalize LC.length=nC at *;generalize D0 p 19=ti at *;generalize D0 p 20=td at *;generalize D0 p 21=tw at *;generalize D0 p 22=lw at *;obtain ⟨ln,le⟩:=LV;unfold bodyV fixedV winsV at hR;simp only at hR HL;clear hrm hrm1 hrm2 hv hs hp hx hn
 have HK0:=Bx (Kp.new w 29 214 x0 x1 x2 x3 x4 x5 x6 x7 ch od);by_cases hZ:Z≠0
 ·rw [if_pos hZ] at hR;subst hR;have tz:(Z==0)=false:=beq_eq_false_iff_ne.2 hZ;clear hZ;exact XXXZf
 rw [if_neg hZ] at hR;obtain rfl:Z=0:=Decidable.not_not.1 hZ;clear hZ;by_cases hT:nT=0
 ·subst hT;rw [if_pos rfl] at hR;rw [if_neg (by decide),if_neg (by decide)] at hR;have hcase:(le=0/\R=(1,ln,0))∨((le==0)=false/\R=(0,0,le)):=by
   exact XXELR
  clear hR;rcases hcase with ⟨rfl,rfl⟩ | ⟨tz,rfl⟩
  ·exact XXkmg
  ·exact XXXZf
 rw [if_neg hT] at hR;have tT:(0:Int)<(nT:Int):=by omega
 clear hT;by_cases hO:minor=0/\td=false
 ·obtain ⟨rfl,rfl⟩:=hO;rw [if_pos (show (decide ((0:Int)=0) && !false)=true from rfl),if_pos (by decide)] at hR;subst hR;exact XXXZf
 have hO2:(minor=0/\td=true)∨(minor==0)=false:=by exact XX2eG
 rw [if_neg (show¬(decide (minor=0) && !td)=true by
  rintro h;rw [Ao,decide_eq_true_eq,Ay] at h
  exact hO h)] at hR
 clear hO;cases cod with
 | false=>
   rw [if_pos (show false=false from rfl)] at hR;cases ti with
   | false=>
     rw [if_neg (show¬false=true by decide)] at hR;rw [if_pos (by decide)] at hR;subst hR;rcases hO2 with ⟨rfl,rfl⟩ | t1;all_goals
      go_enter Tryz.func211,Tryz.ntmps211
      go_wp2_with (first
       |(go_at_call 44;with_reducible refine Cm (H19.out _) ?_)
       |(go_at_call 44;with_reducible refine Cm (H20.out _) ?_)
       |(go_at_call 44;with_reducible refine Cm (H21.out _) ?_)
       |(go_at_call 44;with_reducible refine Cm (H22.out _) ?_)
       |(go_at_call 235;(with_reducible refine (HL.out _ _ _ HS2.out).mono ?_);rintro e w5 ⟨rfl,hb⟩
         replace HK:=Bx (HK.out.step hb)
         (try clear q3 q8 c0 c1 z0 z1)
         obtain ⟨q3,q8,⟨c0,c1,z0,z1⟩,hlt,hbk⟩:=HK.out;clear hlt hbk hb)
       |(go_at_call 234;(with_reducible refine (HW.out _ _ _ HS1.out).mono ?_);rintro e w4 ⟨rfl,hb⟩
         replace HK:=Bx (HK.out.step hb)
         replace HS1:=Bx (HS1.out.below hb)
         replace HS2:=Bx (HS2.out.below hb)
         (try clear q3 q8 c0 c1 z0 z1)
         obtain ⟨q3,q8,⟨c0,c1,z0,z1⟩,hlt,hbk⟩:=HK.out;clear hlt hbk hb)
       |(go_at_call 102;(with_reducible refine (HF2.out _ HK.out.b).mono ?_);rintro e w3 ⟨b3,k3,rfl,hS,hb⟩
         replace HK:=Bx (HK.out.step hb)
         replace HS1:=Bx (HS1.out.below hb)
         have HS2:=Bx hS;clear hS
         (try clear q3 q8 c0 c1 z0 z1)
         obtain ⟨q3,q8,⟨c0,c1,z0,z1⟩,hlt,hbk⟩:=HK.out;clear hlt hbk hb)
       |(go_at_call 102;(with_reducible refine (HF1.out _ HK.out.b).mono ?_);rintro e w2 ⟨b2,k2,rfl,hS,hb⟩
         replace HK:=Bx (HK.out.step hb)
         have HS1:=Bx hS;clear hS
         (try clear q3 q8 c0 c1 z0 z1)
         obtain ⟨q3,q8,⟨c0,c1,z0,z1⟩,hlt,hbk⟩:=HK.out;clear hlt hbk hb)
       |(go_at_call 233;(with_reducible refine (HH.out _ HK0.out.b).mono ?_);rintro e w1 ⟨rfl,hb⟩
         have HK:=Bx (HK0.out.step hb)
         (try clear q3 q8 c0 c1 z0 z1)
         obtain ⟨q3,q8,⟨c0,c1,z0,z1⟩,hlt,hbk⟩:=HK.out;clear hlt hbk hb))
      obtain ⟨W,hW,⟨d0,d1,_,_⟩,hbW⟩:=Gb.put HK.out.f HK.out.b (Dc _) 0 0;rw [hW];exact bodyPost_ret (v:=ZT #[fr 0 0,ZZ ZS 501]) (by simp [results,Tryz.results211,go_sem,d0,d1]) rfl ⟨rfl,hbW⟩
   | true=>
     rw [if_pos (show true=true from rfl),if_neg (by decide),if_neg (by decide)] at hR;rcases hO2 with ⟨rfl,rfl⟩ | t1;all_goals
      have hcase:(le=0/\R=(1,ln,0))∨((le==0)=false/\R=(0,0,le)):=by exact XXELR
      clear hR;rcases hcase with ⟨rfl,rfl⟩ | ⟨tz,rfl⟩
      ·exact XXkmg
      ·exact XXXZf
 | true=>
   rw [if_neg (show¬true=false by decide)] at hR;by_cases hB:0<nC/\tw=false
   ·obtain ⟨h0,rfl⟩:=hB;rw [if_pos (show (decide (0<nC) && !false)=true by rw [decide_eq_true h0];rfl)] at hR
    have t2:((nC:Int)==0)=false:=beq_eq_false_iff_ne.2 (by omega);clear h0;cases lw with
    | false=>
      rw [if_neg (show¬false=true by decide)] at hR;rw [if_pos (by decide)] at hR;subst hR;rcases hO2 with ⟨rfl,rfl⟩ | t1;all_goals
       go_enter Tryz.func211,Tryz.ntmps211
       go_wp2_with (first
        |(go_at_call 44;with_reducible refine Cm (H19.out _) ?_)
        |(go_at_call 44;with_reducible refine Cm (H20.out _) ?_)
        |(go_at_call 44;with_reducible refine Cm (H21.out _) ?_)
        |(go_at_call 44;with_reducible refine Cm (H22.out _) ?_)
        |(go_at_call 235;(with_reducible refine (HL.out _ _ _ HS2.out).mono ?_);rintro e w5 ⟨rfl,hb⟩
          replace HK:=Bx (HK.out.step hb)
          (try clear q3 q8 c0 c1 z0 z1)
          obtain ⟨q3,q8,⟨c0,c1,z0,z1⟩,hlt,hbk⟩:=HK.out;clear hlt hbk hb)
        |(go_at_call 234;(with_reducible refine (HW.out _ _ _ HS1.out).mono ?_);rintro e w4 ⟨rfl,hb⟩
          replace HK:=Bx (HK.out.step hb)
          replace HS1:=Bx (HS1.out.below hb)
          replace HS2:=Bx (HS2.out.below hb)
          (try clear q3 q8 c0 c1 z0 z1)
          obtain ⟨q3,q8,⟨c0,c1,z0,z1⟩,hlt,hbk⟩:=HK.out;clear hlt hbk hb)
        |(go_at_call 102;(with_reducible refine (HF2.out _ HK.out.b).mono ?_);rintro e w3 ⟨b3,k3,rfl,hS,hb⟩
          replace HK:=Bx (HK.out.step hb)
          replace HS1:=Bx (HS1.out.below hb)
          have HS2:=Bx hS;clear hS
          (try clear q3 q8 c0 c1 z0 z1)
          obtain ⟨q3,q8,⟨c0,c1,z0,z1⟩,hlt,hbk⟩:=HK.out;clear hlt hbk hb)
        |(go_at_call 102;(with_reducible refine (HF1.out _ HK.out.b).mono ?_);rintro e w2 ⟨b2,k2,rfl,hS,hb⟩
          replace HK:=Bx (HK.out.step hb)
          have HS1:=Bx hS;clear hS
          (try clear q3 q8 c0 c1 z0 z1)
          obtain ⟨q3,q8,⟨c0,c1,z0,z1⟩,hlt,hbk⟩:=HK.out;clear hlt hbk hb)
        |(go_at_call 233;(with_reducible refine (HH.out _ HK0.out.b).mono ?_);rintro e w1 ⟨rfl,hb⟩
          have HK:=Bx (HK0.out.step hb)
          (try clear q3 q8 c0 c1 z0 z1)
          obtain ⟨q3,q8,⟨c0,c1,z0,z1⟩,hlt,hbk⟩:=HK.out;clear hlt hbk hb))
       obtain ⟨W,hW,⟨d0,d1,_,_⟩,hbW⟩:=Gb.put HK.out.f HK.out.b (Dc _) 0 0;rw [hW];exact bodyPost_ret (v:=ZT #[fr 0 0,ZZ ZS 400]) (by simp [results,Tryz.results211,go_sem,d0,d1]) rfl ⟨rfl,hbW⟩
    | true=>
      rw [if_pos (show true=true from rfl),if_neg (by decide),if_neg (by decide)] at hR;rcases hO2 with ⟨rfl,rfl⟩ | t1;all_goals
       have hcase:(le=0/\R=(1,ln,0))∨((le==0)=false/\R=(0,0,le)):=by exact XXELR
       clear hR;rcases hcase with ⟨rfl,rfl⟩ | ⟨tz,rfl⟩
       ·exact XXkmg
       ·exact XXXZf
   ·rw [if_neg (show¬(decide (0<nC) && !tw)=true by
     rintro h;rw [Ao,decide_eq_true_eq,Ay] at h
     exact hB h),if_neg (by decide),if_pos (show true=true from rfl)] at hR
    have hB2:(nC=0)∨(0<nC/\tw=true):=by
     rcases CZ nC with h | h
     ·exact .inl h
     ·right;cases tw
      ·exact absurd ⟨h,rfl⟩ hB
      ·exact ⟨h,rfl⟩
    clear hB;cases ch with
    | false=>
      rw [if_neg (by decide)] at hR;subst hR;rcases hO2 with ⟨rfl,rfl⟩ | t1<;>rcases hB2 with rfl | ⟨h0,rfl⟩;all_goals
       try (have t2:((nC:Int)==0)=false:=beq_eq_false_iff_ne.2 (by omega))
       go_enter Tryz.func211,Tryz.ntmps211
       go_wp2_with (first
        |(go_at_call 44;with_reducible refine Cm (H19.out _) ?_)
        |(go_at_call 44;with_reducible refine Cm (H20.out _) ?_)
        |(go_at_call 44;with_reducible refine Cm (H21.out _) ?_)
        |(go_at_call 44;with_reducible refine Cm (H22.out _) ?_)
        |(go_at_call 235;(with_reducible refine (HL.out _ _ _ HS2.out).mono ?_);rintro e w5 ⟨rfl,hb⟩
          replace HK:=Bx (HK.out.step hb)
          (try clear q3 q8 c0 c1 z0 z1)
          obtain ⟨q3,q8,⟨c0,c1,z0,z1⟩,hlt,hbk⟩:=HK.out;clear hlt hbk hb)
        |(go_at_call 234;(with_reducible refine (HW.out _ _ _ HS1.out).mono ?_);rintro e w4 ⟨rfl,hb⟩
          replace HK:=Bx (HK.out.step hb)
          replace HS1:=Bx (HS1.out.below hb)
          replace HS2:=Bx (HS2.out.below hb)
          (try clear q3 q8 c0 c1 z0 z1)
          obtain ⟨q3,q8,⟨c0,c1,z0,z1⟩,hlt,hbk⟩:=HK.out;clear hlt hbk hb)
        |(go_at_call 102;(with_reducible refine (HF2.out _ HK.out.b).mono ?_);rintro e w3 ⟨b3,k3,rfl,hS,hb⟩
          replace HK:=Bx (HK.out.step hb)
          replace HS1:=Bx (HS1.out.below hb)
          have HS2:=Bx hS;clear hS
          (try clear q3 q8 c0 c1 z0 z1)
          obtain ⟨q3,q8,⟨c0,c1,z0,z1⟩,hlt,hbk⟩:=HK.out;clear hlt hbk hb)
        |(go_at_call 102;(with_reducible refine (HF1.out _ HK.out.b).mono ?_);rintro e w2 ⟨b2,k2,rfl,hS,hb⟩
          replace HK:=Bx (HK.out.step hb)
          have HS1:=Bx hS;clear hS
          (try clear q3 q8 c0 c1 z0 z1)
          obtain ⟨q3,q8,⟨c0,c1,z0,z1⟩,hlt,hbk⟩:=HK.out;clear hlt hbk hb)
        |(go_at_call 233;(with_reducible refine (HH.out _ HK0.out.b).mono ?_);rintro e w1 ⟨rfl,hb⟩
          have HK:=Bx (HK0.out.step hb)
          (try clear q3 q8 c0 c1 z0 z1)
          obtain ⟨q3,q8,⟨c0,c1,z0,z1⟩,hlt,hbk⟩:=HK.out;clear hlt hbk hb))
       obtain ⟨W,hW,⟨d0,d1,_,_⟩,hbW⟩:=Gb.put HK.out.f HK.out.b (Dc _) 0 0;rw [hW];exact bodyPost_ret (v:=ZT #[fr 0 0,ZZ ZS 501]) (by simp [results,Tryz.results211,go_sem,d0,d1]) rfl ⟨rfl,hbW⟩
    | true=>
      rw [if_pos rfl] at hR;subst hR;rcases hO2 with ⟨rfl,rfl⟩ | t1<;>rcases hB2 with rfl | ⟨h0,rfl⟩;all_goals
       try (have t2:((nC:Int)==0)=false:=beq_eq_false_iff_ne.2 (by omega))
       go_enter Tryz.func211,Tryz.ntmps211
       go_wp2_with (first
        |(go_at_call 44;with_reducible refine Cm (H19.out _) ?_)
        |(go_at_call 44;with_reducible refine Cm (H20.out _) ?_)
        |(go_at_call 44;with_reducible refine Cm (H21.out _) ?_)
        |(go_at_call 44;with_reducible refine Cm (H22.out _) ?_)
        |(go_at_call 235;(with_reducible refine (HL.out _ _ _ HS2.out).mono ?_);rintro e w5 ⟨rfl,hb⟩
          replace HK:=Bx (HK.out.step hb)
          (try clear q3 q8 c0 c1 z0 z1)
          obtain ⟨q3,q8,⟨c0,c1,z0,z1⟩,hlt,hbk⟩:=HK.out;clear hlt hbk hb)
        |(go_at_call 234;(with_reducible refine (HW.out _ _ _ HS1.out).mono ?_);rintro e w4 ⟨rfl,hb⟩
          replace HK:=Bx (HK.out.step hb)
          replace HS1:=Bx (HS1.out.below hb)
          replace HS2:=Bx (HS2.out.below hb)
          (try clear q3 q8 c0 c1 z0 z1)
          obtain ⟨q3,q8,⟨c0,c1,z0,z1⟩,hlt,hbk⟩:=HK.out;clear hlt hbk hb)
        |(go_at_call 102;(with_reducible refine (HF2.out _ HK.out.b).mono ?_);rintro e w3 ⟨b3,k3,rfl,hS,hb⟩
          replace HK:=Bx (HK.out.step hb)
          replace HS1:=Bx (HS1.out.below hb)
          have HS2:=Bx hS;clear hS
          (try clear q3 q8 c0 c1 z0 z1)
          obtain ⟨q3,q8,⟨c0,c1,z0,z1⟩,hlt,hbk⟩:=HK.out;clear hlt hbk hb)
        |(go_at_call 102;(with_reducible refine (HF1.out _ HK.out.b).mono ?_);rintro e w2 ⟨b2,k2,rfl,hS,hb⟩
          replace HK:=Bx (HK.out.step hb)
          have HS1:=Bx hS;clear hS
          (try clear q3 q8 c0 c1 z0 z1)
          obtain ⟨q3,q8,⟨c0,c1,z0,z1⟩,hlt,hbk⟩:=HK.out;clear hlt hbk hb)
        |(go_at_call 233;(with_reducible refine (HH.out _ HK0.out.b).mono ?_);rintro e w1 ⟨rfl,hb⟩
          have HK:=Bx (HK0.out.step hb)
          (try clear q3 q8 c0 c1 z0 z1)
          obtain ⟨q3,q8,⟨c0,c1,z0,z1⟩,hlt,hbk⟩:=HK.out;clear hlt hbk hb))
       obtain ⟨W,hW,⟨d0,d1,_,_⟩,hbW⟩:=Gb.put HK.out.f HK.out.b (Dc _) 2 0;rw [hW];exact bodyPost_ret (v:=ZT #[fr 2 0,ZZ ZS 0]) (by simp [results,Tryz.results211,go_sem,d0,d1]) rfl ⟨rfl,hbW⟩
end
end Go.Proofs.YtdfabddnpgjepaaGreatDoor.Frm
namespace Go.Proofs.YtdfabddnpgjepaaGreatDoor.Par
open Go.RowKit Base Txt Mem
section
set_option maxHeartbeats 4000000
set_option maxRecDepth 20000
attribute [local go_sem] Am
variable {w:World} {B:Zone} {g q:Nat} {v f bd t o:Value} {p:Nat} {b:Bd} {s:S}
theorem XXAxS {P:Prop} (h:P:=by refine AP rfl (λev w1 hR hb hh=>?_);have e0:=hR.old 0 rfl;simp only [Ag,Cg,BY,BZ,Ds] at e0;have q0:=(HQ.out.below hb).c 0 _ rfl;have q1:=(HQ.out.below hb).c 1 _ rfl;have q2:=(HQ.out.below hb).c 2 _ rfl;have q3:=(HQ.out.below hb).c 3 _ rfl;have q4:=(HQ.out.below hb).c 4 _ rfl;have q5:=(HQ.out.below hb).c 5 _ rfl;have q6:=(HQ.out.below hb).c 6 _ rfl;have q7:=(HQ.out.below hb).c 7 _ rfl;have q8:=(HQ.out.below hb).c 8 _ rfl;have q9:=(HQ.out.below hb).c 9 _ rfl;have q10:=(HQ.out.below hb).c 10 _ rfl;have q15:=(HQ.out.below hb).c 15 _ rfl;have q16:=(HQ.out.below hb).c 16 _ rfl;exact Each.std):P:=h
theorem XXL5Q {P:Prop} (h:P:=by
 refine AP rfl (λev w1 hR hb hh=>?_);have e8:ev (.tmp 8)= _:=hh.at 0;have e12:ev (.tmp 12)= _:=hh.at 1;have e17:ev (.tmp 17)= _:=hh.at 2;have e22:ev (.tmp 22)= _:=hh.at 3;clear hh;have ef:=hR.func
 refine AG 211 #[ZZ ZQ (p:Int),ZU #[ZZ ZS b.x0,ZZ ZS b.x1,ZZ ZS b.x2,ZZ ZS b.x3,ZZ ZS b.x4,ZZ ZS b.x5,ZZ ZS b.x6,ZZ ZS b.x7,ZW b.ch,ZW b.od],ZZ ZS s.r.k,.slice bf s.r.fs.length cf] (by go_simp) ((HZ.out w1 hb).mono ?_);rintro r w2 ⟨rfl,hb2⟩
 exact ⟨_,rfl,hb2,rfl⟩):P:=h
theorem XX8YT {P:Prop} (h:P:=by
 go_wp2_with (go_at_call 115;with_reducible refine HFA.out.mono ?_;rintro r w3 ⟨rfl,hP,hS⟩);go_end0;first
  |exact ⟨rfl,_,_,_,_,_,_,hP,(DP HB.out).trans hS⟩
  |exact ⟨rfl,_,_,_,_,_,hP,(DP HB.out).trans hS⟩):P:=h
theorem over_any (hp:p<4294967296) (h3:16<=b.x3/\b.x3<=1048576) (h:PR w B g q v f bd t o p b s) (hn:s.r.fs.length<=500) (hs:∀y∈s.r.fs,y.1.size<=1000000/\y.2.size<=1000000) (hout:s.out.length<=1000000000):Calls EW 188 #[ptr g] w λr w'=>
 r=.returned (ZT #[])/\∃q1 v1 f1 bd1 t1 o1,PR w' B g q1 v1 f1 bd1 t1 o1 p b (s.over p b)/\Step (blks g q v f bd t o) (blks g q1 v1 f1 bd1 t1 o1) w w':=by
 obtain ⟨A,c,e,hv⟩:=Flds.of_own h.own.F;obtain ⟨bf,cf,eb, -⟩:=CT h.own.F;subst eb;simp only [Value.slice.injEq,true_and] at e;obtain ⟨rfl,rfl⟩:=e;have H:=Bx h
 have HQ:=Bx ((h.drew 1).bk)
 have hvd:=hv.below (Ak (An w.heap.size w) 1);have hz:=λw2 (hb:Below (w.drewN 1).heap.size (w.drewN 1) w2)=>Frm.rdecide_any p hp b.x0 b.x1 b.x2 b.x3 b.x4 b.x5 b.x6 b.x7 b.ch b.od (by omega) s.r.k _ _ cf s.r.fs w2 (hvd.below hb) hn hs;have HO:=Bx hout;clear h hn hs hout hv;rcases decide_facts (Frm.clOf p) b.ch b.x3 s.r.k s.r.fs with hD | ⟨n,hle,hD⟩ | ⟨e,he,hD⟩
 ·have HZ:=Bx (show∀w2,Below (w.drewN 1).heap.size (w.drewN 1) w2->Calls EW 211 #[ZZ ZQ (p:Int),ZU #[ZZ ZS b.x0,ZZ ZS b.x1,ZZ ZS b.x2,ZZ ZS b.x3,ZZ ZS b.x4,ZZ ZS b.x5,ZZ ZS b.x6,ZZ ZS b.x7,ZW b.ch,ZW b.od],ZZ ZS s.r.k,.slice bf s.r.fs.length cf] w2 λr w'=>r=.returned (ZT #[ZU #[ZZ ZS 2,ZZ ZS 0],ZZ ZS 0])/\Below w2.heap.size w2 w' from λw2 hb=>by have:=hz w2 hb;rw [hD] at this;exact this);have e:s.over p b={s with r:={s.r with ch:=true},st:=3,fresh:=true,rd:=nl p b.x0}:=by unfold S.over;rw [hD];rfl
  rw [e];clear hz hD e hvd;go_enter Tryz.func188,Tryz.ntmps188;go_upto_region 0 with fail
  go_cut [2,3] from 4 to 25 (λu c wx=>∃g2,u=ptr g2/\c=ZZ ZS 0/\Hid (Below w.heap.size w wx)/\Hid (D5 wx g2 [ZZ ZS 2,ZZ ZS 0])/\Hid (w.heap.size<=g2))
  case first=>
   refine Each.region_float 23 [5,6,7,8,9,10,11,12,13,14,15,16,17,18,19,20,21,22,23,4,24,25,2] [eP g 0,eP g 0,eP g 0,eQ (ZZ ZQ (p:Int)),eP g 0,eP g 0,eP g 1,eQ (ZU #[ZZ ZS b.x0,ZZ ZS b.x1,ZZ ZS b.x2,ZZ ZS b.x3,ZZ ZS b.x4,ZZ ZS b.x5,ZZ ZS b.x6,ZZ ZS b.x7,ZW b.ch,ZW b.od]),eP g 0,eP g 0,eP g 13,eP g 15,eQ (ZZ ZS s.r.k),eP g 0,eP g 0,eP g 13,eP g 16,eQ (.slice bf s.r.fs.length cf),eQ (ZT #[ZU #[ZZ ZS 2,ZZ ZS 0],ZZ ZS 0]),eQ (ZT #[ZU #[ZZ ZS 2,ZZ ZS 0],ZZ ZS 0]),eQ (ZU #[ZZ ZS 2,ZZ ZS 0]),eQ (ZZ ZS 0),λv u=>∃g2,v=ptr g2/\w.heap.size<=g2/\D5 u g2 [ZZ ZS 0,ZZ ZS 0]] [] 2 (some 21) (.act 23 (.quiet 24 .done)) (.quiet 21 (.act 23 (.quiet 24 .done))) (by kernel_rfl) (by kernel_rfl) (by kernel_rfl) (by kernel_rfl) (λk0 h=>by cases h;kernel_rfl) (λ_ _ d _ _ h=>by cases d<;>exact h) (by rfl) (by rfl) ⟨AK _,AK _,AK _,AK _,AK _,AK _,AK _,AK _,AK _,AK _,AK _,AK _,AK _,AK _,AK _,AK _,AK _,AK _,AK _,AK _,AK _,AK _,((λ_ _ _ hb h=>by obtain ⟨g2,e1,h1,hB⟩:=h;exact ⟨g2,e1,h1,hB.below hb⟩)),trivial⟩ trivial (by rfl) ?_ ?_ ?_
   ·refine ⟨?_,?_,?_,?_,?_,?_,?_,?_,?_,?_,?_,?_,?_,?_,?_,?_,?_,?_,?_,?_,?_,?_,?_,trivial⟩
    ·exact XXAxS
    ·exact XXAxS
    ·exact XXAxS
    ·exact XXAxS
    ·exact XXAxS
    ·exact XXAxS
    ·exact XXAxS
    ·exact XXAxS
    ·exact XXAxS
    ·exact XXAxS
    ·exact XXAxS
    ·exact XXAxS
    ·exact XXAxS
    ·exact XXAxS
    ·exact XXAxS
    ·exact XXAxS
    ·exact XXAxS
    ·exact XXAxS
    ·exact XXL5Q
    ·exact XXAxS
    ·exact XXAxS
    ·exact XXAxS
    ·exact XXEhL
   ·intro g1 w2 hb hf;have z4:g1 4= _:=hf.at 19;have z24:g1 24= _:=hf.at 20;have z25:g1 25= _:=hf.at 21;have z2:=hf.at 22;clear hf;obtain ⟨g2,e2,hg2,hB2⟩:=z2;simp only [AU,Ab,CH,CK,CJ];rw [z4,z24,z25,e2];simp only [Ee,Ef,BZ,BY];exact XXZHN
   ·intro k0 hk0 g1 w2 hb hf;cases hk0;have z4:g1 4= _:=hf.at 19;have z24:g1 24= _:=hf.at 20;have z2:=hf.at 22;clear hf;obtain ⟨g2,e2,hg2,hB2⟩:=z2;simp only [AU,Ab,CH,CK,CJ];rw [z4,z24,e2];simp only [Ee,Ef,BZ,BY];refine Eg (by rfl) (ZZ ZS 0) (λ_ _=>by go_simp) ?_;simp only [Ab,CH,CK,CJ];exact XXZHN
  case rest=>
  obtain ⟨g2,rfl,rfl,HB,HG,HG2⟩:=hcut
  have H1:=Bx (H.out.below HB.out);clear HQ;obtain ⟨W0,hW0⟩:∃x,x=wc:=⟨_,rfl⟩;subst hW0;have y0:=HG.out.c 0 _ rfl;have y1:=HG.out.c 1 _ rfl
  have H2:=Bx (((H1.out.put 17 (ZW true) {s with r:={s.r with ch:=true}} rfl rfl rfl rfl rfl rfl).put 11 (ZZ ZS 3) {s with r:={s.r with ch:=true},st:=3} rfl rfl rfl rfl rfl rfl).put 23 (ZW true) {s with r:={s.r with ch:=true},st:=3,fresh:=true} rfl rfl rfl rfl rfl rfl)
  have HS2:=Bx ((DP HB.out (L:=blks g q v (.slice bf s.r.fs.length cf) bd t o)).trans (((DS g 17 (ZW true) (by simp)).trans (DS g 11 (ZZ ZS 3) (by simp))).trans (DS g 23 (ZW true) (by simp))));have c11:=H1.out.cs.c11;have c17:=H1.out.cs.c17;have c23:=H1.out.cs.c23;have z11:=H1.out.marks 11;have z17:=H1.out.marks 17;have z23:=H1.out.marks 23;go_upto_region 6 with fail
  generalize ((W0.setCell ⟨g,17,none⟩ (ZW true)).setCell ⟨g,11,none⟩ (ZZ ZS 3)).setCell ⟨g,23,none⟩ (ZW true)=W1 at *;clear c11 c17 c23 z11 z17 z23 H1 HB HG y0 y1;obtain ⟨S1,hS1⟩:∃S1:S,{s with r:={s.r with ch:=true},st:=3,fresh:=true}=S1:=⟨_,rfl⟩;have HS1:=Bx hS1;rw [hS1] at H2;clear hS1
  have HQ:=Bx ((H2.out.drew 1).bk)
  have HBW:=Bx (show B<=(W1.drewN 1).heap.size from Dd H2.out.own.ge (Da (H2.out.drew 1).own.lt));refine Each.region 11 [57,58,59,60,61,62,63,64,65,66,67] [eP g 0,eP g 0,eP g 0,eP g 0,eQ (ZZ ZQ (p:Int)),eP g 0,eP g 0,eP g 1,eP g 1,eQ (ZZ ZS b.x0),λv w=>∃q1,v=ptr q1/\W1.heap.size<=q1/\Ln.Rr w B q1 nil p (nl p (b.x0))] (.quiet 11 (.quiet 12 (.act 13 .done))) (by kernel_rfl) (by kernel_rfl) (by kernel_rfl) (by kernel_rfl) (λ_ _ d _ _ h=>by cases d<;>exact h) (by rfl) (by rfl) ⟨AK _,AK _,AK _,AK _,AK _,AK _,AK _,AK _,AK _,AK _,((λ_ _ _ hb h=>by obtain ⟨q1,e1,h1,h2⟩:=h;exact ⟨q1,e1,h1,rr_below h2 hb⟩)),trivial⟩ ?_ ?_
  ·refine ⟨?_,?_,?_,?_,?_,?_,?_,?_,?_,?_,?_,trivial⟩
   ·exact XXSdZ
   ·exact XXSdZ
   ·exact XXSdZ
   ·exact XXSdZ
   ·exact XXSdZ
   ·exact XXSdZ
   ·exact XXSdZ
   ·exact XXSdZ
   ·exact XXSdZ
   ·exact XXSdZ
   ·refine AP rfl (λev w1 hR hb hh=>?_);have e61:ev (.tmp 61)= _:=hh.at 0;have e66:ev (.tmp 66)= _:=hh.at 1;exact XXJwx
  intro g1 w2 hb hf;have z57:g1 57= _:=hf.at 0;have z67:=hf.at 10;clear hf;obtain ⟨q1,e1,hq1,hr1⟩:=z67;simp only [AU,Ab,CH,CK,CJ];rw [e1,z57];simp only [Ee,Ef,BZ,BY];refine Eg (by rfl) (ptr g) (λ_ _=>by go_simp) ?_;simp only [Ab,CH,CK,CJ];refine Eg (by rfl) (ZV (some ⟨g,12,none⟩)) (λ_ _=>by go_simp) ?_;simp only [Ab,CH,CK,CJ];have c12:=(H2.out.below hb).cs.c12;have z12:=(H2.out.below hb).marks 12
  refine Ec (by rfl) (λK hK=>?_);go_simp;refine hK _ _ trivial ?_;clear hK K;refine Ed ?_;have HL:=H2.out.line hb hr1 hq1
  have SL:=(Step.line (g:=g) (q:=q) (v:=v) (f:=(.slice bf s.r.fs.length cf)) (bd:=bd) (t:=t) (o:=o) hb hq1).trans (DS g 12 (ptr q1) (by simp));clear HQ HBW hr1 hq1 c12 z12;rw [←HS1.out] at HL;go_wp2;go_end0;exact ⟨rfl,q1,_,_,_,_,_,HL,HS2.out.trans SL⟩
 ·have HZ:=Bx (show∀w2,Below (w.drewN 1).heap.size (w.drewN 1) w2->Calls EW 211 #[ZZ ZQ (p:Int),ZU #[ZZ ZS b.x0,ZZ ZS b.x1,ZZ ZS b.x2,ZZ ZS b.x3,ZZ ZS b.x4,ZZ ZS b.x5,ZZ ZS b.x6,ZZ ZS b.x7,ZW b.ch,ZW b.od],ZZ ZS s.r.k,.slice bf s.r.fs.length cf] w2 λr w'=>r=.returned (ZT #[ZU #[ZZ ZS 1,ZZ ZS (n:Int)],ZZ ZS 0])/\Below w2.heap.size w2 w' from λw2 hb=>by have:=hz w2 hb;rw [hD] at this;exact this);rcases CZ n with hn | hn
  ·subst hn
   have HZ:=Bx (show∀w2,Below (w.drewN 1).heap.size (w.drewN 1) w2->Calls EW 211 #[ZZ ZQ (p:Int),ZU #[ZZ ZS b.x0,ZZ ZS b.x1,ZZ ZS b.x2,ZZ ZS b.x3,ZZ ZS b.x4,ZZ ZS b.x5,ZZ ZS b.x6,ZZ ZS b.x7,ZW b.ch,ZW b.od],ZZ ZS s.r.k,.slice bf s.r.fs.length cf] w2 λe w'=>e=.returned (ZT #[ZU #[ZZ ZS 1,ZZ ZS 0],ZZ ZS 0])/\Below w2.heap.size w2 w' from λw2 hb=>HZ.out w2 hb);have e:s.over p b=s.whole p b:=by unfold S.over;rw [hD];rfl
   rw [e];clear hz hD e hvd hle;go_enter Tryz.func188,Tryz.ntmps188;go_upto_region 0 with fail
   go_cut [2,3] from 4 to 25 (λu c wx=>∃g2,u=ptr g2/\c=ZZ ZS 0/\Hid (Below w.heap.size w wx)/\Hid (D5 wx g2 [ZZ ZS 1,ZZ ZS 0])/\Hid (w.heap.size<=g2))
   case first=>
    refine Each.region_float 23 [5,6,7,8,9,10,11,12,13,14,15,16,17,18,19,20,21,22,23,4,24,25,2] [eP g 0,eP g 0,eP g 0,eQ (ZZ ZQ (p:Int)),eP g 0,eP g 0,eP g 1,eQ (ZU #[ZZ ZS b.x0,ZZ ZS b.x1,ZZ ZS b.x2,ZZ ZS b.x3,ZZ ZS b.x4,ZZ ZS b.x5,ZZ ZS b.x6,ZZ ZS b.x7,ZW b.ch,ZW b.od]),eP g 0,eP g 0,eP g 13,eP g 15,eQ (ZZ ZS s.r.k),eP g 0,eP g 0,eP g 13,eP g 16,eQ (.slice bf s.r.fs.length cf),eQ (ZT #[ZU #[ZZ ZS 1,ZZ ZS 0],ZZ ZS 0]),eQ (ZT #[ZU #[ZZ ZS 1,ZZ ZS 0],ZZ ZS 0]),eQ (ZU #[ZZ ZS 1,ZZ ZS 0]),eQ (ZZ ZS 0),λv u=>∃g2,v=ptr g2/\w.heap.size<=g2/\D5 u g2 [ZZ ZS 0,ZZ ZS 0]] [] 2 (some 21) (.act 23 (.quiet 24 .done)) (.quiet 21 (.act 23 (.quiet 24 .done))) (by kernel_rfl) (by kernel_rfl) (by kernel_rfl) (by kernel_rfl) (λk0 h=>by cases h;kernel_rfl) (λ_ _ d _ _ h=>by cases d<;>exact h) (by rfl) (by rfl) ⟨AK _,AK _,AK _,AK _,AK _,AK _,AK _,AK _,AK _,AK _,AK _,AK _,AK _,AK _,AK _,AK _,AK _,AK _,AK _,AK _,AK _,AK _,((λ_ _ _ hb h=>by obtain ⟨g2,e1,h1,hB⟩:=h;exact ⟨g2,e1,h1,hB.below hb⟩)),trivial⟩ trivial (by rfl) ?_ ?_ ?_
    ·refine ⟨?_,?_,?_,?_,?_,?_,?_,?_,?_,?_,?_,?_,?_,?_,?_,?_,?_,?_,?_,?_,?_,?_,?_,trivial⟩
     ·exact XXAxS
     ·exact XXAxS
     ·exact XXAxS
     ·exact XXAxS
     ·exact XXAxS
     ·exact XXAxS
     ·exact XXAxS
     ·exact XXAxS
     ·exact XXAxS
     ·exact XXAxS
     ·exact XXAxS
     ·exact XXAxS
     ·exact XXAxS
     ·exact XXAxS
     ·exact XXAxS
     ·exact XXAxS
     ·exact XXAxS
     ·exact XXAxS
     ·exact XXL5Q
     ·exact XXAxS
     ·exact XXAxS
     ·exact XXAxS
     ·exact XXEhL
    ·intro g1 w2 hb hf;have z4:g1 4= _:=hf.at 19;have z24:g1 24= _:=hf.at 20;have z25:g1 25= _:=hf.at 21;have z2:=hf.at 22;clear hf;obtain ⟨g2,e2,hg2,hB2⟩:=z2;simp only [AU,Ab,CH,CK,CJ];rw [z4,z24,z25,e2];simp only [Ee,Ef,BZ,BY];exact XX4U6
    ·intro k0 hk0 g1 w2 hb hf;cases hk0;have z4:g1 4= _:=hf.at 19;have z24:g1 24= _:=hf.at 20;have z2:=hf.at 22;clear hf;obtain ⟨g2,e2,hg2,hB2⟩:=z2;simp only [AU,Ab,CH,CK,CJ];rw [z4,z24,e2];simp only [Ee,Ef,BZ,BY];refine Eg (by rfl) (ZZ ZS 0) (λ_ _=>by go_simp) ?_;simp only [Ab,CH,CK,CJ];exact XX4U6
   case rest=>
   obtain ⟨g2,rfl,rfl,HB,HG,HG2⟩:=hcut
   have H1:=Bx (H.out.below HB.out);clear HQ;obtain ⟨W0,hW0⟩:∃x,x=wc:=⟨_,rfl⟩;subst hW0;have y0:=HG.out.c 0 _ rfl;have y1:=HG.out.c 1 _ rfl
   have HW:=Bx (whole_any H1.out HO.out)
   go_wp2_with (go_at_call 158;with_reducible refine HW.out.mono ?_;rintro r w3 ⟨rfl,q1,o1,hP,hS⟩);go_end0;exact ⟨rfl,q1,_,_,_,_,o1,hP,(DP HB.out).trans hS⟩
  ·have tz:¬(n:Int)=0:=by omega
   have tz':((n:Int)==0)=false:=beq_eq_false_iff_ne.2 tz;have e:s.over p b={s with st:=2,left:=n,fresh:=true}:=by unfold S.over;rw [hD];show (if (0:Int)≠0 then _ else if (1:Int)=2 then _ else if (n:Int)=0 then _ else ({s with st:=2,left:=(n:Int).toNat,fresh:=true}:S))= _;rw [if_neg (by decide),if_neg (by decide),if_neg tz,Int.toNat_natCast]
   rw [e];clear hz hD e hvd hle hn;go_enter Tryz.func188,Tryz.ntmps188;go_upto_region 0 with fail
   go_cut [2,3] from 4 to 25 (λu c wx=>∃g2,u=ptr g2/\c=ZZ ZS 0/\Hid (Below w.heap.size w wx)/\Hid (D5 wx g2 [ZZ ZS 1,ZZ ZS (n:Int)])/\Hid (w.heap.size<=g2))
   case first=>
    refine Each.region_float 23 [5,6,7,8,9,10,11,12,13,14,15,16,17,18,19,20,21,22,23,4,24,25,2] [eP g 0,eP g 0,eP g 0,eQ (ZZ ZQ (p:Int)),eP g 0,eP g 0,eP g 1,eQ (ZU #[ZZ ZS b.x0,ZZ ZS b.x1,ZZ ZS b.x2,ZZ ZS b.x3,ZZ ZS b.x4,ZZ ZS b.x5,ZZ ZS b.x6,ZZ ZS b.x7,ZW b.ch,ZW b.od]),eP g 0,eP g 0,eP g 13,eP g 15,eQ (ZZ ZS s.r.k),eP g 0,eP g 0,eP g 13,eP g 16,eQ (.slice bf s.r.fs.length cf),eQ (ZT #[ZU #[ZZ ZS 1,ZZ ZS (n:Int)],ZZ ZS 0]),eQ (ZT #[ZU #[ZZ ZS 1,ZZ ZS (n:Int)],ZZ ZS 0]),eQ (ZU #[ZZ ZS 1,ZZ ZS (n:Int)]),eQ (ZZ ZS 0),λv u=>∃g2,v=ptr g2/\w.heap.size<=g2/\D5 u g2 [ZZ ZS 0,ZZ ZS 0]] [] 2 (some 21) (.act 23 (.quiet 24 .done)) (.quiet 21 (.act 23 (.quiet 24 .done))) (by kernel_rfl) (by kernel_rfl) (by kernel_rfl) (by kernel_rfl) (λk0 h=>by cases h;kernel_rfl) (λ_ _ d _ _ h=>by cases d<;>exact h) (by rfl) (by rfl) ⟨AK _,AK _,AK _,AK _,AK _,AK _,AK _,AK _,AK _,AK _,AK _,AK _,AK _,AK _,AK _,AK _,AK _,AK _,AK _,AK _,AK _,AK _,((λ_ _ _ hb h=>by obtain ⟨g2,e1,h1,hB⟩:=h;exact ⟨g2,e1,h1,hB.below hb⟩)),trivial⟩ trivial (by rfl) ?_ ?_ ?_
    ·refine ⟨?_,?_,?_,?_,?_,?_,?_,?_,?_,?_,?_,?_,?_,?_,?_,?_,?_,?_,?_,?_,?_,?_,?_,trivial⟩
     ·exact XXAxS
     ·exact XXAxS
     ·exact XXAxS
     ·exact XXAxS
     ·exact XXAxS
     ·exact XXAxS
     ·exact XXAxS
     ·exact XXAxS
     ·exact XXAxS
     ·exact XXAxS
     ·exact XXAxS
     ·exact XXAxS
     ·exact XXAxS
     ·exact XXAxS
     ·exact XXAxS
     ·exact XXAxS
     ·exact XXAxS
     ·exact XXAxS
     ·exact XXL5Q
     ·exact XXAxS
     ·exact XXAxS
     ·exact XXAxS
     ·exact XXEhL
    ·intro g1 w2 hb hf;have z4:g1 4= _:=hf.at 19;have z24:g1 24= _:=hf.at 20;have z25:g1 25= _:=hf.at 21;have z2:=hf.at 22;clear hf;obtain ⟨g2,e2,hg2,hB2⟩:=z2;simp only [AU,Ab,CH,CK,CJ];rw [z4,z24,z25,e2];simp only [Ee,Ef,BZ,BY];exact XXsvP
    ·intro k0 hk0 g1 w2 hb hf;cases hk0;have z4:g1 4= _:=hf.at 19;have z24:g1 24= _:=hf.at 20;have z2:=hf.at 22;clear hf;obtain ⟨g2,e2,hg2,hB2⟩:=z2;simp only [AU,Ab,CH,CK,CJ];rw [z4,z24,e2];simp only [Ee,Ef,BZ,BY];refine Eg (by rfl) (ZZ ZS 0) (λ_ _=>by go_simp) ?_;simp only [Ab,CH,CK,CJ];exact XXsvP
   case rest=>
   obtain ⟨g2,rfl,rfl,HB,HG,HG2⟩:=hcut
   have H1:=Bx (H.out.below HB.out);clear HQ;obtain ⟨W0,hW0⟩:∃x,x=wc:=⟨_,rfl⟩;subst hW0;have y0:=HG.out.c 0 _ rfl;have y1:=HG.out.c 1 _ rfl
   have H2:=Bx (((H1.out.put 11 (ZZ ZS 2) {s with st:=2} rfl rfl rfl rfl rfl rfl).put 22 (ZZ ZS (n:Int)) {s with st:=2,left:=n} rfl rfl rfl rfl rfl rfl).put 23 (ZW true) {s with st:=2,left:=n,fresh:=true} rfl rfl rfl rfl rfl rfl);have c11:=H1.out.cs.c11;have c22:=H1.out.cs.c22;have c23:=H1.out.cs.c23;have z11:=H1.out.marks 11;have z22:=H1.out.marks 22;have z23:=H1.out.marks 23
   have HS2:=Bx ((DP HB.out (L:=blks g q v (.slice bf s.r.fs.length cf) bd t o)).trans (((DS g 11 (ZZ ZS 2) (by simp)).trans (DS g 22 (ZZ ZS (n:Int)) (by simp))).trans (DS g 23 (ZW true) (by simp))));have hne:¬g2=g:=by have h1:=H.out.own.lt;have h2:=HG2.out;omega
   have hne':¬g=g2:=λe=>hne e.symm;clear H1;go_upto_region 1 with fail
   go_region
   have H3:=Bx (H2.out.drew 1);have HS3:=Bx (HS2.out.trans (DP (Ak (An _ _) 1)));clear c11 c22 c23 z11 z22 z23 H2 HS2;go_wp2;go_end0;exact ⟨rfl,_,_,_,_,_,_,H3.out,HS3.out⟩
 ·have HZ:=Bx (show∀w2,Below (w.drewN 1).heap.size (w.drewN 1) w2->Calls EW 211 #[ZZ ZQ (p:Int),ZU #[ZZ ZS b.x0,ZZ ZS b.x1,ZZ ZS b.x2,ZZ ZS b.x3,ZZ ZS b.x4,ZZ ZS b.x5,ZZ ZS b.x6,ZZ ZS b.x7,ZW b.ch,ZW b.od],ZZ ZS s.r.k,.slice bf s.r.fs.length cf] w2 λr w'=>r=.returned (ZT #[ZU #[ZZ ZS 0,ZZ ZS 0],ZZ ZS (e:Int)])/\Below w2.heap.size w2 w' from λw2 hb=>by have:=hz w2 hb;rw [hD] at this;exact this);have tz:¬(e:Int)=0:=by omega
  have tz':((e:Int)==0)=false:=beq_eq_false_iff_ne.2 tz;have e1:s.over p b=s.fail e:=by unfold S.over;rw [hD];show (if (e:Int)≠0 then s.fail (e:Int).toNat else _)= _;rw [if_pos tz,Int.toNat_natCast]
  rw [e1];clear hz hD e1 hvd he;go_enter Tryz.func188,Tryz.ntmps188;go_upto_region 0 with fail
  go_cut [2,3] from 4 to 25 (λu c wx=>∃g2,u=ptr g2/\c=ZZ ZS (e:Int)/\Hid (Below w.heap.size w wx)/\Hid (D5 wx g2 [ZZ ZS 0,ZZ ZS 0])/\Hid (w.heap.size<=g2))
  case first=>
   refine Each.region_float 23 [5,6,7,8,9,10,11,12,13,14,15,16,17,18,19,20,21,22,23,4,24,25,2] [eP g 0,eP g 0,eP g 0,eQ (ZZ ZQ (p:Int)),eP g 0,eP g 0,eP g 1,eQ (ZU #[ZZ ZS b.x0,ZZ ZS b.x1,ZZ ZS b.x2,ZZ ZS b.x3,ZZ ZS b.x4,ZZ ZS b.x5,ZZ ZS b.x6,ZZ ZS b.x7,ZW b.ch,ZW b.od]),eP g 0,eP g 0,eP g 13,eP g 15,eQ (ZZ ZS s.r.k),eP g 0,eP g 0,eP g 13,eP g 16,eQ (.slice bf s.r.fs.length cf),eQ (ZT #[ZU #[ZZ ZS 0,ZZ ZS 0],ZZ ZS (e:Int)]),eQ (ZT #[ZU #[ZZ ZS 0,ZZ ZS 0],ZZ ZS (e:Int)]),eQ (ZU #[ZZ ZS 0,ZZ ZS 0]),eQ (ZZ ZS (e:Int)),λv u=>∃g2,v=ptr g2/\w.heap.size<=g2/\D5 u g2 [ZZ ZS 0,ZZ ZS 0]] [] 2 (some 21) (.act 23 (.quiet 24 .done)) (.quiet 21 (.act 23 (.quiet 24 .done))) (by kernel_rfl) (by kernel_rfl) (by kernel_rfl) (by kernel_rfl) (λk0 h=>by cases h;kernel_rfl) (λ_ _ d _ _ h=>by cases d<;>exact h) (by rfl) (by rfl) ⟨AK _,AK _,AK _,AK _,AK _,AK _,AK _,AK _,AK _,AK _,AK _,AK _,AK _,AK _,AK _,AK _,AK _,AK _,AK _,AK _,AK _,AK _,((λ_ _ _ hb h=>by obtain ⟨g2,e1,h1,hB⟩:=h;exact ⟨g2,e1,h1,hB.below hb⟩)),trivial⟩ trivial (by rfl) ?_ ?_ ?_
   ·refine ⟨?_,?_,?_,?_,?_,?_,?_,?_,?_,?_,?_,?_,?_,?_,?_,?_,?_,?_,?_,?_,?_,?_,?_,trivial⟩
    ·exact XXAxS
    ·exact XXAxS
    ·exact XXAxS
    ·exact XXAxS
    ·exact XXAxS
    ·exact XXAxS
    ·exact XXAxS
    ·exact XXAxS
    ·exact XXAxS
    ·exact XXAxS
    ·exact XXAxS
    ·exact XXAxS
    ·exact XXAxS
    ·exact XXAxS
    ·exact XXAxS
    ·exact XXAxS
    ·exact XXAxS
    ·exact XXAxS
    ·exact XXL5Q
    ·exact XXAxS
    ·exact XXAxS
    ·exact XXAxS
    ·exact XXEhL
   ·intro g1 w2 hb hf;have z4:g1 4= _:=hf.at 19;have z24:g1 24= _:=hf.at 20;have z25:g1 25= _:=hf.at 21;have z2:=hf.at 22;clear hf;obtain ⟨g2,e2,hg2,hB2⟩:=z2;simp only [AU,Ab,CH,CK,CJ];rw [z4,z24,z25,e2];simp only [Ee,Ef,BZ,BY];exact XX0H4
   ·intro k0 hk0 g1 w2 hb hf;cases hk0;have z4:g1 4= _:=hf.at 19;have z24:g1 24= _:=hf.at 20;have z2:=hf.at 22;clear hf;obtain ⟨g2,e2,hg2,hB2⟩:=z2;simp only [AU,Ab,CH,CK,CJ];rw [z4,z24,e2];simp only [Ee,Ef,BZ,BY];refine Eg (by rfl) (ZZ ZS (e:Int)) (λ_ _=>by go_simp) ?_;simp only [Ab,CH,CK,CJ];exact XX0H4
  case rest=>
  obtain ⟨g2,rfl,rfl,HB,HG,HG2⟩:=hcut
  have H1:=Bx (H.out.below HB.out);clear HQ;obtain ⟨W0,hW0⟩:∃x,x=wc:=⟨_,rfl⟩;subst hW0;have y0:=HG.out.c 0 _ rfl;have y1:=HG.out.c 1 _ rfl
  have HFA:=Bx (fail_any H1.out e);exact XX8YT
end
end Go.Proofs.YtdfabddnpgjepaaGreatDoor.Par
